import PyProof.Rows.All
import Wide.All
import OpenK.AllK
import Wide.FinOn
import Lean
import PyProof.EqAt
import PyProof.EqKinds
import PyProof.TupleCall
import PyProof.ReprRoads
import PyProof.ReprBulk
import PyProof.Rows.RegStrFacts
import PyProof.StrBlockH
import PyProof.FitsBits
import KE.KTurns
import PyProof.NeKinds
import KE.KNest
import KE.KSortKey
import PyProof.ListRange
import PyProof.Rows.SortWalk
import KE.KListMore
import PySem.Challenge.RW_bestheads_k97_whole_layers_and_few
set_option exponentiation.threshold 6000
set_option Elab.async false
set_option linter.all false
set_option maxRecDepth 100000
set_option maxHeartbeats 4000000
section
namespace L2
open PySem PySem.Spec PyProof.Rows
noncomputable abbrev Key:=Sum Int Str
noncomputable def atn:Key->Value->Bool
 |.inl k,v=>Value.isInt k v
 |.inr x,v=>Value.isStrOf x v
noncomputable def azs(w:World):Key->Int
 |.inl k=>hashInt k
 |.inr x=>hashStr w x
theorem abU:∀{k:Key} {v:Value},atn k v=true->(∃i t,k=Sum.inl i/\v=Value.int i t)\/(∃x t,k=Sum.inr x/\v=Value.str x t)
 |.inl i,v,h=>by
  obtain⟨t,e⟩:=Value.isInt_shape (k:=i) (v:=v) h
  exact .inl ⟨i,t,rfl,e⟩
 |.inr x,v,h=>by
  obtain⟨t,e⟩:=Value.isStrOf_shape (x:=x) (v:=v) h
  exact .inr ⟨x,t,rfl,e⟩
theorem ato(a b:Int):decide ((Sum.inl a:Key)=Sum.inl b)=(a == b):=by
 by_cases e:a=b
 ·subst e; simp
 ·have h:¬(Sum.inl a:Key)=Sum.inl b:=λq=>e (Sum.inl.inj q)
  rw[decide_eq_false h]
  exact(beq_eq_false_iff_ne.mpr e).symm
theorem atp(a b:Str):decide ((Sum.inr a:Key)=Sum.inr b)=decide (a=b):=by
 by_cases e:a=b
 ·subst e; simp
 ·have h:¬(Sum.inr a:Key)=Sum.inr b:=λq=>e (Sum.inr.inj q)
  rw[decide_eq_false h,decide_eq_false e]
theorem atq(a:Int)(b:Str):decide ((Sum.inl a:Key)=Sum.inr b)=false:=decide_eq_false (λq=>nomatch q)
theorem atr(a:Str)(b:Int):decide ((Sum.inr a:Key)=Sum.inl b)=false:=decide_eq_false (λq=>nomatch q)
noncomputable def akh(prog:Program)(w:World):PySem.KeyKind prog w Key where
 is:=atn
 hash:=azs w
 inj:=λv a b ha hb=>by
  rcases abU ha with⟨i,t,rfl,rfl⟩|⟨x,t,rfl,rfl⟩
  ·rcases abU hb with⟨j,u,rfl,e⟩|⟨y,u,rfl,e⟩
   ·injection e with e1 _; rw[e1]
   ·exact nomatch e
  ·rcases abU hb with⟨j,u,rfl,e⟩|⟨y,u,rfl,e⟩
   ·exact nomatch e
   ·injection e with e1 _; rw[e1]
 byValue:=λk v h=>by
  rcases abU h with⟨i,t,rfl,rfl⟩|⟨x,t,rfl,rfl⟩ <;> rfl
 pyHash:=λhv h=>by
  rcases abU hv with⟨i,t,rfl,rfl⟩|⟨x,t,rfl,rfl⟩
  ·exact wpAny_pyHash_int h
  ·exact wpAny_pyHash_str h
 eqBool:=λhu hv h=>by
  rcases abU hu with⟨i,t,rfl,rfl⟩|⟨x,t,rfl,rfl⟩
  ·rcases abU hv with⟨j,u,rfl,rfl⟩|⟨y,u,rfl,rfl⟩
   ·rw[ato]at h; exact wpAny_eqBool_int h
   ·rw[atq]at h; exact SeqAt.EqAt.int_str i t y u _ _ _ _ h
  ·rcases abU hv with⟨j,u,rfl,rfl⟩|⟨y,u,rfl,rfl⟩
   ·rw[atr]at h; exact SeqAt.EqAt.str_int x t j u _ _ _ _ h
   ·rw[atp]at h; exact wpAny_eqBool_str h
 «strs» := λk x t v h=>by
  rcases abU h with⟨i,u,rfl,e⟩|⟨y,u,rfl,e⟩
  ·exact nomatch e
  ·injection e with e1 _
   subst e1
   cases v <;> rfl
end L2
namespace L2
open PySem PySem.Spec PyProof.Rows
inductive V where
 |non|bl (b:Bool)|int (i:Int)|str (x:Str)|byt (b:Array UInt8)|flt (b:UInt64)|ref (a:Addr)|ty (n:String)
 deriving DecidableEq
noncomputable def RelV:V->Value->Prop
 |.non,u=>u=Value.none
 |.bl b,u=>u=Value.bool b
 |.int i,u=>∃t,u=Value.int i t
 |.str x,u=>∃t,u=Value.str x t
 |.byt b,u=>∃t,u=Value.bytes b t
 |.flt b,u=>∃t,u=Value.float b t
 |.ref a,u=>u=Value.ref a
 |.ty n,u=>u=Value.type n
noncomputable abbrev Vals:List V->List Value->Prop:=Paired RelV
theorem Vals.length{xs:List V}{us:List Value}(r:Vals xs us):xs.length=us.length:=Paired.length r
theorem Vals.get:∀{xs:List V} {us:List Value} {i:Nat} {x:V},Vals xs us->xs[i]?=some x->∃u,us[i]?=some u/\RelV x u
 |_,_,_,_,.nil,e=>by simp at e
 |_,_,0,_,.cons r _,e=>by simp at e; subst e; exact⟨_,rfl,r⟩
 |_,_,i+1,x,.cons _ t,e=>by
  obtain⟨u,h1,h2⟩:=Vals.get (i:=i) (x:=x) t (by simpa using e)
  exact⟨u,by simpa using h1,h2⟩
theorem Vals.set{x:V}{u:Value}(r:RelV x u):∀{xs:List V} {us:List Value} (i:Nat),Vals xs us->Vals (xs.set i x) (us.set i u)
 |_,_,_,.nil=>.nil
 |_,_,0,.cons _ t=>.cons r t
 |_,_,i+1,.cons q t=>.cons q (Vals.set r i t)
theorem Vals.append:∀{xs ys:List V} {us ws:List Value},Vals xs us->Vals ys ws->Vals (xs++ys) (us++ws)
 |_,_,_,_,.nil,s=>s
 |_,_,_,_,.cons r t,s=>.cons r (Vals.append t s)
theorem Vals.take:∀{xs:List V} {us:List Value} (n:Nat),Vals xs us->Vals (xs.take n) (us.take n)
 |_,_,0,_=>.nil
 |_,_,_+1,.nil=>.nil
 |_,_,n+1,.cons r t=>.cons r (Vals.take n t)
theorem Vals.drop:∀{xs:List V} {us:List Value} (n:Nat),Vals xs us->Vals (xs.drop n) (us.drop n)
 |_,_,0,r=>r
 |_,_,_+1,.nil=>.nil
 |_,_,n+1,.cons _ t=>Vals.drop n t
noncomputable def ayH:Option V->Option Value->Prop
 |some v,some u=>RelV v u
 |none,none=>True
 |_,_=>False
noncomputable def KV{κ : Type}:List (κ × V)->List (κ × Value)->Prop:=Paired λ(p : κ × V) (q : κ × Value)=>p.1=q.1/\RelV p.2 q.2
noncomputable def kV:Key->V
 |.inl i=>.int i
 |.inr x=>.str x
inductive HO where
 |lst (xs:List V)
 |tup (xs:List V)
 |dK (kvs:List (Key × V))|dT (kvs:List (List Key × V))
 |set (S:Int->Bool) (n:Nat)
 |ins (C dx:Addr) (fs:List (Str × V))
 |own (x:Addr)
 |xd (fs:List (Str × V))
 |met (f x:Addr)
 |rng (lo hi:Int)
 |frz (o:Obj) (u:HO)
 |tbl (ps:Array Value)
 |ext (φ : Heap->Prop)
noncomputable abbrev Hp:=Addr->Option HO
noncomputable def upd(H:Hp)(a:Addr)(o:HO):Hp:=λb=>if b=a then some o else H b
theorem abj{H:Hp}{a:Addr}{o:HO}:upd H a o a=some o:=by unfold upd; rw[if_pos rfl]
theorem aaG{H:Hp}{a b:Addr}{o:HO}(h:b≠a):upd H a o b=H b:=by unfold upd; rw[if_neg h]
theorem aaW{H:Hp}{a b:Addr}{o:HO}(h:H a=some o)(h':H b=none):a≠b:=by
 intro e; subst e; rw[h]at h'; cases h'
section
variable (P:Program)(w:World)
noncomputable def afM(H:Hp)(h:Heap)(a:Addr):HO->Prop
 |.lst xs=>xs.length<=sizeLine/\∃(its:List Value) (n:Nat),Vals xs its/\h.get? a=some {cls:=.type "list",data:=.seq its.toArray n }
 |.tup xs=>xs.length<=sizeLine/\∃its:List Value,Vals xs its/\IsTup h a its.toArray
 |.dK kvs=>kvs.length<=sizeLine/\(a == sysModules)=false/\∃vs,KV kvs vs/\h.DictOf (akh P w) a vs
 |.dT kvs=>kvs.length<=sizeLine/\(a == sysModules)=false/\∃xs:List (List Key × Addr × Value),
   Paired (λ(p:List Key × V) (q:List Key × Addr × Value)=>p.1=q.1/\H q.2.1=some (.tup (p.1.map kV))/\RelV p.2 q.2.2) kvs xs /\
   ∃o es ep,h.get? a=some o/\o.ExactDict/\o.data=.dict es ep/\es.toList=xs.map (entryOfKey (tupleKind (akh P w)))/\(xs.map (·.1)).Nodup
 |.set S n=>h.SetOf (intKind P w) a S n
 |.ins C dx fs=>H dx=some (.own a)/\fs.length<=1000/\dx≠a/\h.get? a=some (PySem.W.instObj C dx) /\
   ∃mA,h.Ns1 dx mA/\(∀f,ayH (fs.lookup f) (mA f))/\PySem.Within mA (fs.map (·.1))
 |.own _=>∃o,h.get? a=some o
 |.xd fs=>∃mA,h.Ns1 a mA/\∀f,ayH (fs.lookup f) (mA f)
 |.rng lo hi=>∃t u v,h.get? a=some {cls:=.type "range",data:=.fields #[.int lo t,.int hi u,.int 1 v] }
 |.frz o u=>h.get? a=some o/\afM H h a u
 |.tbl ps=>h.get? a=some {cls:=.none,data:=.fields ps }
 |.met f x=>h.get? a=some (PySem.W.methodObj (.ref f) (.ref x))
 |.ext φ=>φ h/\(∃o,h.get? a=some o)/\∀h1 h2:Heap,φ h1->(∀o,h1.get? a=some o->h2.get? a=some o) -> φ h2
noncomputable def HOk(H:Hp)(h:Heap):Prop:=∀a o,H a=some o->afM P w H h a o
end
section
variable {P:Program}{w:World}{H H':Hp}{h h':Heap}{a:Addr}{o:HO}
theorem afM.lt(x:afM P w H h a o):a<h.objs.size:=by
 cases o with
 |lst xs=>obtain⟨_,_,_,_,e⟩:=x; exact Heap.lt_size e
 |tup xs=>obtain⟨_,_,_,p⟩:=x; exact p.lt
 |dK kvs=>obtain⟨_,_,_,_,o,_,_,e,_⟩:=x; exact Heap.lt_size e
 |dT kvs=>obtain⟨_,_,_,_,o,_,_,e,_⟩:=x; exact Heap.lt_size e
 |set S n=>obtain⟨o,_,_,_,e,_⟩:=x; exact Heap.lt_size e
 |ins C dx fs=>obtain⟨_,_,_,e,_⟩:=x; exact Heap.lt_size e
 |own y=>obtain⟨_,e⟩:=x; exact Heap.lt_size e
 |xd fs=>obtain⟨_,⟨_,_,_,e,_⟩,_⟩:=x; exact Heap.lt_size e
 |rng lo hi=>obtain⟨_,_,_,e⟩:=x; exact Heap.lt_size e
 |frz ob u=>obtain⟨e,_⟩:=x; exact Heap.lt_size e
 |tbl ps=>exact Heap.lt_size (show h.get? a=some _ from x)
 |met f y=>exact Heap.lt_size (show h.get? a=some _ from x)
 |ext φ=>obtain⟨_,⟨_,e⟩,_⟩:=x; exact Heap.lt_size e
theorem Paired.ayI{α β : Type}{F G : α -> β -> Prop}:∀{l₁ : List α} {l₂ : List β},Paired F l₁ l₂ -> (∀a b,F a b->G a b)->Paired G l₁ l₂
 |_,_,.nil,_=>.nil
 |_,_,.cons r t,f=>.cons (f _ _ r) (Paired.ayI t f)
theorem afM.stay(x:afM P w H h a o)(k:∀b u,(b=a\/H b=some (.own a))->h.get? b=some u->h'.get? b=some u)
  (ho:∀b,H b=some (.own a)->H' b=some (.own a)) (ht:∀b xs,H b=some (.tup xs)->H' b=some (.tup xs)):afM P w H' h' a o:=by
 induction o with
 |lst xs=>obtain⟨z,its,n,r,e⟩:=x; exact⟨z,its,n,r,k _ _ (.inl rfl) e⟩
 |tup xs=>obtain⟨z,its,r,ob,e,c⟩:=x; exact⟨z,its,r,ob,k _ _ (.inl rfl) e,c⟩
 |dK kvs=>obtain⟨z,y,vs,r,ob,es,ep,e,c⟩:=x; exact⟨z,y,vs,r,ob,es,ep,k _ _ (.inl rfl) e,c⟩
 |dT kvs =>
  obtain⟨z,y,xs,r,ob,es,ep,e,c⟩:=x
  exact⟨z,y,xs,Paired.ayI r λp q z=>⟨z.1,ht _ _ z.2.1,z.2.2⟩,ob,es,ep,k _ _ (.inl rfl) e,c⟩
 |set S n=>obtain⟨ob,es,ep,t,e,c⟩:=x; exact⟨ob,es,ep,t,k _ _ (.inl rfl) e,c⟩
 |ins C dx fs =>
  obtain⟨d,z,ne,e,mA,⟨od,es,ep,e2,c⟩,r⟩:=x
  exact⟨ho _ d,z,ne,k _ _ (.inl rfl) e,mA,⟨od,es,ep,k _ _ (.inr d) e2,c⟩,r⟩
 |own y=>obtain⟨ob,e⟩:=x; exact⟨ob,k _ _ (.inl rfl) e⟩
 |xd fs=>obtain⟨mA,⟨od,es,ep,e,c⟩,r⟩:=x; exact⟨mA,⟨od,es,ep,k _ _ (.inl rfl) e,c⟩,r⟩
 |rng lo hi=>obtain⟨t,u,v,e⟩:=x; exact⟨t,u,v,k _ _ (.inl rfl) e⟩
 |frz ob u ih=>obtain⟨e,q⟩:=x; exact⟨k _ _ (.inl rfl) e,ih q⟩
 |tbl ps =>
  have e:h.get? a=some {cls:=.none,data:=.fields ps }:=x
  show h'.get? a=some {cls:=.none,data:=.fields ps }
  exact k a _ (.inl rfl) e
 |met f y =>
  have e:h.get? a=some (PySem.W.methodObj (.ref f) (.ref y)):=x
  show h'.get? a=some (PySem.W.methodObj (.ref f) (.ref y))
  exact k a _ (.inl rfl) e
 |ext φ=>obtain⟨p,⟨o,e⟩,st⟩:=x; exact⟨st _ _ p λo q=>k _ _ (.inl rfl) q,⟨o,k _ _ (.inl rfl) e⟩,st⟩
theorem HOk.lt(x:HOk P w H h)(e:H a=some o):a<h.objs.size:=(x a o e).lt
theorem HOk.fresh(x:HOk P w H h)(e:h.objs.size<=a):H a=none:=by
 cases q:H a with
 |none=>rfl
 |some u=>exact absurd (Nat.lt_of_lt_of_le (x.lt q) e) (Nat.lt_irrefl _)
theorem HOk.kept(x:HOk P w H h)(k:∀b u,h.get? b=some u->h'.get? b=some u):HOk P w H h':=λa o e =>
 (x a o e).stay (λb u _ q=>k b u q) (λ_ q=>q) λ_ _ q=>q
theorem HOk.laid(x:HOk P w H h)(k:∀b u,h.get? b=some u->h'.get? b=some u)(hp:h.objs.size<=a)(new:afM P w (upd H a o) h' a o):HOk P w (upd H a o) h':=λb u e=>by
 have hn:=x.fresh hp
 by_cases hb:b=a
 ·subst hb; rw[abj]at e; cases e; exact new
 ·rw[aaG hb]at e
  exact(x b u e).stay (λc v _ q=>k c v q) (λc q=>by rw[aaG (aaW q hn)]; exact q) λc xs q=>by rw[aaG (aaW q hn)]; exact q
end
noncomputable def Rd(H:Hp)(a:Addr)(u:HO):Prop:=H a=some u\/∃o,H a=some (.frz o u)
theorem Rd.ok{P:Program}{w:World}{H:Hp}{h:Heap}{a:Addr}{u:HO}(r:Rd H a u)(x:HOk P w H h):afM P w H h a u:=by
 rcases r with r|⟨o,r⟩
 ·exact x a u r
 ·obtain⟨_,q⟩:=x a _ r
  exact q
noncomputable def Mut:Option HO->Prop
 |some (.lst _)=>True
 |some (.dK _)=>True
 |some (.dT _)=>True
 |some (.set _ _)=>True
 |some (.ins _ _ _)=>True
 |some (.ext _)=>True
 |_=>False
section
variable {P:Program}{w:World}{H:Hp}{h h':Heap}{x e:Addr}{o':HO}
theorem HOk.write(ok:HOk P w H h)(mu:Mut (H x))(he:e=x\/H e=some (.own x))(k:∀b u,b≠e->h.get? b=some u->h'.get? b=some u)(heo:∃u,h'.get? e=some u)
  (new:afM P w (upd H x o') h' x o'):HOk P w (upd H x o') h':=λb u q=>by
 have ayJ:∀c y,H c=some (.own y)->c≠x:=λc y r z=>by subst z; rw[r]at mu; exact mu
 have azt:∀c xs,H c=some (.tup xs)->c≠x:=λc xs r z=>by subst z; rw[r]at mu; exact mu
 by_cases hb:b=x
 ·subst hb; rw[abj]at q; cases q; exact new
 ·rw[aaG hb]at q
  by_cases hbe:b=e
  ·have q':H b=some (.own x):=by
    rcases he with z|z
    ·exact absurd (hbe.trans z) hb
    ·rw[hbe]; exact z
   rw[q]at q'; cases q'
   obtain⟨v,hv⟩:=heo
   exact⟨v,by rw[hbe]; exact hv⟩
  ·refine(ok b u q).stay (λc v hc r=>k c v ?_ r) (λc r=>by rw[aaG (ayJ c b r)]; exact r) λc xs r=>by rw[aaG (azt c xs r)]; exact r
   rcases hc with rfl|hc
   ·exact hbe
   ·rintro rfl
    rcases he with z|z
    ·exact ayJ c b hc z
    ·rw[hc]at z; cases z; exact hb rfl
end
structure Un(fs ex:List Addr)(H H':Hp)(h h':Heap):Prop where
 keep:∀b o,h.get? b=some o->H b=none->b∉fs->b∉ex->h'.get? b=some o
 slot:∀b o,h.get? b=some o->H b=none->b∈fs->b∉ex->∃sl,h'.get? b=some {o with slots:=sl }
 free:∀b o,h.get? b=some o->H b=none->b∉ex->H' b=none
 there:∀b o,h.get? b=some o->b∉ex->∃o',h'.get? b=some o'
 tups:∀b xs,H b=some (.tup xs)->H' b=some (.tup xs)
 am3:∀b o u,H b=some (.frz o u)->H' b=some (.frz o u)
 am4:∀b ps,H b=some (.tbl ps)->∃more,H' b=some (.tbl (ps++more))
section
variable {fs fs' ex ex':List Addr}{H H1 H2:Hp}{h h1 h2 h':Heap}{a x e:Addr}{o:HO}
theorem Un.any(u:Un fs ex H H1 h h1){b:Addr}{ob:Obj}(q:h.get? b=some ob)(n:H b=none)(hx:b∉ex):∃sl,h1.get? b=some {ob with slots:=sl }:=by
 by_cases hb:b∈fs
 ·exact u.slot b ob q n hb hx
 ·exact⟨ob.slots,u.keep b ob q n hb hx⟩
theorem Un.kept(k:∀b u,h.get? b=some u->h'.get? b=some u):Un fs ex H H h h' :=
 ⟨λb ob q _ _ _=>k b ob q,λb ob q _ _ _=>⟨ob.slots,k b ob q⟩,λ_ _ _ n _=>n,λb ob q _=>⟨ob,k b ob q⟩,λ_ _ q=>q,λ_ _ _ q=>q,λ_ ps q=>⟨#[],by rw[q]; simp⟩⟩
theorem Un.refl:Un fs ex H H h h:=Un.kept λ_ _ q=>q
theorem Un.laid(k:∀b u,h.get? b=some u->h'.get? b=some u)(hp:h.objs.size<=a)(hn:H a=none):Un fs ex H (upd H a o) h h' where
 keep:=λb u q _ _ _=>k b u q
 slot:=λb u q _ _ _=>⟨u.slots,k b u q⟩
 free:=λb u q n _=>by rw[aaG (Nat.ne_of_lt (Nat.lt_of_lt_of_le (Heap.lt_size q) hp))]; exact n
 there:=λb u q _=>⟨u,k b u q⟩
 tups:=λb xs q=>by rw[aaG (aaW q hn)]; exact q
 am3:=λb u xs q=>by rw[aaG (aaW q hn)]; exact q
 am4:=λb ps q=>⟨#[],by rw[aaG (aaW q hn),q]; simp⟩
theorem Un.write(mu:Mut (H x))(he:e=x\/H e=some (.own x))(k:∀b u,b≠e->h.get? b=some u->h'.get? b=some u)(heo:∃u,h'.get? e=some u):Un fs ex H (upd H x o) h h':=by
 have hx:∀b,H b=none->b≠x:=λb n z=>by subst z; rw[n]at mu; exact mu
 have hb:∀b,H b=none->b≠e:=λb n z=>by
  subst z
  rcases he with r|r
  ·exact hx b n r
  ·rw[n]at r; cases r
 have hm:∀b u,H b=some u->¬Mut (some u)->b≠x:=λb u q nm z=>by subst z; rw[q]at mu; exact nm mu
 refine⟨λb u q n _ _=>k b u (hb b n) q,λb u q n _ _=>⟨u.slots,k b u (hb b n) q⟩,λb u q n _=>by rw[aaG (hx b n)]; exact n,λb u q _=>?_,
  λb xs q=>by rw[aaG (hm b _ q λz=>z)]; exact q,λb u xs q=>by rw[aaG (hm b _ q λz=>z)]; exact q,λb ps q=>⟨#[],by rw[aaG (hm b _ q λz=>z),q]; simp⟩⟩
 by_cases hbe:b=e
 ·subst hbe; exact heo
 ·exact⟨u,k b u hbe q⟩
end
noncomputable def trk(h:Heap)(H:Hp):List Addr:=(List.range h.objs.size).filter λa=>(H a).isSome
noncomputable def apb(h:Heap)(H:Hp):Heap:=PySem.W.hideAll h (trk h H)
theorem am5(h:Heap)(H:Hp):(apb h H).objs.size=h.objs.size:=PySem.W.hideAll_size _ _
theorem apc{h:Heap}{H:Hp}{b:Addr}{o:Obj}(e:h.get? b=some o)(n:H b=none):(apb h H).get? b=some o :=
 PySem.W.hideAll_get _ e λhm=>by
  have q:(H b).isSome=true:=(List.mem_filter.mp hm).2
  rw[n]at q; simp at q
theorem aq9{h:Heap}{H:Hp}{b:Addr}{o:Obj}(e:(apb h H).get? b=some o):h.get? b=some o/\H b=none:=by
 have e':h.get? b=some o:=PySem.W.of_hideAll (trk h H) e
 refine⟨e',?_⟩
 cases q:H b with
 |none=>rfl
 |some x =>
  have hm:b∈trk h H:=List.mem_filter.mpr ⟨List.mem_range.mpr (Heap.lt_size e'),by simp[q]⟩
  have z:(apb h H).get? b=none:=PySem.W.hideAll_none (trk h H) hm
  rw[z]at e; cases e
noncomputable def ara(g h:Heap)(L:Addr):List (Addr × Obj):=(List.range h.objs.size).filterMap λa=>if a=L\/(g.get? a).isSome=true then none else(h.get? a).map λo=>(a,o)
noncomputable def rest(g h:Heap)(L d:Addr):List (Addr × Obj):=(ara g h L).filter λp=>decide (p.1≠d)
end L2
namespace L2
open PySem PySem.Spec PyProof.Rows
structure Mod(K:PySem.W.Frag)(mg:Str->Option Value)(base:Heap):Prop where
 kin:K.In base
 glob:base.Ns mainGlobals mg
 blt:∃mb,base.Ns builtinsNs mb/\∀x:Str,x ≠ "__name__" -> mb x=bootBuiltins x
 nolimit:base.NoLimit
structure Cx where
 prog:Program
 w:World
 K:PySem.W.Frag
 mg:Str->Option Value
 base:Heap
 A:Around
 N:List Str
 s₀ : Shared
 H₀ : Hp
 env:Env
 outer:List Env
 stack:List Env
 ex:List Addr
 fn:Str->Bool
 calm:Bool
 pn:List (Addr × Obj)
 xe:Value->Shared->Prop
noncomputable def frs(l:List Env):List Addr:=l.filterMap (·.frame)
noncomputable abbrev Cx.fs(X:Cx):List Addr:=frs X.outer
noncomputable def Vis(sc:Scope)(x:Str):Prop:=sc.names.lookup x=some .local\/sc.names.lookup x=some .cell\/sc.names.lookup x=some .free
noncomputable def Loc(sc:Scope)(x:Str):Prop:=sc.names.lookup x=some .local\/sc.names.lookup x=some .cell
noncomputable def Look(env:Env)(h:Heap)(m:Str->Option Value)(x:Str)(u:Value):Prop :=
 (env.kindOf x=some .local/\m x=some u)\/((env.kindOf x=some .cell\/env.kindOf x=some .free)/\∃c,env.cells.lookup x=some c/\h.IsCell c (some u))
structure Cx.Ok(X:Cx):Prop where
 mod:Mod X.K X.mg X.base
 kind:X.env.scope.kind=.function
 glob:X.env.globals=mainGlobals
 blt:X.env.builtins=builtinsNs
 above:X.s₀.heap.objs.size<=X.env.locals
 inj:∀x y c,X.env.cells.lookup x=some c->X.env.cells.lookup y=some c->x=y
 has:∀x,(X.env.kindOf x=some .cell\/X.env.kindOf x=some .free)->∃c,X.env.cells.lookup x=some c
 cab:∀x c,X.fn x=true->X.env.cells.lookup x=some c->X.s₀.heap.objs.size<=c
 hd:X.calm=true->X.A.handled=none
 frames:X.A.frames=some X.stack
 stk:X.stack=X.outer\/(X.stack=X.env::X.outer/\X.env.frame=some X.env.locals)
 exf:∀b∈X.ex,b≠X.env.locals/\∀x c,X.env.cells.lookup x=some c->c≠b
 bs:∀b o,X.base.get? b=some o->X.s₀.heap.get? b=some o/\X.H₀ b=none
 bsz:X.base.objs.size<=X.s₀.heap.objs.size
 aki:∀b o,X.base.get? b=some o->b∉X.ex
 awx:∀b∈X.ex,b∉X.fs
 amX:X.s₀.heap.FunFrames X.base X.outer
 frf:∀b∈X.fs,X.H₀ b=none
structure Inv(X:Cx)(pins:List (Addr × Obj))(σ : List (Option V))(H:Hp)(s:Shared):Prop where
 ok:X.Ok
 os:s.os=X.s₀.os
 bare:AllBare s.gens
 base:Un X.fs X.ex X.H₀ H X.s₀.heap s.heap
 loc:∃m,s.heap.Ns X.env.locals m/\∀(i:Nat) (x:Str) (v:V),X.N[i]?=some x -> σ[i]?=some (some v)->Vis X.env.scope x->∃u,RelV v u/\Look X.env s.heap m x u
 cell:∀x c,X.env.cells.lookup x=some c->∃v,s.heap.IsCell c v
 free:H X.env.locals=none
 agU:∀x c,X.env.cells.lookup x=some c->H c=none
 pin:∀p∈X.pn++pins,s.heap.get? p.1=some p.2/\H p.1=none/\p.1≠X.env.locals/\p.1∉X.fs/\∀v,p.2.data ≠ .cell v
 hok:HOk X.prog X.w H s.heap
 len : σ.length=X.N.length
section
variable {X:Cx}{pins:List (Addr × Obj)}{σ : List (Option V)}{H H':Hp}{s:Shared}{h':Heap}
theorem Cx.Ok.atb(ok:X.Ok){b:Addr}{o:Obj}(e:X.base.get? b=some o):b∉X.fs:=λhb=>by
 have:=(ok.amX.mem hb).1
 rw[e]at this; cases this
theorem Inv.bs(I:Inv X pins σ H s):∀b o,X.base.get? b=some o->s.heap.get? b=some o/\H b=none:=λb o e =>
 ⟨I.base.keep b o (I.ok.bs b o e).1 (I.ok.bs b o e).2 (I.ok.atb e) (I.ok.aki b o e),I.base.free b o (I.ok.bs b o e).1 (I.ok.bs b o e).2 (I.ok.aki b o e)⟩
theorem Inv.bk(I:Inv X pins σ H s):∀b o,X.base.get? b=some o->s.heap.get? b=some o:=λb o e=>(I.bs b o e).1
theorem Inv.mod(I:Inv X pins σ H s):Mod X.K X.mg X.base:=I.ok.mod
theorem Inv.kIn(I:Inv X pins σ H s):X.K.In s.heap:=I.ok.mod.kin.keeps I.bk
theorem Inv.nolimit(I:Inv X pins σ H s):s.heap.NoLimit:=I.ok.mod.nolimit.keeps I.bk
theorem Inv.lt(I:Inv X pins σ H s):X.env.locals<s.heap.objs.size:=let⟨_,hn,_⟩:=I.loc; hn.lt
theorem Inv.sz(I:Inv X pins σ H s):X.s₀.heap.objs.size<=s.heap.objs.size:=Nat.le_trans I.ok.above (Nat.le_of_lt I.lt)
theorem Inv.azu(I:Inv X pins σ H s){a:Addr}(h:s.heap.objs.size<=a):a∉X.fs:=λhb=>by
 obtain⟨_,o,ho,_⟩:=I.ok.amX.mem hb
 exact absurd (Nat.lt_of_lt_of_le (Heap.lt_size ho) (Nat.le_trans I.sz h)) (Nat.lt_irrefl _)
theorem Inv.cne(I:Inv X pins σ H s):∀x c,X.env.cells.lookup x=some c->c≠X.env.locals:=λx c e z=>by
 obtain⟨v,o,ho,hd⟩:=I.cell x c e
 obtain⟨m,⟨o',es,ep,ho',hd',_⟩,_⟩:=I.loc
 rw[z,ho']at ho; cases ho; rw[hd']at hd; cases hd
theorem Inv.amX(I:Inv X pins σ H s):s.heap.FunFrames X.base X.outer:=by
 have all:∀(l:List Env),(∀b∈frs l,b∈X.fs)->X.s₀.heap.FunFrames X.base l->s.heap.FunFrames X.base l:=by
  intro l
  induction l with
  |nil=>intro _ _; trivial
  |cons env r ih =>
   intro hs hl
   obtain⟨hk,⟨L,o,hf,hn,ho,hd⟩,hr⟩:=hl
   have hL:L∈X.fs:=hs L (by unfold frs; rw[List.filterMap_cons,hf]; exact List.mem_cons_self)
   obtain⟨sl,e⟩:=I.base.slot L o ho (I.ok.frf L hL) hL λz=>I.ok.awx L z hL
   exact⟨hk,⟨L,_,hf,hn,e,hd⟩,ih (λb hb=>hs b (by unfold frs; rw[List.filterMap_cons,hf]; exact List.mem_cons_of_mem _ hb)) hr⟩
 exact all X.outer (λ_ hb=>hb) I.ok.amX
theorem Inv.stack(I:Inv X pins σ H s):s.heap.FunFrames X.base X.stack:=by
 rcases I.ok.stk with e|⟨e,hf⟩
 ·rw[e]; exact I.amX
 ·rw[e]
  obtain⟨m,hn,_⟩:=I.loc
  refine .cons (by rw[I.ok.kind]; decide) hf hn ?_ I.amX
  exact Heap.get?_none_of_le (Nat.le_trans I.ok.bsz I.ok.above)
theorem Inv.ajs(I:Inv X pins σ H s):∀b∈frs X.stack,b∈X.env.locals::X.fs:=λb hb=>by
 rcases I.ok.stk with e|⟨e,hf⟩
 ·rw[e]at hb; exact List.mem_cons_of_mem _ hb
 ·rw[e]at hb
  unfold frs at hb
  rw[List.filterMap_cons,hf]at hb
  exact hb
theorem Inv.aiv(I:Inv X pins σ H s):∀b∈frs X.stack,H b=none:=λb hb=>by
 rcases List.mem_cons.mp (I.ajs b hb)with e|hb
 ·rw[e]; exact I.free
 ·obtain⟨_,o,ho,_⟩:=I.ok.amX.mem hb
  exact I.base.free b o ho (I.ok.frf b hb) λz=>I.ok.awx b z hb
theorem Inv.step{g':Array GenState}{t':Nat}{d':Drawn}{ch:List Addr}(I:Inv X pins σ H s)
  (hch:∀b∈ch,(b∈X.ex\/X.s₀.heap.objs.size<=b)/\b≠X.env.locals/\(∀x c,X.env.cells.lookup x=some c->c≠b)/\∀p∈X.pn++pins,p.1≠b)
  (keep:∀b o,b≠X.env.locals->b∉X.fs->b∉ch->s.heap.get? b=some o->H b=none->h'.get? b=some o)
  (slot:∀b o,b≠X.env.locals->b∈X.fs->b∉ch->s.heap.get? b=some o->H b=none->∃sl,h'.get? b=some {o with slots:=sl }) (free:∀b o,b∉ch->s.heap.get? b=some o->H b=none->H' b=none)
  (there:∀b o,b∉ch->s.heap.get? b=some o->∃o',h'.get? b=some o')
  (tups:∀b xs,H b=some (.tup xs)->H' b=some (.tup xs)) (am3:∀b o u,H b=some (.frz o u)->H' b=some (.frz o u)) (am4:∀b ps,H b=some (.tbl ps)->∃more,H' b=some (.tbl (ps++more)))
  (ns:∀m,s.heap.Ns X.env.locals m->h'.Ns X.env.locals m) (hok:HOk X.prog X.w H' h') (hg:AllBare g') :
  Inv X pins σ H' {s with heap:=h',gens:=g',drawn:=d',toks:=t' }:=by
 have neL:∀b o,X.s₀.heap.get? b=some o->b≠X.env.locals:=λb o e=>Nat.ne_of_lt (Nat.lt_of_lt_of_le (Heap.lt_size e) I.ok.above)
 have neC:∀b o,X.s₀.heap.get? b=some o->b∉X.ex->b∉ch:=λb o e hx hb=>by
  rcases(hch b hb).1 with z|z
  ·exact hx z
  ·exact absurd (Nat.lt_of_lt_of_le (Heap.lt_size e) z) (Nat.lt_irrefl _)
 have cellK:∀x c,X.env.cells.lookup x=some c->∀v,s.heap.IsCell c v->h'.IsCell c v:=λx c e v ⟨o,ho,hd⟩=>by
  have nch:c∉ch:=λz=>(hch c z).2.2.1 x c e rfl
  by_cases hc:c∈X.fs
  ·obtain⟨sl,q⟩:=slot c o (I.cne x c e) hc nch ho (I.agU x c e)
   exact⟨_,q,hd⟩
  ·exact⟨o,keep c o (I.cne x c e) hc nch ho (I.agU x c e),hd⟩
 refine⟨I.ok,I.os,hg,⟨λb o e n hb hx=>?_,λb o e n hb hx=>?_,λb o e n hx=>?_,λb o e hx=>?_,λb xs e=>tups b xs (I.base.tups b xs e),λb o xs e=>am3 b o xs (I.base.am3 b o xs e),λb ps e=>?_⟩,?_,λx c e=>?_,?_,λx c e=>?_,λp hp=>?_,hok,I.len⟩
 ·exact keep b o (neL b o e) hb (neC b o e hx) (I.base.keep b o e n hb hx) (I.base.free b o e n hx)
 ·obtain⟨sl,e1⟩:=I.base.slot b o e n hb hx
  obtain⟨sl',e2⟩:=slot b _ (neL b o e) hb (neC b o e hx) e1 (I.base.free b o e n hx)
  exact⟨sl',e2⟩
 ·obtain⟨o',e1⟩:=I.base.there b o e hx
  exact free b o' (neC b o e hx) e1 (I.base.free b o e n hx)
 ·obtain⟨o',e1⟩:=I.base.there b o e hx
  exact there b o' (neC b o e hx) e1
 ·obtain⟨m1,e1⟩:=I.base.am4 b ps e
  obtain⟨m2,e2⟩:=am4 b _ e1
  exact⟨m1++m2,by rw[e2,Array.append_assoc]⟩
 ·obtain⟨m,hn,hl⟩:=I.loc
  refine⟨m,ns m hn,λi x v e1 e2 e3=>?_⟩
  obtain⟨u,r,l⟩:=hl i x v e1 e2 e3
  refine⟨u,r,?_⟩
  rcases l with l|⟨k,c,e,z⟩
  ·exact .inl l
  ·exact .inr ⟨k,c,e,cellK x c e _ z⟩
 ·obtain⟨v,z⟩:=I.cell x c e
  exact⟨v,cellK x c e v z⟩
 ·obtain⟨m,⟨o,_,_,ho,_⟩,_⟩:=I.loc
  exact free _ o (λz=>(hch _ z).2.1 rfl) ho I.free
 ·obtain⟨v,o,ho,hd⟩:=I.cell x c e
  exact free c o (λz=>(hch c z).2.2.1 x c e rfl) ho (I.agU x c e)
 ·obtain⟨e,n,ne,nf,d⟩:=I.pin p hp
  have nch:p.1∉ch:=λz=>(hch p.1 z).2.2.2 p hp rfl
  exact⟨keep p.1 p.2 ne nf nch e n,free p.1 p.2 nch e n,ne,nf,d⟩
theorem Inv.un{t':Nat}(I:Inv X pins σ H s)(u:Un X.fs [] H H' s.heap h')(hok:HOk X.prog X.w H' h'):Inv X pins σ H' {s with heap:=h',toks:=t' }:=by
 obtain⟨m,⟨o,es,ep,ho,r⟩,_⟩:=id I.loc
 obtain⟨sl,hL⟩:=u.any ho I.free (by simp)
 exact I.step (g':=s.gens) (d':=s.drawn) (ch:=[]) (λ_ z=>nomatch z) (λb o _ hb _ e n=>u.keep b o e n hb (by simp)) (λb o _ hb _ e n=>u.slot b o e n hb (by simp)) (λb o _ e n=>u.free b o e n (by simp)) (λb o _ e=>u.there b o e (by simp)) u.tups u.am3 u.am4 (λm' hm=>by
  obtain⟨o',es',ep',ho',r'⟩:=hm
  rw[ho]at ho'; cases ho'
  exact⟨_,es',ep',hL,r'⟩) hok I.bare
theorem Inv.call{g':Array GenState}{t':Nat}{d':Drawn}{ch:List Addr}(I:Inv X pins σ H s)(u:Un (frs X.stack) ch H H' s.heap h')(hok:HOk X.prog X.w H' h')(hg:AllBare g')
  (hch:∀b∈ch,(b∈X.ex\/X.s₀.heap.objs.size<=b)/\b≠X.env.locals/\(∀x c,X.env.cells.lookup x=some c->c≠b)/\∀p∈X.pn++pins,p.1≠b) :
  Inv X pins σ H' {s with heap:=h',gens:=g',drawn:=d',toks:=t' }:=by
 obtain⟨m,⟨o,es,ep,ho,r⟩,_⟩:=id I.loc
 obtain⟨sl,hL⟩:=u.any ho I.free λz=>(hch _ z).2.1 rfl
 exact I.step (ch:=ch) hch (λb o hL hb hc e n=>u.keep b o e n (λz=>(List.mem_cons.mp (I.ajs b z)).elim hL hb) hc) (λb o _ _ hc e n=>u.any e n hc) (λb o hc e n=>u.free b o e n hc) (λb o hc e=>u.there b o e hc) u.tups u.am3 u.am4 (λm' hm=>by
  obtain⟨o',es',ep',ho',r'⟩:=hm
  rw[ho]at ho'; cases ho'
  exact⟨_,es',ep',hL,r'⟩) hok hg
theorem Inv.turned{t':Nat}{it:Addr}(I:Inv X pins σ H s)(k:∀b o,b≠it->s.heap.get? b=some o->h'.get? b=some o)(hn:H it=none)(hL:it≠X.env.locals)
  (h1:it∈X.ex\/X.s₀.heap.objs.size<=it) (h2:∀x c,X.env.cells.lookup x=some c->c≠it) (h3:∀p∈X.pn++pins,p.1≠it):Inv X pins σ H {s with heap:=h',toks:=t' }:=by
 have nit:∀b u,H b=some u->b≠it:=λb u e z=>by rw[z,hn]at e; cases e
 refine I.step (g':=s.gens) (d':=s.drawn) (ch:=[it]) (λb hb=>?_) (λb o _ _ hc e _=>k b o (λz=>hc (by simp[z])) e) (λb o _ _ hc e _=>⟨o.slots,k b o (λz=>hc (by simp[z])) e⟩) (λ_ _ _ _ n=>n)
  (λb o hc e=>⟨o,k b o (λz=>hc (by simp[z])) e⟩) (λ_ _ e=>e) (λ_ _ _ e=>e) (λb ps e=>⟨#[],by rw[e]; simp⟩) (λm hm=>?_) (λb u e=>?_) I.bare
 ·have e:b=it:=by simpa using hb
  subst e
  exact⟨h1,hL,h2,h3⟩
 ·obtain⟨o,es,ep,ho,r⟩:=hm
  exact⟨o,es,ep,k _ o (Ne.symm hL) ho,r⟩
 ·refine(I.hok b u e).stay (λc v hc q=>k c v ?_ q) (λ_ q=>q) λ_ _ q=>q
  rcases hc with z|z
  ·rw[z]; exact nit b u e
  ·exact nit c _ z
theorem Inv.tok(I:Inv X pins σ H s)(t:Nat):Inv X pins σ H {s with toks:=t }:=I.un (h':=s.heap) (t':=t) Un.refl I.hok
theorem Inv.kept{t':Nat}(I:Inv X pins σ H s)(k:∀b u,s.heap.get? b=some u->h'.get? b=some u):Inv X pins σ H {s with heap:=h',toks:=t' }:=I.un (Un.kept k) (I.hok.kept k)
theorem Inv.laid{a:Addr}{o:HO}{t':Nat}(I:Inv X pins σ H s)(k:∀b u,s.heap.get? b=some u->h'.get? b=some u)(hp:s.heap.objs.size<=a)(new:afM X.prog X.w (upd H a o) h' a o) :
  Inv X pins σ (upd H a o) {s with heap:=h',toks:=t' }:=I.un (Un.laid k hp (I.hok.fresh hp)) (I.hok.laid k hp new)
theorem Inv.write{x e:Addr}{o:HO}{t':Nat}(I:Inv X pins σ H s)(mu:Mut (H x))(he:e=x\/H e=some (.own x))(k:∀b u,b≠e->s.heap.get? b=some u->h'.get? b=some u)(heo:∃u,h'.get? e=some u)
  (new:afM X.prog X.w (upd H x o) h' x o):Inv X pins σ (upd H x o) {s with heap:=h',toks:=t' }:=I.un (Un.write mu he k heo) (I.hok.write mu he k heo new)
theorem Inv.aiw{ahL:List (Addr × Obj)}(I:Inv X pins σ H s)(h:∀p∈ahL,s.heap.get? p.1=some p.2/\H p.1=none/\p.1≠X.env.locals/\p.1∉X.fs/\∀v,p.2.data ≠ .cell v):Inv X ahL σ H s :=
 ⟨I.ok,I.os,I.bare,I.base,I.loc,I.cell,I.free,I.agU,λp hp=>(List.mem_append.mp hp).elim (λz=>I.pin p (List.mem_append_left _ z)) (h p),I.hok,I.len⟩
theorem alg{N:List Str}(hN:N.Nodup){i j:Nat}{x:Str}(a:N[i]?=some x)(b:N[j]?=some x):i=j:=by
 obtain⟨h1,e1⟩:=List.getElem?_eq_some_iff.mp a
 obtain⟨h2,e2⟩:=List.getElem?_eq_some_iff.mp b
 exact(List.getElem_inj hN).mp (e1.trans e2.symm)
theorem agV{M:Model}{A:Around}{E:Value->Shared->Prop}{i:Nat}{x:Str}{v:V}{u:Value}{Q:Unit->Shared->Prop}(I:Inv X pins σ H s)(hN:X.N.Nodup)(hi:X.N[i]?=some x)(hx:Loc X.env.scope x)(r:RelV v u)
  (h:∀s',Inv X pins (σ.set i (some v)) H s'->(∃a,Heap.SameBut a s.heap s'.heap/\(a=X.env.locals\/X.env.cells.lookup x=some a))->Q () s') (hf:X.fn x=true\/X.env.scope.names.lookup x=some .local:=by first|exact .inl rfl|exact .inr rfl|assumption):wpAny M A (storeName X.env x u) Q E s:=by
 obtain⟨m,hn,hl⟩:=id I.loc
 have hcls:(X.env.scope.kind == .class || (X.env.scope.kind == .module&&X.env.locals != X.env.globals))=false:=by rw[I.ok.kind]; rfl
 have hiσ : i < σ.length:=by rw[I.len]; exact(List.getElem?_eq_some_iff.mp hi).1
 have cne:=I.cne
 have tracked:∀{a:Addr} {h':Heap},(∃o,s.heap.get? a=some o/\H a=none)->Heap.SameBut a s.heap h'->HOk X.prog X.w H h':=λ{a h'} ha hs b ob e=>by
  obtain⟨_,_,hfree⟩:=ha
  refine(I.hok b ob e).stay (λc w' hc q=>(hs.2 c ?_).trans q) (λ_ q=>q) λ_ _ q=>q
  rintro rfl
  rcases hc with rfl|hc
  ·rw[hfree]at e; cases e
  ·rw[hfree]at hc; cases hc
 rcases hx with hk|hk
 ·refine wpAny_storeName_local hk hn (λh' hn' hs=>?_) hcls
  obtain⟨oL,_,_,hoL,_⟩:=id hn
  refine h _ ⟨I.ok,I.os,I.bare,⟨λb o e n hb hx=>?_,λb o e n hb hx=>?_,I.base.free,λb o e hx=>?_,I.base.tups,I.base.am3,I.base.am4⟩,⟨_,hn',λj y v' e1 e2 e3=>?_⟩,λy c e=>?_,I.free,I.agU,λp hp=>?_,tracked ⟨oL,hoL,I.free⟩ hs,by simpa using I.len⟩ ⟨_,hs,.inl rfl⟩
  ·exact(hs.2 b (Nat.ne_of_lt (Nat.lt_of_lt_of_le (Heap.lt_size e) I.ok.above))).trans (I.base.keep b o e n hb hx)
  ·obtain⟨sl,e1⟩:=I.base.slot b o e n hb hx
   exact⟨sl,(hs.2 b (Nat.ne_of_lt (Nat.lt_of_lt_of_le (Heap.lt_size e) I.ok.above))).trans e1⟩
  ·obtain⟨o',e1⟩:=I.base.there b o e hx
   exact⟨o',(hs.2 b (Nat.ne_of_lt (Nat.lt_of_lt_of_le (Heap.lt_size e) I.ok.above))).trans e1⟩
  ·by_cases hj:j=i
   ·subst hj
    rw[hi]at e1; cases e1
    rw[List.getElem?_set_self hiσ]at e2
    cases e2
    exact⟨u,r,.inl ⟨hk,by simp⟩⟩
   ·rw[List.getElem?_set_ne (Ne.symm hj)]at e2
    obtain⟨u',r',q⟩:=hl j y v' e1 e2 e3
    refine⟨u',r',?_⟩
    rcases q with⟨k,e⟩|⟨k,c,e,z⟩
    ·refine .inl ⟨k,?_⟩
     have:y≠x:=λe=>hj (alg hN e1 (e▸hi))
     simp[this,e]
    ·exact .inr ⟨k,c,e,z.sameBut hs (cne y c e)⟩
  ·obtain⟨w',z⟩:=I.cell y c e
   exact⟨w',z.sameBut hs (cne y c e)⟩
  ·obtain⟨e,n,ne,nf,d⟩:=I.pin p hp
   exact⟨(hs.2 p.1 ne).trans e,n,ne,nf,d⟩
 ·have hfn:X.fn x=true:=by
   rcases hf with z|z
   ·exact z
   ·rw[z]at hk; cases hk
  obtain⟨c,hc⟩:=I.ok.has x (.inl hk)
  obtain⟨w',z⟩:=I.cell x c hc
  refine wpAny_storeName_cell I.ok.kind hk hc z (λh' hc' hs=>?_)
  obtain⟨oc,hoc,azv⟩:=id z
  refine h {s with heap:=h' } ⟨I.ok,I.os,I.bare,⟨λb o e n hb hx=>?_,λb o e n hb hx=>?_,I.base.free,λb o e hx=>?_,I.base.tups,I.base.am3,I.base.am4⟩,⟨m,hn.sameBut hs (Ne.symm (cne x c hc)),λj y v' e1 e2 e3=>?_⟩,λy c' e=>?_,I.free,I.agU,λp hp=>?_,tracked ⟨oc,hoc,I.agU x c hc⟩ hs,by simpa using I.len⟩ ⟨c,hs,.inr hc⟩
  ·exact(hs.2 b (Nat.ne_of_lt (Nat.lt_of_lt_of_le (Heap.lt_size e) (I.ok.cab x c hfn hc)))).trans (I.base.keep b o e n hb hx)
  ·obtain⟨sl,e1⟩:=I.base.slot b o e n hb hx
   exact⟨sl,(hs.2 b (Nat.ne_of_lt (Nat.lt_of_lt_of_le (Heap.lt_size e) (I.ok.cab x c hfn hc)))).trans e1⟩
  ·obtain⟨o',e1⟩:=I.base.there b o e hx
   exact⟨o',(hs.2 b (Nat.ne_of_lt (Nat.lt_of_lt_of_le (Heap.lt_size e) (I.ok.cab x c hfn hc)))).trans e1⟩
  ·by_cases hj:j=i
   ·subst hj
    rw[hi]at e1; cases e1
    rw[List.getElem?_set_self hiσ]at e2
    cases e2
    exact⟨u,r,.inr ⟨.inl hk,c,hc,hc'⟩⟩
   ·rw[List.getElem?_set_ne (Ne.symm hj)]at e2
    obtain⟨u',r',q⟩:=hl j y v' e1 e2 e3
    refine⟨u',r',?_⟩
    rcases q with q|⟨k,c',e,z'⟩
    ·exact .inl q
    ·refine .inr ⟨k,c',e,z'.sameBut hs ?_⟩
     rintro rfl
     exact hj (alg hN e1 (I.ok.inj _ _ _ e hc▸hi))
  ·by_cases hcc:c'=c
   ·subst hcc; exact⟨_,hc'⟩
   ·obtain⟨w2,z2⟩:=I.cell y c' e
    exact⟨w2,z2.sameBut hs hcc⟩
  ·obtain⟨e,n,ne,nf,d⟩:=I.pin p hp
   refine⟨(hs.2 p.1 ?_).trans e,n,ne,nf,d⟩
   intro q
   rw[q,hoc]at e
   have q':oc=p.2:=Option.some.inj e
   exact d w' (by rw[<-q']; exact azv)
theorem agI{M:Model}{A:Around}{E:Value->Shared->Prop}{i:Nat}{x:Str}{v:V}{u:Value}{Q:Unit->Shared->Prop}(I:Inv X pins σ H s)(hN:X.N.Nodup)(hi:X.N[i]?=some x)(hx:Loc X.env.scope x)(r:RelV v u)
  (h:∀s',Inv X pins (σ.set i (some v)) H s'->Q () s') (hf:X.fn x=true\/X.env.scope.names.lookup x=some .local:=by first|exact .inl rfl|exact .inr rfl|assumption):wpAny M A (storeName X.env x u) Q E s :=
 agV I hN hi hx r (λs' I' _=>h s' I') hf
theorem Inv.call'{s':Shared}{ch:List Addr}(I:Inv X pins σ H s)(ho:s'.os=s.os)(u:Un (frs X.stack) ch H H' s.heap s'.heap)(hok:HOk X.prog X.w H' s'.heap)(hg:AllBare s'.gens)
  (hch:∀b∈ch,(b∈X.ex\/X.s₀.heap.objs.size<=b)/\b≠X.env.locals/\(∀x c,X.env.cells.lookup x=some c->c≠b)/\∀p∈X.pn++pins,p.1≠b):Inv X pins σ H' s':=by
 obtain⟨h',g',d',t',o'⟩:=s'
 have e:o'=s.os:=ho
 subst e
 exact I.call (g':=g') (t':=t') (d':=d') u hok hg hch
end
noncomputable abbrev XK:=Value->Option Addr->Hp->Prop
noncomputable abbrev St:=List (Option V)
noncomputable abbrev VK:=V->Hp->Prop
noncomputable abbrev TE:=St->Hp->VK->Prop
noncomputable abbrev TT:=St->Hp->(Bool->Hp->Prop)->Prop
noncomputable abbrev TA:=St->Hp->(List V->Hp->Prop)->Prop
structure Ends where
 nx:St->Hp->Prop
 rt:VK
 bk:St->Hp->Prop:=λ_ _=>False
 ct:St->Hp->Prop:=λ_ _=>False
noncomputable abbrev TS:=Ends->St->Hp->Prop
noncomputable def EP(X:Cx)(pins:List (Addr × Obj))(σ : St)(Q:VK)(u:Value)(s':Shared):Prop:=∃v H',Inv X pins σ H' s'/\RelV v u/\Q v H'
noncomputable def TP(X:Cx)(pins:List (Addr × Obj))(σ : St)(Q:Bool->Hp->Prop)(b:Bool)(s':Shared):Prop:=∃H',Inv X pins σ H' s'/\Q b H'
noncomputable def AP(X:Cx)(pins:List (Addr × Obj))(σ : St)(Q:List V->Hp->Prop)(us:List Value)(s':Shared):Prop:=∃vs H',Inv X pins σ H' s'/\Vals vs us/\Q vs H'
noncomputable def SP(X:Cx)(pins:List (Addr × Obj))(D:Ends)(f:Flow)(s':Shared):Prop :=
 match f with
 |.next=>∃σ' H',Inv X pins σ' H' s'/\D.nx σ' H'
 |.brk=>∃σ' H',Inv X pins σ' H' s'/\D.bk σ' H'
 |.cont=>∃σ' H',Inv X pins σ' H' s'/\D.ct σ' H'
 |.ret u=>∃v σ' H',Inv X pins σ' H' s'/\RelV v u/\D.rt v H'
structure PE(X:Cx)(e:Expr)(t:TE):Prop where
 run:∀(pins:List (Addr × Obj)) (s:Shared) (σ : St) (H:Hp) (Q:VK),Inv X pins σ H s->t σ H Q->wpAny (model X.prog X.w) X.A (eval e X.env) (EP X pins σ Q) X.xe s
noncomputable instance {X:Cx}{e:Expr}{t:TE}:CoeFun (PE X e t) λ_=>∀(pins:List (Addr × Obj)) (s:Shared) (σ : St) (H:Hp) (Q:VK),Inv X pins σ H s->t σ H Q->wpAny (model X.prog X.w) X.A (eval e X.env) (EP X pins σ Q) X.xe s:=⟨PE.run⟩
structure PT(X:Cx)(e:Expr)(t:TT):Prop where
 run:∀(pins:List (Addr × Obj)) (s:Shared) (σ : St) (H:Hp) (Q:Bool->Hp->Prop),Inv X pins σ H s->t σ H Q->wpAny (model X.prog X.w) X.A (isTrue e X.env (eval e X.env)) (TP X pins σ Q) X.xe s
noncomputable instance {X:Cx}{e:Expr}{t:TT}:CoeFun (PT X e t) λ_=>∀(pins:List (Addr × Obj)) (s:Shared) (σ : St) (H:Hp) (Q:Bool->Hp->Prop),Inv X pins σ H s->t σ H Q->wpAny (model X.prog X.w) X.A (isTrue e X.env (eval e X.env)) (TP X pins σ Q) X.xe s:=⟨PT.run⟩
structure PW(X:Cx)(e:Expr)(t:TT):Prop where
 run:∀(whole:Sem Value) (pins:List (Addr × Obj)) (s:Shared) (σ : St) (H:Hp) (Q:Bool->Hp->Prop),Inv X pins σ H s->t σ H Q->wpAny (model X.prog X.w) X.A (isTrue e X.env whole) (TP X pins σ Q) X.xe s
noncomputable instance {X:Cx}{e:Expr}{t:TT}:CoeFun (PW X e t) λ_=>∀(whole:Sem Value) (pins:List (Addr × Obj)) (s:Shared) (σ : St) (H:Hp) (Q:Bool->Hp->Prop),Inv X pins σ H s->t σ H Q->wpAny (model X.prog X.w) X.A (isTrue e X.env whole) (TP X pins σ Q) X.xe s:=⟨PW.run⟩
theorem PW.pt{X:Cx}{e:Expr}{t:TT}(h:PW X e t):PT X e t:=⟨h.run _⟩
structure PA(X:Cx)(es:List Expr)(t:TA):Prop where
 run:∀(pos:Pos) (pins:List (Addr × Obj)) (s:Shared) (σ : St) (H:Hp) (Q:List V->Hp->Prop),Inv X pins σ H s->t σ H Q->wpAny (model X.prog X.w) X.A (spliced (backTo pos (starEach es X.env))) (AP X pins σ Q) X.xe s
noncomputable instance {X:Cx}{es:List Expr}{t:TA}:CoeFun (PA X es t) λ_=>∀(pos:Pos) (pins:List (Addr × Obj)) (s:Shared) (σ : St) (H:Hp) (Q:List V->Hp->Prop),Inv X pins σ H s->t σ H Q->wpAny (model X.prog X.w) X.A (spliced (backTo pos (starEach es X.env))) (AP X pins σ Q) X.xe s:=⟨PA.run⟩
structure PS(X:Cx)(st:Stmt)(t:TS):Prop where
 run:∀(pins:List (Addr × Obj)) (s:Shared) (σ : St) (H:Hp) (D:Ends),Inv X pins σ H s->t D σ H->wpAny (model X.prog X.w) X.A (exec st X.env) (SP X pins D) X.xe s
noncomputable instance {X:Cx}{st:Stmt}{t:TS}:CoeFun (PS X st t) λ_=>∀(pins:List (Addr × Obj)) (s:Shared) (σ : St) (H:Hp) (D:Ends),Inv X pins σ H s->t D σ H->wpAny (model X.prog X.w) X.A (exec st X.env) (SP X pins D) X.xe s:=⟨PS.run⟩
structure PSs(X:Cx)(st:List Stmt)(t:TS):Prop where
 run:∀(pins:List (Addr × Obj)) (s:Shared) (σ : St) (H:Hp) (D:Ends),Inv X pins σ H s->t D σ H->wpAny (model X.prog X.w) X.A (execs st X.env) (SP X pins D) X.xe s
noncomputable instance {X:Cx}{st:List Stmt}{t:TS}:CoeFun (PSs X st t) λ_=>∀(pins:List (Addr × Obj)) (s:Shared) (σ : St) (H:Hp) (D:Ends),Inv X pins σ H s->t D σ H->wpAny (model X.prog X.w) X.A (execs st X.env) (SP X pins D) X.xe s:=⟨PSs.run⟩
theorem thn{α : Type}{t:Sem α}{Q Q' : α -> Shared->Prop}{M:Model}{A:Around}{E:Value->Shared->Prop}{s:Shared}(h:wpAny M A t Q E s)(hQ:∀a s,Q a s->Q' a s):wpAny M A t Q' E s:=wpAny_mono h hQ λ_ _ x=>x
end L2
namespace L2
open PySem PySem.Spec PyProof.Rows
section
variable {X:Cx}
noncomputable def am6(i:Nat):TE:=λσ H Q=>∃v,σ[i]?=some (some v)/\Q v H
noncomputable def tC(v:V):TE:=λ_ H Q=>Q v H
theorem am7{i:Nat}{x:Str}{pos:Pos}(hN:X.N[i]?=some x)(hv:Vis X.env.scope x)(hd:(x == ("__debug__" : Str))=false:=by decide) (hcd:(x == ("__classdict__" : Str))=false:=by decide):PE X (.Name x pos) (am6 i):=by
 refine⟨λpins s σ H Q I h=>?_⟩
 obtain⟨v,e,h⟩:=h
 obtain⟨m,hn,hl⟩:=I.loc
 obtain⟨u,r,l⟩:=hl i x v hN e hv
 have fin:EP X pins σ Q u s:=⟨v,H,I,r,h⟩
 rcases l with⟨hk,hm⟩|⟨hk,c,hc,hcell⟩
 ·exact wpAny_Name (wpAny_loadName_local I.ok.kind hk hn hm fin) hd
 ·rcases hk with hk|hk
  ·exact wpAny_Name (wpAny_loadName_cell I.ok.kind hk hc hcell fin) hd
  ·exact wpAny_Name (wpAny_loadName_free I.ok.kind hk hc hcell fin hcd) hd
theorem aan{i j pos}:PE X (.Constant (.int i) j pos) (tC (.int i)):=⟨λ_ _ _ H _ I h=>wpAny_Constant_int ⟨.int i,H,I.tok _,⟨_,rfl⟩,h⟩⟩
theorem afp{b j pos}:PE X (.Constant (.bool b) j pos) (tC (.bl b)):=⟨λ_ _ _ H _ I h=>Constant_bool ⟨.bl b,H,I,rfl,h⟩⟩
theorem atu{j pos}:PE X (.Constant .none j pos) (tC .non):=⟨λ_ _ _ H _ I h=>Constant_none ⟨.non,H,I,rfl,h⟩⟩
theorem ad9{x j pos}:PE X (.Constant (.str x) j pos) (tC (.str x)):=⟨λ_ _ _ H _ I h=>Calls.Constant_str ⟨.str x,H,I.tok _,⟨_,rfl⟩,h⟩⟩
noncomputable def Gl(X:Cx)(x:Str):Prop:=X.env.kindOf x=some .globalImplicit
theorem akj{E:Value->Shared->Prop}{pins:List (Addr × Obj)}{s:Shared}{σ : St}{H:Hp}{x:Str}{u:Value}{pos:Pos}{Q:Value->Shared->Prop}(I:Inv X pins σ H s)(hg:Gl X x)(hm:X.mg x=some u)(h:Q u s)
  (hd:(x == ("__debug__" : Str))=false:=by decide):wpAny (model X.prog X.w) X.A (eval (.Name x pos) X.env) Q E s :=
 Calls.Name_function_global I.ok.kind hg (Calls.loadGlobal_global (by rw[I.ok.glob]; exact I.mod.glob.keeps I.bk) hm h) hd
theorem afq{E:Value->Shared->Prop}{pins:List (Addr × Obj)}{s:Shared}{σ : St}{H:Hp}{x:Str}{u:Value}{pos:Pos}{Q:Value->Shared->Prop}(I:Inv X pins σ H s)(hg:Gl X x)(hm:X.mg x=none)(hv:bootBuiltins x=some u)(h:Q u s)
  (hn:x ≠ "__name__" := by decide) (hd:(x == ("__debug__" : Str))=false:=by decide):wpAny (model X.prog X.w) X.A (eval (.Name x pos) X.env) Q E s:=by
 obtain⟨mb,h1,h2⟩:=I.mod.blt
 exact Calls.Name_function_global I.ok.kind hg (Calls.loadGlobal_builtin (by rw[I.ok.glob]; exact I.mod.glob.keeps I.bk) hm (by rw[I.ok.blt]; exact h1.keeps I.bk) ((h2 x hn).trans hv) h) hd
theorem arb{x:Str}{v:V}{u:Value}{pos:Pos}(hg:Gl X x)(hm:X.mg x=some u)(r:RelV v u)(hd:(x == ("__debug__" : Str))=false:=by decide):PE X (.Name x pos) (tC v) :=
 ⟨λ_ _ _ H _ I h=>akj I hg hm ⟨v,H,I,r,h⟩ hd⟩
theorem ard{x:Str}{v:V}{u:Value}{pos:Pos}(hg:Gl X x)(hm:X.mg x=none)(hv:bootBuiltins x=some u)(r:RelV v u)(hn:x ≠ "__name__" := by decide) (hd:(x == ("__debug__" : Str))=false:=by decide):PE X (.Name x pos) (tC v) :=
 ⟨λ_ _ _ H _ I h=>afq I hg hm hv ⟨v,H,I,r,h⟩ hn hd⟩
variable {a b:Expr}{ta tb:TE}{pos:Pos}
variable {tA tB':TT}{rest:List Expr}
noncomputable def tOr(t u:TT):TT:=λσ H Q=>t σ H λc H1=>if c=true then Q true H1 else u σ H1 Q
noncomputable def ayK(t:TT):TT:=λσ H Q=>t σ H λc H1=>Q (!c) H1
theorem ajt(ha:PT X a tA):PW X (.BoolOp .Or [a] pos) tA:=by
 refine⟨λwh pins s σ H Q I h=>?_⟩
 refine isTrue_or (thn (ha pins s σ H Q I h) λc s1 e=>?_)
 cases c with
 |false=>exact isTrue_or_nil e
 |true=>exact e
theorem am8(ha:PT X a tA)(hb:PW X (.BoolOp .Or (b::rest) pos) tB'):PW X (.BoolOp .Or (a::b::rest) pos) (tOr tA tB'):=by
 refine⟨λwh pins s σ H Q I h=>?_⟩
 refine isTrue_or (thn (ha pins s σ H _ I h) λc s1 ⟨H1,I1,q1⟩=>?_)
 cases c with
 |true=>exact⟨H1,I1,q1⟩
 |false=>exact hb wh pins s1 σ H1 Q I1 q1
theorem adA(ha:PT X a tA):PT X (.UnaryOp .Not a pos) (ayK tA):=by
 refine⟨λpins s σ H Q I h=>?_⟩
 exact isTrue_not (ha pins s σ H (λc H1=>Q (!c) H1) I h)
noncomputable def atv(ta tb:TE):TE:=λσ H Q=>ta σ H λx H1=>∃c,x=.bl c/\if c=true then tb σ H1 Q else Q (.bl false) H1
noncomputable def atw(ta:TE):TE:=λσ H Q=>ta σ H λx H1=>∃c,x=.bl c/\Q (.bl (!c)) H1
theorem ah4{op}{t:TE}(h:PE X a t):PE X (.BoolOp op [a] pos) t:=⟨λpins s σ H Q I hw=>BoolOp_one (h pins s σ H Q I hw)⟩
theorem agW(ha:PE X a ta)(hb:PE X (.BoolOp .And (b::rest) pos) tb):PE X (.BoolOp .And (a::b::rest) pos) (atv ta tb):=by
 refine⟨λpins s σ H Q I h=>?_⟩
 refine BoolOp_and (thn (ha pins s σ H _ I h) λv s1 ⟨x,H1,I1,r1,q1⟩=>?_)
 obtain⟨c,rfl,q1⟩:=q1
 cases r1
 refine wpAny_truthy_bool ?_
 cases c with
 |true=>exact hb pins s1 σ H1 Q I1 q1
 |false=>exact⟨.bl false,H1,I1,rfl,q1⟩
theorem atx(ha:PE X a ta):PE X (.UnaryOp .Not a pos) (atw ta):=by
 refine⟨λpins s σ H Q I h=>?_⟩
 refine UnaryOp_ (thn (ha pins s σ H _ I h) λv s1 ⟨x,H1,I1,r1,q1⟩=>?_)
 obtain⟨c,rfl,q1⟩:=q1
 cases r1
 exact not_of (wpAny_truthy_bool ⟨.bl (!c),H1,I1,rfl,q1⟩)
end
end L2
namespace L2
open PySem PySem.Spec PyProof.Rows
noncomputable def SqL(K:PySem.W.Frag)(H:Hp)(a:Addr)(xs:List V):Prop :=
 Rd H a (.lst xs) \/
  ∃(o:Obj) (its:Array Value) (n:Nat),K.lookup a=some o/\o.cls=.type "list" /\ o.dict=none/\o.data=.seq its n/\its.size<=sizeLine/\Vals xs its.toList
noncomputable def SqT(K:PySem.W.Frag)(H:Hp)(a:Addr)(xs:List V):Prop :=
 Rd H a (.tup xs) \/
  ∃(o:Obj) (its:Array Value) (n:Nat),K.lookup a=some o/\o.cls=.type "tuple" /\ o.data=.seq its n/\its.size<=sizeLine/\Vals xs its.toList
noncomputable def azw:Value->Option V
 |.none=>some .non
 |.bool b=>some (.bl b)
 |.int i _=>some (.int i)
 |.str x _=>some (.str x)
 |.bytes b _=>some (.byt b)
 |.float b _=>some (.flt b)
 |.ref a=>some (.ref a)
 |.type n=>some (.ty n)
 |_=>none
theorem RelV.abs{x:V}{u:Value}(r:RelV x u):azw u=some x:=by
 cases x with
 |non=>cases r; rfl
 |bl _=>cases r; rfl
 |int _=>obtain⟨t,rfl⟩:=r; rfl
 |str _=>obtain⟨t,rfl⟩:=r; rfl
 |byt _=>obtain⟨t,rfl⟩:=r; rfl
 |flt _=>obtain⟨t,rfl⟩:=r; rfl
 |ref _=>cases r; rfl
 |ty _=>cases r; rfl
theorem RelV.inj{x y:V}{u:Value}(r:RelV x u)(q:RelV y u):x=y:=Option.some.inj (r.abs.symm.trans q.abs)
theorem Vals.inj:∀{xs ys:List V} {us:List Value},Vals xs us->Vals ys us->xs=ys
 |_,_,_,.nil,.nil=>rfl
 |_,_,_,.cons r t,.cons r' t'=>by rw[r.inj r',Vals.inj t t']
section
variable {X:Cx}{pins:List (Addr × Obj)}{σ : St}{H:Hp}{s:Shared}{a:Addr}{xs ys:List V}
theorem SqL.of{K:PySem.W.Frag}(h:H a=some (.lst xs)):SqL K H a xs:=.inl (.inl h)
theorem SqT.of{K:PySem.W.Frag}(h:H a=some (.tup xs)):SqT K H a xs:=.inl (.inl h)
theorem Inv.list(I:Inv X pins σ H s)(h:SqL X.K H a xs):∃its:List Value,Vals xs its/\PlainL s.heap a its.toArray/\xs.length<=sizeLine:=by
 rcases h with h|⟨o,its,n,hk,hc,hd,hs,hz,r⟩
 ·obtain⟨z,its,n,r,e⟩:=h.ok I.hok
  exact⟨its,r,⟨_,n,e,rfl,rfl,rfl⟩,z⟩
 ·refine⟨its.toList,r,⟨o,n,I.kIn a o hk,hc,hd,by simpa using hs⟩,?_⟩
  have e:=r.length
  simp only[Array.length_toList]at e
  omega
theorem Inv.tuple(I:Inv X pins σ H s)(h:SqT X.K H a xs):∃its:List Value,Vals xs its/\IsTup s.heap a its.toArray/\xs.length<=sizeLine:=by
 rcases h with h|⟨o,its,n,hk,hc,hs,hz,r⟩
 ·obtain⟨z,its,r,p⟩:=h.ok I.hok
  exact⟨its,r,p,z⟩
 ·refine⟨its.toList,r,⟨o,I.kIn a o hk,hc,n,by simpa using hs⟩,?_⟩
  have e:=r.length
  simp only[Array.length_toList]at e
  omega
theorem Inv.agJ(I:Inv X pins σ H s)(h:SqL X.K H a xs)(h':SqL X.K H a ys):xs=ys:=by
 obtain⟨its,r,⟨o,n,e,_,_,d⟩,_⟩:=I.list h
 obtain⟨its',r',⟨o',n',e',_,_,d'⟩,_⟩:=I.list h'
 rw[e]at e'; cases e'
 rw[d]at d'
 injection d' with d1 _
 have:its=its':=by simpa using congrArg Array.toList d1
 subst this
 exact r.inj r'
theorem Inv.aju(I:Inv X pins σ H s)(h:SqT X.K H a xs)(h':SqT X.K H a ys):xs=ys:=by
 obtain⟨its,r,⟨o,e,_,n,d⟩,_⟩:=I.tuple h
 obtain⟨its',r',⟨o',e',_,n',d'⟩,_⟩:=I.tuple h'
 rw[e]at e'; cases e'
 rw[d]at d'
 injection d' with d1 _
 have:its=its':=by simpa using congrArg Array.toList d1
 subst this
 exact r.inj r'
end
noncomputable abbrev Cx.wish(X:Cx)(E:Value->Shared->Prop):Cx:={X with xe:=E }
noncomputable abbrev Cx.nox(X:Cx):Cx:=X.wish λ_ _=>False
theorem Cx.Ok.wish{X:Cx}(ok:X.Ok)(E:Value->Shared->Prop):(X.wish E).Ok :=
 ⟨ok.mod,ok.kind,ok.glob,ok.blt,ok.above,ok.inj,ok.has,ok.cab,ok.hd,ok.frames,ok.stk,ok.exf,ok.bs,ok.bsz,ok.aki,ok.awx,ok.amX,ok.frf⟩
theorem Cx.Ok.agi{X:Cx}{E:Value->Shared->Prop}(ok:(X.wish E).Ok):X.Ok :=
 ⟨ok.mod,ok.kind,ok.glob,ok.blt,ok.above,ok.inj,ok.has,ok.cab,ok.hd,ok.frames,ok.stk,ok.exf,ok.bs,ok.bsz,ok.aki,ok.awx,ok.amX,ok.frf⟩
section
variable {X:Cx}{pins:List (Addr × Obj)}{σ : St}{H:Hp}{s:Shared}{E:Value->Shared->Prop}
theorem Inv.wish(I:Inv X pins σ H s)(E:Value->Shared->Prop):Inv (X.wish E) pins σ H s:=⟨I.ok.wish E,I.os,I.bare,I.base,I.loc,I.cell,I.free,I.agU,I.pin,I.hok,I.len⟩
theorem Inv.agi(I:Inv (X.wish E) pins σ H s):Inv X pins σ H s:=⟨I.ok.agi,I.os,I.bare,I.base,I.loc,I.cell,I.free,I.agU,I.pin,I.hok,I.len⟩
theorem SP.agi{D:Ends}{f:Flow}{s':Shared}(h:SP (X.wish E) pins D f s'):SP X pins D f s':=by
 cases f with
 |next=>obtain⟨σ',H',I,q⟩:=h; exact⟨σ',H',I.agi,q⟩
 |brk=>obtain⟨σ',H',I,q⟩:=h; exact⟨σ',H',I.agi,q⟩
 |cont=>obtain⟨σ',H',I,q⟩:=h; exact⟨σ',H',I.agi,q⟩
 |ret u=>obtain⟨v,σ',H',I,r,q⟩:=h; exact⟨v,σ',H',I.agi,r,q⟩
end
section
variable {X:Cx}{st:Stmt}{rest:List Stmt}{t u:TS}{e:Expr}{te:TE}{pos:Pos}
noncomputable def aty:TS:=λD σ H=>D.nx σ H
noncomputable def ayL(t u:TS):TS:=λD σ H=>t {D with nx:=u D } σ H
theorem aa9:PSs X [] aty:=⟨λ_ _ σ H _ I h=>wpAny_execs_nil ⟨σ,H,I,h⟩⟩
theorem aak(h1:PS X st t)(h2:PSs X rest u):PSs X (st::rest) (ayL t u):=by
 refine⟨λpins s σ H D I h=>?_⟩
 refine wpAny_execs_cons (thn (h1 pins s σ H {D with nx:=u D } I h) λf s1 q=>?_)
 cases f with
 |next =>
  obtain⟨σ',H',I',q⟩:=q
  exact h2 pins s1 σ' H' D I' q
 |ret v=>exact q
 |brk=>exact q
 |cont=>exact q
theorem aap(h1:PS X st t):PSs X [st] t:=by
 refine⟨λpins s σ H D I h=>?_⟩
 refine wpAny_execs_cons (thn (h1 pins s σ H D I h) λf s1 q=>?_)
 cases f with
 |next=>exact wpAny_execs_nil q
 |ret v=>exact q
 |brk=>exact q
 |cont=>exact q
theorem Inv.quiet{pins:List (Addr × Obj)}{σ : St}{H:Hp}{s:Shared}(I:Inv X pins σ H s):interactive X.env=false:=by simp[interactive,I.ok.kind]
noncomputable def arf(te:TE):TS:=λD σ H=>te σ H λ_ H1=>D.nx σ H1
theorem arh(he:PE X e te)(hs:swapsWith e none pos.line X.env=pure false:=by rfl):PS X (.Expr e pos) (arf te):=by
 refine⟨λpins s σ H D I h=>?_⟩
 exact wpAny_Expr_any (thn (he pins s σ H _ I h) λv s1 ⟨x,H1,I1,r1,q1⟩=>⟨σ,H1,I1,q1⟩) I.quiet hs
noncomputable def ayM(te:TE):TS:=λD σ H=>te σ H D.rt
theorem aaB(he:PE X e te):PS X (.Return (some e) pos) (ayM te):=by
 refine⟨λpins s σ H D I h=>?_⟩
 exact wpAny_Return_some (thn (he pins s σ H _ I h) λv s1 ⟨x,H1,I1,r1,q1⟩=>⟨x,σ,H1,I1,r1,q1⟩)
noncomputable def ayN(c:TT)(t u:TS):TS:=λD σ H=>c σ H λb H1=>if b=true then t D σ H1 else u D σ H1
theorem acF{c:Expr}{a b:List Stmt}{tc:TT}(hc:PT X c tc)(ha:PSs X a t)(hb:PSs X b u):PS X (.If c a b pos) (ayN tc t u):=by
 refine⟨λpins s σ H D I h=>?_⟩
 refine wpAny_If (thn (hc pins s σ H _ I h) λd s1 ⟨H1,I1,q1⟩=>?_)
 cases d with
 |true=>exact ha pins s1 σ H1 D I1 q1
 |false=>exact hb pins s1 σ H1 D I1 q1
end
noncomputable abbrev TG:=V->St->Hp->(St->Hp->Prop)->Prop
noncomputable abbrev TGs:=List V->St->Hp->(St->Hp->Prop)->Prop
noncomputable def PG(X:Cx)(target:Expr)(t:TG):Prop :=
 ∀(pins:List (Addr × Obj)) (s:Shared) (σ : St) (H:Hp) (v:V) (u:Value) (Q:St->Hp->Prop),Inv X pins σ H s->RelV v u->t v σ H Q ->
  wpAny (model X.prog X.w) X.A (assign target X.env u) (λ_ s'=>∃σ' H',Inv X pins σ' H' s'/\Q σ' H') X.xe s
noncomputable def PGs(X:Cx)(ts:List Expr)(t:TGs):Prop :=
 ∀(pins:List (Addr × Obj)) (s:Shared) (σ : St) (H:Hp) (vs:List V) (us:List Value) (Q:St->Hp->Prop),Inv X pins σ H s->Vals vs us->t vs σ H Q ->
  wpAny (model X.prog X.w) X.A (assignInOrder ((assignEach ts X.env).map (·.2)) us) (λ_ s'=>∃σ' H',Inv X pins σ' H' s'/\Q σ' H') X.xe s
noncomputable abbrev awX:=V->V->V->Hp->(Hp->Prop)->Prop
noncomputable def ayO(X:Cx)(t:awX):Prop :=
 ∀(pins:List (Addr × Obj)) (s:Shared) (σ : St) (H:Hp) (o i v:V) (ov iv u:Value) (Q:Hp->Prop),Inv X pins σ H s->RelV o ov->RelV i iv->RelV v u->t o i v H Q ->
  wpAny (model X.prog X.w) X.A (setItem ov iv u) (λ_ s'=>∃H',Inv X pins σ H' s'/\Q H') X.xe s
section
variable {X:Cx}{pos:Pos}
noncomputable def acp(i:Nat):TG:=λv σ H Q=>Q (σ.set i (some v)) H
theorem am9{i:Nat}{x:Str}(hN:X.N.Nodup)(hi:X.N[i]?=some x)(hx:Loc X.env.scope x)(hf:X.fn x=true\/X.env.scope.names.lookup x=some .local:=by first|exact .inl rfl|exact .inr rfl|assumption):PG X (.Name x pos) (acp i):=by
 intro pins s σ H v u Q I r h
 exact wpAny_assign_Name (agI I hN hi hx r (λs' I'=>⟨_,H,I',h⟩) hf)
noncomputable def awy:TGs:=λvs σ H Q=>vs=[]/\Q σ H
noncomputable def al6(t:TG)(u:TGs):TGs:=λvs σ H Q=>∃v r,vs=v::r/\t v σ H λσ' H'=>u r σ' H' Q
theorem afe:PGs X [] awy:=by
 intro pins s σ H vs us Q I r h
 obtain⟨e,h⟩:=h
 subst e
 cases r
 exact assignInOrder_nil ⟨σ,H,I,h⟩
theorem ab0{e:Expr}{es:List Expr}{t:TG}{u:TGs}(h1:PG X e t)(h2:PGs X es u)
  (hs:(assignEach (e::es) X.env).map (·.2)=assign e X.env::(assignEach es X.env).map (·.2):=by rfl):PGs X (e::es) (al6 t u):=by
 intro pins s σ H vs us Q I r h
 obtain⟨v,vr,e1,h⟩:=h
 subst e1
 cases r with
 |cons r rr =>
  rw[hs]
  refine assignInOrder_cons (thn (h1 pins s σ H _ _ _ I r h) λ_ s1 ⟨σ1,H1,I1,q1⟩=>?_)
  exact h2 pins s1 σ1 H1 _ _ Q I1 rr q1
noncomputable def awz(K:PySem.W.Frag)(n:Nat)(t:TGs):TG:=λv σ H Q=>∃a xs,v=.ref a/\SqT K H a xs/\xs.length=n/\t xs σ H Q
theorem agX{es:List Expr}{k:Nat}{t:TGs}{n:Nat}(hc:X.calm=true)(h:PGs X es t)
  (hn:(assignEach es X.env).length=n:=by rfl) (hst:(assignEach es X.env).findIdx? (·.1)=none:=by rfl):PG X (.Tuple es k pos) (awz X.K n t):=by
 intro pins s σ H v u Q I r hw
 obtain⟨a,xs,e1,hq,hl,hw⟩:=hw
 subst e1
 cases r
 obtain⟨its,rv,ht,hz⟩:=I.tuple hq
 refine assign_Tuple_tuple (I.ok.hd hc) ht (by simp[hn,<-hl,rv.length]) hst λh' hx=>?_
 have I1:Inv X pins σ H {s with heap:=h' }:=I.kept (t':=s.toks) λb o e=>hx b o (Nat.ne_of_lt (Heap.lt_size e)) e
 exact h pins _ σ H xs _ Q I1 (by simpa using rv) hw
noncomputable def ayP(to ti:TE)(t:awX):TG:=λv σ H Q=>to σ H λo H1=>ti σ H1 λi H2=>t o i v H2 λH3=>Q σ H3
theorem atz{o i:Expr}{to ti:TE}{t:awX}(ho:PE X o to)(hi:PE X i ti)(hs:ayO X t)
  (ha:∀v,assign (.Subscript o i pos) X.env v=(do
   let ov <-holding [v] (eval o X.env)
   let iv <-holding [v,ov] (eval i X.env)
   standAt pos
   holding [v,ov,iv] (setItem ov iv v)
   release [v,ov,iv] []):=by intro _; rfl):PG X (.Subscript o i pos) (ayP to ti t):=by
 intro pins s σ H v u Q I r h
 rw[ha]
 refine wpAny_bind (wpAny_holding (thn (ho pins s σ H _ I h) λov s1 ⟨x,H1,I1,r1,q1⟩=>?_))
 refine wpAny_bind (wpAny_holding (thn (hi pins s1 σ H1 _ I1 q1) λiv s2 ⟨y,H2,I2,r2,q2⟩=>?_))
 refine wpAny_bind (wpAny_standAt (wpAny_bind (wpAny_holding (thn (hs pins s2 σ H2 x y v ov iv u _ I2 r1 r2 r q2) λ_ s3 ⟨H3,I3,q3⟩=>?_))))
 exact wpAny_release ⟨σ,H3,I3,q3⟩
noncomputable def apd(te:TE)(g:TG):TS:=λD σ H=>te σ H λx H1=>g x σ H1 D.nx
theorem alh{tg e:Expr}{te:TE}{g:TG}(he:PE X e te)(hg:PG X tg g)(hs:swapsWithSole [tg] e pos.line X.env=pure false:=by rfl)(hw:swappedStores [tg] e X.env=pure none:=by rfl)
  (h1:(assignEach [tg] X.env).map (·.2)=[assign tg X.env]:=by rfl):PS X (.Assign [tg] e pos) (apd te g):=by
 refine⟨λpins s σ H D I h=>?_⟩
 refine wpAny_Assign_stores (thn (he pins s σ H _ I h) λv s1 ⟨x,H1,I1,r1,q1⟩=>?_) hs hw
 rw[h1]
 exact thn (hg pins s1 σ H1 x v _ I1 r1 q1) λ_ s2 q=>q
theorem aqB{i:Nat}{x:Str}{e:Expr}{te:TE}{pos':Pos}(hN:X.N.Nodup)(hi:X.N[i]?=some x)(hx:Loc X.env.scope x)(he:PE X e te)(hs:swapsWith e (some (.Name x pos')) pos.line X.env=pure false:=by rfl)(hf:X.fn x=true\/X.env.scope.names.lookup x=some .local:=by first|exact .inl rfl|exact .inr rfl|assumption) :
  PS X (.Assign [.Name x pos'] e pos) (apd te (acp i)):=by
 refine⟨λpins s σ H D I h=>?_⟩
 refine wpAny_Assign_Name (thn (he pins s σ H _ I h) λv s1 ⟨y,H1,I1,r1,q1⟩=>?_) hs
 exact agI I1 hN hi hx r1 (λs2 I2=>⟨_,H1,I2,q1⟩) hf
noncomputable def ayQ(i j:Nat)(ta:TA):TS:=λD σ H=>ta σ H λvs H1=>∃v w,vs=[v,w]/\D.nx ((σ.set i (some v)).set j (some w)) H1
theorem aqC{i j:Nat}{x y:Str}{a b:Expr}{ta:TA}{px py pt:Pos}{kt k2 pt2}(hc:X.calm=true)(hN:X.N.Nodup)(hi:X.N[i]?=some x)(hj:X.N[j]?=some y)(hij:i≠j)
  (hx:X.env.scope.names.lookup x=some .local) (hy:X.env.scope.names.lookup y=some .local) (ha:PA X [a,b] ta)
  (hw:swappedStores [.Tuple [.Name x px,.Name y py] kt pt] (.Tuple [a,b] k2 pt2) X.env=pure (some [x,y]))
  (hs:swapsWithSole [.Tuple [.Name x px,.Name y py] kt pt] (.Tuple [a,b] k2 pt2) pos.line X.env=pure false:=by rfl) :
  PS X (.Assign [.Tuple [.Name x px,.Name y py] kt pt] (.Tuple [a,b] k2 pt2) pos) (ayQ i j ta):=by
 refine⟨λpins s σ H D I h=>?_⟩
 rw[exec_Assign_arm]
 refine wpAny_bind (wpAny_standAt ?_)
 rw[hs]
 refine wpAny_bind (wpAny_pure ?_)
 rw[if_neg (by decide)]
 refine wpAny_bind (Tuple_ (thn (ha _ pins s σ H _ I h) λus s1 ⟨vs,H1,I1,r1,q1⟩=>?_))
 obtain⟨v,w,e1,q1⟩:=q1
 subst e1
 obtain⟨u1,u2,rfl,rv,rw'⟩:∃u1 u2,us=[u1,u2]/\RelV v u1/\RelV w u2:=by
  cases r1 with
  |cons p q =>
   cases q with
   |cons p' q' =>
    cases q'
    exact⟨_,_,rfl,p,p'⟩
 refine wpAny_newObj_type ?_ (by show 2<=sizeLine; decide)
 have I2:Inv X pins σ H1 {s1 with heap:=s1.heap.push {cls:=.type "tuple",data:=.seq [u1,u2].toArray } }:=I1.kept (t':=s1.toks) λb o e=>Heap.get?_push_of_some _ e
 rw[hw]
 refine wpAny_bind (wpAny_pure ?_)
 show wpAny (model X.prog X.w) X.A (do rule "assign.swapped-stores"; let items <-unpackItems (.ref s1.heap.objs.size) 2 none; assignInOrder [λv=>bindName X.env y v,λv=>bindName X.env x v] items.reverse; pure Flow.next) _ _ _
 refine wpAny_bind (wpAny_rule (wpAny_bind (unpackItems_tuple (items:=#[u1,u2]) (I.ok.hd hc) (IsTup.new s1.heap _) λh' hx'=>?_)))
 have I3:=I2.kept (h':=h') (t':=s1.toks) λb o e=>hx' b o (Nat.ne_of_lt (Heap.lt_size e)) e
 show wpAny _ _ (assignInOrder [λv=>bindName X.env y v,λv=>bindName X.env x v] [u2,u1] >>= λ_=>pure Flow.next) _ _ _
 refine wpAny_bind (assignInOrder_cons (wpAny_bindName (agI I3 hN hj (.inl hy) rw' (λs2 I4=>?_) (.inr hy))))
 refine assignInOrder_cons (wpAny_bindName (agI I4 hN hi (.inl hx) rv (λs3 I5=>assignInOrder_nil (wpAny_pure ?_)) (.inr hx)))
 rw[List.set_comm _ _ (Ne.symm hij)]at I5
 exact⟨_,H1,I5,q1⟩
end
section
variable {X:Cx}{pos:Pos}
noncomputable def aqD(c:TT)(tb:TS):TS:=λD σ H=>∃W:Nat->St->Hp->Prop,(∃m,W m σ H)/\∀m σ H,W m σ H ->
 c σ H λb H1=>if b=true then ∃N:St->Hp->Prop,(∀σ' H',N σ' H'->∃m',m'<m/\W m' σ' H')/\tb {D with nx:=N,ct:=N,bk:=D.nx } σ H1 else D.nx σ H1
theorem aix{c:Expr}{body:List Stmt}{tc:TT}{tb:TS}(hp:PassesOwn (model X.prog X.w) X.A X.env X.xe)(hc:PT X c tc)(hb:PSs X body tb):PS X (.While c body [] pos) (aqD tc tb):=by
 refine⟨λpins s σ H D I h=>?_⟩
 obtain⟨W,⟨m0,w0⟩,turn⟩:=h
 refine wpAny_While (codeAny_whileLoop (λn s'=>∃σ' H',Inv X pins σ' H' s'/\W n σ' H') ?_ m0 ⟨σ,H,I,w0⟩)
 rintro n s1 ⟨σ1,H1,I1,w1⟩
 refine wpAny_passesOwn hp (thn (hc pins s1 σ1 H1 _ I1 (turn n σ1 H1 w1)) λb s2 ⟨H2,I2,q2⟩=>?_)
 cases b with
 |true =>
  obtain⟨N,hN,q2⟩:=q2
  rw[if_pos rfl]
  refine wpAny_passesOwn hp (thn (hb pins s2 σ1 H2 _ I2 q2) λf s3 q3=>?_)
  cases f with
  |next =>
   obtain⟨σ3,H3,I3,n3⟩:=q3
   obtain⟨m',hm,w3⟩:=hN σ3 H3 n3
   exact⟨m',hm,σ3,H3,I3,w3⟩
  |cont =>
   obtain⟨σ3,H3,I3,n3⟩:=q3
   obtain⟨m',hm,w3⟩:=hN σ3 H3 n3
   exact⟨m',hm,σ3,H3,I3,w3⟩
  |brk=>exact q3
  |ret v=>exact q3
 |false =>
  rw[if_neg Bool.false_ne_true]
  exact wpAny_execs_nil ⟨σ1,H2,I2,q2⟩
end
structure It where
 go:Nat->Hp->Prop
 yld:Nat->Hp->V->Hp->Prop
 stop:Nat->Hp->Prop
noncomputable def afg(X:Cx)(pins:List (Addr × Obj))(H:Hp)(b:Addr):Prop :=
 H b=none/\b≠X.env.locals/\b∉X.fs/\(b∈X.ex\/X.s₀.heap.objs.size<=b)/\(∀x c,X.env.cells.lookup x=some c->c≠b)/\∀p∈X.pn++pins,p.1≠b
theorem Inv.ape{X:Cx}{pins:List (Addr × Obj)}{σ : St}{H H':Hp}{s:Shared}{b:Addr}(I:Inv X pins σ H s)(hb:s.heap.objs.size<=b)(hn:H' b=none):afg X pins H' b:=by
 refine⟨hn,Nat.ne_of_gt (Nat.lt_of_lt_of_le I.lt hb),I.azu hb,.inr (Nat.le_trans I.sz hb),λx c e z=>?_,λp hp z=>?_⟩
 ·obtain⟨v,q⟩:=I.cell x c e
  exact absurd (Nat.lt_of_lt_of_le q.lt (by rw[z]; exact hb)) (Nat.lt_irrefl _)
 ·exact absurd (Nat.lt_of_lt_of_le (Heap.lt_size (I.pin p hp).1) (by rw[z]; exact hb)) (Nat.lt_irrefl _)
structure Turn(P:Program)(w:World)(K:PySem.W.Frag)(tg:Expr)(J:It)(fp:List Addr)(it:Addr)(tn:Nat->Heap->Prop):Prop where
 mem:it∈fp
 obj:∀i h,tn i h->∀b∈fp,∃o,h.get? b=some o/\∀v,o.data ≠ .cell v
 keep:∀i h h',tn i h->(∀b∈fp,∀o,h.get? b=some o->h'.get? b=some o)->tn i h'
 item:∀(X:Cx),X.prog=P->X.w=w->X.K=K->X.calm=true->∀(i:Nat) (pins:List (Addr × Obj)) (s:Shared) (σ : St) (H:Hp) (E:Value->Shared->Prop),Inv X pins σ H s->(∀b∈fp,afg X pins H b)->tn i s.heap->J.go i H ->
  wpAny (model P w) X.A (pyNext (.ref it)) (λr s1=>∃u,r=some u /\
   wpAny (model P w) X.A (letOwnedTupleGo tg (.ref it) u) (λ_ s2=>∃x H',Inv X pins σ H' s2/\RelV x u/\J.yld i H x H'/\tn (i+1) s2.heap/\∀b∈fp,H' b=none) E s1) E s
 done:∀(X:Cx),X.prog=P->X.w=w->X.K=K->X.calm=true->∀(i:Nat) (pins:List (Addr × Obj)) (s:Shared) (σ : St) (H:Hp) (E:Value->Shared->Prop),Inv X pins σ H s->(∀b∈fp,afg X pins H b)->tn i s.heap->J.stop i H ->
  wpAny (model P w) X.A (pyNext (.ref it)) (λr s1=>r=none/\Inv X pins σ H s1) E s
 self:∀(A:Around) (i:Nat) (s:Shared) (Q:Value->Shared->Prop) (E:Value->Shared->Prop),tn i s.heap->Q (.ref it) s->wpAny (model P w) A (pyIter (.ref it)) Q E s
noncomputable abbrev TI:=St->Hp->(It->Hp->Prop)->Prop
noncomputable def PIE(X:Cx)(pins:List (Addr × Obj))(σ : St)(tg:Expr)(R:It->Hp->Prop)(itv:Value)(s2:Shared):Prop :=
 ∃(it:Addr) (fp:List Addr) (tn:Nat->Heap->Prop) (J:It) (H':Hp),itv=.ref it/\Inv X pins σ H' s2/\Turn X.prog X.w X.K tg J fp it tn/\tn 0 s2.heap/\(∀b∈fp,afg X pins H' b)/\R J H'
noncomputable def PI(X:Cx)(tg iter:Expr)(wi:TI):Prop :=
 ∀(pins:List (Addr × Obj)) (s:Shared) (σ : St) (H:Hp) (R:It->Hp->Prop),Inv X pins σ H s->wi σ H R ->
  wpAny (model X.prog X.w) X.A (eval iter X.env) (λv s1=>wpAny (model X.prog X.w) X.A (pyIter v) (PIE X pins σ tg R) X.xe s1) X.xe s
theorem ari{M:Model}{A:Around}{E:Value→Shared→Prop}{s:Shared}{tg:Expr}{it:Addr}{u:Value}{o:Obj}{n:String}{vs:Array Value}{Q:Unit→Shared→Prop}(ho:s.heap.get? it=some o)(hc:o.cls=.type n)(hd:o.data=.fields vs)
    (hn : ["enumerate", "zip", "dict_itemiterator", "dict_reverseitemiterator", "odict_iterator", "itertools.zip_longest", "itertools.pairwise"].contains n=false) (hQ:Q () s):wpAny M A (letOwnedTupleGo tg (.ref it) u) Q E s:=by
  unfold letOwnedTupleGo
  cases tg <;> first
    |exact wpAny_pure hQ
    | (cases u <;> first
        |exact wpAny_pure hQ
        | (refine wpAny_bind (wpAny_load ho ?_)
           rw[hc,hd]
           show wpAny M A (if(["enumerate", "zip", "dict_itemiterator", "dict_reverseitemiterator", "odict_iterator", "itertools.zip_longest", "itertools.pairwise"].contains n&&vs[0]? == some (rawInt _))=true then _ else _) Q E s
           rw[if_neg (by intro h; rw[hn,Bool.false_and]at h; cases h)]
           exact wpAny_pure hQ))
noncomputable def Itl(K:PySem.W.Frag)(a:Addr):It :=
 ⟨λi H=>∃xs x,SqL K H a xs/\xs[i]?=some x,λi H x H'=>H'=H/\∀xs,SqL K H a xs->xs[i]?=some x,λi H=>∃xs,SqL K H a xs/\xs.length<=i⟩
noncomputable def Itt(K:PySem.W.Frag)(a:Addr):It :=
 ⟨λi H=>∃xs x,SqT K H a xs/\xs[i]?=some x,λi H x H'=>H'=H/\∀xs,SqT K H a xs->xs[i]?=some x,λi H=>∃xs,SqT K H a xs/\xs.length<=i⟩
noncomputable def Itr(lo:Int)(n:Nat):It:=⟨λi _=>i<n,λi H x H'=>H'=H/\x=.int (lo+i),λi _=>n<=i⟩
theorem ana{P:Program}{w:World}{K:PySem.W.Frag}{tg:Expr}(a it:Addr):Turn P w K tg (Itl K a) [it] it (λi h=>h.IsListIter it a i) where
 mem:=by simp
 obj:=λi h st b hb=>by
  have e:b=it:=by simpa using hb
  subst e
  obtain⟨o,e,c,d⟩:=st
  exact⟨o,e,λv z=>by rw[d]at z; cases z⟩
 keep:=λi h h' st k=>st.at λo e=>k it (by simp) o e
 item:=by
  intro X hP hw hK hc i pins s σ H E I hf st hg
  subst hP hw hK
  obtain⟨xs,x,hq,hx⟩:=hg
  obtain⟨its,rv,p,hz⟩:=I.list hq
  obtain⟨u,hu,ru⟩:=rv.get hx
  obtain⟨f0,f1,f2,f3,f4,f5⟩:=hf it (by simp)
  refine wpAny_pyNext_list_item st p.isList (x:=u) (by simpa using hu) λh' st' sb=>?_
  have I1:Inv X pins σ H {s with heap:=h' }:=I.turned (t':=s.toks) (λb o hb e=>(sb.2 b hb).trans e) f0 f1 f3 f4 f5
  obtain⟨o,e,c,d⟩:=id st'
  exact⟨u,rfl,ari (s:={s with heap:=h' }) e c d (by decide) ⟨x,H,I1,ru,⟨rfl,λys hy=>by rw[I.agJ hy hq]; exact hx⟩,st',λb hb=>(hf b hb).1⟩⟩
 done:=by
  intro X hP hw hK hc i pins s σ H E I hf st hg
  subst hP hw hK
  obtain⟨xs,hq,hx⟩:=hg
  obtain⟨its,rv,p,hz⟩:=I.list hq
  obtain⟨f0,f1,f2,f3,f4,f5⟩:=hf it (by simp)
  have hl:=rv.length
  exact wpAny_pyNext_list_end (I.ok.hd hc) st p.isList (by simp; omega) λh' eb=>⟨rfl,I.turned (t':=s.toks) (λb o hb e=>eb b o hb e) f0 f1 f3 f4 f5⟩
 self:=λ_ _ _ _ _ st h=>wpAny_pyIter_listiter st h
theorem al7{P:Program}{w:World}{K:PySem.W.Frag}{tg:Expr}(a it:Addr):Turn P w K tg (Itt K a) [it] it (λi h=>h.IsTupleIter it a i) where
 mem:=by simp
 obj:=λi h st b hb=>by
  have e:b=it:=by simpa using hb
  subst e
  obtain⟨o,e,c,d⟩:=st
  exact⟨o,e,λv z=>by rw[d]at z; cases z⟩
 keep:=λi h h' st k=>st.at λo e=>k it (by simp) o e
 item:=by
  intro X hP hw hK hc i pins s σ H E I hf st hg
  subst hP hw hK
  obtain⟨xs,x,hq,hx⟩:=hg
  obtain⟨its,rv,p,hz⟩:=I.tuple hq
  obtain⟨u,hu,ru⟩:=rv.get hx
  obtain⟨f0,f1,f2,f3,f4,f5⟩:=hf it (by simp)
  refine wpAny_pyNext_tuple_item st (show s.heap.IsTuple a its.toArray from p) (x:=u) (by simpa using hu) λh' st' sb=>?_
  have I1:Inv X pins σ H {s with heap:=h' }:=I.turned (t':=s.toks) (λb o hb e=>(sb.2 b hb).trans e) f0 f1 f3 f4 f5
  obtain⟨o,e,c,d⟩:=id st'
  exact⟨u,rfl,ari (s:={s with heap:=h' }) e c d (by decide) ⟨x,H,I1,ru,⟨rfl,λys hy=>by rw[I.aju hy hq]; exact hx⟩,st',λb hb=>(hf b hb).1⟩⟩
 done:=by
  intro X hP hw hK hc i pins s σ H E I hf st hg
  subst hP hw hK
  obtain⟨xs,hq,hx⟩:=hg
  obtain⟨its,rv,p,hz⟩:=I.tuple hq
  obtain⟨f0,f1,f2,f3,f4,f5⟩:=hf it (by simp)
  have hl:=rv.length
  exact wpAny_pyNext_tuple_end (I.ok.hd hc) st (show s.heap.IsTuple a its.toArray from p) (by simp; omega) λh' eb=>⟨rfl,I.turned (t':=s.toks) (λb o hb e=>eb b o hb e) f0 f1 f3 f4 f5⟩
 self:=λ_ _ _ _ _ st h=>wpAny_pyIter_tupleiter st h
theorem al8{P:Program}{w:World}{K:PySem.W.Frag}{tg:Expr}(it:Addr)(lo:Int)(n:Nat):Turn P w K tg (Itr lo n) [it] it (λi h=>IsRangeIter h it (lo+(i:Nat)*1) ((n:Int)-(i:Nat)) 1) where
 mem:=by simp
 obj:=λi h st b hb=>by
  have e:b=it:=by simpa using hb
  subst e
  exact⟨_,st,λv z=>by
   have z':Data.fields _=Data.cell v:=z
   cases z'⟩
 keep:=λi h h' st k=>k it (by simp) _ st
 item:=by
  intro X hP hw hK hc i pins s σ H E I hf st hg
  subst hP hw hK
  obtain⟨f0,f1,f2,f3,f4,f5⟩:=hf it (by simp)
  have W:=Walks.range (prog:=X.prog) (w:=X.w) (I.ok.hd hc) it lo 1 n
  refine W.item i s _ _ hg st λv h' tk hv st' kk=>?_
  obtain⟨t,rfl⟩:=hv
  have I1:Inv X pins σ H {s with heap:=h',toks:=tk }:=I.turned (λb o hb e=>kk b o (by simpa using hb) e) f0 f1 f3 f4 f5
  refine⟨_,rfl,ari (s:={s with heap:=h',toks:=tk }) (n := "range_iterator") st' rfl rfl (by decide) ⟨.int (lo+i),H,I1,⟨t,?_⟩,⟨rfl,rfl⟩,st',λb hb=>(hf b hb).1⟩⟩
  rw[Int.mul_one]
 done:=by
  intro X hP hw hK hc i pins s σ H E I hf st hg
  subst hP hw hK
  obtain⟨f0,f1,f2,f3,f4,f5⟩:=hf it (by simp)
  exact wpAny_pyNext_range_end (I.ok.hd hc) st (by have:n<=i:=hg; omega) λh' eb=>⟨rfl,I.turned (t':=s.toks) (λb o hb e=>eb b o hb e) f0 f1 f3 f4 f5⟩
 self:=λ_ _ _ _ _ st h=>wpAny_pyIter_rangeiter st h
end L2
namespace L2
open PySem PySem.Spec PyProof.Rows
section
variable {X:Cx}{tg:Expr}
noncomputable def atA(K:PySem.W.Frag)(tl:TE):TI:=λσ H R=>tl σ H λx H1=>∃a,x=.ref a/\(∃xs,SqL K H1 a xs)/\R (Itl K a) H1
noncomputable def ayR(K:PySem.W.Frag)(tl:TE):TI:=λσ H R=>tl σ H λx H1=>∃a,x=.ref a/\(∃xs,SqT K H1 a xs)/\R (Itt K a) H1
theorem arj{l:Expr}{tl:TE}(hl:PE X l tl):PI X tg l (atA X.K tl):=by
 intro pins s σ H R I h
 refine thn (hl pins s σ H _ I h) λv s1 ⟨x,H1,I1,r1,q1⟩=>?_
 obtain⟨a,e,⟨xs,hq⟩,q⟩:=q1
 subst e
 cases r1
 obtain⟨its,rv,p,hz⟩:=I1.list hq
 refine wpAny_pyIter_list p.isList ?_
 refine⟨s1.heap.objs.size,[s1.heap.objs.size],_,_,H1,rfl,I1.kept (t':=s1.toks) λb o e=>Heap.get?_push_of_some _ e,ana a _,⟨_,Heap.get?_push_size _ rfl,rfl,rfl⟩,λb hb=>?_,q⟩
 have e:b=s1.heap.objs.size:=by simpa using hb
 subst e
 exact I1.ape (Nat.le_refl _) (I1.hok.fresh (Nat.le_refl _))
theorem atB{l:Expr}{tl:TE}(hl:PE X l tl):PI X tg l (ayR X.K tl):=by
 intro pins s σ H R I h
 refine thn (hl pins s σ H _ I h) λv s1 ⟨x,H1,I1,r1,q1⟩=>?_
 obtain⟨a,e,⟨xs,hq⟩,q⟩:=q1
 subst e
 cases r1
 obtain⟨its,rv,p,hz⟩:=I1.tuple hq
 refine wpAny_pyIter_tuple (show s1.heap.IsTuple a its.toArray from p) ?_
 refine⟨s1.heap.objs.size,[s1.heap.objs.size],_,_,H1,rfl,I1.kept (t':=s1.toks) λb o e=>Heap.get?_push_of_some _ e,al7 a _,⟨_,Heap.get?_push_size _ rfl,rfl,rfl⟩,λb hb=>?_,q⟩
 have e:b=s1.heap.objs.size:=by simpa using hb
 subst e
 exact I1.ape (Nat.le_refl _) (I1.hok.fresh (Nat.le_refl _))
theorem apf{pins:List (Addr × Obj)}{σ : St}{H:Hp}{s:Shared}{R:It->Hp->Prop}{E:Value->Shared->Prop}{lo hi:Int}{t u v:Tok}{tk:Nat}(I:Inv X pins σ H s)(h1 : -(2 ^ 62)<=lo)(h2:lo<2 ^ 62)(h3 : -(2 ^ 62)<=hi)(h4:hi<2 ^ 62)
  (q:R (Itr lo (hi-lo).toNat) H):wpAny (model X.prog X.w) X.A (pyIter (.ref s.heap.objs.size)) (PIE X pins σ tg R) E {s with heap:=s.heap.push {cls:=.type "range",data:=.fields #[.int lo t,.int hi u,.int 1 v] },toks:=tk }:=by
 refine wpAny_pyIter_range (IsRange.new ..) (small_one h1 h2 h3 h4) ?_
 have I1:Inv X pins σ H {s with heap:=s.heap.push {cls:=.type "range",data:=.fields #[.int lo t,.int hi u,.int 1 v] },toks:=tk }:=I.kept λb o e=>Heap.get?_push_of_some _ e
 refine⟨(s.heap.push {cls:=.type "range",data:=.fields #[.int lo t,.int hi u,.int 1 v] }).objs.size,[(s.heap.push {cls:=.type "range",data:=.fields #[.int lo t,.int hi u,.int 1 v] }).objs.size],_,_,H,rfl,
  I1.kept (t':=tk) λb o e=>Heap.get?_push_of_some _ e,al8 _ lo (hi-lo).toNat,?_,λb hb=>?_,q⟩
 ·have e1:lo+((0:Nat):Int)*1=lo:=by simp
  have e2:(((hi-lo).toNat:Nat):Int)-((0:Nat):Int)=Builtin.Range.rangeSize lo hi 1:=by rw[rangeSize_one]; split <;> omega
  show IsRangeIter _ _ (lo+((0:Nat):Int)*1) ((((hi-lo).toNat:Nat):Int)-((0:Nat):Int)) 1
  rw[e1,e2]
  exact Heap.get?_push_size _ rfl
 ·have e:b=(s.heap.push {cls:=.type "range",data:=.fields #[.int lo t,.int hi u,.int 1 v] }).objs.size:=by simpa using hb
  subst e
  exact I1.ape (Nat.le_refl _) (I1.hok.fresh (Nat.le_refl _))
noncomputable def ark(ta:TA):TI:=λσ H R=>ta σ H λvs H1=>∃j:Int,vs=[.int j] /\ -(2 ^ 62)<=j/\j<2 ^ 62/\R (Itr 0 j.toNat) H1
theorem anb{a:Expr}{ta:TA}{p pos:Pos}(hg:Gl X "range") (hm:X.mg "range" = none) (ha:PA X [a] ta) (hs:starEach [a] X.env=[(false,eval a X.env)]:=by rfl):PI X tg (.Call (.Name "range" p) [a] [] pos) (ark ta):=by
 intro pins s σ H R I h
 refine Call_ (afq I hg hm boot_range (PyProof.Rows.callWith_type1 (thn (ha pos pins s σ H _ I h) λus s1 ⟨vs,H1,I1,r1,q1⟩=>?_) hs rfl))
 obtain⟨j,e,q1,q2,q⟩:=q1
 subst e
 cases r1 with
 |cons r rr =>
  cases rr
  obtain⟨t,rfl⟩:=r
  exact call_range_1 (apf I1 (by omega) (by omega) q1 q2 (by simpa using q))
noncomputable def ayS(wi:TI)(g:TG)(tb:TS):TS:=λD σ H=>wi σ H λJ H1=>∃W:Nat->Nat->St->Hp->Prop,(∃m,W 0 m σ H1)/\∀i m σ H,W i m σ H ->
 (J.stop i H/\D.nx σ H)\/(J.go i H/\∃N:St->Hp->Prop,(∀σ' H',N σ' H'->∃m',m'<m/\W (i+1) m' σ' H')/\∀x H',J.yld i H x H'->g x σ H' λσ2 H2=>tb {D with nx:=N,ct:=N,bk:=D.nx } σ2 H2)
noncomputable def ali(fp:List Addr)(h:Heap):List (Addr × Obj):=fp.filterMap λb=>(h.get? b).map λo=>(b,o)
theorem acy{fp:List Addr}{h:Heap}{b:Addr}{o:Obj}(hb:b∈fp)(e:h.get? b=some o):(b,o)∈ali fp h:=List.mem_filterMap.mpr ⟨b,hb,by rw[e]; rfl⟩
theorem anc{fp:List Addr}{h:Heap}{p:Addr × Obj}(hp:p∈ali fp h):p.1∈fp/\h.get? p.1=some p.2:=by
 obtain⟨b,hb,e⟩:=List.mem_filterMap.mp hp
 cases q:h.get? b with
 |none=>rw[q]at e; cases e
 |some o =>
  rw[q]at e
  have e':(b,o)=p:=Option.some.inj e
  subst e'
  exact⟨hb,q⟩
theorem Inv.pinned{pins:List (Addr × Obj)}{σ : St}{H:Hp}{s:Shared}{fp:List Addr}(I:Inv X pins σ H s)(hf:∀b∈fp,afg X pins H b)(ho:∀b∈fp,∃o,s.heap.get? b=some o/\∀v,o.data ≠ .cell v):Inv X (pins++ali fp s.heap) σ H s :=
 I.aiw λp hp=>(List.mem_append.mp hp).elim (λz=>I.pin p (List.mem_append_right _ z)) λz=>by
  obtain⟨hb,e⟩:=anc z
  obtain⟨f0,f1,f2,_⟩:=hf p.1 hb
  obtain⟨o,e',d⟩:=ho p.1 hb
  rw[e]at e'; cases e'
  exact⟨e,f0,f1,f2,d⟩
theorem Inv.aeV{pins pl:List (Addr × Obj)}{σ : St}{H:Hp}{s:Shared}(I:Inv X (pins++pl) σ H s):Inv X pins σ H s:=I.aiw λp hp=>I.pin p (List.mem_append_right _ (List.mem_append_left _ hp))
theorem aea{iter:Expr}{body:List Stmt}{wi:TI}{g:TG}{tb:TS}{pos:Pos}(hp:PassesOwn (model X.prog X.w) X.A X.env X.xe)(hc:X.calm=true)(hi:PI X tg iter wi)(hg:PG X tg g)(hb:PSs X body tb)
  (hs:∀x,foldedSetIterable iter X.env x=pure x:=by intro _; rfl):PS X (.For tg iter body [] pos) (ayS wi g tb):=by
 refine⟨λpins s σ H D I h=>?_⟩
 refine wpAny_For (thn (hi pins s σ H _ I h) λv s1 h1=>thn h1 λitv s2 h2=>?_) hs
 obtain⟨it,fp,tn,J,H2,e,I2,T,st2,f2,W,⟨m0,w0⟩,turn⟩:=h2
 subst e
 -- what stays true of the iterator's objects through the loop
 have stat:∀{H':Hp},(∀b∈fp,H' b=none)->∀b∈fp,afg X pins H' b:=λhn b hb=>⟨hn b hb,(f2 b hb).2⟩
 refine codeAny_forLoop_any (λn s'=>∃i σ' H',Inv X pins σ' H' s'/\tn i s'.heap/\(∀b∈fp,H' b=none)/\W i n σ' H') ?_ m0 ⟨0,σ,H2,I2,st2,λb hb=>(f2 b hb).1,w0⟩
 rintro n s3 ⟨i,σ3,H3,I3,st3,fr3,w3⟩
 rcases turn i n σ3 H3 w3 with⟨stop,qn⟩|⟨go,N,hN,step⟩
 ·refine wpAny_passesOwn hp (thn (T.done X rfl rfl rfl hc i pins s3 σ3 H3 X.xe I3 (stat fr3) st3 stop) λr s4 ⟨hr,I4⟩=>?_)
  subst hr
  exact wpAny_execs_nil ⟨σ3,H3,I4,qn⟩
 ·refine wpAny_passesOwn hp (thn (T.item X rfl rfl rfl hc i pins s3 σ3 H3 X.xe I3 (stat fr3) st3 go) λr s4 ⟨u,hr,h4⟩=>?_)
  subst hr
  refine wpAny_passesOwn hp (thn h4 λ_ s5 ⟨x,H5,I5,r5,y5,st5,fr5⟩=>?_)
  have I5':=I5.pinned (stat fr5) (T.obj _ _ st5)
  refine wpAny_passesOwn hp (thn (hg _ s5 σ3 H5 x u _ I5' r5 (step x H5 y5)) λ_ s6 ⟨σ6,H6,I6,q6⟩=>?_)
  refine wpAny_passesOwn hp (thn (hb _ s6 σ6 H6 _ I6 q6) λf s7 q7=>?_)
  have again:∀{σ7:St} {H7:Hp},Inv X (pins++ali fp s5.heap) σ7 H7 s7->N σ7 H7->∃m,m<n/\∃i σ' H',Inv X pins σ' H' s7/\tn i s7.heap/\(∀b∈fp,H' b=none)/\W i m σ' H':=λ{σ7 H7} I7 n7=>by
   obtain⟨m',hm,w7⟩:=hN σ7 H7 n7
   refine⟨m',hm,i+1,σ7,H7,I7.aeV,T.keep _ _ _ st5 λb hb o e=>(I7.pin (b,o) (List.mem_append_right _ (List.mem_append_right _ (acy hb e)))).1,λb hb=>?_,w7⟩
   obtain⟨o,e,d⟩:=T.obj _ _ st5 b hb
   exact(I7.pin (b,o) (List.mem_append_right _ (List.mem_append_right _ (acy hb e)))).2.1
  cases f with
  |next=>obtain⟨σ7,H7,I7,n7⟩:=q7; exact again I7 n7
  |cont=>obtain⟨σ7,H7,I7,n7⟩:=q7; exact again I7 n7
  |brk=>obtain⟨σ7,H7,I7,q7⟩:=q7; exact⟨σ7,H7,I7.aeV,q7⟩
  |ret v=>obtain⟨x7,σ7,H7,I7,r7,q7⟩:=q7; exact⟨x7,σ7,H7,I7.aeV,r7,q7⟩
end
end L2
namespace L2
open PySem PySem.Spec PyProof.Rows
noncomputable abbrev R2:=V->V->Hp->VK->Prop
noncomputable def OpR(X:Cx)(f:Value->Value->Sem Value)(r:R2):Prop :=
 ∀(pins:List (Addr × Obj)) (s:Shared) (σ : St) (H:Hp) (x y:V) (v u:Value) (Q:VK),Inv X pins σ H s->RelV x v->RelV y u->r x y H Q ->
  wpAny (model X.prog X.w) X.A (f v u) (EP X pins σ Q) X.xe s
noncomputable def UnR(X:Cx)(f:Value->Sem Value)(r:V->Hp->VK->Prop):Prop :=
 ∀(pins:List (Addr × Obj)) (s:Shared) (σ : St) (H:Hp) (x:V) (v:Value) (Q:VK),Inv X pins σ H s->RelV x v->r x H Q ->
  wpAny (model X.prog X.w) X.A (f v) (EP X pins σ Q) X.xe s
noncomputable def aeg(X:Cx)(f:Value)(r:List V->Hp->VK->Prop):Prop :=
 ∀(pins:List (Addr × Obj)) (s:Shared) (σ : St) (H:Hp) (xs:List V) (us:List Value) (Q:VK),Inv X pins σ H s->Vals xs us->r xs H Q ->
  wpAny (model X.prog X.w) X.A (call f us) (EP X pins σ Q) X.xe s
noncomputable def azx(X:Cx)(r:V->Hp->(Bool->Hp->Prop)->Prop):Prop :=
 ∀(pins:List (Addr × Obj)) (s:Shared) (σ : St) (H:Hp) (x:V) (v:Value) (Q:Bool->Hp->Prop),Inv X pins σ H s->RelV x v->r x H Q ->
  wpAny (model X.prog X.w) X.A (truthy v) (TP X pins σ Q) X.xe s
noncomputable def tOp(r:R2)(ta tb:TE):TE:=λσ H Q=>ta σ H λx H1=>tb σ H1 λy H2=>r x y H2 Q
noncomputable def tUn(r:V->Hp->VK->Prop)(ta:TE):TE:=λσ H Q=>ta σ H λx H1=>r x H1 Q
noncomputable def rI(C:Int->Int->Prop)(g:Int->Int->V):R2:=λx y H Q=>∃i j,x=.int i/\y=.int j/\C i j/\Q (g i j) H
noncomputable def rI0(g:Int->Int->V):R2:=λx y H Q=>∃i j,x=.int i/\y=.int j/\Q (g i j) H
noncomputable def rU(g:Int->V):V->Hp->VK->Prop:=λx H Q=>∃i,x=.int i/\Q (g i) H
section
variable {X:Cx}{a b c:Expr}{ta tb tc:TE}{pos:Pos}
theorem awY(ha:PE X a ta)(hb:PE X b tb){pins:List (Addr × Obj)}{s:Shared}{σ : St}{H:Hp}{R:V->V->Hp->Prop}(I:Inv X pins σ H s)
  (h:ta σ H λx H1=>tb σ H1 λy H2=>R x y H2) {Q:Value->Shared->Prop} {f:Value->Value->Sem Value}
  (hf:∀v u s2 x y H2,Inv X pins σ H2 s2->RelV x v->RelV y u->R x y H2->wpAny (model X.prog X.w) X.A (f v u) Q X.xe s2) :
  wpAny (model X.prog X.w) X.A (eval a X.env) (λv s₁=>wpAny (model X.prog X.w) X.A (eval b X.env) (λu s₂=>wpAny (model X.prog X.w) X.A (f v u) Q X.xe s₂) X.xe s₁) X.xe s:=by
 refine thn (ha pins s σ H _ I h) λv s1 ⟨x,H1,I1,r1,q1⟩=>?_
 refine thn (hb pins s1 σ H1 _ I1 q1) λu s2 ⟨y,H2,I2,r2,q2⟩=>?_
 exact hf v u s2 x y H2 I2 r1 r2 q2
theorem aaY{op:Operator}{r:R2}(ho:OpR X (binaryOp op) r)(ha:PE X a ta)(hb:PE X b tb):PE X (.BinOp a op b pos) (tOp r ta tb):=by
 refine⟨λpins s σ H Q I h=>?_⟩
 exact wpAny_BinOp (awY ha hb I h λv u s2 x y H2 I2 rx ry q=>ho pins s2 σ H2 x y v u Q I2 rx ry q)
theorem apg{op:UnaryOp}{r:V->Hp->VK->Prop}(ho:UnR X (unaryOp op) r)(ha:PE X a ta):PE X (.UnaryOp op a pos) (tUn r ta):=by
 refine⟨λpins s σ H Q I h=>?_⟩
 exact UnaryOp_ (thn (ha pins s σ H _ I h) λv s1 ⟨x,H1,I1,r1,q1⟩=>ho pins s1 σ H1 x v Q I1 r1 q1)
theorem opI{f:Value->Value->Sem Value}{C:Int->Int->Prop}{g:Int->Int->Int}
  (rule:∀(i j:Int) (t u:Tok) (s:Shared) (Q:Value->Shared->Prop) (E:Value->Shared->Prop),C i j->Q (.int (g i j) s.toks) {s with toks:=s.toks+1 }->wpAny (model X.prog X.w) X.A (f (.int i t) (.int j u)) Q E s) :
  OpR X f (rI C λi j=>.int (g i j)):=by
 intro pins s σ H x y v u Q I rx ry h
 obtain⟨i,j,rfl,rfl,hc,q⟩:=h
 obtain⟨t,rfl⟩:=rx
 obtain⟨t',rfl⟩:=ry
 exact rule i j t t' s _ _ hc ⟨.int (g i j),H,I.tok _,⟨_,rfl⟩,q⟩
theorem ayT{f:Value->Value->Sem Value}{g:Int->Int->Int}
  (rule:∀(i j:Int) (t u:Tok) (s:Shared) (Q:Value->Shared->Prop) (E:Value->Shared->Prop),Q (.int (g i j) s.toks) {s with toks:=s.toks+1 }->wpAny (model X.prog X.w) X.A (f (.int i t) (.int j u)) Q E s) :
  OpR X f (rI0 λi j=>.int (g i j)):=by
 intro pins s σ H x y v u Q I rx ry h
 obtain⟨i,j,rfl,rfl,q⟩:=h
 obtain⟨t,rfl⟩:=rx
 obtain⟨t',rfl⟩:=ry
 exact rule i j t t' s _ _ ⟨.int (g i j),H,I.tok _,⟨_,rfl⟩,q⟩
theorem awA{f:Value->Value->Sem Value}{g:Int->Int->Bool}
  (rule:∀(i j:Int) (t u:Tok) (s:Shared) (Q:Value->Shared->Prop) (E:Value->Shared->Prop),Q (.bool (g i j)) s->wpAny (model X.prog X.w) X.A (f (.int i t) (.int j u)) Q E s) :
  OpR X f (rI0 λi j=>.bl (g i j)):=by
 intro pins s σ H x y v u Q I rx ry h
 obtain⟨i,j,rfl,rfl,q⟩:=h
 obtain⟨t,rfl⟩:=rx
 obtain⟨t',rfl⟩:=ry
 exact rule i j t t' s _ _ ⟨.bl (g i j),H,I,rfl,q⟩
noncomputable def awZ(i j:Int):Prop:=0<=j/\j<=1000000/\i.natAbs<2 ^ 64
theorem aqE:OpR X (binaryOp .Add) (rI0 λi j=>.int (i+j)):=ayT λ_ _ _ _ _ _ _ q=>add_int q
theorem ah5:OpR X (binaryOp .Sub) (rI0 λi j=>.int (i-j)):=ayT λ_ _ _ _ _ _ _ q=>sub_int q
theorem afh:OpR X (binaryOp .Mod) (rI (λ_ j=>j≠0) λi j=>.int (i.fmod j)):=opI λ_ _ _ _ _ _ _ hc q=>mod_int' hc q
theorem ah6:OpR X (binaryOp .Pow) (rI awZ λi j=>.int (i ^ j.toNat)):=opI λ_ _ _ _ _ _ _ hc q=>pow_int_small hc.1 hc.2.1 hc.2.2 q
theorem unI{f:Value->Sem Value}{g:Int->Int}
  (rule:∀(i:Int) (t:Tok) (s:Shared) (Q:Value->Shared->Prop) (E:Value->Shared->Prop),Q (.int (g i) s.toks) {s with toks:=s.toks+1 }->wpAny (model X.prog X.w) X.A (f (.int i t)) Q E s) :
  UnR X f (rU λi=>.int (g i)):=by
 intro pins s σ H x v Q I rx h
 obtain⟨i,rfl,q⟩:=h
 obtain⟨t,rfl⟩:=rx
 exact rule i t s _ _ ⟨.int (g i),H,I.tok _,⟨_,rfl⟩,q⟩
theorem alj:UnR X (unaryOp .USub) (rU λi=>.int (-i)):=unI λ_ _ _ _ _ q=>neg_int q
end
section
variable {X:Cx}{a b c:Expr}{ta tb tc:TE}{pos:Pos}
theorem aw0:OpR X (compareOp .Lt) (rI0 λi j=>.bl (decide (i<j))):=awA λ_ _ _ _ _ _ _ q=>lt_int q
theorem ahM:OpR X (compareOp .LtE) (rI0 λi j=>.bl (decide (i<=j))):=awA λ_ _ _ _ _ _ _ q=>le_int q
theorem atD:OpR X (compareOp .Gt) (rI0 λi j=>.bl (decide (j<i))):=awA λ_ _ _ _ _ _ _ q=>gt_int q
theorem arl:OpR X (compareOp .GtE) (rI0 λi j=>.bl (decide (j<=i))):=awA λ_ _ _ _ _ _ _ q=>ge_int q
theorem OpR.or{f:Value->Value->Sem Value}{r r':R2}(h:OpR X f r)(h':OpR X f r'):OpR X f (λx y H Q=>r x y H Q\/r' x y H Q):=by
 intro pins s σ H x y v u Q I rx ry q
 rcases q with q|q
 ·exact h pins s σ H x y v u Q I rx ry q
 ·exact h' pins s σ H x y v u Q I rx ry q
theorem abw(b:Expr){op:CmpOp}(h:op ≠ .In:=by decide)(h2:op ≠ .NotIn:=by decide):behindInMarks op b=false:=by
 have e1:(op == CmpOp.In)=false:=by cases op <;> first|rfl|exact absurd rfl h
 have e2:(op == CmpOp.NotIn)=false:=by cases op <;> first|rfl|exact absurd rfl h2
 cases b <;> simp[behindInMarks,e1,e2]
theorem adX{op:CmpOp}{r:R2}(ho:OpR X (compareOp op) r)(ha:PE X a ta)(hb:PE X b tb)(hm:behindInMarks op b=false):PE X (.Compare a [op] [b] pos) (tOp r ta tb):=by
 refine⟨λpins s σ H Q I h=>?_⟩
 exact wpAny_Compare1 (awY ha hb I h λv u s2 x y H2 I2 rx ry q=>ho pins s2 σ H2 x y v u Q I2 rx ry q) hm
noncomputable def arn(t:TE):TT:=λσ H Q=>t σ H λx H'=>∃k,x=.bl k/\Q k H'
theorem abn{op:CmpOp}{r:R2}(ho:OpR X (compareOp op) r)(ha:PE X a ta)(hb:PE X b tb)(hm:behindInMarks op b=false):PT X (.Compare a [op] [b] pos) (arn (tOp r ta tb)):=by
 refine⟨λpins s σ H Q I h=>?_⟩
 refine wpAny_isTrue_Compare1 (thn (ha pins s σ H _ I h) λv s1 ⟨x,H1,I1,r1,q1⟩=>thn (hb pins s1 σ H1 _ I1 q1) λu s2 ⟨y,H2,I2,r2,q2⟩ =>
  thn (ho pins s2 σ H2 x y v u _ I2 r1 r2 q2) λc s3 ⟨z,H3,I3,r3,k,e,q3⟩=>?_) hm
 subst e
 cases r3
 exact wpAny_truthy_bool ⟨H3,I3,q3⟩
noncomputable def alk(r r':R2)(ta tb tc:TE):TE:=λσ H Q=>ta σ H λx H1=>tb σ H1 λy H2=>r x y H2 λz H3=>∃k,z=.bl k /\
 (if k=true then tc σ H3 λw' H4=>r' y w' H4 Q else Q (.bl false) H3)
theorem aiy{op op':CmpOp}{r r':R2}(ho:OpR X (compareOp op) r)(ho':OpR X (compareOp op') r')(ha:PE X a ta)(hb:PE X b tb)(hc:PE X c tc)
  (hm:lastMarks [op,op'] [b,c]=false:=by with_unfolding_all rfl):PE X (.Compare a [op,op'] [b,c] pos) (alk r r' ta tb tc):=by
 refine⟨λpins s σ H Q I h=>?_⟩
 refine Compare_chain (thn (ha pins s σ H _ I h) λv s1 ⟨x,H1,I1,r1,q1⟩=>chain_link (thn (hb pins s1 σ H1 _ I1 q1) λu s2 ⟨y,H2,I2,r2,q2⟩ =>
  thn (ho pins s2 σ H2 x y v u _ I2 r1 r2 q2) λd s3 ⟨z,H3,I3,r3,k,e,q3⟩=>?_)) hm
 subst e
 cases r3
 refine wpAny_truthy_bool ?_
 cases k with
 |false=>exact ite_ff ⟨.bl false,H3,I3,rfl,q3⟩
 |true=>exact ite_tt (chain_last (thn (hc pins s3 σ H3 _ I3 q3) λw' s4 ⟨z',H4,I4,r4,q4⟩=>ho' pins s4 σ H4 y z' u w' Q I4 r2 r4 q4))
theorem alm{op op':CmpOp}{r r':R2}(ho:OpR X (compareOp op) r)(ho':OpR X (compareOp op') r')(ha:PE X a ta)(hb:PE X b tb)(hc:PE X c tc)
  (hm:lastMarks [op,op'] [b,c]=false:=by with_unfolding_all rfl):PT X (.Compare a [op,op'] [b,c] pos) (arn (alk r r' ta tb tc)):=by
 refine⟨λpins s σ H Q I h=>?_⟩
 refine isTrue_chain (thn (ha pins s σ H _ I h) λv s1 ⟨x,H1,I1,r1,q1⟩=>test_link (thn (hb pins s1 σ H1 _ I1 q1) λu s2 ⟨y,H2,I2,r2,q2⟩ =>
  thn (ho pins s2 σ H2 x y v u _ I2 r1 r2 q2) λd s3 ⟨z,H3,I3,r3,k,e,q3⟩=>?_)) hm
 subst e
 cases r3
 refine wpAny_truthy_bool ?_
 cases k with
 |false =>
  obtain⟨k',e',q'⟩:=q3
  cases e'
  exact ite_ff ⟨H3,I3,q'⟩
 |true =>
  refine ite_tt (test_last (thn (hc pins s3 σ H3 _ I3 q3) λw' s4 ⟨z',H4,I4,r4,q4⟩=>thn (ho' pins s4 σ H4 y z' u w' _ I4 r2 r4 q4) λd' s5 ⟨z2,H5,I5,r5,k2,e2,q5⟩=>?_))
  subst e2
  cases r5
  exact wpAny_truthy_bool ⟨H5,I5,q5⟩
noncomputable def atF(K:PySem.W.Frag)(x:V)(H:Hp)(k:Bool):Prop :=
 match x with
 |.non=>k=false
 |.bl b=>k=b
 |.int i=>k=(i != 0)
 |.str y=>y.length<=sizeLine/\k=((y.length:Int) != 0)
 |.byt y=>y.size<=sizeLine/\k=((y.size:Int) != 0)
 |.ref p=>(∃xs,SqL K H p xs/\k = !xs.isEmpty)\/(∃xs,SqT K H p xs/\k = !xs.isEmpty)\/∃kvs,H p=some (.dK kvs)/\k = !kvs.isEmpty
 |_=>False
theorem al9{κ : Type}{kvs:List (κ × V)}{vs:List (κ × Value)}(r:KV kvs vs):(!vs.isEmpty) = !kvs.isEmpty:=by
 cases r <;> rfl
theorem ah7{xs:List V}{its:List Value}(r:Vals xs its):(!its.toArray.isEmpty) = !xs.isEmpty:=by
 cases r <;> simp
theorem agY:(sizeLine:Nat)<2 ^ 63:=by rw[sizeLine_eq]; decide
theorem atG:azx X (λx H Q=>∃k,atF X.K x H k/\Q k H):=by
 intro pins s σ H x v Q I rx h
 obtain⟨k,e,q⟩:=h
 have hl:=agY
 have hs:sizeLine=16777216:=sizeLine_eq
 cases x with
 |non =>
  cases rx
  have e':k=false:=e
  subst e'
  exact truthy_none ⟨H,I,q⟩
 |bl b =>
  cases rx
  have e':k=b:=e
  subst e'
  exact wpAny_truthy_bool ⟨H,I,q⟩
 |int i =>
  obtain⟨t,rfl⟩:=rx
  have e':k=(i != 0):=e
  subst e'
  exact PySem.P.truthy_int ⟨H,I,q⟩
 |str y =>
  obtain⟨t,rfl⟩:=rx
  obtain⟨hy,e'⟩:y.length<=sizeLine/\k=((y.length:Int) != 0):=e
  subst e'
  exact PySem.P.truthy_str (by omega) ⟨H,I.tok _,q⟩
 |byt y =>
  obtain⟨t,rfl⟩:=rx
  obtain⟨hy,e'⟩:y.size<=sizeLine/\k=((y.size:Int) != 0):=e
  subst e'
  exact PySem.W.truthy_bytes (by omega) ⟨H,I.tok _,q⟩
 |ref p =>
  cases rx
  have e':(∃xs,SqL X.K H p xs/\k = !xs.isEmpty)\/(∃xs,SqT X.K H p xs/\k = !xs.isEmpty)\/∃kvs,H p=some (.dK kvs)/\k = !kvs.isEmpty:=e
  rcases e' with⟨xs,hx,e'⟩|⟨xs,hx,e'⟩|⟨kvs,hx,e'⟩
  ·subst e'
   obtain⟨its,r,pl,hz⟩:=I.list hx
   have hlen:=r.length
   exact wpAny_truthy_list pl.isList (by simp only[List.size_toArray]; omega) ⟨H,I.tok _,by rw[ah7 r]; exact q⟩
  ·subst e'
   obtain⟨its,r,pl,hz⟩:=I.tuple hx
   have hlen:=r.length
   exact truthy_tuple pl (by simp only[List.size_toArray]; omega) ⟨H,I.tok _,by rw[ah7 r]; exact q⟩
  ·subst e'
   obtain⟨hz,hS,vs,r,m⟩:kvs.length<=sizeLine/\(p == sysModules)=false/\∃vs,KV kvs vs/\s.heap.DictOf (akh X.prog X.w) p vs:=I.hok p _ hx
   have hlen:kvs.length=vs.length:=Paired.length r
   exact wpAny_truthy_dict hS m (by omega) ⟨H,I.tok _,by rw[al9 r]; exact q⟩
 |_=>exact(show False from e).elim
theorem abV(ha:PE X a ta)(he:∀whole,isTrue a X.env whole=(do let v <-whole; standAt a.pos; holding [v] (truthy v))) :
  PT X a (λσ H Q=>ta σ H λx H'=>∃k,atF X.K x H' k/\Q k H'):=by
 refine⟨λpins s σ H Q I h=>?_⟩
 exact isTrue_plain (thn (ha pins s σ H _ I h) λv s1 ⟨x,H1,I1,r1,q1⟩=>atG pins s1 σ H1 x v Q I1 r1 q1) (he _)
theorem ama:OpR X (binaryOp .Add) (λx y H Q=>∃i j,x=.str i/\y=.str j/\i.length+j.length<=sizeLine/\Q (.str (i++j)) H):=by
 intro pins s σ H x y v u Q I rx ry h
 obtain⟨i,j,rfl,rfl,hz,q⟩:=h
 obtain⟨t,rfl⟩:=rx
 obtain⟨t',rfl⟩:=ry
 exact add_str (λt' tk=>⟨.str (i++j),H,I.tok _,⟨_,rfl⟩,q⟩) hz
theorem vals1{x:V}{us:List Value}(r:Vals [x] us):∃u,us=[u]/\RelV x u:=by
 cases r with
 |cons r1 r2=>cases r2; exact⟨_,rfl,r1⟩
theorem vals2{x y:V}{us:List Value}(r:Vals [x,y] us):∃u w',us=[u,w']/\RelV x u/\RelV y w':=by
 cases r with
 |cons r1 r2 =>
  cases r2 with
  |cons r3 r4=>cases r4; exact⟨_,_,rfl,r1,r3⟩
theorem aph:aeg X (.builtin "abs") (λxs H Q=>∃i,xs=[.int i]/\Q (.int (if i<0 then -i else i)) H):=by
 intro pins s σ H xs us Q I r h
 obtain⟨i,rfl,q⟩:=h
 obtain⟨u,rfl,t,rfl⟩:=vals1 r
 exact call_abs_int λu tk=>⟨.int (if i<0 then -i else i),H,I.tok _,⟨_,rfl⟩,q⟩
theorem ane(hc:X.calm=true):aeg X (.builtin "min") (λxs H Q=>∃i j,xs=[.int i,.int j]/\Q (.int (if j<i then j else i)) H):=by
 intro pins s σ H xs us Q I r h
 obtain⟨i,j,rfl,q⟩:=h
 obtain⟨u,w',rfl,⟨t,rfl⟩,⟨t',rfl⟩⟩:=vals2 r
 refine min_two_ints (I.ok.hd hc) λh' tk k=>⟨_,H,I.kept k,?_,q⟩
 by_cases hj:j<i
 ·rw[if_pos hj,if_pos hj]; exact⟨_,rfl⟩
 ·rw[if_neg hj,if_neg hj]; exact⟨_,rfl⟩
theorem anf:aeg X (.type "int") (λxs H Q=>(∃i,xs=[.int i]/\Q (.int i) H)\/∃k,xs=[.bl k]/\Q (.int (if k then 1 else 0)) H):=by
 intro pins s σ H xs us Q I r h
 rcases h with⟨i,rfl,q⟩|⟨k,rfl,q⟩
 ·obtain⟨u,rfl,t,rfl⟩:=vals1 r
  exact call_int_int ⟨.int i,H,I,⟨_,rfl⟩,q⟩
 ·obtain⟨u,rfl,r1⟩:=vals1 r
  cases r1
  exact call_int_bool ⟨.int (if k then 1 else 0),H,I.tok _,⟨_,rfl⟩,q⟩
end
end L2
namespace L2
open PySem PySem.Spec PyProof.Rows
section
variable {prog:Program}{w:World}{A:Around}{E:Value->Shared->Prop}{s:Shared}{K:PySem.W.Frag}{x dx C f:Addr}{mA:Str->Option Value}{name:Str}{v:Value}
end
section
variable {P:Program}{w:World}{H H':Hp}{h h':Heap}{a C dx:Addr}{fs fs':List (Str × V)}
end
section
variable {X:Cx}{pins:List (Addr × Obj)}{σ : St}{H:Hp}{s:Shared}{a C dx:Addr}{fs:List (Str × V)}{f:Str}{v:V}{A:Around}{E:Value->Shared->Prop}
end
section
variable {X:Cx}{o e value:Expr}{f:Str}{pos pos' tpos:Pos}{ta tv:TE}
end
section
variable {X:Cx}{pins:List (Addr × Obj)}{σ : St}{H:Hp}{s:Shared}{A:Around}{E:Value->Shared->Prop}{Q:Value->Shared->Prop}{c:Value}{b:Bool}
end
end L2
namespace L2
open PySem PySem.Spec PyProof.Rows
structure agj(k:Nat)(A:Around):Prop where
 hd:A.handled=none
 dp:A.depth+3*k+5<recursionLimit
 un:A.units+16*k+200<cLine
 gd:A.guards=some []:=by rfl
theorem agj.mono{j k:Nat}{A:Around}(r:agj k A)(h:j<=k):agj j A:=⟨r.hd,by have:=r.dp; omega,by have:=r.un; omega,r.gd⟩
theorem agj.deeper{k:Nat}{A:Around}(r:agj (k+1) A)(env:Env):agj k (A.deeper env) :=
 ⟨r.hd,by have:=r.dp; show A.depth+1+3*k+5<_; omega,by have:=r.un; show A.units+3+16*k+200<_; omega,r.gd⟩
theorem agj.depth{k:Nat}{A:Around}(r:agj k A):A.depth<recursionLimit:=by have:=r.dp; omega
theorem agj.units{k:Nat}{A:Around}(r:agj k A):A.units+64<cLine:=by have:=r.un; omega
noncomputable def aqF:TA:=λ_ H Q=>Q [] H
noncomputable def afN(ta:TE)(tr:TA):TA:=λσ H Q=>ta σ H λx H1=>tr σ H1 λxs H2=>Q (x::xs) H2
section
variable {X:Cx}{e:Expr}{es:List Expr}{te:TE}{t:TA}{pos:Pos}
theorem aai:PA X [] aqF:=⟨λ_ _ _ _ H Q I h=>Calls.spliced_nil ⟨[],H,I,.nil,h⟩⟩
theorem acG(ha:PE X e te)(hr:PA X es t)(hs:starEach (e::es) X.env=(false,eval e X.env)::starEach es X.env:=by rfl):PA X (e::es) (afN te t):=by
 refine⟨λpos pins s σ H Q I h=>?_⟩
 rw[hs]
 show wpAny _ _ (spliced ((false,eval e X.env)::backTo pos (starEach es X.env))) _ _ s
 refine Calls.spliced_cons (thn (ha pins s σ H _ I h) λu s1 ⟨x,H1,I1,r1,q1⟩=>?_)
 exact thn (hr pos pins s1 σ H1 _ I1 q1) λus s2 ⟨xs,H2,I2,r2,q2⟩=>⟨x::xs,H2,I2,.cons r1 r2,q2⟩
noncomputable def ayU(t:TA):TE:=λσ H Q=>t σ H λxs H1=>xs.length<=sizeLine/\∀p,H1 p=none->Q (.ref p) (upd H1 p (.tup xs))
noncomputable def ayV(t:TA):TE:=λσ H Q=>t σ H λxs H1=>xs.length<=sizeLine/\∀p,H1 p=none->Q (.ref p) (upd H1 p (.lst xs))
theorem agk{x1}(h:PA X es t):PE X (.Tuple es x1 pos) (ayU t):=by
 refine⟨λpins s σ H Q I hq=>?_⟩
 refine wpAny_Tuple_spliced (thn (h pos pins s σ H _ I hq) λus s1 ⟨xs,H1,I1,r,z,q⟩=>⟨by rw[<-r.length]; exact z,?_⟩)
 have hf:H1 s1.heap.objs.size=none:=I1.hok.fresh (Nat.le_refl _)
 refine⟨.ref s1.heap.objs.size,upd H1 s1.heap.objs.size (.tup xs),I1.laid (t':=s1.toks) (λb u e=>Heap.get?_push_of_some _ e) (Nat.le_refl _) ?_,rfl,q _ hf⟩
 exact⟨z,us,r,⟨_,Heap.get?_push_size _ rfl,rfl,_,rfl⟩⟩
theorem ac2(h:PA X es t):PE X (.List es pos) (ayV t):=by
 refine⟨λpins s σ H Q I hq=>?_⟩
 refine wpAny_List_spliced (thn (h pos pins s σ H _ I hq) λus s1 ⟨xs,H1,I1,r,z,q⟩=>⟨by rw[<-r.length]; exact z,?_⟩)
 have hf:H1 s1.heap.objs.size=none:=I1.hok.fresh (Nat.le_refl _)
 refine⟨.ref s1.heap.objs.size,upd H1 s1.heap.objs.size (.lst xs),I1.laid (t':=s1.toks) (λb u e=>Heap.get?_push_of_some _ e) (Nat.le_refl _) ?_,rfl,q _ hf⟩
 exact⟨z,us,0,r,Heap.get?_push_size _ rfl⟩
end
noncomputable abbrev Sp:=List V->Hp->VK->XK->Prop
noncomputable abbrev CXT:=List Env->Hp->Shared->XK->Value->Shared->Prop
structure awB(P:Program)(w:World)(K:PySem.W.Frag)(mg:Str->Option Value)(base:Heap)(A:Around)(outer:List Env)(s:Shared)(H:Hp):Prop where
 frames:A.frames=some outer
 mod:Mod K mg base
 bs:∀b o,base.get? b=some o->s.heap.get? b=some o/\H b=none
 bsz:base.objs.size<=s.heap.objs.size
 amX:s.heap.FunFrames base outer
 frf:∀b∈frs outer,H b=none
 hok:HOk P w H s.heap
 bare:AllBare s.gens
noncomputable def CE(outer:List Env)(P:Program)(w:World)(H:Hp)(s:Shared)(Q:VK)(u:Value)(s':Shared):Prop :=
 ∃v H',s'.os=s.os/\AllBare s'.gens/\Un (frs outer) [] H H' s.heap s'.heap/\HOk P w H' s'.heap/\RelV v u/\Q v H'
noncomputable def CR(CX:CXT)(outer:List Env)(P:Program)(w:World)(H:Hp)(s:Shared)(Q:VK)(E:XK)(r:Result)(s':Shared):Prop :=
 match r with
 |.ok (.ret u)=>CE outer P w H s Q u s'
 |.ok _=>False
 |.error e=>CX outer H s E e s'
structure amb(P:Program)(w:World)(K:PySem.W.Frag)(mg:Str->Option Value)(base:Heap)(CX:CXT)(k:Nat)(f:Addr)(fd:FuncData)(ps:List Str)(sp:Sp):Prop where
 len:∀vs H Q E,sp vs H Q E->vs.length=ps.length
 run:∀(A:Around) (outer:List Env) (s:Shared) (H:Hp) (args:Args) (us:List Value) (vs:List V) (Q:VK) (E:XK),agj k A->awB P w K mg base A outer s H->BindsTo s fd args (ps.zip us)->Vals vs us->sp vs H Q E ->
  codeAny (model P w) A (.call (.ref f) args) (CR CX outer P w H s Q E) s
theorem amb.mono{P:Program}{w:World}{K:PySem.W.Frag}{mg:Str->Option Value}{base:Heap}{CX:CXT}{j k:Nat}{f:Addr}{fd:FuncData}{ps:List Str}{sp:Sp}(F:amb P w K mg base CX j f fd ps sp)(h:j<=k) :
  amb P w K mg base CX k f fd ps sp:=⟨F.len,λA outer s H args us vs Q E hr=>F.run A outer s H args us vs Q E (hr.mono h)⟩
theorem amb.imp{P:Program}{w:World}{K:PySem.W.Frag}{mg:Str->Option Value}{base:Heap}{CX:CXT}{k:Nat}{f:Addr}{fd:FuncData}{ps:List Str}{sp sp':Sp}(F:amb P w K mg base CX k f fd ps sp)
  (h:∀vs H Q E,sp' vs H Q E->sp vs H Q E):amb P w K mg base CX k f fd ps sp' :=
 ⟨λvs H Q E q=>F.len vs H Q E (h _ _ _ _ q),λA outer s H args us vs Q E hr he hb hv hs=>F.run A outer s H args us vs Q E hr he hb hv (h _ _ _ _ hs)⟩
section
variable {X:Cx}{pins:List (Addr × Obj)}{σ : St}{H:Hp}{s s':Shared}
theorem Inv.env0(I:Inv X pins σ H s):awB X.prog X.w X.K X.mg X.base X.A X.stack s H :=
 ⟨I.ok.frames,I.ok.mod,I.bs,Nat.le_trans I.ok.bsz I.sz,I.stack,I.aiv,I.hok,I.bare⟩
theorem Inv.after{Q:VK}{u:Value}(I:Inv X pins σ H s)(h:CE X.stack X.prog X.w H s Q u s'):EP X pins σ Q u s':=by
 obtain⟨v,H',os,bare,un,hok,r,q⟩:=h
 obtain⟨hh,g,d,t,os'⟩:=s'
 obtain rfl:os'=s.os:=os
 exact⟨v,H',I.call (h':=hh) (g':=g) (d':=d) (t':=t) (ch:=[]) un hok bare (λb z=>absurd z (by simp)),r,q⟩
end
noncomputable def ajv(sp:Sp)(dvs:List V)(E:XK)(t:TA):TE:=λσ H Q=>t σ H λvs H1=>sp (vs++dvs) H1 Q E
noncomputable def Binds(K:PySem.W.Frag)(fd:FuncData)(ps:List Str)(ds:List Value):Prop :=
 ∀(s:Shared) (us:List Value),K.In s.heap->(us++ds).length=ps.length->BindsTo s fd ⟨us,[]⟩ (ps.zip (us++ds))
theorem Binds.all{K:PySem.W.Frag}{fd:FuncData}{ps:List Str}(h:∀us:List Value,us.length=ps.length->bindArgs fd ⟨us,[]⟩=pure (ps.zip us)):Binds K fd ps []:=λs us _ hl=>by
 rw[List.append_nil]at hl ⊢
 exact .of_eq (h us hl)
noncomputable def Passes(CX:CXT)(X:Cx)(E:XK):Prop:=∀(pins:List (Addr × Obj)) (σ : St) (H:Hp) (s:Shared) (e:Value) (s':Shared),Inv X pins σ H s->CX X.stack H s E e s'->X.xe e s'
section
variable {X:Cx}{CX:CXT}{k:Nat}{f C:Addr}{fd:FuncData}{ps:List Str}{sp:Sp}{dvs:List V}{ds:List Value}{E:XK}{x m:Str}{p pos apos:Pos}{e o:Expr}{es:List Expr}{ta:TE}{t:TA}
theorem atH{pins:List (Addr × Obj)}{σ : St}{H:Hp}{s:Shared}{Q:VK}{us:List Value}{vs:List V}(F:amb X.prog X.w X.K X.mg X.base CX k f fd ps sp)(hr:agj k X.A)(hb:Binds X.K fd ps ds)(hd:Vals dvs ds)(hx:Passes CX X E)
  (I:Inv X pins σ H s) (r:Vals vs us) (h:sp (vs++dvs) H Q E):wpAny (model X.prog X.w) X.A (call (.ref f) us) (EP X pins σ Q) X.xe s:=by
 have r2:Vals (vs++dvs) (us++ds):=r.append hd
 have hl:(us++ds).length=ps.length:=by rw[<-r2.length]; exact F.len _ _ _ _ h
 refine wpAny_call (codeAny_mono (F.run X.A X.stack s H ⟨us,[]⟩ (us++ds) (vs++dvs) Q E hr I.env0 (hb s us I.kIn hl) r2 h) λr s' hq=>?_)
 cases r with
 |error e=>exact hx pins σ H s e s' I hq
 |ok fl =>
  cases fl with
  |ret u=>exact I.after hq
  |next=>exact False.elim hq
  |brk=>exact False.elim hq
  |cont=>exact False.elim hq
theorem aro(F:amb X.prog X.w X.K X.mg X.base CX k f fd ps sp)(hr:agj k X.A)(hg:Gl X x)(hm:X.mg x=some (.ref f))(hk:PySem.W.keepIn X.K (.ref f)=true)(hb:Binds X.K fd ps ds)(hd:Vals dvs ds)(hx:Passes CX X E)
  (ha:PA X (e::es) t) (hdb:(x == ("__debug__" : Str))=false:=by decide) (he:starEach (e::es) X.env=(false,eval e X.env)::starEach es X.env:=by rfl) (hpl:(backTo pos (starEach es X.env)).any (·.1)=false:=by rfl) :
  PE X (.Call (.Name x p) (e::es) [] pos) (ajv sp dvs E t):=by
 refine⟨λpins s σ H Q I h=>?_⟩
 refine wpAny_Call_Name_kw (akj I hg hm ?_ hdb)
 refine PySem.W.callWith_K (h₀ := X.base) I.ok.mod.kin hk (thn (ha pos pins s σ H _ I h) λus s1 ⟨vs,H1,I1,r,q⟩=>⟨I1.kIn,?_⟩) he hpl
 exact atH F hr hb hd hx I1 r q
end
section
variable {X:Cx}{CX:CXT}{k:Nat}{f C:Addr}{fd:FuncData}{ps ks:List Str}{sp:Sp}{E:XK}{x m:Str}{p pos apos kpos:Pos}{e o:Expr}{es:List Expr}{kws:List Keyword}{te ta:TE}{t tk:TA}{nm:Option Str}
variable {g:List Value->List Value->List Value}{gV:List V->List V->List V}
end
structure aaz(N P:List Str)(sc:Scope):Prop where
 kind:sc.kind=.function
 co:sc.isCoroutine=false
 gen:sc.isGenerator=false
 nd:N.Nodup
 pre:N.take P.length=P
 par:∀x∈P,sc.names.lookup x=some .local\/sc.names.lookup x=some .cell
 atJ:∀y∈sc.names,y.2 ≠ .free
theorem ajw{kindOf:Str->Option NameKind}{x:Str}:∀{binds:List (Str × Value)} {m:Str->Option Value},(∀v,(x,v)∉binds)->bindL kindOf binds m x=m x
 | [],_,_=>rfl
 |(n,v)::r,m,h=>by
  unfold bindL
  rw[ajw λw hw=>h w (List.mem_cons_of_mem _ hw)]
  split
  ·have:x≠n:=by rintro rfl; exact h v List.mem_cons_self
   simp[this]
  ·rfl
theorem ajx{kindOf:Str->Option NameKind}{x:Str}:∀{binds:List (Str × Value)} {m:Str->Option Value},(∀v,(x,v)∉binds)->bindC kindOf binds m x=m x
 | [],_,_=>rfl
 |(n,v)::r,m,h=>by
  unfold bindC
  rw[ajx λw hw=>h w (List.mem_cons_of_mem _ hw)]
  split
  ·rfl
  ·have:x≠n:=by rintro rfl; exact h v List.mem_cons_self
   simp[this]
theorem ajy{kindOf:Str->Option NameKind}{x:Str}{v:Value}:∀{P:List Str} {vs:List Value} {i:Nat} {m:Str->Option Value},P.Nodup->P[i]?=some x->vs[i]?=some v->kindOf x=some .local ->
  bindL kindOf (P.zip vs) m x=some v
 | [],_,_,_,_,h,_,_=>by simp at h
 |_::_,[],_,_,_,_,h,_=>by simp at h
 |p::P,w::vs,0,m,nd,h1,h2,hk=>by
  simp at h1 h2; subst h1; subst h2
  show bindL kindOf ((p,w)::P.zip vs) m p=_
  unfold bindL
  rw[ajw λv hv=>(List.nodup_cons.mp nd).1 (List.of_mem_zip hv).1,if_pos hk]
  simp
 |p::P,w::vs,i+1,m,nd,h1,h2,hk=>by
  show bindL kindOf ((p,w)::P.zip vs) m x=_
  unfold bindL
  exact ajy (i:=i) (List.nodup_cons.mp nd).2 (by simpa using h1) (by simpa using h2) hk
theorem ajz{kindOf:Str->Option NameKind}{x:Str}{v:Value}:∀{P:List Str} {vs:List Value} {i:Nat} {m:Str->Option Value},P.Nodup->P[i]?=some x->vs[i]?=some v->kindOf x≠some .local ->
  bindC kindOf (P.zip vs) m x=some v
 | [],_,_,_,_,h,_,_=>by simp at h
 |_::_,[],_,_,_,_,h,_=>by simp at h
 |p::P,w::vs,0,m,nd,h1,h2,hk=>by
  simp at h1 h2; subst h1; subst h2
  show bindC kindOf ((p,w)::P.zip vs) m p=_
  unfold bindC
  rw[ajx λv hv=>(List.nodup_cons.mp nd).1 (List.of_mem_zip hv).1,if_neg hk]
  simp
 |p::P,w::vs,i+1,m,nd,h1,h2,hk=>by
  show bindC kindOf ((p,w)::P.zip vs) m x=_
  unfold bindC
  exact ajz (i:=i) (List.nodup_cons.mp nd).2 (by simpa using h1) (by simpa using h2) hk
noncomputable def start(N:List Str)(vs:List V):St:=vs.map some++List.replicate (N.length-vs.length) none
noncomputable def aln(CX:CXT)(P:Program)(w:World)(K:PySem.W.Frag)(mg:Str->Option Value)(base:Heap)(N:List Str)(qual:Str)(scope:Scope)(f:Addr)(cd:Value)(A:Around)(outer:List Env)(s:Shared)(H:Hp)(E:XK):Cx where
 prog:=P
 w:=w
 K:=K
 mg:=mg
 base:=base
 A:=A.deeper (envOfC qual scope s.heap.objs.size f cd)
 N:=N
 s₀ := s
 H₀ := H
 env:=envOfC qual scope s.heap.objs.size f cd
 outer:=outer
 stack:=envOfC qual scope s.heap.objs.size f cd::outer
 ex:=[]
 calm:=true
 fn:=λ_=>true
 pn:=[]
 xe:=λe s'=>wpAny (model P w) (A.deeper (envOfC qual scope s.heap.objs.size f cd)) (leaving (envOfC qual scope s.heap.objs.size f cd) e) (λ_ s''=>CX outer H s E e s'') (λe' s''=>CX outer H s E e' s'') s'
theorem alo{sc:Scope}{n:Nat}{x:Str}(h:sc.names.lookup x=some .cell):∃c,(cellsFrom n sc.names []).lookup x=some c:=by
 have q:=PySem.W.cellsFrom_some sc.names n [] (.inl h)
 exact Option.isSome_iff_exists.mp q
theorem ang{CX:CXT}{P:Program}{w:World}{K:PySem.W.Frag}{mg:Str->Option Value}{base:Heap}{N ps:List Str}{qual:Str}{scope:Scope}{f:Addr}{cd:Value}{A:Around}{outer:List Env}{s s1:Shared}{H:Hp}{E:XK}{us:List Value}{vs:List V}
  (S:aaz N ps scope) (hd:A.handled=none) (e0:awB P w K mg base A outer s H) (hl:vs.length=ps.length) (r:Vals vs us)
  (x:InCallC s s.heap.objs.size (bindL (envOfC qual scope s.heap.objs.size f cd).kindOf (ps.zip us) λ_=>none) (cellsFrom (s.heap.objs.size+1) scope.names []) (bindC (envOfC qual scope s.heap.objs.size f cd).kindOf (ps.zip us) λ_=>none) s1) :
  Inv (aln CX P w K mg base N qual scope f cd A outer s H E) [] (start N vs) H s1:=by
 have hpl:ps.length<=N.length:=by have:=congrArg List.length S.pre; rw[List.length_take]at this; omega
 obtain⟨h1,tk,rfl,hk⟩:=x.done
 have noA:∀b:Addr,b∉(aln CX P w K mg base N qual scope f cd A outer s H E).ex:=λb z=>absurd (show b∈([]:List Addr)from z) (by simp)
 refine⟨⟨e0.mod,S.kind,rfl,rfl,Nat.le_refl _,λy z c h1 h2=>?_,λy hy=>?_,λy c _ h=>?_,λ_=>hd,Around.frames_deeper e0.frames,.inr ⟨rfl,rfl⟩,λb z=>absurd z (noA b),e0.bs,e0.bsz,λb _ _=>noA b,λb z=>absurd z (noA b),e0.amX,e0.frf⟩,
  rfl,e0.bare,Un.kept hk,⟨_,x.toInCall.ns,λi y v h1 h2 h3=>?_⟩,λy c h=>⟨_,x.cell y c h⟩,e0.hok.fresh (Nat.le_refl _),λy c h=>?_,λp hp=>absurd (show p∈([]:List (Addr × Obj))from hp) (by simp),e0.hok.kept hk,?_⟩
 ·exact name_of_addr x.apart (PySem.mem_of_lookup h1) (PySem.mem_of_lookup h2)
 ·have hy:scope.names.lookup y=some .cell\/scope.names.lookup y=some .free:=hy
  rcases hy with hy|hy
  ·exact alo hy
  ·exact absurd rfl (S.atJ _ (PySem.mem_of_lookup hy))
 ·exact Nat.le_of_lt (x.above y c (PySem.mem_of_lookup h))
 ·have hi:i<vs.length:=by
   unfold start at h2
   by_cases hi:i<vs.length
   ·exact hi
   ·rw[List.getElem?_append_right (by simpa using hi)]at h2
    rw[List.getElem?_replicate]at h2
    split at h2 <;> cases h2
  have ha:vs[i]?=some v:=by
   unfold start at h2
   rw[List.getElem?_append_left (by simpa using hi),List.getElem?_map]at h2
   cases e:vs[i]? with
   |none=>rw[e]at h2; cases h2
   |some a=>rw[e]at h2; cases h2; rfl
  obtain⟨u,hu,rv⟩:=r.get ha
  have hp:ps[i]?=some y:=by
   rw[<-S.pre,List.getElem?_take_of_lt (by omega)]; exact h1
  have ndP:ps.Nodup:=by rw[<-S.pre]; exact S.nd.sublist (List.take_sublist _ _)
  refine⟨u,rv,?_⟩
  rcases S.par y (List.mem_of_getElem? hp)with k|k
  ·exact .inl ⟨k,ajy ndP hp hu k⟩
  ·obtain⟨c,e⟩:=alo (n:=s.heap.objs.size+1) k
   refine .inr ⟨.inl k,c,e,?_⟩
   have q:=x.cell y c e
   rw[ajz ndP hp hu (by show scope.names.lookup y≠_; rw[k]; decide)]at q
   exact q
 ·exact e0.hok.fresh (Nat.le_of_lt (x.above y c (PySem.mem_of_lookup h)))
 ·unfold start
  show _=N.length
  rw[List.length_append,List.length_map,List.length_replicate]
  omega
theorem atL{CX:CXT}{P:Program}{w:World}{K:PySem.W.Frag}{mg:Str->Option Value}{base:Heap}{k:Nat}{f:Addr}{name qual:Str}{params:Arguments}{body:List Stmt}{scope:Scope}{dV kV doc pm cdv ct oc:Value}{an od:Option Addr}
  {osl:Array (Option Value)} {N ps:List Str} {sp:Sp} (lk:K.lookup f=some ⟨oc,od,.func (PySem.W.fnOf name qual params body scope dV kV doc pm an cdv ct),osl⟩) (hcd:PySem.W.codeIn K cdv qual=true) (S:aaz N ps scope)
  (len:∀vs H Q E,sp vs H Q E->vs.length=ps.length)
  (hbody:∀(A:Around) (outer:List Env) (s:Shared) (H:Hp) (vs:List V) (Q:VK) (E:XK),agj k (A.deeper (envOfC qual scope s.heap.objs.size f cdv))->sp vs H Q E ->
   ∃t,PSs (aln CX P w K mg base N qual scope f cdv A outer s H E) body t/\t {nx:=λ_ H'=>Q .non H',rt:=Q } (start N vs) H) :
  amb P w K mg base CX (k+1) f (PySem.W.fnOf name qual params body scope dV kV doc pm an cdv ct) ps sp:=by
 refine⟨len,λA outer s H args us vs Q E hr e0 hb r hsp=>?_⟩
 have hl:=len _ _ _ _ hsp
 have KX:K.In s.heap:=e0.mod.kin.keeps λb o e=>(e0.bs b o e).1
 have lim:s.heap.NoLimit:=e0.mod.nolimit.keeps λb o e=>(e0.bs b o e).1
 have hkind:∀y∈ps.zip us,scope.names.lookup y.1=some .local\/(scope.names.lookup y.1=some .cell/\((cellsFrom (s.heap.objs.size+1) scope.names []).lookup y.1).isSome=true):=λ⟨n,v⟩ hy=>by
  rcases S.par n (List.of_mem_zip hy).1 with q|q
  ·exact .inl q
  ·exact .inr ⟨q,PySem.W.cellsFrom_some _ _ _ (.inl q)⟩
 refine codeAny_call_function hr.depth (KX _ _ lk) rfl S.co S.gen rfl (PySem.W.codeRec_of KX hcd) (hb _ _ _ _ ?_)
 refine wpAny_newFunctionEnv_cells S.kind hkind λenv he s1 x=>?_
 subst he
 refine⟨lim.keeps x.toInCall.keep,codeAny_func ?_⟩
 obtain⟨t,ht,hq⟩:=hbody A outer s H vs Q E (hr.deeper _) hsp
 have I:Inv (aln CX P w K mg base N qual scope f cdv A outer s H E) [] (start N vs) H s1:=ang S hr.hd e0 hl r x
 refine wpAny_mono (ht [] s1 (start N vs) H _ I hq) (λfl s' hs=>?_) λe s' hs=>hs
 have fin:∀{σ':St} {H':Hp} {v:V} {u:Value},Inv (aln CX P w K mg base N qual scope f cdv A outer s H E) [] σ' H' s'->RelV v u->Q v H'->CE outer P w H s Q u s' :=
  λ{σ' H' v u} J rv q=>⟨v,H',J.os,J.bare,J.base,J.hok,rv,q⟩
 cases fl with
 |ret u =>
  obtain⟨v,σ',H',J,rv,q⟩:=hs
  exact fin J rv q
 |next =>
  obtain⟨σ',H',J,q⟩:=hs
  exact fin (v:=V.non) (u:=Value.none) J rfl q
 |brk =>
  obtain⟨_,_,_,q⟩:=hs
  exact False.elim q
 |cont =>
  obtain⟨_,_,_,q⟩:=hs
  exact False.elim q
end L2
namespace L2
open PySem PySem.Spec PyProof.Rows
section
variable {X:Cx}{x:Str}{p pos:Pos}{e:Expr}{es:List Expr}{t:TA}{id T:String}{r:List V->Hp->VK->Prop}
noncomputable def tCB(r:List V->Hp->VK->Prop)(t:TA):TE:=λσ H Q=>t σ H λvs H1=>r vs H1 Q
theorem alp(hc:aeg X (.builtin id) r)(hg:Gl X x)(hm:X.mg x=none)(hv:bootBuiltins x=some (.builtin id))(ha:PA X (e::es) t)(hn:x ≠ "__name__" := by decide) (hdb:(x == ("__debug__" : Str))=false:=by decide)
  (he:starEach (e::es) X.env=(false,eval e X.env)::starEach es X.env:=by rfl) (hpl:(backTo pos (starEach es X.env)).any (·.1)=false:=by rfl):PE X (.Call (.Name x p) (e::es) [] pos) (tCB r t):=by
 refine⟨λpins s σ H Q I h=>?_⟩
 refine wpAny_Call_Name_kw (afq I hg hm hv ?_ hn hdb)
 exact PyProof.Rows.callWith_builtin1 (thn (ha pos pins s σ H _ I h) λus s1 ⟨vs,H1,I1,r1,q1⟩=>hc pins s1 σ H1 vs us Q I1 r1 q1) he hpl
theorem anh(hc:aeg X (.type T) r)(hg:Gl X x)(hm:X.mg x=none)(hv:bootBuiltins x=some (.type T))(ha:PA X (e::es) t)(hn:x ≠ "__name__" := by decide) (hdb:(x == ("__debug__" : Str))=false:=by decide)
  (he:starEach (e::es) X.env=(false,eval e X.env)::starEach es X.env:=by rfl) (hpl:(backTo pos (starEach es X.env)).any (·.1)=false:=by rfl):PE X (.Call (.Name x p) (e::es) [] pos) (tCB r t):=by
 refine⟨λpins s σ H Q I h=>?_⟩
 refine wpAny_Call_Name_kw (afq I hg hm hv ?_ hn hdb)
 exact PyProof.Rows.callWith_type1 (thn (ha pos pins s σ H _ I h) λus s1 ⟨vs,H1,I1,r1,q1⟩=>hc pins s1 σ H1 vs us Q I1 r1 q1) he hpl
end
end L2
namespace HT
open PySem PyProof.Rows
noncomputable def lexLt:List Int->List Int->Bool
 | [],[]=>false
 | [],_::_=>true
 |_::_,[]=>false
 |x::xs,y::ys=>if x=y then lexLt xs ys else decide (x<y)
theorem amc(x y:Int)(xs ys:List Int):lexLt (x::xs) (y::ys)=if x=y then lexLt xs ys else decide (x<y):=rfl
theorem aiz:lexLt [] []=false:=rfl
theorem ahN(y:Int)(ys:List Int):lexLt [] (y::ys)=true:=rfl
theorem ahO(x:Int)(xs:List Int):lexLt (x::xs) []=false:=rfl
theorem apj(A:Around)(s:Shared)(a:Int)(t:Tok)(c:Int)(u:Tok):∃e,SeqAt.EqAt A s (.int a t) (.int c u) e/\(e=true↔a=c) :=
 ⟨(a == c),SeqAt.EqAt.int_int a t c u,by simp⟩
theorem apk(A:Around)(s:Shared)(a:Int)(t:Tok)(c:Int)(u:Tok)(prog:Program)(w:World)(E:Value->Shared->Prop)(Q:Value->Shared->Prop)(h:Q (.bool (decide (a<c))) s) :
  wpAny (model prog w) A (richCompare .Lt (.int a t) (.int c u)) Q E s :=
 (PyProof.Rows.lt_int h:wpAny (model prog w) A (compareOp .Lt (.int a t) (.int c u)) Q E s)
section
open PySem.SeqAt
open PySem.AutoSeq1 (wpAny_loadPart')
open PySem.MeetsSeq PySem.MeetsSeq2 PySem.MeetsSeq3
theorem aiA(l b:Addr)(items items2:Array Value)(n n2:Nat)(dd dd2:Option Addr)(sl sl2:Array (Option Value))(ns ms:List Int)(hi:IntsAre items.toList ns)(hj:IntsAre items2.toList ms) :
  Meets (Builtin.«tuple.__lt__» ⟨[.ref l,.ref b],[]⟩)
   (λ_ R s=>s.heap.get? l=some {cls:=.type "tuple",dict:=dd,data:=.seq items n,slots:=sl }∧s.heap.get? b=some {cls:=.type "tuple",dict:=dd2,data:=.seq items2 n2,slots:=sl2 } ∧
    R (.ok (.ret (.bool (lexLt ns ms)))) s) :=
 .of_wp λprog w A R s h=>by
  obtain⟨hp,g,d,tk,os⟩:=s; obtain⟨hl,hb,h⟩:=h
  have f2:=AutoSeq1.sub_tuple_tuple
  have z1:items.size=ns.length:=by rw[<-hi.length]; simp
  have z2:items2.size=ms.length:=by rw[<-hj.length]; simp
  wp_walk using wpAny_loadPart' hl,wpAny_loadPart' hb,wpAny_forIn_list _ (λrest b s'=>b.1=none/\s'=⟨hp,g,d,tk,os⟩/\∃(vs ws:List Value) (ns' ms':List Int),rest=vs.zip ws /\
   IntsAre vs ns'/\IntsAre ws ms'/\ns'.length+items2.size=ms'.length+items.size/\R (.ok (.ret (.bool (lexLt ns' ms')))) ⟨hp,g,d,tk,os⟩) _
  case turn =>
   rintro⟨y,x⟩ rest b s' ⟨hb',rfl,vs,ws,ns',ms',hz,hvi,hwi,hlen,hR⟩
   cases hvi with
   |nil=>rw[List.zip_nil_left]at hz; cases hz
   |cons a t azy =>
    cases hwi with
    |nil=>rw[List.zip_nil_right]at hz; cases hz
    |cons c u azz =>
     rw[List.zip_cons_cons]at hz
     injection hz with hyx hrest
     injection hyx with hy hx
     subst hy hx
     rw[amc]at hR
     simp only[List.length_cons]at hlen
     obtain⟨e,he,hiff⟩:=apj A.in1 ⟨hp,g,d,tk,os⟩ a t c u
     refine wpAny_bind (he prog w _ _ ?_)
     cases e with
     |true =>
      rw[if_pos (hiff.mp rfl)]at hR
      wp_walk
      exact⟨rfl,rfl,_,_,_,_,hrest,azy,azz,by omega,hR⟩
     |false =>
      rw[if_neg (λq=>absurd (hiff.mpr q) Bool.false_ne_true)]at hR
      have hri:=apk A.in1 ⟨hp,g,d,tk,os⟩ a t c u prog w
      wp_walk using hri
      exact⟨_,rfl,by simpa using hR⟩
  case fin =>
   rintro⟨b1,b2⟩ s' ⟨hb',rfl,vs,ws,ns',ms',hz,hvi,hwi,hlen,hR⟩
   simp only at hb'
   subst hb'
   have hv:lexLt ns' ms'=decide (items.size<items2.size):=by
    cases hvi with
    |nil =>
     cases hwi with
     |nil =>
      simp only[List.length_nil]at hlen
      rw[aiz]
      exact(decide_eq_false (by omega)).symm
     |cons c u hw =>
      simp only[List.length_nil,List.length_cons]at hlen
      rw[ahN]
      exact(decide_eq_true (by omega)).symm
    |cons a t hv =>
     cases hwi with
     |nil =>
      simp only[List.length_nil,List.length_cons]at hlen
      rw[ahO]
      exact(decide_eq_false (by omega)).symm
     |cons c u hw =>
      rw[List.zip_cons_cons]at hz
      cases hz
   rw[hv]at hR
   wp_walk
   exact⟨_,rfl,by simpa[Builtin.Tuple.tupleCompareSizes]using hR⟩
  case h =>
   exact⟨rfl,rfl,items.toList,items2.toList,ns,ms,rfl,hi,hj,by omega,h⟩
end
section
variable {prog:Program}{w:World}{A:Around}{E:Value->Shared->Prop}{s:Shared}
theorem amd{l b:Addr}{items items2:Array Value}{ns ms:List Int}{Q:Value->Shared->Prop}(hl:IsTup s.heap l items)(hb:IsTup s.heap b items2)(hi:IntsAre items.toList ns)(hj:IntsAre items2.toList ms)
  (hu:A.units<cLine) (h:Q (.bool (lexLt ns ms)) s):wpAny (model prog w) A (compareOp .Lt (.ref l) (.ref b)) Q E s:=by
 obtain⟨⟨cls,dd,data,sl⟩,ho,hc,n,hd⟩:=id hl
 obtain⟨⟨cls2,dd2,data2,sl2⟩,ho2,hc2,n2,hd2⟩:=id hb
 simp only at hc hd hc2 hd2
 subst hc hd hc2 hd2
 exact richCompare_meets_room (op:=.Lt) ⟨_,ho,rfl⟩ ⟨_,ho2,rfl⟩ PySem.F.slot_tuple_lt PySem.F.entry_tuple_lt (PySem.F.args_tuple_lt_2 _ _) (aiA l b items items2 n n2 dd dd2 sl sl2 ns ms hi hj)
  ⟨ho,ho2,show Value.bool (lexLt ns ms)≠Value.notImplemented/\Q (.bool (lexLt ns ms)) s from⟨(λx=>nomatch x),h⟩⟩ hu
theorem arp{t b:Addr}{vs ws:List Value}{Q:Value->Shared->Prop}(ht:IsTup s.heap t vs.toArray)(hb:IsTup s.heap b ws.toArray)(hv:vs≠[])
  (h1:ws=[]->Q (.ref t) s) (h2:ws≠[]->Q (.ref s.heap.objs.size) {s with heap:=s.heap.push {cls:=.type "tuple",data:=.seq (vs++ws).toArray } })
  (hsz:vs.length+ws.length<=sizeLine):wpAny (model prog w) A (binaryOp .Add (.ref t) (.ref b)) Q E s:=by
 obtain⟨⟨cls,dd,data,sl⟩,ho,hc,n,hd⟩:=id ht
 obtain⟨⟨cls2,dd2,data2,sl2⟩,ho2,hc2,n2,hd2⟩:=id hb
 simp only at hc hd hc2 hd2
 subst hc hd hc2 hd2
 have e:vs.toArray++ws.toArray=(vs++ws).toArray:=by simp
 by_cases hw:ws=[]
 ·exact concat_meets ⟨_,ho,rfl⟩ ⟨_,ho2,rfl⟩ noFill_tuple_add seq_tuple_add PySem.F.slot_tuple_add PySem.F.entry_tuple_add (PySem.F.args_tuple_add_2 _ _)
   (tuple_addW1 t b vs.toArray ws.toArray n n2 dd dd2 sl sl2 (by simpa using hv) (by simp[hw])) ⟨ho,ho2,h1 hw⟩
 ·refine concat_meets ⟨_,ho,rfl⟩ ⟨_,ho2,rfl⟩ noFill_tuple_add seq_tuple_add PySem.F.slot_tuple_add PySem.F.entry_tuple_add (PySem.F.args_tuple_add_2 _ _)
   (tuple_addW2 t b vs.toArray ws.toArray n n2 dd dd2 sl sl2 (by simpa using hv) (by simpa using hw) (by rw[List.size_toArray,List.size_toArray]; exact hsz)) ⟨ho,ho2,?_⟩
  rw[e]
  exact h2 hw
noncomputable def sIx(n d:Nat):Option Int->Nat
 |none=>d
 |some v=>if v<0 then(v+(n:Int)).toNat else min v.toNat n
theorem atM(n d:Nat)(hd:d<=n)(o:Option Int):sIx n d o<=n:=by
 cases o with
 |none=>exact hd
 |some v =>
  show(if v<0 then(v+(n:Int)).toNat else min v.toNat n)<=n
  by_cases hv:v<0
  ·rw[if_pos hv]; omega
  ·rw[if_neg hv]; exact Nat.min_le_right _ _
theorem ani(v:Int)(n d:Nat):(if v<0 then max (v+(n:Int)) 0 else min v (n:Int))=((sIx n d (some v):Nat):Int):=by
 show(if v<0 then max (v+(n:Int)) 0 else min v (n:Int))=(((if v<0 then(v+(n:Int)).toNat else min v.toNat n):Nat):Int)
 by_cases hv:v<0
 ·simp only[if_pos hv]; omega
 ·simp only[if_neg hv]; omega
theorem ame(lo hi:Option Int)(n:Nat):Builtin.Slice.sliceAdjust lo hi 1 (n:Int)=(((sIx n 0 lo:Nat):Int),((sIx n n hi:Nat):Int)):=by
 have h1:¬((1:Int)<0):=by omega
 unfold Builtin.Slice.sliceAdjust
 simp only[h1,if_false]
 refine Prod.ext ?_ ?_
 ·cases lo with
  |none=>rfl
  |some v=>exact ani v n 0
 ·cases hi with
  |none=>rfl
  |some v=>exact ani v n n
theorem amf(i j:Nat):Builtin.Slice.slicePlaces (i:Int) (j:Int) 1=j-i:=by
 unfold Builtin.Slice.slicePlaces
 have h1:(1:Int) > 0:=by omega
 simp only[h1,if_true,Int.ediv_one]
 split <;> omega
theorem ah8{v:Value}{o:Option Int}{Q:Option Int->Shared->Prop}(p:IsPart v o)(h:Q o s):wpAny (model prog w) A (Builtin.Slice.slicePartIndex v) Q E s:=by
 cases p with
 |none=>exact slicePart_none h
 |int i t=>exact slicePart_int h
theorem agv{sl:Addr}{vl vu:Value}{lo hi:Option Int}{n:Nat}{Q:Int × Int × Nat->Shared->Prop}(hs:s.heap.IsSliceOf sl vl vu .none)(pl:IsPart vl lo)(pu:IsPart vu hi)
  (h:Q (((sIx n 0 lo:Nat):Int),1,sIx n n hi-sIx n 0 lo) s):wpAny (model prog w) A (Builtin.Slice.sliceApplied (.ref sl) (pure (n:Int))) Q E s:=by
 obtain⟨os,hos,hcs,hds⟩:=id hs
 unfold Builtin.Slice.sliceApplied Builtin.Slice.sliceFields
 refine wpAny_bind (wpAny_bind (wpAny_field hos hds (x:=vl) rfl (wpAny_bind (wpAny_field hos hds (x:=vu) rfl (wpAny_bind (wpAny_field hos hds (x:=.none) rfl (wpAny_pure ?_)))))))
 refine wpAny_bind (slicePart_none ?_)
 show wpAny _ _ (if((1:Int) == 0)=true then _ else _) _ _ s
 rw[if_neg (by decide)]
 refine wpAny_bind (ah8 pl (wpAny_bind (ah8 pu (wpAny_bind (wpAny_pure ?_)))))
 show wpAny _ _ (match Builtin.Slice.sliceAdjust lo hi 1 (n:Int)with|(lo,hi)=>pure (lo,(1:Int),Builtin.Slice.slicePlaces lo hi 1)) _ _ s
 rw[ame lo hi n]
 show wpAny _ _ (pure (((sIx n 0 lo:Nat):Int),(1:Int),Builtin.Slice.slicePlaces ((sIx n 0 lo:Nat):Int) ((sIx n n hi:Nat):Int) 1)) _ _ s
 rw[amf]
 exact wpAny_pure h
theorem apl(xs:Array Value)(i k:Nat):((List.range k).filterMap λ(m:Nat)=>xs[((i:Int)+(m:Int)*1).toNat]?).toArray=((xs.toList.drop i).take k).toArray:=by
 have e:(λ(m:Nat)=>xs[((i:Int)+(m:Int)*1).toNat]?)=λm=>xs[i+m]? := by
  funext m
  have:((i:Int)+(m:Int)*1).toNat=i+m:=by omega
  rw[this]
 rw[e]
 have:=pick_run xs i k
 rw[List.filterMap_map]at this
 have e2:((λx=>xs[x]?) ∘ λx=>i+x)=λm=>xs[i+m]? := rfl
 rw[e2]at this
 rw[this]
theorem afO{t sl:Addr}{items:Array Value}{vl vu:Value}{lo hi:Option Int}{Q:Value->Shared->Prop}(ht:IsTup s.heap t items)(hs:s.heap.IsSliceOf sl vl vu .none)(pl:IsPart vl lo)(pu:IsPart vu hi)
  (hw:¬(sIx items.size 0 lo=0/\sIx items.size items.size hi=items.size))
  (h:Q (.ref s.heap.objs.size) {s with heap:=s.heap.push {cls:=.type "tuple",data:=.seq ((items.toList.drop (sIx items.size 0 lo)).take (sIx items.size items.size hi-sIx items.size 0 lo)).toArray } })
  (hsz:items.size<=sizeLine):wpAny (model prog w) A (getItem (.ref t) (.ref sl)) Q E s:=by
 have apm:sizeOk (.seq ((items.toList.drop (sIx items.size 0 lo)).take (sIx items.size items.size hi-sIx items.size 0 lo)).toArray):=by
  show((items.toList.drop (sIx items.size 0 lo)).take (sIx items.size items.size hi-sIx items.size 0 lo)).toArray.size<=sizeLine
  rw[List.size_toArray,List.length_take,List.length_drop,Array.length_toList]
  omega
 have hj:sIx items.size items.size hi<=items.size:=atM _ _ (Nat.le_refl _) hi
 obtain⟨os,hos,hcs,hds⟩:=id hs
 have hTs:s.TypeIs (.ref sl) "slice" := ⟨os,hos,hcs⟩
 unfold getItem
 try with_reducible refine wpAny_holding ?_
 first|refine wpAny_bind (wpAny_pure ?_)|skip
 refine wpAny_bind (wpAny_sequenceKey ht.typeIs (by decide) ?_)
 refine wpAny_bind (wpAny_callSpecial?_slot (name:=Str.ofString "__getitem__") ht.typeIs PyProof.Rows.slot_tuple_getitem
  (wpAny_call_entry PyProof.Rows.slot_tuple_getitem ht.typeIs entry_tuple_getitem ?_ (args_tuple_getitem _ _)))
 show wpAny _ _ (Builtin.Tuple.tupleItemsOf (.ref t) >>= _) _ _ s
 refine wpAny_bind (tupleItemsOf_ ht ?_)
 refine wpAny_bind (wpAny_typeOf hTs ?_)
 rw[if_pos (by decide)]
 refine wpAny_bind (agv hs pl pu ?_)
 have hno:¬((((sIx items.size 0 lo:Nat):Int) == 0&&(1:Int) == 1&&(sIx items.size items.size hi-sIx items.size 0 lo) == items.size)=true):=by
  intro q
  rw[Bool.and_eq_true,Bool.and_eq_true]at q
  have q1:((sIx items.size 0 lo:Nat):Int)=0:=eq_of_beq q.1.1
  have q2:sIx items.size items.size hi-sIx items.size 0 lo=items.size:=eq_of_beq q.2
  exact hw ⟨by omega,by omega⟩
 show wpAny _ _ (if(((sIx items.size 0 lo:Nat):Int) == 0&&(1:Int) == 1&&(sIx items.size items.size hi-sIx items.size 0 lo) == items.size)=true then _ else _) _ _ s
 rw[if_neg hno,apl]
 first
  |exact wpAny_bind (m:=Builtin.Tuple.tupleExact _) (wpAny_newObj_type (wpAny_pure ⟨_,rfl,wpAny_pure h⟩) apm)
  |exact wpAny_bind (m:=Builtin.Tuple.tupleExact _) (wpAny_newObj_type (wpAny_bind (wpAny_pure (wpAny_pure ⟨_,rfl,wpAny_pure h⟩))) apm)
  |exact wpAny_bind (wpAny_bind (m:=Builtin.Tuple.tupleExact _) (wpAny_newObj_type (wpAny_pure (wpAny_pure ⟨_,rfl,wpAny_pure h⟩)) apm))
  |exact wpAny_bind (wpAny_bind (m:=Builtin.Tuple.tupleExact _) (wpAny_newObj_type (wpAny_pure ⟨_,rfl,wpAny_pure h⟩) apm))
end
end HT
namespace L2
open PySem PySem.Spec PyProof.Rows
noncomputable abbrev TO:=St->Hp->(Option Int->Hp->Prop)->Prop
noncomputable def PO(X:Cx)(e:Option Expr)(t:TO):Prop :=
 ∀(pins:List (Addr × Obj)) (s:Shared) (σ : St) (H:Hp) (Q:Option Int->Hp->Prop),Inv X pins σ H s->t σ H Q ->
  wpAny (model X.prog X.w) X.A (evalPart e X.env) (λu s'=>∃o H',Inv X pins σ H' s'/\IsPart u o/\Q o H') X.xe s
noncomputable def anj:TO:=λ_ H Q=>Q none H
noncomputable def atN(t:TE):TO:=λσ H Q=>t σ H λx H1=>∃i,x=.int i/\Q (some i) H1
theorem intsAre_of{ns:List Int}:∀{us:List Value},Vals (ns.map V.int) us->IntsAre us ns:=by
 induction ns with
 |nil=>intro us r; rw[List.map_nil]at r; cases r; exact .nil
 |cons n ns ih =>
  intro us r
  rw[List.map_cons]at r
  cases r with
  |cons r1 r2 =>
   obtain⟨t,e⟩:=r1
   subst e
   exact .cons n t (ih r2)
section
variable {X:Cx}{e:Expr}{te:TE}{lo hi:Option Expr}{tl th:TO}{pos p2:Pos}
theorem aiB:PO X none anj:=by
 intro pins s σ H Q I h
 rw[evalPart_none]
 exact wpAny_pure ⟨none,H,I,.none,h⟩
theorem aiC(h:PE X e te):PO X (some e) (atN te):=by
 intro pins s σ H Q I hw
 rw[evalPart_some]
 refine thn (h pins s σ H _ I hw) λu s1 ⟨x,H1,I1,r1,q1⟩=>?_
 obtain⟨i,rfl,q⟩:=q1
 obtain⟨t,rfl⟩:=r1
 exact⟨some i,H1,I1,.int i t,q⟩
noncomputable def SlR(X:Cx)(r:V->Option Int->Option Int->Hp->VK->Prop):Prop :=
 ∀(pins:List (Addr × Obj)) (s:Shared) (σ : St) (H:Hp) (x:V) (v vl vu:Value) (lo hi:Option Int) (sl:Addr) (Q:VK),Inv X pins σ H s->RelV x v->s.heap.IsSliceOf sl vl vu .none->IsPart vl lo->IsPart vu hi->r x lo hi H Q ->
  ∃T id,typeLookup (.type T) "__getitem__" = pure (some (.builtin id))/\s.TypeIs v T/\wpAny (model X.prog X.w) X.A (getItem v (.ref sl)) (EP X pins σ Q) X.xe s
theorem SlR.or{r r':V->Option Int->Option Int->Hp->VK->Prop}(h:SlR X r)(h':SlR X r'):SlR X (λx lo hi H Q=>r x lo hi H Q\/r' x lo hi H Q):=by
 intro pins s σ H x v vl vu lo hi sl Q I rx hs pl pu q
 rcases q with q|q
 ·exact h pins s σ H x v vl vu lo hi sl Q I rx hs pl pu q
 ·exact h' pins s σ H x v vl vu lo hi sl Q I rx hs pl pu q
noncomputable def tSl(r:V->Option Int->Option Int->Hp->VK->Prop)(te:TE)(tl th:TO):TE:=λσ H Q=>te σ H λx H1=>tl σ H1 λl H2=>th σ H2 λu H3=>r x l u H3 Q
theorem agK{r:V->Option Int->Option Int->Hp->VK->Prop}(hr:SlR X r)(he:PE X e te)(hl:PO X lo tl)(hu:PO X hi th):PE X (.Subscript e (.Slice lo hi none p2) pos) (tSl r te tl th):=by
 refine⟨λpins s σ H Q I h=>?_⟩
 refine Subscript_ (thn (he pins s σ H _ I h) λv s1 ⟨x,H1,I1,r1,q1⟩=>?_)
 refine wpAny_Slice (thn (hl pins s1 σ H1 _ I1 q1) λvl s2 ⟨l,H2,I2,pl,q2⟩=>thn (hu pins s2 σ H2 _ I2 q2) λvu s3 ⟨u,H3,I3,pu,q3⟩=>?_)
 rw[evalPart_none]
 refine wpAny_pure ?_
 have I4:Inv X pins σ H3 {s3 with heap:=s3.heap.push {cls:=.type "slice",data:=.fields #[vl,vu,.none] } }:=I3.kept (t':=s3.toks) λb ob q=>Heap.get?_push_of_some _ q
 obtain⟨T,id,hT,ht,hg⟩:=hr pins {s3 with heap:=s3.heap.push {cls:=.type "slice",data:=.fields #[vl,vu,.none] } } σ H3 x v vl vu l u s3.heap.objs.size Q I4 r1 (Heap.IsSliceOf.new ..) pl pu q3
 show wpAny (model X.prog X.w) X.A (subscriptTail e (.Slice lo hi none p2) v (.ref s3.heap.objs.size)) (EP X pins σ Q) X.xe {s3 with heap:=s3.heap.push {cls:=.type "slice",data:=.fields #[vl,vu,.none] } }
 exact tail_any (ops:=[.ref s3.heap.objs.size,v]) ht hT hg (by with_unfolding_all rfl)
noncomputable def aqG(xs:List V)(lo hi:Option Int):List V:=(xs.drop (HT.sIx xs.length 0 lo)).take (HT.sIx xs.length xs.length hi-HT.sIx xs.length 0 lo)
theorem agZ(xs:List V)(lo hi:Option Int):(aqG xs lo hi).length<=xs.length:=by
 unfold aqG
 rw[List.length_take,List.length_drop]
 omega
noncomputable def ayW(K:PySem.W.Frag):V->Option Int->Option Int->Hp->VK->Prop:=λx lo hi H Q=>∃a xs,x=.ref a/\SqT K H a xs /\
 ¬(HT.sIx xs.length 0 lo=0/\HT.sIx xs.length xs.length hi=xs.length)/\∀p,H p=none->Q (.ref p) (upd H p (.tup (aqG xs lo hi)))
theorem atO:SlR X (ayW X.K):=by
 intro pins s σ H x v vl vu lo hi sl Q I rx hs pl pu h
 obtain⟨a,xs,rfl,hx,hw,q⟩:=h
 cases rx
 obtain⟨its,r,ht,hz⟩:=I.tuple hx
 have hlen:its.toArray.size=xs.length:=by rw[List.size_toArray]; exact r.length.symm
 refine⟨"tuple",_,PyProof.Rows.slot_tuple_getitem.lookup,ht.typeIs,?_⟩
 refine HT.afO ht hs pl pu (by rw[hlen]; exact hw) ?_ (by rw[hlen]; exact hz)
 rw[hlen]
 refine⟨.ref s.heap.objs.size,_,I.laid (t':=s.toks) (o:=.tup (aqG xs lo hi)) (λb ob q=>Heap.get?_push_of_some _ q) (Nat.le_refl _) ?_,rfl,q _ (I.hok.fresh (Nat.le_refl _))⟩
 exact⟨Nat.le_trans (agZ xs lo hi) hz,_,(r.drop (HT.sIx xs.length 0 lo)).take (HT.sIx xs.length xs.length hi-HT.sIx xs.length 0 lo),IsTup.new _ _⟩
noncomputable def ayX(K:PySem.W.Frag):R2:=λx y H Q=>∃a b ns ms,x=.ref a/\y=.ref b/\SqT K H a (ns.map V.int)/\SqT K H b (ms.map V.int)/\Q (.bl (HT.lexLt ns ms)) H
theorem atP(hu:X.A.units<cLine):OpR X (compareOp .Lt) (ayX X.K):=by
 intro pins s σ H x y v u Q I rx ry h
 obtain⟨a,b,ns,ms,rfl,rfl,ha,hb,q⟩:=h
 cases rx
 cases ry
 obtain⟨its,r1,p1,_⟩:=I.tuple ha
 obtain⟨its2,r2,p2,_⟩:=I.tuple hb
 have i1:IntsAre its.toArray.toList ns:=intsAre_of r1
 have i2:IntsAre its2.toArray.toList ms:=intsAre_of r2
 exact HT.amd p1 p2 i1 i2 hu ⟨.bl (HT.lexLt ns ms),H,I,rfl,q⟩
noncomputable def atQ(K:PySem.W.Frag):R2:=λx y H Q=>∃a b xs ys,x=.ref a/\y=.ref b/\SqT K H a xs/\SqT K H b ys/\xs≠[]/\xs.length+ys.length<=sizeLine /\
 (ys=[]->Q (.ref a) H)/\(ys≠[]->∀p,H p=none->Q (.ref p) (upd H p (.tup (xs++ys))))
theorem Vals.akk{xs:List V}{us:List Value}(r:Vals xs us):us=[]↔xs=[]:=by
 cases r with
 |nil=>simp
 |cons _ _=>simp
theorem arq:OpR X (binaryOp .Add) (atQ X.K):=by
 intro pins s σ H x y v u Q I rx ry h
 obtain⟨a,b,xs,ys,rfl,rfl,ha,hb,hx,hz,q1,q2⟩:=h
 cases rx
 cases ry
 obtain⟨its,r1,p1,_⟩:=I.tuple ha
 obtain⟨its2,r2,p2,_⟩:=I.tuple hb
 refine HT.arp p1 p2 (λz=>hx (r1.akk.mp z)) (λz=>⟨.ref a,H,I,rfl,q1 (r2.akk.mp z)⟩) (λz=>?_) (by rw[<-r1.length,<-r2.length]; exact hz)
 refine⟨.ref s.heap.objs.size,_,I.laid (t':=s.toks) (o:=.tup (xs++ys)) (λb ob q=>Heap.get?_push_of_some _ q) (Nat.le_refl _) ?_,rfl,q2 (λw=>z (r2.akk.mpr w)) _ (I.hok.fresh (Nat.le_refl _))⟩
 exact⟨by rw[List.length_append]; exact hz,_,r1.append r2,IsTup.new _ _⟩
end
end L2
namespace L2
open PySem PySem.Spec PyProof.Rows
noncomputable def ixN(n:Nat)(i:Int):Option Nat:=if 0<=i then(if i<n then some i.toNat else none)else if -(n:Int)<=i then some (i+n).toNat else none
noncomputable def atI{α : Type}(xs:List α)(i:Int):Option α := (ixN xs.length i).bind λj=>xs[j]?
theorem ank{n:Nat}{i:Int}{j:Nat}(h:ixN n i=some j):seqIndex? i n=some j/\j<n /\ -(n:Int)<=i/\i<n:=by
 unfold ixN at h
 by_cases h0:0<=i
 ·rw[if_pos h0]at h
  by_cases h1:i<n
  ·rw[if_pos h1]at h
   have e:i.toNat=j:=Option.some.inj h
   exact⟨by rw[seqIndex_of h0 h1,e],by omega,by omega,h1⟩
  ·rw[if_neg h1]at h; cases h
 ·rw[if_neg h0]at h
  by_cases h1 : -(n:Int)<=i
  ·rw[if_pos h1]at h
   have e:(i+n).toNat=j:=Option.some.inj h
   exact⟨by rw[seqIndex_neg (by omega) h1,e],by omega,h1,by omega⟩
  ·rw[if_neg h1]at h; cases h
theorem akl{α : Type}{xs:List α}{i:Int}{v : α}(h:atI xs i=some v):∃j,seqIndex? i xs.length=some j/\xs[j]?=some v/\j<xs.length /\ -(xs.length:Int)<=i/\i<xs.length:=by
 unfold atI at h
 cases e:ixN xs.length i with
 |none=>rw[e]at h; cases h
 |some j =>
  rw[e]at h
  obtain⟨h1,h2,h3,h4⟩:=ank e
  exact⟨j,h1,h,h2,h3,h4⟩
noncomputable def ars(b:Expr):Prop:=∀o i,subscripted b false o i=operate [o,i] (getItem o i)
noncomputable def IxR(X:Cx)(r:R2):Prop :=
 ∀(value slice:Expr) (pins:List (Addr × Obj)) (s:Shared) (σ : St) (H:Hp) (x y:V) (v u:Value) (Q:VK),Inv X pins σ H s->RelV x v->RelV y u->r x y H Q ->
  subscripted slice false v u=operate [v,u] (getItem v u)->wpAny (model X.prog X.w) X.A (subscriptTail value slice v u) (EP X pins σ Q) X.xe s
noncomputable def MtR(X:Cx)(id:String)(r:V->List V->Hp->VK->Prop):Prop :=
 ∀(pins:List (Addr × Obj)) (s:Shared) (σ : St) (H:Hp) (x:V) (xs:List V) (v:Value) (us:List Value) (Q:VK),Inv X pins σ H s->RelV x v->Vals xs us->r x xs H Q ->
  wpAny (model X.prog X.w) X.A (call (.builtin id) (v::us)) (EP X pins σ Q) X.xe s
section
variable {X:Cx}{a b:Expr}{ta tb:TE}{pos:Pos}
theorem IxR.or{r r':R2}(h:IxR X r)(h':IxR X r'):IxR X (λx y H Q=>r x y H Q\/r' x y H Q):=by
 intro value slice pins s σ H x y v u Q I rx ry q hs
 rcases q with q|q
 ·exact h value slice pins s σ H x y v u Q I rx ry q hs
 ·exact h' value slice pins s σ H x y v u Q I rx ry q hs
theorem aa8{r:R2}(hr:IxR X r)(ha:PE X a ta)(hb:PE X b tb)(hs:ars b):PE X (.Subscript a b pos) (tOp r ta tb):=by
 refine⟨λpins s σ H Q I h=>?_⟩
 exact Subscript_ (awY ha hb I h λv u s2 x y H2 I2 rx ry q=>hr a b pins s2 σ H2 x y v u Q I2 rx ry q (hs _ _))
noncomputable def ayY(K:PySem.W.Frag):R2:=λx y H Q=>∃p xs i v,x=.ref p/\y=.int i/\SqL K H p xs/\atI xs i=some v/\Q v H
noncomputable def ayZ(K:PySem.W.Frag):R2:=λx y H Q=>∃p xs i v,x=.ref p/\y=.int i/\SqT K H p xs/\atI xs i=some v/\Q v H
noncomputable def ay0:R2:=λx y H Q=>∃z i c,x=.str z/\y=.int i/\z.length<=sizeLine/\atI z.cps.toList i=some c/\Q (.str ⟨#[c]⟩) H
theorem aru:IxR X (ayY X.K):=by
 intro value slice pins s σ H x y v u Q I rx ry h hs
 obtain⟨p,xs,i,z,rfl,rfl,hq,he,q⟩:=h
 cases rx
 obtain⟨t,rfl⟩:=ry
 obtain⟨its,r,pl,hz⟩:=I.list hq
 obtain⟨j,h1,h2,h3,h4,h5⟩:=akl he
 obtain⟨w,ew,rw'⟩:=r.get h2
 have hl:=r.length
 have hn:=agY
 have fin:EP X pins σ Q w s:=⟨z,H,I,rw',q⟩
 by_cases h0:0<=i
 ·have hj:i.toNat=j:=by
   rw[seqIndex_of h0 h5]at h1
   exact Option.some.inj h1
  exact item_listR pl.isList h0 (by omega) (by rw[hj]; simpa using ew) fin hs
 ·have hj:(i+(its.toArray.size:Int)).toNat=j:=by
   rw[seqIndex_neg (by omega) h4]at h1
   rw[List.size_toArray,<-hl]
   exact Option.some.inj h1
  exact subscriptTail_builtinR (x:=w) pl.isList.typeIs slot_list_getitem.lookup
   (wpAny_getItem_list_neg (Q:=λr s'=>r=w/\EP X pins σ Q r s') pl.isList (by omega) (by rw[List.size_toArray] <;> omega) (by omega) (by rw[hj]; simpa using ew) ⟨rfl,fin⟩) hs
theorem atR:IxR X (ayZ X.K):=by
 intro value slice pins s σ H x y v u Q I rx ry h hs
 obtain⟨p,xs,i,z,rfl,rfl,hq,he,q⟩:=h
 cases rx
 obtain⟨t,rfl⟩:=ry
 obtain⟨its,r,pl,hz⟩:=I.tuple hq
 obtain⟨j,h1,h2,h3,h4,h5⟩:=akl he
 obtain⟨w,ew,rw'⟩:=r.get h2
 have hl:=r.length
 have hn:=agY
 have fin:EP X pins σ Q w s:=⟨z,H,I,rw',q⟩
 exact subscriptTail_builtinR (x:=w) pl.typeIs slot_tuple_getitem.lookup
  (getItem_tuple (j:=j) (Q:=λr s'=>r=w/\EP X pins σ Q r s') pl (by omega) (by omega) (by rw[List.size_toArray,<-hl]; exact h1) (by simpa using ew) ⟨rfl,fin⟩) hs
theorem atU:IxR X ay0:=by
 intro value slice pins s σ H x y v u Q I rx ry h hs
 obtain⟨z,i,c,rfl,rfl,hz,he,q⟩:=h
 obtain⟨t,rfl⟩:=rx
 obtain⟨t',rfl⟩:=ry
 obtain⟨j,h1,h2,h3,h4,h5⟩:=akl he
 have hl:z.cps.toList.length=z.length:=by simp[Str.length]
 rw[hl]at h1 h4 h5
 have hn:=agY
 exact tail_any (typeIs_str s z t) slot_str_getitem.lookup (getItem_str (c:=c) (by
  have e1:decide (i < -(2 ^ 63:Int))=false:=decide_eq_false (by omega)
  have e2:decide (i >= 2 ^ 63)=false:=decide_eq_false (by omega)
  rw[e1,e2,Bool.or_false]) (by rw[h1]; simpa using h2) ⟨.str ⟨#[c]⟩,H,I.tok _,⟨_,rfl⟩,q⟩) hs
noncomputable def rIx(K:PySem.W.Frag):R2:=λx y H Q=>ayY K x y H Q\/ayZ K x y H Q\/ay0 x y H Q
theorem aaF:IxR X (rIx X.K):=aru.or (atR.or atU)
theorem amg(its:List Value)(n j:Nat)(u:Value):Obj.mapSeq (·.setIfInBounds j u) {cls:=.type "list",data:=.seq its.toArray n }={cls:=.type "list",data:=.seq (its.set j u).toArray n }:=by
 simp[Obj.mapSeq]
theorem Inv.lst{pins:List (Addr × Obj)}{σ : St}{H:Hp}{s:Shared}{p:Addr}{xs:List V}(I:Inv X pins σ H s)(h:H p=some (.lst xs)) :
  ∃(its:List Value) (n:Nat),Vals xs its/\s.heap.get? p=some {cls:=.type "list",data:=.seq its.toArray n }/\xs.length<=sizeLine:=by
 obtain⟨z,its,n,r,e⟩:=I.hok p _ h
 exact⟨its,n,r,e,z⟩
theorem Inv.atV{pins:List (Addr × Obj)}{σ : St}{H:Hp}{s:Shared}{p:Addr}{xs ys:List V}{its its':List Value}{n n':Nat}{f:Obj->Obj}(I:Inv X pins σ H s)(h:H p=some (.lst xs))
  (ho:s.heap.get? p=some {cls:=.type "list",data:=.seq its.toArray n }) (hf:f {cls:=.type "list",data:=.seq its.toArray n }={cls:=.type "list",data:=.seq its'.toArray n' }) (r:Vals ys its') (hz:ys.length<=sizeLine) (t:Nat) :
  Inv X pins σ (upd H p (.lst ys)) {s with heap:=s.heap.update p f,toks:=t }:=by
 have e:(s.heap.update p f).get? p=some {cls:=.type "list",data:=.seq its'.toArray n' }:=by
  rw[Heap.get?_update_self f ho (by rw[hf] <;> rfl),hf]
 refine I.write (x:=p) (e:=p) (by rw[h]; trivial) (.inl rfl) (λb u hb q=>(Heap.get?_update_other _ _ (Ne.symm hb)).trans q) ⟨_,e⟩ ?_
 exact⟨hz,its',n',r,e⟩
noncomputable def atX:V->V->V->Hp->(Hp->Prop)->Prop:=λo i v H Q=>∃p xs k j,o=.ref p/\i=.int k/\H p=some (.lst xs)/\ixN xs.length k=some j/\Q (upd H p (.lst (xs.set j v)))
theorem set_list:ayO X atX:=by
 intro pins s σ H o i v ov iv u Q I ro ri rv h
 obtain⟨p,xs,k,j,rfl,rfl,hp,hj,q⟩:=h
 cases ro
 obtain⟨t,rfl⟩:=ri
 obtain⟨its,n,r,ho,hz⟩:=I.lst hp
 obtain⟨h1,h2,h3,h4⟩:=ank hj
 have hl:=r.length
 have hn:=agY
 have I':Inv X pins σ (upd H p (.lst (xs.set j v))) {s with heap:=s.heap.update p (Obj.mapSeq (·.setIfInBounds j u)) } :=
  I.atV hp ho (amg its n j u) (r.set rv j) (by rw[List.length_set]; exact hz) s.toks
 by_cases h0:0<=k
 ·have hk:k.toNat=j:=by
   rw[seqIndex_of h0 h4]at h1
   exact Option.some.inj h1
  exact PySem.W.ki_setAt ho h0 (by omega) (by rw[List.size_toArray,<-hl]; exact h4) (by rw[hk]; exact⟨_,I',q⟩)
 ·have hk:(k+(its.toArray.size:Int)).toNat=j:=by
   rw[seqIndex_neg (by omega) h3]at h1
   rw[List.size_toArray,<-hl]
   exact Option.some.inj h1
  exact PySem.W.ki_setBack ho (by omega) (by rw[List.size_toArray,<-hl]; exact h3) (by omega) (by rw[hk]; exact⟨_,I',q⟩)
theorem ajA(lo hi:Option Int)(n:Nat):(sliceBounds lo hi none n).1=((HT.sIx n 0 lo:Nat):Int)/\(sliceBounds lo hi none n).2.1=((HT.sIx n n hi:Nat):Int)/\(sliceBounds lo hi none n).2.2=1:=by
 refine⟨?_,?_,rfl⟩
 ·cases lo with
  |none=>simp[sliceBounds,HT.sIx]
  |some i =>
   simp only[sliceBounds,HT.sIx,Option.getD_none,show(1:Int) > 0 by decide,if_true]
   by_cases h:i<0
   ·simp only[h,if_true] <;> omega
   ·simp only[h,if_false] <;> omega
 ·cases hi with
  |none=>simp[sliceBounds,HT.sIx]
  |some i =>
   simp only[sliceBounds,HT.sIx,Option.getD_none,show(1:Int) > 0 by decide,if_true]
   by_cases h:i<0
   ·simp only[h,if_true] <;> omega
   ·simp only[h,if_false] <;> omega
theorem aiD(its:List Value)(lo hi:Option Int):slicePick its.toArray lo hi none=((its.drop (HT.sIx its.length 0 lo)).take (HT.sIx its.length its.length hi-HT.sIx its.length 0 lo)).toArray:=by
 obtain⟨h1,h2,h3⟩:=ajA lo hi its.toArray.size
 unfold slicePick
 rw[h1,h2,h3]
 simp only[sliceRange_one,pick_run,List.size_toArray] <;> rfl
noncomputable def ay1(K:PySem.W.Frag):V->Option Int->Option Int->Hp->VK->Prop:=λx lo hi H Q=>∃a xs,x=.ref a/\SqL K H a xs/\∀p,H p=none->Q (.ref p) (upd H p (.lst (aqG xs lo hi)))
theorem arv:SlR X (ay1 X.K):=by
 intro pins s σ H x v vl vu lo hi sl Q I rx hs pl pu h
 obtain⟨a,xs,rfl,hx,q⟩:=h
 cases rx
 obtain⟨its,r,ht,hz⟩:=I.list hx
 have hlen:=r.length
 refine⟨"list",_,slot_list_getitem.lookup,ht.isList.typeIs,?_⟩
 refine wpAny_getItem_list_slice ht.isList hs pl pu .none (by simp) ?_ (by rw[List.size_toArray] <;> omega)
 rw[aiD,<-hlen]
 refine⟨.ref s.heap.objs.size,_,I.laid (t':=s.toks) (o:=.lst (aqG xs lo hi)) (λb ob q=>Heap.get?_push_of_some _ q) (Nat.le_refl _) ?_,rfl,q _ (I.hok.fresh (Nat.le_refl _))⟩
 exact⟨Nat.le_trans (agZ xs lo hi) hz,_,0,(r.drop (HT.sIx xs.length 0 lo)).take (HT.sIx xs.length xs.length hi-HT.sIx xs.length 0 lo),Heap.get?_push_size _ rfl⟩
theorem ajB:aeg X (.builtin "len") (λxs H Q=>∃p ys,xs=[.ref p]/\(SqL X.K H p ys\/SqT X.K H p ys)/\Q (.int ys.length) H):=by
 intro pins s σ H xs us Q I r h
 obtain⟨p,ys,rfl,hq,q⟩:=h
 obtain⟨u,rfl,rx⟩:=vals1 r
 cases rx
 have hn:=agY
 rcases hq with hq|hq
 ·obtain⟨its,r',pl,hz⟩:=I.list hq
  have hlen:=r'.length
  exact Calls.call_len_list pl.isList (by simp only[List.size_toArray] <;> omega) ⟨.int ys.length,H,I.tok _,⟨s.toks+1,by rw[List.size_toArray,hlen]⟩,q⟩
 ·obtain⟨its,r',pl,hz⟩:=I.tuple hq
  have hlen:=r'.length
  exact len_tuple pl (by simp only[List.size_toArray] <;> omega) ⟨.int ys.length,H,I.tok _,⟨s.toks+1,by rw[List.size_toArray,hlen]⟩,q⟩
theorem ajC:aeg X (.builtin "len") (λxs H Q=>∃z,xs=[.str z]/\z.length<=sizeLine/\Q (.int z.length) H):=by
 intro pins s σ H xs us Q I r h
 obtain⟨z,rfl,hz,q⟩:=h
 obtain⟨u,rfl,t,rfl⟩:=vals1 r
 have hn:=agY
 exact len_str (by omega) ⟨.int z.length,H,I.tok _,⟨_,rfl⟩,q⟩
theorem aeg.or{f:Value}{r r':List V->Hp->VK->Prop}(h:aeg X f r)(h':aeg X f r'):aeg X f (λxs H Q=>r xs H Q\/r' xs H Q):=by
 intro pins s σ H xs us Q I rs q
 rcases q with q|q
 ·exact h pins s σ H xs us Q I rs q
 ·exact h' pins s σ H xs us Q I rs q
noncomputable def tyV(K:PySem.W.Frag)(T:String)(x:V)(H:Hp):Prop:=match x with
 |.str _=>T = "str"
 |.int _=>T = "int"
 | .ref p=>(T = "list" ∧ ∃xs,SqL K H p xs)∨(T = "tuple" ∧ ∃o,K.lookup p=some o∧o.cls=.type "tuple" ∧ o.dict=none) ∨
   (T = "dict" ∧ ((∃kvs,H p=some (.dK kvs))∨∃kvs,H p=some (.dT kvs)))∨(T = "set" ∧ ∃S n,H p=some (.set S n))
 |_=>False
theorem atY{pins:List (Addr × Obj)}{σ : St}{H:Hp}{s:Shared}{T:String}{x:V}{v:Value}(I:Inv X pins σ H s)(r:RelV x v)(ty:tyV X.K T x H) :
  s.TypeIs v T/\∀a,v=.ref a->∃ob,s.heap.get? a=some ob/\ob.dict=none:=by
 cases x with
 |str z =>
  obtain⟨t,rfl⟩:=r
  cases(show T = "str" from ty)
  exact⟨typeIs_str s z t,λ_ e=>nomatch e⟩
 |int i =>
  obtain⟨t,rfl⟩:=r
  cases(show T = "int" from ty)
  exact⟨typeIs_int s i t,λ_ e=>nomatch e⟩
 |ref p =>
  cases r
  rcases ty with⟨rfl,xs,hq⟩|⟨rfl,o,hk,hc,hd⟩|⟨rfl,hk⟩|⟨rfl,S,n,hk⟩
  ·obtain⟨its,_,pl,_⟩:=I.list hq
   refine⟨pl.isList.typeIs,λa e=>?_⟩
   cases e
   obtain⟨o,n,e,c,hd,_⟩:=pl
   exact⟨o,e,hd⟩
  ·refine⟨⟨o,I.kIn p o hk,hc⟩,λa e=>?_⟩
   cases e
   exact⟨o,I.kIn _ o hk,hd⟩
  ·have z:∃o,s.heap.get? p=some o/\o.ExactDict:=by
    rcases hk with⟨kvs,hk⟩|⟨kvs,hk⟩
    ·obtain⟨_,_,_,_,o,_,_,e,ex,_⟩:=I.hok p _ hk
     exact⟨o,e,ex⟩
    ·obtain⟨_,_,_,_,o,_,_,e,ex,_⟩:=I.hok p _ hk
     exact⟨o,e,ex⟩
   obtain⟨o,e,ex⟩:=z
   refine⟨⟨o,e,ex.1⟩,λa e2=>?_⟩
   cases e2
   exact⟨o,e,ex.2.1⟩
  ·obtain⟨o,_,_,_,e,ex,_⟩:=I.hok p _ hk
   refine⟨⟨o,e,ex.1⟩,λa e2=>?_⟩
   cases e2
   exact⟨o,e,ex.2.1⟩
 |_=>exact False.elim ty
noncomputable def tBM(K:PySem.W.Frag)(T:String)(r:V->List V->Hp->VK->Prop)(to:TE)(t:TA):TE:=λσ H Q=>to σ H λx H1=>tyV K T x H1/\t σ H1 λxs H2=>r x xs H2 Q
variable {o e:Expr}{es:List Expr}{to:TE}{t:TA}{name:Str}{apos cpos:Pos}{T id:String}{r:V->List V->Hp->VK->Prop}
theorem ajD(pa:PlainAttrs T)(slot:Slot T name id)(hty:typeOf (.builtin id)=pure (.type "method_descriptor")) (hm:MtR X id r) (ho:PE X o to) (ha:PA X (e::es) t)
  (hbase:attributeBase o name X.env (eval o X.env)=eval o X.env:=by rfl)
  (hfew:((backTo cpos (starEach (e::es) X.env)).all (λx=>!x.1)&&(backToKw cpos (keywordEach [] X.env)).all (λx=>x.1.isSome)
   && decide ((e::es).length+([]:List Keyword).length+(if([]:List Keyword).isEmpty then 0 else 1)<30))=true:=by rfl)
  (hline:(apos.endLine == cpos.line)=true:=by rfl) (hs:starEach (e::es) X.env=(false,eval e X.env)::starEach es X.env:=by rfl) (hplain:(backTo cpos (starEach es X.env)).any (·.1)=false:=by rfl) :
  PE X (.Call (.Attribute o name apos) (e::es) [] cpos) (tBM X.K T r to t):=by
 refine⟨λpins s σ H Q I h=>?_⟩
 refine wpAny_Call_method_late hbase hfew hline rfl (thn (ho pins s σ H _ I h) λv s1 ⟨x,H1,I1,r1,ty,q1⟩=>?_)
 obtain⟨h1,h2⟩:=atY I1 r1 ty
 refine⟨T,id,pa,slot,hty,h1,h2,?_⟩
 have hA:=ha cpos pins s1 σ H1 _ I1 q1
 rw[hs]at hA ⊢
 refine Calls.callWith_builtin (by show(false || (backTo cpos (starEach es X.env)).any (·.1))=false; rw[hplain] <;> rfl) (Calls.evalArgs_plain ?_)
 exact thn hA λus s2 ⟨vs,H2,I2,r2,q2⟩=>hm pins s2 σ H2 x vs v us Q I2 r1 r2 q2
end
end L2
namespace L2
open PySem PySem.Spec PyProof.Rows
noncomputable def MtM(X:Cx)(id:String)(r:V->List V->Hp->VK->Prop):Prop :=
 ∀(pins:List (Addr × Obj)) (s:Shared) (σ : St) (H:Hp) (x:V) (xs:List V) (v:Value) (us:List Value) (Q:VK),Inv X pins σ H s->RelV x v->Vals xs us->r x xs H Q ->
  wpAny (model X.prog X.w) X.A (call (.builtin id) (v::us)) (EP X pins σ Q) X.xe s
theorem Vals.one:∀{x:V} {us:List Value},Vals [x] us->∃u,us=[u]/\RelV x u
 |_,_,.cons r .nil=>⟨_,rfl,r⟩
theorem Vals.rep{xs:List V}{us:List Value}(h:Vals xs us):∀k:Nat,Vals (List.replicate k xs).flatten (List.replicate k us).flatten
 | 0=>.nil
 |k+1=>by
  rw[List.replicate_succ,List.replicate_succ,List.flatten_cons,List.flatten_cons]
  exact Vals.append h (Vals.rep h k)
theorem foldl_rep(its:List Value):∀(k:Nat) (acc:List Value),
  List.foldl (λx1 x2=>x1++x2) acc.toArray (List.replicate k its.toArray)=(acc++(List.replicate k its).flatten).toArray
 | 0,acc=>by simp
 |k+1,acc=>by
  have e:acc.toArray++its.toArray=(acc++its).toArray:=by simp
  have e2:(acc++its)++(List.replicate k its).flatten=acc++(List.replicate (k+1) its).flatten:=by
   rw[List.replicate_succ,List.flatten_cons,List.append_assoc]
  rw[<-e2,<-foldl_rep its k (acc++its),<-e,List.replicate_succ,List.foldl_cons]
section
variable {X:Cx}{pins:List (Addr × Obj)}{σ : St}{H:Hp}{s:Shared}{l b:Addr}{xs ys zs:List V}
theorem Inv.ay2{its its':List Value}{n:Nat}{f:Array Value->Array Value}{t':Nat}(I:Inv X pins σ H s)(hH:H l=some (.lst xs))
  (e:s.heap.get? l=some {cls:=.type "list",data:=.seq its.toArray n }) (hf:f its.toArray=its'.toArray) (hv:Vals ys its') (hz:ys.length<=sizeLine) :
  Inv X pins σ (upd H l (.lst ys)) {s with heap:=s.heap.update l (Obj.mapSeq f),toks:=t' }:=by
 have q:=PySem.IsL.update e f
 rw[hf]at q
 refine I.write (x:=l) (e:=l) (by rw[hH]; exact trivial) (.inl rfl) (λb' u hb hu=>(Heap.get?_update_other s.heap (Obj.mapSeq f) (Ne.symm hb)).trans hu) ⟨_,q⟩ ?_
 exact⟨hz,its',_,hv,q⟩
theorem Inv.awC{its:List Value}{t':Nat}(I:Inv X pins σ H s)(hv:Vals ys its)(hz:ys.length<=sizeLine) :
  Inv X pins σ (upd H s.heap.objs.size (.lst ys)) {s with heap:=s.heap.push {cls:=.type "list",data:=.seq its.toArray },toks:=t' } :=
 I.laid (λ_ _ q=>Heap.get?_push_of_some _ q) (Nat.le_refl _) ⟨hz,its,0,hv,Heap.get?_push_size _ rfl⟩
theorem Inv.fresh(I:Inv X pins σ H s):H s.heap.objs.size=none:=I.hok.fresh (Nat.le_refl _)
theorem Inv.ay3(I:Inv X pins σ H s)(hH:H l=some (.lst xs)):xs.length<=sizeLine/\∃(its:List Value) (n:Nat),Vals xs its/\xs.length=its.length/\s.heap.get? l=some {cls:=.type "list",data:=.seq its.toArray n }:=by
 obtain⟨z,its,n,r,e⟩:=I.hok l _ hH
 exact⟨z,its,n,r,r.length,e⟩
theorem apn{n:Nat}(h:n<=sizeLine):Builtin.List.listTooLong n=false:=by
 unfold Builtin.List.listTooLong
 exact decide_eq_false (by omega)
end
section
variable {X:Cx}
noncomputable def akm:V->List V->Hp->VK->Prop:=λx vs H Q=>∃l xs y,x=.ref l/\vs=[y]/\H l=some (.lst xs)/\xs.length<sizeLine/\Q .non (upd H l (.lst (xs++[y])))
theorem acH:MtM X "list.append" akm:=by
 intro pins s σ H x vs v us Q I rx rv h
 obtain⟨l,xs,y,rfl,rfl,hH,hz,q⟩:=h
 cases rx
 obtain⟨u,rfl,ru⟩:=rv.one
 obtain⟨z,its,n,r,hl,e⟩:=I.ay3 hH
 refine call_meets F.slot_list_append ⟨_,e,rfl⟩ F.entry_list_append (F.args_list_append_2 _ _) (PySem.list_append l its.toArray n u (by rw[List.size_toArray]; omega)) ⟨e,?_⟩
 refine⟨.non,_,I.ay2 (its':=its++[u]) hH e (by simp) (r.append (.cons ru .nil)) ?_,rfl,q⟩
 rw[List.length_append,List.length_singleton]
 omega
theorem len_rep{α : Type}(xs:List α)(k:Nat):(List.replicate k xs).flatten.length=k*xs.length:=by
 induction k with
 |zero=>simp
 |succ k ih=>rw[List.replicate_succ,List.flatten_cons,List.length_append,ih,Nat.succ_mul,Nat.add_comm]
end
section
variable {prog:Program}{w:World}{A:Around}{E:Value->Shared->Prop}{s:Shared}
end
section
variable {X:Cx}
end
end L2
namespace Att
open PySem PySem.W PySem.Calls PyProof.Rows
theorem ag0{P:Params}{h:Heap}:∀(ns:List Int) (vs:List Value),WellAll P h vs (ns.map WData.int)->IntsAre vs ns:=by
 intro ns
 induction ns with
 |nil =>
  intro vs w
  rw[List.map_nil]at w
  cases w
  exact .nil
 |cons n ns ih =>
  intro vs w
  rw[List.map_cons]at w
  cases w with
  |cons a b =>
   cases a
   exact .cons _ _ (ih _ b)
theorem anl{l:OpenLaw}{n:Nat}(hn:l.most=some n){P:Params}{h:Heap}{args:List WData}{vals:List Value}
  (hpre:l.row.toRowW.claim.pre args=true) (hwl:WellAll P h vals args) :
  ∃a vs ns,vals=[Value.ref a]/\args=[WData.list (ns.map WData.int)]/\h.get? a=some {cls:=.type "list",data:=.seq vs.toArray }/\IntsAre vs ns/\ns.length<=n:=by
 have hsh:WShape.hasAll [] args [.list .int]=true:=(pre_splitW hpre).1
 have hc:l.pre.holds [] {args:=args }=true:=(pre_splitW hpre).2
 obtain⟨d,r,rfl,h1,h2⟩:=hasAllW_cons hsh
 obtain rfl:=hasAllW_nil h2
 obtain⟨xs,rfl,h3⟩:=hasW_list h1
 obtain⟨ns,rfl⟩:=items_int h3
 have hlen:ns.length<=n:=by
  unfold OpenLaw.pre at hc
  have h4:(WTm.not (.lt (.lit (.int (n:Int))) (.len (.arg 0)))).holds [] {args:=[.list (ns.map .int)] }=true:=by
   have h4:=(holds_andW hc).1
   rw[hn]at h4
   exact h4
  have h5:=condW_of h4 (w_not (w_lt w_lit (w_len_list (w_arg rfl))))
  rw[List.length_map]at h5
  refine Nat.le_of_not_lt λq=>?_
  have q':(n:Int)<((ns.length:Nat):Int):=by omega
  first
   |(rw[decide_eq_true q']at h5; exact absurd h5 (by decide))
   |(simp at h5; omega)
 cases hwl with
 |cons w1 w2 =>
  cases w2
  cases w1 with
  |list ho hall=>exact⟨_,_,ns,rfl,rfl,ho,ag0 ns _ hall,hlen⟩
theorem anm(l:OpenLaw)(args:List WData):l.row.toRowW.claim.post args (.bool true) args=true :=
 postW_of (r:=l.row.toRowW) (X:=(true == true))
  (show WShape.has [] (.bool true) .bool=true by first|rfl|decide|simp[WShape.has,WShape.arms,WShape.armsAll])
  (show(WTm.eq .res (.lit (.bool true))).value [] {args:=args,res:=some (.bool true),after:=args }=some (.bool (true == true))from w_eq_bool (w_res rfl) w_lit) rfl
theorem akn{l:OpenLaw}{n:Nat}{q:Program}{loose:List Str}{XP:(Str->Option Value)->Heap->Prop}{YP:World->Heap->Prop}{d:DefRec}
  (hn:l.most=some n) (hdf:d.params.defaults=[])
  (call:∀(w:World) (s₀ s₁ : Shared) (mg mb:Str->Option Value) (fa:Addr) (o:Obj) (pm cd doc:Value) (a:Addr) (vs:List Value) (ns:List Int),
   Ground q loose [] XP w s₀ mg mb s₁.heap->YP w s₁.heap ->
   s₁.heap.get? fa=some o->o.data=.func (docDef d.name d.params d.body d.scope pm cd doc)->s₁.heap.CodeRec cd d.name->mg d.name=some (.ref fa) ->
   s₁.heap.get? a=some {cls:=.type "list",data:=.seq vs.toArray }->IntsAre vs ns->ns.length<=n->s₁.gens = #[] ->
   codeAny (model l.prog w) callerA (.call (.ref fa) ⟨[.ref a],[]⟩) (λr s'=>r=.ok (.ret (.bool true))/\OldK s₁.heap s'.heap/\s'.os=s₁.os/\AllBare s'.gens) s₁) :
  WalkO q loose XP YP l.row.toRowW d [] (λf vs=>PySem.call f vs):=by
 intro w s₀ s₁ mg mb G Y fa o pm cd doc dV kV ho hd hcd hD hmg hg args vals as hpre hlay hrd hwl hlo
 obtain rfl:dV=.none:=Dflts.none hD hdf
 obtain rfl:kV=.none:=Dflts.noKw hD
 obtain⟨a,vs,ns,rfl,rfl,hobj,hints,hlen⟩:=anl hn hpre hwl
 refine enter_call (codeAny_mono (call w s₀ s₁ mg mb fa o pm cd doc a vs ns G Y ho (fd_plain hd) hcd hmg hobj hints hlen hg) λr s' hq=>?_)
 obtain⟨rfl,h2,h3,h4⟩:=hq
 exact⟨.inl ⟨.bool true,.bool true,[],rfl,λ_=>rfl,.bool true,anm l _,λ_=>⟨List.Pairwise.nil,λ_ hm=>(nomatch hm)⟩⟩,h2,h3,h4⟩
section
variable {prog:Program}{w:World}{A:Around}{E:Value->Shared->Prop}{s:Shared}{K:Frag}
end
end Att
namespace L2
open PySem PySem.Spec PyProof.Rows
theorem ajE:∀{vs:List Value} {ns:List Int},IntsAre vs ns->Vals (ns.map V.int) vs
 |_,_,.nil=>.nil
 |_,_,.cons n t h=>.cons ⟨t,rfl⟩ (ajE h)
end L2
namespace L2
open PySem PySem.Spec PyProof.Rows
end L2
namespace L2
open PySem PySem.Spec PyProof.Rows
noncomputable def adB(s:Stmt):Arguments:=match s with
 |.FunctionDef _ a _ _ _ _ _ _ _ _=>a
 |_=>{posonlyargs:=[],args:=[],vararg:=none,kwonlyargs:=[],kw_defaults:=[],kwarg:=none,defaults:=[] }
noncomputable def ab4(s:Stmt):List Stmt:=match s with
 |.FunctionDef _ _ b _ _ _ _ _ _ _=>b
 |_=>[]
noncomputable def aal(s:Stmt):Scope:=match s with
 |.FunctionDef _ _ _ _ _ _ sc _ _ _=>sc
 |_=>{kind:=.function,names:=[],isGenerator:=false,isCoroutine:=false }
noncomputable abbrev E0:XK:=λ_ _ _=>False
structure Fun(K:PySem.W.Frag)(x qual:Str)(st:Stmt)(f:Addr)(fd:FuncData):Prop where
 ex:∃(oc:Value) (od:Option Addr) (kV doc pm:Value) (an:Option Addr) (cdv ct:Value) (osl:Array (Option Value)),
  fd=PySem.W.fnOf x qual (adB st) (ab4 st) (aal st) .none kV doc pm an cdv ct/\K.lookup f=some ⟨oc,od,.func fd,osl⟩/\PySem.W.codeIn K cdv qual=true
 kp:PySem.W.keepIn K (.ref f)=true
section
variable {P:Program}{w:World}{K:PySem.W.Frag}{mg:Str->Option Value}{base:Heap}
theorem Fun.binds{x qual:Str}{st:Stmt}{f:Addr}{fd:FuncData}{ps:List Str}(F:Fun K x qual st f fd)
  (h:∀(kV doc pm:Value) (an:Option Addr) (cdv ct:Value) (us:List Value),us.length=ps.length->bindArgs (PySem.W.fnOf x qual (adB st) (ab4 st) (aal st) .none kV doc pm an cdv ct) ⟨us,[]⟩=pure (ps.zip us)):Binds K fd ps []:=by
 obtain⟨oc,od,kV,doc,pm,an,cdv,ct,osl,rfl,lk,hcd⟩:=F.ex
 exact .all (h kV doc pm an cdv ct)
theorem aqH{x qual:Str}{st:Stmt}{f:Addr}{oc:Value}{od an:Option Addr}{osl:Array (Option Value)}{kV doc pm cdv ct:Value}(l:K.lookup f=some ⟨oc,od,.func (PySem.W.fnOf x qual (adB st) (ab4 st) (aal st) .none kV doc pm an cdv ct),osl⟩)
  (c:PySem.W.codeIn K cdv qual=true) (k:PySem.W.keepIn K (.ref f)=true):Fun K x qual st f (PySem.W.fnOf x qual (adB st) (ab4 st) (aal st) .none kV doc pm an cdv ct):=⟨⟨oc,od,kV,doc,pm,an,cdv,ct,osl,rfl,l,c⟩,k⟩
end
theorem ag1{n:Nat}(h:n<=1000):n<sizeLine:=Nat.lt_of_le_of_lt h (by decide)
section
variable {X:Cx}
end
noncomputable def Same(H H':Hp):Prop:=∀b o,H b=some o->H' b=some o
theorem Same.refl(H:Hp):Same H H:=λ_ _ h=>h
theorem Same.trans{H H1 H2:Hp}(a:Same H H1)(b:Same H1 H2):Same H H2:=λc o h=>b c o (a c o h)
theorem Same.free{H H':Hp}(e:Same H H'){l:Addr}(h:H' l=Option.none):H l=Option.none:=by
 cases q:H l with
 |none=>rfl
 |some o =>
  rw[e l o q]at h
  cases h
theorem Same.seq{K:PySem.W.Frag}{H H':Hp}{a:Addr}{xs:List V}(e:Same H H')(h:SqL K H a xs):SqL K H' a xs:=by
 rcases h with(h|⟨o,h⟩)|h
 ·exact .inl (.inl (e _ _ h))
 ·exact .inl (.inr ⟨o,e _ _ h⟩)
 ·exact .inr h
end L2
end
section
namespace L2
open PySem PySem.Spec PyProof.Rows
section
variable {prog:Program}{w:World}{A:Around}{R:Result->Shared->Prop}{s:Shared}
theorem ako{elt target iter:Expr}{scope:Scope}{pos:Pos}{it acc:Value}{env:Env}(I:Nat->Shared->Prop)
  (turn:∀n s,I n s->wpAny (model prog w) A (pyNext it) (λr s₁=>match r with
   |none=>R (.ok .next) s₁
   | some v=>wpAny (model prog w) A (letOwnedTupleGo target it v) (λ_ s₁'=>wpAny (model prog w) A (assign target env v) (λ_ s₂ => wpAny (model prog w) A (eval elt env) (λx s₃ =>
     wpAny (model prog w) A (call (.builtin "list.append") [acc,x]) (λ_ s₄=>∃m,m<n/\I m s₄) (λ_ _=>False) s₃) (λ_ _=>False) s₂) (λ_ _=>False) s₁') (λ_ _=>False) s₁) (λ_ _=>False) s)
  (n:Nat) (h:I n s) :
  codeAny (model prog w) A (.compLoop (.ListComp elt [⟨target,iter,[],0⟩] scope pos) 0 it acc env) R s:=by
 refine codeAny_loop rfl I (λn s hI=>?_) n h
 show wpAny _ _ ((compTurn (.ListComp elt [⟨target,iter,[],0⟩] scope pos) 0 it acc env).onRaise (λx=>do noteFrame x env; theTreesLotGoes x)) _ _ s
 refine wpAny_noted (wpAny_noRaise ?_)
 rw[compTurn_list1]
 refine wpAny_bind (wpAny_standAt (wpAny_bind (wpAny_mono (turn n s hI) (λr s₁ h₁=>?_) λ_ _ h'=>h')))
 cases r with
 |none=>exact wpAny_pure h₁
 |some v =>
  refine wpAny_bind (wpAny_mono h₁ (λ_ s₁' h₁'=>?_) λ_ _ h'=>h')
  exact wpAny_bind (wpAny_mono h₁' (λ_ s₂ h₂=>wpAny_bind (wpAny_bind (wpAny_mono h₂ (λx s₃ h₃=>wpAny_bind (wpAny_mono h₃
   (λ_ s₄ h₄=>wpAny_pure (wpAny_pure ⟨rfl,h₄⟩)) λ_ _ h'=>h')) λ_ _ h'=>h'))) λ_ _ h'=>h')
end
noncomputable def aay(cells:List (Str × Addr)):List (Str × NameKind)->List (Str × Addr)->List (Str × Addr)
 | [],acc=>acc
 |(n,k)::r,acc=>if k=.free then(match cells.lookup n with|some a=>aay cells r ((n,a)::acc)|none=>aay cells r acc)else aay cells r acc
theorem abA{cells:List (Str × Addr)}{x:Str}{c:Addr}:∀{names:List (Str × NameKind)} {acc:List (Str × Addr)},(aay cells names acc).lookup x=some c->acc.lookup x=some c\/cells.lookup x=some c
 | [],acc,h=>.inl h
 |(n,k)::r,acc,h=>by
  unfold aay at h
  split at h
  ·split at h
   ·rename_i a ha
    rcases abA h with q|q
    ·by_cases e:x=n
     ·subst e
      rw[List.lookup_cons,beq_self_eq_true]at q
      cases q
      exact .inr ha
     ·rw[List.lookup_cons,beq_false_of_ne e]at q
      exact .inl q
    ·exact .inr q
   ·exact abA h
  ·exact abA h
theorem abG{cells:List (Str × Addr)}{x:Str}:∀{names:List (Str × NameKind)} {acc:List (Str × Addr)},((acc.lookup x).isSome=true\/((x,NameKind.free)∈names/\(cells.lookup x).isSome=true))->((aay cells names acc).lookup x).isSome=true
 | [],acc,h=>by
  rcases h with h|⟨h,_⟩
  ·exact h
  ·cases h
 |(n,k)::r,acc,h=>by
  have up:∀a,(acc.lookup x).isSome=true->(List.lookup x ((n,a)::acc)).isSome=true:=λa q=>by
   rw[List.lookup_cons]
   split
   ·rfl
   ·exact q
  unfold aay
  split
  ·rename_i hk
   split
   ·rename_i a ha
    refine abG ?_
    rcases h with h|⟨h,hc⟩
    ·exact .inl (up a h)
    ·rcases List.mem_cons.mp h with e|e
     ·cases e
      refine .inl ?_
      rw[List.lookup_cons,beq_self_eq_true]
      rfl
     ·exact .inr ⟨e,hc⟩
   ·rename_i hn
    refine abG ?_
    rcases h with h|⟨h,hc⟩
    ·exact .inl h
    ·rcases List.mem_cons.mp h with e|e
     ·cases e
      rw[hn]at hc; cases hc
     ·exact .inr ⟨e,hc⟩
  ·rename_i hk
   refine abG ?_
   rcases h with h|⟨h,hc⟩
   ·exact .inl h
   ·rcases List.mem_cons.mp h with e|e
    ·cases e; exact absurd rfl hk
    ·exact .inr ⟨e,hc⟩
theorem aeb{scope:Scope}{env:Env}(h:∀y∈scope.names,y.2=.free->(env.cells.lookup y.1).isSome=true):closureFor scope env=pure (aay env.cells scope.names []):=by
 unfold closureFor
 suffices q:∀(names:List (Str × NameKind)) (acc:List (Str × Addr)),(∀y∈names,y.2=.free->(env.cells.lookup y.1).isSome=true) ->
   (forIn names acc λx r=>do
    match x with
    |(name,kind)=>if(kind == NameKind.free)=true then do let a <-cellOf env name; pure (ForInStep.yield ((name,a)::r))else pure (ForInStep.yield r):Sem _)=pure (aay env.cells names acc) by
  have z:=q scope.names [] h
  exact(congrArg (λm=>m >>= λcs=>pure cs) z)
 intro names
 induction names with
 |nil=>intro acc _; rfl
 |cons y r ih =>
  intro acc hy
  obtain⟨n,k⟩:=y
  rw[List.forIn_cons]
  unfold aay
  by_cases hk:k=.free
  ·subst hk
   rw[if_pos rfl]
   have q:=hy (n,.free) List.mem_cons_self rfl
   cases e:env.cells.lookup n with
   |none=>rw[e]at q; cases q
   |some a =>
    have ec:cellOf env n=pure a:=by unfold cellOf; rw[e]
    simp only[ec]
    exact ih _ λz hz=>hy z (List.mem_cons_of_mem _ hz)
  ·rw[if_neg hk]
   have hb:(k == NameKind.free)=false:=by simpa using hk
   simp only[hb]
   exact ih _ λz hz=>hy z (List.mem_cons_of_mem _ hz)
noncomputable def apo(scope sc:Scope):Scope :=
 {scope with names:=scope.names.map λ(n,k)=>if(k == .free&&sc.kind == .function&&sc.names.lookup n == some .cell)then(n,.cell)else(n,k) }
theorem adC{env:Env}:∀{names:List (Str × NameKind)} {x:Str},names.lookup x=some .free ->
  (names.map λ(n,k)=>if(k == NameKind.free&&env.scope.kind == .function&&env.kindOf n == some .cell)then(n,NameKind.cell)else(n,k)).lookup x=some .cell \/
  (names.map λ(n,k)=>if(k == NameKind.free&&env.scope.kind == .function&&env.kindOf n == some .cell)then(n,NameKind.cell)else(n,k)).lookup x=some .free
 | [],_,h=>by simp at h
 |(n,k)::r,x,h=>by
  have ih:=@adC env r x
  rw[List.map_cons]
  dsimp only
  cases hx:x == n with
  |true =>
   simp only[List.lookup_cons,hx]at h
   cases h
   by_cases hc:(NameKind.free == NameKind.free&&env.scope.kind == .function&&env.kindOf n == some .cell)=true
   ·rw[if_pos hc]; simp[List.lookup_cons,hx]
   ·rw[if_neg hc]; simp[List.lookup_cons,hx]
  |false =>
   simp only[List.lookup_cons,hx]at h
   by_cases hc:(k == NameKind.free&&env.scope.kind == .function&&env.kindOf n == some .cell)=true
   ·rw[if_pos hc]; simp only[List.lookup_cons,hx]; exact ih h
   ·rw[if_neg hc]; simp only[List.lookup_cons,hx]; exact ih h
theorem agl{env:Env}:∀{names:List (Str × NameKind)} {x:Str},
  ((names.map λ(n,k)=>if(k == NameKind.free&&env.scope.kind == .function&&env.kindOf n == some .cell)then(n,NameKind.cell)else(n,k)).lookup x=some .cell \/
  (names.map λ(n,k)=>if(k == NameKind.free&&env.scope.kind == .function&&env.kindOf n == some .cell)then(n,NameKind.cell)else(n,k)).lookup x=some .free)->names.lookup x=some .cell\/names.lookup x=some .free
 | [],_,h=>by simp at h
 |(n,k)::r,x,h=>by
  have ih:=@agl env r x
  rw[List.map_cons]at h
  dsimp only at h
  cases hx:x == n with
  |true =>
   by_cases hcc:(k == NameKind.free&&env.scope.kind == .function&&env.kindOf n == some .cell)=true
   ·have hk:k=.free:=by
     simp only[Bool.and_eq_true,beq_iff_eq]at hcc
     exact hcc.1.1
    subst hk
    exact .inr (by simp only[List.lookup_cons,hx])
   ·rw[if_neg hcc]at h
    simp only[List.lookup_cons,hx]at h ⊢
    exact h
  |false =>
   have q:=ih (by
    by_cases hcc:(k == NameKind.free&&env.scope.kind == .function&&env.kindOf n == some .cell)=true
    ·rw[if_pos hcc]at h; simp only[List.lookup_cons,hx]at h; exact h
    ·rw[if_neg hcc]at h; simp only[List.lookup_cons,hx]at h; exact h)
   simp only[List.lookup_cons,hx]
   exact q
theorem abo:∀(names:List (Str × NameKind)) (n:Nat) (acc:List (Str × Addr)),cellsFrom n names acc=cellsFrom n names []++acc
 | [],_,_=>rfl
 |(x,k)::r,n,acc=>by
  unfold cellsFrom
  split
  ·rw[abo r (n+1) ((x,n)::acc),abo r (n+1) [(x,n)],List.append_assoc]
   rfl
  ·exact abo r n acc
theorem adY:∀(names:List (Str × NameKind)) (n:Nat) {x:Str} {c:Addr},(x,c)∈cellsFrom n names []->(x,NameKind.cell)∈names
 | [],_,_,_,h=>by cases h
 |(y,k)::r,n,x,c,h=>by
  unfold cellsFrom at h
  split at h
  ·rename_i hk
   have hk:k=.cell:=by simpa using hk
   rw[abo]at h
   rcases List.mem_append.mp h with z|z
   ·exact List.mem_cons_of_mem _ (adY r _ z)
   ·have z:=List.mem_singleton.mp z
    cases z
    rw[hk]
    exact List.mem_cons_self
  ·exact List.mem_cons_of_mem _ (adY r _ h)
theorem adv(x:Str):∀(a b:List (Str × Addr)),(a++b).lookup x=(match a.lookup x with|some c=>some c|none=>b.lookup x)
 | [],_=>rfl
 |(y,c)::r,b=>by
  have ih:=adv x r b
  rw[List.cons_append,List.lookup_cons,List.lookup_cons]
  cases h:x == y with
  |true=>rfl
  |false=>exact ih
theorem aex{M:Model}{A:Around}{E:Value->Shared->Prop}{s:Shared}{scope:Scope}{globals:Addr}{cl:List (Str × Addr)}{qual:Str}{env:Env}{Q:Env->Shared->Prop}
  (hQ:∀h',h'.Ns s.heap.objs.size (λ_=>none)->(∀b o,s.heap.get? b=some o->h'.get? b=some o)->CellsOk h' (s.heap.objs.size+1) (cellsFrom (s.heap.objs.size+1) scope.names []) ->
   Q {scope:=scope,locals:=s.heap.objs.size,globals:=globals,cells:=cellsFrom (s.heap.objs.size+1) scope.names cl,qual:=qual,func:=none,code:=env.code,frame:=env.frame,builtins:=env.builtins } {s with heap:=h',toks:=s.toks+([]:List (Str × Value)).length }) :
  wpAny M A (newFunctionEnv scope globals cl [] qual none .none (some env)) Q E s:=by
 simp only[newFunctionEnv,Option.isSome_some,if_true]
 refine wpAny_bind (wpAny_alloc ?_)
 refine wpAny_bind (wpAny_layCells _ (λname kind cells=>by cases hkc:kind == NameKind.cell <;> simp[hkc]) _ _ _ _ ?_)
 have ok:=cellsFrom_ok scope.names (s.heap.push {cls:=.type "dict",data:=.dict #[] }) (s.heap.objs.size+1) [] ⟨λ_ _ hm=>(nomatch hm),List.Pairwise.nil⟩ (by rw[Heap.size_push]; exact Nat.le_refl _)
 rw[Heap.size_push]at ok
 rw[show({s with heap:=s.heap.push {cls:=.type "dict",data:=.dict #[] } }:Shared).heap.objs.size=s.heap.objs.size+1 from Heap.size_push ..]
 rw[List.forIn_nil]
 exact wpAny_bind (wpAny_pure (wpAny_pure (hQ _ ((Heap.Ns.new s.heap (.type "dict")).keeps (pushCells_keeps _ _)) (λb o e=>pushCells_keeps _ _ b o (Heap.get?_push_of_some _ e)) ok)))
structure agm(sc:Scope)(No N:List Str)(src:List (Option Nat))(scope:Scope):Prop where
 kind:scope.kind=.function
 cells:∀y∈scope.names,y.2=.cell->scope.names.lookup y.1=some .cell
 names:∀y∈scope.names,y.2=.local->scope.names.lookup y.1=some .local
 free:∀y∈scope.names,y.2=.free->sc.names.lookup y.1=some .cell\/sc.names.lookup y.1=some .free
 len:src.length=N.length
 up:∀p∈N.zip src,∀j∈p.2,No[j]?=some p.1/\scope.names.lookup p.1=some .free
noncomputable def afr(src:List (Option Nat))(σ : St):St:=src.map λo=>o.bind λj=>(σ[j]?).join
noncomputable def abK(X:Cx)(N:List Str)(scope:Scope)(C:Addr)(s:Shared)(H:Hp)(ex:List Addr):Cx where
 prog:=X.prog
 w:=X.w
 K:=X.K
 mg:=X.mg
 base:=X.base
 A:=X.A
 N:=N
 s₀ := s
 H₀ := H
 env:=compEnvC scope (cellsFrom (C+1) scope.names (aay X.env.cells scope.names [])) C X.env
 outer:=X.stack
 stack:=X.stack
 ex:=ex
 fn:=λx=>scope.names.lookup x == some .cell
 calm:=X.calm
 pn:=[]
 xe:=λ_ _=>False
noncomputable def QAt(Q:VK)(D:Addr)(H:Hp):Prop:=Q (.ref D) H
noncomputable def amh(wi:TI)(g:TG)(src:List (Option Nat))(te:TE):TE:=λσ H Q=>wi σ H λJ H1=>∀D,H1 D=none ->
 ∃W:Nat->Nat->St->Hp->Prop,(∃m,W 0 m (afr src σ) (upd H1 D (.lst [])))/\∀i m σ' H',W i m σ' H' ->
  (J.stop i H'/\QAt Q D H')\/(J.go i H'/\∀x H'',J.yld i H' x H''->g x σ' H'' λσ2 H2=>te σ2 H2 λv H3=>∃xs,H3 D=some (.lst xs)/\xs.length<sizeLine/\∃m',m'<m/\W (i+1) m' σ2 (upd H3 D (.lst (xs++[v]))))
section
variable {X:Cx}{elt tg iter:Expr}{scope sc:Scope}{pos:Pos}{No N:List Str}{src:List (Option Nat)}{wi:TI}{g:TG}{te:TE}
theorem ah9{pins:List (Addr × Obj)}{σ : St}{H:Hp}{s:Shared}{h₁ : Heap}{fp:List Addr}{tk:Nat}(hsc:X.env.scope=sc)(hNo:X.N=No)(S:agm sc No N src scope)(I:Inv X pins σ H s)
  (hf:∀b∈fp,afg X pins H b) (hlt:∀b∈fp,b<s.heap.objs.size)
  (hns:h₁.Ns s.heap.objs.size (λ_=>none)) (old:∀b o,s.heap.get? b=some o->h₁.get? b=some o) (ck:CellsOk h₁ (s.heap.objs.size+1) (cellsFrom (s.heap.objs.size+1) scope.names [])) :
  Inv (abK X N scope s.heap.objs.size s H fp) [] (afr src σ) H {s with heap:=h₁,toks:=tk }:=by
 subst hsc
 subst hNo
 have afP:∀x c,(cellsFrom (s.heap.objs.size+1) scope.names (aay X.env.cells scope.names [])).lookup x=some c->(cellsFrom (s.heap.objs.size+1) scope.names []).lookup x=some c\/X.env.cells.lookup x=some c:=λx c h=>by
  rw[abo,adv]at h
  split at h
  ·rename_i e
   exact .inl (e.trans h)
  ·rcases abA h with q|q
   ·simp at q
   ·exact .inr q
 have big:∀x c,(cellsFrom (s.heap.objs.size+1) scope.names []).lookup x=some c->s.heap.objs.size+1<=c:=λx c h=>(ck.empty x c (PySem.mem_of_lookup h)).2
 have ltc:∀x c,X.env.cells.lookup x=some c->c<s.heap.objs.size:=λx c e=>by
  obtain⟨v,q⟩:=I.cell x c e
  exact q.lt
 have aC6:∀b∈frs X.stack,b<s.heap.objs.size:=λb hb=>by
  obtain⟨_,o,ho,_⟩:=I.stack.mem hb
  exact Heap.lt_size ho
 refine⟨⟨I.ok.mod,S.kind,I.ok.glob,I.ok.blt,Nat.le_refl _,λx y c h1 h2=>?_,λx hx=>?_,λx c hfn h=>?_,I.ok.hd,I.ok.frames,.inl rfl,λb hb=>⟨Nat.ne_of_lt (hlt b hb),λx c e=>?_⟩,
   I.bs,Nat.le_trans I.ok.bsz I.sz,λb o e hb=>?_,λb hb hb'=>?_,I.stack,I.aiv⟩,
  rfl,I.bare,Un.kept old,⟨_,hns,λi x v h1 h2 h3=>?_⟩,λx c e=>?_,I.hok.fresh (Nat.le_refl _),λx c e=>?_,λp hp=>absurd (show p∈([]:List (Addr × Obj))from hp) (by simp),I.hok.kept old,?_⟩
 ·rcases afP _ _ h1 with z1|z1
  ·rcases afP _ _ h2 with z2|z2
   ·exact name_of_addr ck.apart (PySem.mem_of_lookup z1) (PySem.mem_of_lookup z2)
   ·exact absurd (Nat.le_trans (big _ _ z1) (Nat.le_of_lt (ltc _ _ z2))) (Nat.not_succ_le_self _)
  ·rcases afP _ _ h2 with z2|z2
   ·exact absurd (Nat.le_trans (big _ _ z2) (Nat.le_of_lt (ltc _ _ z1))) (Nat.not_succ_le_self _)
   ·exact I.ok.inj x y c z1 z2
 ·-- every cell or free name has its cell
  rcases agl hx with m|m
  ·exact Option.isSome_iff_exists.mp (PySem.W.cellsFrom_some _ _ _ (.inl m))
  ·have m:=PySem.mem_of_lookup m
   have q:=abG (cells:=X.env.cells) (acc:=[]) (.inr ⟨m,by
    obtain⟨c,e⟩:=I.ok.has x (S.free _ m rfl)
    rw[e]; rfl⟩)
   exact Option.isSome_iff_exists.mp (PySem.W.cellsFrom_some _ _ _ (.inr q))
 ·have hfn:scope.names.lookup x=some .cell:=by
   have z:(scope.names.lookup x == some .cell)=true:=hfn
   simpa using z
  obtain⟨c',e'⟩:=Option.isSome_iff_exists.mp (PySem.W.cellsFrom_some _ (s.heap.objs.size+1) [] (.inl hfn))
  have h:(cellsFrom (s.heap.objs.size+1) scope.names (aay X.env.cells scope.names [])).lookup x=some c:=h
  rw[abo,adv,e']at h
  cases h
  exact Nat.le_of_succ_le (big _ _ e')
 ·rcases afP _ _ e with z|z
  ·exact λy=>absurd (Nat.le_trans (big _ _ z) (y▸Nat.le_of_lt (hlt b hb))) (Nat.not_succ_le_self _)
  ·exact(hf b hb).2.2.2.2.1 x c z
 ·obtain⟨f0,f1,f2,f3,f4,f5⟩:=hf b hb
  rcases f3 with z|z
  ·exact I.ok.aki b o e z
  ·have q:=Heap.lt_size (I.ok.bs b o e).1
   exact absurd q (Nat.not_lt.mpr z)
 ·obtain⟨f0,f1,f2,_⟩:=hf b hb
  rcases List.mem_cons.mp (I.ajs b hb')with z|z
  ·exact f1 z
  ·exact f2 z
 ·have hi:i<src.length:=by
   unfold afr at h2
   have:=(List.getElem?_eq_some_iff.mp h2).1
   simpa using this
  have h2':((src[i]).bind λj=>(σ[j]?).join)=some v:=by
   unfold afr at h2
   rw[List.getElem?_map,List.getElem?_eq_getElem hi]at h2
   exact Option.some.inj h2
  cases es:src[i]with
  |none=>rw[es]at h2'; cases h2'
  |some j =>
   rw[es]at h2'
   have hj : σ[j]?=some (some v):=by
    have z:(σ[j]?).join=some v:=h2'
    cases q : σ[j]? with
    |none=>rw[q]at z; cases z
    |some o=>rw[q]at z; have z':o=some v:=z; rw[z']
   have hz:(x,some j)∈N.zip src:=by
    refine List.mem_of_getElem? (i:=i) ?_
    rw[List.getElem?_zip_eq_some]
    exact⟨h1,by rw[List.getElem?_eq_getElem hi,es]⟩
   obtain⟨u1,u2⟩:=S.up _ hz j rfl
   have m:(x,NameKind.free)∈scope.names:=PySem.mem_of_lookup u2
   have kx:=S.free _ m rfl
   obtain⟨m0,hn0,hl0⟩:=id I.loc
   obtain⟨u,r,lk⟩:=hl0 j x v u1 hj (kx.elim (λz=>.inr (.inl z)) λz=>.inr (.inr z))
   refine⟨u,r,?_⟩
   rcases lk with⟨k,_⟩|⟨_,c,e,ic⟩
   ·have k':X.env.scope.names.lookup x=some .local:=k
    rcases kx with z|z
    ·rw[z]at k'; cases k'
    ·rw[z]at k'; cases k'
   ·refine .inr ⟨adC u2,c,?_,?_⟩
    ·have q:=abG (cells:=X.env.cells) (acc:=[]) (.inr ⟨m,by rw[e]; rfl⟩)
     obtain⟨c',e'⟩:=Option.isSome_iff_exists.mp q
     have e2:X.env.cells.lookup x=some c':=by
      rcases abA e' with q|q
      ·simp at q
      ·exact q
     rw[e]at e2; cases e2
     show(cellsFrom (s.heap.objs.size+1) scope.names (aay X.env.cells scope.names [])).lookup x=some c
     rw[abo,adv]
     split
     ·rename_i c2 z
      have y:=S.cells _ (adY _ _ (PySem.mem_of_lookup z)) rfl
      rw[u2]at y; cases y
     ·exact e'
    ·obtain⟨o,ho,hd⟩:=ic
     exact⟨o,old _ _ ho,hd⟩
 ·rcases afP _ _ e with z|z
  ·exact⟨_,(ck.empty x c (PySem.mem_of_lookup z)).1⟩
  ·obtain⟨v,o,ho,hd⟩:=I.cell x c z
   exact⟨v,o,old _ _ ho,hd⟩
 ·rcases afP _ _ e with z|z
  ·exact I.hok.fresh (Nat.le_of_succ_le (big _ _ z))
  ·exact I.agU x c z
 ·unfold afr
  rw[List.length_map]
  exact S.len
theorem alq{pins:List (Addr × Obj)}{σ : St}{H:Hp}{s:Shared}{Q:VK}{RR:Value->Addr->Result->Shared->Prop}(hsc:X.env.scope=sc)(hNo:X.N=No)(S:agm sc No N src scope)(hc:X.calm=true)
  (hi:PI X tg iter wi) (hg:∀C s H ex,PG (abK X N scope C s H ex) tg g) (he:∀C s H ex,PE (abK X N scope C s H ex) elt te) (I:Inv X pins σ H s) (h:amh wi g src te σ H Q)
  (hRR:∀D C H' s' m,Inv X pins σ H' s'->H' C=none->C≠X.env.locals->X.s₀.heap.objs.size<=C->(∀x c,X.env.cells.lookup x=some c->c≠C)->(∀p∈X.pn++pins,p.1≠C)->s'.heap.Ns C m->Q (.ref D) H'->RR (.ref D) C (.ok .next) s') :
  wpAny (model X.prog X.w) X.A (eval iter X.env) (λx s₁=>wpAny (model X.prog X.w) X.A (pyIter x) (λit s₂=>wpAny (model X.prog X.w) X.A (newList []) (λacc s₃ =>
   wpAny (model X.prog X.w) X.A (newFunctionEnv scope X.env.globals (aay X.env.cells scope.names []) [] X.env.qual none .none (some X.env)) (λcenv s₄ =>
    codeAny (model X.prog X.w) X.A (.compStart (.ListComp elt [⟨tg,iter,[],0⟩] scope pos) 0 it acc {cenv with scope:=relabel scope X.env }) (RR acc cenv.locals) s₄) X.xe s₃) X.xe s₂) X.xe s₁) X.xe s:=by
 refine thn (hi pins s σ H _ I h) λv s1 h1=>thn h1 λitv s2 h2=>?_
 obtain⟨it,fp,tn,J,H2,e,I2,T,st2,f2,hW⟩:=h2
 subst e
 have hD0:H2 s2.heap.objs.size=none:=I2.hok.fresh (Nat.le_refl _)
 obtain⟨W,⟨m0,w0⟩,turn⟩:=hW s2.heap.objs.size hD0
 have atZ:∀b∈fp,b<s2.heap.objs.size:=λb hb=>by
  obtain⟨o,e,_⟩:=T.obj 0 _ st2 b hb
  exact Heap.lt_size e
 refine wpAny_newObj_type ?_
 have I3:Inv X pins σ (upd H2 s2.heap.objs.size (.lst [])) {s2 with heap:=s2.heap.push {cls:=.type "list",dict:=none,data:=.seq ([]:List Value).toArray } }:=I2.awC (t':=s2.toks) (ys:=[]) .nil (Nat.zero_le _)
 have f3:∀b∈fp,afg X pins (upd H2 s2.heap.objs.size (.lst [])) b:=λb hb=>by
  obtain⟨q,r⟩:=f2 b hb
  exact⟨by rw[aaG (Nat.ne_of_lt (atZ b hb))]; exact q,r⟩
 have st3:tn 0 (s2.heap.push {cls:=.type "list",dict:=none,data:=.seq ([]:List Value).toArray }):=T.keep _ _ _ st2 λb hb o e=>Heap.get?_push_of_some _ e
 have lt3:∀b∈fp,b<(s2.heap.push {cls:=.type "list",dict:=none,data:=.seq ([]:List Value).toArray }).objs.size:=λb hb=>by
  rw[Heap.size_push]; exact Nat.lt_succ_of_lt (atZ b hb)
 generalize hD:s2.heap.objs.size=D at *
 generalize hh3:s2.heap.push {cls:=.type "list",dict:=none,data:=.seq ([]:List Value).toArray }=h3 at *
 generalize hH3:upd H2 D (.lst [])=H3 at *
 refine aex λh₁ hns old ck=>?_
 dsimp only at hns old ck ⊢
 have I4:Inv (abK X N scope h3.objs.size {s2 with heap:=h3 } H3 fp) [] (afr src σ) H3 {s2 with heap:=h₁,toks:=s2.toks+([]:List (Str × Value)).length }:=ah9 (s:={s2 with heap:=h3 }) hsc hNo S I3 f3 lt3 hns old ck
 have st4:tn 0 h₁ := T.keep _ _ _ st3 λb hb o e=>old b o e
 have loop:codeAny (model X.prog X.w) X.A (.compLoop (.ListComp elt [⟨tg,iter,[],0⟩] scope pos) 0 (.ref it) (.ref D) (compEnvC scope (cellsFrom (h3.objs.size+1) scope.names (aay X.env.cells scope.names [])) h3.objs.size X.env)) (RR (.ref D) h3.objs.size) {s2 with heap:=h₁,toks:=s2.toks+([]:List (Str × Value)).length }:=by
  have stat:∀{H':Hp},(∀b∈fp,H' b=none)->∀b∈fp,afg (abK X N scope h3.objs.size {s2 with heap:=h3 } H3 fp) [] H' b:=λhn b hb=>by
   obtain⟨g0,g1,g2,g3,g4,g5⟩:=f3 b hb
   refine⟨hn b hb,Nat.ne_of_lt (lt3 b hb),λz=>?_,.inl hb,λx c e=>?_,λp hp=>absurd (show p∈([]:List (Addr × Obj))from hp) (by simp)⟩
   ·rcases List.mem_cons.mp (I3.ajs b z)with z|z
    ·exact g1 z
    ·exact g2 z
   ·have e:(cellsFrom (h3.objs.size+1) scope.names (aay X.env.cells scope.names [])).lookup x=some c:=e
    rw[abo,adv]at e
    split at e
    ·rename_i z
     cases e
     exact λy=>absurd (Nat.le_trans (ck.empty x c (PySem.mem_of_lookup z)).2 (y▸Nat.le_of_lt (lt3 b hb))) (Nat.not_succ_le_self _)
    ·rcases abA e with q|q
     ·simp at q
     ·exact g4 x c q
  refine ako (λn s'=>∃i σ' H',Inv (abK X N scope h3.objs.size {s2 with heap:=h3 } H3 fp) [] σ' H' s'/\tn i s'.heap/\(∀b∈fp,H' b=none)/\W i n σ' H') ?_ m0 ⟨0,afr src σ,H3,I4,st4,λb hb=>(f3 b hb).1,w0⟩
  rintro n s5 ⟨i,σ5,H5,I5,st5,fr5,w5⟩
  rcases turn i n σ5 H5 w5 with⟨stop,qn⟩|⟨go,step⟩
  ·refine thn (T.done (abK X N scope h3.objs.size {s2 with heap:=h3 } H3 fp) rfl rfl rfl hc i [] s5 σ5 H5 (λ_ _=>False) I5 (stat fr5) st5 stop) λr s6 ⟨hr,I6⟩=>?_
   subst hr
   obtain⟨mC,hnC,_⟩:=id I6.loc
   have I7:Inv X pins σ H5 s6:=I3.call' (ch:=fp) I6.os I6.base I6.hok I6.bare λb hb=>by
    obtain⟨g0,g1,g2,g3,g4,g5⟩:=f3 b hb
    exact⟨g3,g1,g4,g5⟩
   refine hRR D h3.objs.size H5 s6 mC I7 I6.free (Nat.ne_of_gt I3.lt) I3.sz (λx c e z=>?_) (λp hp z=>?_) hnC qn
   ·obtain⟨v,q⟩:=I3.cell x c e
    exact absurd q.lt (by rw[z]; exact Nat.lt_irrefl _)
   ·exact absurd (Heap.lt_size (I3.pin p hp).1) (by rw[z]; exact Nat.lt_irrefl _)
  ·refine thn (T.item (abK X N scope h3.objs.size {s2 with heap:=h3 } H3 fp) rfl rfl rfl hc i [] s5 σ5 H5 (λ_ _=>False) I5 (stat fr5) st5 go) λr s6 ⟨u,hr,h6⟩=>?_
   subst hr
   refine thn h6 λ_ s7 ⟨x,H7,I7,r7,y7,st7,fr7⟩=>?_
   have I7':=I7.pinned (stat fr7) (T.obj _ _ st7)
   refine thn (hg _ _ _ _ _ s7 σ5 H7 x u _ I7' r7 (step x H7 y7)) λ_ s8 ⟨σ8,H8,I8,q8⟩=>?_
   refine thn (he _ _ _ _ _ s8 σ8 H8 _ I8 q8) λyv s9 ⟨y,H9,I9,r9,q9⟩=>?_
   obtain⟨xs,e9,l9,m',hm,w9⟩:=q9
   refine thn (acH (X:=abK X N scope h3.objs.size {s2 with heap:=h3 } H3 fp) _ s9 σ8 H9 (.ref D) [y] (.ref D) [yv] (λ_ H'=>W (i+1) m' σ8 H') I9 rfl (.cons r9 .nil) ⟨D,xs,y,rfl,rfl,e9,l9,w9⟩) λ_ s10 ⟨_,H10,I10,_,q10⟩=>?_
   refine⟨m',hm,i+1,σ8,H10,I10.aeV (pins:=[]),T.keep _ _ _ st7 λb hb o e=>(I10.pin (b,o) (List.mem_append_right _ (List.mem_append_right _ (acy hb e)))).1,λb hb=>?_,q10⟩
   obtain⟨o,e,d⟩:=T.obj _ _ st7 b hb
   exact(I10.pin (b,o) (List.mem_append_right _ (List.mem_append_right _ (acy hb e)))).2.1
 exact codeAny_compStart_list loop (T.self _ _ _ _ _ st4 loop)
theorem acI(hsc:X.env.scope=sc)(hNo:X.N=No)(S:agm sc No N src scope)(hc:X.calm=true)
  (hi:PI X tg iter wi) (hg:∀C s H ex,PG (abK X N scope C s H ex) tg g) (he:∀C s H ex,PE (abK X N scope C s H ex) elt te)
  (hs:∀x,foldedSetIterable iter X.env x=pure x:=by intro _; rfl):PE X (.ListComp elt [⟨tg,iter,[],0⟩] scope pos) (amh wi g src te):=by
 refine⟨λpins s σ H Q I h=>?_⟩
 rw[eval_ListComp]
 have hcl:closureFor scope X.env=pure (aay X.env.cells scope.names []):=aeb λy hy e=>by
  have k:=S.free y hy e
  rw[<-hsc]at k
  obtain⟨c,q⟩:=I.ok.has y.1 k
  rw[q]; rfl
 refine wpAny_comprehension_free (use:=none) rfl hs hcl S.kind S.names (alq (RR:=λacc C=>compPost (model X.prog X.w) X.A X.xe none (EP X pins σ Q) acc C) hsc hNo S hc hi hg he I h ?_)
 intro D C H' s' m I' n1 n2 n3 n4 n5 hn q
 refine⟨m,hn,λh' hs'=>⟨.ref D,H',?_,rfl,q⟩⟩
 exact I'.turned (t':=s'.toks) (λb o hb e=>(hs'.2 b hb).trans e) n1 (Ne.symm (Ne.symm n2)) (.inr n3) n4 n5
theorem ami{i:Nat}{y:Str}{py spos:Pos}(hN:X.N.Nodup)(hyi:X.N[i]?=some y)(hy:Loc X.env.scope y)(hsc:X.env.scope=sc)(hNo:X.N=No)(S:agm sc No N src scope)(hc:X.calm=true)
  (hi:PI X tg iter wi) (hg:∀C s H ex,PG (abK X N scope C s H ex) tg g) (he:∀C s H ex,PE (abK X N scope C s H ex) elt te)
  (hsw:swapsWith (.ListComp elt [⟨tg,iter,[],0⟩] scope pos) (some (.Name y py)) spos.line X.env=pure true:=by rfl) (hs:∀x,foldedSetIterable iter X.env x=pure x:=by intro _; rfl)
  (hf:X.fn y=true\/X.env.scope.names.lookup y=some .local:=by first|exact .inl rfl|exact .inr rfl|assumption) :
  PS X (.Assign [.Name y py] (.ListComp elt [⟨tg,iter,[],0⟩] scope pos) spos) (apd (amh wi g src te) (acp i)):=by
 refine⟨λpins s σ H D I h=>?_⟩
 rw[exec_Assign_Name_used _ _ _ _ hsw]
 have hcl:closureFor scope X.env=pure (aay X.env.cells scope.names []):=aeb λy hy e=>by
  have k:=S.free y hy e
  rw[<-hsc]at k
  obtain⟨c,q⟩:=I.ok.has y.1 k
  rw[q]; rfl
 refine wpAny_bind (wpAny_standAt (wpAny_bind ?_))
 show wpAny _ X.A (do let _ <-comprehension (.ListComp elt [⟨tg,iter,[],0⟩] scope pos) scope X.env _ (newList []) false (eval iter X.env) (some (assign (.Name y py) X.env))) _ _ s
 refine wpAny_bind (wpAny_mono (wpAny_comprehension_free (use:=some (assign (.Name y py) X.env)) (Q:=λ_ s'=>SP X pins D .next s') rfl hs hcl S.kind S.names
  (alq (Q:=λv H'=>D.nx (σ.set i (some v)) H') (RR:=λacc C=>compPost (model X.prog X.w) X.A X.xe (some (assign (.Name y py) X.env)) (λ_ s'=>SP X pins D .next s') acc C) hsc hNo S hc hi hg he I h ?_)) (λ_ s' hq=>wpAny_pure (wpAny_pure hq)) λ_ _ e=>e)
 intro Da C H' s' m I' n1 n2 n3 n4 n5 hn q
 show wpAny _ X.A (assign (.Name y py) X.env (.ref Da)) _ _ _
 refine wpAny_assign_Name (agV I' hN hyi hy (v:=.ref Da) rfl (λs2 I2 hsame=>?_) hf)
 obtain⟨a,hsb,ha⟩:=hsame
 have hCa:C≠a:=by
  rcases ha with z|z
  ·rw[z]; exact n2
  ·exact λe=>n4 y a z e.symm
 refine⟨m,hn.sameBut hsb hCa,λh' hs'=>⟨σ.set i (some (.ref Da)),H',?_,q⟩⟩
 exact I2.turned (t':=s2.toks) (λb o hb e=>(hs'.2 b hb).trans e) n1 n2 (.inr n3) n4 n5
end
section
variable {K:PySem.W.Frag}{g:TG}{te:TE}{Q:VK}
end
end L2
end
section
namespace L2
open PySem PySem.Spec PyProof.Rows
noncomputable def aw1(e C:Addr)(h:Heap):Prop:=∃o vs,h.get? e=some o/\o.cls=.ref C/\o.data=.fields vs
noncomputable def exO(e C:Addr):HO:=.ext (aw1 e C)
noncomputable def acJ:List Str:=["NoBottom", "NoBook", "NoList", "NoRule", "NoCount", "NoLooks", "NoThings", "NotSure", "NoSlack", "NoThing", "NoWorth", "TooMany", "NoText", "NoLine"]
inductive Tr where
 |non|bl (b:Bool)|int (i:Int)|str (x:Str)|tup (ts:List Tr)|lst (ts:List Tr)|exn (c:Str)
mutual
inductive Rep(K:PySem.W.Frag)(H:Hp):V->Tr->Prop
 |non:Rep K H .non .non
 |bl (b:Bool):Rep K H (.bl b) (.bl b)
 |int (i:Int):Rep K H (.int i) (.int i)
 |str (x:Str):Rep K H (.str x) (.str x)
 |tup {a:Addr} {xs:List V} {ts:List Tr} (h:SqT K H a xs) (r:aa2 K H xs ts):Rep K H (.ref a) (.tup ts)
 |lst {a:Addr} {xs:List V} {ts:List Tr} (h:SqL K H a xs) (r:aa2 K H xs ts):Rep K H (.ref a) (.lst ts)
 |exn {a C:Addr} {c:Str} (h:H a=some (exO a C)) (m:c∈acJ) (n:PySem.W.nsIn K mainGlobals c=some (some (.ref C))):Rep K H (.ref a) (.exn c)
inductive aa2(K:PySem.W.Frag)(H:Hp):List V->List Tr->Prop
 |nil:aa2 K H [] []
 |cons {x:V} {t:Tr} {xs:List V} {ts:List Tr} (h:Rep K H x t) (r:aa2 K H xs ts):aa2 K H (x::xs) (t::ts)
end
theorem Same.atc{K:PySem.W.Frag}{H H':Hp}{a:Addr}{xs:List V}(e:Same H H')(h:SqT K H a xs):SqT K H' a xs:=by
 rcases h with(h|⟨o,h⟩)|h
 ·exact .inl (.inl (e _ _ h))
 ·exact .inl (.inr ⟨o,e _ _ h⟩)
 ·exact .inr h
mutual
theorem Rep.mono{K:PySem.W.Frag}{H H':Hp}(e:Same H H'):∀{v:V} {t:Tr},Rep K H v t->Rep K H' v t
 |_,_,.non=>.non
 |_,_,.bl b=>.bl b
 |_,_,.int i=>.int i
 |_,_,.str x=>.str x
 |_,_,.tup h r=>.tup (e.atc h) (aa2.mono e r)
 |_,_,.lst h r=>.lst (e.seq h) (aa2.mono e r)
 |_,_,.exn h m n=>.exn (e _ _ h) m n
theorem aa2.mono{K:PySem.W.Frag}{H H':Hp}(e:Same H H'):∀{v:List V} {t:List Tr},aa2 K H v t->aa2 K H' v t
 |_,_,.nil=>.nil
 |_,_,.cons h r=>.cons (Rep.mono e h) (aa2.mono e r)
end
theorem aa2.length{K:PySem.W.Frag}{H:Hp}:∀{v:List V} {t:List Tr},aa2 K H v t->v.length=t.length
 |_,_,.nil=>rfl
 |_,_,.cons _ r=>by rw[List.length_cons,List.length_cons,aa2.length r]
theorem aa2.get{K:PySem.W.Frag}{H:Hp}:∀{v:List V} {t:List Tr} {i:Nat} {x:V},aa2 K H v t->v[i]?=some x->∃u,t[i]?=some u/\Rep K H x u
 |_,_,_,_,.nil,e=>by simp at e
 |_,_,0,_,.cons h _,e=>by
  simp at e
  subst e
  exact⟨_,rfl,h⟩
 |_,_,i+1,x,.cons _ r,e=>by
  obtain⟨u,h1,h2⟩:=aa2.get (i:=i) (x:=x) r (by simpa using e)
  exact⟨u,by simpa using h1,h2⟩
theorem aa2.app{K:PySem.W.Frag}{H:Hp}:∀{v w:List V} {t u:List Tr},aa2 K H v t->aa2 K H w u->aa2 K H (v++w) (t++u)
 |_,_,_,_,.nil,s=>s
 |_,_,_,_,.cons h r,s=>.cons h (aa2.app r s)
theorem aa2.take{K:PySem.W.Frag}{H:Hp}:∀{v:List V} {t:List Tr} (n:Nat),aa2 K H v t->aa2 K H (v.take n) (t.take n)
 |_,_,0,_=>by rw[List.take_zero,List.take_zero]; exact .nil
 |_,_,n+1,.nil=>by simpa using aa2.nil
 |_,_,n+1,.cons h r=>by
  rw[List.take_succ_cons,List.take_succ_cons]
  exact .cons h (aa2.take n r)
theorem aa2.drop{K:PySem.W.Frag}{H:Hp}:∀{v:List V} {t:List Tr} (n:Nat),aa2 K H v t->aa2 K H (v.drop n) (t.drop n)
 |_,_,0,r=>by rw[List.drop_zero,List.drop_zero]; exact r
 |_,_,n+1,.nil=>by simpa using aa2.nil
 |_,_,n+1,.cons h r=>by
  rw[List.drop_succ_cons,List.drop_succ_cons]
  exact aa2.drop n r
mutual
noncomputable def dep:Tr->Nat
 |.tup ts=>deps ts+1
 |.lst ts=>deps ts+1
 |.exn _=>100
 |_=>0
noncomputable def deps:List Tr->Nat
 | []=>0
 |t::r=>max (dep t) (deps r)
end
mutual
noncomputable def eqT:Tr->Tr->Bool
 |.non,.non=>true
 |.bl a,.bl b=>a == b
 |.bl a,.int b=>(if a then 1 else 0) == b
 |.int a,.bl b=>a == (if b then 1 else 0)
 |.int a,.int b=>a == b
 |.str a,.str b=>a == b
 |.tup a,.tup b=>ao5 a b
 |.lst a,.lst b=>ao5 a b
 |.exn a,.exn b=>a == b
 |_,_=>false
noncomputable def ao5:List Tr->List Tr->Bool
 | [],[]=>true
 |a::x,b::y=>eqT a b&&ao5 x y
 |_,_=>false
end
mutual
theorem afs:∀t:Tr,eqT t t=true
 |.non=>rfl
 |.bl b=>by unfold eqT; exact beq_self_eq_true b
 |.int i=>by unfold eqT; exact beq_self_eq_true i
 |.str x=>by unfold eqT; exact beq_self_eq_true x
 |.tup ts=>by unfold eqT; exact ag2 ts
 |.lst ts=>by unfold eqT; exact ag2 ts
 |.exn c=>by unfold eqT; exact beq_self_eq_true c
theorem ag2:∀ts:List Tr,ao5 ts ts=true
 | []=>rfl
 |t::r=>by unfold ao5; rw[afs t,ag2 r]; rfl
end
theorem aft:∀{a b:List Tr},a.length≠b.length->ao5 a b=false
 | [],[],h=>absurd rfl h
 | [],_::_,_=>rfl
 |_::_,[],_=>rfl
 |x::a,y::b,h=>by
  unfold ao5
  rw[aft (a:=a) (b:=b) (by simpa using h),Bool.and_false]
noncomputable def atE(a b:List Tr)(j:Nat):Bool:=match a[j]?,b[j]? with
 |some x,some y=>eqT x y
 |_,_=>true
theorem ag3:∀{a b:List Tr},a.length=b.length->(List.range a.length).all (atE a b)=ao5 a b
 | [],[],_=>rfl
 | [],_::_,h=>by cases h
 |_::_,[],h=>by cases h
 |x::a,y::b,h=>by
  have ih:=ag3 (a:=a) (b:=b) (by simpa using h)
  rw[List.length_cons,List.range_succ_eq_map,List.all_cons,List.all_map]
  unfold ao5
  rw[<-ih]
  rfl
section
variable {X:Cx}{pins:List (Addr × Obj)}{σ : St}{H:Hp}{s:Shared}
theorem Inv.arw(I:Inv X pins σ H s){a C:Addr}{its:Array Value}(h:H a=some (exO a C))(p:IsTup s.heap a its):False:=by
 obtain⟨o,_,e1,e2,_⟩:=(I.hok a _ h).1
 obtain⟨o',e1',e2',_⟩:=p
 rw[e1]at e1'
 cases e1'
 rw[e2]at e2'
 cases e2'
theorem Inv.arx(I:Inv X pins σ H s){a C:Addr}{its:Array Value}(h:H a=some (exO a C))(p:PlainL s.heap a its):False:=by
 obtain⟨o,_,e1,e2,_⟩:=(I.hok a _ h).1
 obtain⟨o',_,e1',e2',_⟩:=p
 rw[e1]at e1'
 cases e1'
 rw[e2]at e2'
 cases e2'
mutual
theorem Rep.inj(I:Inv X pins σ H s):∀{v:V} {t u:Tr},dep t<=99->Rep X.K H v t->Rep X.K H v u->t=u
 |_,_,_,_,.non,.non=>rfl
 |_,_,_,_,.bl _,.bl _=>rfl
 |_,_,_,_,.int _,.int _=>rfl
 |_,_,_,_,.str _,.str _=>rfl
 |_,_,_,d,.tup h r,.tup h' r'=>by
  have e:=I.aju h h'
  subst e
  rw[aa2.inj I (by unfold dep at d; omega) r r']
 |_,_,_,d,.lst h r,.lst h' r'=>by
  have e:=I.agJ h h'
  subst e
  rw[aa2.inj I (by unfold dep at d; omega) r r']
 |_,_,_,_,.tup h r,.lst h' r'=>by
  obtain⟨_,_,p,_⟩:=I.tuple h
  obtain⟨_,_,p',_⟩:=I.list h'
  exact absurd rfl (SeqAt.ne_of_list_tuple p'.isList p)
 |_,_,_,_,.lst h r,.tup h' r'=>by
  obtain⟨_,_,p,_⟩:=I.tuple h'
  obtain⟨_,_,p',_⟩:=I.list h
  exact absurd rfl (SeqAt.ne_of_list_tuple p'.isList p)
 |_,_,_,d,.exn h _ n,_=>by unfold dep at d; omega
 |_,_,_,_,.tup h r,.exn h' _ _=>by
  obtain⟨_,_,p,_⟩:=I.tuple h
  exact(I.arw h' p).elim
 |_,_,_,_,.lst h r,.exn h' _ _=>by
  obtain⟨_,_,p,_⟩:=I.list h
  exact(I.arx h' p).elim
theorem aa2.inj(I:Inv X pins σ H s):∀{v:List V} {t u:List Tr},deps t<=99->aa2 X.K H v t->aa2 X.K H v u->t=u
 |_,_,_,_,.nil,.nil=>rfl
 |_,_,_,d,.cons h r,.cons h' r'=>by
  unfold deps at d
  rw[Rep.inj I (by omega) h h',aa2.inj I (by omega) r r']
end
theorem in1_units(A:Around):A.in1.units<=A.units+1:=by
 show A.units+1<=_
 omega
theorem agL{xs:List V}{its:List Value}{j:Nat}(r:Vals xs its)(h:j<its.toArray.size):∃x,xs[j]?=some x/\RelV x its.toArray[j]:=by
 have h':j<its.length:=by simpa using h
 have hx:j<xs.length:=by rw[r.length]; exact h'
 obtain⟨u,h1,h2⟩:=r.get (List.getElem?_eq_getElem hx)
 refine⟨xs[j],List.getElem?_eq_getElem hx,?_⟩
 have e:u=its.toArray[j]:=by
  rw[List.getElem?_eq_getElem h']at h1
  have:=Option.some.inj h1
  simpa using this.symm
 rw[<-e]; exact h2
theorem alr{a b:List Tr}{j:Nat}{x y:Tr}(h1:a[j]?=some x)(h2:b[j]?=some y):atE a b j=eqT x y:=by
 unfold atE
 rw[h1,h2]
theorem aeC:∀{ts:List Tr} {j:Nat} {t:Tr},ts[j]?=some t->dep t<=deps ts
 | [],_,_,h=>by simp at h
 |x::r,0,t,h=>by
  simp at h
  subst h
  unfold deps
  exact Nat.le_max_left _ _
 |x::r,j+1,t,h=>by
  have:=aeC (ts:=r) (j:=j) (t:=t) (by simpa using h)
  unfold deps
  exact Nat.le_trans this (Nat.le_max_right _ _)
theorem ag4(I:Inv X pins σ H s)(A:Around)(t u:Tr)(x y:V)(xv yv:Value)(hu:A.units+0<cLine)(hd:dep t<=0)(du:dep u<=99)(rx:Rep X.K H x t)(ry:Rep X.K H y u)(vx:RelV x xv)(vy:RelV y yv) :
  SeqAt.RcAt A s xv yv (eqT t u)/\SeqAt.EqAt A s xv yv (eqT t u):=by
 have hu0:A.units<cLine:=by omega
 cases rx with
 |tup h r=>unfold dep at hd; omega
 |lst h r=>unfold dep at hd; omega
 |exn h m n=>unfold dep at hd; omega
 |non =>
  cases vx
  cases ry with
  |non=>cases vy; unfold eqT; exact⟨SeqAt.RcAt.none_none,.same _⟩
  |bl b2=>cases vy; unfold eqT; exact⟨SeqAt.RcAt.none_bool _,SeqAt.EqAt.none_bool _⟩
  |int i2=>obtain⟨_,rfl⟩:=vy; unfold eqT; exact⟨SeqAt.RcAt.none_int _ _,SeqAt.EqAt.none_int _ _⟩
  |str z2=>obtain⟨_,rfl⟩:=vy; unfold eqT; exact⟨SeqAt.RcAt.none_str _ _,SeqAt.EqAt.none_str _ _⟩
  |tup h r=>cases vy; obtain⟨_,_,p,_⟩:=I.tuple h; unfold eqT; exact⟨SeqAt.RcAt.none_tuple p hu0,SeqAt.EqAt.none_tuple p hu0⟩
  |lst h r=>cases vy; obtain⟨_,_,p,_⟩:=I.list h; unfold eqT; exact⟨SeqAt.RcAt.none_list p.isList hu0,SeqAt.EqAt.none_list p.isList hu0⟩
  |exn h m n=>unfold dep at du; omega
 |bl b =>
  cases vx
  cases ry with
  |non=>cases vy; unfold eqT; exact⟨SeqAt.RcAt.bool_none _,SeqAt.EqAt.bool_none _⟩
  |bl b2=>cases vy; unfold eqT; exact⟨SeqAt.RcAt.bool_bool _ _,SeqAt.EqAt.bool_bool _ _⟩
  |int i2=>obtain⟨_,rfl⟩:=vy; unfold eqT; exact⟨SeqAt.RcAt.bool_int _ _ _,SeqAt.EqAt.bool_int _ _ _⟩
  |str z2=>obtain⟨_,rfl⟩:=vy; unfold eqT; exact⟨SeqAt.RcAt.bool_str _ _ _,SeqAt.EqAt.bool_str _ _ _⟩
  |tup h r=>cases vy; obtain⟨_,_,p,_⟩:=I.tuple h; unfold eqT; exact⟨SeqAt.RcAt.bool_tuple _ p hu0,SeqAt.EqAt.bool_tuple _ p hu0⟩
  |lst h r=>cases vy; obtain⟨_,_,p,_⟩:=I.list h; unfold eqT; exact⟨SeqAt.RcAt.bool_list _ p.isList hu0,SeqAt.EqAt.bool_list _ p.isList hu0⟩
  |exn h m n=>unfold dep at du; omega
 |int i =>
  obtain⟨_,rfl⟩:=vx
  cases ry with
  |non=>cases vy; unfold eqT; exact⟨SeqAt.RcAt.int_none _ _,SeqAt.EqAt.int_none _ _⟩
  |bl b2=>cases vy; unfold eqT; exact⟨SeqAt.RcAt.int_bool _ _ _,SeqAt.EqAt.int_bool _ _ _⟩
  |int i2=>obtain⟨_,rfl⟩:=vy; unfold eqT; exact⟨SeqAt.RcAt.int_int _ _ _ _,SeqAt.EqAt.int_int _ _ _ _⟩
  |str z2=>obtain⟨_,rfl⟩:=vy; unfold eqT; exact⟨SeqAt.RcAt.int_str _ _ _ _,SeqAt.EqAt.int_str _ _ _ _⟩
  |tup h r=>cases vy; obtain⟨_,_,p,_⟩:=I.tuple h; unfold eqT; exact⟨SeqAt.RcAt.int_tuple _ _ p hu0,SeqAt.EqAt.int_tuple _ _ p hu0⟩
  |lst h r=>cases vy; obtain⟨_,_,p,_⟩:=I.list h; unfold eqT; exact⟨SeqAt.RcAt.int_list _ _ p.isList hu0,SeqAt.EqAt.int_list _ _ p.isList hu0⟩
  |exn h m n=>unfold dep at du; omega
 |str z =>
  obtain⟨_,rfl⟩:=vx
  cases ry with
  |non=>cases vy; unfold eqT; exact⟨SeqAt.RcAt.str_none _ _,SeqAt.EqAt.str_none _ _⟩
  |bl b2=>cases vy; unfold eqT; exact⟨SeqAt.RcAt.str_bool _ _ _,SeqAt.EqAt.str_bool _ _ _⟩
  |int i2=>obtain⟨_,rfl⟩:=vy; unfold eqT; exact⟨SeqAt.RcAt.str_int _ _ _ _,SeqAt.EqAt.str_int _ _ _ _⟩
  |str z2=>obtain⟨_,rfl⟩:=vy; unfold eqT; exact⟨SeqAt.RcAt.str_str _ _ _ _,SeqAt.EqAt.str_str _ _ _ _⟩
  |tup h r=>cases vy; obtain⟨_,_,p,_⟩:=I.tuple h; unfold eqT; exact⟨SeqAt.RcAt.str_tuple _ _ p hu0,SeqAt.EqAt.str_tuple _ _ p hu0⟩
  |lst h r=>cases vy; obtain⟨_,_,p,_⟩:=I.list h; unfold eqT; exact⟨SeqAt.RcAt.str_list _ _ p.isList hu0,SeqAt.EqAt.str_list _ _ p.isList hu0⟩
  |exn h m n=>unfold dep at du; omega
theorem aiE(I:Inv X pins σ H s):∀(n:Nat) (A:Around) (t u:Tr) (x y:V) (xv yv:Value),A.units+n<cLine->dep t<=n->dep t<=99->dep u<=99->Rep X.K H x t->Rep X.K H y u->RelV x xv->RelV y yv ->
  SeqAt.RcAt A s xv yv (eqT t u)/\SeqAt.EqAt A s xv yv (eqT t u):=by
 intro n
 induction n with
 |zero=>exact λA t u x y xv yv hu hd _ du rx ry vx vy=>ag4 I A t u x y xv yv hu hd du rx ry vx vy
 |succ n ih =>
  intro A t u x y xv yv hu hd dt9 du rx ry vx vy
  have hu0:A.units<cLine:=by omega
  have hu1:A.in1.units+n<cLine:=by
   have:=in1_units A
   omega
  have he:∀{xs ys:List V} {ts us:List Tr} {its its2:List Value},Vals xs its->Vals ys its2->aa2 X.K H xs ts->aa2 X.K H ys us->deps ts<=n->deps ts<=99->deps us<=99->∀j (h1:j<its.toArray.size) (h2:j<its2.toArray.size),SeqAt.EqAt A.in1 s its.toArray[j] its2.toArray[j] (atE ts us j):=by
   intro xs ys ts us its its2 r1 r2 q1 q2 hde hd9 hu9 j h1 h2
   obtain⟨a,ea,ra⟩:=agL r1 h1
   obtain⟨b,eb,rb⟩:=agL r2 h2
   obtain⟨ta,eta,qa⟩:=q1.get ea
   obtain⟨tb,etb,qb⟩:=q2.get eb
   rw[alr eta etb]
   exact(ih A.in1 ta tb a b _ _ hu1 (Nat.le_trans (aeC eta) hde) (Nat.le_trans (aeC eta) hd9) (Nat.le_trans (aeC etb) hu9) qa qb ra rb).2
  have dt:∀{ts:List Tr},dep (.tup ts)<=n+1->deps ts<=n:=λ{ts} h=>by unfold dep at h; omega
  have dl:∀{ts:List Tr},dep (.lst ts)<=n+1->deps ts<=n:=λ{ts} h=>by unfold dep at h; omega
  have nt:∀{ts:List Tr},dep (.tup ts)<=99->deps ts<=99:=λ{ts} h=>by unfold dep at h; omega
  have nl:∀{ts:List Tr},dep (.lst ts)<=99->deps ts<=99:=λ{ts} h=>by unfold dep at h; omega
  have refs:∀{a b:Addr} {t u:Tr} {k:Bool},dep t<=99->Rep X.K H (.ref a) t->Rep X.K H (.ref b) u->k=eqT t u->SeqAt.RcAt A s (.ref a) (.ref b) k->SeqAt.EqAt A s (.ref a) (.ref b) k:=λ{a b t u k} d9 r1 r2 ek h=>by
   by_cases e:a=b
   ·subst e
    have:=Rep.inj I d9 r1 r2
    subst this
    rw[ek,afs]
    exact .same _
   ·exact .of_refs e h
  cases rx with
  | @tup a1 xs1 ts h r =>
   cases vx
   obtain⟨its,rv,p,_⟩:=I.tuple h
   cases ry with
   | @tup a2 xs2 us h' r' =>
    cases vy
    obtain⟨its2,rv2,p2,_⟩:=I.tuple h'
    have R:=SeqAt.RcAt.tuples p p2 hu0 (he rv rv2 r r' (dt hd) (nt dt9) (nt du))
    have el:its.toArray.size=ts.length:=by simpa using(rv.length.symm.trans r.length)
    have el2:its2.toArray.size=us.length:=by simpa using(rv2.length.symm.trans r'.length)
    rw[el,el2]at R
    have eb:((List.range (min ts.length us.length)).all (atE ts us)&&ts.length == us.length)=eqT (.tup ts) (.tup us):=by
     unfold eqT
     by_cases e:ts.length=us.length
     ·rw[e,Nat.min_self,<-e,ag3 e,beq_self_eq_true,Bool.and_true]
     ·rw[beq_false_of_ne e,Bool.and_false,aft e]
    rw[eb]at R
    exact⟨R,refs dt9 (.tup h r) (.tup h' r') rfl R⟩
   |lst h' r' =>
    cases vy
    obtain⟨_,_,p2,_⟩:=I.list h'
    unfold eqT
    exact⟨SeqAt.RcAt.tuple_list p p2.isList hu0,.tuple_list p p2.isList hu0⟩
   |exn h' m n=>unfold dep at du; omega
   |non=>cases vy; unfold eqT; exact⟨SeqAt.RcAt.tuple_none p hu0,.tuple_none p hu0⟩
   |bl b=>cases vy; unfold eqT; exact⟨SeqAt.RcAt.tuple_bool _ p hu0,.tuple_bool _ p hu0⟩
   |int i=>obtain⟨_,rfl⟩:=vy; unfold eqT; exact⟨SeqAt.RcAt.tuple_int _ _ p hu0,.tuple_int _ _ p hu0⟩
   |str z=>obtain⟨_,rfl⟩:=vy; unfold eqT; exact⟨SeqAt.RcAt.tuple_str _ _ p hu0,.tuple_str _ _ p hu0⟩
  | @lst a1 xs1 ts h r =>
   cases vx
   obtain⟨its,rv,p,_⟩:=I.list h
   cases ry with
   | @lst a2 xs2 us h' r' =>
    cases vy
    obtain⟨its2,rv2,p2,_⟩:=I.list h'
    have el:its.toArray.size=ts.length:=by simpa using(rv.length.symm.trans r.length)
    have el2:its2.toArray.size=us.length:=by simpa using(rv2.length.symm.trans r'.length)
    by_cases e:ts.length=us.length
    ·have R:=SeqAt.RcAt.lists p.isList p2.isList (by rw[el,el2,e]) hu0 (he rv rv2 r r' (dl hd) (nl dt9) (nl du))
     rw[el,ag3 e]at R
     have eb:ao5 ts us=eqT (.lst ts) (.lst us):=by unfold eqT; rfl
     rw[eb]at R
     exact⟨R,refs dt9 (.lst h r) (.lst h' r') rfl R⟩
    ·have R:SeqAt.RcAt A s _ _ false:=SeqAt.RcAt.lists_lengths p.isList p2.isList (by rw[el,el2]; simpa using e) hu0
     have eb:false=eqT (.lst ts) (.lst us):=by unfold eqT; rw[aft e]
     rw[eb]at R
     exact⟨R,refs dt9 (.lst h r) (.lst h' r') rfl R⟩
   |tup h' r' =>
    cases vy
    obtain⟨_,_,p2,_⟩:=I.tuple h'
    unfold eqT
    exact⟨SeqAt.RcAt.list_tuple p.isList p2 hu0,.list_tuple p.isList p2 hu0⟩
   |exn h' m n=>unfold dep at du; omega
   |non=>cases vy; unfold eqT; exact⟨SeqAt.RcAt.list_none p.isList hu0,.list_none p.isList hu0⟩
   |bl b=>cases vy; unfold eqT; exact⟨SeqAt.RcAt.list_bool _ p.isList hu0,.list_bool _ p.isList hu0⟩
   |int i=>obtain⟨_,rfl⟩:=vy; unfold eqT; exact⟨SeqAt.RcAt.list_int _ _ p.isList hu0,.list_int _ _ p.isList hu0⟩
   |str z=>obtain⟨_,rfl⟩:=vy; unfold eqT; exact⟨SeqAt.RcAt.list_str _ _ p.isList hu0,.list_str _ _ p.isList hu0⟩
  |exn h m n=>unfold dep at dt9; omega
  |non=>exact ag4 I A _ _ _ _ _ _ (by omega) (by unfold dep; omega) du .non ry vx vy
  |bl b=>exact ag4 I A _ _ _ _ _ _ (by omega) (by unfold dep; omega) du (.bl b) ry vx vy
  |int i=>exact ag4 I A _ _ _ _ _ _ (by omega) (by unfold dep; omega) du (.int i) ry vx vy
  |str z=>exact ag4 I A _ _ _ _ _ _ (by omega) (by unfold dep; omega) du (.str z) ry vx vy
end
end L2
end
section
namespace L2
open PySem PySem.Spec PyProof.Rows
section
variable {X:Cx}{a b:Expr}{ta tb:TE}{pos:Pos}
noncomputable def aw2(K:PySem.W.Frag):R2:=λx y H Q=>∃t u,Rep K H x t/\Rep K H y u/\dep t<=40/\dep u<=40/\Q (.bl (eqT t u)) H
theorem adQ(hu:X.A.units+64<cLine):OpR X (compareOp .Eq) (aw2 X.K):=by
 intro pins s σ H x y v u Q I rx ry h
 obtain⟨t,t',q1,q2,hd,hd2,q⟩:=h
 exact(aiE I 40 X.A t t' x y v u (by omega) hd (by omega) (by omega) q1 q2 rx ry).1 _ _ _ _ ⟨.bl _,H,I,rfl,q⟩
noncomputable def apq(t:Tr)(ts:List Tr):Bool:=ts.any λu=>eqT u t
noncomputable def aw3(K:PySem.W.Frag):R2:=λx y H Q=>∃t ts p xs,Rep K H x t/\y=.ref p/\(SqL K H p xs\/SqT K H p xs)/\aa2 K H xs ts/\deps ts<=40/\dep t<=40/\Q (.bl (apq t ts)) H
theorem afu{xs:List V}{its:List Value}{ts:List Tr}{K:PySem.W.Frag}{H:Hp}(f:Tr->Bool)(e:Value->Bool)(r:Vals xs its)(q:aa2 K H xs ts)(h:∀x v t,x∈xs->RelV x v->Rep K H x t->t∈ts->e v=f t):its.any e=ts.any f:=by
 induction r generalizing ts with
 |nil=>cases q; rfl
 |cons r1 r2 ih =>
  cases q with
  |cons q1 q2 =>
   rw[List.any_cons,List.any_cons,h _ _ _ List.mem_cons_self r1 q1 List.mem_cons_self,ih q2 λx v t hx hr hq ht=>h x v t (List.mem_cons_of_mem _ hx) hr hq (List.mem_cons_of_mem _ ht)]
theorem aia:∀{ts:List Tr} {t:Tr},t∈ts->dep t<=deps ts:=λ{ts t} h=>by
 obtain⟨i,hi,e⟩:=List.mem_iff_getElem.mp h
 exact aeC (j:=i) (by rw[List.getElem?_eq_getElem hi,e])
open Classical in
theorem at3(hu:X.A.units+64<cLine):OpR X (compareOp .In) (aw3 X.K):=by
 intro pins s σ H x y v u Q I rx ry h
 obtain⟨t,ts,p,xs,q1,rfl,hq,qs,hd,hd2,q⟩:=h
 cases ry
 have hu1:X.A.in1.units+40<cLine:=by
  have:=in1_units X.A
  omega
 -- what == tells of an item,by the item itself
 let e:Value->Bool:=λw'=>if h:∃z tz,z∈xs/\RelV z w'/\Rep X.K H z tz/\tz∈ts then eqT (Classical.choose (Classical.choose_spec h)) t else false
 have ee:∀z w' tz,z∈xs->RelV z w'->Rep X.K H z tz->tz∈ts->e w'=eqT tz t:=λz w' tz h1 h2 h3 h4=>by
  have hx:∃z tz,z∈xs/\RelV z w'/\Rep X.K H z tz/\tz∈ts:=⟨z,tz,h1,h2,h3,h4⟩
  show(if h:_ then _ else _)=_
  rw[dif_pos hx]
  have sp:=Classical.choose_spec (Classical.choose_spec hx)
  have key:∀z z' t1 t2,RelV z w'->RelV z' w'->dep t1<=99->Rep X.K H z t1->Rep X.K H z' t2->t1=t2:=λz z' t1 t2 a1 a2 d9 a3 a4=>by
   obtain rfl:=RelV.inj a1 a2
   exact Rep.inj I d9 a3 a4
  rw[key _ _ _ _ sp.2.1 h2 (by have:=aia sp.2.2.2; omega) sp.2.2.1 h3]
 have mem:∀{its:List Value},Vals xs its->∀w'∈its,SeqAt.EqAt X.A.in1 s w' v (e w'):=by
  intro its r w' hw
  obtain⟨j,hj,ej⟩:=List.mem_iff_getElem.mp hw
  have hjx:j<xs.length:=by rw[r.length]; exact hj
  obtain⟨u',h1,h2⟩:=r.get (List.getElem?_eq_getElem hjx)
  rw[List.getElem?_eq_getElem hj,ej]at h1
  cases h1
  obtain⟨tz,h3,h4⟩:=qs.get (List.getElem?_eq_getElem hjx)
  have hm:=List.mem_of_getElem? h3
  rw[ee _ _ tz (List.getElem_mem hjx) h2 h4 hm]
  exact(aiE I 40 X.A.in1 tz t _ x _ v hu1 (Nat.le_trans (aia hm) hd) (by have:=aia hm; omega) (by omega) h4 q1 h2 rx).2
 rcases hq with hq|hq
 ·obtain⟨its,r,pl,hz⟩:=I.list hq
  refine SeqAt.in_listAt e pl.isList (λw hw=>mem r w (by simpa using hw)) ⟨.bl _,H,I,rfl,?_⟩
  rw[show its.toArray.any e=its.any e by simp,afu (λz=>eqT z t) e r qs λz w' tz h1 h2 h3 h4=>ee z w' tz h1 h2 h3 h4]
  exact q
 ·obtain⟨its,r,pl,hz⟩:=I.tuple hq
  refine SeqAt.in_tupleAt e pl (λw hw=>mem r w (by simpa using hw)) ⟨.bl _,H,I,rfl,?_⟩
  rw[show its.toArray.any e=its.any e by simp,afu (λz=>eqT z t) e r qs λz w' tz h1 h2 h3 h4=>ee z w' tz h1 h2 h3 h4]
  exact q
inductive Ty where|int|bool|str|tuple|list
noncomputable def Ty.name:Ty->String
 |.int => "int" |.bool => "bool" |.str => "str" |.tuple => "tuple" |.list => "list"
noncomputable def ada:Tr->Ty->Bool
 |.bl _,.bool=>true|.bl _,.int=>true|.int _,.int=>true|.str _,.str=>true|.tup _,.tuple=>true|.lst _,.list=>true
 |_,_=>false
noncomputable def awD(K:PySem.W.Frag):List V->Hp->VK->Prop:=λxs H Q=>∃v t c,xs=[v,.ty (Ty.name c)]/\Rep K H v t/\Q (.bl (ada t c)) H
noncomputable def XOk(K:PySem.W.Frag):Prop:=∀c∈acJ,∀C,PySem.W.nsIn K mainGlobals c=some (some (.ref C))->(∀a,PySem.W.KitX K (.ref a) (.ref C) (aw1 a C))/\∀y:Ty,PySem.W.kitOne K (.ref C) (.type y.name)=some false
theorem apr(hX:XOk X.K):aeg X (.builtin "isinstance") (awD X.K):=by
 intro pins s σ H xs us Q I r h
 obtain⟨v,t,c,rfl,q1,q⟩:=h
 obtain⟨u,w',rfl,ru,rw'⟩:=vals2 r
 obtain rfl:w'=Value.type (Ty.name c):=rw'
 have fin:∀tk,EP X pins σ Q (.bool (ada t c)) {s with toks:=tk }:=λtk=>⟨.bl _,H,I.tok tk,rfl,q⟩
 cases q1 with
 |non=>cases ru; cases c <;> exact PySem.W.kia_one PySem.W.kitx_none I.kIn True.intro (by kernel_rfl) (λz=>nomatch z) fin
 |bl y=>cases ru; cases c <;> exact PySem.W.kia_one PySem.W.kitx_bool I.kIn True.intro (by kernel_rfl) (λz=>nomatch z) fin
 |int i=>obtain⟨_,rfl⟩:=ru; cases c <;> exact PySem.W.kia_one PySem.W.kitx_int I.kIn True.intro (by kernel_rfl) (λz=>nomatch z) fin
 |str y=>obtain⟨_,rfl⟩:=ru; cases c <;> exact PySem.W.kia_one PySem.W.kitx_str I.kIn True.intro (by kernel_rfl) (λz=>nomatch z) fin
 |tup h r =>
  cases ru
  obtain⟨_,_,⟨o,h1,h2,_⟩,_⟩:=I.tuple h
  cases c <;> exact PySem.W.kia_one PySem.W.kitx_tuple I.kIn ⟨o,h1,h2⟩ (by kernel_rfl) (λz=>nomatch z) fin
 |lst h r =>
  cases ru
  obtain⟨_,_,p,_⟩:=I.list h
  obtain⟨o,h1,h2,_⟩:=p.isList
  cases c <;> exact PySem.W.kia_one PySem.W.kitx_list I.kIn ⟨o,h1,h2⟩ (by kernel_rfl) (λz=>nomatch z) fin
 |exn h m n =>
  cases ru
  obtain⟨z1,z2⟩:=hX _ m _ n
  exact PySem.W.kia_one (z1 _) I.kIn (I.hok _ _ h).1 (z2 c) (λz=>nomatch z) fin
noncomputable def aw4(K:PySem.W.Frag):List V->Hp->VK->Prop:=λxs H Q=>∃(p:Addr) (bs:List Bool),xs=[.ref p]/\SqL K H p (bs.map V.bl)/\Q (.bl (bs.all id)) H
theorem agM(hc:X.calm=true):aeg X (.builtin "all") (aw4 X.K):=by
 intro pins s σ H xs us Q I r h
 obtain⟨p,bs,rfl,hq,q⟩:=h
 obtain⟨u,rfl,ru⟩:=vals1 r
 cases ru
 obtain⟨its,rv,pl,hz⟩:=I.list hq
 refine call_all_walk (wpAny_pyIter_list pl.isList ?_)
 obtain⟨ol,hol,hol'⟩:=id pl.isList
 have hlt:p<s.heap.objs.size:=Heap.lt_size hol
 have hlen:its.toArray.size=bs.length:=by simpa using rv.length.symm
 have at_:∀(i:Nat) (v:Value),its.toArray[i]?=some v->∃k,bs[i]?=some k/\v=Value.bool k:=λi v e=>by
  have e':its[i]?=some v:=by simpa using e
  have hi:i<its.length:=(List.getElem?_eq_some_iff.mp e').1
  have hb:i<(bs.map V.bl).length:=by rw[rv.length]; exact hi
  obtain⟨u',h1,h2⟩:=rv.get (List.getElem?_eq_getElem hb)
  rw[e']at h1
  cases h1
  have hb':i<bs.length:=by simpa using hb
  refine⟨bs[i],List.getElem?_eq_getElem hb',?_⟩
  rw[List.getElem_map]at h2
  exact h2
 refine⟨s.heap.objs.size,_,_,_,_,_,λi=>bs.getD i true,rfl,Walks.list (A:=X.A.in1) (I.ok.hd hc) s.heap.objs.size p (Nat.ne_of_lt hlt) its.toArray,⟨⟨_,Heap.get?_push_size _ rfl,rfl,rfl⟩,⟨ol,Heap.get?_push_of_some _ hol,hol'⟩⟩,?_,?_⟩
 ·intro i v s' Q' E' hP hQ'
  obtain⟨k,h1,rfl⟩:=at_ i v hP
  have:bs.getD i true=k:=by rw[List.getD_eq_getElem?_getD,h1]; rfl
  dsimp only at hQ'
  rw[this]at hQ'
  exact wpAny_truthy_bool hQ'
 ·intro h' tk hk
  have I1:Inv X pins σ H {s with heap:=h',toks:=tk }:=I.kept λb o e=>hk b o (by
   have:=Heap.lt_size e
   simp
   exact Nat.ne_of_lt this) (Heap.get?_push_of_some _ e)
  refine⟨.bl _,H,I1,rfl,?_⟩
  have eq:(List.range its.toArray.size).all (λi=>bs.getD i true)=bs.all id:=by
   rw[hlen]
   clear q hq rv at_ hlen hz
   induction bs with
   |nil=>rfl
   |cons b r ih =>
    rw[List.length_cons,List.range_succ_eq_map,List.all_cons,List.all_map,List.all_cons]
    exact congrArg (b && ·) ih
  rw[eq]
  exact q
end
end L2
end
section
namespace L2
open PySem PySem.Spec PyProof.Rows
noncomputable def At(K:PySem.W.Frag)(mg:Str->Option Value)(x:Str)(st:Stmt):Prop:=∃f fd,Fun K x x st f fd/\mg x=some (.ref f)
section
variable {X:Cx}{k:Nat}{x:Str}{ps:List Str}{sp:Sp}{p q pos:Pos}{e:Expr}{es:List Expr}{te:TE}{t:TA}
theorem at4(hX:XOk X.K)(c:Ty)(he:PE X e te)(h1:X.mg "isinstance" = none) (h2:X.mg x=none) (hb:bootBuiltins x=some (.type c.name):=by decide +kernel) (hg1:Gl X "isinstance" := by rfl) (hg2:Gl X x:=by rfl) (hn:x ≠ "__name__" := by decide) (hd:(x == ("__debug__" : Str))=false:=by decide)
  (hs:starEach (e::[.Name x q]) X.env=(false,eval e X.env)::starEach [.Name x q] X.env:=by rfl):PE X (.Call (.Name "isinstance" p) [e,.Name x q] [] pos) (tCB (awD X.K) (afN te (afN (tC (.ty c.name)) aqF))) :=
 alp (apr hX) hg1 h1 PyProof.Rows.boot_isinstance (acG he (acG (ard hg2 h2 hb rfl hn hd) aai) hs) (he:=hs)
end
end L2
end
section
namespace L2
open PySem PySem.Spec PyProof.Rows
noncomputable def off(a:Addr)(H:Hp):Hp:=λb=>if b=a then none else H b
theorem off_ne{a b:Addr}{H:Hp}(h:b≠a):off a H b=H b:=if_neg h
theorem aeW{a b:Addr}{H:Hp}{o:HO}(h:off a H b=some o):b≠a/\H b=some o:=by
 unfold off at h
 split at h
 ·cases h
 ·rename_i e; exact⟨e,h⟩
structure Pj(Pr:Hp->Hp)(H0:Hp):Prop where
 mono:∀{H H':Hp},Same H H'->Same (Pr H) (Pr H')
 sub:∀H,Same (Pr H) H
 new:∀{H:Hp} {r:Addr} {o:HO},Same H0 H->H r=none->Pr (upd H r o) r=some o
theorem Pj.id(H0:Hp):Pj (λH=>H) H0:=⟨λs=>s,λH=>Same.refl H,λ_ _=>abj⟩
theorem Pj.le{Pr:Hp->Hp}{H0 H1:Hp}(p:Pj Pr H0)(s:Same H0 H1):Pj Pr H1:=⟨p.mono,p.sub,λs' h=>p.new (s.trans s') h⟩
theorem aaQ{H:Hp}{p:Addr}(h:H p=none)(o:HO):Same H (upd H p o):=λb u q=>by rw[aaG (aaW q h)]; exact q
section
variable (K:PySem.W.Frag)(Pr:Hp->Hp)(σ : St)(H0:Hp)
end
section
variable {K:PySem.W.Frag}{Pr:Hp->Hp}{σ : St}{H0:Hp}{te tb:TE}{ta:TA}{T:Tr}{Ts Us:List Tr}
end
end L2
end
section
namespace L2
open PySem PySem.Spec PyProof.Rows
noncomputable def notStar:Expr->Bool
 |.Starred _ _=>false
 |_=>true
theorem aeD{e:Expr}{es:List Expr}{env:Env}(h:notStar e=true):starEach (e::es) env=(false,eval e env)::starEach es env:=by
 cases e <;> first|rfl|(unfold notStar at h; cases h)
noncomputable def tEv(K:PySem.W.Frag)(T:Tr):TE:=λ_ H Q=>∀v H',Same H H'->(∀Pr,Pj Pr H->Rep K (Pr H') v T)->Q v H'
noncomputable def atd(K:PySem.W.Frag)(Ts:List Tr):TA:=λ_ H Q=>∀vs H',Same H H'->(∀Pr,Pj Pr H->aa2 K (Pr H') vs Ts)->Q vs H'
noncomputable def awF(K:PySem.W.Frag)(Ts:List Tr):TE:=λ_ H Q=>∀a xs H1,Same H H1->H1 a=none->(∀Pr,Pj Pr H->aa2 K (Pr H1) xs Ts)->xs.length=Ts.length->Q (.ref a) (upd H1 a (.lst xs))
theorem PE.imp{X:Cx}{e:Expr}{t u:TE}(h:PE X e t)(i:∀σ H Q,u σ H Q->t σ H Q):PE X e u:=⟨λpins s σ H Q I q=>h pins s σ H Q I (i σ H Q q)⟩
theorem PA.imp{X:Cx}{e:List Expr}{t u:TA}(h:PA X e t)(i:∀σ H Q,u σ H Q->t σ H Q):PA X e u:=⟨λpos pins s σ H Q I q=>h pos pins s σ H Q I (i σ H Q q)⟩
section
variable {X:Cx}{e:Expr}{es:List Expr}{T:Tr}{Ts:List Tr}{pos:Pos}{k:Nat}
end
end L2
end
section
namespace L2
open PySem PySem.Spec PyProof.Rows
mutual
noncomputable def pd:Tr->PyData
 |.non=>.none
 |.bl b=>.bool b
 |.int i=>.int i
 |.str x=>.str x
 |.tup ts=>.tuple (pds ts)
 |.lst ts=>.list (pds ts)
 |.exn _=>.none
noncomputable def pds:List Tr->List PyData
 | []=>[]
 |t::r=>pd t::pds r
end
mutual
noncomputable def okS:Tr->Bool
 |.int i=>decide (i.natAbs.log2<1920)
 |.str x=>x.cps.toList.all λc=>decide (c<16 ^ 8)
 |.tup ts=>ao6 ts
 |.lst ts=>ao6 ts
 |.exn _=>false
 |_=>true
noncomputable def ao6:List Tr->Bool
 | []=>true
 |t::r=>okS t&&ao6 r
end
mutual
noncomputable def blk:Tr->Nat
 |.str x=>x.cps.size
 |.tup ts=>blks ts
 |.lst ts=>blks ts
 |_=>0
noncomputable def blks:List Tr->Nat
 | []=>0
 |t::r=>blk t+1+blks r
end
mutual
theorem ano:∀t:Tr,(pd t).bulk=blk t
 |.non=>rfl
 |.bl _=>rfl
 |.int _=>rfl
 |.str _=>rfl
 |.tup ts=>by simp only[pd,PyData.bulk,blk]; exact aiF ts
 |.lst ts=>by simp only[pd,PyData.bulk,blk]; exact aiF ts
 |.exn _=>rfl
theorem aiF:∀ts:List Tr,PyData.bulkAll (pds ts)=blks ts
 | []=>rfl
 |t::r=>by simp only[pds,PyData.bulkAll,blks]; rw[ano t,aiF r]
end
mutual
theorem akp:∀t:Tr,(pd t).hasDict=false
 |.non=>rfl
 |.bl _=>rfl
 |.int _=>rfl
 |.str _=>rfl
 |.tup ts=>by simp only[pd,PyData.hasDict]; exact aiG ts
 |.lst ts=>by simp only[pd,PyData.hasDict]; exact aiG ts
 |.exn _=>rfl
theorem aiG:∀ts:List Tr,PyData.hasDictAll (pds ts)=false
 | []=>rfl
 |t::r=>by simp only[pds,PyData.hasDictAll]; rw[akp t,aiG r]; rfl
end
mutual
theorem als:∀t:Tr,(pd t).depth<=dep t
 |.non=>Nat.le_of_eq rfl
 |.bl _=>Nat.le_of_eq rfl
 |.int _=>Nat.le_of_eq rfl
 |.str _=>Nat.le_of_eq rfl
 |.tup ts=>by
  have:=ag5 ts
  simp only[pd,PyData.depth,dep]
  omega
 |.lst ts=>by
  have:=ag5 ts
  simp only[pd,PyData.depth,dep]
  omega
 |.exn _=>by simp only[pd,PyData.depth,dep]; omega
theorem ag5:∀ts:List Tr,PyData.depthAll (pds ts)<=deps ts
 | []=>Nat.le_of_eq rfl
 |t::r=>by
  have h1:=als t
  have h2:=ag5 r
  simp only[pds,PyData.depthAll,deps]
  omega
end
mutual
theorem arz:∀t:Tr,okS t=true->(pd t).showable=true/\(pd t).leavesShort 1921=true
 |.non,_=>⟨rfl,rfl⟩
 |.bl _,_=>⟨rfl,rfl⟩
 |.int i,h=>by
  have h1:i.natAbs.log2<1920:=by simpa only[okS,decide_eq_true_eq]using h
  refine⟨by simpa only[pd,PyData.showable,decide_eq_true_eq]using h1,?_⟩
  simp only[pd,PyData.leavesShort,decide_eq_true_eq]
  exact int_text_len_1921 h1
 |.str x,h=>⟨rfl,by simpa only[pd,PyData.leavesShort,okS]using h⟩
 |.tup ts,h=>by
  have:=anp ts (by simpa only[okS]using h)
  simp only[pd,PyData.showable,PyData.leavesShort]
  exact this
 |.lst ts,h=>by
  have:=anp ts (by simpa only[okS]using h)
  simp only[pd,PyData.showable,PyData.leavesShort]
  exact this
 |.exn _,h=>by simp only[okS]at h; cases h
theorem anp:∀ts:List Tr,ao6 ts=true->PyData.showableAll (pds ts)=true/\PyData.leavesShortAll 1921 (pds ts)=true
 | [],_=>⟨rfl,rfl⟩
 |t::r,h=>by
  simp only[ao6,Bool.and_eq_true]at h
  have h1:=arz t h.1
  have h2:=anp r h.2
  simp only[pds,PyData.showableAll,PyData.leavesShortAll,Bool.and_eq_true]
  exact⟨⟨h1.1,h2.1⟩,⟨h1.2,h2.2⟩⟩
end
theorem at5{t:Tr}(h:okS t=true)(hb:blk t<=8000):(pd t).shown.length<=sizeLine:=by
 have h1:=PyData.shown_le_bulk 1921 (by decide) (pd t) (arz t h).2
 rw[ano]at h1
 have h2:sizeLine=16777216:=by decide
 omega
section
variable {X:Cx}{pins:List (Addr × Obj)}{σ : St}{H:Hp}{s:Shared}
mutual
theorem Rep.reads(I:Inv X pins σ H s):∀{v:V} {t:Tr} {u:Value},okS t=true->Rep X.K H v t->RelV v u->∃as,Reads s.heap u (pd t) as
 |_,_,_,_,.non,r=>by
  cases r
  exact⟨_,by simp only[pd]; exact .none⟩
 |_,_,_,_,.bl b,r=>by
  cases r
  exact⟨_,by simp only[pd]; exact .bool b⟩
 |_,_,_,_,.int i,r=>by
  obtain⟨_,rfl⟩:=r
  exact⟨_,by simp only[pd]; exact .int i _⟩
 |_,_,_,_,.str x,r=>by
  obtain⟨_,rfl⟩:=r
  exact⟨_,by simp only[pd]; exact .str x _⟩
 |_,_,_,k,.tup h q,r=>by
  cases r
  obtain⟨its,rv,⟨o,h1,h2,n,h3⟩,_⟩:=I.tuple h
  obtain⟨as,ha⟩:=aa2.reads I (by simpa only[okS]using k) q rv
  exact⟨_,by simp only[pd]; exact .tuple h1 h2 h3 ha⟩
 |_,_,_,k,.lst h q,r=>by
  cases r
  obtain⟨its,rv,⟨o,n,h1,h2,_,h3⟩,_⟩:=I.list h
  obtain⟨as,ha⟩:=aa2.reads I (by simpa only[okS]using k) q rv
  exact⟨_,by simp only[pd]; exact .list h1 h2 h3 ha⟩
 |_,_,_,k,.exn h _ _,r=>by simp only[okS]at k; cases k
theorem aa2.reads(I:Inv X pins σ H s):∀{v:List V} {t:List Tr} {u:List Value},ao6 t=true->aa2 X.K H v t->Vals v u->∃as,ReadsAll s.heap u (pds t) as
 |_,_,_,_,.nil,r=>by
  cases r
  exact⟨_,by simp only[pds]; exact .nil⟩
 |_,_,_,k,.cons h q,r=>by
  cases r with
  |cons r1 r2 =>
   simp only[ao6,Bool.and_eq_true]at k
   obtain⟨a,h1⟩:=Rep.reads I k.1 h r1
   obtain⟨b,h2⟩:=aa2.reads I k.2 q r2
   exact⟨_,by simp only[pds]; exact .cons h1 h2⟩
end
end
noncomputable def txt:Tr->Str
 |.str x=>x
 |t=>(pd t).shown
noncomputable def aw5(K:PySem.W.Frag):List V->Hp->VK->Prop:=λxs H Q=>∃v t,xs=[v]/\Rep K H v t/\okS t=true/\blk t<=8000/\dep t<=40/\Q (.str (txt t)) H
theorem ajF{X:Cx}(hg:X.A.guards=some [])(hu:X.A.units+64<cLine):aeg X (.type "str") (aw5 X.K):=by
 intro pins s σ H xs us Q I r h
 obtain⟨v,t,rfl,q1,hok,hb,hd,q⟩:=h
 obtain⟨u,rfl,ru⟩:=vals1 r
 have hl:=at5 hok hb
 have hdp:=als t
 have hx:=arz t hok
 cases q1 with
 |exn h m n=>simp only[okS]at hok; cases hok
 |non=>cases ru; exact P.str_of_none ⟨.str _,H,I.tok _,⟨_,rfl⟩,q⟩
 |bl b=>cases ru; exact P.str_of_bool ⟨.str _,H,I.tok _,⟨_,rfl⟩,q⟩
 |int i =>
  obtain⟨_,rfl⟩:=ru
  exact P.str_of_int (by simpa only[okS,decide_eq_true_eq]using hok) ⟨.str _,H,I.tok _,⟨_,rfl⟩,q⟩
 |str x=>obtain⟨_,rfl⟩:=ru; exact P.str_of_str ⟨.str _,H,I,⟨_,rfl⟩,q⟩
 |tup hh rr =>
  cases ru
  obtain⟨as,ha⟩:=Rep.reads I hok (.tup hh rr) (u:=.ref _) rfl
  exact str_of_reads ha hx.1 (PyData.noDict_hsm (akp _)) hg (by omega) (λ_ _ e=>e) (λh' u tk hk=>⟨.str _,H,I.kept hk,⟨_,rfl⟩,q⟩) hl
 |lst hh rr =>
  cases ru
  obtain⟨as,ha⟩:=Rep.reads I hok (.lst hh rr) (u:=.ref _) rfl
  exact str_of_reads ha hx.1 (PyData.noDict_hsm (akp _)) hg (by omega) (λ_ _ e=>e) (λh' u tk hk=>⟨.str _,H,I.kept hk,⟨_,rfl⟩,q⟩) hl
end L2
end
section
namespace L2
open PySem PySem.Spec PyProof.Rows
noncomputable def ay4:V->Option Int->Option Int->Hp->VK->Prop:=λx lo hi H Q=>∃z,x=.str z/\z.length<=sizeLine/\Q (.str (Txt.slice z lo hi)) H
theorem at6{X:Cx}:SlR X ay4:=by
 intro pins s σ H x v vl vu lo hi sl Q I rx hs pl pu h
 obtain⟨z,rfl,hz,q⟩:=h
 obtain⟨t,rfl⟩:=rx
 obtain⟨o,h1,h2,h3⟩:=hs
 have fin:∀(t':Tok) (k:Nat),EP X pins σ Q (.str (Txt.slice z lo hi) t') {s with toks:=k }:=λt' k=>⟨.str _,H,I.tok k,⟨_,rfl⟩,q⟩
 have hl:=Nat.le_trans (Txt.slice_le z lo hi) hz
 refine⟨"str",_,F.slot_str_getitem.lookup,typeIs_str _ _ _,?_⟩
 cases pl with
 |none =>
  cases pu with
  |none=>exact wpAny_getItem_str_slice (l:=none) (u:=none) (st:=none) ⟨o,h1,h2,h3⟩ rfl (post_val_or_str ⟨hl,λt' k=>fin t' k⟩)
  |int j uj=>exact wpAny_getItem_str_slice (l:=none) (u:=some (j,uj)) (st:=none) ⟨o,h1,h2,h3⟩ rfl (post_val_or_str ⟨hl,λt' k=>fin t' k⟩)
 |int i ui =>
  cases pu with
  |none=>exact wpAny_getItem_str_slice (l:=some (i,ui)) (u:=none) (st:=none) ⟨o,h1,h2,h3⟩ rfl (post_val_or_str ⟨hl,λt' k=>fin t' k⟩)
  |int j uj=>exact wpAny_getItem_str_slice (l:=some (i,ui)) (u:=some (j,uj)) (st:=none) ⟨o,h1,h2,h3⟩ rfl (post_val_or_str ⟨hl,λt' k=>fin t' k⟩)
noncomputable def nw(H H':Hp):Hp:=λb=>match H b with
 |none=>H' b
 |some _=>none
end L2
end
section
namespace L2
open PySem PySem.Spec PyProof.Rows
noncomputable def CXF(P:Program)(w:World):CXT:=λouter H s E e s'=>∃ea cls a0 H' B,e=.ref ea/\E cls none H'/\s'.os=s.os/\AllBare s'.gens/\Un (frs outer) [] H H' s.heap s'.heap/\HOk P w H' B /\
 Heap.FlyingW B outer ea cls a0 s'.heap/\∀b o,s.heap.get? b=some o->b∉frs outer->∃o',B.get? b=some o'
theorem aps{env:Env}{outer:List Env}{L b:Addr}(hf:env.frame=some L)(h:b∈frs (env::outer)):b=L\/b∈frs outer:=by
 unfold frs at h
 rw[List.filterMap_cons_some hf]at h
 exact List.mem_cons.mp h
theorem arA{env:Env}{outer:List Env}{b:Addr}(h:b∈frs outer):b∈frs (env::outer):=by
 obtain⟨e,he,q⟩:=List.mem_filterMap.mp h
 exact List.mem_filterMap.mpr ⟨e,List.mem_cons_of_mem _ he,q⟩
theorem apt{P:Program}{w:World}{H:Hp}{h:Heap}{l:List Addr}(x:HOk P w H h)(fr:∀b∈l,H b=none):HOk P w H (PySem.W.hideAll h l):=λa o e =>
 (x a o e).stay (λb u hb q=>PySem.W.hideAll_get _ q λhm=>by
  rcases hb with rfl|hb
  ·rw[fr _ hm]at e; cases e
  ·rw[fr _ hm]at hb; cases hb) (λ_ q=>q) λ_ _ q=>q
section
variable {P:Program}{w:World}{K:PySem.W.Frag}{mg:Str->Option Value}{base:Heap}{N:List Str}{qual:Str}{scope:Scope}{f:Addr}{cd:Value}{A:Around}{outer:List Env}{s:Shared}{H:Hp}{E:XK}{CX:CXT}
theorem Un.left{pins:List (Addr × Obj)}{σ : St}{H1 H2:Hp}{s1:Shared}{h2 h3 B:Heap}(I:Inv (aln CX P w K mg base N qual scope f cd A outer s H E) pins σ H1 s1)
  (u:Un (frs (envOfC qual scope s.heap.objs.size f cd::outer)) [] H1 H2 s1.heap h2) (st:B.StaysIn h2) (kb:∀b o,s1.heap.get? b=some o->b∉frs (envOfC qual scope s.heap.objs.size f cd::outer)->∃o',B.get? b=some o')
  (fl:B.StaysIn h3) (sl:h2.UpToSlots h3):Un (frs outer) [] H H2 s.heap h3/\∀b o,s.heap.get? b=some o->b∉frs outer->∃o',B.get? b=some o':=by
 have ub:=I.base
 have hf:(envOfC qual scope s.heap.objs.size f cd).frame=some s.heap.objs.size:=by
  rcases I.ok.stk with z|z
  ·exact absurd (congrArg List.length z) (by show outer.length+1≠outer.length; omega)
  ·exact z.2
 have no:∀b o,s.heap.get? b=some o->b∉frs outer->b∉frs (envOfC qual scope s.heap.objs.size f cd::outer):=λb o e n z=>by
  rcases aps hf z with rfl|z
  ·exact absurd (Heap.lt_size e) (Nat.lt_irrefl _)
  ·exact n z
 have nx:∀b:Addr,b∉([]:List Addr):=λb z=>nomatch z
 have inB:∀b o,s.heap.get? b=some o->b∉frs outer->∃o',B.get? b=some o':=λb o e n=>by
  obtain⟨o1,e1⟩:=ub.there b o e (nx b)
  exact kb b o1 e1 (no b o e n)
 have slots:∀b o,s.heap.get? b=some o->H b=none->b∈frs outer->∃sl,h3.get? b=some {o with slots:=sl }:=λb o e n z=>by
  obtain⟨sl1,e1⟩:=ub.slot b o e n z (nx b)
  obtain⟨sl2,e2⟩:=u.slot b _ e1 (ub.free b o e n (nx b)) (arA z) (nx b)
  obtain⟨_,o',e',nf⟩:=I.ok.amX.mem z
  have e'':s.heap.get? b=some o':=e'
  rw[e]at e''
  cases e''
  obtain⟨sl3,e3⟩:=sl b _ e2 nf
  exact⟨sl3,e3⟩
 refine⟨⟨λb o e n z _=>?_,λb o e n z _=>slots b o e n z,λb o e n _=>?_,λb o e _=>?_,λb xs q=>u.tups b xs (ub.tups b xs q),λb o q z=>u.am3 b o q (ub.am3 b o q z),λb ps q=>?_⟩,inB⟩
 ·have e1:=ub.keep b o e n z (nx b)
  have e2:=u.keep b o e1 (ub.free b o e n (nx b)) (no b o e z) (nx b)
  obtain⟨o',e3⟩:=inB b o e z
  have e4:=st b o' e3
  rw[e2]at e4
  cases e4
  exact fl b o e3
 ·obtain⟨o1,e1⟩:=ub.there b o e (nx b)
  exact u.free b o1 e1 (ub.free b o e n (nx b)) (nx b)
 ·by_cases z:b∈frs outer
  ·obtain⟨sl,e1⟩:=slots b o e (I.ok.frf b z) z
   exact⟨_,e1⟩
  ·obtain⟨o',e1⟩:=inB b o e z
   exact⟨o',fl b o' e1⟩
 ·obtain⟨m1,e1⟩:=ub.am4 b ps q
  obtain⟨m2,e2⟩:=u.am4 b _ e1
  exact⟨m1++m2,by rw[e2,Array.append_assoc]⟩
end
noncomputable def Raises(X:Cx)(E:XK):Prop:=∀(pins:List (Addr × Obj)) (σ : St) (H:Hp) (s:Shared) (h':Heap) (e C:Addr) (us:List Value),Inv X pins σ H s->Heap.MadeExcOf s.heap h' e (.ref C) us->E (.ref C) none H->X.xe (.ref e) {s with heap:=h' }
theorem afv{P:Program}{w:World}{K:PySem.W.Frag}{mg:Str->Option Value}{base:Heap}{N:List Str}{qual:Str}{scope:Scope}{f:Addr}{cd:Value}{A:Around}{outer:List Env}{s:Shared}{H:Hp}{E:XK} :
  Raises (aln (CXF P w) P w K mg base N qual scope f cd A outer s H E) E:=by
 intro pins σ H1 s1 h' e C us I hx q
 have hs:=I.stack
 have hf:(envOfC qual scope s.heap.objs.size f cd).frame=some s.heap.objs.size:=by
  rcases I.ok.stk with z|z
  ·exact absurd (congrArg List.length z) (by show outer.length+1≠outer.length; omega)
  ·exact z.2
 have hin:∀env∈(envOfC qual scope s.heap.objs.size f cd::outer),∀a,env.frame=some a->a∈frs (envOfC qual scope s.heap.objs.size f cd::outer):=λenv he b hb=>List.mem_filterMap.mpr ⟨env,he,hb⟩
 have stB:(PySem.W.hideAll s1.heap (frs (envOfC qual scope s.heap.objs.size f cd::outer))).StaysIn s1.heap:=λb o z=>PySem.W.of_hideAll _ z
 have stH:(PySem.W.hideAll s1.heap (frs (envOfC qual scope s.heap.objs.size f cd::outer))).StaysIn h':=λb o z=>hx.keeps b o (stB b o z)
 refine wpAny_leaves_madeW (base:=PySem.W.hideAll s1.heap (frs (envOfC qual scope s.heap.objs.size f cd::outer))) (h:=s1.heap) I.ok.frames hf stB (PySem.W.funFrames_hide hs hin) hx λh'' t fl _ _ sl=>?_
 obtain⟨un,ib⟩:=Un.left (B:=PySem.W.hideAll s1.heap (frs (envOfC qual scope s.heap.objs.size f cd::outer))) I (Un.kept (h':=h') hx.keeps) stH (λb o z n=>⟨o,PySem.W.hideAll_get _ z n⟩) fl.1 sl
 exact⟨e,.ref C,.ref t,H1,_,rfl,q,I.os,I.bare,un,apt I.hok I.aiv,fl,ib⟩
theorem aau{P:Program}{w:World}{K:PySem.W.Frag}{mg:Str->Option Value}{base:Heap}{N:List Str}{qual:Str}{scope:Scope}{f:Addr}{cd:Value}{A:Around}{outer:List Env}{s:Shared}{H:Hp}{E:XK} :
  Passes (CXF P w) (aln (CXF P w) P w K mg base N qual scope f cd A outer s H E) E:=by
 intro pins σ H1 s1 e s' I h
 obtain⟨ea,cls,a0,H2,B,rfl,q,os,bare,un,hok,fl,kb⟩:=h
 have hf:(envOfC qual scope s.heap.objs.size f cd).frame=some s.heap.objs.size:=by
  rcases I.ok.stk with z|z
  ·exact absurd (congrArg List.length z) (by show outer.length+1≠outer.length; omega)
  ·exact z.2
 refine wpAny_leaves_onW (base:=B) I.ok.frames hf fl λh'' fl' sl=>?_
 obtain⟨un',ib⟩:=Un.left (B:=B) I un fl.1 kb fl'.1 sl
 exact⟨ea,cls,a0,H2,B,rfl,q,os.trans I.os,bare,un',hok,fl',ib⟩
noncomputable def aqI(E:XK)(C:Addr)(te:TE):TS:=λ_ σ H=>te σ H λv H1=>[v].length=1/\E (.ref C) none H1
theorem agN{X:Cx}{E:XK}{x:Str}{C:Addr}{B newId initId:String}{bm:List Value}{np cpos pos:Pos}{e:Expr}{te:TE}(R:Raises X E)(O:OwnCls x C bm newId X.mg X.base)(FB:ExcBaseFacts B newId initId bm)(hc:X.calm=true)(ha:PE X e te)
  (hg:Gl X x:=by rfl) (hd:(x == ("__debug__" : Str))=false:=by decide) (hs:starEach [e] X.env=[(false,eval e X.env)]:=by rfl) :
  PS X (.Raise (some (.Call (.Name x np) [e] [] cpos)) none pos) (aqI E C te):=by
 refine⟨λpins s σ H D I h=>?_⟩
 obtain⟨tl,N,nm,q,bs,hdct,sn,sub,ab,col,dd,k0,k1,k2,k3,k5,mN,hC,hN,hni,T⟩:=O.obj
 refine wpAny_Raise_call_subT (C:=C) (nm:=nm) (q:=q) (N:=N) (bs:=bs) (bm:=tl) (hdct:=hdct) (sn:=sn) (sub:=sub) (ab:=ab) (col:=col) (dd:=dd) (k0:=k0) (k1:=k1) (k2:=k2) (k3:=k3) (k5:=k5)
  FB (mN:=mN) (T.hasType FB.hasBase) (I.ok.hd hc) (by rw[hs]; rfl) hni (akj I hg O.bound ⟨rfl,?_⟩ hd)
 have ga:PA X [e] (afN te aqF):=acG ha aai (by rw[hs]; rfl)
 have z:=ga cpos pins s σ H (λvs H1=>vs.length=1/\E (.ref C) none H1) I (by
  show te σ H λv H1=>_
  exact h)
 rw[hs]at z ⊢
 refine Calls.evalArgs_plain (wpAny_mono z (λus s₂ h₂=>?_) λ_ _ y=>y)
 obtain⟨vs,H2,I2,rv,hl,hE⟩:=h₂
 refine⟨rfl,?_,I2.bk _ _ hC,hN.keeps I2.bk,T.keeps I2.bk,λh' e' hm=>R pins σ H2 s₂ h' e' C us I2 hm hE⟩
 rw[<-rv.length,hl]
 decide
end L2
end
section
namespace L2
open PySem PySem.Spec PyProof.Rows
noncomputable def XP(X:Cx)(pins:List (Addr × Obj))(EX:St->XK)(e:Value)(s':Shared):Prop:=∃σ H s,Inv X pins σ H s/\CXF X.prog X.w X.stack H s (EX σ) e s'
noncomputable abbrev TX:=Ends->(St->XK)->St->Hp->Prop
noncomputable abbrev TEX:=(St->XK)->TE
section
variable {X:Cx}{k:Nat}{f:Addr}{fd:FuncData}{x:Str}{ps:List Str}{sp:Sp}{p pos:Pos}{e:Expr}{es:List Expr}{te:TEX}{t:TA}{st:Stmt}{rest:List Stmt}{a b:TX}
end
end L2
end
section
namespace L2
open PySem PySem.Spec PyProof.Rows
section
variable {X:Cx}{pins:List (Addr × Obj)}{σ : St}{H1 H2:Hp}{s0 s1:Shared}{B h6:Heap}{ea:Addr}{cls a0:Value}
end
end L2
end
section
namespace L2
open PySem PySem.Spec PyProof.Rows
section
variable {X:Cx}{pins:List (Addr × Obj)}{σ : St}{H:Hp}{s:Shared}{e:Value}
end
end L2
end
section
namespace L2
open PySem PySem.Spec PyProof.Rows PySem.W PySem.Builtin PySem.Builtin.ObjectAttr PySem.Builtin.Getset_descriptor
structure ao7(K:Frag)(C:Addr):Prop where
 ga:findIn K (.ref C) "__getattribute__" = some (some (.builtin "BaseException.__getattribute__"))
 gn:findIn K (.ref C) "__getattr__" = some none
 cl:findIn K (.ref C) "__class__" = some (some (.builtin "object.__class__"))
 ob:mroIn K C (.type "object")=some true
 be:mroIn K C (.type "BaseException")=some true
 is:(clsIn K C).isSome=true
section
variable {prog:Program}{w:World}{A:Around}{E:Value->Shared->Prop}{h:Heap}{g:Array GenState}{d:Drawn}{t:Nat}{os:OsState}{a C:Addr}{o:Obj}{K:Frag}
theorem arB{R:Result->Shared->Prop}(X:K.In h)(Z:ao7 K C)(hx:h.get? a=some o)(hc:o.cls=.ref C)(hq:R (.ok (.ret (.ref C))) ⟨h,g,d,t,os⟩) :
  codeAny (model prog w) A (.call (.builtin "getset_descriptor.__get__") ⟨[.builtin "object.__class__",.ref a,.ref C],[]⟩) R ⟨h,g,d,t,os⟩:=by
 have ty:Looks (model prog w) h (typeOf (.ref a)) (.ref C):=hc▸(Looks.ld hx).andThen .now
 have ms:=looks_mroIn (M:=model prog w) X Z.ob
 refine codeAny_call_builtin KF.slot_gs.plain KF.entry_gs (KF.slot_gs.check _ _ _ _ _ _ _ _ KF.type_class (KF.args_gs _ _ _) ?_)
 unfold Builtin.«getset_descriptor.__get__»
 unfold Builtin.Getset_descriptor.descrGet
 rw[dga_obj]
 refine wpAny_bind (wpAny_pure ?_)
 unfold Builtin.Getset_descriptor.descrGetter
 unfold Builtin.Getset_descriptor.descrCheckInstance
 unfold Builtin.Getset_descriptor.descrNameAndClass
 unfold isInstance
 simp only[KF.owner_class]
 repeat lk
 refine⟨Code.quiet_builtin _ (by decide +kernel),codeAny_builtin KF.entry_class ?_⟩
 unfold Builtin.«object.__class__»
 unfold shownTypeOf
 repeat lk
 all_goals first|exact hq|assumption
theorem anq{tk:Tok}{Q:Fin->Shared->Prop}(X:K.In h)(Z:ao7 K C)(hx:h.get? a=some o)(hc:o.cls=.ref C)(hq:Q (.done (.ret (.ref C))) ⟨h,g,d,t,os⟩) :
  wpAny (model prog w) A (Builtin.«object.__getattribute__» ⟨[.ref a,.str "__class__" tk],[]⟩) Q E ⟨h,g,d,t,os⟩:=by
 have hT5:(⟨h,g,d,t,os⟩:Shared).TypeIs (.builtin "object.__class__") "getset_descriptor" := KF.type_class
 have f6:=F.slot_gs_get.lookup
 have f7:=F.slot_gs_set.lookup
 have lc:=λA (Q:Option Value->Shared->Prop) E (q:Q (some (.builtin "object.__class__")) ⟨h,g,d,t,os⟩)=>looks_findIn (M:=model prog w) X Z.cl A Q E ⟨h,g,d,t,os⟩ (λ_ _ z=>z) q
 repeat(any_goals (first|assumption|(with_reducible refine wpAny_loadPart_at hx ?_; rw[hc])|with_reducible refine lc _ _ _ ?_|wp_step))
 refine arB X Z hx hc ?_
 repeat(any_goals (first|assumption|wp_step))
theorem anr{nameV:Value}{Q:Unit->Shared->Prop}(X:K.In h)(Z:ao7 K C)(hx:h.get? a=some o)(hc:o.cls=.ref C)(hq:Q () ⟨h,g,d,t,os⟩) :
  wpAny (model prog w) A (checkBuiltinCall "BaseException.__getattribute__" ⟨[.ref a,nameV],[]⟩) Q E ⟨h,g,d,t,os⟩:=by
 have b1:builtinKind "BaseException.__getattribute__" = some .slot:=by decide +kernel
 have b2:splitId "BaseException.__getattribute__" = some ("BaseException", "__getattribute__"):=by decide +kernel
 have ha:=F.args_bexc_ga (.ref a) nameV
 have lc:=λA (Q:Bool->Shared->Prop) E (q:Q true ⟨h,g,d,t,os⟩)=>looks_mroIn (M:=model prog w) X Z.be A Q E ⟨h,g,d,t,os⟩ (λ_ _ z=>z) q
 simp only[checkBuiltinCall,b1,b2]
 refine wpAny_bind ?_
 unfold isInstance
 repeat(first|(with_reducible refine wpAny_loadPart_at hx ?_; rw[hc])|with_reducible refine lc _ _ _ ?_|wp_step)
 exact hq
theorem apu{tk:Tok}{R:Result->Shared->Prop}(X:K.In h)(Z:ao7 K C)(hx:h.get? a=some o)(hc:o.cls=.ref C)(hq:R (.ok (.ret (.ref C))) ⟨h,g,d,t,os⟩) :
  codeAny (model prog w) A (.call (.builtin "BaseException.__getattribute__") ⟨[.ref a,.str "__class__" tk],[]⟩) R ⟨h,g,d,t,os⟩ :=
 codeAny_call_builtin PySem.F.attr_ValueError.ga.plain F.entry_bexc_ga (anr X Z hx hc (anq X Z hx hc hq))
theorem at7{tk:Tok}{Q:Value->Shared->Prop}(X:K.In h)(Z:ao7 K C)(hx:h.get? a=some o)(hc:o.cls=.ref C)(hq:Q (.ref C) ⟨h,g,d,t,os⟩) :
  wpAny (model prog w) A (getAttrBy (.ref a) (.str "__class__" tk) false) Q E ⟨h,g,d,t,os⟩:=by
 have f3:=PySem.F.attr_ValueError.ga.bind (.ref a)
 have hx2:(Value.builtin "BaseException.__getattribute__" == Value.builtin "object.__getattribute__")=false:=by decide +kernel
 have hx1:(onTheHeap (Value.ref C)&&Value.builtin "BaseException.__getattribute__" == Value.builtin "object.__getattribute__")=false:=by rw[hx2]; rfl
 have l1:=λA (Q:Option Value->Shared->Prop) E (q:Q (some (.builtin "BaseException.__getattribute__")) ⟨h,g,d,t,os⟩)=>looks_findIn (M:=model prog w) X Z.ga A Q E ⟨h,g,d,t,os⟩ (λ_ _ z=>z) q
 have l2:=λA (Q:Option Value->Shared->Prop) E (q:Q none ⟨h,g,d,t,os⟩)=>looks_findIn (M:=model prog w) X Z.gn A Q E ⟨h,g,d,t,os⟩ (λ_ _ z=>z) q
 repeat(any_goals (first|assumption|(with_reducible refine wpAny_loadPart_at hx ?_; rw[hc])|with_reducible refine l1 _ _ _ ?_|with_reducible refine l2 _ _ _ ?_|wp_step))
 refine apu X Z hx hc ?_
 repeat(any_goals (first|assumption|wp_step))
theorem apv{Q:Option Value->Shared->Prop}(X:K.In h)(Z:ao7 K C)(hx:h.get? a=some o)(hc:o.cls=.ref C)(hq:Q (some (.ref C)) ⟨h,g,d,t+1,os⟩) :
  wpAny (model prog w) A (getAttr? (.ref a) "__class__") Q E ⟨h,g,d,t,os⟩:=by
 unfold getAttr? getAttrBy?
 repeat(any_goals (first|assumption|with_reducible apply at7 X Z hx hc|wp_step))
theorem apw(Z:ao7 K C):KitX K (.ref a) (.ref C) (aw1 a C) where
 ty:=λ_ _ _ ⟨o,_,h1,h2,_⟩=>h2▸(Looks.ld h1).andThen .now
 it:=λ_ _ X _=>by
  obtain⟨cd,e⟩:=Option.isSome_iff_exists.mp Z.is
  unfold clsIn at e
  split at e
  ·rename_i ho
   intro A' Q' E' s' k q
   unfold isType loadHead
   exact wpAny_bind (wpAny_loadPart (k _ _ (X _ _ ho)) (wpAny_pure q))
  ·cases e
 ne:=λh tp dd its n sl X htp=>by
  obtain⟨cd,e⟩:=Option.isSome_iff_exists.mp Z.is
  refine Bool.eq_false_iff.mpr λq=>?_
  have q':C=tp:=Value.ref.inj (beq_iff_eq.mp q)
  subst q'
  unfold clsIn at e
  split at e
  ·rename_i ho
   have z:=(X _ _ ho).symm.trans htp
   cases z
  ·cases e
 ca:=λ{_ _ _ _ _ s} X p k=>by
  obtain⟨h,g,d,t,os⟩:=s
  obtain⟨o,_,h1,h2,_⟩:=p
  exact apv X Z h1 h2 k
end
section
variable {X:Cx}
end
end L2
end
section
namespace L2
open PySem
theorem ant(a b:Int):a=b*a.fdiv b+a.fmod b:=by
 have:=Int.mul_fdiv_add_fmod a b
 omega
theorem amj(a b:Int)(h:b≠0):(a.fmod b).natAbs<b.natAbs:=by
 have h1:=Int.emod_nonneg a h
 have h2:=Int.emod_lt a h
 rw[Int.fmod_eq_emod]
 split
 ·omega
 ·rename_i hn
  have hb:¬0<=b:=λz=>hn (.inl z)
  have hd:¬b∣a:=λz=>hn (.inr z)
  have h3:a%b≠0:=λz=>hd (Int.dvd_of_emod_eq_zero z)
  omega
theorem alu(a b:Int):Int.gcd b (a.fmod b)=Int.gcd a b:=by
 have e:=ant a b
 apply Nat.dvd_antisymm
 ·refine Int.dvd_gcd ?_ ?_
  ·have h1:(Int.gcd b (a.fmod b):Int)∣b:=Int.gcd_dvd_left ..
   have h2:(Int.gcd b (a.fmod b):Int)∣a.fmod b:=Int.gcd_dvd_right ..
   have h3:=Int.dvd_add (Int.dvd_mul_of_dvd_left (c:=a.fdiv b) h1) h2
   rw[<-e]at h3
   exact h3
  ·exact Int.gcd_dvd_left ..
 ·refine Int.dvd_gcd ?_ ?_
  ·exact Int.gcd_dvd_right ..
  ·have h1:(Int.gcd a b:Int)∣a:=Int.gcd_dvd_left ..
   have h2:(Int.gcd a b:Int)∣b:=Int.gcd_dvd_right ..
   have e2:a.fmod b=a-b*a.fdiv b:=by omega
   rw[e2]
   exact Int.dvd_sub h1 (Int.dvd_mul_of_dvd_left h2)
theorem arC(a:Int):(if a<0 then -a else a)=((Int.gcd a 0:Nat):Int):=by
 rw[Int.gcd_zero_right]
 split <;> omega
theorem aeE{a b:Int}(hb:0<b):0<((Int.gcd a b:Nat):Int)/\((Int.gcd a b:Nat):Int)<=b/\1<=b / (Int.gcd a b:Nat)/\Int.gcd (a / (Int.gcd a b:Nat)) (b / (Int.gcd a b:Nat))=1/\(0<=a->0<=a / (Int.gcd a b:Nat)) /\
  a=(a / (Int.gcd a b:Nat))*(Int.gcd a b:Nat)/\b=(b / (Int.gcd a b:Nat))*(Int.gcd a b:Nat):=by
 have hg:0<Int.gcd a b:=Int.gcd_pos_of_ne_zero_right a (by omega)
 have hgi:0<((Int.gcd a b:Nat):Int):=by omega
 have d1:(Int.gcd a b:Int)∣a:=Int.gcd_dvd_left ..
 have d2:(Int.gcd a b:Int)∣b:=Int.gcd_dvd_right ..
 have e1:=Int.ediv_mul_cancel d1
 have e2:=Int.ediv_mul_cancel d2
 refine⟨hgi,Int.le_of_dvd hb d2,?_,Int.gcd_ediv_gcd_ediv_gcd hg,λh=>Int.ediv_nonneg h (by omega),e1.symm,e2.symm⟩
 have:0<b / (Int.gcd a b:Nat):=Int.ediv_pos_of_pos_of_dvd hb (by omega) d2
 omega
end L2
end
section
namespace L2
open PySem PySem.Spec PyProof.Rows
section
variable {X:Cx}
end
theorem arD{p q p' q':Int}(h1:1<=q)(h2:1<=q')(g1:Int.gcd p q=1)(g2:Int.gcd p' q'=1)(e:p*q'=p'*q):p=p'/\q=q':=by
 have en:p.natAbs*q'.natAbs=p'.natAbs*q.natAbs:=by rw[<-Int.natAbs_mul,<-Int.natAbs_mul,e]
 have c1:Nat.Coprime q.natAbs p.natAbs:=by rw[Nat.coprime_comm]; exact g1
 have c2:Nat.Coprime q'.natAbs p'.natAbs:=by rw[Nat.coprime_comm]; exact g2
 have d1:q.natAbs∣q'.natAbs:=c1.dvd_of_dvd_mul_left ⟨p'.natAbs,by rw[en,Nat.mul_comm]⟩
 have d2:q'.natAbs∣q.natAbs:=c2.dvd_of_dvd_mul_left ⟨p.natAbs,by rw[<-en,Nat.mul_comm]⟩
 have ea:=Nat.dvd_antisymm d1 d2
 have eq:q=q':=by omega
 refine⟨?_,eq⟩
 rw[<-eq]at e
 exact Int.eq_of_mul_eq_mul_right (by omega) e
end L2
end
section
namespace L2
open PySem PySem.Spec PyProof.Rows PySem.W
theorem alv{K:Frag}{h:Heap}{mg:Str->Option Value}{x:Str}{C:Addr}{bmB:List Value}{newId:String}(X:K.In h)(G:h.Ns mainGlobals mg)(e:nsIn K mainGlobals x=some (some (.ref C)))(q:excIn K C bmB newId=true):OwnCls x C bmB newId mg h:=by
 constructor
 ·exact mg_of X G e
 unfold excIn at q
 split at q
 case h_2=>cases q
 rename_i dd cd sl lk
 split at q
 case h_2=>cases q
 rename_i c0 bm y0 y1 y2 y3 nid y5 hm hl
 rw[Bool.and_eq_true,Bool.and_eq_true,Bool.and_eq_true,Bool.and_eq_true,Bool.and_eq_true]at q
 obtain⟨⟨⟨⟨⟨q1,q2⟩,q3⟩,q4⟩,q5⟩,q6⟩:=q
 have r1:=beq_iff_eq.mp q1
 have r2:=beq_iff_eq.mp q2
 have r6:=beq_iff_eq.mp q6
 have r3:cd.hasDel=false:=by simpa using q3
 subst r1 r2
 have hsl:sl = #[y0,y1,y2,y3,some (.builtin nid),y5]:=by
  cases sl with
  |mk l=>exact congrArg Array.mk hl
 subst hsl
 cases cd with
 |mk nm bs mro ns qn hd sn sub ab col del =>
  dsimp only at hm r3 q5 r6
  subst hm r3
  exact⟨bm,ns,nm,qn,bs,hd,sn,sub,ab,col,dd,y0,y1,y2,y3,y5,_,X _ _ lk,.of_isNs (isNs_of_in X q5),nsMap_none_of_in X q5 r6,tail_of_in X q4⟩
section
variable {P:Program}{w:World}{K:Frag}{mg:Str->Option Value}{base:Heap}
theorem Fun.okX{x qual:Str}{st:Stmt}{f:Addr}{fd:FuncData}{N ps:List Str}{k:Nat}{sp:Sp}(F:Fun K x qual st f fd)(S:aaz N ps (aal st))(len:∀vs H Q E,sp vs H Q E->vs.length=ps.length)
  (hbody:∀(cdv:Value) (A:Around) (outer:List Env) (s:Shared) (H:Hp) (vs:List V) (Q:VK) (E:XK),agj k (A.deeper (envOfC qual (aal st) s.heap.objs.size f cdv))->sp vs H Q E ->
   ∃t,PSs (aln (CXF P w) P w K mg base N qual (aal st) f cdv A outer s H E) (ab4 st) t/\t {nx:=λ_ H'=>Q .non H',rt:=Q } (start N vs) H):amb P w K mg base (CXF P w) (k+1) f fd ps sp:=by
 obtain⟨oc,od,kV,doc,pm,an,cdv,ct,osl,rfl,lk,hcd⟩:=F.ex
 exact atL lk hcd S len λA outer s H vs Q E hr h=>hbody cdv A outer s H vs Q E hr h
noncomputable def DfX(P:Program)(w:World)(K:Frag)(mg:Str->Option Value)(base:Heap)(k:Nat)(x:Str)(ps:List Str)(sp:Sp):Prop :=
 ∃f fd,amb P w K mg base (CXF P w) k f fd ps sp/\Binds K fd ps []/\keepIn K (.ref f)=true/\mg x=some (.ref f)
theorem DfX.mono{j k:Nat}{x:Str}{ps:List Str}{sp:Sp}(D:DfX P w K mg base j x ps sp)(h:j<=k):DfX P w K mg base k x ps sp:=by
 obtain⟨f,fd,h1,h2⟩:=D
 exact⟨f,fd,h1.mono h,h2⟩
theorem At.dfx{k:Nat}{x:Str}{st:Stmt}{N ps:List Str}{sp:Sp}(a:At K mg x st)(S:aaz N ps (aal st))
  (hb:∀(kV doc pm:Value) (an:Option Addr) (cdv ct:Value) (us:List Value),us.length=ps.length->bindArgs (fnOf x x (adB st) (ab4 st) (aal st) .none kV doc pm an cdv ct) ⟨us,[]⟩=pure (ps.zip us))
  (len:∀vs H Q E,sp vs H Q E->vs.length=ps.length)
  (hbody:∀(f:Addr) (cdv:Value) (A:Around) (outer:List Env) (s:Shared) (H:Hp) (vs:List V) (Q:VK) (E:XK),agj k (A.deeper (envOfC x (aal st) s.heap.objs.size f cdv))->sp vs H Q E ->
   ∃t,PSs (aln (CXF P w) P w K mg base N x (aal st) f cdv A outer s H E) (ab4 st) t/\t {nx:=λ_ H'=>Q .non H',rt:=Q } (start N vs) H):DfX P w K mg base (k+1) x ps sp:=by
 obtain⟨f,fd,F,m⟩:=a
 exact⟨f,fd,F.okX S len λcdv A outer s H vs Q E hr h=>hbody f cdv A outer s H vs Q E hr h,F.binds hb,F.kp,m⟩
end
section
variable {X:Cx}{k:Nat}{x:Str}{ps:List Str}{sp:Sp}{p pos:Pos}{e:Expr}{es:List Expr}{t:TA}
theorem ab5{P:Program}{w:World}:Passes (CXF P w) X E0:=λ_ _ _ _ _ _ _ h=>by
 obtain⟨_,_,_,_,_,_,q,_⟩:=h
 exact q.elim
end
end L2
end
section
namespace L2
open PySem PySem.Spec PyProof.Rows
noncomputable def Itz(K:PySem.W.Frag)(l1 l2:Addr):It where
 go:=λi H=>∃xs ys x y,SqL K H l1 xs/\SqL K H l2 ys/\xs[i]?=some x/\ys[i]?=some y
 yld:=λi H v H'=>∃T x y,v=.ref T/\H T=none/\H'=upd H T (.tup [x,y])/\∀xs ys,SqL K H l1 xs->SqL K H l2 ys->xs[i]?=some x/\ys[i]?=some y
 stop:=λi H=>∃xs ys,SqL K H l1 xs/\SqL K H l2 ys/\i=min xs.length ys.length
noncomputable def aw6(l1 l2 z TI TO i1 i2:Addr)(i:Nat)(h:Heap):Prop:=IsZip h z TI TO .none/\IsPair h TI (.ref i1) (.ref i2)/\(∃a b,IsPair h TO a b)/\h.IsListIter i1 l1 i/\h.IsListIter i2 l2 i
section
variable {P:Program}{w:World}{K:PySem.W.Frag}
theorem Inv.aw7{X:Cx}{pins:List (Addr × Obj)}{σ : St}{H:Hp}{s:Shared}{h':Heap}{tk:Nat}{fp:List Addr}{T:Addr}{xs:List V}{its:List Value}(I:Inv X pins σ H s)(hf:∀b∈fp,afg X pins H b)(k:∀b o,b∉fp->s.heap.get? b=some o->h'.get? b=some o)
  (th:∀b∈fp,∃o,h'.get? b=some o) (hT:s.heap.objs.size<=T) (ht:IsTup h' T its.toArray) (rv:Vals xs its) (hz:xs.length<=sizeLine):Inv X pins σ (upd H T (.tup xs)) {s with heap:=h',toks:=tk }:=by
 have fT:H T=none:=I.hok.fresh hT
 have neT:∀b o,s.heap.get? b=some o->b≠T:=λb o e z=>by rw[z]at e; exact absurd (Heap.lt_size e) (Nat.not_lt.mpr hT)
 have neH:∀b o,H b=some o->b≠T:=λb o e z=>by rw[z,fT]at e; cases e
 refine I.step (g':=s.gens) (d':=s.drawn) (ch:=fp) (λb hb=>?_) (λb o _ _ hc e _=>k b o hc e) (λb o _ _ hc e _=>⟨o.slots,k b o hc e⟩) (λb o _ e n=>by rw[aaG (neT b o e)]; exact n) (λb o hc e=>⟨o,k b o hc e⟩)
  (λb ys e=>by rw[aaG (neH b _ e)]; exact e) (λb o u e=>by rw[aaG (neH b _ e)]; exact e) (λb ps e=>⟨#[],by rw[aaG (neH b _ e)]; simpa using e⟩) (λm hm=>?_) (λb u e=>?_) I.bare
 ·obtain⟨f0,f1,f2,f3,f4,f5⟩:=hf b hb
  exact⟨f3,f1,f4,f5⟩
 ·obtain⟨o,es,ep,ho,r⟩:=hm
  exact⟨o,es,ep,k _ o (λz=>(hf _ z).2.1 rfl) ho,r⟩
 ·by_cases z:b=T
  ·subst z
   rw[abj]at e
   cases e
   exact⟨hz,its,rv,ht⟩
  ·rw[aaG z]at e
   refine(I.hok b u e).stay (λc o hc q=>k c o (λzc=>?_) q) (λc q=>by rw[aaG (neH c _ q)]; exact q) λc ys q=>by rw[aaG (neH c _ q)]; exact q
   have:=(hf c zc).1
   rcases hc with rfl|hc
   ·rw[this]at e; cases e
   ·rw[this]at hc; cases hc
theorem Inv.arE{X:Cx}{pins:List (Addr × Obj)}{σ : St}{H:Hp}{s:Shared}{h':Heap}{tk:Nat}{fp:List Addr}(I:Inv X pins σ H s)(hf:∀b∈fp,afg X pins H b)(k:∀b o,b∉fp->s.heap.get? b=some o->h'.get? b=some o):Inv X pins σ H {s with heap:=h',toks:=tk }:=by
 refine I.step (g':=s.gens) (d':=s.drawn) (ch:=fp) (λb hb=>?_) (λb o _ _ hc e _=>k b o hc e) (λb o _ _ hc e _=>⟨o.slots,k b o hc e⟩) (λb o _ e n=>n) (λb o hc e=>⟨o,k b o hc e⟩)
  (λb ys e=>e) (λb o u e=>e) (λb ps e=>⟨#[],by simpa using e⟩) (λm hm=>?_) (λb u e=>?_) I.bare
 ·obtain⟨f0,f1,f2,f3,f4,f5⟩:=hf b hb
  exact⟨f3,f1,f4,f5⟩
 ·obtain⟨o,es,ep,ho,r⟩:=hm
  exact⟨o,es,ep,k _ o (λz=>(hf _ z).2.1 rfl) ho,r⟩
 ·refine(I.hok b u e).stay (λc o hc q=>k c o (λzc=>?_) q) (λc q=>q) λc ys q=>q
  have:=(hf c zc).1
  rcases hc with rfl|hc
  ·rw[this]at e; cases e
  ·rw[this]at hc; cases hc
theorem apx{elts:List Expr}{k:Nat}{pos:Pos}(l1 l2 z TI TO i1 i2:Addr)(D:ZipApart z TI TO i1 i2 l1 l2):Turn P w K (.Tuple elts k pos) (Itz K l1 l2) [z,TI,TO,i1,i2] z (aw6 l1 l2 z TI TO i1 i2) where
 mem:=by simp
 obj:=λi h st b hb=>by
  obtain⟨hz,hTI,⟨a,c,hTO⟩,⟨o1,e1,_,d1⟩,⟨o2,e2,_,d2⟩⟩:=st
  have hb':b=z\/b=TI\/b=TO\/b=i1\/b=i2:=by simpa using hb
  rcases hb' with rfl|rfl|rfl|rfl|rfl
  ·exact⟨_,hz,λv q=>nomatch q⟩
  ·exact⟨_,hTI,λv q=>nomatch q⟩
  ·exact⟨_,hTO,λv q=>nomatch q⟩
  ·exact⟨o1,e1,λv q=>by rw[d1]at q; cases q⟩
  ·exact⟨o2,e2,λv q=>by rw[d2]at q; cases q⟩
 keep:=λi h h' st kp=>by
  obtain⟨hz,hTI,⟨a,c,hTO⟩,h1,h2⟩:=st
  exact⟨kp z (by simp) _ hz,kp TI (by simp) _ hTI,⟨a,c,kp TO (by simp) _ hTO⟩,h1.at λo e=>kp i1 (by simp) o e,h2.at λo e=>kp i2 (by simp) o e⟩
 item:=by
  intro X hP hw hK hc i pins s σ H E I hf st hg
  subst hP hw hK
  obtain⟨xs,ys,x,y,q1,q2,hx,hy⟩:=hg
  obtain⟨arF,rv1,p1,_⟩:=I.list q1
  obtain⟨its2,rv2,p2,_⟩:=I.list q2
  obtain⟨u,hu,ru⟩:=rv1.get hx
  obtain⟨v,hv,rv⟩:=rv2.get hy
  have W:=WalksT.zip2 (prog:=X.prog) (w:=X.w) (A:=X.A) (I.ok.hd hc) z TI TO i1 i2 l1 l2 D arF.toArray its2.toArray
  have lt1:i<arF.length:=(List.getElem?_eq_some_iff.mp hu).1
  have lt2:i<its2.length:=(List.getElem?_eq_some_iff.mp hv).1
  refine W.item i s _ E (by simp; omega) ⟨st.1,st.2.1,st.2.2.1,st.2.2.2.1,st.2.2.2.2,p1.isList,p2.isList⟩ λT vals h' tk hp hT ht mid kk=>?_
  obtain⟨u',v',e1,e2,rfl⟩:=hp
  have eu:u'=u:=by
   have:arF[i]?=some u':=by simpa using e1
   rw[hu]at this; cases this; rfl
  have ev:v'=v:=by
   have:its2[i]?=some v':=by simpa using e2
   rw[hv]at this; cases this; rfl
  subst eu ev
  refine⟨.ref T,rfl,?_⟩
  refine W.go elts k pos i T _ _ E mid λh'' st' kk'=>?_
  have nT:=W.apart i T _ mid
  have ob:=(λb hb=>(by
   obtain⟨hz,hTI,⟨a,c,hTO⟩,⟨o1,e1,_,d1⟩,⟨o2,e2,_,d2⟩⟩:=st
   have hb':b=z\/b=TI\/b=TO\/b=i1\/b=i2:=by simpa using hb
   rcases hb' with rfl|rfl|rfl|rfl|rfl
   ·exact Heap.lt_size hz
   ·exact Heap.lt_size hTI
   ·exact Heap.lt_size hTO
   ·exact Heap.lt_size e1
   ·exact Heap.lt_size e2:b<s.heap.objs.size):∀b∈[z,TI,TO,i1,i2],b<s.heap.objs.size)
  have nTf:T∉[z,TI,TO,i1,i2]:=λm=>absurd (ob T m) (Nat.not_lt.mpr hT)
  have sub:∀b,b∉[z,TI,TO,i1,i2]->b∉[z,TO,i1,i2]:=λb n m=>n (by simp at m ⊢; rcases m with rfl|rfl|rfl|rfl <;> simp)
  have azA:IsTup h'' T #[u',v']:=by
   obtain⟨o,e,r⟩:=ht
   exact⟨o,kk' T o nT e,r⟩
  have th:∀b∈[z,TI,TO,i1,i2],∃o,h''.get? b=some o:=λb hb=>by
   obtain⟨hz,hTI,⟨a,c,hTO⟩,⟨o1,e1,_,d1⟩,⟨o2,e2,_,d2⟩,_⟩:=st'
   have hb':b=z\/b=TI\/b=TO\/b=i1\/b=i2:=by simpa using hb
   rcases hb' with rfl|rfl|rfl|rfl|rfl
   ·exact⟨_,hz⟩
   ·exact⟨_,hTI⟩
   ·exact⟨_,hTO⟩
   ·exact⟨_,e1⟩
   ·exact⟨_,e2⟩
  have I':Inv X pins σ (upd H T (.tup [x,y])) {s with heap:=h'',toks:=tk }:=I.aw7 (its:=[u',v']) hf (λb o n e=>kk' b o (sub b n) (kk b o (sub b n) e)) th hT azA (.cons ru (.cons rv .nil)) (by show 2<=sizeLine; decide)
  refine⟨.ref T,_,I',rfl,⟨T,x,y,rfl,I.hok.fresh hT,rfl,λxs' ys' a1 a2=>?_⟩,⟨st'.1,st'.2.1,st'.2.2.1,st'.2.2.2.1,st'.2.2.2.2.1⟩,λb hb=>?_⟩
  ·rw[I.agJ a1 q1,I.agJ a2 q2]
   exact⟨hx,hy⟩
  ·have nb:b≠T:=by
    intro e0
    rw[e0]at hb
    exact nTf hb
   rw[aaG nb]
   exact(hf b hb).1
 done:=by
  intro X hP hw hK hc i pins s σ H E I hf st hg
  subst hP hw hK
  obtain⟨xs,ys,q1,q2,e⟩:=hg
  obtain⟨arF,rv1,p1,_⟩:=I.list q1
  obtain⟨its2,rv2,p2,_⟩:=I.list q2
  have W:=WalksT.zip2 (prog:=X.prog) (w:=X.w) (A:=X.A) (I.ok.hd hc) z TI TO i1 i2 l1 l2 D arF.toArray its2.toArray
  have ei:i=min arF.toArray.size its2.toArray.size:=by simp[e,rv1.length,rv2.length]
  subst ei
  have sub:∀b,b∉[z,TI,TO,i1,i2]->b∉[z,TO,i1,i2]:=λb n m=>n (by simp at m ⊢; rcases m with rfl|rfl|rfl|rfl <;> simp)
  exact W.done s _ E ⟨st.1,st.2.1,st.2.2.1,st.2.2.2.1,st.2.2.2.2,p1.isList,p2.isList⟩ λh' tk kk=>⟨rfl,I.arE hf λb o n e=>kk b o (sub b n) e⟩
 self:=λA i s Q E st h=>wpAny_pyIter_zip st.1 h
end
section
variable {X:Cx}
noncomputable def ay5(K:PySem.W.Frag)(ta:TA):TI:=λσ H R=>ta σ H λvs H1=>∃l1 l2,vs=[.ref l1,.ref l2]/\(∃xs,SqL K H1 l1 xs)/\(∃ys,SqL K H1 l2 ys)/\R (Itz K l1 l2) H1
theorem at8{elts:List Expr}{k:Nat}{tpos:Pos}{a b:Expr}{ta:TA}{p pos:Pos}(hm:X.mg "zip" = none) (ha:PA X [a,b] ta) (hg:Gl X "zip" := by rfl) (hs:starEach [a,b] X.env=[(false,eval a X.env),(false,eval b X.env)]:=by rfl) (hs2:starEach [b] X.env=[(false,eval b X.env)]:=by rfl) :
  PI X (.Tuple elts k tpos) (.Call (.Name "zip" p) [a,b] [] pos) (ay5 X.K ta):=by
 intro pins s σ H R I h
 refine Call_ (afq I hg hm (show bootBuiltins "zip" = some (.type "zip") by decide +kernel) (PyProof.Rows.callWith_type1 (thn (ha pos pins s σ H _ I h) λus s1 ⟨vs,H1,I1,r1,q1⟩=>?_) (by rw[hs,hs2]) (by rw[hs2]; rfl)))
 obtain⟨l1,l2,e,⟨xs,h1⟩,⟨ys,h2⟩,q⟩:=q1
 subst e
 cases r1 with
 |cons r rr =>
  cases rr with
  |cons r' rr =>
   cases rr
   cases r
   cases r'
   obtain⟨arF,rv1,p1,_⟩:=I1.list h1
   obtain⟨its2,rv2,p2,_⟩:=I1.list h2
   obtain⟨o1,e1,_⟩:=p1.isList
   obtain⟨o2,e2,_⟩:=p2.isList
   refine call_zip_2 p1.isList p2.isList λh' hz hTI hTO hi1 hi2 hsz hk=>?_
   refine wpAny_pyIter_zip hz ?_
   refine⟨_,[_,_,_,_,_],_,_,H1,rfl,I1.kept (t':=s1.toks) hk,apx l1 l2 _ _ _ _ _ (PySem.W.ktu_apart _ _ _ (Heap.lt_size e1) (Heap.lt_size e2)),⟨hz,hTI,⟨_,_,hTO⟩,hi1,hi2⟩,λc hc=>?_,q⟩
   have hc':c=s1.heap.objs.size+4\/c=s1.heap.objs.size+2\/c=s1.heap.objs.size+3\/c=s1.heap.objs.size\/c=s1.heap.objs.size+1:=by simpa using hc
   have hge:s1.heap.objs.size<=c:=by rcases hc' with rfl|rfl|rfl|rfl|rfl <;> omega
   exact I1.ape hge (I1.hok.fresh hge)
end
end L2
end
section
namespace L2
open PySem
end L2
end
section
namespace L2
open PySem PySem.Spec PyProof.Rows
section
variable {X:Cx}{e:Expr}{te:TE}{th:TO}{pos p2:Pos}
end
end L2
end
section
namespace L2
open PySem PySem.Spec PyProof.Rows
section
variable {X:Cx}
noncomputable def akq(K:PySem.W.Frag):R2:=λx y H Q=>∃t ts p xs,Rep K H x t/\y=.ref p/\(SqL K H p xs\/SqT K H p xs)/\aa2 K H xs ts/\deps ts<=40/\dep t<=40/\Q (.bl (!apq t ts)) H
open Classical in
theorem ag6(hu:X.A.units+64<cLine):OpR X (compareOp .NotIn) (akq X.K):=by
 intro pins s σ H x y v u Q I rx ry h
 obtain⟨t,ts,p,xs,q1,rfl,hq,qs,hd,hd2,q⟩:=h
 cases ry
 have hu1:X.A.in1.units+40<cLine:=by
  have:=in1_units X.A
  omega
 -- what == tells of an item,by the item itself
 let e:Value->Bool:=λw'=>if h:∃z tz,z∈xs/\RelV z w'/\Rep X.K H z tz/\tz∈ts then eqT (Classical.choose (Classical.choose_spec h)) t else false
 have ee:∀z w' tz,z∈xs->RelV z w'->Rep X.K H z tz->tz∈ts->e w'=eqT tz t:=λz w' tz h1 h2 h3 h4=>by
  have hx:∃z tz,z∈xs/\RelV z w'/\Rep X.K H z tz/\tz∈ts:=⟨z,tz,h1,h2,h3,h4⟩
  show(if h:_ then _ else _)=_
  rw[dif_pos hx]
  have sp:=Classical.choose_spec (Classical.choose_spec hx)
  have key:∀z z' t1 t2,RelV z w'->RelV z' w'->dep t1<=99->Rep X.K H z t1->Rep X.K H z' t2->t1=t2:=λz z' t1 t2 a1 a2 d9 a3 a4=>by
   obtain rfl:=RelV.inj a1 a2
   exact Rep.inj I d9 a3 a4
  rw[key _ _ _ _ sp.2.1 h2 (by have:=aia sp.2.2.2; omega) sp.2.2.1 h3]
 have mem:∀{its:List Value},Vals xs its->∀w'∈its,SeqAt.EqAt X.A.in1 s w' v (e w'):=by
  intro its r w' hw
  obtain⟨j,hj,ej⟩:=List.mem_iff_getElem.mp hw
  have hjx:j<xs.length:=by rw[r.length]; exact hj
  obtain⟨u',h1,h2⟩:=r.get (List.getElem?_eq_getElem hjx)
  rw[List.getElem?_eq_getElem hj,ej]at h1
  cases h1
  obtain⟨tz,h3,h4⟩:=qs.get (List.getElem?_eq_getElem hjx)
  have hm:=List.mem_of_getElem? h3
  rw[ee _ _ tz (List.getElem_mem hjx) h2 h4 hm]
  exact(aiE I 40 X.A.in1 tz t _ x _ v hu1 (Nat.le_trans (aia hm) hd) (by have:=aia hm; omega) (by omega) h4 q1 h2 rx).2
 rcases hq with hq|hq
 ·obtain⟨its,r,pl,hz⟩:=I.list hq
  refine SeqAt.notIn_listAt e pl.isList (λw hw=>mem r w (by simpa using hw)) ⟨.bl _,H,I,rfl,?_⟩
  rw[show its.toArray.any e=its.any e by simp,afu (λz=>eqT z t) e r qs λz w' tz h1 h2 h3 h4=>ee z w' tz h1 h2 h3 h4]
  exact q
 ·obtain⟨its,r,pl,hz⟩:=I.tuple hq
  refine SeqAt.notIn_tupleAt e pl (λw hw=>mem r w (by simpa using hw)) ⟨.bl _,H,I,rfl,?_⟩
  rw[show its.toArray.any e=its.any e by simp,afu (λz=>eqT z t) e r qs λz w' tz h1 h2 h3 h4=>ee z w' tz h1 h2 h3 h4]
  exact q
end
section
variable {X:Cx}{tg:Expr}
end
end L2
end
section
namespace L2
open PySem PySem.Spec PyProof.Rows
section
variable {X:Cx}
end
end L2
end
section
namespace L2
open PySem PySem.Spec PyProof.Rows
inductive Rs(α : Type) where
 |bad|ex (c:Str)|ok (a : α)
noncomputable def Rs.bind{α β : Type}:Rs α -> (α -> Rs β)->Rs β
 |.bad,_=>.bad
 |.ex c,_=>.ex c
 |.ok a,f=>f a
noncomputable instance:Monad Rs where
 pure:=.ok
 bind:=Rs.bind
noncomputable def Rs.post{α : Type}(r:Rs α)(EX:Str->Prop)(P : α -> Prop):Prop:=match r with
 |.bad=>False
 |.ex c=>EX c
 |.ok a=>P a
theorem Rs.aaf{α β : Type}{r:Rs α}{f : α -> Rs β}{EX:Str->Prop}{P : β -> Prop}(h:(r.bind f).post EX P):r.post EX λa=>(f a).post EX P:=by
 cases r <;> exact h
theorem Rs.aam{α : Type}{r:Rs α}{EX:Str->Prop}{P P' : α -> Prop}(h:r.post EX P)(i:∀a,P a->P' a):r.post EX P':=by
 cases r with
 |bad=>exact h
 |ex c=>exact h
 |ok a=>exact i a h
open Classical in
noncomputable def aa7(W:Addr->Prop)(H:Hp):Hp:=λb=>if W b then none else H b
theorem aiH{W:Addr->Prop}{H:Hp}{b:Addr}(h:W b):aa7 W H b=none:=if_pos h
theorem aaZ{W:Addr->Prop}{H:Hp}{b:Addr}(h:¬W b):aa7 W H b=H b:=if_neg h
theorem abl{W:Addr->Prop}{H:Hp}{b:Addr}{o:HO}(h:aa7 W H b=some o):¬W b/\H b=some o:=by
 by_cases w:W b
 ·rw[aiH w]at h; cases h
 ·rw[aaZ w]at h; exact⟨w,h⟩
theorem abp(W:Addr->Prop)(H:Hp):Same (aa7 W H) H:=λ_ _ h=>(abl h).2
theorem acq{W W':Addr->Prop}{H H':Hp}(hw:∀b o,H b=some o->W' b->W b)(s:∀b o,¬W b->H b=some o->H' b=some o):Same (aa7 W H) (aa7 W' H'):=λb o h=>by
 obtain⟨n,e⟩:=abl h
 rw[aaZ λw=>n (hw b o e w)]
 exact s b o n e
theorem adi{W:Addr->Prop}{H:Hp}{a:Addr}{o:HO}(h:W a):aa7 W (upd H a o)=aa7 W H:=by
 funext b
 by_cases w:W b
 ·rw[aiH w,aiH w]
 ·rw[aaZ w,aaZ w]
  exact aaG λe=>w (e▸h)
inductive Sl where
 |un|sh (t:Tr)|ow (ts:List Tr)|rf (ts:List Tr)|dp (ts:List Tr)
noncomputable abbrev En:=List Sl
inductive Rv where
 |v (T:Tr) (fr:Bool)|s (i:Nat)
noncomputable abbrev EF:=En->Rs (Rv × En)
structure Tx where
 K:PySem.W.Frag
 Z:Addr->Prop
 R:Addr->Prop
 H0:Hp
 B:Hp
 EX:Str->Prop
noncomputable def Mu(ρ : En)(i:Nat):Prop:=∃ts,ρ[i]?=some (Sl.ow ts)\/ρ[i]?=some (Sl.rf ts)
noncomputable def aw8:Tr->Bool
 |.lst _=>true
 |_=>false
inductive DR(K:PySem.W.Frag)(G H:Hp):List V->List Tr->List Addr->Prop
 |nil:DR K G H [] [] []
 |cl {x:V} {u:Tr} {xs:List V} {ts:List Tr} {bs:List Addr} (n:aw8 u=false) (h:Rep K G x u) (r:DR K G H xs ts bs):DR K G H (x::xs) (u::ts) bs
 |rw {b:Addr} {ys:List V} {us:List Tr} {xs:List V} {ts:List Tr} {bs:List Addr} (h:H b=some (.lst ys)) (q:aa2 K G ys us) (r:DR K G H xs ts bs):DR K G H (.ref b::xs) (.lst us::ts) (b::bs)
noncomputable def aqJ(t:Tx)(W:Addr->Prop)(H:Hp)(a:Addr)(xs:List V)(ts:List Tr)(fp:List Addr):Prop :=
 ∃bs,fp=a::bs/\fp.Nodup/\(∀b∈fp,W b/\t.H0 b=none)/\H a=some (.lst xs)/\DR t.K (aa7 W H) H xs ts bs
theorem DR.move{K:PySem.W.Frag}{G G' H H':Hp}(m:Same G G'):∀{xs:List V} {ts:List Tr} {bs:List Addr},DR K G H xs ts bs->(∀b o,b∈bs->H b=some o->H' b=some o)->DR K G' H' xs ts bs
 |_,_,_,.nil,_=>.nil
 |_,_,_,.cl n h r,k=>.cl n (h.mono m) (DR.move m r k)
 |_,_,_,.rw h q r,k=>.rw (k _ _ (List.mem_cons_self ..) h) (q.mono m) (DR.move m r λb o hb=>k b o (List.mem_cons_of_mem _ hb))
theorem aqJ.move{t t':Tx}{W W':Addr->Prop}{H H':Hp}{a:Addr}{xs:List V}{ts:List Tr}{fp:List Addr}(d:aqJ t W H a xs ts fp)(hK:t'.K=t.K)(h0:t'.H0=t.H0)(m:Same (aa7 W H) (aa7 W' H'))(w:∀b∈fp,W' b)(k:∀b o,b∈fp->H b=some o->H' b=some o):aqJ t' W' H' a xs ts fp:=by
 obtain⟨bs,e,nd,ww,ha,r⟩:=d
 refine⟨bs,e,nd,λb hb=>⟨w b hb,by rw[h0]; exact(ww b hb).2⟩,k a _ (by rw[e]; exact List.mem_cons_self ..) ha,?_⟩
 rw[hK]
 exact r.move m λb o hb=>k b o (by rw[e]; exact List.mem_cons_of_mem _ hb)
noncomputable def Lt(H:Hp)(b:Addr):Prop:=(∃xs,H b=some (.lst xs))\/∃ps,H b=some (.tbl ps)
theorem Lt.ne{H:Hp}{b:Addr}(h:Lt H b):H b≠none:=by
 rcases h with⟨_,h⟩|⟨_,h⟩ <;> (rw[h]; intro z; cases z)
theorem Lt.grow{H H':Hp}{b:Addr}(h:Lt H b)(s:∀b o,H b=some o->H' b=some o):Lt H' b:=by
 rcases h with⟨_,h⟩|⟨_,h⟩
 ·exact .inl ⟨_,s _ _ h⟩
 ·exact .inr ⟨_,s _ _ h⟩
noncomputable def abu:List Str:=["falling_places", "order_of_bounds"]
noncomputable def Tb(K:PySem.W.Frag)(b:Addr):Prop:=∃x∈abu,∃c,PySem.W.tabIn K x=some (c,b)
noncomputable def aqK(o:Obj)(q:Str):Prop:=∃vs t,o.data=.fields vs/\vs[1]?=some (.str q t)
noncomputable def aiI(x:Str):Str:=x++(".<locals>." : Str)++("<lambda>" : Str)
noncomputable def awG(H:Hp)(q:Str)(ps:Array Value):Prop:=TriplesOk ps.toList/\∀pos v,codeAmong pos ps.toList=some v->∃c o,v=.ref c/\H c=some (.frz o (.own 0))/\aqK o q
noncomputable def TbS(K:PySem.W.Frag)(H:Hp):Prop:=∀x∈abu,∀c b,PySem.W.tabIn K x=some (c,b)->∃ps,H b=some (.tbl ps)/\awG H (aiI x) ps
theorem TbS.tbl{K:PySem.W.Frag}{H:Hp}(h:TbS K H){b:Addr}(t:Tb K b):∃ps,H b=some (.tbl ps):=by
 obtain⟨x,hx,c,e⟩:=t
 obtain⟨ps,q,_⟩:=h x hx c b e
 exact⟨ps,q⟩
theorem TbS.ne{K:PySem.W.Frag}{H:Hp}(h:TbS K H){a b:Addr}{xs:List V}(t:Tb K b)(e:H a=some (.lst xs)):b≠a:=λz=>by
 obtain⟨ps,q⟩:=h.tbl t
 rw[z,e]at q
 cases q
theorem TbS.fr{K:PySem.W.Frag}{H H':Hp}(h:TbS K H)(s:∀b o,(∀xs,o ≠ .lst xs)->H b=some o->H' b=some o):TbS K H':=λx hx c b e=>by
 obtain⟨ps,q,t1,t2⟩:=h x hx c b e
 refine⟨ps,s _ _ (λ_ z=>by cases z) q,t1,λpos v k=>?_⟩
 obtain⟨c,o,e1,e2,e3⟩:=t2 pos v k
 exact⟨c,o,e1,s _ _ (λ_ z=>by cases z) e2,e3⟩
theorem TbS.same{K:PySem.W.Frag}{H H':Hp}(h:TbS K H)(s:Same H H'):TbS K H':=h.fr λb o _=>s b o
theorem TbS.upd{K:PySem.W.Frag}{H:Hp}(h:TbS K H){a:Addr}{xs:List V}{o:HO}(e:H a=some (.lst xs)):TbS K (L2.upd H a o):=h.fr λb u n q=>by
 rw[aaG]
 ·exact q
 ·rintro rfl
  rw[e]at q
  cases q
  exact n _ rfl
structure anu(t:Tx)(W:Addr->Prop)(H:Hp):Prop where
 ok:TbS t.K H
 w:∀b,Tb t.K b->W b
 r:∀b,Tb t.K b->t.R b
 B:∀b,Tb t.K b->t.B b=none
theorem anu.same{t:Tx}{W:Addr->Prop}{H H':Hp}(f:anu t W H)(s:Same H H'):anu t W H':=⟨f.ok.same s,f.w,f.r,f.B⟩
theorem anu.wid{t:Tx}{W W':Addr->Prop}{H:Hp}(f:anu t W H)(h:∀b,W b->W' b):anu t W' H:=⟨f.ok,λb z=>h b (f.w b z),f.r,f.B⟩
theorem anu.cut{t:Tx}{W:Addr->Prop}{H:Hp}(f:anu t W H){D:Addr->Prop}(h:∀b,D b->∃xs,H b=some (.lst xs)):anu t (λb=>W b/\¬D b) H:=⟨f.ok,λb z=>⟨f.w b z,λd=>by
 obtain⟨xs,e⟩:=h b d
 exact f.ok.ne z e rfl⟩,f.r,f.B⟩
structure EOF(t:Tx)(W:Addr->Prop)(ρ : En)(σ : St)(H:Hp)(F:Nat->List Addr):Prop where
 len : ρ.length = σ.length
 zw:∀b,t.Z b->W b
 z0:∀b,t.Z b->t.H0 b≠none
 wl:∀b,W b->Lt H b
 f0:∀b o,t.H0 b=some o->¬t.R b->H b=some o
 n0:∀b,H b=none->t.H0 b=none
 sh:∀(i:Nat) (u:Tr),ρ[i]?=some (.sh u)->∃v,σ[i]?=some (some v)/\Rep t.K (aa7 W H) v u
 ow:∀(i:Nat) (ts:List Tr),ρ[i]?=some (Sl.ow ts)->∃a xs,σ[i]?=some (some (V.ref a))/\W a/\t.H0 a=none/\H a=some (.lst xs)/\aa2 t.K (aa7 W H) xs ts
 rf:∀(i:Nat) (ts:List Tr),ρ[i]?=some (Sl.rf ts)->∃a xs,σ[i]?=some (some (V.ref a))/\W a/\t.R a/\H a=some (.lst xs)/\aa2 t.K (aa7 W H) xs ts
 dis:∀(i j:Nat) (a:Addr),Mu ρ i->Mu ρ j -> σ[i]?=some (some (V.ref a)) -> σ[j]?=some (some (V.ref a))->i=j
 pn:∀b o,t.B b=some o->H b=some o
 pd:∀(i:Nat) (a:Addr),Mu ρ i -> σ[i]?=some (some (V.ref a))->t.B a=none
 dp:∀(i:Nat) (ts:List Tr),ρ[i]?=some (Sl.dp ts)->∃a xs,σ[i]?=some (some (V.ref a))/\aqJ t W H a xs ts (F i)
 dd:∀(i j:Nat) (ts us:List Tr),i≠j -> ρ[i]?=some (Sl.dp ts) -> ρ[j]?=some (Sl.dp us)->∀b∈F i,b∉F j
 dm:∀(i j:Nat) (ts:List Tr) (c:Addr),ρ[i]?=some (Sl.dp ts)->Mu ρ j -> σ[j]?=some (some (V.ref c))->c∉F i
 db:∀(i:Nat) (ts:List Tr),ρ[i]?=some (Sl.dp ts)->∀b∈F i,t.B b=none
 tab:anu t W H
noncomputable def EOk(t:Tx)(W:Addr->Prop)(ρ : En)(σ : St)(H:Hp):Prop:=∃F,EOF t W ρ σ H F
noncomputable def EOh(t:Tx)(W:Addr->Prop)(a:Addr)(ρ : En)(σ : St)(H:Hp):Prop:=∃F,EOF t (λb=>W b\/b=a) ρ σ H F/\∀(i:Nat) (ts:List Tr),ρ[i]?=some (Sl.dp ts)->a∉F i
theorem EOh.ok{t:Tx}{W:Addr->Prop}{a:Addr}{ρ : En}{σ : St}{H:Hp}(e:EOh t W a ρ σ H):EOk t (λb=>W b\/b=a) ρ σ H:=e.elim λF e=>⟨F,e.1⟩
section
variable {t:Tx}{W:Addr->Prop}{ρ : En}{σ : St}{H:Hp}
theorem EOk.len(e:EOk t W ρ σ H) : ρ.length = σ.length:=e.elim λ_ e=>e.len
theorem EOk.zw(e:EOk t W ρ σ H):∀b,t.Z b->W b:=e.elim λ_ e=>e.zw
theorem EOk.z0(e:EOk t W ρ σ H):∀b,t.Z b->t.H0 b≠none:=e.elim λ_ e=>e.z0
theorem EOk.wl(e:EOk t W ρ σ H):∀b,W b->Lt H b:=e.elim λ_ e=>e.wl
theorem EOk.tab(e:EOk t W ρ σ H):anu t W H:=e.elim λ_ e=>e.tab
theorem EOk.f0(e:EOk t W ρ σ H):∀b o,t.H0 b=some o->¬t.R b->H b=some o:=e.elim λ_ e=>e.f0
theorem EOk.n0(e:EOk t W ρ σ H):∀b,H b=none->t.H0 b=none:=e.elim λ_ e=>e.n0
theorem EOk.sh(e:EOk t W ρ σ H):∀(i:Nat) (u:Tr),ρ[i]?=some (.sh u)->∃v,σ[i]?=some (some v)/\Rep t.K (aa7 W H) v u:=e.elim λ_ e=>e.sh
theorem EOk.ow(e:EOk t W ρ σ H):∀(i:Nat) (ts:List Tr),ρ[i]?=some (Sl.ow ts)->∃a xs,σ[i]?=some (some (V.ref a))/\W a/\t.H0 a=none/\H a=some (.lst xs)/\aa2 t.K (aa7 W H) xs ts:=e.elim λ_ e=>e.ow
theorem EOk.rf(e:EOk t W ρ σ H):∀(i:Nat) (ts:List Tr),ρ[i]?=some (Sl.rf ts)->∃a xs,σ[i]?=some (some (V.ref a))/\W a/\t.R a/\H a=some (.lst xs)/\aa2 t.K (aa7 W H) xs ts:=e.elim λ_ e=>e.rf
theorem EOk.dis(e:EOk t W ρ σ H):∀(i j:Nat) (a:Addr),Mu ρ i->Mu ρ j -> σ[i]?=some (some (V.ref a)) -> σ[j]?=some (some (V.ref a))->i=j:=e.elim λ_ e=>e.dis
theorem EOk.pn(e:EOk t W ρ σ H):∀b o,t.B b=some o->H b=some o:=e.elim λ_ e=>e.pn
theorem EOk.pd(e:EOk t W ρ σ H):∀(i:Nat) (a:Addr),Mu ρ i -> σ[i]?=some (some (V.ref a))->t.B a=none:=e.elim λ_ e=>e.pd
end
structure Stp(W:Addr->Prop)(H H':Hp):Prop where
 keep:∀b o,¬W b->H b=some o->H' b=some o
 dom:∀b,H' b=none->H b=none
theorem Stp.refl(W:Addr->Prop)(H:Hp):Stp W H H:=⟨λ_ _ _ h=>h,λ_ h=>h⟩
theorem Stp.trans{W:Addr->Prop}{H H1 H2:Hp}(a:Stp W H H1)(b:Stp W H1 H2):Stp W H H2:=⟨λc o n h=>b.keep c o n (a.keep c o n h),λc h=>a.dom c (b.dom c h)⟩
theorem Stp.of{W:Addr->Prop}{H H':Hp}(s:Same H H'):Stp W H H':=⟨λb o _ h=>s b o h,λ_ h=>s.free h⟩
theorem Stp.off{W:Addr->Prop}{H H':Hp}(s:Stp W H H'):Same (aa7 W H) (aa7 W H'):=acq (λ_ _ _ h=>h) s.keep
theorem EOk.grow{t:Tx}{W:Addr->Prop}{ρ : En}{σ : St}{H H':Hp}(e:EOk t W ρ σ H)(s:Same H H'):EOk t W ρ σ H':=by
 have m:Same (aa7 W H) (aa7 W H'):=(Stp.of s).off
 obtain⟨F,e⟩:=e
 refine⟨F,e.len,e.zw,e.z0,λb w=>?_,λb o h n=>s b o (e.f0 b o h n),λb h=>e.n0 b (s.free h),λi u h=>?_,λi ts h=>?_,λi ts h=>?_,e.dis,λb o h=>s b o (e.pn b o h),e.pd,λi ts h=>?_,e.dd,e.dm,e.db,e.tab.same s⟩
 ·exact(e.wl b w).grow s
 ·obtain⟨v,h1,h2⟩:=e.sh i u h
  exact⟨v,h1,h2.mono m⟩
 ·obtain⟨a,xs,h1,h2,h3,h4,h5⟩:=e.ow i ts h
  exact⟨a,xs,h1,h2,h3,s _ _ h4,h5.mono m⟩
 ·obtain⟨a,xs,h1,h2,h3,h4,h5⟩:=e.rf i ts h
  exact⟨a,xs,h1,h2,h3,s _ _ h4,h5.mono m⟩
 ·obtain⟨a,xs,h1,d⟩:=e.dp i ts h
  exact⟨a,xs,h1,d.move rfl rfl m (λb hb=>by obtain⟨_,_,_,ww,_⟩:=d; exact(ww b hb).1) λb o _ q=>s b o q⟩
noncomputable def VOk(K:PySem.W.Frag)(W:Addr->Prop)(σ : St)(H H':Hp)(v:V):Rv->Prop
 |.v T false=>Rep K (aa7 W H') v T
 |.v T true=>∃a xs ts,v=.ref a/\T=.lst ts/\H a=none/\H' a=some (.lst xs)/\aa2 K (off a (aa7 W H')) xs ts
 |.s i=>σ[i]?=some (some v)
theorem akr(a:Addr)(H:Hp):Same (off a H) H:=λ_ _ h=>(aeW h).2
theorem VOk.step{K:PySem.W.Frag}{W:Addr->Prop}{σ : St}{H H' H'':Hp}{v:V}{r:Rv}(hw:∀b,W b->H b≠none)(h:VOk K W σ H H' v r)(s:Stp W H' H''):VOk K W σ H H'' v r:=by
 cases r with
 |s i=>exact h
 |v T fr =>
  cases fr with
  |false=>exact Rep.mono s.off h
  |true =>
   obtain⟨a,xs,ts,rfl,rfl,e1,e2,r⟩:=h
   refine⟨a,xs,ts,rfl,rfl,e1,s.keep a _ (λw=>hw a w e1) e2,r.mono λb o q=>?_⟩
   obtain⟨n,q⟩:=aeW q
   rw[off_ne n]
   exact s.off b o q
theorem VOk.back{K:PySem.W.Frag}{W:Addr->Prop}{σ : St}{G H H':Hp}{v:V}{r:Rv}(h:VOk K W σ H H' v r)(d:∀b,H b=none->G b=none):VOk K W σ G H' v r:=by
 cases r with
 |s i=>exact h
 |v T fr =>
  cases fr with
  |false=>exact h
  |true =>
   obtain⟨a,xs,ts,e0,e1,e2,r⟩:=h
   exact⟨a,xs,ts,e0,e1,d _ e2,r⟩
theorem VOk.rep{K:PySem.W.Frag}{W:Addr->Prop}{σ : St}{H H':Hp}{v:V}{T:Tr}{fr:Bool}(hw:∀b,W b->H b≠none)(h:VOk K W σ H H' v (.v T fr)):Rep K (aa7 W H') v T:=by
 cases fr with
 |false=>exact h
 |true =>
  obtain⟨a,xs,ts,rfl,rfl,e1,e2,r⟩:=h
  refine .lst (SqL.of ?_) (r.mono (akr _ _))
  rw[aaZ λw=>hw a w e1]
  exact e2
noncomputable def Rp(K:PySem.W.Frag)(W:Addr->Prop)(H:Hp)(v:V)(T:Tr):Prop :=
 Rep K (aa7 W H) v T\/∃a xs ts,v=.ref a/\T=.lst ts/\H a=some (.lst xs)/\aa2 K (aa7 W H) xs ts
theorem Rp.rep{K:PySem.W.Frag}{W:Addr->Prop}{H:Hp}{v:V}{T:Tr}(h:Rp K W H v T):Rep K H v T:=by
 rcases h with h|⟨a,xs,ts,rfl,rfl,e,r⟩
 ·exact h.mono (abp _ _)
 ·exact .lst (SqL.of e) (r.mono (abp _ _))
theorem Rp.lst{K:PySem.W.Frag}{W:Addr->Prop}{H:Hp}{v:V}{ts:List Tr}(h:Rp K W H v (.lst ts)):∃a xs,v=.ref a/\SqL K H a xs/\aa2 K (aa7 W H) xs ts:=by
 rcases h with h|⟨a,xs,us,rfl,e0,e,r⟩
 ·cases h with
  |lst h r=>exact⟨_,_,rfl,(abp _ _).seq h,r⟩
 ·cases e0
  exact⟨a,xs,rfl,SqL.of e,r⟩
theorem Rp.tup{K:PySem.W.Frag}{W:Addr->Prop}{H:Hp}{v:V}{ts:List Tr}(h:Rp K W H v (.tup ts)):∃a xs,v=.ref a/\SqT K H a xs/\aa2 K (aa7 W H) xs ts:=by
 rcases h with h|⟨a,xs,us,rfl,e0,e,r⟩
 ·cases h with
  |tup h r=>exact⟨_,_,rfl,(abp _ _).atc h,r⟩
 ·cases e0
theorem Rp.int{K:PySem.W.Frag}{W:Addr->Prop}{H:Hp}{v:V}{i:Int}(h:Rp K W H v (.int i)):v=.int i:=by
 cases h.rep; rfl
theorem Rp.bl{K:PySem.W.Frag}{W:Addr->Prop}{H:Hp}{v:V}{i:Bool}(h:Rp K W H v (.bl i)):v=.bl i:=by
 cases h.rep; rfl
theorem Rp.str{K:PySem.W.Frag}{W:Addr->Prop}{H:Hp}{v:V}{i:Str}(h:Rp K W H v (.str i)):v=.str i:=by
 cases h.rep; rfl
theorem Rp.non{K:PySem.W.Frag}{W:Addr->Prop}{H:Hp}{v:V}(h:Rp K W H v .non):v=.non:=by
 cases h.rep; rfl
noncomputable def dr(ρ : En):Rv->Rs Tr
 |.v T _=>.ok T
 |.s i=>match ρ[i]? with
  |some (Sl.ow ts)=>.ok (.lst ts)
  |some (Sl.rf ts)=>.ok (.lst ts)
  |_=>.bad
theorem afw{t:Tx}{W:Addr->Prop}{ρ : En}{σ : St}{H H':Hp}{v:V}{r:Rv}{T:Tr}(e:EOk t W ρ σ H')(hw:∀b,W b->H b≠none)(h:VOk t.K W σ H H' v r)(q:dr ρ r=.ok T):Rp t.K W H' v T:=by
 cases r with
 |v U fr =>
  cases q
  exact .inl (h.rep hw)
 |s i =>
  have h : σ[i]?=some (some v):=h
  dsimp only[dr]at q
  split at q
  ·rename_i ts e1
   cases q
   obtain⟨a,xs,h1,h2,h3,h4,h5⟩:=e.ow i ts e1
   rw[h]at h1
   cases h1
   exact .inr ⟨a,xs,ts,rfl,rfl,h4,h5⟩
  ·rename_i ts e1
   cases q
   obtain⟨a,xs,h1,h2,h3,h4,h5⟩:=e.rf i ts e1
   rw[h]at h1
   cases h1
   exact .inr ⟨a,xs,ts,rfl,rfl,h4,h5⟩
  ·cases q
theorem EOk.wn{t:Tx}{W:Addr->Prop}{ρ : En}{σ : St}{H:Hp}(e:EOk t W ρ σ H):∀b,W b->H b≠none:=λb w=>by
 exact(e.wl b w).ne
theorem EOk.hide{t:Tx}{W:Addr->Prop}{ρ : En}{σ : St}{H H':Hp}{a:Addr}{xs:List V}(e:EOk t W ρ σ H)(s:Same H H')(n:H a=none)(q:H' a=some (.lst xs)):EOh t W a ρ σ H':=by
 have m:Same (aa7 W H) (aa7 (λb=>W b\/b=a) H'):=λb o h=>by
  obtain⟨w,h⟩:=abl h
  rw[aaZ]
  ·exact s b o h
  ·rintro(z|rfl)
   ·exact w z
   ·rw[n]at h; cases h
 have na:∀b,W b->b≠a:=λb w z=>by subst z; exact e.wn b w n
 obtain⟨F,e⟩:=e
 refine⟨F,⟨e.len,λb z=>.inl (e.zw b z),e.z0,λb w=>?_,λb o h nr=>s b o (e.f0 b o h nr),λb h=>e.n0 b (s.free h),λi u h=>?_,λi ts h=>?_,λi ts h=>?_,e.dis,λb o h=>s b o (e.pn b o h),e.pd,λi ts h=>?_,e.dd,e.dm,e.db,(e.tab.same s).wid λb w=>.inl w⟩,λi ts h z=>?_⟩
 ·rcases w with w|rfl
  ·exact(e.wl b w).grow s
  ·exact .inl ⟨xs,q⟩
 ·obtain⟨v,h1,h2⟩:=e.sh i u h
  exact⟨v,h1,h2.mono m⟩
 ·obtain⟨c,ys,h1,h2,h3,h4,h5⟩:=e.ow i ts h
  exact⟨c,ys,h1,.inl h2,h3,s _ _ h4,h5.mono m⟩
 ·obtain⟨c,ys,h1,h2,h3,h4,h5⟩:=e.rf i ts h
  exact⟨c,ys,h1,.inl h2,h3,s _ _ h4,h5.mono m⟩
 ·obtain⟨c,ys,h1,d⟩:=e.dp i ts h
  exact⟨c,ys,h1,d.move rfl rfl m (λb hb=>by obtain⟨_,_,_,ww,_⟩:=d; exact .inl (ww b hb).1) λb o _ q=>s b o q⟩
 ·obtain⟨c,ys,h1,bs,_,_,ww,_⟩:=e.dp i ts h
  exact na a (ww a z).1 rfl
noncomputable def VOE(t:Tx)(W:Addr->Prop)(ρ : En)(σ : St)(H H':Hp)(v:V)(r:Rv):Prop:=VOk t.K W σ H H' v r/\∀T a,r=.v T true->v=.ref a->EOh t W a ρ σ H'
theorem VOE.of{t:Tx}{W:Addr->Prop}{ρ : En}{σ σ':St}{H H':Hp}{v:V}{T:Tr}{fr:Bool}(e:EOk t W ρ σ H)(s:Same H H')(h:VOk t.K W σ' H H' v (.v T fr)):VOE t W ρ σ H H' v (.v T fr):=by
 refine⟨by cases fr <;> exact h,λU a z ev=>?_⟩
 cases z
 obtain⟨b,xs,ts,rfl,_,n,q,_⟩:=h
 cases ev
 exact e.hide s n q
theorem VOE.low{t:Tx}{W:Addr->Prop}{ρ : En}{σ : St}{H H':Hp}{v:V}{T:Tr}(h:Rep t.K (aa7 W H') v T):VOE t W ρ σ H H' v (.v T false):=⟨h,λ_ _ z=>by cases z⟩
theorem VOE.back{t:Tx}{W:Addr->Prop}{ρ : En}{σ : St}{G H H':Hp}{v:V}{r:Rv}(h:VOE t W ρ σ H H' v r)(d:∀b,H b=none->G b=none):VOE t W ρ σ G H' v r:=⟨h.1.back d,h.2⟩
noncomputable def SE(t:Tx)(te:TE)(f:EF):Prop:=∀W ρ σ H Q,EOk t W ρ σ H->(f ρ).post t.EX (λp=>∀v H',EOk t W p.2 σ H'->Stp W H H'->VOE t W p.2 σ H H' v p.1->Q v H')->te σ H Q
noncomputable abbrev BF:=En->Rs (Bool × En)
noncomputable def ST(t:Tx)(te:TT)(f:BF):Prop:=∀W ρ σ H Q,EOk t W ρ σ H->(f ρ).post t.EX (λp=>∀H',EOk t W p.2 σ H'->Stp W H H'->Q p.1 H')->te σ H Q
noncomputable abbrev AF:=En->Rs (List Rv × En)
inductive ag7(K:PySem.W.Frag)(W:Addr->Prop)(σ : St)(H H':Hp):List V->List Rv->Prop
 |nil:ag7 K W σ H H' [] []
 |cons {v:V} {r:Rv} {vs:List V} {rs:List Rv} (h:VOk K W σ H H' v r) (q:ag7 K W σ H H' vs rs):ag7 K W σ H H' (v::vs) (r::rs)
noncomputable def SA(t:Tx)(te:TA)(f:AF):Prop:=∀W ρ σ H Q,EOk t W ρ σ H->(f ρ).post t.EX (λp=>∀vs H',EOk t W p.2 σ H'->Stp W H H'->ag7 t.K W σ H H' vs p.1->Q vs H')->te σ H Q
section
variable {t:Tx}
noncomputable def aah(i:Nat):EF:=λρ=>match ρ[i]? with
 |some (.sh T)=>.ok (.v T false,ρ)
 |some (.ow _)=>.ok (.s i,ρ)
 |some (.rf _)=>.ok (.s i,ρ)
 |_=>.bad
theorem aad(i:Nat):SE t (am6 i) (aah i):=λW ρ σ H Q e h=>by
 unfold aah at h
 split at h
 ·rename_i T q
  obtain⟨v,h1,h2⟩:=e.sh i T q
  exact⟨v,h1,h v H e (Stp.refl _ _) (.low h2)⟩
 ·rename_i ts q
  obtain⟨a,xs,h1,_⟩:=e.ow i ts q
  exact⟨_,h1,h _ H e (Stp.refl _ _) ⟨h1,λ_ _ z=>by cases z⟩⟩
 ·rename_i ts q
  obtain⟨a,xs,h1,_⟩:=e.rf i ts q
  exact⟨_,h1,h _ H e (Stp.refl _ _) ⟨h1,λ_ _ z=>by cases z⟩⟩
 ·exact h.elim
noncomputable def eC(T:Tr):EF:=λρ=>.ok (.v T false,ρ)
theorem awH{v:V}{T:Tr}(h:∀H,Rep t.K H v T):SE t (tC v) (eC T):=λW ρ σ H Q e q=>q v H e (Stp.refl _ _) (.low (h _))
theorem aao(i:Int):SE t (tC (.int i)) (eC (.int i)):=awH λ_=>.int i
theorem afQ(i:Bool):SE t (tC (.bl i)) (eC (.bl i)):=awH λ_=>.bl i
theorem aey(i:Str):SE t (tC (.str i)) (eC (.str i)):=awH λ_=>.str i
noncomputable abbrev G2:=Tr->Tr->Rs (Tr × Bool)
noncomputable def OpT(K:PySem.W.Frag)(r:R2)(g:G2):Prop:=∀W x y a b H Q,(∀b,W b->Lt H b)->Rp K W H x a->Rp K W H y b ->
 (g a b).post (λ_=>False) (λp=>∀v H',Same H H'->VOk K W [] H H' v (.v p.1 p.2)->Q v H')->r x y H Q
noncomputable def eOp(g:G2)(fa fb:EF):EF:=λρ=>(fa ρ).bind λp=>(fb p.2).bind λq=>(dr q.2 p.1).bind λa=>(dr q.2 q.1).bind λb=>(g a b).bind λz=>.ok (.v z.1 z.2,q.2)
theorem aki{α : Type}{r:Rs α}{EX:Str->Prop}{P : α -> Prop}(h:r.post EX P)(n:∀c,r ≠ .ex c):r.post (λ_=>False) P:=by
 cases r with
 |bad=>exact h
 |ex c=>exact(n c rfl).elim
 |ok a=>exact h
theorem adR(ρ : En)(r:Rv)(c:Str):dr ρ r ≠ .ex c:=by
 cases r with
 |v T fr=>intro z; cases z
 |s i =>
  dsimp only[dr]
  split <;> (intro z; cases z)
theorem afx{r:R2}{g:G2}{ta tb:TE}{fa fb:EF}(o:OpT t.K r g)(ng:∀a b c,g a b ≠ .ex c)(ha:SE t ta fa)(hb:SE t tb fb):SE t (tOp r ta tb) (eOp g fa fb):=λW ρ σ H Q e h=>by
 refine ha W ρ σ H _ e (Rs.aam (Rs.aaf h) λp h x H1 e1 s1 v1=>?_)
 refine hb W p.2 σ H1 _ e1 (Rs.aam (Rs.aaf h) λq h y H2 e2 s2 v2=>?_)
 have h:=Rs.aaf h
 cases k1:dr q.2 p.1 with
 |bad=>rw[k1]at h; exact h.elim
 |ex c=>exact(adR _ _ _ k1).elim
 |ok a =>
  rw[k1]at h
  have h:((dr q.2 q.1).bind _).post _ _:=h
  have h:=Rs.aaf h
  cases k2:dr q.2 q.1 with
  |bad=>rw[k2]at h; exact h.elim
  |ex c=>exact(adR _ _ _ k2).elim
  |ok b =>
   rw[k2]at h
   have h:((g a b).bind _).post _ _:=h
   have r1:=afw e2 e.wn (v1.1.step e.wn s2) k1
   have r2:=afw e2 e1.wn v2.1 k2
   refine o W x y a b H2 Q e2.wl r1 r2 (Rs.aam (aki (Rs.aaf h) (ng a b)) λz h v H3 s3 v3=>?_)
   have st:Stp W H H3:=(s1.trans s2).trans (Stp.of s3)
   exact h v H3 (e2.grow s3) st ((VOE.of e2 s3 v3).back λb q=>(s1.trans s2).dom b q)
inductive Atm:V->Tr->Prop
 |non:Atm .non .non
 |bl (b:Bool):Atm (.bl b) (.bl b)
 |int (b:Int):Atm (.int b) (.int b)
 |str (b:Str):Atm (.str b) (.str b)
theorem Atm.rep{K:PySem.W.Frag}{H:Hp}{v:V}{T:Tr}(h:Atm v T):Rep K H v T:=by
 cases h <;> constructor
end
end L2
end
section
namespace L2
open PySem PySem.Spec PyProof.Rows
section
variable {X:Cx}
noncomputable def aw9(K:PySem.W.Frag):R2:=λx y H Q=>∃t u,Rep K H x t/\Rep K H y u/\dep t<=40/\dep u<=40/\Q (.bl (!eqT t u)) H
theorem aib(hu:X.A.units+64<cLine):OpR X (compareOp .NotEq) (aw9 X.K):=by
 intro pins s σ H x y v u Q I vx vy h
 obtain⟨t,t',rx,ry,hd,du,q⟩:=h
 have hu0:X.A.units<cLine:=by omega
 have hu1:X.A.in1.units+40<cLine:=by
  have:=in1_units X.A
  omega
 have fin:SeqAt.RcNeAt X.A s v u (!eqT t t')->wpAny (model X.prog X.w) X.A (compareOp .NotEq v u) (EP X pins σ Q) X.xe s:=λh=>h _ _ _ _ ⟨.bl _,H,I,rfl,q⟩
 have items:∀{xs ys:List V} {ts us:List Tr} {its its2:List Value},Vals xs its->Vals ys its2->aa2 X.K H xs ts->aa2 X.K H ys us->deps ts<=40->deps us<=40->∀j (h1:j<its.toArray.size) (h2:j<its2.toArray.size),SeqAt.EqAt X.A.in1 s its.toArray[j] its2.toArray[j] (atE ts us j):=by
  intro xs ys ts us its its2 r1 r2 q1 q2 hde hu9 j h1 h2
  obtain⟨a,ea,ra⟩:=agL r1 h1
  obtain⟨b,eb,rb⟩:=agL r2 h2
  obtain⟨ta,eta,qa⟩:=q1.get ea
  obtain⟨tb,etb,qb⟩:=q2.get eb
  rw[alr eta etb]
  exact(aiE I 40 X.A.in1 ta tb a b _ _ hu1 (Nat.le_trans (aeC eta) hde) (by have:=aeC eta; omega) (by have:=aeC etb; omega) qa qb ra rb).2
 cases rx with
 |exn h m n=>unfold dep at hd; omega
 |non =>
  cases vx
  cases ry with
  |non=>cases vy; unfold eqT at fin; exact fin .none_none
  |bl b2=>cases vy; unfold eqT at fin; exact fin (.none_bool _)
  |int i2=>obtain⟨_,rfl⟩:=vy; unfold eqT at fin; exact fin (.none_int _ _)
  |str z2=>obtain⟨_,rfl⟩:=vy; unfold eqT at fin; exact fin (.none_str _ _)
  |tup h r=>cases vy; obtain⟨_,_,p,_⟩:=I.tuple h; unfold eqT at fin; exact fin (.none_tuple p hu0)
  |lst h r=>cases vy; obtain⟨_,_,p,_⟩:=I.list h; unfold eqT at fin; exact fin (.none_list p.isList hu0)
  |exn h m n=>unfold dep at du; omega
 |bl b =>
  cases vx
  cases ry with
  |non=>cases vy; unfold eqT at fin; exact fin (.bool_none _)
  |bl b2=>cases vy; unfold eqT at fin; exact fin (.bool_bool _ _)
  |int i2=>obtain⟨_,rfl⟩:=vy; unfold eqT at fin; exact fin (.bool_int _ _ _)
  |str z2=>obtain⟨_,rfl⟩:=vy; unfold eqT at fin; exact fin (.bool_str _ _ _)
  |tup h r=>cases vy; obtain⟨_,_,p,_⟩:=I.tuple h; unfold eqT at fin; exact fin (.bool_tuple _ p hu0)
  |lst h r=>cases vy; obtain⟨_,_,p,_⟩:=I.list h; unfold eqT at fin; exact fin (.bool_list _ p.isList hu0)
  |exn h m n=>unfold dep at du; omega
 |int i =>
  obtain⟨_,rfl⟩:=vx
  cases ry with
  |non=>cases vy; unfold eqT at fin; exact fin (.int_none _ _)
  |bl b2=>cases vy; unfold eqT at fin; exact fin (.int_bool _ _ _)
  |int i2=>obtain⟨_,rfl⟩:=vy; unfold eqT at fin; exact fin (.int_int _ _ _ _)
  |str z2=>obtain⟨_,rfl⟩:=vy; unfold eqT at fin; exact fin (.int_str _ _ _ _)
  |tup h r=>cases vy; obtain⟨_,_,p,_⟩:=I.tuple h; unfold eqT at fin; exact fin (.int_tuple _ _ p hu0)
  |lst h r=>cases vy; obtain⟨_,_,p,_⟩:=I.list h; unfold eqT at fin; exact fin (.int_list _ _ p.isList hu0)
  |exn h m n=>unfold dep at du; omega
 |str z =>
  obtain⟨_,rfl⟩:=vx
  cases ry with
  |non=>cases vy; unfold eqT at fin; exact fin (.str_none _ _)
  |bl b2=>cases vy; unfold eqT at fin; exact fin (.str_bool _ _ _)
  |int i2=>obtain⟨_,rfl⟩:=vy; unfold eqT at fin; exact fin (.str_int _ _ _ _)
  |str z2=>obtain⟨_,rfl⟩:=vy; unfold eqT at fin; exact fin (.str_str _ _ _ _)
  |tup h r=>cases vy; obtain⟨_,_,p,_⟩:=I.tuple h; unfold eqT at fin; exact fin (.str_tuple _ _ p hu0)
  |lst h r=>cases vy; obtain⟨_,_,p,_⟩:=I.list h; unfold eqT at fin; exact fin (.str_list _ _ p.isList hu0)
  |exn h m n=>unfold dep at du; omega
 | @tup a1 xs1 ts h1 r1 =>
  cases vx
  obtain⟨its,rv,p,_⟩:=I.tuple h1
  have hd':deps ts<=40:=by unfold dep at hd; omega
  cases ry with
  |non=>cases vy; unfold eqT at fin; exact fin (.tuple_none p hu0)
  |bl b2=>cases vy; unfold eqT at fin; exact fin (.tuple_bool _ p hu0)
  |int i2=>obtain⟨_,rfl⟩:=vy; unfold eqT at fin; exact fin (.tuple_int _ _ p hu0)
  |str z2=>obtain⟨_,rfl⟩:=vy; unfold eqT at fin; exact fin (.tuple_str _ _ p hu0)
  |lst h r=>cases vy; obtain⟨_,_,p2,_⟩:=I.list h; unfold eqT at fin; exact fin (.tuple_list p p2.isList hu0)
  |exn h m n=>unfold dep at du; omega
  | @tup a2 xs2 us h2 r2 =>
   cases vy
   obtain⟨its2,rv2,p2,_⟩:=I.tuple h2
   have R:=SeqAt.RcNeAt.tuples (A:=X.A) (e:=atE ts us) p p2 (by omega) λj k1 k2=>items rv rv2 r1 r2 hd' (by unfold dep at du; omega) j k1 k2
   have el:its.toArray.size=ts.length:=by simpa using(rv.length.symm.trans r1.length)
   have el2:its2.toArray.size=us.length:=by simpa using(rv2.length.symm.trans r2.length)
   rw[el,el2]at R
   have eb:((List.range (min ts.length us.length)).all (atE ts us)&&ts.length == us.length)=eqT (.tup ts) (.tup us):=by
    unfold eqT
    by_cases e:ts.length=us.length
    ·rw[e,Nat.min_self,<-e,ag3 e,beq_self_eq_true,Bool.and_true]
    ·rw[beq_false_of_ne e,Bool.and_false,aft e]
   rw[eb]at R
   exact fin R
 | @lst a1 xs1 ts h1 r1 =>
  cases vx
  obtain⟨its,rv,p,_⟩:=I.list h1
  have hd':deps ts<=40:=by unfold dep at hd; omega
  cases ry with
  |non=>cases vy; unfold eqT at fin; exact fin (.list_none p.isList hu0)
  |bl b2=>cases vy; unfold eqT at fin; exact fin (.list_bool _ p.isList hu0)
  |int i2=>obtain⟨_,rfl⟩:=vy; unfold eqT at fin; exact fin (.list_int _ _ p.isList hu0)
  |str z2=>obtain⟨_,rfl⟩:=vy; unfold eqT at fin; exact fin (.list_str _ _ p.isList hu0)
  |exn h m n=>unfold dep at du; omega
  |tup h r=>cases vy; obtain⟨_,_,p2,_⟩:=I.tuple h; unfold eqT at fin; exact fin (.list_tuple p.isList p2 hu0)
  | @lst a2 xs2 us h2 r2 =>
   cases vy
   obtain⟨its2,rv2,p2,_⟩:=I.list h2
   have el:its.toArray.size=ts.length:=by simpa using(rv.length.symm.trans r1.length)
   have el2:its2.toArray.size=us.length:=by simpa using(rv2.length.symm.trans r2.length)
   by_cases e:ts.length=us.length
   ·have R:=SeqAt.RcNeAt.lists (A:=X.A) (e:=atE ts us) p.isList p2.isList (by omega) (by omega) λj k1 k2=>items rv rv2 r1 r2 hd' (by unfold dep at du; omega) j k1 k2
    rw[el]at R
    rw[ag3 e]at R
    unfold eqT at fin
    exact fin R
   ·have R:=SeqAt.RcNeAt.lists_lengths (A:=X.A) p.isList p2.isList (by rw[el,el2]; simpa using e) (by omega)
    unfold eqT at fin
    rw[aft e]at fin
    exact fin R
end
open Classical in
noncomputable def noL(o:Obj):Obj:=if o.cls=.type "list" ∧ ¬(∃its n,o={cls:=.type "list",data:=.seq its n })then{cls:=.none,data:=.fields #[] }else o
noncomputable def nlK(K:PySem.W.Frag):PySem.W.Frag:=K.map λp=>(p.1,noL p.2)
theorem aby:∀(K:PySem.W.Frag) (a:Addr),(nlK K).lookup a=(K.lookup a).map noL
 | [],a=>rfl
 |(c,q)::r,a=>by
  show((c,noL q)::nlK r).lookup a=_
  rw[List.lookup_cons,List.lookup_cons]
  cases a == c with
  |true=>rfl
  |false=>exact aby r a
theorem arG{K:PySem.W.Frag}{a:Addr}{o:Obj}(h:(nlK K).lookup a=some o)(c:o.cls=.type "tuple"):K.lookup a=some o:=by
 rw[aby]at h
 cases e:K.lookup a with
 |none=>rw[e]at h; cases h
 |some q =>
  rw[e]at h
  have h:noL q=o:=Option.some.inj h
  unfold noL at h
  split at h
  ·subst h; cases c
  ·rw[h]
theorem arH{K:PySem.W.Frag}{a:Addr}{o:Obj}(h:(nlK K).lookup a=some o)(c:o.cls=.type "list"):K.lookup a=some o∧∃its n,o={cls:=.type "list",data:=.seq its n }:=by
 rw[aby]at h
 cases e:K.lookup a with
 |none=>rw[e]at h; cases h
 |some q =>
  rw[e]at h
  have h:noL q=o:=Option.some.inj h
  unfold noL at h
  split at h
  ·subst h; cases c
  ·rename_i n
   subst h
   refine⟨rfl,?_⟩
   by_cases z:∃its n,q={cls:=.type "list",data:=.seq its n }
   ·exact z
   ·exact(n ⟨c,z⟩).elim
theorem at9{K:PySem.W.Frag}{a:Addr}{o:Obj}(h:K.lookup a=some o)(c:o.cls=.type "tuple"):(nlK K).lookup a=some o:=by
 rw[aby,h]
 show some (noL o)=some o
 unfold noL
 rw[if_neg (by rintro⟨z,_⟩; rw[c]at z; injection z with z; exact absurd z (by decide))]
theorem SqT.toK{K:PySem.W.Frag}{H:Hp}{a:Addr}{xs:List V}(h:SqT (nlK K) H a xs):SqT K H a xs:=by
 rcases h with h|⟨o,its,n,e,c,r⟩
 ·exact .inl h
 ·exact .inr ⟨o,its,n,arG e c,c,r⟩
noncomputable def SqX(K:PySem.W.Frag)(H:Hp)(a:Addr)(xs:List V):Prop:=Rd H a (.lst xs)\/∃(its:Array Value) (n:Nat),K.lookup a=some {cls:=.type "list",data:=.seq its n }/\its.size<=sizeLine/\Vals xs its.toList
theorem SqL.rdX{K:PySem.W.Frag}{H:Hp}{a:Addr}{xs:List V}(h:SqL (nlK K) H a xs):SqX K H a xs:=by
 rcases h with h|⟨o,its,n,e,c,_,d,r⟩
 ·exact .inl h
 ·obtain⟨e2,its',n',rfl⟩:=arH e c
  have d:Data.seq its' n'=.seq its n:=d
  injection d with d1 d2
  subst d1 d2
  exact .inr ⟨its',n',e2,r⟩
theorem SqX.toK{K:PySem.W.Frag}{H:Hp}{a:Addr}{xs:List V}(h:SqX K H a xs):SqL K H a xs:=by
 rcases h with h|⟨its,n,e,r⟩
 ·exact .inl h
 ·exact .inr ⟨_,its,n,e,rfl,rfl,rfl,r⟩
theorem SqX.toN{K:PySem.W.Frag}{H:Hp}{a:Addr}{xs:List V}(h:SqX K H a xs):SqL (nlK K) H a xs:=by
 rcases h with h|⟨its,n,e,r⟩
 ·exact .inl h
 ·refine .inr ⟨{cls:=.type "list",data:=.seq its n },its,n,?_,rfl,rfl,rfl,r⟩
  rw[aby,e]
  show some (noL _)=_
  unfold noL
  rw[if_neg λz=>z.2 ⟨its,n,rfl⟩]
theorem SqL.toK{K:PySem.W.Frag}{H:Hp}{a:Addr}{xs:List V}(h:SqL (nlK K) H a xs):SqL K H a xs:=h.rdX.toK
theorem apy{K:PySem.W.Frag}{N:Addr}{c:Str}{v:Value}(h:PySem.W.nsIn (nlK K) N c=some (some v)):PySem.W.nsIn K N c=some (some v):=by
 unfold PySem.W.nsIn at h ⊢
 rw[aby]at h
 cases e:K.lookup N with
 |none=>rw[e]at h; cases h
 |some q =>
  rw[e]at h
  by_cases z:q.cls=.type "list" ∧ ¬(∃its n,q={cls:=.type "list",data:=.seq its n })
  ·have:noL q={cls:=.none,data:=.fields #[] }:=by unfold noL; rw[if_pos z]
   rw[show(some q).map noL=some (noL q)from rfl,this]at h
   cases h
  ·have:noL q=q:=by unfold noL; rw[if_neg z]
   rw[show(some q).map noL=some (noL q)from rfl,this]at h
   exact h
mutual
theorem Rep.toK{K:PySem.W.Frag}{H:Hp}:∀{v:V} {t:Tr},Rep (nlK K) H v t->Rep K H v t
 |_,_,.non=>.non
 |_,_,.bl b=>.bl b
 |_,_,.int i=>.int i
 |_,_,.str x=>.str x
 |_,_,.tup h r=>.tup h.toK (aa2.toK r)
 |_,_,.lst h r=>.lst h.toK (aa2.toK r)
 |_,_,.exn h m n=>.exn h m (apy n)
theorem aa2.toK{K:PySem.W.Frag}{H:Hp}:∀{v:List V} {t:List Tr},aa2 (nlK K) H v t->aa2 K H v t
 |_,_,.nil=>.nil
 |_,_,.cons h r=>.cons (Rep.toK h) (aa2.toK r)
end
section
variable {X:Cx}
theorem Inv.rdL{pins:List (Addr × Obj)}{σ : St}{H:Hp}{s:Shared}{l:Addr}{xs:List V}(I:Inv X pins σ H s)(hH:SqX X.K H l xs):xs.length<=sizeLine/\∃(its:List Value) (n:Nat),Vals xs its/\xs.length=its.length/\s.heap.get? l=some {cls:=.type "list",data:=.seq its.toArray n }:=by
 rcases hH with hH|⟨its,n,e,z,r⟩
 ·obtain⟨z,its,n,r,e⟩:=hH.ok I.hok
  exact⟨z,its,n,r,r.length,e⟩
 ·have l':xs.length=its.size:=r.length.trans Array.length_toList
  exact⟨by rw[l']; exact z,its.toList,n,r,r.length,I.kIn _ _ e⟩
noncomputable def aua(K:PySem.W.Frag):R2:=λx y H Q=>∃l b xs zs,x=.ref l/\y=.ref b/\SqX K H l xs/\SqX K H b zs/\xs.length+zs.length<=sizeLine/\∀p,H p=none->Q (.ref p) (upd H p (.lst (xs++zs)))
theorem arI:OpR X (binaryOp .Add) (aua X.K):=by
 intro pins s σ H x y v u Q I rx ry h
 obtain⟨l,b,xs,zs,rfl,rfl,hH,hB,hz,q⟩:=h
 cases rx
 cases ry
 obtain⟨z,its,n,r,hl,e⟩:=I.rdL hH
 obtain⟨z2,its2,n2,r2,hl2,e2⟩:=I.rdL hB
 refine PySem.P.add_list e e2 ?_ (by rw[List.size_toArray,List.size_toArray]; omega)
 have ea:its.toArray++its2.toArray=(its++its2).toArray:=by simp
 rw[ea]
 exact⟨.ref _,_,I.awC (t':=s.toks) (r.append r2) (by rw[List.length_append]; omega),rfl,q _ I.fresh⟩
end
end L2
end
section
namespace L2
open PySem PySem.Spec PyProof.Rows
noncomputable def aub(K:PySem.W.Frag):R2:=λx y H Q=>∃l k xs,x=.ref l/\y=.int k/\SqX K H l xs /\ -(2 ^ 63)<=k/\k<2 ^ 63/\xs.length*k.toNat<=sizeLine/\∀p,H p=none->Q (.ref p) (upd H p (.lst (List.replicate k.toNat xs).flatten))
theorem arJ{X:Cx}:OpR X (binaryOp .Mult) (aub X.K):=by
 intro pins s σ H x y v u Q I rx ry h
 obtain⟨l,k,xs,rfl,rfl,hH,h1,h2,hz,q⟩:=h
 cases rx
 obtain⟨t,rfl⟩:=ry
 obtain⟨z,its,n,r,hl,e⟩:=I.rdL hH
 have hlen:its.toArray.size*k.toNat<=sizeLine:=by rw[List.size_toArray,<-hl]; exact hz
 have hcap:¬its.toArray.size*k.toNat > (2 ^ 63-1) / 8:=by
  have:(sizeLine:Nat)<=(2 ^ 63-1) / 8:=by decide
  omega
 have hfit:¬(!Builtin.List.listFitsIndex k)=true:=by
  rw[fitsIndex_both h1 h2]
  exact Bool.false_ne_true
 have axa:¬Builtin.List.listTooLong (its.toArray.size*k.toNat)=true:=by
  rw[apn hlen]
  exact Bool.false_ne_true
 have hnew:List.foldl (λx1 x2=>x1++x2) #[] (List.replicate (if its.toArray.isEmpty=true then 0 else k.toNat) its.toArray)=(List.replicate k.toNat its).flatten.toArray:=by
  have f0:∀m:Nat,List.foldl (λx1 x2=>x1++x2) #[] (List.replicate m its.toArray)=(List.replicate m its).flatten.toArray:=λm=>by
   have:=foldl_rep its m []
   rw[List.nil_append]at this
   exact this
  rw[f0]
  cases its with
  |nil=>simp
  |cons a r'=>rw[if_neg (by simp)]
 refine wpAny_binaryOp_repeat_ref (T := "list") (U := "int") (by decide) ⟨_,e,rfl⟩ (λs'=>typeIs_int s' k t) noFill_list_mul F.fills_int_mul F.slot_int_rmul repeat_list F.slot_int_index.lookup
  (call_meets F.slot_int_rmul (typeIs_int s k t) F.entry_int_rmul (F.args_int_rmul_2 _ _) (int___rmul___int_list k t l its.toArray n)
   ⟨e,rfl,⟨_,e,rfl⟩,call_meets F.slot_list_mul ⟨_,e,rfl⟩ F.entry_list_mul (F.args_list_mul_2 _ _) (AutoListH.list___mul___list_int_3 l its.toArray n k t hfit hcap axa) ⟨e,?_⟩⟩)
 rw[hnew]
 exact⟨.ref _,_,I.awC (t':=s.toks) (r.rep k.toNat) (by rw[len_rep,Nat.mul_comm]; exact hz),rfl,q _ I.fresh⟩
end L2
end
section
namespace L2
open PySem PySem.Spec PyProof.Rows
section
variable {K:PySem.W.Frag}{W:Addr->Prop}{σ : St}{H:Hp}{p:Addr}{xs:List V}{ts:List Tr}
theorem aiJ{o:HO}(hp:H p=none):Same (aa7 W H) (off p (aa7 W (upd H p o))):=λb u q=>by
 obtain⟨n,e⟩:=abl q
 have ne:b≠p:=aaW e hp
 rw[off_ne ne,aaZ n,aaG ne]
 exact e
theorem VOk.new(hp:H p=none)(r:aa2 K (aa7 W H) xs ts):VOk K W σ H (upd H p (.lst xs)) (.ref p) (.v (.lst ts) true) :=
 ⟨p,xs,ts,rfl,rfl,hp,abj,r.mono (aiJ hp)⟩
theorem VOk.newT(hw:∀b,W b->Lt H b)(hp:H p=none)(r:aa2 K (aa7 W H) xs ts):VOk K W σ H (upd H p (.tup xs)) (.ref p) (.v (.tup ts) false):=by
 have nw:¬W p:=λw=>by
  exact(hw p w).ne hp
 refine .tup (SqT.of ?_) (r.mono λb u q=>(aeW (aiJ (o:=.tup xs) hp b u q)).2)
 rw[aaZ nw]
 exact abj
theorem VOk.atm{H':Hp}{v:V}{T:Tr}(h:Atm v T):VOk K W σ H H' v (.v T false):=h.rep
theorem aa2.apz{H:Hp}:∀{v:List V} {t:List Tr} {i:Nat} {u:Tr},aa2 K H v t->t[i]?=some u->∃x,v[i]?=some x/\Rep K H x u
 |_,_,_,_,.nil,e=>by simp at e
 |_,_,0,_,.cons h _,e=>by
  simp at e
  subst e
  exact⟨_,rfl,h⟩
 |_,_,i+1,x,.cons _ r,e=>by
  obtain⟨u,h1,h2⟩:=aa2.apz (i:=i) (u:=x) r (by simpa using e)
  exact⟨u,by simpa using h1,h2⟩
theorem aa2.atI(r:aa2 K H xs ts){i:Int}{t:Tr}(h:atI ts i=some t):∃x,L2.atI xs i=some x/\Rep K H x t:=by
 unfold L2.atI at h ⊢
 rw[r.length]
 cases e:ixN ts.length i with
 |none=>rw[e]at h; cases h
 |some j =>
  rw[e]at h
  exact r.apz h
theorem Rp.azB{v:V}(h:Rp K W H v (.tup ts)):Rep K (aa7 W H) v (.tup ts):=by
 rcases h with h|⟨a,xs,us,rfl,e0,e,r⟩
 ·exact h
 ·cases e0
theorem big{n:Nat}(h:n<=100000):n<=sizeLine:=Nat.le_trans h (by decide)
end
section
variable {K:PySem.W.Frag}
noncomputable def gI(p:Int->Int->Int):G2
 |.int i,.int j=>.ok (.int (p i j),false)
 |_,_=>.bad
theorem azC{p:Int->Int->Int}:OpT K (rI0 λi j=>.int (p i j)) (gI p):=λW x y a b H Q hw rx ry h=>by
 cases a <;> try exact h.elim
 cases b <;> try exact h.elim
 rw[rx.int,ry.int]
 exact⟨_,_,rfl,rfl,h _ H (Same.refl _) (.atm (.int _))⟩
noncomputable def gIC(c:Int->Int->Bool)(p:Int->Int->Int):G2
 |.int i,.int j=>if c i j=true then .ok (.int (p i j),false)else .bad
 |_,_=>.bad
theorem arK{C:Int->Int->Prop}{c:Int->Int->Bool}{p:Int->Int->Int}(hc:∀i j,c i j=true->C i j):OpT K (rI C λi j=>.int (p i j)) (gIC c p):=λW x y a b H Q hw rx ry h=>by
 cases a <;> try exact h.elim
 cases b <;> try exact h.elim
 rw[rx.int,ry.int]
 dsimp only[gIC]at h
 split at h
 ·rename_i e
  exact⟨_,_,rfl,rfl,hc _ _ e,h _ H (Same.refl _) (.atm (.int _))⟩
 ·exact h.elim
noncomputable def gB(p:Int->Int->Bool):G2
 |.int i,.int j=>.ok (.bl (p i j),false)
 |_,_=>.bad
theorem axb{p:Int->Int->Bool}:OpT K (rI0 λi j=>.bl (p i j)) (gB p):=λW x y a b H Q hw rx ry h=>by
 cases a <;> try exact h.elim
 cases b <;> try exact h.elim
 rw[rx.int,ry.int]
 exact⟨_,_,rfl,rfl,h _ H (Same.refl _) (.atm (.bl _))⟩
noncomputable def gEq:G2:=λt u=>if dep t<=40/\dep u<=40 then .ok (.bl (eqT t u),false)else .bad
theorem axc:OpT (nlK K) (aw2 K) gEq:=λW x y a b H Q hw rx ry h=>by
 unfold gEq at h
 split at h
 ·rename_i e
  exact⟨a,b,rx.rep.toK,ry.rep.toK,e.1,e.2,h _ H (Same.refl _) (.atm (.bl _))⟩
 ·exact h.elim
noncomputable def gNe:G2:=λt u=>if dep t<=40/\dep u<=40 then .ok (.bl (!eqT t u),false)else .bad
theorem axd:OpT (nlK K) (aw9 K) gNe:=λW x y a b H Q hw rx ry h=>by
 unfold gNe at h
 split at h
 ·rename_i e
  exact⟨a,b,rx.rep.toK,ry.rep.toK,e.1,e.2,h _ H (Same.refl _) (.atm (.bl _))⟩
 ·exact h.elim
noncomputable def gIn(f:Bool->Bool):G2:=λt u=>match u with
 |.lst us=>if deps us<=40/\dep t<=40 then .ok (.bl (f (apq t us)),false)else .bad
 |.tup us=>if deps us<=40/\dep t<=40 then .ok (.bl (f (apq t us)),false)else .bad
 |_=>.bad
theorem axe:OpT (nlK K) (aw3 K) (gIn id):=λW x y a b H Q hw rx ry h=>by
 cases b <;> try exact h.elim
 ·rename_i us
  dsimp only[gIn]at h
  split at h
  ·rename_i e
   obtain⟨p,xs,rfl,q,r⟩:=ry.tup
   exact⟨a,us,p,xs,rx.rep.toK,rfl,.inr q.toK,(r.mono (abp _ _)).toK,e.1,e.2,h _ H (Same.refl _) (.atm (.bl _))⟩
  ·exact h.elim
 ·rename_i us
  dsimp only[gIn]at h
  split at h
  ·rename_i e
   obtain⟨p,xs,rfl,q,r⟩:=ry.lst
   exact⟨a,us,p,xs,rx.rep.toK,rfl,.inl q.toK,(r.mono (abp _ _)).toK,e.1,e.2,h _ H (Same.refl _) (.atm (.bl _))⟩
  ·exact h.elim
theorem apA:OpT (nlK K) (akq K) (gIn not):=λW x y a b H Q hw rx ry h=>by
 cases b <;> try exact h.elim
 ·rename_i us
  dsimp only[gIn]at h
  split at h
  ·rename_i e
   obtain⟨p,xs,rfl,q,r⟩:=ry.tup
   exact⟨a,us,p,xs,rx.rep.toK,rfl,.inr q.toK,(r.mono (abp _ _)).toK,e.1,e.2,h _ H (Same.refl _) (.atm (.bl _))⟩
  ·exact h.elim
 ·rename_i us
  dsimp only[gIn]at h
  split at h
  ·rename_i e
   obtain⟨p,xs,rfl,q,r⟩:=ry.lst
   exact⟨a,us,p,xs,rx.rep.toK,rfl,.inl q.toK,(r.mono (abp _ _)).toK,e.1,e.2,h _ H (Same.refl _) (.atm (.bl _))⟩
  ·exact h.elim
noncomputable def arL(K:PySem.W.Frag):R2:=λx y H Q=>(rI0 λi j=>.int (i+j)) x y H Q\/aua K x y H Q\/(∃i j,x=.str i/\y=.str j/\i.length+j.length<=sizeLine/\Q (.str (i++j)) H)\/atQ K x y H Q
theorem abq{X:Cx}:OpR X (binaryOp .Add) (arL X.K):=OpR.or aqE (OpR.or arI (OpR.or ama arq))
noncomputable def abf:G2
 |.int i,.int j=>.ok (.int (i+j),false)
 |.lst a,.lst b=>if a.length+b.length<=100000 then .ok (.lst (a++b),true)else .bad
 |.str a,.str b=>if a.length+b.length<=100000 then .ok (.str (a++b),false)else .bad
 |.tup a,.tup b=>if 0<a.length/\a.length+b.length<=100000 then .ok (.tup (a++b),false)else .bad
 |_,_=>.bad
theorem auc:OpT (nlK K) (arL K) abf:=λW x y a b H Q hw rx ry h=>by
 cases a <;> cases b <;> try exact h.elim
 ·rw[rx.int,ry.int]
  exact .inl ⟨_,_,rfl,rfl,h _ H (Same.refl _) (.atm (.int _))⟩
 ·rename_i i j
  rw[rx.str,ry.str]
  dsimp only[abf]at h
  split at h
  ·rename_i e
   exact .inr (.inr (.inl ⟨i,j,rfl,rfl,big e,h _ H (Same.refl _) (.atm (.str _))⟩))
  ·exact h.elim
 ·rename_i us ws
  dsimp only[abf]at h
  split at h
  ·rename_i e
   have rt:=rx.azB
   obtain⟨p,xs,rfl,q,r⟩:=rx.tup
   obtain⟨p',ys,rfl,q',r'⟩:=ry.tup
   have l1:=r.length
   have l2:=r'.length
   refine .inr (.inr (.inr ⟨p,p',xs,ys,rfl,rfl,q.toK,q'.toK,?_,by rw[l1,l2]; exact big e.2,λz=>h _ H (Same.refl _) ?_,λ_ z hz=>h _ _ (aaQ hz _) (.newT hw hz (r.app r'))⟩))
   ·rintro rfl
    have e1:=e.1
    rw[<-l1]at e1
    cases e1
   ·subst z
    cases r'
    rw[List.append_nil]
    exact rt
  ·exact h.elim
 ·rename_i us ws
  dsimp only[abf]at h
  split at h
  ·rename_i e
   obtain⟨p,xs,rfl,q,r⟩:=rx.lst
   obtain⟨p',ys,rfl,q',r'⟩:=ry.lst
   refine .inr (.inl ⟨p,p',xs,ys,rfl,rfl,q.rdX,q'.rdX,by rw[r.length,r'.length]; exact big e,λz hz=>h _ _ (aaQ hz _) (.new hz (r.app r'))⟩)
  ·exact h.elim
end
end L2
end
section
namespace L2
open PySem PySem.Spec PyProof.Rows
noncomputable def fit(i:Int):Bool:=decide (i.natAbs.log2<1048575)
theorem alw{i:Int}(h:fit i=true):Builtin.Int.intBits i<=2 ^ 20:=by
 have h:=of_decide_eq_true h
 unfold Builtin.Int.intBits
 have e:(2:Nat) ^ 20=1048576:=by decide
 split
 ·decide
 ·omega
noncomputable def tiny(i:Int):Bool:=decide (-18446744073709551616<i)&&decide (i<18446744073709551616)
noncomputable def agw(i j:Int):Bool:=(fit i&&fit j) || tiny i || tiny j
noncomputable def apB(i j:Int):Prop:=agw i j=true
theorem apB.ok{i j:Int}(h:apB i j):IntMulOk i j:=by
 unfold apB agw at h
 rw[Bool.or_eq_true,Bool.or_eq_true,Bool.and_eq_true]at h
 have e:(2:Int) ^ 64=18446744073709551616:=by decide
 have tn:∀{k:Int},tiny k=true -> -(2 ^ 64)<k/\k<2 ^ 64:=λ{k} h=>by
  unfold tiny at h
  rw[Bool.and_eq_true]at h
  have h1:=of_decide_eq_true h.1
  have h2:=of_decide_eq_true h.2
  omega
 rcases h with(⟨h1,h2⟩|h)|h
 ·exact .of_bits (alw h1) (alw h2)
 ·exact .of_left (intBits_le_64 (tn h).1 (tn h).2)
 ·exact .of_right (intBits_le_64 (tn h).1 (tn h).2)
noncomputable def arM(K:PySem.W.Frag):R2:=λx y H Q=>(rI apB λi j=>.int (i*j)) x y H Q\/aub K x y H Q
theorem aci{X:Cx}:OpR X (binaryOp .Mult) (arM X.K):=OpR.or (opI λ_ _ _ _ _ _ _ hc q=>mul_int q hc.ok) arJ
noncomputable def ab2:G2
 |.int i,.int j=>if agw i j=true then .ok (.int (i*j),false)else .bad
 |.lst a,.int k=>if(-1000<=k/\k<=1000)/\a.length<=100 then .ok (.lst (List.replicate k.toNat a).flatten,true)else .bad
 |_,_=>.bad
noncomputable def amY(_ j:Int):Bool:=decide (j≠0)&&decide (j.natAbs.log2<9000)
noncomputable def apC(i j:Int):Prop:=amY i j=true
theorem aeh{X:Cx}:OpR X (binaryOp .FloorDiv) (rI apC λi j=>.int (i.fdiv j)):=opI λi j _ _ _ _ _ hc q=>by
 unfold apC amY at hc
 rw[Bool.and_eq_true]at hc
 exact floordiv_int (of_decide_eq_true hc.1) q (.inl (PyProof.noPylong_of_log2 (of_decide_eq_true hc.2)))
noncomputable def acQ:G2:=gIC amY Int.fdiv
noncomputable def acK:G2:=gIC (λ_ j=>decide (j≠0)) Int.fmod
noncomputable def aud(i j:Int):Bool:=decide (0<=j)&&decide (j<=1000)&&tiny i
noncomputable def acR:G2:=gIC aud λi j=>i ^ j.toNat
noncomputable def acS:G2:=gI λi j=>i-j
section
variable {K:PySem.W.Frag}
theorem aa2.rep{H:Hp}{xs:List V}{ts:List Tr}(r:aa2 K H xs ts):∀n,aa2 K H (List.replicate n xs).flatten (List.replicate n ts).flatten
 | 0=>.nil
 |n+1=>by
  rw[List.replicate_succ,List.replicate_succ,List.flatten_cons,List.flatten_cons]
  exact r.app (aa2.rep r n)
theorem aue:OpT (nlK K) (arM K) ab2:=λW x y a b H Q hw rx ry h=>by
 cases a <;> cases b <;> try exact h.elim
 ·rw[rx.int,ry.int]
  dsimp only[ab2]at h
  split at h
  ·rename_i e
   exact .inl ⟨_,_,rfl,rfl,e,h _ H (Same.refl _) (.atm (.int _))⟩
  ·exact h.elim
 ·rename_i us k
  rw[ry.int]
  dsimp only[ab2]at h
  split at h
  ·rename_i e
   obtain⟨p,xs,rfl,q,r⟩:=rx.lst
   by_cases k0:0<=k
   ·refine .inr ⟨p,k,xs,rfl,rfl,q.rdX,by omega,by omega,?_,λz hz=>h _ _ (aaQ hz _) (.new hz (r.rep _))⟩
    rw[r.length]
    refine Nat.le_trans (Nat.mul_le_mul e.2 (show k.toNat<=1000 by omega)) (by decide)
   ·have e0:k.toNat=0:=by omega
    by_cases k1 : -(2 ^ 63)<=k
    ·refine .inr ⟨p,k,xs,rfl,rfl,q.rdX,k1,by omega,?_,λz hz=>h _ _ (aaQ hz _) (.new hz (r.rep _))⟩
     rw[e0,Nat.mul_zero]
     exact Nat.zero_le _
    ·omega
  ·exact h.elim
theorem auf:OpT K (rI apC λi j=>.int (i.fdiv j)) acQ:=arK λ_ _ h=>h
theorem auh:OpT K (rI (λ_ j=>j≠0) λi j=>.int (i.fmod j)) acK:=arK λ_ _ h=>of_decide_eq_true h
theorem aui:OpT K (rI awZ λi j=>.int (i ^ j.toNat)) acR:=arK λi j h=>by
 unfold aud tiny at h
 rw[Bool.and_eq_true,Bool.and_eq_true,Bool.and_eq_true]at h
 have h1:=of_decide_eq_true h.1.1
 have h2:=of_decide_eq_true h.1.2
 have h3:=of_decide_eq_true h.2.1
 have h4:=of_decide_eq_true h.2.2
 have e:(2:Nat) ^ 64=18446744073709551616:=by decide
 exact⟨h1,by omega,by omega⟩
theorem auj:OpT K (rI0 λi j=>.int (i-j)) acS:=azC
noncomputable def gGt:G2:=gB λi j=>decide (j<i)
noncomputable def gLe:G2:=gB λi j=>decide (i<=j)
noncomputable def gGe:G2:=gB λi j=>decide (j<=i)
theorem axf:OpT K (rI0 λi j=>.bl (decide (j<i))) gGt:=axb
theorem ahP:OpT K (rI0 λi j=>.bl (decide (i<=j))) gLe:=axb
theorem axg:OpT K (rI0 λi j=>.bl (decide (j<=i))) gGe:=axb
noncomputable def intsOf:List Tr->Option (List Int)
 | []=>some []
 |.int i::r=>(intsOf r).map (i :: ·)
 |_::_=>none
theorem ints_of{H:Hp}:∀{ts:List Tr} {ns:List Int} {xs:List V},intsOf ts=some ns->aa2 K H xs ts->xs=ns.map V.int
 | [],ns,xs,h,r=>by cases h; cases r; rfl
 |.int i::q,ns,xs,h,r=>by
  unfold intsOf at h
  cases e:intsOf q with
  |none=>rw[e]at h; cases h
  |some ms =>
   rw[e]at h
   cases h
   cases r with
   |cons h1 r1 =>
    cases h1
    rw[ints_of e r1]
    rfl
 |.non::q,ns,xs,h,r=>by cases h
 |.bl _::q,ns,xs,h,r=>by cases h
 |.str _::q,ns,xs,h,r=>by cases h
 |.tup _::q,ns,xs,h,r=>by cases h
 |.lst _::q,ns,xs,h,r=>by cases h
noncomputable def axh(K:PySem.W.Frag):R2:=λx y H Q=>(rI0 λi j=>.bl (decide (i<j))) x y H Q\/ayX K x y H Q
theorem ajG{X:Cx}(hu:X.A.units+64<cLine):OpR X (compareOp .Lt) (axh X.K):=OpR.or aw0 (atP (by omega))
noncomputable def gLt:G2
 |.int i,.int j=>.ok (.bl (decide (i<j)),false)
 |.tup a,.tup b=>match intsOf a,intsOf b with
  |some ns,some ms=>.ok (.bl (HT.lexLt ns ms),false)
  |_,_=>.bad
 |_,_=>.bad
theorem axi:OpT (nlK K) (axh K) gLt:=λW x y a b H Q hw rx ry h=>by
 cases a <;> cases b <;> try exact h.elim
 ·rw[rx.int,ry.int]
  exact .inl ⟨_,_,rfl,rfl,h _ H (Same.refl _) (.atm (.bl _))⟩
 ·rename_i us ws
  dsimp only[gLt]at h
  split at h
  ·rename_i ns ms e1 e2
   obtain⟨p,xs,rfl,q,r⟩:=rx.tup
   obtain⟨p',ys,rfl,q',r'⟩:=ry.tup
   have z1:=ints_of e1 r
   have z2:=ints_of e2 r'
   subst z1 z2
   exact .inr ⟨p,p',ns,ms,rfl,rfl,q.toK,q'.toK,h _ H (Same.refl _) (.atm (.bl _))⟩
  ·exact h.elim
noncomputable def gIx:G2
 |.lst ts,.int i=>match atI ts i with
  |some t=>.ok (t,false)
  |none=>.bad
 |.tup ts,.int i=>match atI ts i with
  |some t=>.ok (t,false)
  |none=>.bad
 | .str z,.int i=>if z.length<=100000 then (match atI z.cps.toList i with
  |some c=>.ok (.str ⟨#[c]⟩,false)
  |none=>.bad)else .bad
 |_,_=>.bad
theorem auk:OpT (nlK K) (rIx K) gIx:=λW x y a b H Q hw rx ry h=>by
 cases a <;> cases b <;> try exact h.elim
 ·rename_i z i
  rw[rx.str,ry.int]
  dsimp only[gIx]at h
  split at h
  ·rename_i e
   split at h
   ·rename_i c ec
    exact .inr (.inr ⟨z,i,c,rfl,rfl,big e,ec,h _ H (Same.refl _) (.atm (.str _))⟩)
   ·exact h.elim
  ·exact h.elim
 ·rename_i ts i
  rw[ry.int]
  dsimp only[gIx]at h
  split at h
  ·rename_i t et
   obtain⟨p,xs,rfl,q,r⟩:=rx.tup
   obtain⟨v,ev,rv⟩:=r.atI et
   exact .inr (.inl ⟨p,xs,i,v,rfl,rfl,q.toK,ev,h _ H (Same.refl _) rv⟩)
  ·exact h.elim
 ·rename_i ts i
  rw[ry.int]
  dsimp only[gIx]at h
  split at h
  ·rename_i t et
   obtain⟨p,xs,rfl,q,r⟩:=rx.lst
   obtain⟨v,ev,rv⟩:=r.atI et
   exact .inl ⟨p,xs,i,v,rfl,rfl,q.toK,ev,h _ H (Same.refl _) rv⟩
  ·exact h.elim
end
end L2
end
section
namespace L2
open PySem PySem.Spec PyProof.Rows
section
variable {K:PySem.W.Frag}{W:Addr->Prop}{σ : St}
theorem ag7.step{H H' H'':Hp}(hw:∀b,W b->H b≠none)(s:Stp W H' H''):∀{vs:List V} {rs:List Rv},ag7 K W σ H H' vs rs->ag7 K W σ H H'' vs rs
 |_,_,.nil=>.nil
 |_,_,.cons h q=>.cons (h.step hw s) (ag7.step hw s q)
theorem ag7.back{G H H':Hp}(d:∀b,H b=none->G b=none):∀{vs:List V} {rs:List Rv},ag7 K W σ H H' vs rs->ag7 K W σ G H' vs rs
 |_,_,.nil=>.nil
 |_,_,.cons h q=>.cons (h.back d) (ag7.back d q)
inductive Rps(K:PySem.W.Frag)(W:Addr->Prop)(H:Hp):List V->List Tr->Prop
 |nil:Rps K W H [] []
 |cons {v:V} {t:Tr} {vs:List V} {ts:List Tr} (h:Rp K W H v t) (q:Rps K W H vs ts):Rps K W H (v::vs) (t::ts)
noncomputable def drs(ρ : En):List Rv->Rs (List Tr)
 | []=>.ok []
 |r::rs=>(dr ρ r).bind λt=>(drs ρ rs).bind λts=>.ok (t::ts)
theorem ag8(ρ : En):∀(rs:List Rv) (c:Str),drs ρ rs ≠ .ex c
 | [],c=>by intro z; cases z
 |r::rs,c=>by
  unfold drs
  cases e:dr ρ r with
  |bad=>intro z; cases z
  |ex d=>exact(adR _ _ _ e).elim
  |ok t =>
   show(drs ρ rs).bind _≠_
   cases e2:drs ρ rs with
   |bad=>intro z; cases z
   |ex d=>exact(ag8 ρ rs d e2).elim
   |ok ts=>intro z; cases z
theorem aaJ{α β : Type}{r:Rs α}{f : α -> Rs β}{b : β}(h:r.bind f=.ok b):∃a,r=.ok a/\f a=.ok b:=by
 cases r with
 |bad=>cases h
 |ex c=>cases h
 |ok a=>exact⟨a,rfl,h⟩
theorem alx{t:Tx}{ρ : En}{H H':Hp}(e:EOk t W ρ σ H')(hw:∀b,W b->H b≠none):∀{vs:List V} {rs:List Rv} {ts:List Tr},ag7 t.K W σ H H' vs rs->drs ρ rs=.ok ts->Rps t.K W H' vs ts
 |_,_,_,.nil,q=>by cases q; exact .nil
 |_,_,_,.cons h r,q=>by
  unfold drs at q
  obtain⟨a,q1,q⟩:=aaJ q
  obtain⟨as,q2,q⟩:=aaJ q
  cases q
  exact .cons (afw e hw h q1) (alx e hw r q2)
noncomputable def cls:List Rv->Rs (List Tr)
 | []=>.ok []
 |.v t _::rs=>(cls rs).bind λts=>.ok (t::ts)
 |.s _::_=>.bad
theorem afR:∀(rs:List Rv) (c:Str),cls rs ≠ .ex c
 | [],c=>by intro z; cases z
 |.v t fr::rs,c=>by
  unfold cls
  cases e2:cls rs with
  |bad=>intro z; cases z
  |ex d=>exact(afR rs d e2).elim
  |ok ts=>intro z; cases z
 |.s i::rs,c=>by intro z; cases z
theorem aic{H H':Hp}(hw:∀b,W b->H b≠none):∀{vs:List V} {rs:List Rv} {ts:List Tr},ag7 K W σ H H' vs rs->cls rs=.ok ts->aa2 K (aa7 W H') vs ts
 |_,_,_,.nil,q=>by cases q; exact .nil
 |_,.v t fr::_,_,.cons h r,q=>by
  unfold cls at q
  obtain⟨as,q2,q⟩:=aaJ q
  cases q
  exact .cons (h.rep hw) (aic hw r q2)
 |_,.s i::_,_,.cons h r,q=>by cases q
end
section
variable {t:Tx}
noncomputable def aar:AF:=λρ=>.ok ([],ρ)
noncomputable def aae(f:EF)(g:AF):AF:=λρ=>(f ρ).bind λp=>(g p.2).bind λq=>.ok (p.1::q.1,q.2)
theorem aaj:SA t aqF aar:=λW ρ σ H Q e h=>h [] H e (Stp.refl _ _) .nil
theorem aac{te:TE}{ta:TA}{f:EF}{g:AF}(h1:SE t te f)(h2:SA t ta g):SA t (afN te ta) (aae f g):=λW ρ σ H Q e h=>by
 refine h1 W ρ σ H _ e (Rs.aam (Rs.aaf h) λp h v H1 e1 s1 v1=>?_)
 refine h2 W p.2 σ H1 _ e1 (Rs.aam (Rs.aaf h) λq h vs H2 e2 s2 v2=>?_)
 exact h (v::vs) H2 e2 (s1.trans s2) (.cons (v1.1.step e.wn s2) (ag7.back s1.dom v2))
noncomputable def ae9(g:AF):EF:=λρ=>(g ρ).bind λp=>(cls p.1).bind λts=>if ts.length<=1000 then .ok (.v (.lst ts) true,p.2)else .bad
noncomputable def akg(g:AF):EF:=λρ=>(g ρ).bind λp=>(cls p.1).bind λts=>if ts.length<=1000 then .ok (.v (.tup ts) false,p.2)else .bad
theorem abZ{α : Type}{r:Rs α}{EX:Str->Prop}{P : α -> Prop}(h:r.post EX P)(n:∀c,r ≠ .ex c):∃a,r=.ok a/\P a:=by
 cases r with
 |bad=>exact h.elim
 |ex c=>exact(n c rfl).elim
 |ok a=>exact⟨a,rfl,h⟩
theorem adb{ta:TA}{g:AF}(h1:SA t ta g):SE t (ayV ta) (ae9 g):=λW ρ σ H Q e h=>by
 refine h1 W ρ σ H _ e (Rs.aam (Rs.aaf h) λp h vs H1 e1 s1 v1=>?_)
 obtain⟨ts,q,h⟩:=abZ (Rs.aaf h) (afR _)
 have r:=aic e.wn v1 q
 split at h
 ·rename_i hl
  refine⟨by rw[r.length]; exact Nat.le_trans hl (by decide),λz hz=>h _ _ (e1.grow (aaQ hz _)) (s1.trans (Stp.of (aaQ hz _))) ?_⟩
  exact(VOE.of (σ' := σ) e1 (aaQ hz _) (VOk.new hz r)).back s1.dom
 ·exact h.elim
theorem ag9{ta:TA}{g:AF}(h1:SA t ta g):SE t (ayU ta) (akg g):=λW ρ σ H Q e h=>by
 refine h1 W ρ σ H _ e (Rs.aam (Rs.aaf h) λp h vs H1 e1 s1 v1=>?_)
 obtain⟨ts,q,h⟩:=abZ (Rs.aaf h) (afR _)
 have r:=aic e.wn v1 q
 split at h
 ·rename_i hl
  refine⟨by rw[r.length]; exact Nat.le_trans hl (by decide),λz hz=>h _ _ (e1.grow (aaQ hz _)) (s1.trans (Stp.of (aaQ hz _))) ?_⟩
  exact .low ((VOk.newT (σ := σ) (W:=W) e1.wl hz r))
 ·exact h.elim
noncomputable abbrev G1:=Tr->Rs (Tr × Bool)
noncomputable def UnT(K:PySem.W.Frag)(r:V->Hp->VK->Prop)(g:G1):Prop:=∀W x a H Q,(∀b,W b->Lt H b)->Rp K W H x a->(g a).post (λ_=>False) (λp=>∀v H',Same H H'->VOk K W [] H H' v (.v p.1 p.2)->Q v H')->r x H Q
noncomputable def eUn(g:G1)(fa:EF):EF:=λρ=>(fa ρ).bind λp=>(dr p.2 p.1).bind λa=>(g a).bind λz=>.ok (.v z.1 z.2,p.2)
theorem axj{r:V->Hp->VK->Prop}{g:G1}{ta:TE}{fa:EF}(o:UnT t.K r g)(ng:∀a c,g a ≠ .ex c)(ha:SE t ta fa):SE t (tUn r ta) (eUn g fa):=λW ρ σ H Q e h=>by
 refine ha W ρ σ H _ e (Rs.aam (Rs.aaf h) λp h x H1 e1 s1 v1=>?_)
 obtain⟨a,k1,h⟩:=abZ (Rs.aaf h) (adR _ _)
 refine o W x a H1 Q e1.wl (afw e1 e.wn v1.1 k1) (Rs.aam (aki (Rs.aaf h) (ng a)) λz h v H2 s2 v2=>?_)
 exact h v H2 (e1.grow s2) (s1.trans (Stp.of s2)) ((VOE.of e1 s2 v2).back s1.dom)
noncomputable def anv:G1
 |.int i=>.ok (.int (-i),false)
 |_=>.bad
theorem aqL{K:PySem.W.Frag}:UnT K (rU λi=>.int (-i)) anv:=λW x a H Q hw rx h=>by
 cases a <;> try exact h.elim
 rw[rx.int]
 exact⟨_,rfl,h _ H (Same.refl _) (.atm (.int _))⟩
noncomputable def bOf:Tr->Rs Bool
 |.bl b=>.ok b
 |_=>.bad
theorem anw(a:Tr)(c:Str):bOf a ≠ .ex c:=by cases a <;> (intro z; cases z)
noncomputable def abk(fa:EF):BF:=λρ=>(fa ρ).bind λp=>(dr p.2 p.1).bind λa=>(bOf a).bind λb=>.ok (b,p.2)
theorem aul{K:PySem.W.Frag}{W:Addr->Prop}{H:Hp}{v:V}{a:Tr}{b:Bool}(h:Rp K W H v a)(q:bOf a=.ok b):v=.bl b:=by
 cases a <;> cases q
 exact h.bl
theorem abd{ta:TE}{fa:EF}(ha:SE t ta fa):ST t (arn ta) (abk fa):=λW ρ σ H Q e h=>by
 refine ha W ρ σ H _ e (Rs.aam (Rs.aaf h) λp h x H1 e1 s1 v1=>?_)
 obtain⟨a,k1,h⟩:=abZ (Rs.aaf h) (adR _ _)
 obtain⟨b,k2,h⟩:=abZ (Rs.aaf h) (anw _)
 exact⟨b,aul (afw e1 e.wn v1.1 k1) k2,h H1 e1 s1⟩
noncomputable def tru:Tr->Rs Bool
 |.non=>.ok false
 |.bl b=>.ok b
 |.int i=>.ok (i != 0)
 |.lst ts=>.ok (!ts.isEmpty)
 |.tup ts=>.ok (!ts.isEmpty)
 |.str x=>if x.length<=100000 then .ok ((x.length:Int) != 0)else .bad
 |.exn _=>.bad
theorem arN(a:Tr)(c:Str):tru a ≠ .ex c:=by
 cases a <;> try(intro z; cases z; done)
 dsimp only[tru]
 split <;> (intro z; cases z)
theorem aha{α β : Type}{a:List α}{b:List β}(h:a.length=b.length):a.isEmpty=b.isEmpty:=by
 cases a <;> cases b <;> first|rfl|cases h
theorem aum{K:PySem.W.Frag}{W:Addr->Prop}{H:Hp}{v:V}{a:Tr}{b:Bool}(h:Rp (nlK K) W H v a)(q:tru a=.ok b):atF K v H b:=by
 cases a with
 |non=>cases q; rw[h.non]; rfl
 |bl i=>cases q; rw[h.bl]; rfl
 |int i=>cases q; rw[h.int]; rfl
 |str i =>
  dsimp only[tru]at q
  split at q
  ·rename_i e
   cases q
   rw[h.str]
   exact⟨big e,rfl⟩
  ·cases q
 |tup ts =>
  cases q
  obtain⟨p,xs,rfl,q,r⟩:=h.tup
  exact .inr (.inl ⟨xs,q.toK,by rw[aha r.length]⟩)
 |lst ts =>
  cases q
  obtain⟨p,xs,rfl,q,r⟩:=h.lst
  exact .inl ⟨xs,q.toK,by rw[aha r.length]⟩
 |exn c=>cases q
noncomputable def afS(fa:EF):BF:=λρ=>(fa ρ).bind λp=>(dr p.2 p.1).bind λa=>(tru a).bind λb=>.ok (b,p.2)
noncomputable def azD(K:PySem.W.Frag)(ta:TE):TT:=λσ H Q=>ta σ H λx H'=>∃k,atF K x H' k/\Q k H'
theorem ade{K:PySem.W.Frag}(hK:t.K=nlK K){ta:TE}{fa:EF}(ha:SE t ta fa):ST t (azD K ta) (afS fa):=λW ρ σ H Q e h=>by
 refine ha W ρ σ H _ e (Rs.aam (Rs.aaf h) λp h x H1 e1 s1 v1=>?_)
 obtain⟨a,k1,h⟩:=abZ (Rs.aaf h) (adR _ _)
 obtain⟨b,k2,h⟩:=abZ (Rs.aaf h) (arN _)
 have r:=afw e1 e.wn v1.1 k1
 rw[hK]at r
 exact⟨b,aum r k2,h H1 e1 s1⟩
noncomputable def azE(f g:BF):BF:=λρ=>(f ρ).bind λp=>if p.1=true then g p.2 else .ok (false,p.2)
noncomputable def bOr(f g:BF):BF:=λρ=>(f ρ).bind λp=>if p.1=true then .ok (true,p.2)else g p.2
noncomputable def aie(f:BF):BF:=λρ=>(f ρ).bind λp=>.ok (!p.1,p.2)
theorem anx{ta tb:TT}{f g:BF}(ha:ST t ta f)(hb:ST t tb g):ST t (tOr ta tb) (bOr f g):=λW ρ σ H Q e h=>by
 refine ha W ρ σ H _ e (Rs.aam (Rs.aaf h) λp h H1 e1 s1=>?_)
 split at h
 ·rename_i c
  exact if_pos c▸h H1 e1 s1
 ·rename_i c
  refine if_neg c▸hb W p.2 σ H1 _ e1 (Rs.aam h λq h H2 e2 s2=>h H2 e2 (s1.trans s2))
theorem adD{ta:TT}{f:BF}(ha:ST t ta f):ST t (ayK ta) (aie f):=λW ρ σ H Q e h =>
 ha W ρ σ H _ e (Rs.aam (Rs.aaf h) λp h H1 e1 s1=>h H1 e1 s1)
noncomputable def eB(b:Bool):Rv:=.v (.bl b) false
noncomputable def ao8(f g:EF):EF:=λρ=>(abk f ρ).bind λp=>if p.1=true then g p.2 else .ok (eB false,p.2)
noncomputable def eOr(f g:EF):EF:=λρ=>(abk f ρ).bind λp=>if p.1=true then .ok (eB true,p.2)else g p.2
noncomputable def axk(f:EF):EF:=λρ=>(abk f ρ).bind λp=>.ok (eB (!p.1),p.2)
theorem ahb{ta tb:TE}{f g:EF}(ha:SE t ta f)(hb:SE t tb g):SE t (atv ta tb) (ao8 f g):=λW ρ σ H Q e h=>by
 refine abd ha W ρ σ H _ e (Rs.aam (Rs.aaf h) λp h H1 e1 s1=>?_)
 split at h
 ·rename_i c
  refine if_pos c▸hb W p.2 σ H1 _ e1 (Rs.aam h λq h v H2 e2 s2 v2=>h v H2 e2 (s1.trans s2) (v2.back s1.dom))
 ·rename_i c
  exact if_neg c▸h _ H1 e1 s1 (.low (.bl false))
theorem aun{ta:TE}{f:EF}(ha:SE t ta f):SE t (atw ta) (axk f):=λW ρ σ H Q e h =>
 abd ha W ρ σ H _ e (Rs.aam (Rs.aaf h) λp h H1 e1 s1=>h _ H1 e1 s1 (.low (.bl _)))
noncomputable def eIf(c:BF)(f g:EF):EF:=λρ=>(c ρ).bind λp=>if p.1=true then f p.2 else g p.2
end
end L2
end
section
namespace L2
open PySem PySem.Spec PyProof.Rows
section
variable {t:Tx}
noncomputable def agn(g g':G2)(fa fb fc:EF):EF:=λρ=>(fa ρ).bind λp=>(fb p.2).bind λq=>(dr q.2 p.1).bind λa=>(dr q.2 q.1).bind λb=>(g a b).bind λz=>(bOf z.1).bind λk =>
 if k=true then(fc q.2).bind λs=>(dr s.2 q.1).bind λb=>(dr s.2 s.1).bind λc=>(g' b c).bind λz=>.ok (.v z.1 z.2,s.2)else .ok (eB false,q.2)
theorem apD{r r':R2}{g g':G2}{ta tb tc:TE}{fa fb fc:EF}(o:OpT t.K r g)(o':OpT t.K r' g')(ng:∀a b c,g a b ≠ .ex c)(ng':∀a b c,g' a b ≠ .ex c)(ha:SE t ta fa)(hb:SE t tb fb)(hc:SE t tc fc):SE t (alk r r' ta tb tc) (agn g g' fa fb fc):=λW ρ σ H Q e h=>by
 refine ha W ρ σ H _ e (Rs.aam (Rs.aaf h) λp h x H1 e1 s1 v1=>?_)
 refine hb W p.2 σ H1 _ e1 (Rs.aam (Rs.aaf h) λq h y H2 e2 s2 v2=>?_)
 obtain⟨a,k1,h⟩:=abZ (Rs.aaf h) (adR _ _)
 obtain⟨b,k2,h⟩:=abZ (Rs.aaf h) (adR _ _)
 refine o W x y a b H2 _ e2.wl (afw e2 e.wn (v1.1.step e.wn s2) k1) (afw e2 e1.wn v2.1 k2) (Rs.aam (aki (Rs.aaf h) (ng a b)) λz h v H3 s3 v3=>?_)
 obtain⟨k,k3,h⟩:=abZ (Rs.aaf h) (anw _)
 have e3:=e2.grow s3
 have b3:v=.bl k:=aul (.inl (VOk.rep (σ:=[]) e2.wn v3)) k3
 refine⟨k,b3,?_⟩
 split at h
 ·rename_i c
  rw[if_pos c]
  refine hc W q.2 σ H3 _ e3 (Rs.aam (Rs.aaf h) λu h w H4 e4 s4 v4=>?_)
  obtain⟨b',k4,h⟩:=abZ (Rs.aaf h) (adR _ _)
  obtain⟨c',k5,h⟩:=abZ (Rs.aaf h) (adR _ _)
  refine o' W y w b' c' H4 _ e4.wl (afw e4 e1.wn ((v2.1.step e1.wn (Stp.of s3)).step e1.wn s4) k4) (afw e4 e3.wn v4.1 k5) (Rs.aam (aki (Rs.aaf h) (ng' b' c')) λz h v H5 s5 v5=>?_)
  have st:Stp W H H4:=(s1.trans (s2.trans (Stp.of s3))).trans s4
  exact h v H5 (e4.grow s5) (st.trans (Stp.of s5)) ((VOE.of e4 s5 v5).back st.dom)
 ·rename_i c
  rw[if_neg c]
  exact h _ H3 e3 ((s1.trans s2).trans (Stp.of s3)) (.low (.bl false))
noncomputable abbrev OF:=En->Rs (Option Int × En)
noncomputable def SO(t:Tx)(te:TO)(f:OF):Prop:=∀W ρ σ H Q,EOk t W ρ σ H->(f ρ).post t.EX (λp=>∀H',EOk t W p.2 σ H'->Stp W H H'->Q p.1 H')->te σ H Q
noncomputable def oNo:OF:=λρ=>.ok (none,ρ)
theorem apE:SO t anj oNo:=λW ρ σ H Q e h=>h H e (Stp.refl _ _)
noncomputable def iOf:Tr->Rs Int
 |.int i=>.ok i
 |_=>.bad
theorem anz(a:Tr)(c:Str):iOf a ≠ .ex c:=by cases a <;> (intro z; cases z)
theorem aqM{K:PySem.W.Frag}{W:Addr->Prop}{H:Hp}{v:V}{a:Tr}{b:Int}(h:Rp K W H v a)(q:iOf a=.ok b):v=.int b:=by
 cases a <;> cases q
 exact h.int
noncomputable def afT(fa:EF):OF:=λρ=>(fa ρ).bind λp=>(dr p.2 p.1).bind λa=>(iOf a).bind λb=>.ok (some b,p.2)
theorem aiK{ta:TE}{fa:EF}(ha:SE t ta fa):SO t (atN ta) (afT fa):=λW ρ σ H Q e h=>by
 refine ha W ρ σ H _ e (Rs.aam (Rs.aaf h) λp h x H1 e1 s1 v1=>?_)
 obtain⟨a,k1,h⟩:=abZ (Rs.aaf h) (adR _ _)
 obtain⟨b,k2,h⟩:=abZ (Rs.aaf h) (anz _)
 exact⟨b,aqM (afw e1 e.wn v1.1 k1) k2,h H1 e1 s1⟩
noncomputable def cut{α : Type}(xs:List α)(lo hi:Option Int):List α := (xs.drop (HT.sIx xs.length 0 lo)).take (HT.sIx xs.length xs.length hi-HT.sIx xs.length 0 lo)
theorem aa2.cut{K:PySem.W.Frag}{H:Hp}{xs:List V}{ts:List Tr}(r:aa2 K H xs ts)(lo hi:Option Int):aa2 K H (aqG xs lo hi) (L2.cut ts lo hi):=by
 unfold aqG L2.cut
 rw[r.length]
 exact(r.drop _).take _
noncomputable def ay6(K:PySem.W.Frag):V->Option Int->Option Int->Hp->VK->Prop:=λx lo hi H Q=>ay1 K x lo hi H Q\/ayW K x lo hi H Q\/ay4 x lo hi H Q
theorem awI{X:Cx}:SlR X (ay6 X.K):=SlR.or arv (SlR.or atO at6)
noncomputable def gSl(lo hi:Option Int):G1
 |.lst ts=>.ok (.lst (cut ts lo hi),true)
 |.tup ts=>if ¬(HT.sIx ts.length 0 lo=0/\HT.sIx ts.length ts.length hi=ts.length)then .ok (.tup (cut ts lo hi),false)else .bad
 |.str z=>if z.length<=100000 then .ok (.str (Txt.slice z lo hi),false)else .bad
 |_=>.bad
theorem arO(lo hi:Option Int)(a:Tr)(c:Str):gSl lo hi a ≠ .ex c:=by
 cases a <;> dsimp only[gSl] <;> (try split) <;> (intro z; cases z)
noncomputable def eSl(fa:EF)(fl fh:OF):EF:=λρ=>(fa ρ).bind λp=>(fl p.2).bind λl=>(fh l.2).bind λh=>(dr h.2 p.1).bind λa=>(gSl l.1 h.1 a).bind λz=>.ok (.v z.1 z.2,h.2)
theorem apF{K:PySem.W.Frag}(hK:t.K=nlK K){ta:TE}{tl th:TO}{fa:EF}{fl fh:OF}(ha:SE t ta fa)(hl:SO t tl fl)(hh:SO t th fh):SE t (tSl (ay6 K) ta tl th) (eSl fa fl fh):=λW ρ σ H Q e h=>by
 refine ha W ρ σ H _ e (Rs.aam (Rs.aaf h) λp h x H1 e1 s1 v1=>?_)
 refine hl W p.2 σ H1 _ e1 (Rs.aam (Rs.aaf h) λl h H2 e2 s2=>?_)
 refine hh W l.2 σ H2 _ e2 (Rs.aam (Rs.aaf h) λu h H3 e3 s3=>?_)
 obtain⟨a,k1,h⟩:=abZ (Rs.aaf h) (adR _ _)
 obtain⟨z,k2,h⟩:=abZ (Rs.aaf h) (arO _ _ _)
 have st:Stp W H H3:=s1.trans (s2.trans s3)
 have rx:=afw e3 e.wn (v1.1.step e.wn (s2.trans s3)) k1
 rw[hK]at rx
 cases a with
 |exn c=>cases k2
 |lst ts =>
  cases k2
  obtain⟨b,xs,rfl,q,r⟩:=rx.lst
  refine .inl ⟨b,xs,rfl,q.toK,λy hy=>h _ _ (e3.grow (aaQ hy _)) (st.trans (Stp.of (aaQ hy _))) ?_⟩
  rw[<-hK]at r
  exact(VOE.of (σ' := σ) e3 (aaQ hy _) (VOk.new hy (r.cut _ _))).back st.dom
 |tup ts =>
  dsimp only[gSl]at k2
  split at k2
  ·rename_i c
   cases k2
   obtain⟨b,xs,rfl,q,r⟩:=rx.tup
   refine .inr (.inl ⟨b,xs,rfl,q.toK,by rw[r.length]; exact c,λy hy=>h _ _ (e3.grow (aaQ hy _)) (st.trans (Stp.of (aaQ hy _))) ?_⟩)
   rw[<-hK]at r
   exact .low (VOk.newT (σ := σ) (W:=W) e3.wl hy (r.cut _ _))
  ·cases k2
 |str i =>
  dsimp only[gSl]at k2
  split at k2
  ·rename_i c
   cases k2
   rw[rx.str]
   exact .inr (.inr ⟨i,rfl,big c,h _ H3 e3 st (.low (.str _))⟩)
  ·cases k2
 |non=>cases k2
 |bl i=>cases k2
 |int i=>cases k2
noncomputable abbrev GN:=List Tr->Rs (Tr × Bool)
noncomputable def CbT(K:PySem.W.Frag)(r:List V->Hp->VK->Prop)(g:GN):Prop:=∀W xs as H Q,(∀b,W b->Lt H b)->Rps K W H xs as->(g as).post (λ_=>False) (λp=>∀v H',Same H H'->VOk K W [] H H' v (.v p.1 p.2)->Q v H')->r xs H Q
noncomputable def eCB(g:GN)(fa:AF):EF:=λρ=>(fa ρ).bind λp=>(drs p.2 p.1).bind λas=>(g as).bind λz=>.ok (.v z.1 z.2,p.2)
theorem aks{r:List V->Hp->VK->Prop}{g:GN}{ta:TA}{fa:AF}(o:CbT t.K r g)(ng:∀as c,g as ≠ .ex c)(ha:SA t ta fa):SE t (tCB r ta) (eCB g fa):=λW ρ σ H Q e h=>by
 refine ha W ρ σ H _ e (Rs.aam (Rs.aaf h) λp h xs H1 e1 s1 v1=>?_)
 obtain⟨as,k1,h⟩:=abZ (Rs.aaf h) (ag8 _ _)
 refine o W xs as H1 Q e1.wl (alx e1 e.wn v1 k1) (Rs.aam (aki (Rs.aaf h) (ng as)) λz h v H2 s2 v2=>?_)
 exact h v H2 (e1.grow s2) (s1.trans (Stp.of s2)) ((VOE.of e1 s2 v2).back s1.dom)
noncomputable def g1(g:G1):GN
 | [a]=>g a
 |_=>.bad
theorem aif{g:G1}(h:∀a c,g a ≠ .ex c)(as:List Tr)(c:Str):g1 g as ≠ .ex c:=by
 match as with
 | []=>intro z; cases z
 | [a]=>exact h a c
 |_::_::_=>intro z; cases z
theorem ate{K:PySem.W.Frag}{r:List V->Hp->VK->Prop}{g:G1}(h:UnT K (λx=>r [x]) g):CbT K r (g1 g):=λW xs as H Q hw rs q=>by
 cases rs with
 |nil=>exact q.elim
 |cons h1 r1 =>
  cases r1 with
  |nil=>exact h W _ _ H Q hw h1 q
  |cons _ _=>exact q.elim
noncomputable def g2(g:G2):GN
 | [a,b]=>g a b
 |_=>.bad
theorem auo{g:G2}(h:∀a b c,g a b ≠ .ex c)(as:List Tr)(c:Str):g2 g as ≠ .ex c:=by
 match as with
 | []=>intro z; cases z
 | [a]=>intro z; cases z
 | [a,b]=>exact h a b c
 |_::_::_::_=>intro z; cases z
theorem azF{K:PySem.W.Frag}{r:List V->Hp->VK->Prop}{g:G2}(h:OpT K (λx y=>r [x,y]) g):CbT K r (g2 g):=λW xs as H Q hw rs q=>by
 cases rs with
 |nil=>exact q.elim
 |cons h1 r1 =>
  cases r1 with
  |nil=>exact q.elim
  |cons h2 r2 =>
   cases r2 with
   |nil=>exact h W _ _ _ _ H Q hw h1 h2 q
   |cons _ _=>exact q.elim
end
section
variable {K:PySem.W.Frag}
noncomputable def arP(K:PySem.W.Frag):List V->Hp->VK->Prop:=λxs H Q=>(∃p ys,xs=[.ref p]/\(SqL K H p ys\/SqT K H p ys)/\Q (.int ys.length) H)\/(∃z,xs=[.str z]/\z.length<=sizeLine/\Q (.int z.length) H)
theorem aaR{X:Cx}:aeg X (.builtin "len") (arP X.K):=aeg.or ajB ajC
noncomputable def abg:G1
 |.lst ts=>.ok (.int ts.length,false)
 |.tup ts=>.ok (.int ts.length,false)
 |.str z=>if z.length<=100000 then .ok (.int z.length,false)else .bad
 |_=>.bad
theorem aup:UnT (nlK K) (λx=>arP K [x]) abg:=λW x a H Q hw rx h=>by
 cases a <;> try exact h.elim
 ·rename_i z
  dsimp only[abg]at h
  split at h
  ·rename_i e
   rw[rx.str]
   exact .inr ⟨z,rfl,big e,h _ H (Same.refl _) (.atm (.int _))⟩
  ·exact h.elim
 ·obtain⟨p,xs,rfl,q,r⟩:=rx.tup
  refine .inl ⟨p,xs,rfl,.inr q.toK,?_⟩
  rw[r.length]
  exact h _ H (Same.refl _) (.atm (.int _))
 ·obtain⟨p,xs,rfl,q,r⟩:=rx.lst
  refine .inl ⟨p,xs,rfl,.inl q.toK,?_⟩
  rw[r.length]
  exact h _ H (Same.refl _) (.atm (.int _))
noncomputable def adE:G1
 |.int i=>.ok (.int (if i<0 then -i else i),false)
 |_=>.bad
theorem auq:UnT K (λx H Q=>∃i,[x]=[V.int i]/\Q (.int (if i<0 then -i else i)) H) adE:=λW x a H Q hw rx h=>by
 cases a <;> try exact h.elim
 rw[rx.int]
 exact⟨_,rfl,h _ H (Same.refl _) (.atm (.int _))⟩
noncomputable def atf:G1
 |.int i=>.ok (.int i,false)
 |.bl b=>.ok (.int (if b then 1 else 0),false)
 |_=>.bad
theorem aur:UnT K (λx H Q=>(∃i,[x]=[V.int i]/\Q (.int i) H)\/∃k,[x]=[V.bl k]/\Q (.int (if k then 1 else 0)) H) atf:=λW x a H Q hw rx h=>by
 cases a <;> try exact h.elim
 ·rw[rx.bl]
  exact .inr ⟨_,rfl,h _ H (Same.refl _) (.atm (.int _))⟩
 ·rw[rx.int]
  exact .inl ⟨_,rfl,h _ H (Same.refl _) (.atm (.int _))⟩
noncomputable def abL:G1
 |.lst ts=>.ok (.lst ts,true)
 |.tup ts=>.ok (.lst ts,true)
 |_=>.bad
noncomputable def aa4:G1
 |.lst ts=>.ok (.tup ts,false)
 |.tup ts=>.ok (.tup ts,false)
 |_=>.bad
noncomputable def ao9:G1:=λt=>if okS t=true/\blk t<=8000/\dep t<=40 then .ok (.str (txt t),false)else .bad
theorem aus:UnT (nlK K) (λx=>aw5 K [x]) ao9:=λW x a H Q hw rx h=>by
 unfold ao9 at h
 split at h
 ·rename_i e
  exact⟨x,a,rfl,rx.rep.toK,e.1,e.2.1,e.2.2,h _ H (Same.refl _) (.atm (.str _))⟩
 ·exact h.elim
noncomputable def adw:G2
 |.int i,.int j=>.ok (.int (if j<i then j else i),false)
 |_,_=>.bad
noncomputable def ad8:G2
 |.int i,.int j=>.ok (.int (if j > i then j else i),false)
 |_,_=>.bad
theorem aut:OpT K (λx y H Q=>∃i j,[x,y]=[V.int i,V.int j]/\Q (.int (if j<i then j else i)) H) adw:=λW x y a b H Q hw rx ry h=>by
 cases a <;> cases b <;> try exact h.elim
 rw[rx.int,ry.int]
 exact⟨_,_,rfl,h _ H (Same.refl _) (.atm (.int _))⟩
noncomputable def ahQ:List Tr->Option (List Bool)
 | []=>some []
 |.bl i::r=>(ahQ r).map (i :: ·)
 |_::_=>none
theorem anA{H:Hp}:∀{ts:List Tr} {ns:List Bool} {xs:List V},ahQ ts=some ns->aa2 K H xs ts->xs=ns.map V.bl
 | [],ns,xs,h,r=>by cases h; cases r; rfl
 |.bl i::q,ns,xs,h,r=>by
  unfold ahQ at h
  cases e:ahQ q with
  |none=>rw[e]at h; cases h
  |some ms =>
   rw[e]at h
   cases h
   cases r with
   |cons h1 r1 =>
    cases h1
    rw[anA e r1]
    rfl
 |.non::q,ns,xs,h,r=>by cases h
 |.int _::q,ns,xs,h,r=>by cases h
 |.str _::q,ns,xs,h,r=>by cases h
 |.tup _::q,ns,xs,h,r=>by cases h
 |.lst _::q,ns,xs,h,r=>by cases h
noncomputable def acC:G1
 |.lst ts=>match ahQ ts with
  |some bs=>.ok (.bl (bs.all id),false)
  |none=>.bad
 |_=>.bad
theorem auu:UnT (nlK K) (λx=>aw4 K [x]) acC:=λW x a H Q hw rx h=>by
 cases a <;> try exact h.elim
 dsimp only[acC]at h
 split at h
 ·rename_i bs e
  obtain⟨p,xs,rfl,q,r⟩:=rx.lst
  have z:=anA e r
  subst z
  exact⟨p,bs,rfl,q.toK,h _ H (Same.refl _) (.atm (.bl _))⟩
 ·exact h.elim
noncomputable def amZ(c:Ty)(fa:EF):EF:=λρ=>(fa ρ).bind λp=>(dr p.2 p.1).bind λa=>.ok (eB (ada a c),p.2)
theorem ahc{t:Tx}(hK:t.K=nlK K)(c:Ty){ta:TE}{fa:EF}(ha:SE t ta fa):SE t (tCB (awD K) (afN ta (afN (tC (.ty c.name)) aqF))) (amZ c fa):=λW ρ σ H Q e h=>by
 refine ha W ρ σ H _ e (Rs.aam (Rs.aaf h) λp h x H1 e1 s1 v1=>?_)
 obtain⟨a,k1,h⟩:=abZ (Rs.aaf h) (adR _ _)
 have r:=afw e1 e.wn v1.1 k1
 rw[hK]at r
 exact⟨x,a,c,rfl,r.rep.toK,h _ H1 e1 s1 (.low (.bl _))⟩
end
end L2
end
section
namespace L2
open PySem PySem.Spec PyProof.Rows
inductive Fl where
 |nx|rt (T:Tr) (fr:Bool)|bk|ct
noncomputable abbrev SF:=En->Rs (Fl × En)
noncomputable def Nxt(W:Addr->Prop)(H:Hp)(W':Addr->Prop)(H':Hp):Prop:=∀b o,¬W b->H b=some o->¬W' b/\H' b=some o
theorem Nxt.refl(W:Addr->Prop)(H:Hp):Nxt W H W H:=λ_ _ n h=>⟨n,h⟩
theorem Nxt.trans{W W1 W2:Addr->Prop}{H H1 H2:Hp}(a:Nxt W H W1 H1)(b:Nxt W1 H1 W2 H2):Nxt W H W2 H2:=λc o n h=>by
 obtain⟨n1,h1⟩:=a c o n h
 exact b c o n1 h1
theorem Stp.nxt{W:Addr->Prop}{H H':Hp}(s:Stp W H H'):Nxt W H W H':=λb o n h=>⟨n,s.keep b o n h⟩
theorem Nxt.same{W W':Addr->Prop}{H H':Hp}(a:Nxt W H W' H'):Same (aa7 W H) (aa7 W' H'):=λb o h=>by
 obtain⟨n,h⟩:=abl h
 obtain⟨n',h'⟩:=a b o n h
 rw[aaZ n']
 exact h'
noncomputable def VR(t:Tx)(H':Hp)(v:V)(T:Tr):Bool->Prop
 |false=>Rep t.K (aa7 t.Z H') v T
 |true=>∃a xs ts,v=.ref a/\T=.lst ts/\t.H0 a=none/\H' a=some (.lst xs)/\aa2 t.K (off a (aa7 t.Z H')) xs ts
noncomputable def aiL(t:Tx)(W:Addr->Prop)(H:Hp)(D:Ends)(p:Fl × En):Prop:=match p.1 with
 |.nx=>∀W' σ' H',EOk t W' p.2 σ' H'->Nxt W H W' H'->D.nx σ' H'
 |.rt T fr=>∀v W' σ' H',EOk t W' p.2 σ' H'->VR t H' v T fr->D.rt v H'
 |.bk=>∀W' σ' H',EOk t W' p.2 σ' H'->Nxt W H W' H'->D.bk σ' H'
 |.ct=>∀W' σ' H',EOk t W' p.2 σ' H'->Nxt W H W' H'->D.ct σ' H'
noncomputable def SS(t:Tx)(ts:TS)(f:SF):Prop:=∀W ρ σ H D,EOk t W ρ σ H->(f ρ).post t.EX (aiL t W H D)->ts D σ H
theorem aiL.back{t:Tx}{W W':Addr->Prop}{H H':Hp}{D:Ends}{p:Fl × En}(h:aiL t W H D p)(n:Nxt W H W' H'):aiL t W' H' D p:=by
 obtain⟨fl,ρ⟩:=p
 cases fl with
 |nx=>exact λW2 σ2 H2 e m=>h W2 σ2 H2 e (n.trans m)
 |rt T fr=>exact h
 |bk=>exact λW2 σ2 H2 e m=>h W2 σ2 H2 e (n.trans m)
 |ct=>exact λW2 σ2 H2 e m=>h W2 σ2 H2 e (n.trans m)
section
variable {t:Tx}
noncomputable def adZ:SF:=λρ=>.ok (.nx,ρ)
theorem abB:SS t aty adZ:=λW ρ σ H D e h=>h W σ H e (Nxt.refl _ _)
noncomputable def aaI(f g:SF):SF:=λρ=>(f ρ).bind λp=>match p.1 with
 |.nx=>g p.2
 |fl=>.ok (fl,p.2)
theorem aat{ta tb:TS}{f g:SF}(h1:SS t ta f)(h2:SS t tb g):SS t (ayL ta tb) (aaI f g):=λW ρ σ H D e h=>by
 refine h1 W ρ σ H _ e (Rs.aam (Rs.aaf h) λp h=>?_)
 obtain⟨fl,ρ1⟩:=p
 cases fl with
 |nx=>exact λW1 σ1 H1 e1 n1=>h2 W1 ρ1 σ1 H1 D e1 (Rs.aam h λq h=>h.back n1)
 |rt T fr=>exact h
 |bk=>exact h
 |ct=>exact h
theorem get_set{α : Type}{l:List α}{i j:Nat}{a b : α}(h:(l.set i a)[j]?=some b):(j=i/\b=a/\i<l.length)\/(j≠i/\l[j]?=some b):=by
 by_cases e:i=j
 ·subst e
  rw[List.getElem?_set_self']at h
  cases q:l[i]? with
  |none=>rw[q]at h; cases h
  |some c =>
   rw[q]at h
   cases h
   exact .inl ⟨rfl,rfl,(List.getElem?_eq_some_iff.mp q).1⟩
 ·rw[List.getElem?_set_ne e]at h
  exact .inr ⟨Ne.symm e,h⟩
theorem afU{α : Type}{l:List α}{i:Nat}{a : α}(h:i<l.length):(l.set i a)[i]?=some a:=by
 rw[List.getElem?_set_self' ,List.getElem?_eq_getElem h]
 rfl
theorem EOk.anB{W:Addr->Prop}{ρ : En}{σ : St}{H:Hp}{i:Nat}{v:V}{T:Tr}(e:EOk t W ρ σ H)(r:Rep t.K (aa7 W H) v T):EOk t W (ρ.set i (.sh T)) (σ.set i (some v)) H:=by
 have mu:∀j,Mu (ρ.set i (.sh T)) j->j≠i/\Mu ρ j:=λj h=>by
  obtain⟨ts,h|h⟩:=h <;> rcases get_set h with⟨rfl,z,_⟩|⟨ne,h⟩
  ·cases z
  ·exact⟨ne,ts,.inl h⟩
  ·cases z
  ·exact⟨ne,ts,.inr h⟩
 have dpo:∀j us,(ρ.set i (.sh T))[j]?=some (.dp us)->j≠i/\ρ[j]?=some (.dp us):=λj us h=>by
  rcases get_set h with⟨rfl,z,_⟩|⟨ne,h⟩
  ·cases z
  ·exact⟨ne,h⟩
 obtain⟨F,e⟩:=e
 refine⟨F,by rw[List.length_set,List.length_set]; exact e.len,e.zw,e.z0,e.wl,e.f0,e.n0,λj u h=>?_,λj ts h=>?_,λj ts h=>?_,λj k a h1 h2 q1 q2=>?_,e.pn,λj a m q=>e.pd j a (mu j m).2 (by rw[List.getElem?_set_ne (Ne.symm (mu j m).1)]at q; exact q),
  λj us h=>?_,λj k us ws n h1 h2=>e.dd j k us ws n (dpo j us h1).2 (dpo k ws h2).2,λj k us c h1 m q=>e.dm j k us c (dpo j us h1).2 (mu k m).2 (by rw[List.getElem?_set_ne (Ne.symm (mu k m).1)]at q; exact q),λj us h=>e.db j us (dpo j us h).2,e.tab⟩
 ·rcases get_set h with⟨rfl,z,l⟩|⟨ne,h⟩
  ·cases z
   exact⟨v,afU (by rw[<-e.len]; exact l),r⟩
  ·obtain⟨w,h1,h2⟩:=e.sh j u h
   exact⟨w,by rw[List.getElem?_set_ne (Ne.symm ne)]; exact h1,h2⟩
 ·rcases get_set h with⟨rfl,z,l⟩|⟨ne,h⟩
  ·cases z
  ·obtain⟨a,xs,h1,h2⟩:=e.ow j ts h
   exact⟨a,xs,by rw[List.getElem?_set_ne (Ne.symm ne)]; exact h1,h2⟩
 ·rcases get_set h with⟨rfl,z,l⟩|⟨ne,h⟩
  ·cases z
  ·obtain⟨a,xs,h1,h2⟩:=e.rf j ts h
   exact⟨a,xs,by rw[List.getElem?_set_ne (Ne.symm ne)]; exact h1,h2⟩
 ·obtain⟨n1,m1⟩:=mu j h1
  obtain⟨n2,m2⟩:=mu k h2
  rw[List.getElem?_set_ne (Ne.symm n1)]at q1
  rw[List.getElem?_set_ne (Ne.symm n2)]at q2
  exact e.dis j k a m1 m2 q1 q2
 ·obtain⟨ne,h⟩:=dpo j us h
  obtain⟨c,ys,h1,d⟩:=e.dp j us h
  exact⟨c,ys,by rw[List.getElem?_set_ne (Ne.symm ne)]; exact h1,d⟩
theorem EOk.addr{W:Addr->Prop}{ρ : En}{σ : St}{H:Hp}{i:Nat}{a:Addr}(e:EOk t W ρ σ H)(m:Mu ρ i)(q : σ[i]?=some (some (.ref a))):W a:=by
 obtain⟨ts,h|h⟩:=m
 ·obtain⟨b,xs,h1,h2,_⟩:=e.ow i ts h
  rw[q]at h1
  cases h1
  exact h2
 ·obtain⟨b,xs,h1,h2,_⟩:=e.rf i ts h
  rw[q]at h1
  cases h1
  exact h2
theorem EOk.auv{W:Addr->Prop}{ρ : En}{σ : St}{H:Hp}{i:Nat}{a:Addr}{xs:List V}{ts:List Tr}(e0:EOk t W ρ σ H)(nw:¬W a)(e:EOh t W a ρ σ H)(h0:t.H0 a=none)(hB:t.B a=none)(ha:H a=some (.lst xs))(r:aa2 t.K (off a (aa7 W H)) xs ts) :
  EOk t (λb=>W b\/b=a) (ρ.set i (.ow ts)) (σ.set i (some (.ref a))) H:=by
 have mu:∀j,Mu (ρ.set i (.ow ts)) j->j=i\/(j≠i/\Mu ρ j):=λj h=>by
  obtain⟨ts,h|h⟩:=h <;> rcases get_set h with⟨rfl,z,_⟩|⟨ne,h⟩
  ·exact .inl rfl
  ·exact .inr ⟨ne,ts,.inl h⟩
  ·exact .inl rfl
  ·exact .inr ⟨ne,ts,.inr h⟩
 have m:Same (off a (aa7 W H)) (aa7 (λb=>W b\/b=a) H):=λb o q=>by
  obtain⟨ne,q⟩:=aeW q
  obtain⟨n,q⟩:=abl q
  rw[aaZ]
  ·exact q
  ·rintro(z|z)
   ·exact n z
   ·exact ne z
 have dpo:∀j us,(ρ.set i (.ow ts))[j]?=some (.dp us)->j≠i/\ρ[j]?=some (.dp us):=λj us h=>by
  rcases get_set h with⟨rfl,z,_⟩|⟨ne,h⟩
  ·cases z
  ·exact⟨ne,h⟩
 obtain⟨F,e,na⟩:=e
 refine⟨F,by rw[List.length_set,List.length_set]; exact e.len,e.zw,e.z0,e.wl,e.f0,e.n0,λj u h=>?_,λj us h=>?_,λj us h=>?_,λj k c h1 h2 q1 q2=>?_,e.pn,λj c m q=>?_,
  λj us h=>?_,λj k us ws n h1 h2=>e.dd j k us ws n (dpo j us h1).2 (dpo k ws h2).2,λj k us c h1 m q=>?_,λj us h=>e.db j us (dpo j us h).2,e.tab⟩
 ·rcases get_set h with⟨rfl,z,l⟩|⟨ne,h⟩
  ·cases z
  ·obtain⟨w,h1,h2⟩:=e.sh j u h
   exact⟨w,by rw[List.getElem?_set_ne (Ne.symm ne)]; exact h1,h2⟩
 ·rcases get_set h with⟨rfl,z,l⟩|⟨ne,h⟩
  ·cases z
   exact⟨a,xs,afU (by rw[<-e.len]; exact l),.inr rfl,h0,ha,r.mono m⟩
  ·obtain⟨c,ys,h1,h2⟩:=e.ow j us h
   exact⟨c,ys,by rw[List.getElem?_set_ne (Ne.symm ne)]; exact h1,h2⟩
 ·rcases get_set h with⟨rfl,z,l⟩|⟨ne,h⟩
  ·cases z
  ·obtain⟨c,ys,h1,h2⟩:=e.rf j us h
   exact⟨c,ys,by rw[List.getElem?_set_ne (Ne.symm ne)]; exact h1,h2⟩
 ·have old:∀j,j≠i->Mu ρ j->(σ.set i (some (.ref a)))[j]? ≠ some (some (.ref a)):=λj ne m q=>by
   rw[List.getElem?_set_ne (Ne.symm ne)]at q
   exact nw (e0.addr m q)
  have self:∀c,(σ.set i (some (V.ref a)))[i]?=some (some (.ref c))->c=a:=λc q=>by
   rcases get_set q with⟨_,z,_⟩|⟨ne,_⟩
   ·cases z; rfl
   ·exact absurd rfl ne
  rcases mu j h1 with rfl|⟨n1,m1⟩ <;> rcases mu k h2 with rfl|⟨n2,m2⟩
  ·rfl
  ·have:=self c q1
   subst this
   exact(old k n2 m2 q2).elim
  ·have:=self c q2
   subst this
   exact(old j n1 m1 q1).elim
  ·rw[List.getElem?_set_ne (Ne.symm n1)]at q1
   rw[List.getElem?_set_ne (Ne.symm n2)]at q2
   exact e.dis j k c m1 m2 q1 q2
 ·rcases mu j m with rfl|⟨n1,m1⟩
  ·rcases get_set q with⟨_,z,_⟩|⟨ne,_⟩
   ·cases z; exact hB
   ·exact absurd rfl ne
  ·rw[List.getElem?_set_ne (Ne.symm n1)]at q
   exact e.pd j c m1 q
 ·obtain⟨ne,h⟩:=dpo j us h
  obtain⟨c,ys,h1,d⟩:=e.dp j us h
  exact⟨c,ys,by rw[List.getElem?_set_ne (Ne.symm ne)]; exact h1,d⟩
 ·obtain⟨nj,hj⟩:=dpo j us h1
  rcases mu k m with rfl|⟨n2,m2⟩
  ·rcases get_set q with⟨_,z,_⟩|⟨nk,_⟩
   ·cases z
    exact na j us hj
   ·exact absurd rfl nk
  ·rw[List.getElem?_set_ne (Ne.symm n2)]at q
   exact e.dm j k us c hj m2 q
theorem EOk.noB{W:Addr->Prop}{ρ : En}{σ : St}{H:Hp}{a:Addr}(e:EOk t W ρ σ H)(n:H a=none):t.B a=none:=by
 cases q:t.B a with
 |none=>rfl
 |some o=>rw[e.pn a o q]at n; cases n
noncomputable abbrev GF:=Tr->En->Rs En
noncomputable def SG(t:Tx)(g:TG)(f:GF)(js:List Nat):Prop:=∀W ρ σ H v T Q,EOk t W ρ σ H->Rep t.K (aa7 W H) v T->(f T ρ).post (λ_=>False) (λρ'=>∀σ',EOk t W ρ' σ' H->(∀k,k∉js -> σ'[k]?=σ[k]?)->Q σ' H)->g v σ H Q
noncomputable def gN(i:Nat):GF:=λT ρ=>.ok (ρ.set i (.sh T))
theorem aaq(i:Nat):SG t (acp i) (gN i) [i]:=λW ρ σ H v T Q e r h=>h _ (e.anB r) λk n=>List.getElem?_set_ne (λz=>n (by rw[z]; exact List.mem_singleton.mpr rfl))
noncomputable abbrev GFs:=List Tr->En->Rs En
noncomputable def SGs(t:Tx)(g:TGs)(f:GFs)(js:List Nat):Prop:=∀W ρ σ H vs Ts Q,EOk t W ρ σ H->aa2 t.K (aa7 W H) vs Ts->(f Ts ρ).post (λ_=>False) (λρ'=>∀σ',EOk t W ρ' σ' H->(∀k,k∉js -> σ'[k]?=σ[k]?)->Q σ' H)->g vs σ H Q
noncomputable def ac6:GFs:=λTs ρ=>match Ts with
 | []=>.ok ρ
 |_=>.bad
noncomputable def aaV(f:GF)(g:GFs):GFs:=λTs ρ=>match Ts with
 |T::r=>(f T ρ).bind λρ'=>g r ρ'
 | []=>.bad
theorem afi:SGs t awy ac6 []:=λW ρ σ H vs Ts Q e r h=>by
 cases r with
 |nil=>exact⟨rfl,h σ e λ_ _=>rfl⟩
 |cons _ _=>exact h.elim
theorem ab1{g:TG}{u:TGs}{f:GF}{fs:GFs}{js ks:List Nat}(h1:SG t g f js)(h2:SGs t u fs ks):SGs t (al6 g u) (aaV f fs) (js++ks):=λW ρ σ H vs Ts Q e r h=>by
 cases r with
 |nil=>exact h.elim
 | @cons x T xs Ts r1 r2 =>
  refine⟨x,xs,rfl,h1 W ρ σ H x T _ e r1 (Rs.aam (Rs.aaf h) λρ' h σ' e' n1=>?_)⟩
  refine h2 W ρ' σ' H xs Ts _ e' r2 (Rs.aam h λρ2 h σ2 e2 n2=>h σ2 e2 λk n=>?_)
  rw[List.mem_append,not_or]at n
  rw[n2 k n.2,n1 k n.1]
noncomputable def gT(n:Nat)(f:GFs):GF:=λT ρ=>match T with
 |.tup Ts=>if Ts.length=n then f Ts ρ else .bad
 |_=>.bad
theorem ahd{K:PySem.W.Frag}(hK:t.K=nlK K){n:Nat}{u:TGs}{fs:GFs}{js:List Nat}(h2:SGs t u fs js):SG t (awz K n u) (gT n fs) js:=λW ρ σ H v T Q e r h=>by
 cases T <;> try exact h.elim
 rename_i Ts
 dsimp only[gT]at h
 split at h
 ·rename_i c
  cases r with
  | @tup a xs _ q r =>
   have q':=(abp W H).atc q
   rw[hK]at q'
   exact⟨a,xs,rfl,q'.toK,by rw[r.length]; exact c,h2 W ρ σ H xs Ts Q e r h⟩
 ·exact h.elim
noncomputable def abM(f:EF)(g:GF):SF:=λρ=>(f ρ).bind λp=>match p.1 with
 |.v T _=>(g T p.2).bind λρ'=>.ok (.nx,ρ')
 |.s _=>.bad
theorem aa0{te:TE}{g:TG}{f:EF}{gf:GF}{js:List Nat}(h1:SE t te f)(h2:SG t g gf js)(ng:∀T ρ c,gf T ρ ≠ .ex c):SS t (apd te g) (abM f gf):=λW ρ σ H D e h=>by
 refine h1 W ρ σ H _ e (Rs.aam (Rs.aaf h) λp h v H1 e1 s1 v1=>?_)
 obtain⟨r,ρ1⟩:=p
 cases r with
 |s i=>exact h.elim
 |v T fr=>exact h2 W ρ1 σ H1 v T _ e1 (v1.1.rep e.wn) (Rs.aam (aki (Rs.aaf h) (ng T ρ1)) λρ' h σ' e' _=>h W σ' H1 e' s1.nxt)
noncomputable def aii(i:Nat)(f:EF):SF:=λρ=>(f ρ).bind λp=>match p.1 with
 |.v (.lst ts) true=>.ok (.nx,p.2.set i (.ow ts))
 |_=>.bad
theorem afy{te:TE}{f:EF}(i:Nat)(h1:SE t te f):SS t (apd te (acp i)) (aii i f):=λW ρ σ H D e h=>by
 refine h1 W ρ σ H _ e (Rs.aam (Rs.aaf h) λp h v H1 e1 s1 v1=>?_)
 obtain⟨r,ρ1⟩:=p
 dsimp only at h
 split at h
 ·rename_i ts
  obtain⟨⟨a,xs,us,rfl,z,n,q,rr⟩,he⟩:=v1
  cases z
  have nw:¬W a:=λw=>e.wn a w n
  refine h _ _ H1 (e1.auv nw (he _ a rfl rfl) (e.n0 a n) (e.noB n) q rr) λb o nb hb=>⟨?_,s1.keep b o nb hb⟩
  rintro(z|rfl)
  ·exact nb z
  ·rw[n]at hb; cases hb
 ·exact h.elim
noncomputable def ac3(f:EF):SF:=λρ=>(f ρ).bind λp=>.ok (.nx,p.2)
theorem acu{te:TE}{f:EF}(h1:SE t te f):SS t (arf te) (ac3 f):=λW ρ σ H D e h =>
 h1 W ρ σ H _ e (Rs.aam (Rs.aaf h) λp h v H1 e1 s1 v1=>h W σ H1 e1 s1.nxt)
noncomputable def abm(f:EF):SF:=λρ=>(f ρ).bind λp=>match p.1 with
 |.v T fr=>.ok (.rt T fr,p.2)
 |.s i=>match p.2[i]? with
  |some (.ow ts)=>.ok (.rt (.lst ts) true,p.2)
  |_=>.bad
theorem aly{W:Addr->Prop}{ρ : En}{σ : St}{H:Hp}(e:EOk t W ρ σ H):Same (aa7 W H) (aa7 t.Z H):=acq (λb _ _ z=>e.zw b z) λ_ _ _ h=>h
theorem aaC{te:TE}{f:EF}(h1:SE t te f):SS t (ayM te) (abm f):=λW ρ σ H D e h=>by
 refine h1 W ρ σ H _ e (Rs.aam (Rs.aaf h) λp h v H1 e1 s1 v1=>?_)
 obtain⟨r,ρ1⟩:=p
 cases r with
 |v T fr =>
  refine h v W σ H1 e1 ?_
  cases fr with
  |false=>exact Rep.mono (aly e1) v1.1
  |true =>
   obtain⟨a,xs,us,rfl,z,n,q,rr⟩:=v1.1
   refine⟨a,xs,us,rfl,z,e.n0 a n,q,rr.mono λb o q=>?_⟩
   obtain⟨ne,q⟩:=aeW q
   rw[off_ne ne]
   exact aly e1 b o q
 |s i =>
  dsimp only at h
  split at h
  ·rename_i ts q
   obtain⟨a,xs,h1,h2,h3,h4,h5⟩:=e1.ow i ts q
   have ev : σ[i]?=some (some v):=v1.1
   rw[ev]at h1
   cases h1
   refine h _ W σ H1 e1 ⟨a,xs,ts,rfl,rfl,h3,h4,h5.mono λb o q=>?_⟩
   have ne:b≠a:=λz=>by subst z; rw[aiH h2]at q; cases q
   rw[off_ne ne]
   exact aly e1 b o q
  ·exact h.elim
noncomputable def sIf(c:BF)(f g:SF):SF:=λρ=>(c ρ).bind λp=>if p.1=true then f p.2 else g p.2
theorem acL{tc:TT}{ta tb:TS}{c:BF}{f g:SF}(hc:ST t tc c)(ha:SS t ta f)(hb:SS t tb g):SS t (ayN tc ta tb) (sIf c f g):=λW ρ σ H D e h=>by
 refine hc W ρ σ H _ e (Rs.aam (Rs.aaf h) λp h H1 e1 s1=>?_)
 split at h
 ·rename_i d
  refine if_pos d▸ha W p.2 σ H1 D e1 (Rs.aam h λq h=>h.back s1.nxt)
 ·rename_i d
  refine if_neg d▸hb W p.2 σ H1 D e1 (Rs.aam h λq h=>h.back s1.nxt)
noncomputable def frz(i:Nat)(ρ : En):En:=match ρ[i]? with
 |some (.ow ts)=>ρ.set i (.sh (.lst ts))
 |_=>ρ
end
end L2
end
section
namespace L2
open PySem PySem.Spec PyProof.Rows
section
variable {t:Tx}
theorem EOk.frz{W:Addr->Prop}{ρ : En}{σ : St}{H:Hp}(e:EOk t W ρ σ H)(i:Nat):∃W',EOk t W' (L2.frz i ρ) σ H/\Nxt W H W' H:=by
 unfold L2.frz
 split
 ·rename_i ts q
  obtain⟨a,xs,h1,h2,h3,h4,h5⟩:=e.ow i ts q
  have m:Same (aa7 W H) (aa7 (λb=>W b/\b≠a) H):=acq (λ_ _ _ z=>z.1) λ_ _ _ h=>h
  have mi:Mu ρ i:=⟨ts,.inl q⟩
  have mu:∀j,Mu (ρ.set i (.sh (.lst ts))) j->j≠i/\Mu ρ j:=λj h=>by
   obtain⟨us,h|h⟩:=h <;> rcases get_set h with⟨rfl,z,_⟩|⟨ne,h⟩
   ·cases z
   ·exact⟨ne,us,.inl h⟩
   ·cases z
   ·exact⟨ne,us,.inr h⟩
  have nea:∀j c,j≠i->Mu ρ j -> σ[j]?=some (some (.ref c))->c≠a:=λj c ne mj qj z=>by
   subst z
   exact ne (e.dis j i c mj mi qj h1)
  have dpo:∀(j:Nat) (us:List Tr),(ρ.set i (.sh (.lst ts)))[j]?=some (Sl.dp us) -> ρ[j]?=some (Sl.dp us):=λj us h=>by
   rcases get_set h with⟨rfl,z,_⟩|⟨ne,h⟩
   ·cases z
   ·exact h
  obtain⟨F,e⟩:=e
  refine⟨λb=>W b/\b≠a,⟨F,by rw[List.length_set]; exact e.len,λb z=>⟨e.zw b z,λy=>?_⟩,e.z0,λb w=>e.wl b w.1,e.f0,e.n0,λj u h=>?_,λj us h=>?_,λj us h=>?_,λj k c m1 m2 q1 q2=>e.dis j k c (mu j m1).2 (mu k m2).2 q1 q2,e.pn,λj c m q=>e.pd j c (mu j m).2 q,λj us h=>?_,λj k us ws n h1 h2=>e.dd j k us ws n (dpo j us h1) (dpo k ws h2),λj k us c h1 m q=>e.dm j k us c (dpo j us h1) (mu k m).2 q,λj us h=>e.db j us (dpo j us h),e.tab.cut (D:=λb=>b=a) (λb z=>⟨xs,by rw[z]; exact h4⟩)⟩,λb o n h=>⟨λz=>n z.1,h⟩⟩
  ·subst y
   exact e.z0 b z h3
  ·rcases get_set h with⟨rfl,z,l⟩|⟨ne,h⟩
   ·cases z
    refine⟨.ref a,h1,.lst (SqL.of ?_) (h5.mono m)⟩
    rw[aaZ λz=>z.2 rfl]
    exact h4
   ·obtain⟨w,q1,q2⟩:=e.sh j u h
    exact⟨w,q1,q2.mono m⟩
  ·rcases get_set h with⟨rfl,z,l⟩|⟨ne,h⟩
   ·cases z
   ·obtain⟨c,ys,q1,q2,q3,q4,q5⟩:=e.ow j us h
    exact⟨c,ys,q1,⟨q2,nea j c ne ⟨us,.inl h⟩ q1⟩,q3,q4,q5.mono m⟩
  ·rcases get_set h with⟨rfl,z,l⟩|⟨ne,h⟩
   ·cases z
   ·obtain⟨c,ys,q1,q2,q3,q4,q5⟩:=e.rf j us h
    exact⟨c,ys,q1,⟨q2,nea j c ne ⟨us,.inr h⟩ q1⟩,q3,q4,q5.mono m⟩
  ·obtain⟨c,ys,q1,d⟩:=e.dp j us (dpo j us h)
   exact⟨c,ys,q1,d.move rfl rfl m (λb hb=>⟨by obtain⟨_,_,_,ww,_⟩:=d; exact(ww b hb).1,λz=>by subst z; exact e.dm j i us b (dpo j us h) mi h1 hb⟩) λ_ _ _ q=>q⟩
 ·exact⟨W,e,Nxt.refl _ _⟩
noncomputable def atg(i:Nat)(f:SF):SF:=λρ=>f (frz i ρ)
theorem aqN{ts:TS}{f:SF}(i:Nat)(h:SS t ts f):SS t ts (atg i f):=λW ρ σ H D e q=>by
 obtain⟨W',e',n⟩:=e.frz i
 exact h W' _ σ H D e' (Rs.aam q λp q=>q.back n)
noncomputable def aeF(c:BF)(b:SF):Nat->SF
 | 0=>λ_=>.bad
 | n + 1=>λρ => (c ρ).bind λp=>if p.1=true then (b p.2).bind λq=>(match q.1 with
  |.nx=>aeF c b n q.2
  |.ct=>aeF c b n q.2
  |.bk=>.ok (.nx,q.2)
  |.rt T fr=>.ok (.rt T fr,q.2))else .ok (.nx,p.2)
noncomputable def adf(fu:En->Nat)(c:BF)(b:SF):SF:=λρ=>aeF c b (fu ρ) ρ
theorem aiM{tc:TT}{tb:TS}{c:BF}{b:SF}(fu:En->Nat)(hc:ST t tc c)(hb:SS t tb b):SS t (aqD tc tb) (adf fu c b):=λW ρ σ H D e h=>by
 refine⟨λm σ' H'=>∃ρ' W',EOk t W' ρ' σ' H'/\(aeF c b m ρ').post t.EX (aiL t W' H' D),⟨fu ρ,ρ,W,e,h⟩,?_⟩
 rintro m σ1 H1 ⟨ρ1,W1,e1,h1⟩
 cases m with
 |zero=>exact h1.elim
 |succ n =>
  refine hc W1 ρ1 σ1 H1 _ e1 (Rs.aam (Rs.aaf h1) λp h H2 e2 s2=>?_)
  split at h
  ·rename_i d
   rw[if_pos d]
   refine⟨λσ' H'=>∃ρ' W',EOk t W' ρ' σ' H'/\(aeF c b n ρ').post t.EX (aiL t W' H' D),λσ' H' q=>⟨n,Nat.lt_succ_self n,q⟩,?_⟩
   refine hb W1 p.2 σ1 H2 _ e2 (Rs.aam (Rs.aaf h) λq h=>?_)
   obtain⟨fl,ρ3⟩:=q
   cases fl with
   |nx=>exact λW3 σ3 H3 e3 n3=>⟨ρ3,W3,e3,Rs.aam h λr h=>h.back (s2.nxt.trans n3)⟩
   |ct=>exact λW3 σ3 H3 e3 n3=>⟨ρ3,W3,e3,Rs.aam h λr h=>h.back (s2.nxt.trans n3)⟩
   |bk=>exact λW3 σ3 H3 e3 n3=>h W3 σ3 H3 e3 (s2.nxt.trans n3)
   |rt T fr=>exact h
  ·rename_i d
   rw[if_neg d]
   exact h W1 σ1 H2 e2 s2.nxt
noncomputable def ath(K:PySem.W.Frag)(W:Addr->Prop)(H:Hp)(J:It)(us:List Tr):Prop:=∀W' H',Same (aa7 W H) (aa7 W' H')->(∀b,W' b->Lt H' b)->∀i,(i=us.length->J.stop i H')/\∀u,us[i]?=some u->J.go i H'/\∀x H'',J.yld i H' x H''->Same H' H''/\Rep K (aa7 W' H'') x u
noncomputable abbrev IF:=En->Rs (List Tr × En)
noncomputable def SI(t:Tx)(wi:TI)(f:IF):Prop:=∀W ρ σ H R,EOk t W ρ σ H->(f ρ).post t.EX (λp=>∀J H',EOk t W p.2 σ H'->Stp W H H'->ath t.K W H' J p.1->R J H')->wi σ H R
noncomputable def abC(g:GF)(b:SF):List Tr->SF
 | []=>λρ=>.ok (.nx,ρ)
 | u :: us=>λρ => (g u ρ).bind λρ1=>(b ρ1).bind λq=>(match q.1 with
  |.nx=>abC g b us q.2
  |.ct=>abC g b us q.2
  |.bk=>.ok (.nx,q.2)
  |.rt T fr=>.ok (.rt T fr,q.2))
noncomputable def ad0(fi:IF)(g:GF)(b:SF):SF:=λρ=>(fi ρ).bind λp=>abC g b p.1 p.2
theorem aec{wi:TI}{g:TG}{tb:TS}{fi:IF}{gf:GF}{b:SF}{js:List Nat}(hi:SI t wi fi)(hg:SG t g gf js)(ng:∀T ρ c,gf T ρ ≠ .ex c)(hb:SS t tb b):SS t (ayS wi g tb) (ad0 fi gf b):=λW ρ σ H D e h=>by
 refine hi W ρ σ H _ e (Rs.aam (Rs.aaf h) λp h J H1 e1 s1 it=>?_)
 obtain⟨us,ρ1⟩:=p
 dsimp only at h it e1
 refine⟨λi m σ' H'=>m=us.length-i/\i<=us.length/\∃ρ' W',EOk t W' ρ' σ' H'/\Nxt W H1 W' H'/\(abC gf b (us.drop i) ρ').post t.EX (aiL t W' H' D),⟨us.length,by simp,Nat.zero_le _,ρ1,W,e1,Nxt.refl _ _,by rw[List.drop_zero]; exact Rs.aam h λr h=>h.back s1.nxt⟩,?_⟩
 rintro i m σ2 H2 ⟨rfl,hi,ρ2,W2,e2,n2,h2⟩
 have q:=it W2 H2 n2.same e2.wl i
 by_cases hlt:i<us.length
 ·rw[List.drop_eq_getElem_cons hlt]at h2
  obtain⟨go,y⟩:=q.2 us[i] (by simp[hlt])
  refine .inr ⟨go,λσ' H'=>∃ρ' W',EOk t W' ρ' σ' H'/\Nxt W H1 W' H'/\(abC gf b (us.drop (i+1)) ρ').post t.EX (aiL t W' H' D),λσ' H' z=>⟨us.length-(i+1),by omega,rfl,hlt,z⟩,λx H3 yl=>?_⟩
  obtain⟨s3,r3⟩:=y x H3 yl
  have e3:=e2.grow s3
  have n3:Nxt W H1 W2 H3:=n2.trans (Stp.of s3).nxt
  refine hg W2 ρ2 σ2 H3 x us[i] _ e3 r3 (Rs.aam (aki (Rs.aaf h2) (ng _ _)) λρ4 h σ4 e4 _=>?_)
  refine hb W2 ρ4 σ4 H3 _ e4 (Rs.aam (Rs.aaf h) λr h=>?_)
  obtain⟨fl,ρ5⟩:=r
  cases fl with
  |nx=>exact λW5 σ5 H5 e5 n5=>⟨ρ5,W5,e5,n3.trans n5,Rs.aam h λr h=>h.back ((Stp.of s3).nxt.trans n5)⟩
  |ct=>exact λW5 σ5 H5 e5 n5=>⟨ρ5,W5,e5,n3.trans n5,Rs.aam h λr h=>h.back ((Stp.of s3).nxt.trans n5)⟩
  |bk=>exact λW5 σ5 H5 e5 n5=>h W5 σ5 H5 e5 ((Stp.of s3).nxt.trans n5)
  |rt T fr=>exact h
 ·have z:i=us.length:=by omega
  subst z
  rw[List.drop_length]at h2
  exact .inl ⟨q.1 rfl,h2 W2 σ2 H2 e2 (Nxt.refl _ _)⟩
noncomputable def iSq(K:PySem.W.Frag)(tl:TE):TI:=λσ H R=>atA K tl σ H R\/ayR K tl σ H R
theorem acr{X:Cx}{tg l:Expr}{tl:TE}(hl:PE X l tl):PI X tg l (iSq X.K tl):=λpins s σ H R I h=>by
 rcases h with h|h
 ·exact arj hl pins s σ H R I h
 ·exact atB hl pins s σ H R I h
noncomputable def acD:Rv->Rs (List Tr × Bool)
 |.v (.lst ts) _=>.ok (ts,true)
 |.v (.tup ts) _=>.ok (ts,false)
 |_=>.bad
noncomputable def fSq(f:EF):IF:=λρ=>(f ρ).bind λp=>(acD p.1).bind λz=>.ok (z.1,p.2)
theorem arQ{K:PySem.W.Frag}{W:Addr->Prop}{H:Hp}{a:Addr}{xs:List V}{us:List Tr}(q:SqL (nlK K) (aa7 W H) a xs)(r:aa2 (nlK K) (aa7 W H) xs us):ath (nlK K) W H (Itl K a) us:=λW' H' m hw i=>by
 have q':SqL K H' a xs:=((abp W' H').seq (m.seq q)).toK
 refine⟨λz=>⟨xs,q',by rw[r.length]; omega⟩,λu hu=>?_⟩
 obtain⟨x,hx,rx⟩:=r.apz hu
 refine⟨⟨xs,x,q',hx⟩,λy H'' yl=>?_⟩
 obtain⟨rfl,z⟩:=yl
 have:=z xs q'
 rw[hx]at this
 cases this
 exact⟨Same.refl _,rx.mono m⟩
theorem auw{K:PySem.W.Frag}{W:Addr->Prop}{H:Hp}{a:Addr}{xs:List V}{us:List Tr}(q:SqT (nlK K) (aa7 W H) a xs)(r:aa2 (nlK K) (aa7 W H) xs us):ath (nlK K) W H (Itt K a) us:=λW' H' m hw i=>by
 have q':SqT K H' a xs:=((abp W' H').atc (m.atc q)).toK
 refine⟨λz=>⟨xs,q',by rw[r.length]; omega⟩,λu hu=>?_⟩
 obtain⟨x,hx,rx⟩:=r.apz hu
 refine⟨⟨xs,x,q',hx⟩,λy H'' yl=>?_⟩
 obtain⟨rfl,z⟩:=yl
 have:=z xs q'
 rw[hx]at this
 cases this
 exact⟨Same.refl _,rx.mono m⟩
theorem acz{K:PySem.W.Frag}(hK:t.K=nlK K){tl:TE}{f:EF}(h1:SE t tl f):SI t (iSq K tl) (fSq f):=λW ρ σ H R e h=>by
 have h:=Rs.aaf h
 have key:∀b:Bool,(f ρ).post t.EX (λp=>∃us,acD p.1=.ok (us,b)/\∀J H',EOk t W p.2 σ H'->Stp W H H'->ath t.K W H' J us->R J H')->iSq K tl σ H R:=λb h=>by
  cases b with
  |true =>
   refine .inl (h1 W ρ σ H _ e (Rs.aam h λp h v H1 e1 s1 v1=>?_))
   obtain⟨us,q,h⟩:=h
   obtain⟨r,ρ1⟩:=p
   cases r with
   |s i=>cases q
   |v T fr =>
    cases T <;> cases q
    have rr:=v1.1.rep e.wn
    cases rr with
    | @lst a xs _ q r =>
     refine⟨a,rfl,⟨xs,?_⟩,h _ H1 e1 s1 ?_⟩
     ·rw[hK]at q
      exact((abp _ _).seq q).toK
     ·rw[hK]at q r ⊢
      exact arQ q r
  |false =>
   refine .inr (h1 W ρ σ H _ e (Rs.aam h λp h v H1 e1 s1 v1=>?_))
   obtain⟨us,q,h⟩:=h
   obtain⟨r,ρ1⟩:=p
   cases r with
   |s i=>cases q
   |v T fr =>
    cases T <;> cases q
    have rr:=v1.1.rep e.wn
    cases rr with
    | @tup a xs _ q r =>
     refine⟨a,rfl,⟨xs,?_⟩,h _ H1 e1 s1 ?_⟩
     ·rw[hK]at q
      exact((abp _ _).atc q).toK
     ·rw[hK]at q r ⊢
      exact auw q r
 cases k:f ρ with
 |bad=>rw[k]at h; exact h.elim
 |ex c =>
  refine key true ?_
  rw[k]at h ⊢
  exact h
 |ok p =>
  rw[k]at h
  have h:((acD p.1).bind _).post _ _:=h
  cases k2:acD p.1 with
  |bad=>rw[k2]at h; exact h.elim
  |ex c =>
   exfalso
   revert k2
   unfold acD
   split <;> (intro z; cases z)
  |ok z =>
   rw[k2]at h
   refine key z.2 ?_
   rw[k]
   exact⟨z.1,k2,h⟩
noncomputable def upTo(lo:Int):Nat->List Tr
 | 0=>[]
 |n+1=>.int lo::upTo (lo+1) n
theorem apG(lo:Int):∀n,(upTo lo n).length=n:=λn=>by
 induction n generalizing lo with
 |zero=>rfl
 |succ n ih=>rw[upTo,List.length_cons,ih]
theorem apH{lo:Int}{n i:Nat}{u:Tr}(h:(upTo lo n)[i]?=some u):i<n/\u=.int (lo+i):=by
 induction n generalizing lo i with
 |zero=>simp[upTo]at h
 |succ n ih =>
  rw[upTo]at h
  cases i with
  |zero =>
   simp at h
   subst h
   exact⟨Nat.zero_lt_succ _,by simp⟩
  |succ i =>
   obtain⟨h1,h2⟩:=ih (lo:=lo+1) (i:=i) (by simpa using h)
   refine⟨Nat.succ_lt_succ h1,h2.trans ?_⟩
   congr 1
   omega
theorem apI{K:PySem.W.Frag}{W:Addr->Prop}{H:Hp}(lo:Int)(n:Nat):ath K W H (Itr lo n) (upTo lo n):=λW' H' m hw i=>by
 refine⟨λz=>?_,λu hu=>?_⟩
 ·rw[apG]at z
  exact Nat.le_of_eq z.symm
 ·obtain⟨h1,rfl⟩:=apH hu
  refine⟨h1,λx H'' yl=>?_⟩
  obtain⟨rfl,rfl⟩:=yl
  exact⟨Same.refl _,.int _⟩
noncomputable def okR(i:Int):Bool:=decide (-1000000<=i)&&decide (i<=1000000)
noncomputable def aeX(fa:AF):IF:=λρ=>(fa ρ).bind λp=>(drs p.2 p.1).bind λas=>match as with
 | [.int j]=>if okR j=true then .ok (upTo 0 j.toNat,p.2)else .bad
 |_=>.bad
theorem aeG{ta:TA}{fa:AF}(ha:SA t ta fa):SI t (ark ta) (aeX fa):=λW ρ σ H R e h=>by
 refine ha W ρ σ H _ e (Rs.aam (Rs.aaf h) λp h vs H1 e1 s1 v1=>?_)
 obtain⟨as,k1,h⟩:=abZ (Rs.aaf h) (ag8 _ _)
 have r:=alx e1 e.wn v1 k1
 split at h
 ·rename_i j
  split at h
  ·rename_i c
   unfold okR at c
   rw[Bool.and_eq_true]at c
   have c1:=of_decide_eq_true c.1
   have c2:=of_decide_eq_true c.2
   cases r with
   |cons h1 r1 =>
    cases r1
    rw[h1.int]
    exact⟨j,rfl,by omega,by omega,h _ H1 e1 s1 (apI 0 _)⟩
  ·exact h.elim
 ·exact h.elim
noncomputable def axl(fa:AF):IF:=λρ=>(fa ρ).bind λp=>(drs p.2 p.1).bind λas=>match as with
 | [.int i,.int j]=>if okR i=true/\okR j=true then .ok (upTo i (j-i).toNat,p.2)else .bad
 |_=>.bad
noncomputable def con(ρ : En)(i:Nat):Rs (List Tr):=match ρ[i]? with
 |some (.ow ts)=>.ok ts
 |some (.rf ts)=>.ok ts
 |_=>.bad
theorem afV(ρ : En)(i:Nat)(c:Str):con ρ i ≠ .ex c:=by
 unfold con
 split <;> (intro z; cases z)
noncomputable def abr(i:Nat)(us:List Tr)(ρ : En):En:=match ρ[i]? with
 |some (.ow _)=>ρ.set i (.ow us)
 |some (.rf _)=>ρ.set i (.rf us)
 |_=>ρ
theorem EOk.con{W:Addr->Prop}{ρ : En}{σ : St}{H:Hp}{i:Nat}{ts:List Tr}(e:EOk t W ρ σ H)(q:con ρ i=.ok ts):Mu ρ i/\∃a xs,σ[i]?=some (some (.ref a))/\W a/\H a=some (.lst xs)/\aa2 t.K (aa7 W H) xs ts/\(∀o,t.H0 a=some o->t.R a):=by
 unfold L2.con at q
 split at q
 ·rename_i us h
  cases q
  obtain⟨a,xs,h1,h2,h3,h4,h5⟩:=e.ow i ts h
  exact⟨⟨ts,.inl h⟩,a,xs,h1,h2,h4,h5,λo z=>by rw[h3]at z; cases z⟩
 ·rename_i us h
  cases q
  obtain⟨a,xs,h1,h2,h3,h4,h5⟩:=e.rf i ts h
  exact⟨⟨ts,.inr h⟩,a,xs,h1,h2,h4,h5,λo z=>h3⟩
 ·cases q
theorem afW{ρ : En}{i j:Nat}{us:List Tr}(h:Mu (abr i us ρ) j):Mu ρ j:=by
 unfold abr at h
 split at h
 ·rename_i ws q
  obtain⟨ts,h|h⟩:=h <;> rcases get_set h with⟨rfl,z,_⟩|⟨ne,h⟩
  ·exact⟨_,.inl q⟩
  ·exact⟨_,.inl h⟩
  ·exact⟨_,.inl q⟩
  ·exact⟨_,.inr h⟩
 ·rename_i ws q
  obtain⟨ts,h|h⟩:=h <;> rcases get_set h with⟨rfl,z,_⟩|⟨ne,h⟩
  ·exact⟨_,.inr q⟩
  ·exact⟨_,.inl h⟩
  ·exact⟨_,.inr q⟩
  ·exact⟨_,.inr h⟩
 ·exact h
theorem aiN{ρ : En}{i:Nat}{us:List Tr}:(abr i us ρ).length = ρ.length:=by
 unfold abr
 split
 ·rw[List.length_set]
 ·rw[List.length_set]
 ·rfl
theorem aei{ρ : En}{i j:Nat}{us:List Tr}{s:Sl}(h:(abr i us ρ)[j]?=some s):(j≠i/\ρ[j]?=some s)\/(j=i/\((∃ts,ρ[i]?=some (.ow ts)/\s=.ow us)\/(∃ts,ρ[i]?=some (.rf ts)/\s=.rf us)\/(¬Mu ρ i/\ρ[i]?=some s))):=by
 unfold abr at h
 split at h
 ·rename_i ws q
  rcases get_set h with⟨rfl,z,_⟩|⟨ne,h⟩
  ·exact .inr ⟨rfl,.inl ⟨ws,q,z⟩⟩
  ·exact .inl ⟨ne,h⟩
 ·rename_i ws q
  rcases get_set h with⟨rfl,z,_⟩|⟨ne,h⟩
  ·exact .inr ⟨rfl,.inr (.inl ⟨ws,q,z⟩)⟩
  ·exact .inl ⟨ne,h⟩
 ·rename_i n1 n2
  by_cases e:j=i
  ·subst e
   refine .inr ⟨rfl,.inr (.inr ⟨?_,h⟩)⟩
   rintro⟨ts,z|z⟩
   ·exact n1 ts z
   ·exact n2 ts z
  ·exact .inl ⟨e,h⟩
theorem aeH{ρ : En}{i j:Nat}{us ws:List Tr}(h:(abr i us ρ)[j]?=some (.dp ws)) : ρ[j]?=some (.dp ws):=by
 rcases aei h with⟨_,h⟩|⟨rfl,⟨_,_,z⟩|⟨_,_,z⟩|⟨_,h⟩⟩
 ·exact h
 ·cases z
 ·cases z
 ·exact h
theorem DR.lst{K:PySem.W.Frag}{G H:Hp}:∀{xs:List V} {ts:List Tr} {bs:List Addr},DR K G H xs ts bs->∀b∈bs,∃ys,H b=some (.lst ys)
 |_,_,_,.nil,_,h=>by cases h
 |_,_,_,.cl _ _ r,b,h=>DR.lst r b h
 |_,_,_,.rw q _ r,b,h=>by
  rcases List.mem_cons.mp h with rfl|h
  ·exact⟨_,q⟩
  ·exact DR.lst r b h
theorem aqJ.lst{t:Tx}{W:Addr->Prop}{H:Hp}{a:Addr}{xs:List V}{ts:List Tr}{fp:List Addr}(d:aqJ t W H a xs ts fp):∀b∈fp,∃ys,H b=some (.lst ys):=λb hb=>by
 obtain⟨bs,e,_,_,ha,r⟩:=d
 rw[e]at hb
 rcases List.mem_cons.mp hb with rfl|hb
 ·exact⟨_,ha⟩
 ·exact r.lst b hb
theorem aqJ.nt{t:Tx}{K:PySem.W.Frag}{W:Addr->Prop}{H:Hp}{a:Addr}{xs:List V}{ts:List Tr}{fp:List Addr}(d:aqJ t W H a xs ts fp)(tb:TbS K H){b:Addr}(z:Tb K b)(hb:b∈fp):False:=by
 obtain⟨ys,e⟩:=d.lst b hb
 exact tb.ne z e rfl
theorem EOk.auy{W:Addr->Prop}{ρ : En}{σ : St}{H:Hp}{i:Nat}{a:Addr}(e:EOk t W ρ σ H)(m:Mu ρ i)(q : σ[i]?=some (some (.ref a))):∃xs,H a=some (.lst xs):=by
 obtain⟨ts,h|h⟩:=m
 ·obtain⟨b,xs,h1,_,_,h4,_⟩:=e.ow i ts h
  rw[q]at h1
  cases h1
  exact⟨xs,h4⟩
 ·obtain⟨b,xs,h1,_,_,h4,_⟩:=e.rf i ts h
  rw[q]at h1
  cases h1
  exact⟨xs,h4⟩
theorem EOF.move{W W':Addr->Prop}{ρ : En}{σ : St}{H H':Hp}{i:Nat}{a:Addr}{xs:List V}{us:List Tr}{F:Nat->List Addr}(e:EOF t W ρ σ H F)(mi:Mu ρ i)(hi : σ[i]?=some (some (.ref a)))(m:Same (aa7 W H) (aa7 W' H'))(sub:∀b,W b->W' b)(wl:∀b,W' b->Lt H' b)
  (tb:TbS t.K H') (fr:∀b o,H b=some o->b≠a->¬Tb t.K b->H' b=some o) (dom:∀b,H' b=none->H b=none) (h0:∀o,t.H0 a=some o->t.R a) (ha:H' a=some (.lst xs)) (r:aa2 t.K (aa7 W' H') xs us):EOF t W' (abr i us ρ) σ H' F:=by
 have ne:∀j c,j≠i->Mu ρ j -> σ[j]?=some (some (.ref c))->c≠a:=λj c n mj q z=>by
  subst z
  exact n (e.dis j i c mj mi q hi)
 have nt:∀{c:Addr} {ys:List V},H c=some (.lst ys)->¬Tb t.K c:=λq z=>e.tab.ok.ne z q rfl
 refine⟨by rw[aiN]; exact e.len,λb z=>sub b (e.zw b z),e.z0,wl,λb o h n=>?_,λb h=>e.n0 b (dom b h),λj u h=>?_,λj ts h=>?_,λj ts h=>?_,λj k c h1 h2=>e.dis j k c (afW h1) (afW h2),λb o h=>fr b o (e.pn b o h) (λz=>by subst z; rw[e.pd i b mi hi]at h; cases h) (λz=>by rw[e.tab.B b z]at h; cases h),λj c m q=>e.pd j c (afW m) q,λj ws h=>?_,λj k ws zs n h1 h2=>e.dd j k ws zs n (aeH h1) (aeH h2),λj k ws c h1 m q=>e.dm j k ws c (aeH h1) (afW m) q,λj ws h=>e.db j ws (aeH h),⟨tb,λb z=>sub b (e.tab.w b z),e.tab.r,e.tab.B⟩⟩
 ·refine fr b o (e.f0 b o h n) (λz=>?_) λz=>n (e.tab.r b z)
  subst z
  exact n (h0 o h)
 ·rcases aei h with⟨n,h⟩|⟨rfl,⟨ts,q,z⟩|⟨ts,q,z⟩|⟨nm,h⟩⟩
  ·obtain⟨w,h1,h2⟩:=e.sh j u h
   exact⟨w,h1,h2.mono m⟩
  ·cases z
  ·cases z
  ·exact(nm mi).elim
 ·rcases aei h with⟨n,h⟩|⟨rfl,⟨ts',q,z⟩|⟨ts',q,z⟩|⟨nm,h⟩⟩
  ·obtain⟨c,ys,h1,h2,h3,h4,h5⟩:=e.ow j ts h
   exact⟨c,ys,h1,sub c h2,h3,fr c _ h4 (ne j c n ⟨ts,.inl h⟩ h1) (nt h4),h5.mono m⟩
  ·cases z
   obtain⟨c,ys,h1,h2,h3,h4,h5⟩:=e.ow j ts' q
   rw[hi]at h1
   cases h1
   exact⟨a,xs,hi,sub a h2,h3,ha,r⟩
  ·cases z
  ·exact(nm mi).elim
 ·rcases aei h with⟨n,h⟩|⟨rfl,⟨ts',q,z⟩|⟨ts',q,z⟩|⟨nm,h⟩⟩
  ·obtain⟨c,ys,h1,h2,h3,h4,h5⟩:=e.rf j ts h
   exact⟨c,ys,h1,sub c h2,h3,fr c _ h4 (ne j c n ⟨ts,.inr h⟩ h1) (nt h4),h5.mono m⟩
  ·cases z
  ·cases z
   obtain⟨c,ys,h1,h2,h3,h4,h5⟩:=e.rf j ts' q
   rw[hi]at h1
   cases h1
   exact⟨a,xs,hi,sub a h2,h3,ha,r⟩
  ·exact(nm mi).elim
 ·obtain⟨c,ys,h1,d⟩:=e.dp j ws (aeH h)
  exact⟨c,ys,h1,d.move rfl rfl m (λb hb=>sub b (by obtain⟨_,_,_,ww,_⟩:=d; exact(ww b hb).1)) λb o hb q=>fr b o q (λz=>by subst z; exact e.dm j i ws b (aeH h) mi hi hb) λz=>d.nt e.tab.ok z hb⟩
theorem EOk.move{W W':Addr->Prop}{ρ : En}{σ : St}{H H':Hp}{i:Nat}{a:Addr}{xs:List V}{us:List Tr}(e:EOk t W ρ σ H)(mi:Mu ρ i)(hi : σ[i]?=some (some (.ref a)))(m:Same (aa7 W H) (aa7 W' H'))(sub:∀b,W b->W' b)(wl:∀b,W' b->Lt H' b)
  (tb:TbS t.K H') (fr:∀b o,H b=some o->b≠a->¬Tb t.K b->H' b=some o) (dom:∀b,H' b=none->H b=none) (h0:∀o,t.H0 a=some o->t.R a) (ha:H' a=some (.lst xs)) (r:aa2 t.K (aa7 W' H') xs us):EOk t W' (abr i us ρ) σ H':=by
 obtain⟨F,e⟩:=e
 exact⟨F,e.move mi hi m sub wl tb fr dom h0 ha r⟩
theorem EOk.put{W:Addr->Prop}{ρ : En}{σ : St}{H:Hp}{i:Nat}{a:Addr}{xs:List V}{us:List Tr}(e:EOk t W ρ σ H)(mi:Mu ρ i)(hi : σ[i]?=some (some (.ref a)))(h0:∀o,t.H0 a=some o->t.R a)(r:aa2 t.K (aa7 W H) xs us):EOk t W (abr i us ρ) σ (upd H a (.lst xs))/\Stp W H (upd H a (.lst xs)):=by
 have w:=e.addr mi hi
 obtain⟨zs,hz⟩:=e.auy mi hi
 refine⟨e.move mi hi (by rw[adi w]; exact Same.refl _) (λ_ h=>h) (λb z=>?_) (e.tab.ok.upd hz) (λb o h n _=>by rw[aaG n]; exact h) (λb h=>?_) h0 abj (by rw[adi w]; exact r),⟨λb o n h=>?_,λb h=>?_⟩⟩
 ·by_cases q:b=a
  ·subst q; exact .inl ⟨xs,abj⟩
  ·unfold Lt; rw[aaG q]; exact e.wl b z
 ·by_cases q:b=a
  ·subst q; rw[abj]at h; cases h
  ·rw[aaG q]at h; exact h
 ·rw[aaG (λz=>n (by rw[z]; exact w))]; exact h
 ·by_cases q:b=a
  ·subst q; rw[abj]at h; cases h
  ·rw[aaG q]at h; exact h
noncomputable abbrev GM:=List Tr->List Tr->Rs (List Tr × Tr)
noncomputable def MtT(r:V->List V->Hp->VK->Prop)(m:GM):Prop:=∀(K:PySem.W.Frag) (G:Hp) a xs ts vs as H Q ts' T,H a=some (.lst xs)->aa2 K G xs ts->aa2 K G vs as->m ts as=.ok (ts',T)->(∀xs' v,aa2 K G xs' ts'->Rep K G v T->Q v (upd H a (.lst xs')))->r (.ref a) vs H Q
noncomputable def eMt(i:Nat)(m:GM)(fa:AF):EF:=λρ=>(con ρ i).bind λ_=>(fa ρ).bind λp=>(cls p.1).bind λas=>(con p.2 i).bind λts=>(m ts as).bind λz=>.ok (.v z.2 false,abr i z.1 p.2)
theorem auz{K:PySem.W.Frag}{r:V->List V->Hp->VK->Prop}{m:GM}{ta:TA}{fa:AF}(i:Nat)(hm:MtT r m)(ng:∀ts as c,m ts as ≠ .ex c)(ha:SA t ta fa):SE t (tBM K "list" r (am6 i) ta) (eMt i m fa):=λW ρ σ H Q e h=>by
 obtain⟨us,k0,h⟩:=abZ (Rs.aaf h) (afV _ _)
 obtain⟨_,a,xs,hi,_,hx,_⟩:=e.con k0
 refine⟨_,hi,.inl ⟨rfl,xs,SqL.of hx⟩,?_⟩
 refine ha W ρ σ H _ e (Rs.aam (Rs.aaf h) λp h vs H1 e1 s1 v1=>?_)
 obtain⟨as,k1,h⟩:=abZ (Rs.aaf h) (afR _)
 obtain⟨ts,k2,h⟩:=abZ (Rs.aaf h) (afV _ _)
 obtain⟨⟨ts',T⟩,k3,h⟩:=abZ (Rs.aaf h) (ng _ _)
 obtain⟨mi,a',ys,hi',w,hy,ry,h0⟩:=e1.con k2
 rw[hi]at hi'
 cases hi'
 refine hm t.K (aa7 W H1) a ys ts vs as H1 Q ts' T hy ry (aic e.wn v1 k1) k3 λxs' v r' rv=>?_
 obtain⟨e2,s2⟩:=e1.put mi hi h0 r'
 refine h v _ e2 (s1.trans s2) (.low ?_)
 rw[adi w]
 exact rv
noncomputable def azG(i:Nat)(m:GM):EF:=λρ=>(con ρ i).bind λts=>(m ts []).bind λz=>.ok (.v z.2 false,abr i z.1 ρ)
noncomputable def aij:GM:=λts as=>match as with
 | [T]=>if ts.length<=100000 then .ok (ts++[T],.non)else .bad
 |_=>.bad
theorem auA:MtT akm aij:=λK G a xs ts vs as H Q ts' T hx r ra q h=>by
 unfold aij at q
 split at q
 ·rename_i U
  split at q
  ·rename_i c
   cases q
   cases ra with
   |cons h1 r1 =>
    cases r1
    exact⟨a,xs,_,rfl,rfl,hx,Nat.lt_of_le_of_lt (by rw[r.length]; exact c) (by decide),h _ _ (r.app (.cons h1 .nil)) .non⟩
  ·cases q
 ·cases q
theorem arR(ts as:List Tr)(c:Str):aij ts as ≠ .ex c:=by
 unfold aij
 split <;> (try split) <;> (intro z; cases z)
theorem aa2.set{K:PySem.W.Frag}{H:Hp}{v:V}{T:Tr}(h:Rep K H v T):∀{xs:List V} {ts:List Tr} (j:Nat),aa2 K H xs ts->aa2 K H (xs.set j v) (ts.set j T)
 |_,_,_,.nil=>.nil
 |_,_,0,.cons _ r=>.cons h r
 |_,_,j+1,.cons h1 r=>.cons h1 (aa2.set h j r)
noncomputable def arS(i:Nat)(fk fe:EF):SF:=λρ=>(fe ρ).bind λp=>(cls [p.1]).bind λTs=>(con p.2 i).bind λ_=>(fk p.2).bind λq=>(dr q.2 q.1).bind λkT=>(iOf kT).bind λk=>(con q.2 i).bind λts=>match Ts,ixN ts.length k with
 | [T],some j=>.ok (.nx,abr i (ts.set j T) q.2)
 |_,_=>.bad
theorem arT{te ti:TE}{fk fe:EF}(i:Nat)(he:SE t te fe)(hk:SE t ti fk):SS t (apd te (ayP (am6 i) ti atX)) (arS i fk fe):=λW ρ σ H D e h=>by
 refine he W ρ σ H _ e (Rs.aam (Rs.aaf h) λp h v H1 e1 s1 v1=>?_)
 obtain⟨Ts,k1,h⟩:=abZ (Rs.aaf h) (afR _)
 obtain⟨us,k2,h⟩:=abZ (Rs.aaf h) (afV _ _)
 obtain⟨_,a,xs,hi,_,hx,_⟩:=e1.con k2
 refine⟨_,hi,hk W p.2 σ H1 _ e1 (Rs.aam (Rs.aaf h) λq h w H2 e2 s2 v2=>?_)⟩
 obtain⟨kT,k3,h⟩:=abZ (Rs.aaf h) (adR _ _)
 obtain⟨k,k4,h⟩:=abZ (Rs.aaf h) (anz _)
 obtain⟨ts,k5,h⟩:=abZ (Rs.aaf h) (afV _ _)
 obtain⟨mi,a',ys,hi',wa,hy,ry,h0⟩:=e2.con k5
 rw[hi]at hi'
 cases hi'
 have kk:∃T j,Ts=[T]/\ixN ts.length k=some j/\aiL t W H D (.nx,abr i (ts.set j T) q.2):=by
  cases Ts with
  |nil=>exact h.elim
  |cons T r =>
   cases r with
   |cons _ _=>exact h.elim
   |nil =>
    cases kj:ixN ts.length k with
    |none=>rw[kj]at h; exact h.elim
    |some j=>rw[kj]at h; exact⟨T,j,rfl,rfl,h⟩
 obtain⟨T,j,rfl,k6,h⟩:=kk
 ·have rv:Rep t.K (aa7 W H2) v T:=by
   have r1:=aic (vs:=[v]) e.wn (.cons v1.1 .nil) k1
   cases r1 with
   |cons r1 _=>exact r1.mono s2.off
  obtain⟨e3,s3⟩:=e2.put mi hi h0 (ry.set rv j)
  refine⟨a,ys,k,j,rfl,aqM (afw e2 e1.wn v2.1 k3) k4,hy,by rw[ry.length]; exact k6,h W σ _ e3 ?_⟩
  exact((s1.trans s2).trans s3).nxt
noncomputable def azH(i:Nat)(p:Int->Int->Int)(f:EF):SF:=λρ=>match ρ[i]? with
 |some (.sh (.int x))=>(f ρ).bind λq=>(dr q.2 q.1).bind λyT=>(iOf yT).bind λy=>.ok (.nx,q.2.set i (.sh (.int (p x y))))
 |_=>.bad
noncomputable def ati(i j:Nat)(fa:AF):SF:=λρ=>(fa ρ).bind λp=>(cls p.1).bind λTs=>match Ts with
 | [T,U]=>.ok (.nx,(p.2.set i (.sh T)).set j (.sh U))
 |_=>.bad
theorem aqO{ta:TA}{fa:AF}(i j:Nat)(ha:SA t ta fa):SS t (ayQ i j ta) (ati i j fa):=λW ρ σ H D e h=>by
 refine ha W ρ σ H _ e (Rs.aam (Rs.aaf h) λp h vs H1 e1 s1 v1=>?_)
 obtain⟨Ts,k1,h⟩:=abZ (Rs.aaf h) (afR _)
 have r:=aic e.wn v1 k1
 split at h
 ·cases r with
  |cons h1 r1 =>
   cases r1 with
   |cons h2 r2 =>
    cases r2
    exact⟨_,_,rfl,h W _ H1 ((e1.anB h1).anB h2) s1.nxt⟩
 ·exact h.elim
noncomputable def aik(c:Str)(f:EF):SF:=λρ=>(f ρ).bind λ_=>.ex c
noncomputable def F0(t:Tx)(H':Hp):Prop:=(∀b o,t.H0 b=some o->¬t.R b->H' b=some o)/\TbS t.K H'
theorem agO{E:XK}{C:Addr}{te:TE}{f:EF}{c:Str}(hx:∀H',F0 t H'->t.EX c->E (.ref C) none H')(he:SE t te f):SS t (aqI E C te) (aik c f):=λW ρ σ H D e h =>
 he W ρ σ H _ e (Rs.aam (Rs.aaf h) λp h v H1 e1 s1 v1=>⟨rfl,hx H1 ⟨e1.f0,e1.tab.ok⟩ h⟩)
end
end L2
end
section
namespace L2
open PySem PySem.Spec PyProof.Rows
mutual
noncomputable def alz:Tr->Bool
 |.tup ts=>adM ts
 |.lst _=>false
 |_=>true
noncomputable def adM:List Tr->Bool
 | []=>true
 |t::r=>alz t&&adM r
end
noncomputable def apJ(G G':Hp):Prop:=(∀b xs,(G b=some (.tup xs)->G' b=some (.tup xs))/\∀o,G b=some (.frz o (.tup xs))->G' b=some (.frz o (.tup xs)))/\∀b C,G b=some (exO b C)->G' b=some (exO b C)
mutual
theorem Rep.flat{K:PySem.W.Frag}{G G':Hp}(m:apJ G G'):∀{v:V} {T:Tr},Rep K G v T->alz T=true->Rep K G' v T
 |_,_,.non,_=>.non
 |_,_,.bl b,_=>.bl b
 |_,_,.int i,_=>.int i
 |_,_,.str x,_=>.str x
 |_,_,.tup h r,n=>by
  refine .tup ?_ (aa2.flat m r (by unfold alz at n; exact n))
  rcases h with(h|⟨o,h⟩)|h
  ·exact .inl (.inl ((m.1 _ _).1 h))
  ·exact .inl (.inr ⟨o,(m.1 _ _).2 o h⟩)
  ·exact .inr h
 |_,_,.lst h r,n=>by unfold alz at n; cases n
 |_,_,.exn h k n,_=>.exn (m.2 _ _ h) k n
theorem aa2.flat{K:PySem.W.Frag}{G G':Hp}(m:apJ G G'):∀{v:List V} {T:List Tr},aa2 K G v T->adM T=true->aa2 K G' v T
 |_,_,.nil,_=>.nil
 |_,_,.cons h r,n=>by
  unfold adM at n
  rw[Bool.and_eq_true]at n
  exact .cons (Rep.flat m h n.1) (aa2.flat m r n.2)
end
theorem ahe{W W':Addr->Prop}{H:Hp}(wl:∀b,W' b->Lt H b):apJ (aa7 W H) (aa7 W' H):=by
 have key:∀b o,aa7 W H b=some o->(∀ys,o ≠ .lst ys)->(∀ys,o ≠ .tbl ys)->aa7 W' H b=some o:=λb o h n n'=>by
  obtain⟨_,h⟩:=abl h
  rw[aaZ]
  ·exact h
  ·intro w
   rcases wl b w with⟨ys,e⟩|⟨ys,e⟩ <;> (rw[h]at e; cases e)
   ·exact n ys rfl
   ·exact n' ys rfl
 exact⟨λb xs=>⟨λh=>key _ _ h (λys z=>by cases z) (λys z=>by cases z),λo h=>key _ _ h (λys z=>by cases z) (λys z=>by cases z)⟩,λb C h=>key _ _ h (λys z=>by cases z) (λys z=>by cases z)⟩
theorem amk{a:Addr}{W:Addr->Prop}{H:Hp}{xs:List V}(wl:∀b,W b->Lt H b)(ha:H a=some (.lst xs))(G:Hp)(hG:∀b o,G b=some o->H b=some o):apJ G (off a (aa7 W H)):=by
 have key:∀b o,G b=some o->(∀ys,o ≠ .lst ys)->(∀ys,o ≠ .tbl ys)->off a (aa7 W H) b=some o:=λb o h n n'=>by
  have h:=hG b o h
  rw[off_ne,aaZ]
  ·exact h
  ·intro w
   rcases wl b w with⟨ys,e⟩|⟨ys,e⟩ <;> (rw[h]at e; cases e)
   ·exact n ys rfl
   ·exact n' ys rfl
  ·rintro rfl
   rw[h]at ha
   cases ha
   exact n _ rfl
 exact⟨λb xs=>⟨λh=>key _ _ h (λys z=>by cases z) (λys z=>by cases z),λo h=>key _ _ h (λys z=>by cases z) (λys z=>by cases z)⟩,λb C h=>key _ _ h (λys z=>by cases z) (λys z=>by cases z)⟩
noncomputable def VRt(K:PySem.W.Frag)(Z:Addr->Prop)(H H':Hp)(v:V)(T:Tr):Bool->Prop
 |false=>Rep K (aa7 Z H') v T
 |true=>∃a xs ts,v=.ref a/\T=.lst ts/\H a=none/\H' a=some (.lst xs)/\aa2 K (off a (aa7 Z H')) xs ts
noncomputable def SmT(K:PySem.W.Frag)(H H':Hp):Prop:=(∀b o,H b=some o->¬Tb K b->H' b=some o)/\TbS K H'
theorem SmT.dom{K:PySem.W.Frag}{H H':Hp}(s:SmT K H H'):∀b,H' b=none->H b=none:=λb h=>by
 cases q:H b with
 |none=>rfl
 |some o =>
  by_cases z:Tb K b
  ·obtain⟨ps,e⟩:=s.2.tbl z
   rw[h]at e
   cases e
  ·rw[s.1 b o q z]at h
   cases h
noncomputable def apK(G G':Hp):Prop:=∀b o,(∀ps,o ≠ .tbl ps)->G b=some o->G' b=some o
theorem Rd.agx{G G':Hp}(m:apK G G'){a:Addr}{u:HO}(n:∀ps,u ≠ .tbl ps)(h:Rd G a u):Rd G' a u:=by
 rcases h with h|⟨o,h⟩
 ·exact .inl (m _ _ n h)
 ·exact .inr ⟨o,m _ _ (λ_ z=>by cases z) h⟩
mutual
theorem Rep.agx{K:PySem.W.Frag}{G G':Hp}(m:apK G G'):∀{v:V} {T:Tr},Rep K G v T->Rep K G' v T
 |_,_,.non=>.non
 |_,_,.bl b=>.bl b
 |_,_,.int i=>.int i
 |_,_,.str x=>.str x
 |_,_,.tup h r=>by
  refine .tup ?_ (aa2.agx m r)
  rcases h with h|h
  ·exact .inl (Rd.agx m (λ_ z=>by cases z) h)
  ·exact .inr h
 |_,_,.lst h r=>by
  refine .lst ?_ (aa2.agx m r)
  rcases h with h|h
  ·exact .inl (Rd.agx m (λ_ z=>by cases z) h)
  ·exact .inr h
 |_,_,.exn h k n=>.exn (m _ _ (λ_ z=>by cases z) h) k n
theorem aa2.agx{K:PySem.W.Frag}{G G':Hp}(m:apK G G'):∀{v:List V} {T:List Tr},aa2 K G v T->aa2 K G' v T
 |_,_,.nil=>.nil
 |_,_,.cons h r=>.cons (Rep.agx m h) (aa2.agx m r)
end
theorem agP{K:PySem.W.Frag}{Z:Addr->Prop}{H:Hp}(tb:TbS K H):apK (aa7 Z H) (aa7 (λb=>Z b\/Tb K b) H):=λb o n h=>by
 obtain⟨nz,h⟩:=abl h
 rw[aaZ]
 ·exact h
 ·rintro(z|z)
  ·exact nz z
  ·obtain⟨ps,e⟩:=tb.tbl z
   rw[h]at e
   cases e
   exact n _ rfl
theorem EOk.arU{t:Tx}{W:Addr->Prop}{ρ : En}{σ : St}{H H':Hp}(e:EOk t W ρ σ H)(s:SmT t.K H H'):EOk t W ρ σ H'/\Stp W H H':=by
 have st:Stp W H H':=⟨λb o n q=>s.1 b o q λz=>n (e.tab.w b z),s.dom⟩
 refine⟨?_,st⟩
 have m:=st.off
 obtain⟨F,e⟩:=e
 have ls:∀{a:Addr} {xs:List V},H a=some (.lst xs)->H' a=some (.lst xs):=λq=>s.1 _ _ q λz=>e.tab.ok.ne z q rfl
 refine⟨F,e.len,e.zw,e.z0,λb w=>?_,λb o h n=>s.1 b o (e.f0 b o h n) λz=>n (e.tab.r b z),λb h=>e.n0 b (s.dom b h),λi u h=>?_,λi ts h=>?_,λi ts h=>?_,e.dis,λb o h=>s.1 b o (e.pn b o h) λz=>(by rw[e.tab.B b z]at h; cases h),e.pd,λi ts h=>?_,e.dd,e.dm,e.db,⟨s.2,e.tab.w,e.tab.r,e.tab.B⟩⟩
 ·rcases e.wl b w with⟨xs,q⟩|⟨ps,q⟩
  ·exact .inl ⟨xs,ls q⟩
  ·by_cases z:Tb t.K b
   ·exact .inr (s.2.tbl z)
   ·exact .inr ⟨ps,s.1 b _ q z⟩
 ·obtain⟨v,h1,h2⟩:=e.sh i u h
  exact⟨v,h1,h2.mono m⟩
 ·obtain⟨a,xs,h1,h2,h3,h4,h5⟩:=e.ow i ts h
  exact⟨a,xs,h1,h2,h3,ls h4,h5.mono m⟩
 ·obtain⟨a,xs,h1,h2,h3,h4,h5⟩:=e.rf i ts h
  exact⟨a,xs,h1,h2,h3,ls h4,h5.mono m⟩
 ·obtain⟨a,xs,h1,d⟩:=e.dp i ts h
  exact⟨a,xs,h1,d.move rfl rfl m (λb hb=>by obtain⟨_,_,_,ww,_⟩:=d; exact(ww b hb).1) λb o hb q=>s.1 b o q λz=>d.nt e.tab.ok z hb⟩
theorem EOk.axm{t:Tx}{W:Addr->Prop}{ρ : En}{σ : St}{H H':Hp}{a:Addr}{xs:List V}(e:EOk t W ρ σ H)(s:SmT t.K H H')(n:H a=none)(q:H' a=some (.lst xs)):EOh t W a ρ σ H':=by
 have na:∀b,W b->b≠a:=λb w z=>by subst z; exact e.wn b w n
 obtain⟨e',st⟩:=e.arU s
 have m:Same (aa7 W H') (aa7 (λb=>W b\/b=a) H')->True:=λ_=>trivial
 have mm:∀{v:V} {T:Tr},Rep t.K (aa7 W H) v T->Rep t.K (aa7 (λb=>W b\/b=a) H') v T:=λr=>r.mono λb o h=>by
  obtain⟨w,h⟩:=abl h
  rw[aaZ]
  ·exact st.keep b o w h
  ·rintro(z|rfl)
   ·exact w z
   ·rw[n]at h; cases h
 have mms:Same (aa7 W H) (aa7 (λb=>W b\/b=a) H'):=λb o h=>by
  obtain⟨w,h⟩:=abl h
  rw[aaZ]
  ·exact st.keep b o w h
  ·rintro(z|rfl)
   ·exact w z
   ·rw[n]at h; cases h
 obtain⟨F,e⟩:=e
 have ls:∀{a:Addr} {xs:List V},H a=some (.lst xs)->H' a=some (.lst xs):=λq=>s.1 _ _ q λz=>e.tab.ok.ne z q rfl
 refine⟨F,⟨e.len,λb z=>.inl (e.zw b z),e.z0,λb w=>?_,e'.f0,e'.n0,λi u h=>?_,λi ts h=>?_,λi ts h=>?_,e.dis,e'.pn,e.pd,λi ts h=>?_,e.dd,e.dm,e.db,e'.tab.wid λb w=>.inl w⟩,λi ts h z=>?_⟩
 ·rcases w with w|rfl
  ·exact e'.wl b w
  ·exact .inl ⟨xs,q⟩
 ·obtain⟨v,h1,h2⟩:=e.sh i u h
  exact⟨v,h1,mm h2⟩
 ·obtain⟨c,ys,h1,h2,h3,h4,h5⟩:=e.ow i ts h
  exact⟨c,ys,h1,.inl h2,h3,ls h4,h5.mono mms⟩
 ·obtain⟨c,ys,h1,h2,h3,h4,h5⟩:=e.rf i ts h
  exact⟨c,ys,h1,.inl h2,h3,ls h4,h5.mono mms⟩
 ·obtain⟨c,ys,h1,d⟩:=e.dp i ts h
  exact⟨c,ys,h1,d.move rfl rfl mms (λb hb=>by obtain⟨_,_,_,ww,_⟩:=d; exact .inl (ww b hb).1) λb o hb q=>s.1 b o q λz=>d.nt e.tab.ok z hb⟩
 ·obtain⟨c,ys,h1,bs,_,_,ww,_⟩:=e.dp i ts h
  exact na a (ww a z).1 rfl
noncomputable abbrev FP:=List Tr->Rs (Tr × Bool)
noncomputable def spP(K:PySem.W.Frag)(cl:Str->Addr)(n:Nat)(F:FP):Sp:=λvs H Q E=>∃Z ts,vs.length=n/\aa2 (nlK K) (aa7 Z H) vs ts/\(∀b,Z b->Lt H b)/\TbS (nlK K) H /\
 (F ts).post (λc=>∀H',SmT (nlK K) H H'->E (.ref (cl c)) none H') (λp=>∀v H',SmT (nlK K) H H'->VRt (nlK K) Z H H' v p.1 p.2->Q v H')
noncomputable def aaD(nl:Nat)(ts:List Tr):En:=ts.map Sl.sh++List.replicate (nl-ts.length) Sl.un
noncomputable def fnP(nl:Nat)(b:SF):FP:=λts=>(b (aaD nl ts)).bind λq=>match q.1 with
 |.rt T fr=>.ok (T,fr)
 |.nx=>.ok (.non,false)
 |_=>.bad
theorem abN{nl:Nat}{ts:List Tr}{i:Nat}{s:Sl}(h:(aaD nl ts)[i]?=some s):(∃u,ts[i]?=some u/\s=.sh u)\/s=.un:=by
 unfold aaD at h
 by_cases l:i<ts.length
 ·rw[List.getElem?_append_left (by simpa using l),List.getElem?_map]at h
  rw[List.getElem?_eq_getElem l]at h ⊢
  cases h
  exact .inl ⟨_,rfl,rfl⟩
 ·rw[List.getElem?_append_right (by simpa using Nat.le_of_not_lt l)]at h
  rw[List.getElem?_replicate]at h
  split at h
  ·cases h; exact .inr rfl
  ·cases h
theorem afz{N:List Str}{vs:List V}{i:Nat}{v:V}(h:vs[i]?=some v):(start N vs)[i]?=some (some v):=by
 unfold start
 have l:i<vs.length:=(List.getElem?_eq_some_iff.mp h).1
 rw[List.getElem?_append_left (by simpa using l),List.getElem?_map,h]
 rfl
section
variable {P:Program}{w:World}{K:PySem.W.Frag}{mg:Str->Option Value}{base:Heap}
theorem At.dfP{k:Nat}{x:Str}{st:Stmt}{N ps:List Str}{cl:Str->Addr}{b:SF}(a:At K mg x st)(S:aaz N ps (aal st))(hn:ps.length<=N.length)
  (hb:∀(kV doc pm:Value) (an:Option Addr) (cdv ct:Value) (us:List Value),us.length=ps.length->bindArgs (PySem.W.fnOf x x (adB st) (ab4 st) (aal st) .none kV doc pm an cdv ct) ⟨us,[]⟩=pure (ps.zip us))
  (hbody:∀(f:Addr) (cdv:Value) (A:Around) (outer:List Env) (s:Shared) (H:Hp) (E:XK),agj k (A.deeper (envOfC x (aal st) s.heap.objs.size f cdv)) ->
   ∃ts,PSs (aln (CXF P w) P w K mg base N x (aal st) f cdv A outer s H E) (ab4 st) ts/\∀t:Tx,t.K=nlK K->(∀c H',F0 t H'->t.EX c->E (.ref (cl c)) none H')->SS t ts b) :
  DfX P w K mg base (k+1) x ps (spP K cl ps.length (fnP N.length b)):=by
 refine a.dfx S hb (λvs H Q E h=>?_) (λf cdv A outer s H vs Q E hr h=>?_)
 ·obtain⟨_,_,h,_⟩:=h; exact h
 obtain⟨Z,as,hl,r,zl,tb,h⟩:=h
 obtain⟨ts,h1,h2⟩:=hbody f cdv A outer s H E hr
 refine⟨ts,h1,?_⟩
 have sm:∀(b:Addr) (W:Addr->Prop) ρ σ H',EOk ⟨nlK K,Z,Tb (nlK K),H,λ_=>none,λc=>∀H',SmT (nlK K) H H'->E (.ref (cl c)) none H'⟩ W ρ σ H'->SmT (nlK K) H H':=λ_ W ρ σ H' e=>⟨λb o q n=>e.f0 b o q n,e.tab.ok⟩
 have r:=r.agx (agP tb)
 refine h2 ⟨nlK K,Z,Tb (nlK K),H,λ_=>none,λc=>∀H',SmT (nlK K) H H'->E (.ref (cl c)) none H'⟩ rfl (λc H' f0 q=>q H' ⟨λb o z n=>f0.1 b o z n,f0.2⟩) (λb=>Z b\/Tb (nlK K) b) (aaD N.length as) (start N vs) H _ ?_ (Rs.aam (Rs.aaf h) λq h=>?_)
 ·have la:=r.length
  have alA:∀(i:Nat) (us:List Tr),(aaD N.length as)[i]?=some (.dp us)->False:=λi us q=>by
   rcases abN q with⟨u',q1,z⟩|z <;> cases z
  refine⟨λ_=>[],?_,λ_ z=>.inl z,λb z=>?_,λb z=>z.elim (zl b) (λz=>.inr (tb.tbl z)),λb o q _=>q,λb q=>q,λi u q=>?_,λi us q=>?_,λi us q=>?_,λi j c m1 m2=>?_,λb o z=>(by cases z),λ_ _ _ _=>rfl,λi us q=>(alA i us q).elim,λi _ us _ _ q=>(alA i us q).elim,λi _ us _ q=>(alA i us q).elim,λi us q=>(alA i us q).elim,⟨tb,λ_ z=>.inr z,λ_ z=>z,λ_ _=>rfl⟩⟩
  ·unfold aaD start
   simp only[List.length_append,List.length_map,List.length_replicate]
   omega
  ·exact(zl b z).ne
  ·rcases abN q with⟨u',q1,z⟩|z
   ·cases z
    obtain⟨v,e1,e2⟩:=r.apz q1
    exact⟨v,afz e1,e2⟩
   ·cases z
  ·rcases abN q with⟨u',q1,z⟩|z <;> cases z
  ·rcases abN q with⟨u',q1,z⟩|z <;> cases z
  ·obtain⟨us,q|q⟩:=m1 <;> rcases abN q with⟨u',q1,z⟩|z <;> cases z
 ·obtain⟨fl,ρ'⟩:=q
  cases fl with
  |nx=>exact λW' σ' H' e n=>h .non H' (sm 0 W' ρ' σ' H' e) .non
  |rt T fr =>
   refine λv W' σ' H' e n=>h v H' (sm 0 W' ρ' σ' H' e) ?_
   cases fr <;> exact n
  |bk=>exact h.elim
  |ct=>exact h.elim
end
section
variable {X:Cx}{k:Nat}{x:Str}{ps:List Str}{sp:Sp}{p pos:Pos}{e:Expr}{es:List Expr}{ta:TA}{E:XK}
theorem apL(D:DfX X.prog X.w X.K X.mg X.base k x ps sp)(hr:agj k X.A)(hx:Passes (CXF X.prog X.w) X E)(ha:PA X (e::es) ta)(hg:Gl X x:=by rfl)(hdb:(x == ("__debug__" : Str))=false:=by decide)
  (he:starEach (e::es) X.env=(false,eval e X.env)::starEach es X.env:=by rfl) (hpl:(backTo pos (starEach es X.env)).any (·.1)=false:=by rfl):PE X (.Call (.Name x p) (e::es) [] pos) (ajv sp [] E ta):=by
 obtain⟨f,fd,h1,h2,h3,h4⟩:=D
 exact aro h1 hr hg h4 h3 h2 .nil hx ha hdb he hpl
end
section
variable {t:Tx}{K:PySem.W.Frag}
noncomputable def isS:Rv->Bool
 |.s _=>true
 |_=>false
noncomputable def ad1(z:Tr × Bool):Bool:=alz z.1 || (z.2&&(match z.1 with
 |.lst us=>adM us
 |_=>false))
theorem VRt.voe{W W0:Addr->Prop}{ρ : En}{σ : St}{H H':Hp}{v:V}{z:Tr × Bool}{Z:Addr->Prop}(wn:∀b,W b->H b≠none)(wl:∀b,W b->Lt H' b)(zs:(∀b,W b->Z b)\/ad1 z=true)(h:VRt t.K Z H H' v z.1 z.2)
  (ex:z.2=true->∀a xs,H a=none->H' a=some (.lst xs)->EOh t W a ρ σ H'):VOE t W ρ σ H H' v (.v z.1 z.2):=by
 obtain⟨T,fr⟩:=z
 cases fr with
 |false =>
  refine .low ?_
  rcases zs with zs|zs
  ·exact Rep.mono (acq (λb _ _ z=>zs b z) λ_ _ _ h=>h) h
  ·unfold ad1 at zs
   simp only[Bool.false_and,Bool.or_false]at zs
   exact Rep.flat (ahe wl) h zs
 |true =>
  obtain⟨a,xs,ts,rfl,e1,n,q,r⟩:=h
  have e1:T=.lst ts:=e1
  subst e1
  refine⟨⟨a,xs,ts,rfl,rfl,n,q,?_⟩,λU b z eb=>?_⟩
  ·rcases zs with zs|zs
   ·refine r.mono λb o q=>?_
    obtain⟨ne,q⟩:=aeW q
    rw[off_ne ne]
    exact acq (λb _ _ z=>zs b z) (λ_ _ _ h=>h) b o q
   ·unfold ad1 at zs
    have zs:adM ts=true:=by
     rw[Bool.or_eq_true]at zs
     rcases zs with zs|zs
     ·unfold alz at zs; cases zs
     ·exact zs
    exact r.flat (amk wl q _ λb o h=>abp _ _ b o (akr _ _ b o h)) zs
  ·cases eb
   exact ex rfl a xs n q
theorem ag7.length{W:Addr->Prop}{σ : St}{H H':Hp}:∀{vs:List V} {rs:List Rv},ag7 K W σ H H' vs rs->vs.length=rs.length
 |_,_,.nil=>rfl
 |_,_,.cons _ r=>by rw[List.length_cons,List.length_cons,ag7.length r]
theorem post_eq{α : Type}{r:Rs α}{a : α}{EX:Str->Prop}{P : α -> Prop}(h:r=.ok a)(q:P a):r.post EX P:=by
 rw[h]
 exact q
noncomputable def aas(F:FP)(fa:AF):EF:=λρ=>(fa ρ).bind λp=>(drs p.2 p.1).bind λas=>(F as).bind λz=>if p.1.any isS=true/\ad1 z=false then .bad else .ok (.v z.1 z.2,p.2)
theorem alB{W:Addr->Prop}{σ : St}{ρ : En}{H H':Hp}(wn:∀b,W b->H b≠none):∀{vs:List V} {rs:List Rv} {as:List Tr},ag7 t.K W σ H H' vs rs->drs ρ rs=.ok as->rs.any isS=false->aa2 t.K (aa7 W H') vs as
 |_,_,_,.nil,q,_=>by cases q; exact .nil
 |_,.v T fr::_,_,.cons h r,q,n=>by
  unfold drs at q
  obtain⟨a,q1,q⟩:=aaJ q
  obtain⟨as,q2,q⟩:=aaJ q
  cases q
  cases q1
  exact .cons (h.rep wn) (alB wn r q2 (by simpa[List.any_cons,isS]using n))
 |_,.s i::_,_,.cons h r,q,n=>by simp[isS]at n
theorem Rps.reps{W:Addr->Prop}{H:Hp}:∀{vs:List V} {as:List Tr},Rps K W H vs as->aa2 K (aa7 (λ_=>False) H) vs as
 |_,_,.nil=>.nil
 |_,_,.cons h r=>.cons (h.rep.mono λb o q=>by rw[aaZ id]; exact q) (Rps.reps r)
theorem alC(hK:t.K=nlK K){cl:Str->Addr}{n:Nat}{F:FP}{E:XK}{ta:TA}{fa:AF}(hx:∀c H',F0 t H'->t.EX c->E (.ref (cl c)) none H')(hn:∀ρ p,fa ρ=.ok p->p.1.length=n)(ha:SA t ta fa):SE t (ajv (spP K cl n F) [] E ta) (aas F fa):=λW ρ σ H Q e h=>by
 have h:=Rs.aaf h
 cases ek:fa ρ with
 |bad=>rw[ek]at h; exact h.elim
 |ex c=>exact ha W ρ σ H _ e (by rw[ek]at h ⊢; exact h)
 |ok p =>
 have hl:=hn ρ p ek
 rw[ek]at h
 refine ha W ρ σ H _ e (post_eq ek ?_)
 intro vs H1 e1 s1 v1
 have h:((drs p.2 p.1).bind _).post _ _:=h
 obtain⟨as,k1,h⟩:=abZ (Rs.aaf h) (ag8 _ _)
 have r:=alx e1 e.wn v1 k1
 have lv:vs.length=n:=v1.length.trans hl
 have fin:∀Z:Addr->Prop,(∀b,Z b->W b)->(∀z,F as=.ok z->¬(p.1.any isS=true/\ad1 z=false)->(∀b,W b->Z b)\/ad1 z=true)->aa2 (nlK K) (aa7 Z H1) vs as->spP K cl n F (vs++[]) H1 Q E:=λZ zw zs rr=>by
  rw[List.append_nil]
  refine⟨Z,as,lv,rr,λb z=>e1.wl b (zw b z),by rw[<-hK]; exact e1.tab.ok,?_⟩
  have h:=Rs.aaf h
  cases ef:F as with
  |bad=>rw[ef]at h; exact h.elim
  |ex c =>
   rw[ef]at h
   exact λH' sm=>hx c H' ⟨λb o q nr=>sm.1 b o (e1.f0 b o q nr) λz=>nr (e1.tab.r b (by rw[hK]; exact z)),by rw[hK]; exact sm.2⟩ h
  |ok z =>
   rw[ef]at h
   have h:(if p.1.any isS=true/\ad1 z=false then Rs.bad else .ok (.v z.1 z.2,p.2):Rs (Rv × En)).post _ _:=h
   split at h
   ·exact h.elim
   ·rename_i c
    intro v H' sm vr
    rw[<-hK]at vr sm
    obtain⟨eg,sg⟩:=e1.arU sm
    refine h v H' eg (s1.trans sg) (VOE.back (H:=H1) ?_ s1.dom)
    exact VRt.voe (W0:=W) e1.wn eg.wl (zs z ef c) vr λ_ a xs na qa=>e1.axm sm na qa
 by_cases an:p.1.any isS=true
 ·refine fin (λ_=>False) (λ_ z=>z.elim) (λz ez c=>.inr ?_) ?_
  ·cases fz:ad1 z with
   |true=>rfl
   |false=>exact(c ⟨an,fz⟩).elim
  ·rw[<-hK]
   exact r.reps
 ·refine fin W (λ_ z=>z) (λz ez c=>.inl λ_ z=>z) ?_
  rw[<-hK]
  exact alB e.wn v1 k1 (by simpa using an)
end
end L2
end
section
namespace L2
open PySem PySem.Spec PyProof.Rows
noncomputable abbrev FR:=List Tr->Rs ((Tr × Bool) × List Tr)
noncomputable def spR(K:PySem.W.Frag)(n r:Nat)(F:FR):Sp:=λvs H Q E=>∃(Z:Addr->Prop) (ts:List Tr) (a:Addr) (xs:List V) (us:List Tr),vs.length=n/\ts.length=n/\vs[r]?=some (.ref a)/\ts[r]?=some (.lst us)/\Z a/\H a=some (.lst xs)/\aa2 (nlK K) (aa7 Z H) xs us /\
 (∀j v u,j≠r->vs[j]?=some v->ts[j]?=some u->Rep (nlK K) (aa7 Z H) v u)/\(∀b,Z b->Lt H b)/\TbS (nlK K) H /\
 (F ts).post (λ_=>False) (λp=>∀v H' ys,(∀b o,H b=some o->b≠a->¬Tb (nlK K) b->H' b=some o)->TbS (nlK K) H'->(∀b,H' b=none->H b=none)->H' a=some (.lst ys)->aa2 (nlK K) (aa7 Z H') ys p.2->VRt (nlK K) Z H H' v p.1.1 p.1.2->Q v H')
noncomputable def abS{α : Type}:Rs α -> Rs α
 |.bad=>.bad
 |.ex _=>.bad
 |.ok a=>.ok a
theorem afA{α : Type}{r:Rs α}{EX:Str->Prop}{P : α -> Prop}(h:(abS r).post EX P):r.post (λ_=>False) P:=by
 cases r <;> exact h
theorem alD{α : Type}(r:Rs α)(c:Str):abS r ≠ .ex c:=by
 cases r <;> (intro z; cases z)
theorem alE{α β : Type}{r:Rs α}{f : α -> Rs β}(h1:∀c,r ≠ .ex c)(h2:∀a c,f a ≠ .ex c)(c:Str):r.bind f ≠ .ex c:=by
 cases r with
 |bad=>intro z; cases z
 |ex d=>exact(h1 d rfl).elim
 |ok a=>exact h2 a c
noncomputable def fnR(nl r:Nat)(b:SF):FR:=λts=>match ts[r]? with
 | some (.lst us)=>(abS (b ((aaD nl ts).set r (.rf us)))).bind λq=>(match q.2[r]? with
  | some (.rf ws)=>(match q.1 with
   |.rt T fr=>.ok ((T,fr),ws)
   |.nx=>.ok ((.non,false),ws)
   |_=>.bad)
  |_=>.bad)
 |_=>.bad
theorem arV(nl r:Nat)(b:SF)(as:List Tr)(c:Str):fnR nl r b as ≠ .ex c:=by
 unfold fnR
 split
 ·refine alE (alD _) (λq c=>?_) c
  split
  ·split <;> (intro z; cases z)
  ·intro z; cases z
 ·intro z; cases z
section
variable {P:Program}{w:World}{K:PySem.W.Frag}{mg:Str->Option Value}{base:Heap}
theorem At.dfR{k:Nat}{x:Str}{st:Stmt}{N ps:List Str}{cl:Str->Addr}{b:SF}(r:Nat)(a:At K mg x st)(S:aaz N ps (aal st))(hn:ps.length<=N.length)
  (hb:∀(kV doc pm:Value) (an:Option Addr) (cdv ct:Value) (us:List Value),us.length=ps.length->bindArgs (PySem.W.fnOf x x (adB st) (ab4 st) (aal st) .none kV doc pm an cdv ct) ⟨us,[]⟩=pure (ps.zip us))
  (hbody:∀(f:Addr) (cdv:Value) (A:Around) (outer:List Env) (s:Shared) (H:Hp) (E:XK),agj k (A.deeper (envOfC x (aal st) s.heap.objs.size f cdv)) ->
   ∃ts,PSs (aln (CXF P w) P w K mg base N x (aal st) f cdv A outer s H E) (ab4 st) ts/\∀t:Tx,t.K=nlK K->(∀c H',F0 t H'->t.EX c->E (.ref (cl c)) none H')->SS t ts b) :
  DfX P w K mg base (k+1) x ps (spR K ps.length r (fnR N.length r b)):=by
 refine a.dfx S hb (λvs H Q E h=>?_) (λf cdv A outer s H vs Q E hr h=>?_)
 ·obtain⟨_,_,_,_,_,h,_⟩:=h; exact h
 obtain⟨Z,as,ad,xs,us,hl,hl2,hv,ht,hz,hx,rx,ra,zl,tb,h⟩:=h
 have rx:=rx.agx (agP tb)
 have ra:∀j v u,j≠r->vs[j]?=some v->as[j]?=some u->Rep (nlK K) (aa7 (λb=>Z b\/Tb (nlK K) b) H) v u:=λj v u n q1 q2=>(ra j v u n q1 q2).agx (agP tb)
 obtain⟨ts,h1,h2⟩:=hbody f cdv A outer s H E hr
 refine⟨ts,h1,?_⟩
 unfold fnR at h
 rw[ht]at h
 have h:((abS (b ((aaD N.length as).set r (.rf us)))).bind _).post _ _:=h
 refine h2 ⟨nlK K,Z,λb=>b=ad\/Tb (nlK K) b,H,λ_=>none,λ_=>False⟩ rfl (λc H' f0 q=>q.elim) (λb=>Z b\/Tb (nlK K) b) ((aaD N.length as).set r (.rf us)) (start N vs) H _ ?_ (Rs.aam (afA (Rs.aaf h)) λq h=>?_)
 ·have lr:r<as.length:=(List.getElem?_eq_some_iff.mp ht).1
  have mu:∀j,Mu ((aaD N.length as).set r (.rf us)) j->j=r:=λj m=>by
   obtain⟨ws,q|q⟩:=m <;> rcases get_set q with⟨rfl,_,_⟩|⟨ne,q⟩
   ·rfl
   ·rcases abN q with⟨u',q1,z⟩|z <;> cases z
   ·rfl
   ·rcases abN q with⟨u',q1,z⟩|z <;> cases z
  have alA:∀(i:Nat) (ws:List Tr),((aaD N.length as).set r (.rf us))[i]?=some (.dp ws)->False:=λi ws q=>by
   rcases get_set q with⟨rfl,z,_⟩|⟨ne,q⟩
   ·cases z
   ·rcases abN q with⟨u',q1,z⟩|z <;> cases z
  refine⟨λ_=>[],?_,λ_ z=>.inl z,λb z=>?_,λb z=>z.elim (zl b) (λz=>.inr (tb.tbl z)),λb o q _=>q,λb q=>q,λi u q=>?_,λi ws q=>?_,λi ws q=>?_,λi j c m1 m2 _ _=>(mu i m1).trans (mu j m2).symm,λb o z=>(by cases z),λ_ _ _ _=>rfl,λi us q=>(alA i us q).elim,λi _ us _ _ q=>(alA i us q).elim,λi _ us _ q=>(alA i us q).elim,λi us q=>(alA i us q).elim,⟨tb,λ_ z=>.inr z,λ_ z=>.inr z,λ_ _=>rfl⟩⟩
  ·unfold aaD start
   simp only[List.length_append,List.length_map,List.length_replicate,List.length_set]
   omega
  ·exact(zl b z).ne
  ·rcases get_set q with⟨rfl,z,_⟩|⟨ne,q⟩
   ·cases z
   ·rcases abN q with⟨u',q1,z⟩|z
    ·cases z
     have lj:i<vs.length:=by
      rw[hl,<-hl2]
      exact(List.getElem?_eq_some_iff.mp q1).1
     exact⟨vs[i],afz (List.getElem?_eq_getElem lj),ra i _ _ ne (List.getElem?_eq_getElem lj) q1⟩
    ·cases z
  ·rcases get_set q with⟨rfl,z,_⟩|⟨ne,q⟩
   ·cases z
   ·rcases abN q with⟨u',q1,z⟩|z <;> cases z
  ·rcases get_set q with⟨rfl,z,_⟩|⟨ne,q⟩
   ·cases z
    exact⟨ad,xs,afz hv,.inl hz,.inl rfl,hx,rx⟩
   ·rcases abN q with⟨u',q1,z⟩|z <;> cases z
 ·obtain⟨fl,ρ'⟩:=q
  dsimp only at h
  split at h
  ·rename_i ws q
   ·have key:∀W' σ' H',EOk ⟨nlK K,Z,λb=>b=ad\/Tb (nlK K) b,H,λ_=>none,λ_=>False⟩ W' ρ' σ' H'->(∀b o,H b=some o->b≠ad->¬Tb (nlK K) b->H' b=some o)/\TbS (nlK K) H'/\(∀b,H' b=none->H b=none)/\∃ys,H' ad=some (.lst ys)/\aa2 (nlK K) (aa7 Z H') ys ws:=λW' σ' H' e=>by
     obtain⟨c,ys,q1,q2,q3,q4,q5⟩:=e.rf r ws q
     have q3:c=ad:=q3.elim id λz=>(e.tab.ok.ne z q4 rfl).elim
     subst q3
     exact⟨λb o z n n'=>e.f0 b o z λy=>y.elim n n',e.tab.ok,e.n0,ys,q4,q5.mono (aly e)⟩
    cases fl with
    |nx =>
     intro W' σ' H' e n
     obtain⟨k1,k1b,k2,ys,k3,k4⟩:=key W' σ' H' e
     exact h .non H' ys k1 k1b k2 k3 k4 .non
    |rt T fr =>
     intro v W' σ' H' e n
     obtain⟨k1,k1b,k2,ys,k3,k4⟩:=key W' σ' H' e
     refine h v H' ys k1 k1b k2 k3 k4 ?_
     cases fr <;> exact n
    |bk=>exact h.elim
    |ct=>exact h.elim
  ·exact h.elim
end
section
variable {t:Tx}{K:PySem.W.Frag}
theorem ag7.get{W:Addr->Prop}{σ : St}{H H':Hp}:∀{vs:List V} {rs:List Rv} {j:Nat} {v:V} {r:Rv},ag7 K W σ H H' vs rs->vs[j]?=some v->rs[j]?=some r->VOk K W σ H H' v r
 |_,_,_,_,_,.nil,e,_=>by simp at e
 |_,_,0,_,_,.cons h _,e,q=>by simp at e q; subst e q; exact h
 |_,_,j+1,_,_,.cons _ t,e,q=>ag7.get (j:=j) t (by simpa using e) (by simpa using q)
theorem akt{ρ : En}:∀{rs:List Rv} {as:List Tr} {j:Nat} {u:Tr},drs ρ rs=.ok as->as[j]?=some u->∃r,rs[j]?=some r/\dr ρ r=.ok u
 | [],_,_,_,h,e=>by cases h; simp at e
 |r::rs,as,j,u,h,e=>by
  unfold drs at h
  obtain⟨a,q1,h⟩:=aaJ h
  obtain⟨bs,q2,h⟩:=aaJ h
  cases h
  cases j with
  |zero=>simp at e; subst e; exact⟨r,rfl,q1⟩
  |succ j =>
   obtain⟨r',k1,k2⟩:=akt (j:=j) q2 (by simpa using e)
   exact⟨r',by simpa using k1,k2⟩
theorem anC{ρ : En}:∀{rs:List Rv} {as:List Tr},drs ρ rs=.ok as->as.length=rs.length
 | [],_,h=>by cases h; rfl
 |r::rs,as,h=>by
  unfold drs at h
  obtain⟨a,q1,h⟩:=aaJ h
  obtain⟨bs,q2,h⟩:=aaJ h
  cases h
  rw[List.length_cons,List.length_cons,anC q2]
theorem aqP{ρ : En}:∀{rs:List Rv} {as:List Tr} {j:Nat} {r:Rv},drs ρ rs=.ok as->rs[j]?=some r->∃u,as[j]?=some u/\dr ρ r=.ok u
 | [],_,_,_,h,e=>by simp at e
 |r::rs,as,j,u,h,e=>by
  unfold drs at h
  obtain⟨a,q1,h⟩:=aaJ h
  obtain⟨bs,q2,h⟩:=aaJ h
  cases h
  cases j with
  |zero=>simp at e; subst e; exact⟨a,rfl,q1⟩
  |succ j =>
   obtain⟨r',k1,k2⟩:=aqP (j:=j) q2 (by simpa using e)
   exact⟨r',by simpa using k1,k2⟩
noncomputable def others(r i:Nat)(rs:List Rv):Bool:=(rs.eraseIdx r).all λx=>match x with
 |.s j=>j != i
 |_=>true
noncomputable def aaT(r:Nat)(F:FR)(fa:AF):EF:=λρ=>(fa ρ).bind λp=>match p.1[r]? with
 |some (.s i)=>if others r i p.1=true then((con p.2 i).bind λ_=>(drs p.2 p.1).bind λas=>(F as).bind λz=>if((p.1.eraseIdx r).any isS=true/\ad1 z.1=false)\/(((p.1.eraseIdx r).any isS=true\/z.1.2=true)/\adM z.2=false)then .bad else .ok (.v z.1.1 z.1.2,abr i z.2 p.2))else .bad
 |_=>.bad
theorem ajH{α : Type}{l:List α}{r j:Nat}{x : α}(n:j≠r)(h:l[j]?=some x):x∈l.eraseIdx r:=by
 rw[List.mem_eraseIdx_iff_getElem?]
 exact⟨j,n,h⟩
theorem apM(hK:t.K=nlK K){n r:Nat}{F:FR}{E:XK}{ta:TA}{fa:AF}(nF:∀as c,F as ≠ .ex c)(hn:∀ρ p,fa ρ=.ok p->p.1.length=n)(ha:SA t ta fa):SE t (ajv (spR K n r F) [] E ta) (aaT r F fa):=λW ρ σ H Q e h=>by
 have h:=Rs.aaf h
 cases ek:fa ρ with
 |bad=>rw[ek]at h; exact h.elim
 |ex c=>exact ha W ρ σ H _ e (by rw[ek]at h ⊢; exact h)
 |ok p =>
 have hl:=hn ρ p ek
 rw[ek]at h
 refine ha W ρ σ H _ e (post_eq ek ?_)
 intro vs H1 e1 s1 v1
 have h:(match p.1[r]? with
  |some (.s i)=>if others r i p.1=true then((con p.2 i).bind λ_=>(drs p.2 p.1).bind λas=>(F as).bind λz=>if((p.1.eraseIdx r).any isS=true/\ad1 z.1=false)\/(((p.1.eraseIdx r).any isS=true\/z.1.2=true)/\adM z.2=false)then .bad else .ok (.v z.1.1 z.1.2,abr i z.2 p.2))else .bad
  |_=>.bad:Rs (Rv × En)).post _ _:=h
 split at h
 ·rename_i i er
  split at h
  ·rename_i ho
   obtain⟨us,k0,h⟩:=abZ (Rs.aaf h) (afV _ _)
   obtain⟨as,k1,h⟩:=abZ (Rs.aaf h) (ag8 _ _)
   obtain⟨z,k2,h⟩:=abZ (Rs.aaf h) (nF _)
   obtain⟨mi,a,xs,hi,wa,hx,rx,h0⟩:=e1.con k0
   have lr:r<vs.length:=by rw[v1.length]; exact(List.getElem?_eq_some_iff.mp er).1
   have hvr:vs[r]?=some (.ref a):=by
    have q:=v1.get (List.getElem?_eq_getElem lr) er
    have q : σ[i]?=some (some vs[r]):=q
    rw[hi]at q
    rw[List.getElem?_eq_getElem lr,Option.some.inj (Option.some.inj q)]
   have hur:as[r]?=some (.lst us):=by
    obtain⟨u,q1,q2⟩:=aqP k1 er
    rw[q1]
    unfold L2.con at k0
    dsimp only[dr]at q2
    split at k0 <;> rename_i q3
    ·rw[q3]at q2; cases q2; cases k0; rfl
    ·rw[q3]at q2; cases q2; cases k0; rfl
    ·cases k0
   split at h
   ·exact h.elim
   ·rename_i c
    have nl:((p.1.eraseIdx r).any isS=true\/z.1.2=true)->adM z.2=true:=λy=>by
     cases q:adM z.2 with
     |true=>rfl
     |false=>exact(c (.inr ⟨y,q⟩)).elim
    have nf:z.1.2=true->adM z.2=true:=λy=>nl (.inr y)
    have fin:∀Z:Addr->Prop,Z a->(∀b,Z b->W b)->((∀b,W b->Z b)\/ad1 z.1=true)->((∀b,W b->Z b)\/adM z.2=true)->(∀j v u,j≠r->vs[j]?=some v->as[j]?=some u->Rep (nlK K) (aa7 Z H1) v u)->spR K n r F (vs++[]) H1 Q E:=λZ za zw zs fq rr=>by
     rw[List.append_nil]
     refine⟨Z,as,a,xs,us,v1.length.trans hl,(anC k1).trans hl,hvr,hur,za,hx,?_,rr,λb z=>e1.wl b (zw b z),by rw[<-hK]; exact e1.tab.ok,?_⟩
     ·rw[<-hK]
      exact rx.mono (acq (λb _ _ z=>zw b z) λ_ _ _ h=>h)
     rw[k2]
     intro v H' ys fr tb dm hy ry vr
     rw[<-hK]at ry vr fr tb
     have kp:∀b o,¬W b->H1 b=some o->H' b=some o:=λb o nw q=>fr b o q (λz=>by subst z; exact nw wa) λz=>nw (e1.tab.w b z)
     have wl':∀b,W b->Lt H' b:=λb wb=>by
      by_cases q:b=a
      ·subst q; exact .inl ⟨ys,hy⟩
      ·by_cases z:Tb t.K b
       ·exact .inr (tb.tbl z)
       ·rcases e1.wl b wb with⟨zs,q2⟩|⟨zs,q2⟩
        ·exact .inl ⟨zs,fr b _ q2 q z⟩
        ·exact .inr ⟨zs,fr b _ q2 q z⟩
     have st:Stp W H1 H':=⟨kp,dm⟩
     have ryW:aa2 t.K (aa7 W H') ys z.2:=by
      rcases fq with q|q
      ·exact ry.mono (acq (λb _ _ z=>q b z) λ_ _ _ h=>h)
      ·exact ry.flat (ahe wl') q
     have e2:EOk t W (abr i z.2 p.2) σ H':=e1.move mi hi st.off (λ_ h=>h) wl' tb fr dm h0 hy ryW
     refine h v H' e2 (s1.trans st) (VOE.back (H:=H1) ?_ s1.dom)
     refine VRt.voe (W0:=W) (z:=z.1) e1.wn wl' zs vr λfz b zs nb qb=>?_
     have wl2:∀c,(W c\/c=b)->Lt H' c:=λc wc=>by
      rcases wc with wc|rfl
      ·exact wl' c wc
      ·exact .inl ⟨zs,qb⟩
     obtain⟨F,e1F⟩:=id e1
     refine⟨F,e1F.move mi hi (λc o q=>?_) (λ_ h=>.inl h) wl2 tb fr dm h0 hy (ry.flat (ahe wl2) (nf fz)),λj us hj zj=>?_⟩
     rotate_left
     ·obtain⟨c,ys,h1,bs,_,_,ww,_⟩:=e1F.dp j us (aeH hj)
      exact e1.wn b (ww b zj).1 nb
     obtain⟨nc,q⟩:=abl q
     rw[aaZ]
     ·exact kp c o nc q
     ·rintro(z|rfl)
      ·exact nc z
      ·rw[nb]at q; cases q
    by_cases an:(p.1.eraseIdx r).any isS=true
    ·refine fin (λb=>b=a) rfl (λb z=>by subst z; exact wa) (.inr ?_) (.inr (nl (.inl an))) λj v u nj qv qu=>?_
     ·cases fz:ad1 z.1 with
      |true=>rfl
      |false=>exact(c (.inl ⟨an,fz⟩)).elim
     ·obtain⟨x,q1,q2⟩:=akt k1 qu
      have ok:=v1.get qv q1
      rw[<-hK]
      cases x with
      |v T fr =>
       cases q2
       exact(ok.rep e.wn).mono (acq (λb _ _ z=>by subst z; exact wa) λ_ _ _ h=>h)
      |s j' =>
       have nj':j'≠i:=by
        have:=List.all_eq_true.mp ho _ (ajH nj q1)
        simpa using this
       have ok : σ[j']?=some (some v):=ok
       have q2:dr p.2 (.s j')=.ok u:=q2
       have q3:∃ws,L2.con p.2 j'=.ok ws/\u=.lst ws:=by
        dsimp only[dr]at q2
        unfold L2.con
        split at q2 <;> rename_i q3
        ·cases q2; (try rw[q3]); exact⟨_,rfl,rfl⟩
        ·cases q2; (try rw[q3]); exact⟨_,rfl,rfl⟩
        ·cases q2
       obtain⟨ws,q3,rfl⟩:=q3
       obtain⟨mj,a',zs,hj,wj,hz,rz,_⟩:=e1.con q3
       rw[ok]at hj
       cases hj
       have na:a'≠a:=λy=>by
        subst y
        exact nj' (e1.dis j' i a' mj mi ok hi)
       refine .lst (SqL.of ?_) (rz.mono (acq (λb _ _ z=>by subst z; exact wa) λ_ _ _ h=>h))
       rw[aaZ (W:=λb=>b=a) na]
       exact hz
    ·refine fin W wa (λ_ z=>z) (.inl λ_ z=>z) (.inl λ_ z=>z) λj v u nj qv qu=>?_
     obtain⟨x,q1,q2⟩:=akt k1 qu
     have ok:=v1.get qv q1
     rw[<-hK]
     cases x with
     |v T fr=>cases q2; exact ok.rep e.wn
     |s j' =>
      refine(an ?_).elim
      exact List.any_eq_true.mpr ⟨_,ajH nj q1,rfl⟩
  ·exact h.elim
 ·exact h.elim
end
end L2
end
section
namespace L2
open PySem PySem.Spec PyProof.Rows
section
variable {prog:Program}{w:World}{A:Around}{R:Result->Shared->Prop}{s:Shared}
theorem ajI{elt target iter c:Expr}{scope:Scope}{pos:Pos}{it acc:Value}{env:Env}(I:Nat->Shared->Prop)
  (turn:∀n s,I n s->wpAny (model prog w) A (pyNext it) (λr s₁=>match r with
   |none=>R (.ok .next) s₁
   | some v=>wpAny (model prog w) A (letOwnedTupleGo target it v) (λ_ s₁'=>wpAny (model prog w) A (assign target env v) (λ_ s₂ => wpAny (model prog w) A (isTrue c env (eval c env)) (λb s₂'=>if b=true then wpAny (model prog w) A (eval elt env) (λx s₃ =>
     wpAny (model prog w) A (call (.builtin "list.append") [acc,x]) (λ_ s₄=>∃m,m<n/\I m s₄) (λ_ _=>False) s₃) (λ_ _=>False) s₂' else ∃m,m<n/\I m s₂') (λ_ _=>False) s₂) (λ_ _=>False) s₁') (λ_ _=>False) s₁) (λ_ _=>False) s)
  (n:Nat) (h:I n s) :
  codeAny (model prog w) A (.compLoop (.ListComp elt [⟨target,iter,[c],0⟩] scope pos) 0 it acc env) R s:=by
 refine codeAny_loop rfl I (λn s hI=>?_) n h
 show wpAny _ _ ((compTurn (.ListComp elt [⟨target,iter,[c],0⟩] scope pos) 0 it acc env).onRaise (λx=>do noteFrame x env; theTreesLotGoes x)) _ _ s
 refine wpAny_noted (wpAny_noRaise ?_)
 rw[compTurn_list]
 refine wpAny_bind (wpAny_standAt (wpAny_bind (wpAny_mono (turn n s hI) (λr s₁ h₁=>?_) λ_ _ h'=>h')))
 cases r with
 |none=>exact wpAny_pure h₁
 |some v =>
  refine wpAny_bind (wpAny_mono h₁ (λ_ s₁' h₁'=>?_) λ_ _ h'=>h')
  refine wpAny_bind (wpAny_mono h₁' (λ_ s₂ h₂=>wpAny_bind (wpAny_tests_one (wpAny_mono h₂ (λok s₃ h₃=>?_) λ_ _ h'=>h'))) λ_ _ h'=>h')
  cases ok with
  |false=>exact wpAny_pure ⟨rfl,h₃⟩
  |true =>
   exact wpAny_bind (wpAny_bind (wpAny_mono h₃ (λx s₄ h₄=>wpAny_bind (wpAny_mono h₄ (λ_ s₅ h₅=>wpAny_pure (wpAny_pure ⟨rfl,h₅⟩)) λ_ _ h'=>h')) λ_ _ h'=>h'))
end
noncomputable def ahf(wi:TI)(g:TG)(src:List (Option Nat))(tc:TT)(te:TE):TE:=λσ H Q=>wi σ H λJ H1=>∀D,H1 D=none ->
 ∃W:Nat->Nat->St->Hp->Prop,(∃m,W 0 m (afr src σ) (upd H1 D (.lst [])))/\∀i m σ' H',W i m σ' H' ->
  (J.stop i H'/\QAt Q D H')\/(J.go i H'/\∀x H'',J.yld i H' x H''->g x σ' H'' λσ2 H2=>tc σ2 H2 λb H2'=>if b=true then te σ2 H2' λv H3=>∃xs,H3 D=some (.lst xs)/\xs.length<sizeLine/\∃m',m'<m/\W (i+1) m' σ2 (upd H3 D (.lst (xs++[v])))else ∃m',m'<m/\W (i+1) m' σ2 H2')
section
variable {X:Cx}{elt tg iter cnd:Expr}{scope sc:Scope}{pos:Pos}{No N:List Str}{src:List (Option Nat)}{wi:TI}{g:TG}{te:TE}{tc:TT}
theorem ajJ{pins:List (Addr × Obj)}{σ : St}{H:Hp}{s:Shared}{Q:VK}{RR:Value->Addr->Result->Shared->Prop}(hsc:X.env.scope=sc)(hNo:X.N=No)(S:agm sc No N src scope)(hc:X.calm=true)
  (hi:PI X tg iter wi) (hg:∀C s H ex,PG (abK X N scope C s H ex) tg g) (hq:∀C s H ex,PT (abK X N scope C s H ex) cnd tc) (he:∀C s H ex,PE (abK X N scope C s H ex) elt te) (I:Inv X pins σ H s) (h:ahf wi g src tc te σ H Q)
  (hRR:∀D C H' s' m,Inv X pins σ H' s'->H' C=none->C≠X.env.locals->X.s₀.heap.objs.size<=C->(∀x c,X.env.cells.lookup x=some c->c≠C)->(∀p∈X.pn++pins,p.1≠C)->s'.heap.Ns C m->Q (.ref D) H'->RR (.ref D) C (.ok .next) s') :
  wpAny (model X.prog X.w) X.A (eval iter X.env) (λx s₁=>wpAny (model X.prog X.w) X.A (pyIter x) (λit s₂=>wpAny (model X.prog X.w) X.A (newList []) (λacc s₃ =>
   wpAny (model X.prog X.w) X.A (newFunctionEnv scope X.env.globals (aay X.env.cells scope.names []) [] X.env.qual none .none (some X.env)) (λcenv s₄ =>
    codeAny (model X.prog X.w) X.A (.compStart (.ListComp elt [⟨tg,iter,[cnd],0⟩] scope pos) 0 it acc {cenv with scope:=relabel scope X.env }) (RR acc cenv.locals) s₄) X.xe s₃) X.xe s₂) X.xe s₁) X.xe s:=by
 refine thn (hi pins s σ H _ I h) λv s1 h1=>thn h1 λitv s2 h2=>?_
 obtain⟨it,fp,tn,J,H2,e,I2,T,st2,f2,hW⟩:=h2
 subst e
 have hD0:H2 s2.heap.objs.size=none:=I2.hok.fresh (Nat.le_refl _)
 obtain⟨W,⟨m0,w0⟩,turn⟩:=hW s2.heap.objs.size hD0
 have atZ:∀b∈fp,b<s2.heap.objs.size:=λb hb=>by
  obtain⟨o,e,_⟩:=T.obj 0 _ st2 b hb
  exact Heap.lt_size e
 refine wpAny_newObj_type ?_
 have I3:Inv X pins σ (upd H2 s2.heap.objs.size (.lst [])) {s2 with heap:=s2.heap.push {cls:=.type "list",dict:=none,data:=.seq ([]:List Value).toArray } }:=I2.awC (t':=s2.toks) (ys:=[]) .nil (Nat.zero_le _)
 have f3:∀b∈fp,afg X pins (upd H2 s2.heap.objs.size (.lst [])) b:=λb hb=>by
  obtain⟨q,r⟩:=f2 b hb
  exact⟨by rw[aaG (Nat.ne_of_lt (atZ b hb))]; exact q,r⟩
 have st3:tn 0 (s2.heap.push {cls:=.type "list",dict:=none,data:=.seq ([]:List Value).toArray }):=T.keep _ _ _ st2 λb hb o e=>Heap.get?_push_of_some _ e
 have lt3:∀b∈fp,b<(s2.heap.push {cls:=.type "list",dict:=none,data:=.seq ([]:List Value).toArray }).objs.size:=λb hb=>by
  rw[Heap.size_push]; exact Nat.lt_succ_of_lt (atZ b hb)
 generalize hD:s2.heap.objs.size=D at *
 generalize hh3:s2.heap.push {cls:=.type "list",dict:=none,data:=.seq ([]:List Value).toArray }=h3 at *
 generalize hH3:upd H2 D (.lst [])=H3 at *
 refine aex λh₁ hns old ck=>?_
 dsimp only at hns old ck ⊢
 have I4:Inv (abK X N scope h3.objs.size {s2 with heap:=h3 } H3 fp) [] (afr src σ) H3 {s2 with heap:=h₁,toks:=s2.toks+([]:List (Str × Value)).length }:=ah9 (s:={s2 with heap:=h3 }) hsc hNo S I3 f3 lt3 hns old ck
 have st4:tn 0 h₁ := T.keep _ _ _ st3 λb hb o e=>old b o e
 have loop:codeAny (model X.prog X.w) X.A (.compLoop (.ListComp elt [⟨tg,iter,[cnd],0⟩] scope pos) 0 (.ref it) (.ref D) (compEnvC scope (cellsFrom (h3.objs.size+1) scope.names (aay X.env.cells scope.names [])) h3.objs.size X.env)) (RR (.ref D) h3.objs.size) {s2 with heap:=h₁,toks:=s2.toks+([]:List (Str × Value)).length }:=by
  have stat:∀{H':Hp},(∀b∈fp,H' b=none)->∀b∈fp,afg (abK X N scope h3.objs.size {s2 with heap:=h3 } H3 fp) [] H' b:=λhn b hb=>by
   obtain⟨g0,g1,g2,g3,g4,g5⟩:=f3 b hb
   refine⟨hn b hb,Nat.ne_of_lt (lt3 b hb),λz=>?_,.inl hb,λx c e=>?_,λp hp=>absurd (show p∈([]:List (Addr × Obj))from hp) (by simp)⟩
   ·rcases List.mem_cons.mp (I3.ajs b z)with z|z
    ·exact g1 z
    ·exact g2 z
   ·have e:(cellsFrom (h3.objs.size+1) scope.names (aay X.env.cells scope.names [])).lookup x=some c:=e
    rw[abo,adv]at e
    split at e
    ·rename_i z
     cases e
     exact λy=>absurd (Nat.le_trans (ck.empty x c (PySem.mem_of_lookup z)).2 (y▸Nat.le_of_lt (lt3 b hb))) (Nat.not_succ_le_self _)
    ·rcases abA e with q|q
     ·simp at q
     ·exact g4 x c q
  refine ajI (λn s'=>∃i σ' H',Inv (abK X N scope h3.objs.size {s2 with heap:=h3 } H3 fp) [] σ' H' s'/\tn i s'.heap/\(∀b∈fp,H' b=none)/\W i n σ' H') ?_ m0 ⟨0,afr src σ,H3,I4,st4,λb hb=>(f3 b hb).1,w0⟩
  rintro n s5 ⟨i,σ5,H5,I5,st5,fr5,w5⟩
  rcases turn i n σ5 H5 w5 with⟨stop,qn⟩|⟨go,step⟩
  ·refine thn (T.done (abK X N scope h3.objs.size {s2 with heap:=h3 } H3 fp) rfl rfl rfl hc i [] s5 σ5 H5 (λ_ _=>False) I5 (stat fr5) st5 stop) λr s6 ⟨hr,I6⟩=>?_
   subst hr
   obtain⟨mC,hnC,_⟩:=id I6.loc
   have I7:Inv X pins σ H5 s6:=I3.call' (ch:=fp) I6.os I6.base I6.hok I6.bare λb hb=>by
    obtain⟨g0,g1,g2,g3,g4,g5⟩:=f3 b hb
    exact⟨g3,g1,g4,g5⟩
   refine hRR D h3.objs.size H5 s6 mC I7 I6.free (Nat.ne_of_gt I3.lt) I3.sz (λx c e z=>?_) (λp hp z=>?_) hnC qn
   ·obtain⟨v,q⟩:=I3.cell x c e
    exact absurd q.lt (by rw[z]; exact Nat.lt_irrefl _)
   ·exact absurd (Heap.lt_size (I3.pin p hp).1) (by rw[z]; exact Nat.lt_irrefl _)
  ·refine thn (T.item (abK X N scope h3.objs.size {s2 with heap:=h3 } H3 fp) rfl rfl rfl hc i [] s5 σ5 H5 (λ_ _=>False) I5 (stat fr5) st5 go) λr s6 ⟨u,hr,h6⟩=>?_
   subst hr
   refine thn h6 λ_ s7 ⟨x,H7,I7,r7,y7,st7,fr7⟩=>?_
   have I7':=I7.pinned (stat fr7) (T.obj _ _ st7)
   refine thn (hg _ _ _ _ _ s7 σ5 H7 x u _ I7' r7 (step x H7 y7)) λ_ s8 ⟨σ8,H8,I8,q8⟩=>?_
   refine thn (hq _ _ _ _ _ s8 σ8 H8 _ I8 q8) λbb s8' ⟨H8',I8',q8'⟩=>?_
   cases bb with
   |false =>
    rw[if_neg (by decide)]at q8' ⊢
    obtain⟨m',hm,w9⟩:=q8'
    refine⟨m',hm,i+1,σ8,H8',I8'.aeV (pins:=[]),T.keep _ _ _ st7 λb hb o e=>(I8'.pin (b,o) (List.mem_append_right _ (List.mem_append_right _ (acy hb e)))).1,λb hb=>?_,w9⟩
    obtain⟨o,e,d⟩:=T.obj _ _ st7 b hb
    exact(I8'.pin (b,o) (List.mem_append_right _ (List.mem_append_right _ (acy hb e)))).2.1
   |true =>
   rw[if_pos rfl]at q8' ⊢
   refine thn (he _ _ _ _ _ s8' σ8 H8' _ I8' q8') λyv s9 ⟨y,H9,I9,r9,q9⟩=>?_
   obtain⟨xs,e9,l9,m',hm,w9⟩:=q9
   refine thn (acH (X:=abK X N scope h3.objs.size {s2 with heap:=h3 } H3 fp) _ s9 σ8 H9 (.ref D) [y] (.ref D) [yv] (λ_ H'=>W (i+1) m' σ8 H') I9 rfl (.cons r9 .nil) ⟨D,xs,y,rfl,rfl,e9,l9,w9⟩) λ_ s10 ⟨_,H10,I10,_,q10⟩=>?_
   refine⟨m',hm,i+1,σ8,H10,I10.aeV (pins:=[]),T.keep _ _ _ st7 λb hb o e=>(I10.pin (b,o) (List.mem_append_right _ (List.mem_append_right _ (acy hb e)))).1,λb hb=>?_,q10⟩
   obtain⟨o,e,d⟩:=T.obj _ _ st7 b hb
   exact(I10.pin (b,o) (List.mem_append_right _ (List.mem_append_right _ (acy hb e)))).2.1
 exact codeAny_compStart_list loop (T.self _ _ _ _ _ st4 loop)
theorem agQ(hsc:X.env.scope=sc)(hNo:X.N=No)(S:agm sc No N src scope)(hc:X.calm=true)
  (hi:PI X tg iter wi) (hg:∀C s H ex,PG (abK X N scope C s H ex) tg g) (hq:∀C s H ex,PT (abK X N scope C s H ex) cnd tc) (he:∀C s H ex,PE (abK X N scope C s H ex) elt te)
  (hs:∀x,foldedSetIterable iter X.env x=pure x:=by intro _; rfl):PE X (.ListComp elt [⟨tg,iter,[cnd],0⟩] scope pos) (ahf wi g src tc te):=by
 refine⟨λpins s σ H Q I h=>?_⟩
 rw[eval_ListComp]
 have hcl:closureFor scope X.env=pure (aay X.env.cells scope.names []):=aeb λy hy e=>by
  have k:=S.free y hy e
  rw[<-hsc]at k
  obtain⟨c,q⟩:=I.ok.has y.1 k
  rw[q]; rfl
 refine wpAny_comprehension_free (use:=none) rfl hs hcl S.kind S.names (ajJ (RR:=λacc C=>compPost (model X.prog X.w) X.A X.xe none (EP X pins σ Q) acc C) hsc hNo S hc hi hg hq he I h ?_)
 intro D C H' s' m I' n1 n2 n3 n4 n5 hn q
 refine⟨m,hn,λh' hs'=>⟨.ref D,H',?_,rfl,q⟩⟩
 exact I'.turned (t':=s'.toks) (λb o hb e=>(hs'.2 b hb).trans e) n1 (Ne.symm (Ne.symm n2)) (.inr n3) n4 n5
theorem aku{i:Nat}{y:Str}{py spos:Pos}(hN:X.N.Nodup)(hyi:X.N[i]?=some y)(hy:Loc X.env.scope y)(hsc:X.env.scope=sc)(hNo:X.N=No)(S:agm sc No N src scope)(hc:X.calm=true)
  (hi:PI X tg iter wi) (hg:∀C s H ex,PG (abK X N scope C s H ex) tg g) (hq:∀C s H ex,PT (abK X N scope C s H ex) cnd tc) (he:∀C s H ex,PE (abK X N scope C s H ex) elt te)
  (hsw:swapsWith (.ListComp elt [⟨tg,iter,[cnd],0⟩] scope pos) (some (.Name y py)) spos.line X.env=pure true:=by rfl) (hs:∀x,foldedSetIterable iter X.env x=pure x:=by intro _; rfl)
  (hf:X.fn y=true\/X.env.scope.names.lookup y=some .local:=by first|exact .inl rfl|exact .inr rfl|assumption) :
  PS X (.Assign [.Name y py] (.ListComp elt [⟨tg,iter,[cnd],0⟩] scope pos) spos) (apd (ahf wi g src tc te) (acp i)):=by
 refine⟨λpins s σ H D I h=>?_⟩
 rw[exec_Assign_Name_used _ _ _ _ hsw]
 have hcl:closureFor scope X.env=pure (aay X.env.cells scope.names []):=aeb λy hy e=>by
  have k:=S.free y hy e
  rw[<-hsc]at k
  obtain⟨c,q⟩:=I.ok.has y.1 k
  rw[q]; rfl
 refine wpAny_bind (wpAny_standAt (wpAny_bind ?_))
 show wpAny _ X.A (do let _ <-comprehension (.ListComp elt [⟨tg,iter,[cnd],0⟩] scope pos) scope X.env _ (newList []) false (eval iter X.env) (some (assign (.Name y py) X.env))) _ _ s
 refine wpAny_bind (wpAny_mono (wpAny_comprehension_free (use:=some (assign (.Name y py) X.env)) (Q:=λ_ s'=>SP X pins D .next s') rfl hs hcl S.kind S.names
  (ajJ (Q:=λv H'=>D.nx (σ.set i (some v)) H') (RR:=λacc C=>compPost (model X.prog X.w) X.A X.xe (some (assign (.Name y py) X.env)) (λ_ s'=>SP X pins D .next s') acc C) hsc hNo S hc hi hg hq he I h ?_)) (λ_ s' hq=>wpAny_pure (wpAny_pure hq)) λ_ _ e=>e)
 intro Da C H' s' m I' n1 n2 n3 n4 n5 hn q
 show wpAny _ X.A (assign (.Name y py) X.env (.ref Da)) _ _ _
 refine wpAny_assign_Name (agV I' hN hyi hy (v:=.ref Da) rfl (λs2 I2 hsame=>?_) hf)
 obtain⟨a,hsb,ha⟩:=hsame
 have hCa:C≠a:=by
  rcases ha with z|z
  ·rw[z]; exact n2
  ·exact λe=>n4 y a z e.symm
 refine⟨m,hn.sameBut hsb hCa,λh' hs'=>⟨σ.set i (some (.ref Da)),H',?_,q⟩⟩
 exact I2.turned (t':=s2.toks) (λb o hb e=>(hs'.2 b hb).trans e) n1 n2 (.inr n3) n4 n5
end
end L2
end
section
namespace L2
open PySem PySem.Spec PyProof.Rows
noncomputable def acT:Sl->Sl
 |.dp _=>.un
 |s=>s
noncomputable def abX(src:List (Option Nat))(ρ : En):En:=src.map λo=>match o with
 |some j=>acT ((ρ[j]?).getD .un)
 |none=>.un
noncomputable def abv:List (Option Nat)->En->En->En
 |some j::src,.ow ts::ρi,ρ=>abv src ρi (abr j ts ρ)
 |some j::src,.rf ts::ρi,ρ=>abv src ρi (abr j ts ρ)
 |_::src,_::ρi,ρ=>abv src ρi ρ
 |_,_,ρ=>ρ
noncomputable def acV:Option Sl->Bool
 |some (.ow _)=>true
 |some (.rf _)=>true
 |_=>false
noncomputable def ab3:List (Option Nat)->En->En->Bool
 |some j::src,s::ρi,ρ=>(!acV ρ[j]? || acV (some s))&&ab3 src ρi ρ
 |none::src,_::ρi,ρ=>ab3 src ρi ρ
 | [],_,_=>true
 |_,[],_=>false
theorem alF{ρ : En}{i:Nat}:acV ρ[i]?=true↔Mu ρ i:=by
 constructor
 ·intro h
  unfold acV at h
  split at h <;> rename_i q
  ·exact⟨_,.inl q⟩
  ·exact⟨_,.inr q⟩
  ·cases h
 ·rintro⟨ts,h|h⟩ <;> rw[h] <;> rfl
theorem aiO:∀{src:List (Option Nat)} {ρi ρ : En} {k j:Nat},ab3 src ρi ρ = true->src[k]?=some (some j)->Mu ρ j->Mu ρi k
 | [],_,_,_,_,_,h,_=>by simp at h
 |some j'::src,s::ρi,ρ,k,j,h,hk,m=>by
  unfold ab3 at h
  rw[Bool.and_eq_true]at h
  cases k with
  |zero =>
   simp at hk
   subst hk
   have h1:=h.1
   rw[alF.mpr m]at h1
   have h1:acV (some s)=true:=by simpa using h1
   cases s with
   |un=>cases h1
   |sh _=>cases h1
   |dp _=>cases h1
   |ow ts=>exact⟨ts,.inl rfl⟩
   |rf ts=>exact⟨ts,.inr rfl⟩
  |succ k =>
   obtain⟨ts,q⟩:=aiO (k:=k) h.2 (by simpa using hk) m
   exact⟨ts,by simpa using q⟩
 |none::src,s::ρi,ρ,k,j,h,hk,m=>by
  unfold ab3 at h
  cases k with
  |zero=>simp at hk
  |succ k =>
   obtain⟨ts,q⟩:=aiO (k:=k) h (by simpa using hk) m
   exact⟨ts,by simpa using q⟩
 |some j'::src,[],ρ,k,j,h,hk,m=>by unfold ab3 at h; cases h
 |none::src,[],ρ,k,j,h,hk,m=>by unfold ab3 at h; cases h
noncomputable def Inj(src:List (Option Nat)):Prop:=∀(k k' j:Nat),src[k]?=some (some j)->src[k']?=some (some j)->k=k'
theorem acA{src:List (Option Nat)}(h:(src.filterMap id).Nodup):Inj src:=by
 induction src with
 |nil=>intro k k' j h1; simp at h1
 |cons o src ih =>
  have tail:Inj src:=by
   cases o with
   |none=>exact ih (by simpa using h)
   |some j=>exact ih (by simpa using(List.nodup_cons.mp (by simpa using h)).2)
  intro k k' j h1 h2
  have no:∀{m:Nat},o=some j->src[m]?=some (some j)->False:=λ{m} e q=>by
   subst e
   have n:=(List.nodup_cons.mp (show(j::src.filterMap id).Nodup by simpa using h)).1
   exact n (List.mem_filterMap.mpr ⟨some j,List.mem_of_getElem? q,rfl⟩)
  cases k with
  |zero =>
   have e1:o=some j:=by simpa using h1
   cases k' with
   |zero=>rfl
   |succ k'=>exact(no e1 (by simpa using h2)).elim
  |succ k =>
   cases k' with
   |zero=>exact(no (by simpa using h2) (by simpa using h1)).elim
   |succ k'=>rw[tail k k' j (by simpa using h1) (by simpa using h2)]
theorem anD{ρ : En}{i j:Nat}{ts:List Tr}(h:j≠i):(abr i ts ρ)[j]?=ρ[j]? := by
 unfold abr
 split
 ·exact List.getElem?_set_ne (Ne.symm h)
 ·exact List.getElem?_set_ne (Ne.symm h)
 ·rfl
theorem arW{ρ ρ':En}{i:Nat}{ts:List Tr}(h : ρ[i]?=ρ'[i]?):(abr i ts ρ)[i]?=(abr i ts ρ')[i]? := by
 unfold abr
 rw[h]
 cases q : ρ'[i]? with
 |none=>dsimp only; rw[h,q]
 |some s =>
  have l':i < ρ'.length:=(List.getElem?_eq_some_iff.mp q).1
  have l:i < ρ.length:=(List.getElem?_eq_some_iff.mp (h.trans q)).1
  cases s with
  |un=>dsimp only; rw[h,q]
  |sh _=>dsimp only; rw[h,q]
  |dp _=>dsimp only; rw[h,q]
  |ow _=>dsimp only; rw[afU l,afU l']
  |rf _=>dsimp only; rw[afU l,afU l']
theorem ahg:∀(src:List (Option Nat)) (ρi ρ : En),(abv src ρi ρ).length = ρ.length
 | [],ρi,ρ=>by unfold abv; rfl
 |o::src,[],ρ=>by cases o <;> (unfold abv; rfl)
 |none::src,s::ρi,ρ=>by unfold abv; exact ahg src ρi ρ
 |some j::src,.un::ρi,ρ=>by unfold abv; exact ahg src ρi ρ
 |some j::src,.sh _::ρi,ρ=>by unfold abv; exact ahg src ρi ρ
 |some j::src,.dp _::ρi,ρ=>by unfold abv; exact ahg src ρi ρ
 |some j::src,.ow ts::ρi,ρ=>by unfold abv; rw[ahg src ρi,aiN]
 |some j::src,.rf ts::ρi,ρ=>by unfold abv; rw[ahg src ρi,aiN]
theorem ahh:∀{src:List (Option Nat)} {ρi ρ : En} {j:Nat} {s:Sl},Inj src->(abv src ρi ρ)[j]?=some s ->
  (∃(k:Nat) (ts:List Tr),src[k]?=some (some j)/\(ρi[k]?=some (.ow ts)\/ρi[k]?=some (.rf ts))/\(abr j ts ρ)[j]?=some s)\/((∀k:Nat,src[k]?=some (some j)->¬Mu ρi k)/\ρ[j]?=some s)
 | [],ρi,ρ,j,s,_,h=>by
  unfold abv at h
  exact .inr ⟨λk q=>by simp at q,h⟩
 |o::src,[],ρ,j,s,_,h=>by
  have h : ρ[j]?=some s:=by cases o <;> (unfold abv at h; exact h)
  refine .inr ⟨λk _ m=>?_,h⟩
  obtain⟨_,q|q⟩:=m <;> simp at q
 |o::src,x::ρi,ρ,j,s,I,h=>by
  have It:Inj src:=λk k' j h1 h2=>by
   have:=I (k+1) (k'+1) j (by simpa using h1) (by simpa using h2)
   omega
  have keep:(o=none\/acV (some x)=false)->(abv src ρi ρ)[j]?=some s->(∃(k:Nat) (ts:List Tr),(o::src)[k]?=some (some j)/\((x::ρi)[k]?=some (.ow ts)\/(x::ρi)[k]?=some (.rf ts))/\(abr j ts ρ)[j]?=some s)\/((∀k:Nat,(o::src)[k]?=some (some j)->¬Mu (x::ρi) k)/\ρ[j]?=some s):=λc h=>by
   rcases ahh It h with⟨k,ts,q1,q2,q3⟩|⟨n,q⟩
   ·exact .inl ⟨k+1,ts,by simpa using q1,by simpa using q2,q3⟩
   ·refine .inr ⟨λk qk m=>?_,q⟩
    cases k with
    |zero =>
     rcases c with c|c
     ·subst c; simp at qk
     ·rw[<-alF]at m
      have m:acV (some x)=true:=m
      rw[c]at m
      cases m
    |succ k =>
     obtain⟨ts,m⟩:=m
     exact n k (by simpa using qk) ⟨ts,by simpa using m⟩
  have put:∀(i:Nat) (ts:List Tr),o=some i->(x=.ow ts\/x=.rf ts)->(abv src ρi (abr i ts ρ))[j]?=some s->(∃(k:Nat) (ts:List Tr),(o::src)[k]?=some (some j)/\((x::ρi)[k]?=some (.ow ts)\/(x::ρi)[k]?=some (.rf ts))/\(abr j ts ρ)[j]?=some s)\/((∀k:Nat,(o::src)[k]?=some (some j)->¬Mu (x::ρi) k)/\ρ[j]?=some s):=λi ts eo ex h=>by
   rcases ahh It h with⟨k,us,q1,q2,q3⟩|⟨n,q⟩
   ·have ne:j≠i:=λz=>by
     subst z
     have:=I 0 (k+1) j (by simpa using eo) (by simpa using q1)
     omega
    refine .inl ⟨k+1,us,by simpa using q1,by simpa using q2,?_⟩
    rw[<-arW (anD ne)]
    exact q3
   ·by_cases e:j=i
    ·subst e
     refine .inl ⟨0,ts,by simpa using eo,?_,q⟩
     rcases ex with rfl|rfl
     ·exact .inl rfl
     ·exact .inr rfl
    ·rw[anD e]at q
     refine .inr ⟨λk qk m=>?_,q⟩
     cases k with
     |zero =>
      rw[eo]at qk
      simp at qk
      exact e qk.symm
     |succ k =>
      obtain⟨ts,m⟩:=m
      exact n k (by simpa using qk) ⟨ts,by simpa using m⟩
  cases o with
  |none=>unfold abv at h; exact keep (.inl rfl) h
  |some i =>
   cases x with
   |un=>unfold abv at h; exact keep (.inr rfl) h
   |sh _=>unfold abv at h; exact keep (.inr rfl) h
   |dp _=>unfold abv at h; exact keep (.inr rfl) h
   |ow ts=>unfold abv at h; exact put i ts rfl (.inl rfl) h
   |rf ts=>unfold abv at h; exact put i ts rfl (.inr rfl) h
theorem ajK{src:List (Option Nat)}{ρ : En}{k:Nat}{s:Sl}(h:(abX src ρ)[k]?=some s)(n:s ≠ .un):∃j,src[k]?=some (some j)/\ρ[j]?=some s:=by
 unfold abX at h
 rw[List.getElem?_map]at h
 cases q:src[k]? with
 |none=>rw[q]at h; cases h
 |some o =>
  rw[q]at h
  cases o with
  |none=>cases h; exact(n rfl).elim
  |some j =>
   refine⟨j,rfl,?_⟩
   have h:acT ((ρ[j]?).getD .un)=s:=Option.some.inj h
   cases z : ρ[j]? with
   |none=>rw[z]at h; exact(n h.symm).elim
   |some s' =>
    rw[z]at h
    have h:acT s'=s:=h
    cases s' <;> first|exact congrArg some h|exact(n h.symm).elim
theorem apO{src:List (Option Nat)}{ρ : En}{k:Nat}{ts:List Tr}(h:(abX src ρ)[k]?=some (.dp ts)):False:=by
 unfold abX at h
 rw[List.getElem?_map]at h
 cases q:src[k]? with
 |none=>rw[q]at h; cases h
 |some o =>
  rw[q]at h
  cases o with
  |none=>cases h
  |some j =>
   have h:acT ((ρ[j]?).getD .un)=.dp ts:=Option.some.inj h
   cases z:(ρ[j]?).getD Sl.un <;> rw[z]at h <;> cases h
theorem akv{src:List (Option Nat)}{ρi ρ : En}{j:Nat}{ts:List Tr}(I:Inj src)(h:(abv src ρi ρ)[j]?=some (.dp ts)) : ρ[j]?=some (.dp ts):=by
 rcases ahh I h with⟨k,us,_,_,q⟩|⟨_,q⟩
 ·exact aeH q
 ·exact q
theorem aiP{src:List (Option Nat)}{σ : St}{k j:Nat}(h:src[k]?=some (some j)):(afr src σ)[k]?=some ((σ[j]?).join):=by
 unfold afr
 rw[List.getElem?_map,h]
 rfl
end L2
end
section
namespace L2
open PySem PySem.Spec PyProof.Rows
noncomputable def OU(src:List (Option Nat))(ρ : En)(σ : St)(F:Nat->List Addr)(b:Addr):Prop:=(∃j:Nat,Mu ρ j/\σ[j]?=some (some (.ref b))/\∀k:Nat,src[k]? ≠ some (some j))\/∃(j:Nat) (ts:List Tr),ρ[j]?=some (.dp ts)/\b∈F j
open Classical in
noncomputable def tB'(t:Tx)(src:List (Option Nat))(ρ : En)(σ : St)(F:Nat->List Addr)(H1:Hp)(D:Addr)(xs:List V):Tx:=⟨t.K,t.Z,t.R,t.H0,λb=>if b=D then some (.lst xs)else if OU src ρ σ F b then H1 b else t.B b,λ_=>False⟩
section
variable {t:Tx}{src:List (Option Nat)}{ρ1:En}{σ : St}{F:Nat->List Addr}{H1:Hp}{D:Addr}{W:Addr->Prop}
theorem B_D{xs:List V}:(tB' t src ρ1 σ F H1 D xs).B D=some (.lst xs):=if_pos rfl
theorem aqQ{xs:List V}{b:Addr}(h1:b≠D)(h2:¬OU src ρ1 σ F b):(tB' t src ρ1 σ F H1 D xs).B b=t.B b:=by
 unfold tB'
 dsimp only
 rw[if_neg h1,if_neg h2]
theorem aqR{xs:List V}{b:Addr}(h1:b≠D)(h2:OU src ρ1 σ F b):(tB' t src ρ1 σ F H1 D xs).B b=H1 b:=by
 unfold tB'
 dsimp only
 rw[if_neg h1,if_pos h2]
theorem arX{k:Nat}(h:Mu (abX src ρ1) k):∃j,src[k]?=some (some j)/\Mu ρ1 j:=by
 obtain⟨ts,q|q⟩:=h
 ·obtain⟨j,h1,h2⟩:=ajK q (by intro z; cases z)
  exact⟨j,h1,ts,.inl h2⟩
 ·obtain⟨j,h1,h2⟩:=ajK q (by intro z; cases z)
  exact⟨j,h1,ts,.inr h2⟩
theorem aiQ{k j:Nat}{v:V}(h:src[k]?=some (some j))(q:(afr src σ)[k]?=some (some v)) : σ[j]?=some (some v):=by
 rw[aiP h]at q
 have q:=Option.some.inj q
 cases z : σ[j]? with
 |none=>rw[z]at q; cases q
 |some o =>
  rw[z]at q
  have q:o=some v:=q
  rw[q]
theorem agR{k j:Nat}{v:V}(h:src[k]?=some (some j))(q : σ[j]?=some (some v)):(afr src σ)[k]?=some (some v):=by
 rw[aiP h,q]
 rfl
theorem OU.tab{b:Addr}(e1F:EOF t W ρ1 σ H1 F)(z:Tb t.K b):¬OU src ρ1 σ F b:=by
 rintro(⟨j,m,q,_⟩|⟨j,ts,d',y⟩)
 ·obtain⟨xs,h⟩:=EOk.auy ⟨F,e1F⟩ m q
  exact e1F.tab.ok.ne z h rfl
 ·obtain⟨a,xs,_,d⟩:=e1F.dp j ts d'
  exact d.nt e1F.tab.ok z y
theorem axn{xs:List V}{b:Addr}(e1F:EOF t W ρ1 σ H1 F)(hD:H1 D=none)(z:Tb t.K b):(tB' t src ρ1 σ F H1 D xs).B b=none:=by
 have nD:b≠D:=λy=>by
  obtain⟨ps,h⟩:=e1F.tab.ok.tbl z
  rw[y,hD]at h
  cases h
 rw[aqQ nD (OU.tab e1F z)]
 exact e1F.tab.B b z
theorem EOF.enter(I:Inj src)(e1F:EOF t W ρ1 σ H1 F)(hD:H1 D=none):EOk (tB' t src ρ1 σ F H1 D []) (λb=>W b\/b=D) (abX src ρ1) (afr src σ) (upd H1 D (.lst [])):=by
 have e1:EOk t W ρ1 σ H1:=⟨F,e1F⟩
 have e2:=(e1.hide (aaQ hD (.lst [])) hD abj).ok
 have tf:=e2.tab
 refine⟨λ_=>[],?_,e2.zw,e2.z0,e2.wl,e2.f0,e2.n0,λk u h=>?_,λk ts h=>?_,λk ts h=>?_,λk k' a m1 m2 q1 q2=>?_,λb o h=>?_,λk a m q=>?_,λk ts h=>(apO h).elim,λk _ ts _ _ h=>(apO h).elim,λk _ ts _ h=>(apO h).elim,λk ts h=>(apO h).elim,⟨tf.ok,tf.w,tf.r,λb z=>axn e1F hD z⟩⟩
 ·unfold abX afr
  rw[List.length_map,List.length_map]
 ·obtain⟨j,h1,h2⟩:=ajK h (by intro z; cases z)
  obtain⟨v,q1,q2⟩:=e2.sh j u h2
  exact⟨v,agR h1 q1,q2⟩
 ·obtain⟨j,h1,h2⟩:=ajK h (by intro z; cases z)
  obtain⟨a,xs,q1,q2⟩:=e2.ow j ts h2
  exact⟨a,xs,agR h1 q1,q2⟩
 ·obtain⟨j,h1,h2⟩:=ajK h (by intro z; cases z)
  obtain⟨a,xs,q1,q2⟩:=e2.rf j ts h2
  exact⟨a,xs,agR h1 q1,q2⟩
 ·obtain⟨j,h1,n1⟩:=arX m1
  obtain⟨j',h2,n2⟩:=arX m2
  have:=e2.dis j j' a n1 n2 (aiQ h1 q1) (aiQ h2 q2)
  subst this
  exact I k k' j h1 h2
 ·by_cases h1:b=D
  ·subst h1
   rw[B_D]at h
   rw[abj]
   exact h
  ·by_cases h2:OU src ρ1 σ F b
   ·rw[aqR h1 h2]at h
    rw[aaG h1]
    exact h
   ·rw[aqQ h1 h2]at h
    exact e2.pn b o h
 ·obtain⟨j,h1,n1⟩:=arX m
  have q:=aiQ h1 q
  have wa:=e1.addr n1 q
  have nD:a≠D:=λz=>by subst z; exact e1.wn a wa hD
  have nO:¬OU src ρ1 σ F a:=by
   rintro(⟨j',m',q',u'⟩|⟨j',ts,d',z⟩)
   ·have:=e1.dis j j' a n1 m' q q'
    subst this
    exact u' k h1
   ·exact e1F.dm j' j ts a d' n1 q z
  rw[aqQ nD nO]
  exact e1.pd j a n1 q
theorem EOk.auB{xs ys:List V}{ρ : En}{τ : St}{H:Hp}{W':Addr->Prop}(e:EOk (tB' t src ρ1 σ F H1 D xs) W' ρ τ H)(w:W' D)(h0:t.H0 D=none):EOk (tB' t src ρ1 σ F H1 D ys) W' ρ τ (upd H D (.lst ys)):=by
 have ne:∀i a,Mu ρ i -> τ[i]?=some (some (.ref a))->a≠D:=λi a m q z=>by
  subst z
  have:=e.pd i a m q
  rw[B_D]at this
  cases this
 obtain⟨F',e⟩:=e
 have neD:∀i ts,ρ[i]?=some (Sl.dp ts)->∀b∈F' i,b≠D:=λi ts h b hb z=>by
  subst z
  have:=e.db i ts h b hb
  rw[B_D]at this
  cases this
 refine⟨F',e.len,e.zw,e.z0,λb z=>?_,λb o h n=>?_,λb h=>?_,λi u h=>?_,λi ts h=>?_,λi ts h=>?_,e.dis,λb o h=>?_,λi a m q=>?_,λi ts h=>?_,e.dd,e.dm,λi ts h b hb=>?_,⟨e.tab.ok.upd (e.pn D _ B_D),e.tab.w,e.tab.r,λb z=>?_⟩⟩
 ·by_cases q:b=D
  ·subst q; exact .inl ⟨ys,abj⟩
  ·unfold Lt; rw[aaG q]; exact e.wl b z
 ·rw[aaG]
  ·exact e.f0 b o h n
  ·rintro rfl
   have h:t.H0 b=some o:=h
   rw[h0]at h
   cases h
 ·by_cases q:b=D
  ·subst q; exact h0
  ·rw[aaG q]at h; exact e.n0 b h
 ·rw[adi w]
  exact e.sh i u h
 ·obtain⟨a,zs,q1,q2,q3,q4,q5⟩:=e.ow i ts h
  rw[adi w]
  exact⟨a,zs,q1,q2,q3,by rw[aaG (ne i a ⟨ts,.inl h⟩ q1)]; exact q4,q5⟩
 ·obtain⟨a,zs,q1,q2,q3,q4,q5⟩:=e.rf i ts h
  rw[adi w]
  exact⟨a,zs,q1,q2,q3,by rw[aaG (ne i a ⟨ts,.inr h⟩ q1)]; exact q4,q5⟩
 ·by_cases h1:b=D
  ·subst h1
   rw[B_D]at h
   rw[abj]
   exact h
  ·rw[aaG h1]
   refine e.pn b o ?_
   by_cases h2:OU src ρ1 σ F b
   ·rw[aqR h1 h2]at h ⊢; exact h
   ·rw[aqQ h1 h2]at h ⊢; exact h
 ·have nD:=ne i a m q
  have z:=e.pd i a m q
  by_cases h2:OU src ρ1 σ F a
  ·rw[aqR nD h2]at z ⊢; exact z
  ·rw[aqQ nD h2]at z ⊢; exact z
 ·obtain⟨a,zs,q1,d⟩:=e.dp i ts h
  exact⟨a,zs,q1,d.move rfl rfl (by rw[adi w]; exact Same.refl _) (λb hb=>by obtain⟨_,_,_,ww,_⟩:=d; exact(ww b hb).1) λb o hb q=>by rw[aaG (neD i ts h b hb)]; exact q⟩
 ·have nD:=neD i ts h b hb
  have z:=e.db i ts h b hb
  by_cases h2:OU src ρ1 σ F b
  ·rw[aqR nD h2]at z ⊢; exact z
  ·rw[aqQ nD h2]at z ⊢; exact z
 ·have y:=e.tab.B b z
  have nD:b≠D:=λq=>by
   subst q
   rw[B_D]at y
   cases y
  by_cases h2:OU src ρ1 σ F b
  ·rw[aqR nD h2]at y ⊢; exact y
  ·rw[aqQ nD h2]at y ⊢; exact y
theorem EOF.leave{xs:List V}{ρ : En}{τ : St}{H:Hp}{Wx:Addr->Prop}{js:List Nat}(I:Inj src)(e1F:EOF t W ρ1 σ H1 F)(hD:H1 D=none)(e:EOk (tB' t src ρ1 σ F H1 D xs) (λb=>W b\/b=D) ρ τ H)(nx:∀b o,¬W b->H1 b=some o->H b=some o)
  (hj:∀k j:Nat,src[k]?=some (some j)->k∉js) (ag:∀k,k∉js -> τ[k]?=(afr src σ)[k]?) (so:ab3 src ρ ρ1=true) (w1:∀b,W b->Wx b) (w2:∀b,Wx b->W b\/b=D):EOF t Wx (abv src ρ ρ1) σ H F:=by
 have e1:EOk t W ρ1 σ H1:=⟨F,e1F⟩
 have m1:Same (aa7 W H1) (aa7 Wx H):=λb o h=>by
  obtain⟨n,h⟩:=abl h
  rw[aaZ]
  ·exact nx b o n h
  ·intro z
   rcases w2 b z with z|rfl
   ·exact n z
   ·rw[hD]at h; cases h
 have m2:Same (aa7 (λb=>W b\/b=D) H) (aa7 Wx H):=acq (λb _ _ z=>w2 b z) λ_ _ _ h=>h
 have muo:∀j,Mu (abv src ρ ρ1) j->Mu ρ1 j:=λj m=>by
  obtain⟨ts,m|m⟩:=m <;> rcases ahh I m with⟨k,us,q1,q2,q3⟩|⟨n,q⟩
  ·exact afW ⟨ts,.inl q3⟩
  ·exact⟨ts,.inl q⟩
  ·exact afW ⟨ts,.inr q3⟩
  ·exact⟨ts,.inr q⟩
 have inner:∀(k j:Nat) (ts:List Tr) (a:Addr),src[k]?=some (some j)->(ρ[k]?=some (.ow ts)\/ρ[k]?=some (.rf ts)) -> σ[j]?=some (some (.ref a))->∃ys,H a=some (.lst ys)/\aa2 t.K (aa7 Wx H) ys ts:=λk j ts a q1 q2 q3=>by
  have z:=ag k (hj k j q1)
  rw[agR q1 q3]at z
  rcases q2 with q2|q2
  ·obtain⟨c,ys,h1,h2,h3,h4,h5⟩:=e.ow k ts q2
   rw[z]at h1
   cases h1
   exact⟨ys,h4,h5.mono m2⟩
  ·obtain⟨c,ys,h1,h2,h3,h4,h5⟩:=e.rf k ts q2
   rw[z]at h1
   cases h1
   exact⟨ys,h4,h5.mono m2⟩
 have outer:∀(j:Nat) (a:Addr) (ys:List V),Mu ρ1 j->(∀k,src[k]?=some (some j)->¬Mu ρ k) -> σ[j]?=some (some (.ref a))->H1 a=some (.lst ys)->H a=some (.lst ys):=λj a ys m n q h=>by
  have wa:=e1.addr m q
  have nD:a≠D:=λz=>by subst z; exact e1.wn a wa hD
  refine e.pn a _ ?_
  rw[aqR nD (.inl ⟨j,m,q,λk z=>n k z (aiO so z m)⟩)]
  exact h
 refine⟨by rw[ahg]; exact e1.len,λb z=>w1 b (e1.zw b z),e1.z0,λb z=>e.wl b (w2 b z),e.f0,e.n0,λj u h=>?_,λj ts h=>?_,λj ts h=>?_,λj k a n1 n2=>e1.dis j k a (muo j n1) (muo k n2),λb o h=>?_,λj a m=>e1.pd j a (muo j m),λj ts h=>?_,λj k ts us n h1 h2=>e1F.dd j k ts us n (akv I h1) (akv I h2),λj k ts c h1 m q=>e1F.dm j k ts c (akv I h1) (muo k m) q,λj ts h=>e1F.db j ts (akv I h),⟨e.tab.ok,λb z=>w1 b (e1.tab.w b z),e1.tab.r,e1.tab.B⟩⟩
 ·have h' : ρ1[j]?=some (.sh u):=by
   rcases ahh I h with⟨k,us,q1,q2,q3⟩|⟨n,q⟩
   ·rcases aei q3 with⟨ne,_⟩|⟨_,⟨_,_,z⟩|⟨_,_,z⟩|⟨_,q⟩⟩
    ·exact(ne rfl).elim
    ·cases z
    ·cases z
    ·exact q
   ·exact q
  obtain⟨v,q1,q2⟩:=e1.sh j u h'
  exact⟨v,q1,q2.mono m1⟩
 ·rcases ahh I h with⟨k,us,q1,q2,q3⟩|⟨n,q⟩
  ·rcases aei q3 with⟨ne,_⟩|⟨_,⟨ts0,q0,z⟩|⟨_,_,z⟩|⟨nm,q⟩⟩
   ·exact(ne rfl).elim
   ·cases z
    obtain⟨a,ys,h1,h2,h3,h4,h5⟩:=e1.ow j ts0 q0
    obtain⟨zs,k1,k2⟩:=inner k j ts a q1 q2 h1
    exact⟨a,zs,h1,w1 a h2,h3,k1,k2⟩
   ·cases z
   ·exact(nm ⟨ts,.inl q⟩).elim
  ·obtain⟨a,ys,h1,h2,h3,h4,h5⟩:=e1.ow j ts q
   exact⟨a,ys,h1,w1 a h2,h3,outer j a ys ⟨ts,.inl q⟩ n h1 h4,h5.mono m1⟩
 ·rcases ahh I h with⟨k,us,q1,q2,q3⟩|⟨n,q⟩
  ·rcases aei q3 with⟨ne,_⟩|⟨_,⟨_,_,z⟩|⟨ts0,q0,z⟩|⟨nm,q⟩⟩
   ·exact(ne rfl).elim
   ·cases z
   ·cases z
    obtain⟨a,ys,h1,h2,h3,h4,h5⟩:=e1.rf j ts0 q0
    obtain⟨zs,k1,k2⟩:=inner k j ts a q1 q2 h1
    exact⟨a,zs,h1,w1 a h2,h3,k1,k2⟩
   ·exact(nm ⟨ts,.inr q⟩).elim
  ·obtain⟨a,ys,h1,h2,h3,h4,h5⟩:=e1.rf j ts q
   exact⟨a,ys,h1,w1 a h2,h3,outer j a ys ⟨ts,.inr q⟩ n h1 h4,h5.mono m1⟩
 ·have nD:b≠D:=λz=>by
   subst z
   rw[e1.noB hD]at h
   cases h
  have nO:¬OU src ρ1 σ F b:=by
   rintro(⟨j,m,q,_⟩|⟨j,ts,d',z⟩)
   ·rw[e1.pd j b m q]at h
    cases h
   ·rw[e1F.db j ts d' b z]at h
    cases h
  refine e.pn b o ?_
  rw[aqQ nD nO]
  exact h
 ·have hd:=akv I h
  obtain⟨a,ys,q1,d⟩:=e1F.dp j ts hd
  have ww:∀b∈F j,W b:=λb hb=>by obtain⟨_,_,_,ww,_⟩:=d; exact(ww b hb).1
  refine⟨a,ys,q1,d.move rfl rfl m1 (λb hb=>w1 b (ww b hb)) λb o hb q=>?_⟩
  have nD:b≠D:=λz=>by subst z; exact e1.wn b (ww b hb) hD
  refine e.pn b o ?_
  rw[aqR nD (.inr ⟨j,ts,hd,hb⟩)]
  exact q
end
noncomputable def clV:Rv->Rs Tr
 |.v T _=>.ok T
 |.s _=>.bad
theorem anE(r:Rv)(c:Str):clV r ≠ .ex c:=by cases r <;> (intro z; cases z)
noncomputable def ad2(g:GF)(c:BF)(f:EF):List Tr->En->Rs (List Tr × En)
 | [],ρ=>.ok ([],ρ)
 |u::us,ρ=>(g u ρ).bind λρ1=>(c ρ1).bind λb=>if b.1=true then(f b.2).bind λp=>(clV p.1).bind λT=>(ad2 g c f us p.2).bind λz=>.ok (T::z.1,z.2)else ad2 g c f us b.2
noncomputable def abb(src:List (Option Nat))(fi:IF)(g:GF)(c:BF)(f:EF):EF:=λρ=>(fi ρ).bind λp=>if p.1.length<=100000 then(abS (ad2 g c f p.1 (abX src p.2))).bind λz=>if ab3 src z.2 p.2=true then .ok (.v (.lst z.1) true,abv src z.2 p.2)else .bad else .bad
theorem afB{t:Tx}{wi:TI}{g:TG}{src:List (Option Nat)}{tc:TT}{te:TE}{fi:IF}{gf:GF}{c:BF}{f:EF}{js:List Nat}(hi:SI t wi fi)(I:Inj src)(hj:∀k j:Nat,src[k]?=some (some j)->k∉js)(ng:∀T ρ c,gf T ρ ≠ .ex c)
  (hg:∀t':Tx,t'.K=t.K->(∀c,¬t'.EX c)->SG t' g gf js) (hc:∀t':Tx,t'.K=t.K->(∀c,¬t'.EX c)->ST t' tc c) (he:∀t':Tx,t'.K=t.K->(∀c,¬t'.EX c)->SE t' te f):SE t (ahf wi g src tc te) (abb src fi gf c f):=λW ρ σ H Q e h=>by
 refine hi W ρ σ H _ e (Rs.aam (Rs.aaf h) λp h J H1 e1 s1 it=>?_)
 obtain⟨us,ρ1⟩:=p
 dsimp only at h it e1
 split at h
 case isFalse=>exact h.elim
 rename_i hlen
 intro D hD
 have h:=afA (Rs.aaf h)
 obtain⟨F,e1F⟩:=id e1
 have wD:∀b,W b->b≠D:=λb w z=>by subst z; exact e1.wn b w hD
 have h0D:t.H0 D=none:=e1.n0 D hD
 refine⟨λi m τ H'=>m=us.length-i/\i<=us.length/\∃ρ' xs acc,EOk (tB' t src ρ1 σ F H1 D xs) (λb=>W b\/b=D) ρ' τ H'/\aa2 t.K (aa7 (λb=>W b\/b=D) H') xs acc/\xs.length<=i/\(∀b o,¬W b->H1 b=some o->H' b=some o)/\(∀k,k∉js -> τ[k]?=(afr src σ)[k]?) /\
   (ad2 gf c f (us.drop i) ρ').post (λ_=>False) (λz=>(if ab3 src z.2 ρ1=true then .ok (.v (.lst (acc++z.1)) true,abv src z.2 ρ1)else .bad:Rs (Rv × En)).post t.EX (λp=>∀v H',EOk t W p.2 σ H'->Stp W H H'->VOE t W p.2 σ H H' v p.1->Q v H')),?_,?_⟩
 ·refine⟨us.length,by simp,Nat.zero_le _,abX src ρ1,[],[],e1F.enter I hD,.nil,Nat.le_refl _,λb o _ q=>?_,λ_ _=>rfl,?_⟩
  ·rw[aaG (aaW q hD)]; exact q
  ·rw[List.drop_zero]; exact h
 ·rintro i m τ H2 ⟨rfl,hi,ρ2,xs,acc,e2,r2,l2,n2,a2,h2⟩
  have sm:Same (aa7 W H1) (aa7 (λb=>W b\/b=D) H2):=λb o q=>by
   obtain⟨nw,q⟩:=abl q
   rw[aaZ]
   ·exact n2 b o nw q
   ·rintro(z|rfl)
    ·exact nw z
    ·rw[hD]at q; cases q
  have q:=it _ H2 sm e2.wl i
  by_cases hlt:i<us.length
  ·rw[List.drop_eq_getElem_cons hlt]at h2
   obtain⟨go,y⟩:=q.2 us[i] (by simp[hlt])
   refine .inr ⟨go,λx H3 yl=>?_⟩
   obtain⟨s3,r3⟩:=y x H3 yl
   have e3:=e2.grow s3
   refine hg (tB' t src ρ1 σ F H1 D xs) rfl (λ_=>id) _ ρ2 τ H3 x us[i] _ e3 r3 (Rs.aam (aki (Rs.aaf h2) (ng _ _)) λρ4 h σ4 e4 a4=>?_)
   refine hc (tB' t src ρ1 σ F H1 D xs) rfl (λ_=>id) _ ρ4 σ4 H3 _ e4 (Rs.aam (Rs.aaf h) λb h H5 e5 s5=>?_)
   have st5:Stp (λb=>W b\/b=D) H2 H5:=(Stp.of s3).trans s5
   have n5:∀b o,¬W b->H1 b=some o->H5 b=some o:=λb o nw qb=>by
    have nD:b≠D:=aaW qb hD
    refine st5.keep b o ?_ (n2 b o nw qb)
    rintro(z|z)
    ·exact nw z
    ·exact nD z
   have a5:∀k,k∉js -> σ4[k]?=(afr src σ)[k]? := λk nk=>(a4 k nk).trans (a2 k nk)
   split at h
   ·rename_i cb
    rw[if_pos cb]
    refine he (tB' t src ρ1 σ F H1 D xs) rfl (λ_=>id) _ b.2 σ4 H5 _ e5 (Rs.aam (Rs.aaf h) λp h v H6 e6 s6 v6=>?_)
    obtain⟨T,kT,h⟩:=abZ (Rs.aaf h) (anE _)
    have rv:Rep t.K (aa7 (λb=>W b\/b=D) H6) v T:=by
     obtain⟨r,ρ7⟩:=p
     cases r with
     |s i=>cases kT
     |v U fr =>
      cases kT
      exact VOk.rep (K:=t.K) e5.wn v6.1
    refine⟨xs,e6.pn D _ B_D,Nat.lt_of_le_of_lt (show xs.length<=100000 by omega) (by decide),us.length-(i+1),by omega,rfl,hlt,p.2,xs++[v],acc++[T],e6.auB (.inr rfl) h0D,?_,by rw[List.length_append]; simp; omega,λb o nw q=>?_,a5,?_⟩
    ·rw[adi (.inr rfl)]
     exact(r2.mono (st5.trans s6).off).app (.cons rv .nil)
    ·have nD:b≠D:=aaW q hD
     rw[aaG nD]
     refine s6.keep b o ?_ (n5 b o nw q)
     rintro(z|z)
     ·exact nw z
     ·exact nD z
    ·refine Rs.aam (Rs.aaf h) λz h=>?_
     rw[List.append_assoc]
     exact h
   ·rename_i cb
    rw[if_neg cb]
    exact⟨us.length-(i+1),by omega,rfl,hlt,b.2,xs,acc,e5,r2.mono st5.off,by omega,n5,a5,h⟩
  ·have z:i=us.length:=by omega
   subst z
   rw[List.drop_length]at h2
   have h2:(if ab3 src ρ2 ρ1=true then .ok (.v (.lst (acc++[])) true,abv src ρ2 ρ1)else .bad:Rs (Rv × En)).post t.EX _:=h2
   refine .inl ⟨q.1 rfl,?_⟩
   split at h2
   ·rename_i so
    rw[List.append_nil]at h2
    have hxs:H2 D=some (.lst xs):=e2.pn D _ B_D
    have eW:EOk t W (abv src ρ2 ρ1) σ H2:=⟨F,e1F.leave (Wx:=W) I hD e2 n2 hj a2 so (λ_ w=>w) λ_ w=>.inl w⟩
    have eD:EOh t W D (abv src ρ2 ρ1) σ H2:=⟨F,e1F.leave (Wx:=λb=>W b\/b=D) I hD e2 n2 hj a2 so (λ_ w=>.inl w) λ_ w=>w,λi ts hi z=>by
     obtain⟨c,ys,_,bs,_,_,ww,_⟩:=e1F.dp i ts (akv I hi)
     exact wD D (ww D z).1 rfl⟩
    have st:Stp W H1 H2:=⟨n2,λb q=>by
     cases z:H1 b with
     |none=>rfl
     |some o =>
      by_cases w:W b
      ·exact((e2.wl b (.inl w)).ne q).elim
      ·rw[n2 b o w z]at q
       cases q⟩
    refine h2 (.ref D) H2 eW (s1.trans st) ⟨⟨D,xs,acc,rfl,rfl,s1.dom D hD,hxs,r2.mono λb o q=>?_⟩,λU a _ ea=>?_⟩
    ·obtain⟨nb,q⟩:=abl q
     rw[off_ne λz=>nb (.inr z),aaZ λz=>nb (.inl z)]
     exact q
    ·cases ea
     exact eD
   ·exact h2.elim
noncomputable def ad3:BF:=λρ=>.ok (true,ρ)
theorem apP{wi:TI}{g:TG}{src:List (Option Nat)}{te:TE}:amh wi g src te=ahf wi g src (λ_ H Q=>Q true H) te:=by
 funext σ H Q
 simp only[amh,ahf,if_true]
theorem acv{t:Tx}{wi:TI}{g:TG}{src:List (Option Nat)}{te:TE}{fi:IF}{gf:GF}{f:EF}{js:List Nat}(hi:SI t wi fi)(I:Inj src)(hj:∀k j:Nat,src[k]?=some (some j)->k∉js)(ng:∀T ρ c,gf T ρ ≠ .ex c)
  (hg:∀t':Tx,t'.K=t.K->(∀c,¬t'.EX c)->SG t' g gf js) (he:∀t':Tx,t'.K=t.K->(∀c,¬t'.EX c)->SE t' te f):SE t (amh wi g src te) (abb src fi gf ad3 f):=by
 rw[apP]
 exact afB hi I hj ng hg (λt' _ _ W ρ σ H Q e h=>h H e (Stp.refl _ _)) he
end L2
end
section
namespace L2
open PySem PySem.Spec PyProof.Rows
theorem PS.nox{X:Cx}{st:Stmt}{t:TS}(h:PS X.nox st t):PS X st t:=⟨λpins s σ H D I hw =>
 wpAny_mono (h pins s σ H D (I.wish _) hw) (λ_ _ q=>q.agi) λ_ _ z=>False.elim z⟩
theorem EOk.ex{t:Tx}{EX:Str->Prop}{W:Addr->Prop}{ρ : En}{σ : St}{H:Hp}(e:EOk t W ρ σ H):EOk {t with EX:=EX } W ρ σ H:=e.elim λF e=>⟨F,e.len,e.zw,e.z0,e.wl,e.f0,e.n0,e.sh,e.ow,e.rf,e.dis,e.pn,e.pd,e.dp,e.dd,e.dm,e.db,⟨e.tab.ok,e.tab.w,e.tab.r,e.tab.B⟩⟩
theorem EOk.awJ{t:Tx}{EX:Str->Prop}{W:Addr->Prop}{ρ : En}{σ : St}{H:Hp}(e:EOk {t with EX:=EX } W ρ σ H):EOk t W ρ σ H:=e.elim λF e=>⟨F,e.len,e.zw,e.z0,e.wl,e.f0,e.n0,e.sh,e.ow,e.rf,e.dis,e.pn,e.pd,e.dp,e.dd,e.dm,e.db,⟨e.tab.ok,e.tab.w,e.tab.r,e.tab.B⟩⟩
noncomputable def acU(f:SF):SF:=λρ=>abS (f ρ)
theorem aed{t:Tx}{ts:TS}{f:SF}(h:∀t':Tx,t'.K=t.K->(∀c,¬t'.EX c)->SS t' ts f):SS t ts (acU f):=λW ρ σ H D e q=>by
 refine h {t with EX:=λ_=>False } rfl (λ_=>id) W ρ σ H D e.ex (Rs.aam (afA q) λp q=>?_)
 obtain⟨fl,ρ'⟩:=p
 cases fl with
 |nx=>exact λW' σ' H' e' n=>q W' σ' H' e'.awJ n
 |rt T fr =>
  refine λv W' σ' H' e' n=>q v W' σ' H' e'.awJ ?_
  cases fr <;> exact n
 |bk=>exact λW' σ' H' e' n=>q W' σ' H' e'.awJ n
 |ct=>exact λW' σ' H' e' n=>q W' σ' H' e'.awJ n
theorem azI{p:Int->Int->Int}(a b:Tr)(c:Str):gI p a b ≠ .ex c:=by
 cases a <;> cases b <;> (intro z; cases z)
theorem arY{q:Int->Int->Bool}{p:Int->Int->Int}(a b:Tr)(c:Str):gIC q p a b ≠ .ex c:=by
 cases a <;> cases b <;> first|(intro z; cases z; done)|(dsimp only[gIC]; split <;> (intro z; cases z))
theorem axo{p:Int->Int->Bool}(a b:Tr)(c:Str):gB p a b ≠ .ex c:=by
 cases a <;> cases b <;> (intro z; cases z)
theorem axp(a b:Tr)(c:Str):gEq a b ≠ .ex c:=by unfold gEq; split <;> (intro z; cases z)
theorem axq(a b:Tr)(c:Str):gNe a b ≠ .ex c:=by unfold gNe; split <;> (intro z; cases z)
theorem auC{f:Bool->Bool}(a b:Tr)(c:Str):gIn f a b ≠ .ex c:=by
 cases b <;> first|(intro z; cases z; done)|(dsimp only[gIn]; split <;> (intro z; cases z))
theorem auD(a b:Tr)(c:Str):abf a b ≠ .ex c:=by
 cases a <;> cases b <;> first|(intro z; cases z; done)|(dsimp only[abf]; split <;> (intro z; cases z))
theorem auE(a b:Tr)(c:Str):ab2 a b ≠ .ex c:=by
 cases a <;> cases b <;> first|(intro z; cases z; done)|(dsimp only[ab2]; split <;> (intro z; cases z))
theorem auF(a b:Tr)(c:Str):acQ a b ≠ .ex c:=arY a b c
theorem auG(a b:Tr)(c:Str):acK a b ≠ .ex c:=arY a b c
theorem auH(a b:Tr)(c:Str):acR a b ≠ .ex c:=arY a b c
theorem auI(a b:Tr)(c:Str):acS a b ≠ .ex c:=azI a b c
theorem axr(a b:Tr)(c:Str):gGt a b ≠ .ex c:=axo a b c
theorem ahR(a b:Tr)(c:Str):gLe a b ≠ .ex c:=axo a b c
theorem axt(a b:Tr)(c:Str):gGe a b ≠ .ex c:=axo a b c
theorem axu(a b:Tr)(c:Str):gLt a b ≠ .ex c:=by
 cases a <;> cases b <;> first|(intro z; cases z; done)|(dsimp only[gLt]; split <;> (intro z; cases z))
theorem axv(a b:Tr)(c:Str):gIx a b ≠ .ex c:=by
 cases a <;> cases b <;> first|(intro z; cases z; done)|(dsimp only[gIx]; split <;> first|(intro z; cases z; done)|(split <;> (intro z; cases z)))
theorem auJ(a:Tr)(c:Str):anv a ≠ .ex c:=by cases a <;> (intro z; cases z)
theorem auK(a:Tr)(c:Str):abg a ≠ .ex c:=by
 cases a <;> first|(intro z; cases z; done)|(dsimp only[abg]; split <;> (intro z; cases z))
theorem auL(a:Tr)(c:Str):adE a ≠ .ex c:=by cases a <;> (intro z; cases z)
theorem auM(a:Tr)(c:Str):atf a ≠ .ex c:=by cases a <;> (intro z; cases z)
theorem auN(a:Tr)(c:Str):ao9 a ≠ .ex c:=by unfold ao9; split <;> (intro z; cases z)
theorem auO(a b:Tr)(c:Str):adw a b ≠ .ex c:=by cases a <;> cases b <;> (intro z; cases z)
theorem auP(a:Tr)(c:Str):acC a ≠ .ex c:=by
 cases a <;> first|(intro z; cases z; done)|(dsimp only[acC]; split <;> (intro z; cases z))
theorem abQ{i:Nat}(T:Tr)(ρ : En)(c:Str):gN i T ρ ≠ .ex c:=by intro z; cases z
theorem ahi(Ts:List Tr)(ρ : En)(c:Str):ac6 Ts ρ ≠ .ex c:=by cases Ts <;> (intro z; cases z)
theorem afC{f:GF}{g:GFs}(h1:∀T ρ c,f T ρ ≠ .ex c)(h2:∀T ρ c,g T ρ ≠ .ex c)(Ts:List Tr)(ρ : En)(c:Str):aaV f g Ts ρ ≠ .ex c:=by
 cases Ts with
 |nil=>intro z; cases z
 |cons T r=>exact alE (h1 T ρ) (λρ'=>h2 r ρ') c
theorem arZ{n:Nat}{f:GFs}(h:∀T ρ c,f T ρ ≠ .ex c)(T:Tr)(ρ : En)(c:Str):gT n f T ρ ≠ .ex c:=by
 cases T <;> first|(intro z; cases z; done)|(dsimp only[gT]; split <;> first|exact h _ _ _|(intro z; cases z))
noncomputable def atj(f:AF)(n:Nat):Prop:=∀ρ p,f ρ=.ok p->p.1.length=n
theorem aaw:atj aar 0:=λρ p h=>by cases h; rfl
theorem aag{f:EF}{g:AF}{n:Nat}(h:atj g n):atj (aae f g) (n+1):=λρ p q=>by
 unfold aae at q
 obtain⟨a,q1,q⟩:=aaJ q
 obtain⟨b,q2,q⟩:=aaJ q
 cases q
 rw[List.length_cons,h _ _ q2]
noncomputable def Gk(K:PySem.W.Frag)(mg:Str->Option Value)(x:Str)(v:V)(T:Tr):Prop:=∃u,mg x=some u/\RelV v u/\∀H,Rep (nlK K) H v T
theorem axw{X:Cx}{x:Str}{v:V}{T:Tr}{pos:Pos}(h:Gk X.K X.mg x v T)(hg:Gl X x:=by rfl)(hd:(x == ("__debug__" : Str))=false:=by decide):PE X (.Name x pos) (tC v):=by
 obtain⟨u,h1,h2,_⟩:=h
 exact arb hg h1 h2 hd
theorem ar0{t:Tx}{K:PySem.W.Frag}{mg:Str->Option Value}{x:Str}{v:V}{T:Tr}(hK:t.K=nlK K)(h:Gk K mg x v T):SE t (tC v) (eC T):=by
 obtain⟨u,_,_,h⟩:=h
 exact awH λH=>by rw[hK]; exact h H
end L2
end
section
namespace L2
open PySem PySem.Spec PyProof.Rows
section
variable {t:Tx}{K:PySem.W.Frag}{ta tb tc:TE}{fa fb fc:EF}
theorem adk(hK:t.K=nlK K)(ha:SE t ta fa)(hb:SE t tb fb):SE t (tOp (arL K) ta tb) (eOp abf fa fb):=afx (by rw[hK]; exact auc) auD ha hb
theorem anF(hK:t.K=nlK K)(ha:SE t ta fa)(hb:SE t tb fb):SE t (tOp (rI0 λi j=>.int (i-j)) ta tb) (eOp acS fa fb):=afx (by rw[hK]; exact auj) auI ha hb
theorem ae2(hK:t.K=nlK K)(ha:SE t ta fa)(hb:SE t tb fb):SE t (tOp (arM K) ta tb) (eOp ab2 fa fb):=afx (by rw[hK]; exact aue (K:=K)) auE ha hb
theorem akx(hK:t.K=nlK K)(ha:SE t ta fa)(hb:SE t tb fb):SE t (tOp (rI apC λi j=>.int (i.fdiv j)) ta tb) (eOp acQ fa fb):=afx (by rw[hK]; exact auf) auF ha hb
theorem aky(hK:t.K=nlK K)(ha:SE t ta fa)(hb:SE t tb fb):SE t (tOp (rI (λ_ j=>j≠0) λi j=>.int (i.fmod j)) ta tb) (eOp acK fa fb):=afx (by rw[hK]; exact auh) auG ha hb
theorem anG(hK:t.K=nlK K)(ha:SE t ta fa)(hb:SE t tb fb):SE t (tOp (rI awZ λi j=>.int (i ^ j.toNat)) ta tb) (eOp acR fa fb):=afx (by rw[hK]; exact aui) auH ha hb
theorem x_eq(hK:t.K=nlK K)(ha:SE t ta fa)(hb:SE t tb fb):SE t (tOp (aw2 K) ta tb) (eOp gEq fa fb):=afx (by rw[hK]; exact axc) axp ha hb
theorem atk(hK:t.K=nlK K)(ha:SE t ta fa)(hb:SE t tb fb):SE t (tOp (aw9 K) ta tb) (eOp gNe fa fb):=afx (by rw[hK]; exact axd) axq ha hb
theorem azJ(hK:t.K=nlK K)(ha:SE t ta fa)(hb:SE t tb fb):SE t (tOp (aw3 K) ta tb) (eOp (gIn id) fa fb):=afx (by rw[hK]; exact axe) auC ha hb
theorem akz(hK:t.K=nlK K)(ha:SE t ta fa)(hb:SE t tb fb):SE t (tOp (akq K) ta tb) (eOp (gIn not) fa fb):=afx (by rw[hK]; exact apA) auC ha hb
theorem x_lt(hK:t.K=nlK K)(ha:SE t ta fa)(hb:SE t tb fb):SE t (tOp (axh K) ta tb) (eOp gLt fa fb):=afx (by rw[hK]; exact axi) axu ha hb
theorem ay7(hK:t.K=nlK K)(ha:SE t ta fa)(hb:SE t tb fb):SE t (tOp (rI0 λi j=>.bl (decide (j<i))) ta tb) (eOp gGt fa fb):=afx (by rw[hK]; exact axf) axr ha hb
theorem x_ge(hK:t.K=nlK K)(ha:SE t ta fa)(hb:SE t tb fb):SE t (tOp (rI0 λi j=>.bl (decide (j<=i))) ta tb) (eOp gGe fa fb):=afx (by rw[hK]; exact axg) axt ha hb
theorem acE(hK:t.K=nlK K)(ha:SE t ta fa)(hb:SE t tb fb):SE t (tOp (rIx K) ta tb) (eOp gIx fa fb):=afx (by rw[hK]; exact auk) axv ha hb
theorem ahj(hK:t.K=nlK K){r r':R2}{g g':G2}(o:OpT (nlK K) r g)(o':OpT (nlK K) r' g')(n:∀a b c,g a b ≠ .ex c)(n':∀a b c,g' a b ≠ .ex c)(ha:SE t ta fa)(hb:SE t tb fb)(hc:SE t tc fc):SE t (alk r r' ta tb tc) (agn g g' fa fb fc):=apD (by rw[hK]; exact o) (by rw[hK]; exact o') n n' ha hb hc
theorem auQ(ha:SE t ta fa):SE t (tUn (rU λi=>.int (-i)) ta) (eUn anv fa):=axj aqL auJ ha
variable {tl:TA}{fl:AF}
theorem x_len(hK:t.K=nlK K)(ha:SA t tl fl):SE t (tCB (arP K) tl) (eCB (g1 abg) fl):=aks (by rw[hK]; exact ate aup) (aif auK) ha
theorem axx(hK:t.K=nlK K)(ha:SA t tl fl):SE t (tCB (λxs H Q=>∃i,xs=[.int i]/\Q (.int (if i<0 then -i else i)) H) tl) (eCB (g1 adE) fl):=aks (by rw[hK]; exact ate auq) (aif auL) ha
theorem axy(hK:t.K=nlK K)(ha:SA t tl fl):SE t (tCB (λxs H Q=>(∃i,xs=[.int i]/\Q (.int i) H)\/∃k,xs=[.bl k]/\Q (.int (if k then 1 else 0)) H) tl) (eCB (g1 atf) fl):=aks (by rw[hK]; exact ate aur) (aif auM) ha
theorem auR(hK:t.K=nlK K)(ha:SA t tl fl):SE t (tCB (aw5 K) tl) (eCB (g1 ao9) fl):=aks (by rw[hK]; exact ate aus) (aif auN) ha
theorem apQ(hK:t.K=nlK K)(ha:SA t tl fl):SE t (tCB (aw4 K) tl) (eCB (g1 acC) fl):=aks (by rw[hK]; exact ate auu) (aif auP) ha
theorem axz(hK:t.K=nlK K)(ha:SA t tl fl):SE t (tCB (λxs H Q=>∃i j,xs=[.int i,.int j]/\Q (.int (if j<i then j else i)) H) tl) (eCB (g2 adw) fl):=aks (by rw[hK]; exact azF aut) (auo auO) ha
theorem aaS(hK:t.K=nlK K){cl:Str->Addr}{n:Nat}{F:FP}{E:XK}(hx:∀c H',F0 t H'->t.EX c->E (.ref (cl c)) none H')(hn:atj fl n)(ha:SA t tl fl):SE t (ajv (spP K cl n F) [] E tl) (aas F fl):=alC hK hx hn ha
theorem abe(hK:t.K=nlK K){cl:Str->Addr}{n:Nat}{F:FP}{E:XK}(hx:∀c,¬t.EX c)(hn:atj fl n)(ha:SA t tl fl):SE t (ajv (spP K cl n F) [] E tl) (aas F fl):=alC hK (λc H' _ q=>(hx c q).elim) hn ha
theorem abt(hK:t.K=nlK K){n r nl:Nat}{b:SF}{E:XK}(hn:atj fl n)(ha:SA t tl fl):SE t (ajv (spR K n r (fnR nl r b)) [] E tl) (aaT r (fnR nl r b) fl):=apM hK (arV nl r b) hn ha
theorem akA{te:TE}{f:EF}(i:Nat)(h:SE t te f):SE t (tBM K "list" akm (am6 i) (afN te aqF)) (eMt i aij (aae f aar)):=auz i auA arR (aac h aaj)
end
end L2
end
section
namespace L2
open PySem PySem.Spec PyProof.Rows
noncomputable def fuI(i:Nat)(ρ : En):Nat:=match ρ[i]? with
 |some (.sh (.int n))=>n.natAbs+1
 |_=>0
theorem acB{src:List (Option Nat)}{js:List Nat}(h:js.all (λk=>(src[k]?).join.isNone)=true):∀k j:Nat,src[k]?=some (some j)->k∉js:=λk j q m=>by
 have:=List.all_eq_true.mp h k m
 rw[q]at this
 cases this
abbrev bmV:List Value:=[.type "ValueError",.type "Exception",.type "BaseException",.type "object"]
noncomputable def ay8:G1
 |.lst ts=>.ok (.lst ts.reverse,true)
 |_=>.bad
noncomputable def azK(fa:EF):EF:=λρ=>(fa ρ).bind λp=>(dr p.2 p.1).bind λa=>(ay8 a).bind λz=>.ok (.v z.1 z.2,p.2)
end L2
end
section
namespace L2
open PySem PySem.Spec PyProof.Rows
noncomputable def ar3(i:Int):TE:=λ_ H Q=>Q (.int i) H
noncomputable def kI:Const->Option Int
 |.int i=>some i
 |_=>none
noncomputable def bI(o:Operator)(i j:Int):Option Int:=match o with
 |.Sub=>some (i-j)
 |.Add=>some (i+j)
 |.Pow=>if 0<=j/\j<=100/\i.natAbs<=1000 then some (i ^ j.toNat)else none
 |_=>none
noncomputable def uI(o:UnaryOp)(i:Int):Option Int:=match o with
 |.USub=>some (-i)
 |_=>none
noncomputable def cI:Expr->Option Int
 |.Constant c _ _=>kI c
 |.UnaryOp o e _=>(cI e).bind (uI o)
 |.BinOp a o b _=>(cI a).bind λi=>(cI b).bind λj=>bI o i j
 |_=>none
theorem axA{X:Cx}{c:Const}{k:Nat}{p:Pos}{i:Int}(h:kI c=some i):PE X (.Constant c k p) (ar3 i):=by
 cases c <;> first|(cases h; exact aan)|cases h
theorem axB{X:Cx}{o:UnaryOp}{e:Expr}{p:Pos}{i k:Int}(h:uI o i=some k)(he:PE X e (ar3 i)):PE X (.UnaryOp o e p) (ar3 k):=by
 cases o <;> first|(cases h; exact(apg alj he).imp λσ H Q q=>⟨i,rfl,q⟩)|cases h
theorem axC{X:Cx}{o:Operator}{a b:Expr}{p:Pos}{i j k:Int}(h:bI o i j=some k)(ha:PE X a (ar3 i))(hb:PE X b (ar3 j)):PE X (.BinOp a o b p) (ar3 k):=by
 cases o <;> try cases h
 ·exact(aaY aqE ha hb).imp λσ H Q q=>⟨i,j,rfl,rfl,q⟩
 ·exact(aaY ah5 ha hb).imp λσ H Q q=>⟨i,j,rfl,rfl,q⟩
 ·dsimp only[bI]at h
  split at h
  ·rename_i c
   cases h
   have z:(2:Nat) ^ 64=18446744073709551616:=by decide
   exact(aaY ah6 ha hb).imp λσ H Q q=>⟨i,j,rfl,rfl,⟨c.1,by omega,by omega⟩,q⟩
  ·cases h
theorem apR{X:Cx}(e:Expr)(k:Int)(h:cI e=some k):PE X e (ar3 k):=by
 cases e with
 |Constant c _ _=>exact axA h
 |UnaryOp o a _ =>
  have h:(cI a).bind (uI o)=some k:=h
  cases e1:cI a with
  |none=>rw[e1]at h; cases h
  |some i=>rw[e1]at h; exact axB h (apR a i e1)
 |BinOp a o b _ =>
  have h:((cI a).bind λi=>(cI b).bind λj=>bI o i j)=some k:=h
  cases e1:cI a with
  |none=>rw[e1]at h; cases h
  |some i =>
   cases e2:cI b with
   |none=>rw[e1,e2]at h; cases h
   |some j=>rw[e1,e2]at h; exact axC h (apR a i e1) (apR b j e2)
 |_=>cases h
noncomputable def kT:Const->Option Tr
 |.none=>some .non
 |.bool b=>some (.bl b)
 |.str x=>some (.str x)
 |.int i=>some (.int i)
 |_=>none
mutual
noncomputable def cT:Expr->Option Tr
 |.Constant c _ _=>kT c
 |.Tuple es _ _=>(cTs es).map .tup
 |.List es _=>(cTs es).map .lst
 |.UnaryOp o a p=>(cI (.UnaryOp o a p)).map .int
 |.BinOp a o b p=>(cI (.BinOp a o b p)).map .int
 |_=>none
noncomputable def cTs:List Expr->Option (List Tr)
 | []=>some []
 |e::r=>match cT e,cTs r with
  |some T,some Ts=>if Ts.length<1000 then some (T::Ts)else none
  |_,_=>none
end
theorem aiR:∀{es:List Expr} {Ts:List Tr},cTs es=some Ts->Ts.length<=1000
 | [],Ts,h=>by
  unfold cTs at h
  cases h
  decide
 |e::r,Ts,h=>by
  unfold cTs at h
  split at h
  ·split at h
   ·cases h
    rename_i h1
    rw[List.length_cons]
    omega
   ·cases h
  ·cases h
section
variable {X:Cx}{e:Expr}{es:List Expr}{T:Tr}{Ts:List Tr}{pos:Pos}{k:Nat}{G:PySem.W.Frag}
theorem apS:PA X [] (atd G []):=aai.imp λσ H Q q=>q [] H (Same.refl _) λ_ _=>.nil
theorem anH(h:PE X e (tEv G T))(r:PA X es (atd G Ts))(hs:starEach (e::es) X.env=(false,eval e X.env)::starEach es X.env):PA X (e::es) (atd G (T::Ts)) :=
 (acG h r hs).imp λσ H Q q v H1 s1 rv vs H2 s2 rs=>q (v::vs) H2 (s1.trans s2) λPr p=>.cons ((rv Pr p).mono (p.mono s2)) (rs Pr (p.le s1))
theorem alG(h:PA X es (atd G Ts))(hl:Ts.length<=1000):PE X (.Tuple es k pos) (tEv G (.tup Ts)) :=
 (agk h).imp λσ H Q q vs H1 s1 rs=>by
  by_cases hv:vs.length<=sizeLine
  ·exact⟨hv,λa ha=>q (.ref a) _ (s1.trans (aaQ ha _)) λPr p=>.tup (SqT.of ((p.le s1).new (Same.refl _) ha)) ((rs Pr p).mono (p.mono (aaQ ha _)))⟩
  ·exact absurd (Nat.le_of_lt (ag1 (by rw[(rs _ (Pj.id H)).length]; exact hl))) hv
theorem ajL(h:PA X es (atd G Ts))(hl:Ts.length<=1000):PE X (.List es pos) (awF G Ts) :=
 (ac2 h).imp λσ H Q q vs H1 s1 rs=>by
  have e:=(rs _ (Pj.id H)).length
  exact⟨Nat.le_of_lt (ag1 (by rw[e]; exact hl)),λa ha=>q a vs H1 s1 ha rs e⟩
theorem apT(h:PE X e (awF G Ts)):PE X e (tEv G (.lst Ts)) :=
 h.imp λσ H Q q a xs H1 s1 ha rs _=>q (.ref a) _ (s1.trans (aaQ ha _)) λPr p=>.lst (SqL.of ((p.le s1).new (Same.refl _) ha)) ((rs Pr p).mono (p.mono (aaQ ha _)))
theorem aqS(h:(cI e).map Tr.int=some T):PE X e (tEv G T):=by
 cases e1:cI e with
 |none=>rw[e1]at h; cases h
 |some i =>
  rw[e1]at h; cases h
  exact(apR e i e1).imp λσ H Q q=>q _ H (Same.refl _) λ_ _=>.int i
end
theorem ar4{e:Expr}{es:List Expr}{env:Env}{T:Tr}(h:cT e=some T):starEach (e::es) env=(false,eval e env)::starEach es env:=by
 cases e <;> first|rfl|(unfold cT at h; cases h)
theorem axD{X:Cx}{G:PySem.W.Frag}{c:Const}{k:Nat}{p:Pos}{T:Tr}(h:kT c=some T):PE X (.Constant c k p) (tEv G T):=by
 cases c <;> try cases h
 ·exact atu.imp λσ H Q q=>q _ H (Same.refl _) λ_ _=>.non
 ·exact afp.imp λσ H Q q=>q _ H (Same.refl _) λ_ _=>.bl _
 ·exact aan.imp λσ H Q q=>q _ H (Same.refl _) λ_ _=>.int _
 ·exact ad9.imp λσ H Q q=>q _ H (Same.refl _) λ_ _=>.str _
mutual
theorem axE{X:Cx}{G:PySem.W.Frag}(e:Expr)(T:Tr)(h:cT e=some T):PE X e (tEv G T):=by
 cases e with
 |Constant c _ _=>exact axD (by unfold cT at h; exact h)
 |Tuple es _ _ =>
  unfold cT at h
  cases e:cTs es with
  |none=>rw[e]at h; cases h
  |some Ts =>
   rw[e]at h
   cases h
   exact alG (anI es Ts e) (aiR e)
 |List es _ =>
  unfold cT at h
  cases e:cTs es with
  |none=>rw[e]at h; cases h
  |some Ts =>
   rw[e]at h
   cases h
   exact apT (ajL (anI es Ts e) (aiR e))
 |UnaryOp o a p=>exact aqS (by unfold cT at h; exact h)
 |BinOp a o b p=>exact aqS (by unfold cT at h; exact h)
 |_=>unfold cT at h; cases h
theorem anI{X:Cx}{G:PySem.W.Frag}:∀(es:List Expr) (Ts:List Tr),cTs es=some Ts->PA X es (atd G Ts)
 | [],Ts,h=>by
  unfold cTs at h; cases h
  exact apS
 |e::r,Ts,h=>by
  unfold cTs at h
  cases e1:cT e with
  |none=>rw[e1]at h; cases h
  |some T =>
   cases e2:cTs r with
   |none=>rw[e1,e2]at h; cases h
   |some Us =>
    rw[e1,e2]at h
    dsimp only at h
    split at h
    ·cases h
     exact anH (axE e T e1) (anI r Us e2) (ar4 e1)
    ·cases h
end
theorem axF{X:Cx}{G:PySem.W.Frag}{es:List Expr}{pos:Pos}{Ts:List Tr}(h:cTs es=some Ts):PE X (.List es pos) (awF G Ts):=ajL (anI es Ts h) (aiR h)
theorem ahk{X:Cx}{G:PySem.W.Frag}{es:List Expr}{k:Nat}{pos:Pos}{Ts:List Tr}(h:cTs es=some Ts):PE X (.Tuple es k pos) (tEv G (.tup Ts)):=alG (anI es Ts h) (aiR h)
end L2
end
section
namespace L2
open PySem PySem.Spec PyProof.Rows
theorem Pj.aa7{W:Addr->Prop}{H:Hp}(hw:∀b,W b->H b≠none):Pj (L2.aa7 W) H where
 mono:=λs=>(Stp.of s).off
 sub:=λH=>abp W H
 new:=λ{H' r o} s h=>by
  rw[aaZ λw=>hw r w (s.free h)]
  exact abj
noncomputable def eCL(Ts:List Tr):EF:=λρ=>.ok (.v (.lst Ts) true,ρ)
theorem anJ{t:Tx}{K:PySem.W.Frag}(hK:t.K=nlK K){T:Tr}:SE t (tEv (nlK K) T) (eC T):=λW ρ σ H Q e h=>λv H' s r=>by
 rw[<-hK]at r
 exact h v H' (e.grow s) (Stp.of s) (.low (r _ (Pj.aa7 e.wn)))
theorem axG{t:Tx}{K:PySem.W.Frag}(hK:t.K=nlK K){Ts:List Tr}:SE t (awF (nlK K) Ts) (eCL Ts):=λW ρ σ H Q e h=>λa xs H1 s ha r _=>by
 rw[<-hK]at r
 have e1:=e.grow s
 exact h _ _ (e1.grow (aaQ ha _)) ((Stp.of s).trans (Stp.of (aaQ ha _))) ((VOE.of (σ' := σ) e1 (aaQ ha _) (VOk.new ha (r _ (Pj.aa7 e.wn)))).back λb q=>s.free q)
end L2
end
section
namespace L2
open PySem PySem.Spec PyProof.Rows
noncomputable def ahl:Expr->Bool
 |.ListComp .. => false
 |.SetComp .. => false
 |.DictComp .. => false
 |_=>true
theorem aiS{e:Expr}{t:Option Expr}{l:Nat}{env:Env}(h:ahl e=true):swapsWith e t l env=pure false:=by
 cases e <;> first|rfl|(unfold ahl at h; cases h)
section
variable {X:Cx}{x:Str}{e:Expr}{es:List Expr}{te:TE}{ta:TA}{pos pos' p:Pos}{k:Nat}{ps:List Str}{sp:Sp}{E:XK}
theorem pvL(i:Nat)(hN:X.N[i]?=some x:=by kernel_rfl)(hv:X.env.scope.names.lookup x=some .local:=by kernel_rfl)(hd:(x == ("__debug__" : Str))=false:=by kernel_rfl) (hc:(x == ("__classdict__" : Str))=false:=by kernel_rfl):PE X (.Name x pos) (am6 i):=am7 hN (.inl hv) hd hc
theorem pvC(i:Nat)(hN:X.N[i]?=some x:=by kernel_rfl)(hv:X.env.scope.names.lookup x=some .cell:=by kernel_rfl)(hd:(x == ("__debug__" : Str))=false:=by kernel_rfl) (hc:(x == ("__classdict__" : Str))=false:=by kernel_rfl):PE X (.Name x pos) (am6 i):=am7 hN (.inr (.inl hv)) hd hc
theorem pvF(i:Nat)(hN:X.N[i]?=some x:=by kernel_rfl)(hv:X.env.scope.names.lookup x=some .free:=by kernel_rfl)(hd:(x == ("__debug__" : Str))=false:=by kernel_rfl) (hc:(x == ("__classdict__" : Str))=false:=by kernel_rfl):PE X (.Name x pos) (am6 i):=am7 hN (.inr (.inr hv)) hd hc
theorem psL(i:Nat)(hN:X.N.Nodup)(he:PE X e te)(hi:X.N[i]?=some x:=by kernel_rfl)(hx:X.env.scope.names.lookup x=some .local:=by kernel_rfl)(h:ahl e=true:=by kernel_rfl):PS X (.Assign [.Name x pos'] e pos) (apd te (acp i)):=aqB hN hi (.inl hx) he (aiS h) (.inr hx)
theorem psC(i:Nat)(hN:X.N.Nodup)(hf:X.fn x=true)(he:PE X e te)(hi:X.N[i]?=some x:=by kernel_rfl)(hx:X.env.scope.names.lookup x=some .cell:=by kernel_rfl)(h:ahl e=true:=by kernel_rfl):PS X (.Assign [.Name x pos'] e pos) (apd te (acp i)):=aqB hN hi (.inr hx) he (aiS h) (.inl hf)
theorem ajM{K:PySem.W.Frag}(ha:PE X e te)(hK:X.K=K)(he:∀whole,isTrue e X.env whole=(do let v <-whole; standAt e.pos; holding [v] (truthy v))):PT X e (λσ H Q=>te σ H λx H'=>∃k,atF K x H' k/\Q k H'):=hK▸abV ha he
theorem psE(he:PE X e te)(h:ahl e=true:=by kernel_rfl):PS X (.Expr e pos) (arf te):=arh he (aiS h)
theorem pgL(i:Nat)(hN:X.N.Nodup)(hi:X.N[i]?=some x:=by kernel_rfl)(hx:X.env.scope.names.lookup x=some .local:=by kernel_rfl):PG X (.Name x pos) (acp i):=am9 hN hi (.inl hx) (.inr hx)
theorem pgC(i:Nat)(hN:X.N.Nodup)(hf:X.fn x=true)(hi:X.N[i]?=some x:=by kernel_rfl)(hx:X.env.scope.names.lookup x=some .cell:=by kernel_rfl):PG X (.Name x pos) (acp i):=am9 hN hi (.inr hx) (.inl hf)
theorem pcF(D:DfX X.prog X.w X.K X.mg X.base k x ps sp)(hr:agj k X.A)(hx:Passes (CXF X.prog X.w) X E)(ha:PA X (e::es) ta)(hg:X.env.kindOf x=some .globalImplicit:=by kernel_rfl)(hdb:(x == ("__debug__" : Str))=false:=by kernel_rfl)
  (he:notStar e=true:=by kernel_rfl) (hpl:(backTo pos (starEach es X.env)).any (·.1)=false:=by kernel_rfl):PE X (.Call (.Name x p) (e::es) [] pos) (ajv sp [] E ta):=apL D hr hx ha hg hdb (aeD he) hpl
theorem pcB{r:List V->Hp->VK->Prop}{id:String}(hc:aeg X (.builtin id) r)(hm:X.mg x=none)(ha:PA X (e::es) ta)(hv:bootBuiltins x=some (.builtin id):=by decide +kernel)(hg:X.env.kindOf x=some .globalImplicit:=by kernel_rfl)(hn:x ≠ "__name__" := by decide +kernel) (hdb:(x == ("__debug__" : Str))=false:=by kernel_rfl)
  (he:notStar e=true:=by kernel_rfl) (hpl:(backTo pos (starEach es X.env)).any (·.1)=false:=by kernel_rfl):PE X (.Call (.Name x p) (e::es) [] pos) (tCB r ta):=alp hc hg hm hv ha hn hdb (aeD he) hpl
theorem axH{r:List V->Hp->VK->Prop}{T:String}(hc:aeg X (.type T) r)(hm:X.mg x=none)(ha:PA X (e::es) ta)(hv:bootBuiltins x=some (.type T):=by decide +kernel)(hg:X.env.kindOf x=some .globalImplicit:=by kernel_rfl)(hn:x ≠ "__name__" := by decide +kernel) (hdb:(x == ("__debug__" : Str))=false:=by kernel_rfl)
  (he:notStar e=true:=by kernel_rfl) (hpl:(backTo pos (starEach es X.env)).any (·.1)=false:=by kernel_rfl):PE X (.Call (.Name x p) (e::es) [] pos) (tCB r ta):=anh hc hg hm hv ha hn hdb (aeD he) hpl
theorem pcI(hX:XOk X.K)(c:Ty){q:Pos}(he:PE X e te)(h1:X.mg "isinstance" = none) (h2:X.mg x=none) (hb:bootBuiltins x=some (.type c.name):=by decide +kernel) (hg1:X.env.kindOf "isinstance" = some .globalImplicit:=by kernel_rfl) (hg2:X.env.kindOf x=some .globalImplicit:=by kernel_rfl) (hn:x ≠ "__name__" := by decide +kernel) (hd:(x == ("__debug__" : Str))=false:=by kernel_rfl)
  (hs:notStar e=true:=by kernel_rfl):PE X (.Call (.Name "isinstance" p) [e,.Name x q] [] pos) (tCB (awD X.K) (afN te (afN (tC (.ty c.name)) aqF))):=at4 hX c he h1 h2 hb hg1 hg2 hn hd (aeD hs)
theorem paK{t:TA}(ha:PE X e te)(hr:PA X es t)(h:notStar e=true:=by kernel_rfl):PA X (e::es) (afN te t):=acG ha hr (aeD h)
theorem pGk{v:V}{T:Tr}(h:Gk X.K X.mg x v T)(hg:X.env.kindOf x=some .globalImplicit:=by kernel_rfl)(hd:(x == ("__debug__" : Str))=false:=by kernel_rfl):PE X (.Name x pos) (tC v):=axw h hg hd
theorem piR{a tg:Expr}(hm:X.mg "range" = none) (ha:PA X [a] ta) (hg:X.env.kindOf "range" = some .globalImplicit:=by kernel_rfl) (hs:notStar a=true:=by kernel_rfl):PI X tg (.Call (.Name "range" p) [a] [] pos) (ark ta):=anb hg hm ha (aeD hs)
end
end L2
end
section
namespace L2
open PySem PySem.Spec PyProof.Rows
section
variable {t:Tx}{W:Addr->Prop}{ρ : En}{σ : St}{H:Hp}
noncomputable def ac0(ρ : En)(i:Nat):Rs (List Tr):=match ρ[i]? with
 |some (.dp ts)=>.ok ts
 |_=>.bad
end
end L2
end
section
namespace L2
open PySem PySem.Spec PyProof.Rows
noncomputable abbrev QF:=En->Rs Tr
section
variable {t:Tx}{K:PySem.W.Frag}
noncomputable def azL(i:Nat):QF:=λρ=>match ρ[i]? with
 |some (.sh T)=>.ok T
 |_=>.bad
noncomputable def qC(T:Tr):QF:=λ_=>.ok T
noncomputable def ixT(ts:List Tr)(k:Tr):Rs (Nat × Tr):=match k with
 | .int i=>(match ixN ts.length i with
  | some j=>(match ts[j]? with
   |some u=>.ok (j,u)
   |none=>.bad)
  |none=>.bad)
 |_=>.bad
noncomputable def azM(i:Nat)(fk fj:QF):QF:=λρ=>(ac0 ρ i).bind λts=>(fk ρ).bind λk=>(ixT ts k).bind λz=>match z.2 with
 |.lst us=>(fj ρ).bind λj=>(ixT us j).bind λy=>.ok y.2
 |_=>.bad
noncomputable def azN(i:Nat)(fk:QF)(m:GM)(fa:QF):SF:=λρ=>(ac0 ρ i).bind λts=>(abS (fk ρ)).bind λk=>(ixT ts k).bind λz=>match z.2 with
 |.lst us=>(abS (fa ρ)).bind λT=>(m us [T]).bind λy=>.ok (.nx,ρ.set i (.dp (ts.set z.1 (.lst y.1))))
 |_=>.bad
noncomputable def axI(i:Nat)(fk fj:QF)(fe:EF):SF:=λρ=>(fe ρ).bind λp=>(clV p.1).bind λT=>(ac0 p.2 i).bind λts=>(abS (fk p.2)).bind λk=>(ixT ts k).bind λz=>match z.2 with
 |.lst us=>(abS (fj p.2)).bind λj=>(ixT us j).bind λy=>.ok (.nx,p.2.set i (.dp (ts.set z.1 (.lst (us.set y.1 T)))))
 |_=>.bad
noncomputable def dow(i:Nat)(ρ : En):En:=match ρ[i]? with
 |some (.dp ts)=>ρ.set i (.ow ts)
 |_=>ρ
noncomputable def azO(i:Nat)(f:SF):SF:=λρ=>f (dow i ρ)
end
end L2
end
section
namespace L2
open PySem PySem.Spec PyProof.Rows
section
variable {t:Tx}{src:List (Option Nat)}{ρ1:En}{σ : St}{F:Nat->List Addr}{H1 P:Hp}{D:Addr}{W:Addr->Prop}
end
end L2
end
section
namespace L2
open PySem PySem.Spec PyProof.Rows
noncomputable def adl:Rv->Rs Tr
 |.v (.lst us) true=>.ok (.lst us)
 |_=>.bad
noncomputable def apU(g:GF)(c:BF)(f:EF):List Tr->En->Rs (List Tr × En)
 | [],ρ=>.ok ([],ρ)
 |u::us,ρ=>(g u ρ).bind λρ1=>(c ρ1).bind λb=>if b.1=true then(f b.2).bind λp=>(adl p.1).bind λT=>(apU g c f us p.2).bind λz=>.ok (T::z.1,z.2)else apU g c f us b.2
noncomputable def auS(i:Nat)(src:List (Option Nat))(fi:IF)(g:GF)(c:BF)(f:EF):SF:=λρ=>(fi ρ).bind λp=>if p.1.length<=100000 then(abS (apU g c f p.1 (abX src p.2))).bind λz=>if ab3 src z.2 p.2=true then .ok (.nx,(abv src z.2 p.2).set i (.dp z.1))else .bad else .bad
end L2
end
section
namespace L2
open PySem PySem.Spec PyProof.Rows
variable {t:Tx}
noncomputable def aqT(us vs:List Tr):List Tr:=(us.zip vs).map λp=>.tup [p.1,p.2]
theorem auT{K:PySem.W.Frag}{W:Addr->Prop}{H:Hp}{a b:Addr}{xs ys:List V}{us vs:List Tr}(q1:SqL (nlK K) (aa7 W H) a xs)(r1:aa2 (nlK K) (aa7 W H) xs us)(q2:SqL (nlK K) (aa7 W H) b ys)(r2:aa2 (nlK K) (aa7 W H) ys vs):ath (nlK K) W H (Itz K a b) (aqT us vs):=λW' H' m hw i=>by
 have q1':SqL K H' a xs:=((abp W' H').seq (m.seq q1)).toK
 have q2':SqL K H' b ys:=((abp W' H').seq (m.seq q2)).toK
 refine⟨λz=>⟨xs,ys,q1',q2',by rw[r1.length,r2.length,z]; simp[aqT]⟩,λu hu=>?_⟩
 unfold aqT at hu
 rw[List.getElem?_map]at hu
 obtain⟨p,hp,rfl⟩:=Option.map_eq_some_iff.mp hu
 obtain⟨h1,h2⟩:=List.getElem?_zip_eq_some.mp hp
 obtain⟨x,hx,rx⟩:=r1.apz h1
 obtain⟨y,hy,ry⟩:=r2.apz h2
 refine⟨⟨xs,ys,x,y,q1',q2',hx,hy⟩,λv H'' yl=>?_⟩
 obtain⟨T,x',y',rfl,fT,rfl,z⟩:=yl
 obtain⟨z1,z2⟩:=z xs ys q1' q2'
 rw[hx]at z1
 rw[hy]at z2
 cases z1
 cases z2
 have nW:¬W' T:=λw=>(hw T w).ne fT
 have sm:Same H' (upd H' T (.tup [x,y])):=aaQ fT _
 have so:Same (aa7 W' H') (aa7 W' (upd H' T (.tup [x,y]))):=λb u q=>(aiJ (o:=.tup [x,y]) fT b u q |> λz=>(akr _ _ b u z))
 refine⟨sm,.tup (xs:=[x,y]) (.inl (.inl ?_)) (.cons ((rx.mono m).mono so) (.cons ((ry.mono m).mono so) .nil))⟩
 unfold aa7
 rw[if_neg nW,abj]
noncomputable def auU(fa:AF):IF:=λρ=>(fa ρ).bind λp=>match p.1 with
 | [.v (.lst us) _,.v (.lst vs) _]=>.ok (aqT us vs,p.2)
 |_=>.bad
theorem auV{K:PySem.W.Frag}(hK:t.K=nlK K){ta:TA}{fa:AF}(ha:SA t ta fa):SI t (ay5 K ta) (auU fa):=λW ρ σ H R e h=>by
 refine ha W ρ σ H _ e (Rs.aam (Rs.aaf h) λp h vs H1 e1 s1 v1=>?_)
 split at h
 ·rename_i us _ ws _ ep
  rw[ep]at v1
  cases v1 with
  |cons h1 r1 =>
   cases r1 with
   |cons h2 r2 =>
    cases r2
    have h1:=h1.rep e.wn
    have h2:=h2.rep e.wn
    rw[hK]at h1 h2
    cases h1 with
    |lst q1 p1 =>
     cases h2 with
     |lst q2 p2 =>
      refine⟨_,_,rfl,⟨_,((abp _ _).seq q1).toK⟩,⟨_,((abp _ _).seq q2).toK⟩,h _ H1 e1 s1 ?_⟩
      rw[hK]
      exact auT q1 p1 q2 p2
 ·exact h.elim
end L2
end
section
namespace L2
open PySem PySem.Spec PyProof.Rows
noncomputable def axJ(K:PySem.W.Frag):List V->Hp->VK->Prop:=λxs H Q=>∃(p:Addr) (bs:List Bool),xs=[.ref p]/\SqL K H p (bs.map V.bl)/\Q (.bl (bs.any id)) H
theorem aiT{X:Cx}(hc:X.calm=true):aeg X (.builtin "any") (axJ X.K):=by
 intro pins s σ H xs us Q I r h
 obtain⟨p,bs,rfl,hq,q⟩:=h
 obtain⟨u,rfl,ru⟩:=vals1 r
 cases ru
 obtain⟨its,rv,pl,hz⟩:=I.list hq
 refine call_any_walk (wpAny_pyIter_list pl.isList ?_)
 obtain⟨ol,hol,hol'⟩:=id pl.isList
 have hlt:p<s.heap.objs.size:=Heap.lt_size hol
 have hlen:its.toArray.size=bs.length:=by simpa using rv.length.symm
 have at_:∀(i:Nat) (v:Value),its.toArray[i]?=some v->∃k,bs[i]?=some k/\v=Value.bool k:=λi v e=>by
  have e':its[i]?=some v:=by simpa using e
  have hi:i<its.length:=(List.getElem?_eq_some_iff.mp e').1
  have hb:i<(bs.map V.bl).length:=by rw[rv.length]; exact hi
  obtain⟨u',h1,h2⟩:=rv.get (List.getElem?_eq_getElem hb)
  rw[e']at h1
  cases h1
  have hb':i<bs.length:=by simpa using hb
  refine⟨bs[i],List.getElem?_eq_getElem hb',?_⟩
  rw[List.getElem_map]at h2
  exact h2
 refine⟨s.heap.objs.size,_,_,_,_,_,λi=>bs.getD i false,rfl,Walks.list (A:=X.A.in1) (I.ok.hd hc) s.heap.objs.size p (Nat.ne_of_lt hlt) its.toArray,⟨⟨_,Heap.get?_push_size _ rfl,rfl,rfl⟩,⟨ol,Heap.get?_push_of_some _ hol,hol'⟩⟩,?_,?_⟩
 ·intro i v s' Q' E' hP hQ'
  obtain⟨k,h1,rfl⟩:=at_ i v hP
  have:bs.getD i false=k:=by rw[List.getD_eq_getElem?_getD,h1]; rfl
  dsimp only at hQ'
  rw[this]at hQ'
  exact wpAny_truthy_bool hQ'
 ·intro h' tk hk
  have I1:Inv X pins σ H {s with heap:=h',toks:=tk }:=I.kept λb o e=>hk b o (by
   have:=Heap.lt_size e
   simp
   exact Nat.ne_of_lt this) (Heap.get?_push_of_some _ e)
  refine⟨.bl _,H,I1,rfl,?_⟩
  have eq:(List.range its.toArray.size).any (λi=>bs.getD i false)=bs.any id:=by
   rw[hlen]
   clear q hq rv at_ hlen hz
   induction bs with
   |nil=>rfl
   |cons b r ih =>
    rw[List.length_cons,List.range_succ_eq_map,List.any_cons,List.any_map,List.any_cons]
    exact congrArg (b || ·) ih
  rw[eq]
  exact q
section
variable {K:PySem.W.Frag}
noncomputable def ajN:G1
 |.lst ts=>match ahQ ts with
  |some bs=>.ok (.bl (bs.any id),false)
  |none=>.bad
 |_=>.bad
theorem auW:UnT (nlK K) (λx=>axJ K [x]) ajN:=λW x a H Q hw rx h=>by
 cases a <;> try exact h.elim
 dsimp only[ajN]at h
 split at h
 ·rename_i bs e
  obtain⟨p,xs,rfl,q,r⟩:=rx.lst
  have z:=anA e r
  subst z
  exact⟨p,bs,rfl,q.toK,h _ H (Same.refl _) (.atm (.bl _))⟩
 ·exact h.elim
end
theorem auX(a:Tr)(c:Str):ajN a ≠ .ex c:=by
 cases a <;> first|(intro z; cases z; done)|(dsimp only[ajN]; split <;> (intro z; cases z))
theorem ar5{t:Tx}{K:PySem.W.Frag}{tl:TA}{fl:AF}(hK:t.K=nlK K)(ha:SA t tl fl):SE t (tCB (axJ K) tl) (eCB (g1 ajN) fl):=aks (by rw[hK]; exact ate auW) (aif auX) ha
end L2
end
section
namespace L2
open PySem PySem.Spec PyProof.Rows
section
variable {kf:Value->Int × Int}
noncomputable def q1(kf:Value->Int × Int)(xs:Array Keyed)(i:Nat):Int:=match xs[i]? with|some p=>(kf p.1).1|none=>0
noncomputable def q2(kf:Value->Int × Int)(xs:Array Keyed)(i:Nat):Int:=match xs[i]? with|some p=>(kf p.1).2|none=>0
noncomputable def qr(xs:Array Keyed)(i:Nat):Int:=match xs[i]? with|some p=>numOf p.2|none=>0
noncomputable def Kl(kf:Value->Int × Int)(xs:Array Keyed)(i j:Nat):Prop:=q1 kf xs i<q1 kf xs j\/(q1 kf xs i=q1 kf xs j/\q2 kf xs i<q2 kf xs j)
noncomputable instance {kf:Value->Int × Int}{xs:Array Keyed}{i j:Nat}:Decidable (Kl kf xs i j):=by unfold Kl; infer_instance
noncomputable def Ke(kf:Value->Int × Int)(xs:Array Keyed)(i j:Nat):Prop:=q1 kf xs i=q1 kf xs j/\q2 kf xs i=q2 kf xs j
noncomputable def Lq(kf:Value->Int × Int)(xs:Array Keyed)(i j:Nat):Prop:=Kl kf xs i j\/(Ke kf xs i j/\qr xs i<qr xs j)
noncomputable def Sta(kf:Value->Int × Int)(xs:Array Keyed)(m:Nat):Prop:=∀i j,i<j->j<m->Lq kf xs i j
noncomputable def Dsc(kf:Value->Int × Int)(xs:Array Keyed)(m:Nat):Prop:=∀i j,i<j->j<m->Lq kf xs j i
noncomputable def Des(kf:Value->Int × Int)(xs:Array Keyed)(m q:Nat):Prop:=(∀i j,i<j->j<m->i<q->Lq kf xs j i/\(q<=j->Kl kf xs j i))/\∀i j,q<=i->i<j->j<m->Ke kf xs i j/\qr xs i<qr xs j
noncomputable def Pre(N:Nat)(xs:Array Keyed)(m:Nat):Prop:=(∀k:Nat,k<m->qr xs k<m)/\∀k:Nat,m<=k->k<N->qr xs k=k
theorem apV{xs ys:Array Keyed}{i j:Nat}(h:xs[i]?=ys[j]?):qr xs i=qr ys j:=by unfold qr; rw[h]
theorem awK{xs ys:Array Keyed}{i j:Nat}(h:xs[i]?=ys[j]?):q1 kf xs i=q1 kf ys j:=by unfold q1; rw[h]
theorem awL{xs ys:Array Keyed}{i j:Nat}(h:xs[i]?=ys[j]?):q2 kf xs i=q2 kf ys j:=by unfold q2; rw[h]
theorem mir{xs:Array Keyed}{i j:Nat}(hj:j<=xs.size)(k:Nat):(i<=k/\k<j/\(mirror xs i j ((j-i) / 2))[k]?=xs[i+j-1-k]?)\/(¬(i<=k/\k<j)/\(mirror xs i j ((j-i) / 2))[k]?=xs[k]?):=by
 have e:=getElem?_mirror_all (i:=i) hj k
 by_cases h:i<=k/\k<j
 ·rw[if_pos h]at e; exact .inl ⟨h.1,h.2,e⟩
 ·rw[if_neg h]at e; exact .inr ⟨h,e⟩
theorem apW{xs ys:Array Keyed}{i j i' j':Nat}(h1:xs[i]?=ys[i']?)(h2:xs[j]?=ys[j']?):Lq kf xs i j↔Lq kf ys i' j':=by
 unfold Lq Kl Ke; rw[apV h1,apV h2,awK h1,awK h2,awL h1,awL h2]
theorem awM{xs ys:Array Keyed}{i j i' j':Nat}(h1:xs[i]?=ys[i']?)(h2:xs[j]?=ys[j']?):Kl kf xs i j↔Kl kf ys i' j':=by
 unfold Kl; rw[awK h1,awK h2,awL h1,awL h2]
theorem Kl.tr{xs:Array Keyed}{i j k:Nat}(a:Kl kf xs i j)(b:Kl kf xs j k):Kl kf xs i k:=by
 unfold Kl at *
 generalize q1 kf xs i=a1,q2 kf xs i=a2,q1 kf xs j=b1,q2 kf xs j=b2,q1 kf xs k=c1,q2 kf xs k=c2 at *
 omega
theorem Kl.no{xs:Array Keyed}{i j:Nat}(a:¬Kl kf xs i j)(b:¬Kl kf xs j i):Ke kf xs i j:=by
 unfold Kl at *
 unfold Ke
 generalize q1 kf xs i=a1,q2 kf xs i=a2,q1 kf xs j=b1,q2 kf xs j=b2 at *
 omega
theorem Ke.s{xs:Array Keyed}{i j:Nat}(a:Ke kf xs i j):Ke kf xs j i:=⟨a.1.symm,a.2.symm⟩
theorem Ke.t{xs:Array Keyed}{i j k:Nat}(a:Ke kf xs i j)(b:Ke kf xs j k):Ke kf xs i k:=⟨a.1.trans b.1,a.2.trans b.2⟩
theorem Ke.l{xs:Array Keyed}{i j k:Nat}(a:Ke kf xs i j)(b:Kl kf xs j k):Kl kf xs i k:=by
 unfold Kl at *
 rw[a.1,a.2]
 exact b
theorem Ke.r{xs:Array Keyed}{i j k:Nat}(a:Kl kf xs i j)(b:Ke kf xs j k):Kl kf xs i k:=by
 unfold Kl at *
 rw[<-b.1,<-b.2]
 exact a
theorem Kl.tq{xs:Array Keyed}{i j k:Nat}(a:Kl kf xs i j)(b:Lq kf xs j k):Kl kf xs i k:=b.elim a.tr λz=>Ke.r a z.1
theorem Kl.qt{xs:Array Keyed}{i j k:Nat}(a:Lq kf xs i j)(b:Kl kf xs j k):Kl kf xs i k:=a.elim (λz=>z.tr b) λz=>z.1.l b
theorem Lq.mk{xs:Array Keyed}{i j:Nat}(a:¬Kl kf xs j i)(b:qr xs i<qr xs j):Lq kf xs i j:=by
 by_cases h:Kl kf xs i j
 ·exact .inl h
 ·exact .inr ⟨Kl.no h a,b⟩
theorem Pre.mir{N:Nat}{xs:Array Keyed}{m i j:Nat}(h:Pre N xs m)(hj:j<=xs.size)(hm:j<=m):Pre N (mirror xs i j ((j-i) / 2)) m:=by
 refine⟨λk hk=>?_,λk hk hN=>?_⟩
 ·rcases L2.mir hj k with⟨a,b,e⟩|⟨n,e⟩
  ·rw[apV e]; exact h.1 _ (by omega)
  ·rw[apV e]; exact h.1 _ hk
 ·rcases L2.mir hj k with⟨a,b,e⟩|⟨n,e⟩
  ·omega
  ·rw[apV e]; exact h.2 _ hk hN
theorem Dsc.turn{xs:Array Keyed}{m:Nat}(h:Dsc kf xs m)(hm:m<=xs.size):Sta kf (mirror xs 0 m ((m-0) / 2)) m:=λi j hij hj=>by
 rcases mir (i:=0) hm i with⟨_,_,e1⟩|⟨n,_⟩
 ·rcases mir (i:=0) hm j with⟨_,_,e2⟩|⟨n,_⟩
  ·rw[apW e1 e2]; exact h _ _ (by omega) (by omega)
  ·omega
 ·omega
theorem Des.turn{xs:Array Keyed}{m q:Nat}(h:Des kf xs m q)(hm:m<=xs.size)(hq:q<m):Dsc kf (mirror xs q m ((m-q) / 2)) m:=λi j hij hj=>by
 rcases mir (i:=q) hm i with⟨a,b,e1⟩|⟨n,e1⟩ <;> rcases mir (i:=q) hm j with⟨a',b',e2⟩|⟨n',e2⟩
 ·rw[apW e2 e1]
  have z:=h.2 (q+m-1-j) (q+m-1-i) (by omega) (by omega) (by omega)
  exact .inr z
 ·omega
 ·rw[apW e2 e1]
  exact(h.1 i (q+m-1-j) (by omega) (by omega) (by omega)).1
 ·rw[apW e2 e1]
  exact(h.1 i j hij hj (by omega)).1
theorem Des.one{xs:Array Keyed}{m q:Nat}(h:Des kf xs m q)(hq:m<=q+1):Dsc kf xs m:=λi j hij hj=>(h.1 i j hij hj (by omega)).1
end
section
variable {prog:Program}{w:World}{A:Around}{E:Value->Shared->Prop}{s:Shared}{N:Nat}{kd:SortKind}{kf:Value->Int × Int}
structure SB(a₀ : Array Keyed)(kd:SortKind)(st:SortSt):Prop where
 pm:(arrOf st).Perm a₀
 kn:kindOf st=kd
 fl:failedOf st=none
 pd:pendingOf st = #[]
theorem SB.sz{a₀ : Array Keyed}{st:SortSt}(h:SB a₀ kd st):(arrOf st).size=a₀.size:=h.pm.size_eq
theorem SB.put{a₀ : Array Keyed}{st:SortSt}(h:SB a₀ kd st){xs:Array Keyed}(p:xs.Perm (arrOf st)):SB a₀ kd (setArr st xs):=⟨p.trans h.pm,h.kn,h.fl,h.pd⟩
noncomputable def Asks(prog:Program)(w:World)(A:Around)(E:Value->Shared->Prop)(s:Shared)(a₀ : Array Keyed)(kd:SortKind)(kf:Value->Int × Int):Prop :=
 ∀(st:SortSt) (i j:Nat) (Q:Option Bool->SortSt->Prop),SB a₀ kd st->i<a₀.size->j<a₀.size->Q (some (decide (Kl kf (arrOf st) i j))) st->wpS (model prog w) A E s (ltAt' i j) Q st
variable {a₀ : Array Keyed}(ask:Asks prog w A E s a₀ kd kf)
include ask
theorem aqU{st:SortSt}{a n:Nat}{Q:AscSt->SortSt->Prop}(hn:n<=a₀.size)(ha:1<=a)(han:a<=n)(B:SB a₀ kd st)(p:Pre a₀.size (arrOf st) a)(h0:Sta kf (arrOf st) a)
  (h:∀m,a<=m->m<=n->Sta kf (arrOf st) m->Pre a₀.size (arrOf st) m->(m=n\/(m<n/\Kl kf (arrOf st) m (m-1)))->Q (none,m) st):wpS (model prog w) A E s (ascLoop a n) Q st:=by
 unfold ascLoop
 have up:∀x,a<=x->x<=n->Pre a₀.size (arrOf st) x:=λx h1 h2=>⟨λk hk=>by
  by_cases z:k<a
  ·have:=p.1 k z; omega
  ·rw[p.2 k (by omega) (by omega)]; omega,λk h3 h4=>p.2 k (by omega) h4⟩
 refine wpS_forRange (I:=λx c t=>t=st/\c=(none,x)/\x<=n/\Sta kf (arrOf st) x) ?_ ?_ ⟨rfl,rfl,han,h0⟩
 ·rintro x c t h1 h2 ⟨rfl,rfl,_,hs⟩
  refine wpS_bind (ask _ _ _ _ B (by omega) (by omega) ?_)
  by_cases l:Kl kf (arrOf t) x (x-1)
  ·rw[decide_eq_true l]
   exact wpS_pure (h x h1 (by omega) hs (up x h1 (by omega)) (.inr ⟨h2,l⟩))
  ·rw[decide_eq_false l]
   refine wpS_pure ⟨rfl,rfl,h2,λi j hij hj=>?_⟩
   by_cases z:j<x
   ·exact hs i j hij z
   ·have ej:j=x:=by omega
    subst ej
    have r1:=(up j h1 (by omega)).1 i hij
    have r2:=(up j h1 (by omega)).2 j (Nat.le_refl _) (by omega)
    by_cases z:i=j-1
    ·subst z
     exact Lq.mk l (by rw[r2]; exact r1)
    ·have y:=hs i (j-1) (by omega) (by omega)
     exact Lq.mk (λz=>l (z.tq y)) (by rw[r2]; exact r1)
 ·rintro c t ⟨rfl,rfl,_,hs⟩
  rw[show max a n=n by omega]at hs ⊢
  exact h n han (Nat.le_refl _) hs (up n han (Nat.le_refl _)) (.inl rfl)
theorem anK{st:SortSt}{m n:Nat}{Q:Option Nat->SortSt->Prop}(hn:n<=a₀.size)(h1:1<=m)(hm:m<=n)(B:SB a₀ kd st)(p:Pre a₀.size (arrOf st) m)(d:Dsc kf (arrOf st) m)
  (h:∀m t,SB a₀ kd t->1<=m->m<=n->Sta kf (arrOf t) m->Pre a₀.size (arrOf t) m->Q (some m) t):wpS (model prog w) A E s (tail3 m n) Q st:=by
 unfold tail3
 have z:m<=(arrOf st).size:=by rw[B.sz]; omega
 refine wpS_bind (wpS_reverse ?_)
 have B':SB a₀ kd (setArr st (mirror (arrOf st) 0 m ((m-0) / 2))):=B.put (mirror_perm _ _ _ _)
 exact wpS_bind (aqU ask hn h1 hm B' (p.mir z (Nat.le_refl _)) (d.turn z) λk k1 k2 k3 k4 _=>wpS_pure (h k _ B' (by omega) k2 k3 k4))
theorem ar6{st:SortSt}{m n:Nat}{Q:DescSt->SortSt->Prop}(hn:n<=a₀.size)(h1:1<=m)(hm:m<=n)(B:SB a₀ kd st)(p:Pre a₀.size (arrOf st) m)(d:Des kf (arrOf st) m (m-1))
  (h:∀x e t,SB a₀ kd t->m<=x->x<=n->e+1<=x->Des kf (arrOf t) x (x-(e+1))->Pre a₀.size (arrOf t) x->Q (none,x,e) t):wpS (model prog w) A E s (descLoop m n) Q st:=by
 unfold descLoop
 refine wpS_forRange (I:=λx c t=>∃e,c=(none,x,e)/\SB a₀ kd t/\x<=n/\e+1<=x/\Des kf (arrOf t) x (x-(e+1))/\Pre a₀.size (arrOf t) x) ?_ ?_ ⟨0,rfl,B,hm,by omega,d,p⟩
 ·rintro x c t k1 k2 ⟨e,rfl,B',_,ke,d',p'⟩
  dsimp only
  have z:x<=(arrOf t).size:=by rw[B'.sz]; omega
  have pu:∀ys:Array Keyed,Pre a₀.size ys x->Pre a₀.size ys (x+1):=λys q=>⟨λk hk=>by
   by_cases y:k<x
   ·have:=q.1 k y; omega
   ·rw[q.2 k (by omega) (by omega)]; omega,λk h3 h4=>q.2 k (by omega) h4⟩
  refine wpS_bind (ask _ _ _ _ B' (by omega) (by omega) ?_)
  by_cases l:Kl kf (arrOf t) x (x-1)
  ·rw[decide_eq_true l]
   have next:∀ys:Array Keyed,Dsc kf ys x->(∀i,i<x->Kl kf ys x i)->Des kf ys (x+1) x:=λys y1 y2=>⟨λi j hij hj hi=>by
    by_cases y:j<x
    ·exact⟨y1 i j hij y,λz=>by omega⟩
    ·have:j=x:=by omega
     subst this
     exact⟨.inl (y2 i hi),λ_=>y2 i hi⟩,λi j h1 h2 h3=>by omega⟩
   have low:∀i,i<x->Kl kf (arrOf t) x i:=λi hi=>by
    by_cases y:i=x-1
    ·rw[y]; exact l
    ·by_cases y2:i<x-(e+1)
     ·exact l.tq (d'.1 i (x-1) (by omega) (by omega) y2).1
     ·exact Ke.r l (d'.2 i (x-1) (by omega) (by omega) (by omega)).1.s
   show wpS _ _ _ _ (if e > 0 then _ else _) _ _
   by_cases g:e > 0
   ·rw[if_pos g]
    refine wpS_bind (wpS_reverse (wpS_pure ⟨0,rfl,B'.put (mirror_perm _ _ _ _),k2,by omega,?_,pu _ (p'.mir z (Nat.le_refl _))⟩))
    rw[show x+1-(0+1)=x by omega]
    refine next _ (d'.turn z (by omega)) λi hi=>?_
    rcases mir (i:=x-(e+1)) z x with⟨_,b,_⟩|⟨_,e1⟩
    ·omega
    ·rcases mir (i:=x-(e+1)) z i with⟨_,_,e2⟩|⟨_,e2⟩
     ·rw[awM e1 e2]; exact low _ (by omega)
     ·rw[awM e1 e2]; exact low _ hi
   ·rw[if_neg g]
    refine wpS_pure ⟨0,rfl,B',k2,by omega,?_,pu _ p'⟩
    rw[show x+1-(0+1)=x by omega]
    exact next _ (d'.one (by omega)) low
  ·rw[decide_eq_false l]
   show wpS _ _ _ _ (ltAt' (x-1) x >>= _) _ _
   refine wpS_bind (ask _ _ _ _ B' (by omega) (by omega) ?_)
   by_cases g:Kl kf (arrOf t) (x-1) x
   ·rw[decide_eq_true g]
    exact wpS_pure (h x e t B' k1 (by omega) ke d' p')
   ·rw[decide_eq_false g]
    have eq:Ke kf (arrOf t) (x-1) x:=Kl.no g l
    refine wpS_pure ⟨e+1,rfl,B',k2,by omega,?_,pu _ p'⟩
    rw[show x+1-(e+1+1)=x-(e+1) by omega]
    refine⟨λi j hij hj hi=>?_,λi j hi hij hj=>?_⟩
    ·by_cases y:j<x
     ·exact d'.1 i j hij y hi
     ·have:j=x:=by omega
      subst this
      have y:=(d'.1 i (j-1) (by omega) (by omega) hi).2 (by omega)
      have y':Kl kf (arrOf t) j i:=eq.s.l y
      exact⟨.inl y',λ_=>y'⟩
    ·by_cases y:j<x
     ·exact d'.2 i j hi hij y
     ·have:j=x:=by omega
      subst this
      have r1:=p'.1 i hij
      have r2:=p'.2 j (Nat.le_refl _) (by omega)
      refine⟨?_,by omega⟩
      by_cases y:i=j-1
      ·rw[y]; exact eq
      ·exact(d'.2 i (j-1) hi (by omega) (by omega)).1.t eq
 ·rintro c t ⟨e,rfl,B',_,ke,d',p'⟩
  rw[show max m n=n by omega]at ke d' p' ⊢
  exact h n e t B' hm (Nat.le_refl _) ke d' p'
theorem alH{st:SortSt}{m n:Nat}{Q:Option Nat->SortSt->Prop}(hn:n<=a₀.size)(hm:m+1<=n)(B:SB a₀ kd st)(p:Pre a₀.size (arrOf st) (m+1))(d:Des kf (arrOf st) (m+1) m)
  (h:∀m t,SB a₀ kd t->1<=m->m<=n->Sta kf (arrOf t) m->Pre a₀.size (arrOf t) m->Q (some m) t):wpS (model prog w) A E s (descPart m n) Q st:=by
 unfold descPart
 refine wpS_bind (wpS_lift (wpAny_rule ⟨rfl,?_⟩))
 refine wpS_bind (ar6 ask hn (by omega) hm B p (by rw[show m+1-1=m by omega]; exact d) λx e t B' k1 k2 ke d' p'=>?_)
 have z:x<=(arrOf t).size:=by rw[B'.sz]; omega
 show wpS _ _ _ _ (if e > 0 then(reverseSlice' (x-(e+1)) x >>= λ_=>tail3 x n)else tail3 x n) _ _
 by_cases g:e > 0
 ·rw[if_pos g]
  exact wpS_bind (wpS_reverse (anK ask hn (by omega) k2 (B'.put (mirror_perm _ _ _ _)) (p'.mir z (Nat.le_refl _)) (d'.turn z (by omega)) h))
 ·rw[if_neg g]
  exact anK ask hn (by omega) k2 B' p' (d'.one (by omega)) h
theorem apY{st:SortSt}{n:Nat}{Q:Option Nat->SortSt->Prop}(hn:n<=a₀.size)(h1:1<=n)(B:SB a₀ kd st)(p:Pre a₀.size (arrOf st) 0)
  (h:∀m t,SB a₀ kd t->1<=m->m<=n->Sta kf (arrOf t) m->Pre a₀.size (arrOf t) m->Q (some m) t):wpS (model prog w) A E s (countRun' 0 n) Q st:=by
 rw[countRun0_eq]
 have p1:Pre a₀.size (arrOf st) 1:=⟨λk hk=>by rw[p.2 k (by omega) (by omega)]; omega,λk h3 h4=>p.2 k (by omega) h4⟩
 refine wpS_bind (aqU ask hn (Nat.le_refl 1) h1 B p1 (λi j _ _=>by omega) λm m1 m2 hs hp ho=>?_)
 show wpS _ _ _ _ (if(m == n)=true then _ else _) _ _
 by_cases e:m=n
 ·rw[if_pos (by simpa using e)]
  exact wpS_pure (h m st B m1 m2 hs hp)
 ·rw[if_neg (by simpa using e)]
  obtain⟨ml,l⟩:=ho.resolve_left e
  have pn:∀ys:Array Keyed,Pre a₀.size ys m->Pre a₀.size ys (m+1):=λys q=>⟨λk hk=>by
   by_cases y:k<m
   ·have:=q.1 k y; omega
   ·rw[q.2 k (by omega) (by omega)]; omega,λk h3 h4=>q.2 k (by omega) h4⟩
  by_cases g:m > 1
  ·rw[if_pos g]
   refine wpS_bind (ask _ _ _ _ B (by omega) (by omega) ?_)
   by_cases r:Kl kf (arrOf st) 0 (m-1)
   ·rw[decide_eq_true r]
    exact wpS_pure (h m st B m1 m2 hs hp)
   ·rw[decide_eq_false r]
    have z:m<=(arrOf st).size:=by rw[B.sz]; omega
    have all:∀i j,i<j->j<m->Ke kf (arrOf st) i j/\qr (arrOf st) i<qr (arrOf st) j:=λi j hij hj=>by
     have a1:=hs i j hij hj
     have a2:i=0\/Lq kf (arrOf st) 0 i:=by
      by_cases y:i=0
      ·exact .inl y
      ·exact .inr (hs 0 i (by omega) (by omega))
     have a3:j=m-1\/Lq kf (arrOf st) j (m-1):=by
      by_cases y:j=m-1
      ·exact .inl y
      ·exact .inr (hs j (m-1) (by omega) (by omega))
     rcases a1 with k1|k1
     ·have k2:Kl kf (arrOf st) 0 j:=by
       rcases a2 with y|y
       ·rw[y]at k1; exact k1
       ·exact Kl.qt y k1
      refine absurd ?_ r
      rcases a3 with y|y
      ·rw[y]at k2; exact k2
      ·exact k2.tq y
     ·exact k1
    have ds:Des kf (arrOf st) m 0:=⟨λi j _ _ hi=>by omega,λi j _ hij hj=>all i j hij hj⟩
    show wpS _ _ _ _ (reverseSlice' 0 m >>= λ_=>descPart m n) _ _
    refine wpS_bind (wpS_reverse (alH ask hn (by omega) (B.put (mirror_perm _ _ _ _)) (pn _ (hp.mir z (Nat.le_refl _))) ?_ h))
    have dd:=ds.turn z (by omega)
    have low:∀i,i<m->Kl kf (arrOf st) m i:=λi hi=>by
     by_cases y:i=m-1
     ·rw[y]; exact l
     ·exact Ke.r l (all i (m-1) (by omega) (by omega)).1.s
    have ay9:∀i,i<m->Kl kf (mirror (arrOf st) 0 m ((m-0) / 2)) m i:=λi hi=>by
     rcases mir (i:=0) z m with⟨_,b,_⟩|⟨_,e1⟩
     ·omega
     ·rcases mir (i:=0) z i with⟨_,_,e2⟩|⟨_,e2⟩
      ·rw[awM e1 e2]; exact low _ (by omega)
      ·rw[awM e1 e2]; exact low _ hi
    refine⟨λi j hij hj hi=>?_,λi j _ _ _=>by omega⟩
    by_cases y:j<m
    ·exact⟨dd i j hij y,λz=>by omega⟩
    ·have:j=m:=by omega
     subst this
     exact⟨.inl (ay9 i hi),λ_=>ay9 i hi⟩
  ·rw[if_neg g]
   have e1:m=1:=by omega
   subst e1
   refine alH ask hn (by omega) B (pn _ hp) ⟨λi j hij hj hi=>?_,λi j _ _ _=>by omega⟩ h
   have i0:i=0:=by omega
   have j1:j=1:=by omega
   subst i0 j1
   exact⟨.inl l,λ_=>l⟩
theorem auY{st:SortSt}{n ok:Nat}{Q:Bool->SortSt->Prop}(hn:n<=a₀.size)(h1:1<=ok)(hok:ok<=n)(B:SB a₀ kd st)(p:Pre a₀.size (arrOf st) ok)(d:Sta kf (arrOf st) ok)
  (h:∀t,SB a₀ kd t->Sta kf (arrOf t) n->Q true t):wpS (model prog w) A E s (binarySort' 0 n ok) Q st:=by
 rw[binarySort'_eq]
 simp only[Nat.zero_add]
 refine wpS_bind (wpS_mono (wpS_forRange (I:=λk c t=>c=(none,())/\SB a₀ kd t/\k<=n/\Sta kf (arrOf t) k/\Pre a₀.size (arrOf t) k) (Q:=λc t=>c=(none,())/\SB a₀ kd t/\Sta kf (arrOf t) n) ?_ ?_ ?_) ?_)
 ·rintro k c t k1 k2 ⟨rfl,B',_,d',p'⟩
  have hk:k<a₀.size:=by omega
  have rk:=p'.2 k (Nat.le_refl _) hk
  refine wpS_bind (wpS_mono (wpS_forRange (I:=λx c u=>u=t/\∃l r,c=(none,l,r)/\l<=r/\r<=k/\r-l<=k-x/\(∀i,i<l->¬Kl kf (arrOf t) k i)/\∀i,r<=i->i<k->Kl kf (arrOf t) k i)
   (Q:=λc u=>u=t/\∃l r,c=(none,l,r)/\l<=k/\(∀i,i<l->¬Kl kf (arrOf t) k i)/\∀i,l<=i->i<k->Kl kf (arrOf t) k i) ?_ ?_ ?_) ?_)
  ·rintro x c u _ hx ⟨rfl,l,r,rfl,g1,g2,g3,lo,hi⟩
   dsimp only
   by_cases g:l >= r
   ·rw[if_pos g]
    have:l=r:=by omega
    subst this
    exact wpS_pure ⟨rfl,l,l,rfl,g2,lo,hi⟩
   ·rw[if_neg g]
    refine wpS_bind (ask _ _ _ _ B' hk (by omega) ?_)
    by_cases le:Kl kf (arrOf u) k ((l+r) / 2)
    ·rw[decide_eq_true le]
     refine wpS_pure ⟨rfl,l,(l+r) / 2,rfl,by omega,by omega,by omega,lo,λi h1 h2=>?_⟩
     by_cases y:i=(l+r) / 2
     ·rw[y]; exact le
     ·exact le.tq (d' ((l+r) / 2) i (by omega) h2)
    ·rw[decide_eq_false le]
     refine wpS_pure ⟨rfl,(l+r) / 2+1,r,rfl,by omega,by omega,by omega,λi h1=>?_,hi⟩
     by_cases y:i=(l+r) / 2
     ·rw[y]; exact le
     ·exact λz=>le (z.tq (d' i ((l+r) / 2) (by omega) (by omega)))
  ·rintro c u ⟨rfl,l,r,rfl,g1,g2,g3,lo,hi⟩
   have:l=r:=by omega
   subst this
   exact⟨rfl,l,l,rfl,g2,lo,hi⟩
  ·exact⟨rfl,0,k,rfl,by omega,by omega,by omega,λi hi=>by omega,λi g1 g2=>by omega⟩
  ·rintro c u ⟨rfl,l,r,rfl,lk,lo,hi⟩
   show wpS _ _ _ _ (moveDown' k l >>= λ_=>pure (ForInStep.yield (none,()))) _ _
   rw[moveDown'_eq]
   refine wpS_bind (wpS_modify (wpS_pure ⟨rfl,B'.put (bubble_perm _ _ _),k2,?_,?_⟩))
   all_goals
    have ks:k<(arrOf u).size:=by rw[B'.sz]; exact hk
    have bb:=getElem?_bubble ks (k-l) (by omega)
    rw[show k-(k-l)=l by omega]at bb
    have b1:(bubble (arrOf u) k (k-l))[l]?=(arrOf u)[k]? := by rw[bb,if_pos rfl]
    have b2:∀i,l<i->i<=k->(bubble (arrOf u) k (k-l))[i]?=(arrOf u)[i-1]? := λi g1 g2=>by rw[bb,if_neg (by omega),if_pos ⟨g1,g2⟩]
    have b3:∀i,i<l->(bubble (arrOf u) k (k-l))[i]?=(arrOf u)[i]? := λi g1=>by rw[bb,if_neg (by omega),if_neg (by omega)]
    have b4:∀i,k<i->(bubble (arrOf u) k (k-l))[i]?=(arrOf u)[i]? := λi g1=>by rw[bb,if_neg (by omega),if_neg (by omega)]
   ·intro i j hij hj
    show Lq kf (bubble (arrOf u) k (k-l)) i j
    rcases Nat.lt_trichotomy i l with y|y|y <;> rcases Nat.lt_trichotomy j l with y'|y'|y'
    ·rw[apW (b3 i y) (b3 j y')]; exact d' i j hij (by omega)
    ·subst y'
     rw[apW (b3 i y) b1]
     exact Lq.mk (lo i y) (by rw[rk]; exact p'.1 i (by omega))
    ·rw[apW (b3 i y) (b2 j y' (by omega))]; exact d' i (j-1) (by omega) (by omega)
    ·omega
    ·omega
    ·subst y
     rw[apW b1 (b2 j y' (by omega))]
     exact .inl (hi _ (by omega) (by omega))
    ·omega
    ·omega
    ·rw[apW (b2 i y (by omega)) (b2 j y' (by omega))]; exact d' _ _ (by omega) (by omega)
   ·refine⟨λi hi'=>?_,λi g1 g2=>?_⟩
    ·show qr (bubble (arrOf u) k (k-l)) i<_
     rcases Nat.lt_trichotomy i l with y|y|y
     ·rw[apV (b3 i y)]; have:=p'.1 i (by omega); omega
     ·subst y; rw[apV b1,rk]; omega
     ·rw[apV (b2 i y (by omega))]; have:=p'.1 (i-1) (by omega); omega
    ·show qr (bubble (arrOf u) k (k-l)) i=_
     rw[apV (b4 i (by omega))]
     exact p'.2 i (by omega) g2
 ·rintro c t ⟨rfl,B',kn,d',p'⟩
  refine⟨rfl,B',?_⟩
  rwa[show max (max ok 1) n=n by omega]at d'
 ·rw[show max ok 1=ok by omega]
  exact⟨rfl,B,hok,d,p⟩
 ·rintro c t ⟨rfl,B',d'⟩
  exact wpS_pure (h t B' d')
theorem ar7{st:SortSt}{Q:Unit->SortSt->Prop}(B:SB a₀ kd st)(h2:2<=a₀.size)(h64:a₀.size<64)(p:Pre a₀.size (arrOf st) 0)
  (h:∀t,(arrOf t).Perm a₀ -> failedOf t=none->Sta kf (arrOf t) a₀.size->Q () t):wpS (model prog w) A E s sortRuns' Q st:=by
 rw[sortRuns'_eq]
 refine wpS_bind (wpS_get ?_)
 have mr:minRun' (arrOf st).size (arrOf st).size 0=a₀.size:=by
  rw[B.sz]
  obtain⟨f,hf⟩:∃f,a₀.size=f+1:=⟨a₀.size-1,by omega⟩
  have:minRun' (f+1) (f+1) 0=f+1:=by rw[minRun'_succ,if_pos (by omega)]
  rw[hf]; exact this
 dsimp only
 rw[mr,B.sz]
 have fin:∀t,SB a₀ kd t->Sta kf (arrOf t) a₀.size->(arrOf (setPending t ((pendingOf t).push (0,a₀.size,0)))).Perm a₀/\failedOf (setPending t ((pendingOf t).push (0,a₀.size,0)))=none/\pendingOf (setPending t ((pendingOf t).push (0,a₀.size,0))) = #[(0,a₀.size,0)]/\Sta kf (arrOf (setPending t ((pendingOf t).push (0,a₀.size,0)))) a₀.size :=
  λt B' d'=>⟨B'.pm,B'.fl,by show(pendingOf t).push _=_; rw[B'.pd]; rfl,d'⟩
 refine wpS_bind (wpS_mono (wpS_forRange (I:=λx c t=>(x=0/\c=(none,0)/\SB a₀ kd t/\Pre a₀.size (arrOf t) 0)\/(1<=x/\c=(none,a₀.size)/\(arrOf t).Perm a₀/\failedOf t=none/\pendingOf t = #[(0,a₀.size,0)]/\Sta kf (arrOf t) a₀.size))
  (Q:=λc t=>c=(none,a₀.size)/\(arrOf t).Perm a₀/\failedOf t=none/\pendingOf t = #[(0,a₀.size,0)]/\Sta kf (arrOf t) a₀.size) ?_ ?_ (.inl ⟨rfl,rfl,B,p⟩)) ?_)
 ·rintro x c t _ hx (⟨rfl,rfl,B',p'⟩|⟨hx1,rfl,D⟩)
  ·show wpS _ _ _ _ (if 0 >= a₀.size then _ else _) _ _
   rw[if_neg (by omega)]
   simp only[Nat.sub_zero,Nat.min_self,Nat.zero_add]
   refine wpS_bind (apY ask (Nat.le_refl _) (by omega) B' p' λm u B2 m1 m2 d2 p2=>?_)
   show wpS _ _ _ _ (if m<a₀.size then _ else _) _ _
   by_cases g:m<a₀.size
   ·rw[if_pos g]
    refine wpS_bind (wpS_lift (wpAny_rule ⟨rfl,?_⟩))
    refine wpS_bind (auY ask (Nat.le_refl _) m1 m2 B2 p2 d2 λv B3 d3=>?_)
    simp only[Bool.not_true,Bool.false_eq_true,if_false]
    refine wpS_bind (wpS_get ?_)
    rw[show(pendingOf v).back? = none by rw[B3.pd]; rfl]
    exact wpS_bind (wpS_modify (wpS_pure (.inr ⟨by omega,rfl,fin v B3 d3⟩)))
   ·rw[if_neg g]
    have e:m=a₀.size:=by omega
    subst e
    refine wpS_bind (wpS_get ?_)
    rw[show(pendingOf u).back? = none by rw[B2.pd]; rfl]
    exact wpS_bind (wpS_modify (wpS_pure (.inr ⟨by omega,rfl,fin u B2 d2⟩)))
  ·show wpS _ _ _ _ (if a₀.size >= a₀.size then _ else _) _ _
   rw[if_pos (Nat.le_refl _)]
   exact wpS_pure ⟨rfl,D⟩
 ·rintro c t (⟨hx,_,_⟩|⟨_,hc,D⟩)
  ·omega
  ·exact⟨hc,D⟩
 ·rintro c t ⟨rfl,D⟩
  refine wpS_bind (wpS_mono (wpS_forRange (I:=λ_ c u=>u=t/\c=(none,())) (Q:=λc u=>u=t/\c=(none,())) ?_ (λ_ _ z=>z) ⟨rfl,rfl⟩) ?_)
  ·rintro x c u _ _ ⟨rfl,rfl⟩
   refine wpS_bind (wpS_get ?_)
   rw[if_pos (by rw[D.2.2.1]; exact Nat.le_refl 1)]
   exact wpS_pure ⟨rfl,rfl⟩
  ·rintro c u ⟨rfl,rfl⟩
   exact wpS_pure (h _ D.1 D.2.1 D.2.2.2)
end
end L2
end
section
namespace L2
open PySem PySem.Spec PyProof.Rows PySem.W
section
variable {X:Cx}{pins:List (Addr × Obj)}{σ : St}{H:Hp}{s:Shared}
theorem Inv.track{a:Addr}{xs:List V}{its:List Value}{n:Nat}(I:Inv X pins σ H s)(f:afg X pins H a)(e:s.heap.get? a=some {cls:=.type "list",data:=.seq its.toArray n }) (r:Vals xs its) (hz:xs.length<=sizeLine):Inv X pins σ (upd H a (.lst xs)) s:=by
 obtain⟨f0,f1,f2,f3,f4,f5⟩:=f
 have ok:HOk X.prog X.w (upd H a (.lst xs)) s.heap:=λb u q=>by
  by_cases hb:b=a
  ·subst hb; rw[abj]at q; cases q; exact⟨hz,its,n,r,e⟩
  ·rw[aaG hb]at q
   exact(I.hok b u q).stay (λc v _ z=>z) (λc z=>by rw[aaG (aaW z f0)]; exact z) λc ys z=>by rw[aaG (aaW z f0)]; exact z
 exact I.step (h':=s.heap) (g':=s.gens) (t':=s.toks) (d':=s.drawn) (ch:=[a]) (λb hb=>by
   have:b=a:=by simpa using hb
   subst this
   exact⟨f3,f1,f4,f5⟩) (λb o _ _ _ q _=>q) (λb o _ _ _ q _=>⟨o.slots,q⟩) (λb o hb _ q=>by rw[aaG (by simpa using hb)]; exact q) (λb o _ q=>⟨o,q⟩)
  (λb ys q=>by rw[aaG (aaW q f0)]; exact q) (λb o u q=>by rw[aaG (aaW q f0)]; exact q) (λb ps q=>⟨#[],by rw[aaG (aaW q f0),q]; simp⟩) (λm q=>q) ok I.bare
theorem Inv.sub{ahL:List (Addr × Obj)}(I:Inv X pins σ H s)(h:∀p∈ahL,p∈pins):Inv X ahL σ H s:=I.aiw λp hp=>I.pin p (List.mem_append_right _ (h p hp))
theorem Inv.ar8{a:Addr}{o:Obj}(I:Inv X pins σ H s)(f:afg X pins H a)(e:s.heap.get? a=some o)(d:∀v,o.data ≠ .cell v):Inv X ((a,o)::pins) σ H s:=I.aiw λp hp=>by
 rcases List.mem_cons.mp hp with rfl|hp
 ·exact⟨e,f.1,f.2.1,f.2.2.1,d⟩
 ·exact I.pin p (List.mem_append_right _ hp)
theorem afg.ar8{a b:Addr}{o:Obj}(f:afg X pins H b)(n:a≠b):afg X ((a,o)::pins) H b:=⟨f.1,f.2.1,f.2.2.1,f.2.2.2.1,f.2.2.2.2.1,λp hp=>by
 rcases List.mem_append.mp hp with hp|hp
 ·exact f.2.2.2.2.2 p (List.mem_append_left _ hp)
 ·rcases List.mem_cons.mp hp with rfl|hp
  ·exact n
  ·exact f.2.2.2.2.2 p (List.mem_append_right _ hp)⟩
theorem Inv.wr{a:Addr}{g:Array Value->Array Value}{t':Nat}(I:Inv X pins σ H s)(f:afg X pins H a):Inv X pins σ H {s with heap:=s.heap.update a (Obj.mapSeq g),toks:=t' }:=by
 obtain⟨f0,f1,f2,f3,f4,f5⟩:=f
 exact I.turned (it:=a) (λb o hb e=>((Heap.SameBut.update s.heap a _).2 b hb).trans e) f0 f1 f3 f4 f5
end
noncomputable def Srt(n:Nat)(kz:Nat->Int × Int)(ys:List Nat):Prop:=ys.Perm (List.range n)/\ys.Pairwise λi j=>((kz i).1<(kz j).1\/((kz i).1=(kz j).1/\(kz i).2<(kz j).2))\/(((kz i).1=(kz j).1/\(kz i).2=(kz j).2)/\i<j)
structure akB(X:Cx)(Kv:Hp->Value->Int × Int->Prop)(kd:SortKind):Prop where
 kind:∀(H:Hp) (keys:Array Value) (kz:Nat->Int × Int),2<=keys.size->(∀i v,keys[i]?=some v->Kv H v (kz i))->∀{pins σ s Q E},Inv X pins σ H s->Q kd s->wpAny (model X.prog X.w) X.A.in1.in1 (keyKind' keys) Q E s
 ask:∀{pins σ H s} {E:Value->Shared->Prop} (a₀ : Array Keyed) (kf:Value->Int × Int),Inv X pins σ H s->(∀p,p∈a₀.toList->Kv H p.1 (kf p.1))->Asks X.prog X.w X.A.in1.in1 E s a₀ kd kf
section
variable {X:Cx}
theorem auZ:akB X (λ_ v k=>∃t,v=.int k.1 t/\k.2=0) oneType' where
 kind:=λH keys kz h2 hk pins σ s Q E I q=>by
  have hi:IntsAre keys.toList (keys.toList.map numOf):=by
   refine intsAre_map _ λv hv=>?_
   obtain⟨i,hi,e⟩:=List.getElem_of_mem hv
   obtain⟨t,z,_⟩:=hk i v (by rw[<-e]; simp[Array.getElem?_eq_getElem (show i<keys.size by simpa using hi)])
   exact⟨_,t,z⟩
  rw[ksk_kind hi h2]
  exact wpAny_pure q
 ask:=λa₀ kf I h st i j Q B hi hj q=>by
  have h0:IntKeys a₀ := λp hp=>by
   obtain⟨t,z,_⟩:=h p hp
   exact⟨_,t,z⟩
  have B':SBase a₀ st:=⟨B.pm,B.kn,B.fl,B.pd⟩
  have at_:∀i,i<a₀.size->q1 kf (arrOf st) i=K (arrOf st) i/\q2 kf (arrOf st) i=0:=λi hi=>by
   obtain⟨t,p,e⟩:=B'.at h0 hi
   have hi':i<(arrOf st).size:=by rw[B.sz]; exact hi
   have hm:(arrOf st)[i]∈a₀.toList:=(Array.perm_iff_toList_perm.mp B.pm).mem_iff.mp (by simp)
   obtain⟨t',z,z2⟩:=h _ hm
   have e':(arrOf st)[i]?=some (arrOf st)[i]:=getElem?_pos _ i hi'
   have e2:(arrOf st)[i]=(Value.int (K (arrOf st) i) t,p):=by rw[e']at e; exact Option.some.inj e
   rw[e2]at z z2
   unfold q1 q2
   rw[e]
   refine⟨?_,z2⟩
   have z:Value.int (K (arrOf st) i) t=Value.int (kf (Value.int (K (arrOf st) i) t)).1 t':=z
   injection z with z
   exact z.symm
  refine wpS_ltK B' h0 hi hj ?_
  have:decide (Kl kf (arrOf st) i j)=decide (K (arrOf st) i<K (arrOf st) j):=by
   rw[decide_eq_decide]
   unfold Kl
   rw[(at_ i hi).1,(at_ j hj).1,(at_ i hi).2,(at_ j hj).2]
   omega
  rw[this]at q
  exact q
end
section
variable {X:Cx}{pins:List (Addr × Obj)}{σ : St}{H:Hp}{s:Shared}{Kv:Hp->Value->Int × Int->Prop}{kd:SortKind}{a kS:Addr}{n:Nat}{kz:Nat->Int × Int}{vs:List Value}
theorem anL{e1:Nat}{keys:Array Value}{e:Nat}{st:SortSt}{P:PySem.Fin->Shared->Prop}{E:Value->Shared->Prop}(I:Inv X pins σ H s)(fk:afg X pins H kS)(fa:afg X pins H a)(ne:kS≠a)(hk:s.heap.get? kS=some (seqObj "list" keys e)) (ha:s.heap.get? a=some (seqObj "list" #[] e1)) (hks:keys.size<=64) (hst:(arrOf st).size<=64) (fl:failedOf st=none)
  (h:∀s' c,Inv X pins σ H s'->s'.heap.get? a=some (seqObj "list" ((arrOf st).map (·.2)) c)->P (.done (.ret .none)) s'):wpAny (model X.prog X.w) X.A.in1.in1 (ksk_tail a false e1 (.ref kS) st) P E s:=by
 unfold ksk_tail
 refine wpAny_bind (listUpdate_at hk rfl ?_ (by rw[sizeLine_eq]; omega) (Nat.zero_le _))
 refine wpAny_bind (wpAny_letGo ?_)
 have I1:=I.wr (g:=λ_=>#[]) (t':=s.toks) fk
 have ha1:(s.heap.update kS (Obj.mapSeq λ_=>(#[]:Array Value))).get? a=some (seqObj "list" #[] e1):=((Heap.SameBut.update s.heap kS _).2 a (Ne.symm ne)).trans ha
 refine wpAny_bind (seqEpoch_at ha1 rfl ?_)
 refine wpAny_bind (listUpdate_at ha1 rfl ?_ (Nat.zero_le _) (by simp only[Bool.false_eq_true,if_false,Array.size_map]; rw[sizeLine_eq]; omega))
 rw[fl]
 simp only[bne_self_eq_false,Bool.false_eq_true,if_false]
 exact wpAny_pure (h _ _ (I1.wr (t':=s.toks) fa) (get?_update_seq ha1 _))
theorem au0{e1:Nat}{keys:Array Value}{e:Nat}{P:PySem.Fin->Shared->Prop}{E:Value->Shared->Prop}(T:akB X Kv kd)(I:Inv X pins σ H s)(fk:afg X pins H kS)(fa:afg X pins H a)(ne:kS≠a)(hk:s.heap.get? kS=some (seqObj "list" keys e)) (ha:s.heap.get? a=some (seqObj "list" #[] e1))
  (hv:∀(i:Nat) (v:Value),vs[i]?=some v->∃t,v=Value.int i t) (hl:vs.length=n) (hkn:keys.size=n) (h64:n<64) (hK:∀i v,keys[i]?=some v->Kv H v (kz i)) (inj:∀v k k',Kv H v k->Kv H v k'->k=k')
  (h:∀s' c out,Inv X pins σ H s'->s'.heap.get? a=some (seqObj "list" out c)->(∃ys,Srt n kz ys/\Vals (ys.map λi:Nat=>V.int i) out.toList)->P (.done (.ret .none)) s'):wpAny (model X.prog X.w) X.A.in1.in1 (ksk_end a false vs.toArray e1 (.ref kS) keys) P E s:=by
 have zsz:(keys.zip vs.toArray).size=n:=by rw[Array.size_zip,hkn,List.size_toArray,hl,Nat.min_self]
 have zat:∀i,i<n->∃v t,(keys.zip vs.toArray)[i]?=some (v,.int i t)/\Kv H v (kz i):=λi hi=>by
  obtain⟨t,e2⟩:=hv i vs[i] (by simp[hl,hi])
  have e1:keys[i]?=some keys[i]:=getElem?_pos _ _ (by omega)
  refine⟨keys[i],t,?_,hK i _ e1⟩
  rw[<-Array.getElem?_toList,ksk_zip,List.getElem?_zip_eq_some]
  refine⟨by simp[Array.getElem?_toList,e1],?_⟩
  show vs[i]?=some (Value.int i t)
  rw[List.getElem?_eq_getElem (by omega),e2]
 -- what the sorted array says
 have fin:∀(kf:Value->Int × Int) (xs:Array Keyed),(∀(i:Nat) v t,(keys.zip vs.toArray)[i]?=some (v,Value.int i t)->kf v=kz i)->xs.Perm (keys.zip vs.toArray)->Sta kf xs n->∃ys,Srt n kz ys/\Vals (ys.map λi:Nat=>V.int i) (xs.map (·.2)).toList:=λkf xs hkf hp hs=>by
  have hpl:=Array.perm_iff_toList_perm.mp hp
  have mem:∀p∈xs.toList,∃i t,i<n/\p.2=.int (i:Nat) t/\kf p.1=kz i:=λp hp'=>by
   obtain⟨i,hi,e⟩:=List.getElem_of_mem (hpl.mem_iff.mp hp')
   have hi':i<n:=by rw[Array.length_toList,zsz]at hi; exact hi
   obtain⟨v,t,e1,_⟩:=zat i hi'
   have e2:(keys.zip vs.toArray)[i]?=some p:=by rw[<-Array.getElem?_toList,List.getElem?_eq_getElem hi,e]
   rw[e1]at e2
   cases e2
   exact⟨i,t,hi',rfl,hkf i v t e1⟩
  refine⟨xs.toList.map λp=>(numOf p.2).toNat,⟨?_,?_⟩,?_⟩
  ·have h1:=hpl.map λp:Keyed=>(numOf p.2).toNat
   refine h1.trans (List.Perm.of_eq ?_)
   refine List.ext_getElem? λi=>?_
   by_cases hi:i<n
   ·obtain⟨v,t,e1,_⟩:=zat i hi
    rw[List.getElem?_map,Array.getElem?_toList,e1,List.getElem?_range hi]
    simp[numOf]
   ·rw[List.getElem?_eq_none (by simp[zsz]; omega),List.getElem?_eq_none (by simp; omega)]
  ·rw[List.pairwise_map,List.pairwise_iff_getElem]
   intro i j hi hj hij
   have sz:xs.size=n:=by rw[hp.size_eq,zsz]
   have hi':i<xs.size:=by simpa using hi
   have hj':j<xs.size:=by simpa using hj
   have z:=hs i j hij (by omega)
   obtain⟨a1,t1,_,b1,c1⟩:=mem _ (List.getElem_mem hi)
   obtain⟨a2,t2,_,b2,c2⟩:=mem _ (List.getElem_mem hj)
   have x1:xs[i]?=some xs.toList[i]:=by rw[<-Array.getElem?_toList,List.getElem?_eq_getElem hi]
   have x2:xs[j]?=some xs.toList[j]:=by rw[<-Array.getElem?_toList,List.getElem?_eq_getElem hj]
   unfold Lq Kl Ke q1 q2 qr at z
   rw[x1,x2]at z
   dsimp only at z
   rw[b1,b2,c1,c2]at z
   rw[b1,b2]
   simp only[numOf,Int.toNat_natCast]at z ⊢
   omega
  ·rw[Array.toList_map,List.map_map]
   have go:∀l:List Keyed,(∀p∈l,∃i t,i<n/\p.2=.int (i:Nat) t/\kf p.1=kz i)->Vals (l.map ((λi:Nat=>V.int i) ∘ λp:Keyed=>(numOf p.2).toNat)) (l.map (·.2)):=λl=>by
    induction l with
    |nil=>intro _; exact .nil
    |cons p r ih =>
     intro hm
     refine .cons ?_ (ih λq hq=>hm q (List.mem_cons_of_mem _ hq))
     obtain⟨i,t,_,e,_⟩:=hm p (List.mem_cons_self ..)
     exact⟨t,by simp[e,numOf]⟩
   exact go _ mem
 -- a function of the keys
 obtain⟨kf,hkf⟩:∃kf:Value->Int × Int,∀v k,Kv H v k->kf v=k:=by
  classical
  refine⟨λv=>if q:∃k,Kv H v k then q.choose else(0,0),λv k hk=>?_⟩
  have q:∃k,Kv H v k:=⟨k,hk⟩
  dsimp only
  rw[dif_pos q]
  exact inj v _ _ q.choose_spec hk
 have aza:∀(i:Nat) v t,(keys.zip vs.toArray)[i]?=some (v,Value.int i t)->kf v=kz i:=λi v t e=>by
  have hi:i<n:=by
   have:=(Array.getElem?_eq_some_iff.mp e).1
   omega
  obtain⟨v',t',e1,q⟩:=zat i hi
  rw[e1]at e
  cases e
  exact hkf _ _ q
 unfold ksk_end
 simp only[Bool.false_eq_true,if_false]
 rw[List.size_toArray,hl]
 by_cases h2:n<2
 ·rw[if_pos h2,if_pos h2]
  refine wpAny_bind (wpAny_pure ?_)
  rw[StateT.run_pure]
  refine wpAny_bind (wpAny_pure ?_)
  refine anL (st:=SortSt.mk' general' (keys.zip vs.toArray) #[] 7 none) I fk fa ne hk ha (by omega) (by show(keys.zip vs.toArray).size<=64; omega) rfl λs' c I' e'=>h s' c _ I' e' (fin kf _ aza (Array.Perm.refl _) λi j hij hj=>by omega)
 ·rw[if_neg h2,if_neg h2]
  refine wpAny_bind (T.kind H keys kz (by omega) hK I ?_)
  have ask:=T.ask (E:=E) (s:=s) (keys.zip vs.toArray) kf I (λp hp=>by
   obtain⟨i,hi,e⟩:=List.getElem_of_mem hp
   have hi':i<n:=by rw[Array.length_toList,zsz]at hi; exact hi
   obtain⟨v,t,e1,q⟩:=zat i hi'
   have e2:(keys.zip vs.toArray)[i]?=some p:=by rw[<-Array.getElem?_toList,List.getElem?_eq_getElem hi,e]
   rw[e1]at e2
   cases e2
   rw[hkf _ _ q]
   exact q)
  have B:SB (keys.zip vs.toArray) kd (SortSt.mk' kd (keys.zip vs.toArray) #[] 7 none):=⟨Array.Perm.refl _,rfl,rfl,rfl⟩
  have p0:Pre (keys.zip vs.toArray).size (arrOf (SortSt.mk' kd (keys.zip vs.toArray) #[] 7 none)) 0:=⟨λk hk=>by omega,λk _ hk=>by
   obtain⟨v,t,e1,_⟩:=zat k (by omega)
   show qr (keys.zip vs.toArray) k=k
   unfold qr
   rw[e1]
   rfl⟩
  refine wpAny_bind (wpAny_mono (ar7 (Q:=λ_ t=>(arrOf t).Perm (keys.zip vs.toArray)/\failedOf t=none/\Sta kf (arrOf t) (keys.zip vs.toArray).size) ask B (by omega) (by omega) p0 λt a1 a2 a3=>⟨a1,a2,a3⟩) ?_ λ_ _ z=>z)
  rintro⟨⟨⟩,t⟩ s' ⟨rfl,hp,hf,hs⟩
  rw[zsz]at hs
  exact anL I fk fa ne hk ha (by omega) (by rw[hp.size_eq,zsz]; omega) hf λs' c I' e'=>h s' c _ I' e' (fin kf _ aza hp hs)
end
end L2
end
section
namespace L2
open PySem PySem.Spec PyProof.Rows PySem.W
section
variable {X:Cx}{pins:List (Addr × Obj)}{σ : St}{H:Hp}{s:Shared}{Kv:Hp->Value->Int × Int->Prop}{kd:SortKind}{n:Nat}{kz:Nat->Int × Int}{vs:List Value}{f:Value}
theorem afg.up{H':Hp}{b:Addr}(h:afg X pins H b)(e:H' b=none):afg X pins H' b:=⟨e,h.2⟩
noncomputable def ar9(X:Cx)(pins:List (Addr × Obj))(σ : St)(H:Hp)(Kv:Hp->Value->Int × Int->Prop)(n:Nat)(kz:Nat->Int × Int)(f:Value):Prop :=
 ∀(ahL:List (Addr × Obj)) (i:Nat) (t:Tok) (s':Shared) (H':Hp),i<n->(∀p∈pins,p∈ahL)->Same H H'->Inv X ahL σ H' s' ->
  wpAny (model X.prog X.w) X.A.in1.in1 (call f [.int i t]) (λv s''=>∃H'',Same H' H''/\Kv H'' v (kz i)/\Inv X ahL σ H'' s'') (λ_ _=>False) s'
theorem asa{a kS:Addr}{e1:Nat}{P:PySem.Fin->Shared->Prop}{E:Value->Shared->Prop}(T:akB X Kv kd)(mono:∀{H H':Hp} {v k},Same H H'->Kv H v k->Kv H' v k)(inj:∀(H:Hp) v k k',Kv H v k->Kv H v k'->k=k')
  (I:Inv X pins σ H s) (fk:afg X pins H kS) (fa:afg X pins H a) (ne:kS≠a) (hk:s.heap.get? kS=some (seqObj "list" #[] 0)) (ha:s.heap.get? a=some (seqObj "list" #[] e1))
  (hv:∀(i:Nat) (v:Value),vs[i]?=some v->∃t,v=Value.int i t) (hl:vs.length=n) (h64:n<64) (key:ar9 X pins σ H Kv n kz f)
  (h:∀s' c out H',Same H H'->H' a=none->Inv X pins σ H' s'->s'.heap.get? a=some (seqObj "list" out c)->(∃ys,Srt n kz ys/\Vals (ys.map λi:Nat=>V.int i) out.toList)->P (.done (.ret .none)) s') :
  wpAny (model X.prog X.w) X.A.in1.in1 (ksk_rest a f false vs.toArray e1 (.ref kS)) P E s:=by
 unfold ksk_rest
 refine wpAny_bind (wpAny_rule ?_)
 rw[<-Array.forIn_toList]
 simp only[List.toList_toArray]
 refine wpAny_bind (ksk_fold (λi s'=>∃H' kA e,Same H H'∧H' kS=none∧H' a=none∧Inv X pins σ H' s'∧s'.heap.get? kS=some (seqObj "list" kA e)∧s'.heap.get? a=some (seqObj "list" #[] e1)∧kA.size=i∧∀(j:Nat) v,kA[j]?=some v→Kv H' v (kz j)) vs 0 s
  ⟨H,#[],0,Same.refl _,fk.1,fa.1,I,hk,ha,rfl,λj v z=>by simp at z⟩ ?_ ?_)
 ·rintro j x s' hx ⟨H',kA,e,sm,nk,na,I',hk',ha',sz,hK⟩
  rw[Nat.zero_add]at sz ⊢
  have hj:j<vs.length:=(List.getElem?_eq_some_iff.mp hx).1
  obtain⟨t,rfl⟩:=hv j x hx
  have fk':=fk.up nk
  have fa':=fa.up na
  have I2:Inv X ((kS,seqObj "list" kA e)::(a,seqObj "list" #[] e1)::pins) σ H' s':=(I'.ar8 fa' ha' (λv z=>by cases z)).ar8 (fk'.ar8 (Ne.symm ne)) hk' (λv z=>by cases z)
  refine wpAny_bind (wpAny_attempt (wpAny_mono (key _ j t s' H' (by omega) (λp hp=>List.mem_cons_of_mem _ (List.mem_cons_of_mem _ hp)) sm I2) (λv s'' he=>?_) λ_ _ z=>z.elim))
  obtain⟨H'',sm2,kv,I3⟩:=he
  have p1:=I3.pin (kS,seqObj "list" kA e) (List.mem_append_right _ (List.mem_cons_self ..))
  have p2:=I3.pin (a,seqObj "list" #[] e1) (List.mem_append_right _ (List.mem_cons_of_mem _ (List.mem_cons_self ..)))
  have I4:Inv X pins σ H'' s'':=I3.sub λp hp=>List.mem_cons_of_mem _ (List.mem_cons_of_mem _ hp)
  show wpAny _ _ (Builtin.List.listUpdate (.ref kS) (·.push v) >>= λ_=>pure (ForInStep.yield PUnit.unit)) _ _ _
  refine wpAny_bind (listUpdate_at p1.1 rfl ?_ (by rw[sizeLine_eq]; omega) (Nat.le_trans (Nat.le_of_eq (Array.size_push ..)) (by rw[sizeLine_eq]; omega)))
  refine wpAny_pure ⟨rfl,H'',kA.push v,_,sm.trans sm2,p1.2.1,p2.2.1,I4.wr (t':=s''.toks) (fk.up p1.2.1),get?_update_seq p1.1 _,((Heap.SameBut.update s''.heap kS _).2 a (Ne.symm ne)).trans p2.1,by rw[Array.size_push,sz],λi u q=>?_⟩
  rw[Array.getElem?_push]at q
  split at q
  ·rename_i z
   cases q
   rw[z,sz]
   exact kv
  ·exact mono sm2 (hK i u q)
 ·rintro s' ⟨H',kA,e,sm,nk,na,I',hk',ha',sz,hK⟩
  refine wpAny_bind (listItems_at hk' rfl ?_)
  exact au0 T I' (fk.up nk) (fa.up na) ne hk' ha' hv hl (by omega) h64 hK (inj H') λs'' c out I'' e'' q=>h s'' c out H' sm na I'' e'' q
theorem asb{a:Addr}{c0:Nat}{P:PySem.Fin->Shared->Prop}{E:Value->Shared->Prop}(T:akB X Kv kd)(mono:∀{H H':Hp} {v k},Same H H'->Kv H v k->Kv H' v k)(inj:∀(H:Hp) v k k',Kv H v k->Kv H v k'->k=k')
  (I:Inv X pins σ H s) (fa:afg X pins H a) (ha:s.heap.get? a=some (seqObj "list" vs.toArray c0))
  (hv:∀(i:Nat) (v:Value),vs[i]?=some v->∃t,v=Value.int i t) (hl:vs.length=n) (h64:n<64) (key:ar9 X pins σ H Kv n kz f)
  (h:∀s' c out H',Same H H'->H' a=none->Inv X pins σ H' s'->s'.heap.get? a=some (seqObj "list" out c)->(∃ys,Srt n kz ys/\Vals (ys.map λi:Nat=>V.int i) out.toList)->P (.done (.ret .none)) s') :
  wpAny (model X.prog X.w) X.A.in1.in1 (ksk_tree a f false) P E s:=by
 unfold ksk_tree
 refine wpAny_bind (listItems_at ha rfl ?_)
 refine wpAny_bind (listUpdate_at ha rfl ?_ (by rw[List.size_toArray,sizeLine_eq]; omega) (Nat.zero_le _))
 have I1:=I.wr (g:=λ_=>#[]) (t':=s.toks) fa
 obtain⟨e1,ha1⟩:∃e1,(s.heap.update a (Obj.mapSeq λ_=>(#[]:Array Value))).get? a=some (seqObj "list" #[] e1):=⟨_,get?_update_seq ha _⟩
 refine wpAny_bind (seqEpoch_at ha1 rfl ?_)
 refine wpAny_bind (wpAny_newTuple ?_ (by show vs.toArray.toList.length<=_; rw[List.toList_toArray,sizeLine_eq]; omega))
 refine wpAny_bind (wpAny_newList ?_ (Nat.zero_le _))
 have I2:Inv X pins σ H {s with heap:=(s.heap.update a (Obj.mapSeq λ_=>(#[]:Array Value))).push {cls:=.type "tuple",data:=.seq vs.toArray.toList.toArray } }:=I1.kept (t':=s.toks) λb o e=>Heap.get?_push_of_some _ e
 have I3:Inv X pins σ H {s with heap:=((s.heap.update a (Obj.mapSeq λ_=>(#[]:Array Value))).push {cls:=.type "tuple",data:=.seq vs.toArray.toList.toArray }).push {cls:=.type "list",data:=.seq ([]:List Value).toArray } }:=I2.kept (t':=s.toks) λb o e=>Heap.get?_push_of_some _ e
 have lt:a<((s.heap.update a (Obj.mapSeq λ_=>(#[]:Array Value))).push {cls:=.type "tuple",data:=.seq vs.toArray.toList.toArray }).objs.size:=by
  rw[size_push',Heap.size_update]
  exact Nat.lt_succ_of_lt (Heap.lt_size ha)
 refine wpAny_holding ?_
 exact asa T mono inj I3 (I2.ape (Nat.le_refl _) (I2.hok.fresh (Nat.le_refl _))) fa (Nat.ne_of_gt lt) (Heap.get?_push_size _ rfl) (Heap.get?_push_of_some _ (Heap.get?_push_of_some _ ha1)) hv hl h64 key h
theorem akC{A:Around}{r:Addr}{n:Nat}{t u v:Tok}{Q:List Value->Shared->Prop}{E:Value->Shared->Prop}{P:Program}{w:World}(hh:A.handled=none)(hr:IsRange s.heap r 0 n 1 t u v)(hn:n<=1000)
  (h:∀h' tk (vs:List Value),(∀b o,s.heap.get? b=some o->h'.get? b=some o)->vs.length=n->(∀(i:Nat) (v:Value),vs[i]?=some v->∃t,v=Value.int i t)->Q vs {s with heap:=h',toks:=tk }) :
  wpAny (model P w) A (collect (.ref r)) Q E s:=by
 unfold collect
 refine wpAny_bind (wpAny_runValue (codeAny_builtin F.entry_proto_collect ?_))
 rw[Around.under_plainId F.plain_proto_collect _]
 show wpAny _ A.in1 (newList [] >>= λl=>again (.builtin "list.__iadd__" ⟨[l,.ref r],[]⟩)) _ _ s
 refine wpAny_bind (wpAny_newList ?_ (Nat.zero_le _))
 refine wpAny_pure ⟨plainId_quiet F.plain_list_iadd _,codeAny_builtin F.entry_list_iadd ?_⟩
 rw[Around.under_plainId F.plain_list_iadd _]
 have sz1:Builtin.Range.rangeSize 0 (n:Int) 1=n:=by rw[rangeSize_one]; split <;> omega
 have keep:∀b o,s.heap.get? b=some o->(s.heap.push {cls:=.type "list",data:=.seq ([]:List Value).toArray }).get? b=some o:=λb o e=>Heap.get?_push_of_some _ e
 show wpAny _ A.in1 (Builtin.List.listExtendWith (.ref s.heap.objs.size) (.ref r) (.ref s.heap.objs.size)) _ _ {s with heap:=s.heap.push {cls:=.type "list",data:=.seq ([]:List Value).toArray } }
 refine wpAny_extend_range (A:=A) (R:=λr s'=>match r with
  | Except.ok (Flow.ret v)=>wpAny (model P w) A (match v with
   |Value.ref a=>do
    let __do_lift <-load a
    match __do_lift.data with
     |Data.seq xs epoch=>pure xs.toList
     |x=>unsupported "internal:collect"
   |x=>unsupported "internal:collect") Q E s'
  |Except.ok a=>False
  |Except.error e=>E e s') (s:={s with heap:=s.heap.push {cls:=.type "list",data:=.seq ([]:List Value).toArray } }) hh (keep _ _ hr) (small_one (by omega) (by omega) (by omega) (by omega)) sz1 (by omega) s.heap.objs.size (.ref s.heap.objs.size) 0 (Heap.get?_push_size _ rfl) λh' tk acc c hk hS hi=>?_
 show wpAny _ A (load s.heap.objs.size >>= _) _ _ _
 refine wpAny_bind (wpAny_load hS ?_)
 refine wpAny_pure (h h' tk acc.toList (λb o e=>hk b o (Nat.ne_of_lt (Heap.lt_size e)) (keep b o e)) (by rw[Array.length_toList]; exact hi.1) λi v e=>?_)
 rw[Array.getElem?_toList]at e
 obtain⟨t,z⟩:=hi.2 i v e
 exact⟨t,by rw[z]; simp⟩
theorem anM{r:Addr}{t u v:Tok}{q:Addr}{Q:Value->Shared->Prop}{E:Value->Shared->Prop}(T:akB X Kv kd)(mono:∀{H H':Hp} {v k},Same H H'->Kv H v k->Kv H' v k)(inj:∀(H:Hp) v k k',Kv H v k->Kv H v k'->k=k')
  (I:Inv X pins σ H s) (hh:X.A.handled=none) (hr:IsRange s.heap r 0 n 1 t u v) (h64:n<64) (key:ar9 X pins σ H Kv n kz (.ref q))
  (h:∀s' D ys H',Same H H'->H' D=none->Inv X pins σ (upd H' D (.lst (ys.map λi:Nat=>V.int i))) s'->Srt n kz ys->Q (.ref D) s') :
  wpAny (model X.prog X.w) X.A (call (.builtin "sorted") [.ref r] [(Str.ofString "key",.ref q)]) Q E s:=by
 refine call_function_entry_kw kind_sorted plain_sorted entry_sorted (ksk_s1 _ _) ?_
 unfold Builtin.«sorted»
 refine wpAny_bind (m:=checkCount "sorted" 1 1 _) (wpAny_pure ?_)
 refine wpAny_bind (akC (A:=X.A.in1) hh hr (by omega) λh1 tk vs keep hl hv=>?_)
 have I1:Inv X pins σ H {s with heap:=h1,toks:=tk }:=I.kept keep
 refine wpAny_bind (wpAny_newList ?_ (by rw[sizeLine_eq]; omega))
 have I2:Inv X pins σ H {s with heap:=h1.push {cls:=.type "list",data:=.seq vs.toArray },toks:=tk }:=I1.kept (t':=tk) λb o e=>Heap.get?_push_of_some _ e
 have ha:(h1.push {cls:=.type "list",data:=.seq vs.toArray }).get? h1.objs.size=some (seqObj "list" vs.toArray 0):=Heap.get?_push_size _ rfl
 refine wpAny_bind (wpAny_holding (wpAny_call_entry_kw slot_list_sort ⟨_,ha,rfl⟩ entry_list_sort ?_ (ksk_l1 _ _)))
 show wpAny (model X.prog X.w) X.A.in1.in1 (Builtin.«list.sort» ⟨[.ref h1.objs.size],[(Str.ofString "key",.ref q)]⟩) _ _ _
 rw[ksk_t1]
 have fa:afg X pins H h1.objs.size:=I1.ape (Nat.le_refl _) (I1.hok.fresh (Nat.le_refl _))
 refine asb T mono inj I2 fa ha hv hl h64 key λs' c out H' sm na I' e' ⟨ys,hs,hv'⟩=>⟨_,rfl,?_⟩
 refine wpAny_pure ⟨_,rfl,h s' _ ys H' sm na (I'.track (its:=out.toList) (n:=c) (fa.up na) e' hv' ?_) hs⟩
 have:=hs.1.length_eq
 rw[List.length_map,this,List.length_range,sizeLine_eq]
 omega
end
end L2
end
section
namespace L2
open PySem PySem.Spec PyProof.Rows PySem.W
noncomputable def asd(X:Cx)(A:Around)(N:List Str)(qual:Str)(scope:Scope)(f:Addr)(cd:Value)(s:Shared)(H:Hp):Cx where
 prog:=X.prog
 w:=X.w
 K:=X.K
 mg:=X.mg
 base:=X.base
 A:=A.deeper (envX qual scope s.heap.objs.size f cd (aay X.env.cells scope.names []))
 N:=N
 s₀ := s
 H₀ := H
 env:=envX qual scope s.heap.objs.size f cd (aay X.env.cells scope.names [])
 outer:=X.stack
 stack:=envX qual scope s.heap.objs.size f cd (aay X.env.cells scope.names [])::X.stack
 ex:=[]
 fn:=λ_=>false
 calm:=true
 pn:=[]
 xe:=λ_ _=>False
structure apZ(sc:Scope)(No:List Str)(x:Str)(Ns:List Str)(src:List (Option Nat))(scope:Scope):Prop where
 c:agm sc No (x::Ns) (none::src) scope
 aqV:∀y∈scope.names,y.2 ≠ .cell
 par:scope.names.lookup x=some .local
 co:scope.isCoroutine=false
 gen:scope.isGenerator=false
section
variable {X:Cx}{pins:List (Addr × Obj)}{σ : St}{H:Hp}{s:Shared}{sc scope:Scope}{No Ns:List Str}{src:List (Option Nat)}{x qual:Str}
theorem anN{A:Around}{f:Addr}{cd:Value}{h₁ : Heap}{tk:Nat}{v:V}{u:Value}(hsc:X.env.scope=sc)(hNo:X.N=No)(S:apZ sc No x Ns src scope)(hfr:A.frames=some X.stack)(hhd:A.handled=none)(I:Inv X pins σ H s)(rv:RelV v u)
  (hns:h₁.Ns s.heap.objs.size (λy=>([(x,u)]:List (Str × Value)).reverse.lookup y)) (old:∀b o,s.heap.get? b=some o->h₁.get? b=some o) :
  Inv (asd X A (x::Ns) qual scope f cd s H) [] (some v::afr src σ) H {s with heap:=h₁,toks:=tk }:=by
 subst hsc
 subst hNo
 have ahm:∀x c,(aay X.env.cells scope.names []).lookup x=some c->X.env.cells.lookup x=some c:=λx c h=>by
  rcases abA h with q|q
  ·simp at q
  ·exact q
 refine⟨⟨I.ok.mod,S.c.kind,rfl,rfl,Nat.le_refl _,λx y c h1 h2=>I.ok.inj x y c (ahm _ _ h1) (ahm _ _ h2),λy hy=>?_,λx c h=>(Bool.false_ne_true h).elim,λ_=>hhd,Around.frames_deeper hfr,.inr ⟨rfl,rfl⟩,λb hb=>absurd (show b∈([]:List Addr)from hb) (by simp),
   I.bs,Nat.le_trans I.ok.bsz I.sz,λb o e=>by intro hb; exact absurd (show b∈([]:List Addr)from hb) (by simp),λb hb=>absurd (show b∈([]:List Addr)from hb) (by simp),I.stack,I.aiv⟩,
  rfl,I.bare,Un.kept old,⟨_,hns,λi y w' h1 h2 h3=>?_⟩,λy c e=>?_,I.hok.fresh (Nat.le_refl _),λy c e=>I.agU y c (ahm y c e),λp hp=>absurd (show p∈([]:List (Addr × Obj))from hp) (by simp),I.hok.kept old,?_⟩
 ·have hy:scope.names.lookup y=some .cell\/scope.names.lookup y=some .free:=hy
  have m:(y,NameKind.free)∈scope.names:=by
   rcases hy with z|z
   ·exact absurd rfl (S.aqV _ (PySem.mem_of_lookup z))
   ·exact PySem.mem_of_lookup z
  have q:=abG (cells:=X.env.cells) (acc:=[]) (.inr ⟨m,by
   obtain⟨c,e⟩:=I.ok.has y (S.c.free _ m rfl)
   rw[e]; rfl⟩)
  exact Option.isSome_iff_exists.mp q
 ·cases i with
  |zero =>
   have h1:some x=some y:=h1
   cases h1
   have h2:some (some v)=some (some w'):=h2
   cases h2
   exact⟨u,rv,.inl ⟨S.par,by show([(x,u)]:List (Str × Value)).reverse.lookup x=some u; simp⟩⟩
  |succ i =>
   have h1:Ns[i]?=some y:=h1
   have h2:(afr src σ)[i]?=some (some w'):=h2
   have hi:i<src.length:=by
    unfold afr at h2
    have:=(List.getElem?_eq_some_iff.mp h2).1
    simpa using this
   have h2':((src[i]).bind λj=>(σ[j]?).join)=some w':=by
    unfold afr at h2
    rw[List.getElem?_map,List.getElem?_eq_getElem hi]at h2
    exact Option.some.inj h2
   cases es:src[i]with
   |none=>rw[es]at h2'; cases h2'
   |some j =>
    rw[es]at h2'
    have hj : σ[j]?=some (some w'):=by
     have z:(σ[j]?).join=some w':=h2'
     cases q : σ[j]? with
     |none=>rw[q]at z; cases z
     |some o=>rw[q]at z; have z':o=some w':=z; rw[z']
    have hz:(y,some j)∈(x::Ns).zip (none::src):=by
     refine List.mem_of_getElem? (i:=i+1) ?_
     rw[List.getElem?_zip_eq_some]
     exact⟨by simpa using h1,by simp[List.getElem?_eq_getElem hi,es]⟩
    obtain⟨u1,u2⟩:=S.c.up _ hz j rfl
    have m:(y,NameKind.free)∈scope.names:=PySem.mem_of_lookup u2
    have kx:=S.c.free _ m rfl
    obtain⟨m0,hn0,hl0⟩:=id I.loc
    obtain⟨u',r,lk⟩:=hl0 j y w' u1 hj (kx.elim (λz=>.inr (.inl z)) λz=>.inr (.inr z))
    refine⟨u',r,?_⟩
    rcases lk with⟨k,_⟩|⟨_,c,e,ic⟩
    ·have k':X.env.scope.names.lookup y=some .local:=k
     rcases kx with z|z <;> (rw[z]at k'; cases k')
    ·refine .inr ⟨.inr u2,c,?_,?_⟩
     ·have q:=abG (cells:=X.env.cells) (acc:=[]) (.inr ⟨m,by rw[e]; rfl⟩)
      obtain⟨c',e'⟩:=Option.isSome_iff_exists.mp q
      have e2:=ahm y c' e'
      rw[e]at e2; cases e2
      exact e'
     ·obtain⟨o,ho,hd⟩:=ic
      exact⟨o,old _ _ ho,hd⟩
 ·obtain⟨v,o,ho,hd⟩:=I.cell y c (ahm y c e)
  exact⟨v,o,old _ _ ho,hd⟩
 ·have:=S.c.len
  show _=(x::Ns).length
  rw[List.length_cons]at this ⊢
  rw[List.length_cons]
  unfold afr
  rw[List.length_map]
  exact this
theorem ap0{A:Around}{f c':Addr}{params:Arguments}{body:Expr}{pm ctv:Value}{v:V}{u:Value}{te:TE}{Q:VK}{E:Value->Shared->Prop}(hsc:X.env.scope=sc)(hNo:X.N=No)(S:apZ sc No x Ns src scope)(hfr:A.frames=some X.stack)(hhd:A.handled=none)(hroom:A.depth<recursionLimit)
  (I:Inv X pins σ H s) (ho:s.heap.get? f=some (kla_obj "<lambda>" qual params body scope (aay X.env.cells scope.names []) pm c' ctv)) (hcd:s.heap.CodeRec (.ref c') qual) (rv:RelV v u)
  (hbind:bindArgs (kla_fn "<lambda>" qual params body scope (aay X.env.cells scope.names []) pm (.ref c') ctv) ⟨[u],[]⟩=pure [(x,u)])
  (he:∀s H,PE (asd X A (x::Ns) qual scope f (.ref c') s H) body te) (hq:te (some v::afr src σ) H Q):wpAny (model X.prog X.w) A (call (.ref f) [u]) (EP X pins σ Q) E s:=by
 refine wpAny_call (kla_callFunE hroom ho rfl S.co S.gen rfl hcd ?_)
 rw[hbind]
 refine wpAny_pure (wpAny_newFunctionEnv S.aqV (λy hy=>?_) (λh₁ hns hsb=>⟨I.nolimit.fresh _ hsb,?_⟩) S.c.kind)
 ·have:y=(x,u):=by simpa using hy
  subst this
  exact S.par
 have old:∀b o,s.heap.get? b=some o->h₁.get? b=some o:=λb o e=>hsb.extBut b o (Nat.ne_of_lt (Heap.lt_size e)) (Heap.get?_push_of_some _ e)
 have J:=anN (A:=A) (f:=f) (cd:=.ref c') (qual:=qual) (tk:=s.toks+[(x,u)].length) hsc hNo S hfr hhd I rv hns old
 show codeAny _ _ (.expr body (envX qual scope s.heap.objs.size f (.ref c') (aay X.env.cells scope.names []))) _ _
 refine kla_codeExpr (wpAny_mono (he s H [] _ _ H Q J hq) (λw' s' hw=>?_) λ_ _ z=>z.elim)
 obtain⟨v',H',J',r',q'⟩:=hw
 exact⟨v',H',I.call' (ch:=[]) J'.os J'.base J'.hok J'.bare (λb hb=>absurd hb (by simp)),r',q'⟩
end
end L2
end
section
namespace L2
open PySem PySem.Spec PyProof.Rows PySem.W
noncomputable def ap1(mg:Str→Option Value)(base:Heap):Prop:=∃bm ob,mg "__builtins__" = some (.ref bm)∧bm≠builtinsNs∧bm≠mainGlobals∧base.get? bm=some ob∧ob.cls=.type "module" ∧ ob.dict=some builtinsNs∧ob.data=.plain
theorem ajO{a b:Int}{t u:Tok}{c:Value}:∀{l:List Value},TriplesOk l->TriplesOk (l++[.int a t,.int b u,c])
 | [],_=>trivial
 |.int _ _ :: .int _ _::_::r,h=>ajO (l:=r) h
theorem ail{a b:Int}{t u:Tok}{c v:Value}{pos:Pos}:∀{l:List Value},TriplesOk l->codeAmong pos (l++[.int a t,.int b u,c])=some v->codeAmong pos l=some v\/v=c
 | [],_,h=>by
  have h:(if _ then some c else none)=some v:=h
  split at h
  ·cases h; exact .inr rfl
  ·cases h
 |.int x _ :: .int y _::z::r,o,h=>by
  have h:(if(x == pos.line&&y == pos.col)=true then some z else codeAmong pos (r++[.int a t,.int b u,c]))=some v:=h
  show(if(x == pos.line&&y == pos.col)=true then some z else codeAmong pos r)=some v\/_
  split at h
  ·rename_i q
   rw[if_pos q]
   exact .inl h
  ·rename_i q
   rw[if_neg q]
   exact ail (l:=r) o h
section
variable {X:Cx}{pins:List (Addr × Obj)}{σ : St}{H:Hp}{s:Shared}{sc scope:Scope}{No Ns:List Str}{src:List (Option Nat)}{x:Str}
structure awN(P:Addr)(q:Str)(H H':Hp):Prop where
 kp:∀b o,H b=some o->b≠P->H' b=some o
 tb:∃ps,H' P=some (.tbl ps)/\awG H' q ps
theorem ap2{A:Around}{c P:Addr}{ps:Array Value}{params:Arguments}{body:Expr}{pos:Pos}{Q:Value->Shared->Prop}{E:Value->Shared->Prop}(hsc:X.env.scope=sc)(S:apZ sc No x Ns src scope)(hcode:X.env.code=.ref c)(C:CodeHd X.base c P)(B:ap1 X.mg X.base)
  (hdef:defaultsOf params X.env=([],[])) (I:Inv X pins σ H s) (hP:H P=some (.tbl ps)) (ok:awG H (X.env.qual++("<lambda>" : Str)) ps)
  (h:∀f c' ctv pm H' s' oc,awN P (X.env.qual++("<lambda>" : Str)) H H'→Inv X ((f,kla_obj "<lambda>" (X.env.qual++("<lambda>" : Str)) params body scope (aay X.env.cells scope.names []) pm c' ctv)::pins) σ H' s'→H' c'=some (.frz oc (.own 0))→aqK oc (X.env.qual++("<lambda>" : Str))→Q (.ref f) s') :
  wpAny (model X.prog X.w) A (eval (.Lambda params body scope pos) X.env) Q E s:=by
 have hcl:closureFor scope X.env=pure (aay X.env.cells scope.names []):=aeb λy hy e=>by
  have k:=S.c.free y hy e
  rw[<-hsc]at k
  obtain⟨c,q⟩:=I.ok.has y.1 k
  rw[q]; rfl
 have oP:s.heap.get? P=some (tabObj ps):=I.hok P _ hP
 have nP:mainGlobals≠P:=λz=>by
  obtain⟨o,es,ep,e,hd,_⟩:=I.ok.mod.glob
  have:=(I.bs _ _ e).2
  rw[z,hP]at this
  cases this
 have hg:s.heap.Ns mainGlobals X.mg:=let⟨o,es,ep,e,r⟩:=I.ok.mod.glob; ⟨o,es,ep,I.bk _ _ e,r⟩
 have hB:s.heap.BuiltinsAt X.mg P:=by
  obtain⟨bm,ob,b1,b2,b3,b4,b5,b6,b7⟩:=B
  refine⟨bm,ob,b1,b2,b3,λz=>?_,I.bk _ _ b4,b5,b6,b7⟩
  have:=(I.bs _ _ b4).2
  rw[z,hP]at this
  cases this
 have C':CodeHd s.heap c P:=C.keeps I.bk
 refine kla_eval hdef ?_
 cases hf:codeAmong pos ps.toList with
 |some cv =>
  obtain⟨c',oc,rfl,e1,e2⟩:=ok.2 pos cv hf
  refine kla_makeFunctionHit (mg:=X.mg) hcl I.ok.glob hg hcode C' oP ok.1 hf hB λctv h' tk keep hsz=>?_
  have I1:Inv X pins σ H {s with heap:=h',toks:=tk }:=I.kept keep
  have I2:Inv X pins σ H {s with heap:=h'.push (kla_obj "<lambda>" (X.env.qual++("<lambda>" : Str)) params body scope (aay X.env.cells scope.names []) ((X.mg "__name__").getD .none) c' ctv),toks:=tk }:=I1.kept (t':=tk) λb o e=>Heap.get?_push_of_some _ e
  refine h _ c' ctv _ H _ oc ⟨λ_ _ q _=>q,ps,hP,ok⟩ (I2.ar8 (I1.ape (Nat.le_refl _) (I1.hok.fresh (Nat.le_refl _))) (Heap.get?_push_size _ rfl) (λv z=>by cases z)) e1 e2
 |none =>
  refine kla_makeFunction (mg:=X.mg) hcl I.ok.glob hg hcode C' oP ok.1 hf nP hB λc' ctv h' tk ext hge hlt hrec htb=>?_
  obtain⟨c2,oc,vs,t,e2,hoc,hd,hv⟩:=hrec
  cases e2
  have nc:H c'=none:=I.hok.fresh hge
  have cP:c'≠P:=λz=>by rw[z,hP]at nc; cases nc
  have ne:∀b u,H b=some u->b≠c':=λb u q=>aaW q nc
  have up:∀b u,H b=some u->b≠P->(upd (upd H P (.tbl (ps ++ #[rawInt pos.line,rawInt pos.col,.ref c']))) c' (.frz oc (.own 0))) b=some u:=λb u q z=>by rw[aaG (ne b u q),aaG z]; exact q
  have upP:(upd (upd H P (.tbl (ps ++ #[rawInt pos.line,rawInt pos.col,.ref c']))) c' (.frz oc (.own 0))) P=some (.tbl (ps ++ #[rawInt pos.line,rawInt pos.col,.ref c'])):=by rw[aaG (Ne.symm cP)]; exact abj
  have keep:∀b o,b≠P->s.heap.get? b=some o->h'.get? b=some o:=λb o z e=>ext b o z e
  have hok:HOk X.prog X.w (upd (upd H P (.tbl (ps ++ #[rawInt pos.line,rawInt pos.col,.ref c']))) c' (.frz oc (.own 0))) h':=λb u q=>by
   by_cases z1:b=c'
   ·subst z1
    rw[abj]at q
    cases q
    exact⟨hoc,oc,hoc⟩
   ·by_cases z2:b=P
    ·subst z2
     rw[upP]at q
     cases q
     exact htb
    ·rw[aaG z1,aaG z2]at q
     refine(I.hok b u q).stay (λd v hd' e=>keep d v ?_ e) (λd z=>up d _ z ?_) λd ys z=>up d _ z ?_
     ·rcases hd' with rfl|hd'
      ·exact z2
      ·rintro rfl
       rw[hP]at hd'
       cases hd'
     ·rintro rfl
      rw[hP]at z
      cases z
     ·rintro rfl
      rw[hP]at z
      cases z
  have atb:∀b,H b=none->b≠P:=λb n z=>by rw[z,hP]at n; cases n
  have I1:Inv X pins σ (upd (upd H P (.tbl (ps ++ #[rawInt pos.line,rawInt pos.col,.ref c']))) c' (.frz oc (.own 0))) {s with heap:=h',toks:=tk } :=
   I.step (h':=h') (g':=s.gens) (d':=s.drawn) (t':=tk) (ch:=[]) (λ_ z=>nomatch z) (λb o _ _ _ e n=>keep b o (atb b n) e) (λb o _ _ _ e n=>⟨o.slots,keep b o (atb b n) e⟩)
    (λb o _ e n=>by
     rw[aaG (λz=>by rw[z]at e; exact absurd (Heap.lt_size e) (Nat.not_lt.mpr hge)),aaG (atb b n)]; exact n)
    (λb o _ e=>by
     by_cases z:b=P
     ·subst z; exact⟨_,htb⟩
     ·exact⟨o,keep b o z e⟩)
    (λb ys q=>up b _ q (by rintro rfl; rw[hP]at q; cases q)) (λb o u q=>up b _ q (by rintro rfl; rw[hP]at q; cases q))
    (λb qs q=>by
     by_cases z:b=P
     ·subst z
      rw[hP]at q
      cases q
      exact⟨_,upP⟩
     ·exact⟨#[],by rw[up b _ q z]; simp⟩)
    (λm q=>q.extBut ext (atb _ I.free)) hok I.bare
  have I2:=I1.kept (t':=tk) (h':=h'.push (kla_obj "<lambda>" (X.env.qual++("<lambda>" : Str)) params body scope (aay X.env.cells scope.names []) ((X.mg "__name__").getD .none) c' ctv)) λb o e=>Heap.get?_push_of_some _ e
  refine h _ c' ctv _ _ _ oc ⟨up,_,upP,?_,λpos' v q=>?_⟩ (I2.ar8 (I1.ape (Nat.le_refl _) (I1.hok.fresh (Nat.le_refl _))) (Heap.get?_push_size _ rfl) (λv z=>by cases z)) abj ⟨vs,t,hd,hv⟩
  ·have:(ps ++ #[rawInt pos.line,rawInt pos.col,.ref c']).toList=ps.toList++[rawInt pos.line,rawInt pos.col,.ref c']:=by simp
   rw[this]
   exact ajO ok.1
  ·have:(ps ++ #[rawInt pos.line,rawInt pos.col,.ref c']).toList=ps.toList++[rawInt pos.line,rawInt pos.col,.ref c']:=by simp
   rw[this]at q
   rcases ail ok.1 q with q|q
   ·obtain⟨d,o,z1,z2,z3⟩:=ok.2 pos' v q
    exact⟨d,o,z1,up d _ z2 (by rintro rfl; rw[hP]at z2; cases z2),z3⟩
   ·exact⟨c',oc,q,abj,vs,t,hd,hv⟩
end
end L2
end
section
namespace L2
open PySem PySem.Spec PyProof.Rows PySem.W
noncomputable abbrev KW:=Hp->V->Int × Int->Prop
noncomputable def kwI:KW:=λ_ v k=>v=.int k.1/\k.2=0
noncomputable def anO(Kw:KW)(P:Addr)(q:Str)(src:List (Option Nat))(ta:TA)(te:TE):TE:=λσ H Q=>ta σ H λvs H1=>∃(n:Nat) (kz:Nat->Int × Int),vs=[.int n]/\n<64/\(∃ps,H1 P=some (.tbl ps)/\awG H1 q ps)/\∀H2,awN P q H1 H2 ->
 (∀(i:Nat),i<n->∀H3,Same H2 H3->te (some (.int i)::afr src σ) H3 λv H4=>Kw H4 v (kz i)/\Same H3 H4)/\∀D (ys:List Nat) H3,Same H2 H3->H3 D=none->Srt n kz ys->Q (.ref D) (upd H3 D (.lst (ys.map λi:Nat=>V.int i)))
section
variable {X:Cx}{sc scope:Scope}{No Ns:List Str}{src:List (Option Nat)}{x:Str}{Kw:KW}{kd:SortKind}
theorem ap3{k:Nat}{c P:Addr}{e:Expr}{params:Arguments}{body:Expr}{p p2 pos pos2 azP kp:Pos}{ta:TA}{te:TE}(T:akB X (λH u k=>∃v,RelV v u/\Kw H v k) kd)(mono:∀{H H':Hp} {v k},Same H H'->Kw H v k->Kw H' v k)(inj:∀(H:Hp) u k k',(∃v,RelV v u/\Kw H v k)->(∃v,RelV v u/\Kw H v k')->k=k')
  (hr:agj k X.A) (h1:X.mg "sorted" = none) (h2:X.mg "range" = none) (hsc:X.env.scope=sc) (hNo:X.N=No) (S:apZ sc No x Ns src scope) (hcode:X.env.code=.ref c) (C:CodeHd X.base c P) (B:ap1 X.mg X.base) (hdef:defaultsOf params X.env=([],[]))
  (ha:PA X [e] ta) (hbind:∀(pm cd ctv u:Value),bindArgs (kla_fn "<lambda>" (X.env.qual++("<lambda>" : Str)) params body scope (aay X.env.cells scope.names []) pm cd ctv) ⟨[u],[]⟩=pure [(x,u)])
  (he:∀A f cd s H,PE (asd X A (x::Ns) (X.env.qual++("<lambda>" : Str)) scope f cd s H) body te)
  (hg:X.env.kindOf "sorted" = some .globalImplicit:=by kernel_rfl) (hg2:X.env.kindOf "range" = some .globalImplicit:=by kernel_rfl) (hs:notStar e=true:=by kernel_rfl) :
  PE X (.Call (.Name "sorted" p) [.Call (.Name "range" p2) [e] [] pos2] [⟨some (Str.ofString "key"),.Lambda params body scope azP,kp⟩] pos) (anO Kw P (X.env.qual++("<lambda>" : Str)) src ta te):=by
 refine⟨λpins s σ H Q I h=>?_⟩
 refine wpAny_Call_Name_kw (afq I hg h1 (by decide +kernel:bootBuiltins "sorted" = some (.builtin "sorted")) ?_ (by decide +kernel) (by kernel_rfl))
 refine callWith_kw (Calls.spliced_cons (wpAny_Call_Name_kw (afq I hg2 h2 boot_range (PyProof.Rows.callWith_type1 (thn (ha pos2 pins s σ H _ I h) λus s1 ⟨vs,H1,I1,r1,q1⟩=>?_) (aeD hs) rfl) (by decide +kernel) (by kernel_rfl))))
 obtain⟨n,kz,rfl,h64,⟨ps,hP,ok⟩,hq⟩:=q1
 obtain⟨u1,rfl,t1,rfl⟩:=vals1 r1
 refine call_range_1 ?_
 have rfp:afg X pins H1 s1.heap.objs.size:=I1.ape (Nat.le_refl _) (I1.hok.fresh (Nat.le_refl _))
 have I2:Inv X pins σ H1 {s1 with heap:=s1.heap.push {cls:=.type "range",data:=.fields #[.int 0 s1.toks,.int n t1,.int 1 (s1.toks+1)] },toks:=s1.toks+1+1 }:=I1.kept λb o e=>Heap.get?_push_of_some _ e
 have I3:=I2.ar8 rfp (Heap.get?_push_size _ rfl) (λv z=>by cases z)
 refine Calls.spliced_nil ?_
 refine kws_cons (ap2 hsc S hcode C B hdef I3 hP ok λf c' ctv pm H2 s2 oc lh I4 e1 e2=>?_)
 refine kws_nil ?_
 have pr:=I4.pin _ (List.mem_append_right _ (List.mem_cons_of_mem _ (List.mem_cons_self ..)))
 obtain⟨key,fin⟩:=hq H2 lh
 show wpAny _ _ (call (.builtin "sorted") [.ref s1.heap.objs.size] [(Str.ofString "key",.ref f)]) _ _ _
 refine anM T (λ{H H' u k} sm ⟨v,a1,a2⟩=>⟨v,a1,mono sm a2⟩) inj I4 hr.hd pr.1 h64 (λahL i t s' H' hi sub sm I'=>?_) λs' D ys H3 sm nD I' hs'=>⟨.ref D,_,I'.sub λp hp=>List.mem_cons_of_mem _ (List.mem_cons_of_mem _ hp),rfl,fin D ys H3 sm nD hs'⟩
 have pf:=I'.pin _ (List.mem_append_right _ (sub _ (List.mem_cons_self ..)))
 have hcd:s'.heap.CodeRec (.ref c') (X.env.qual++("<lambda>" : Str)):=by
  obtain⟨vs,t,a1,a2⟩:=e2
  exact⟨c',oc,vs,t,rfl,(I'.hok c' _ (sm _ _ e1)).1,a1,a2⟩
 refine thn (ap0 (A:=X.A.in1.in1) (v:=.int i) (te:=te) (Q:=λv H4=>Kw H4 v (kz i)/\Same H' H4) hsc hNo S I.ok.frames hr.hd hr.depth I' pf.1 hcd ⟨t,rfl⟩ (hbind _ _ _ _) (λs H=>he _ _ _ _ _) (key i hi H' sm)) λu s'' ⟨v,H4,I'',rv,q1,q2⟩=>⟨H4,q2,⟨v,rv,q1⟩,I''⟩
theorem au1:akB X (λH u k=>∃v,RelV v u/\kwI H v k) oneType' where
 kind:=λH keys kz h2 hk pins σ s Q E I q=>auZ.kind H keys kz h2 (λi v e=>by
  obtain⟨w,r,rfl,z⟩:=hk i v e
  obtain⟨t,rfl⟩:=r
  exact⟨t,rfl,z⟩) I q
 ask:=λa₀ kf I h=>auZ.ask a₀ kf I λp hp=>by
  obtain⟨w,r,z1,z⟩:=h p hp
  subst z1
  obtain⟨t,r⟩:=r
  exact⟨t,r,z⟩
theorem ase(H:Hp)(u:Value)(k k':Int × Int)(h:∃v,RelV v u/\kwI H v k)(h':∃v,RelV v u/\kwI H v k'):k=k':=by
 obtain⟨v,r,rfl,z⟩:=h
 obtain⟨v',r',rfl,z'⟩:=h'
 obtain⟨t,rfl⟩:=r
 obtain⟨t',r'⟩:=r'
 injection r' with r' _
 exact Prod.ext r' (z.trans z'.symm)
end
end L2
end
section
namespace L2
open PySem PySem.Spec PyProof.Rows PySem.W
noncomputable def bfr(kz:Nat->Int × Int)(i j:Nat):Prop:=((kz i).1<(kz j).1\/((kz i).1=(kz j).1/\(kz i).2<(kz j).2))\/(((kz i).1=(kz j).1/\(kz i).2=(kz j).2)/\i<j)
noncomputable instance {kz:Nat->Int × Int}{i j:Nat}:Decidable (bfr kz i j):=by unfold bfr; infer_instance
noncomputable def ap4(kz:Nat->Int × Int)(i:Nat):List Nat->List Nat
 | []=>[i]
 |j::r=>if bfr kz i j then i::j::r else j::ap4 kz i r
noncomputable def anP(n:Nat)(kz:Nat->Int × Int):List Nat:=(List.range n).foldr (ap4 kz) []
theorem ahn(kz:Nat->Int × Int)(i:Nat):∀l,(ap4 kz i l).Perm (i::l)
 | []=>.refl _
 |j::r=>by
  unfold ap4
  split
  ·exact .refl _
  ·exact((ahn kz i r).cons j).trans (.swap i j r)
theorem anQ(kz:Nat->Int × Int)(i:Nat):∀l,(∀j∈l,i≠j)->l.Pairwise (bfr kz)->(ap4 kz i l).Pairwise (bfr kz)
 | [],_,_=>by simp[ap4]
 |j::r,hn,hp=>by
  have hp':=List.pairwise_cons.mp hp
  unfold ap4
  split
  ·rename_i b
   refine List.pairwise_cons.mpr ⟨λk hk=>?_,hp⟩
   rcases List.mem_cons.mp hk with rfl|hk
   ·exact b
   ·have:=hp'.1 k hk
    unfold bfr at b this ⊢
    omega
  ·rename_i b
   refine List.pairwise_cons.mpr ⟨λk hk=>?_,anQ kz i r (λk hk=>hn k (List.mem_cons_of_mem _ hk)) hp'.2⟩
   rcases List.mem_cons.mp ((ahn kz i r).mem_iff.mp hk)with rfl|hk
   ·have:=hn j (List.mem_cons_self ..)
    unfold bfr at b ⊢
    omega
   ·exact hp'.1 k hk
theorem ajP(kz:Nat->Int × Int):∀l:List Nat,l.Nodup->(l.foldr (ap4 kz) []).Perm l/\(l.foldr (ap4 kz) []).Pairwise (bfr kz)
 | [],_=>⟨.refl _,.nil⟩
 |i::r,nd=>by
  have nd':=List.nodup_cons.mp nd
  obtain⟨h1,h2⟩:=ajP kz r nd'.2
  exact⟨(ahn kz i _).trans (h1.cons i),anQ kz i _ (λj hj z=>nd'.1 (by rw[z]; exact h1.mem_iff.mp hj)) h2⟩
theorem ajQ(n:Nat)(kz:Nat->Int × Int):Srt n kz (anP n kz):=ajP kz _ List.nodup_range
theorem anR{R:Nat->Nat->Prop}(as:∀a b,R a b->¬R b a):∀{l m:List Nat},l.Perm m->l.Pairwise R->m.Pairwise R->l=m
 | [],m,p,_,_=>by rw[List.nil_perm.mp p]
 |a::l,[],p,_,_=>by simpa using p.length_eq
 |a::l,b::m,p,h1,h2=>by
  have h1':=List.pairwise_cons.mp h1
  have h2':=List.pairwise_cons.mp h2
  have e:a=b:=by
   rcases List.mem_cons.mp (p.mem_iff.mp (List.mem_cons_self ..))with z|z
   ·exact z
   ·rcases List.mem_cons.mp (p.mem_iff.mpr (List.mem_cons_self (a:=b)))with y|y
    ·exact y.symm
    ·exact(as _ _ (h1'.1 b y) (h2'.1 a z)).elim
  subst e
  rw[anR as p.cons_inv h1'.2 h2'.2]
theorem Srt.eq{n:Nat}{kz:Nat->Int × Int}{ys:List Nat}(h:Srt n kz ys):ys=anP n kz:=by
 have g:=ajQ n kz
 refine anR (R:=bfr kz) (λa b h1 h2=>?_) (h.1.trans g.1.symm) h.2 g.2
 unfold bfr at h1 h2
 omega
noncomputable abbrev RF:=List (Option Tr)->Rs Tr
noncomputable def QS(K:PySem.W.Frag)(te:TE)(f:RF):Prop:=∀(W:Addr->Prop) (σ : St) (H:Hp) (Q:VK) (ts:List (Option Tr)) (T:Tr),(∀b,W b->Lt H b)->(∀(i:Nat) U,ts[i]?=some (some U)->∃v,σ[i]?=some (some v)/\Rp K W H v U)->f ts=.ok T ->
 (∀v H',Same H H'->Rp K W H' v T->Q v H')->te σ H Q
theorem Rp.up{K:PySem.W.Frag}{W:Addr->Prop}{H H':Hp}{v:V}{T:Tr}(h:Rp K W H v T)(s:Same H H'):Rp K W H' v T:=by
 have m:Same (aa7 W H) (aa7 W H'):=(Stp.of s).off
 rcases h with h|⟨a,xs,ts,e1,e2,e,r⟩
 ·exact .inl (h.mono m)
 ·exact .inr ⟨a,xs,ts,e1,e2,s _ _ e,r.mono m⟩
section
variable {K:PySem.W.Frag}{ta tb:TE}{fa fb:RF}
noncomputable def ap5(i:Nat):RF:=λts=>match ts[i]? with
 |some (some U)=>.ok U
 |_=>.bad
theorem aqW(i:Nat):QS K (am6 i) (ap5 i):=λW σ H Q ts T hw h e q=>by
 unfold ap5 at e
 split at e
 ·rename_i U z
  cases e
  obtain⟨v,h1,h2⟩:=h i _ z
  exact⟨v,h1,q v H (Same.refl _) h2⟩
 ·cases e
noncomputable def rOp(g:G2)(fa fb:RF):RF:=λts=>(fa ts).bind λa=>(fb ts).bind λb=>(g a b).bind λz=>.ok z.1
theorem axK{r:R2}{g:G2}(o:OpT K r g)(ha:QS K ta fa)(hb:QS K tb fb):QS K (tOp r ta tb) (rOp g fa fb):=λW σ H Q ts T hw h e q=>by
 unfold rOp at e
 obtain⟨a,e1,e⟩:=aaJ e
 obtain⟨b,e2,e⟩:=aaJ e
 obtain⟨z,e3,e⟩:=aaJ e
 cases e
 refine ha W σ H _ ts a hw h e1 λx H1 s1 r1=>?_
 refine hb W σ H1 _ ts b (λb w=>(hw b w).grow s1) (λi U z=>let⟨v,h1,h2⟩:=h i U z; ⟨v,h1,h2.up s1⟩) e2 λy H2 s2 r2=>?_
 refine o W x y a b H2 Q (λb w=>(hw b w).grow (s1.trans s2)) (r1.up s2) r2 ?_
 rw[e3]
 intro v H3 s3 v3
 refine q v H3 ((s1.trans s2).trans s3) (.inl ?_)
 exact VOk.rep (λb w=>((hw b w).grow (s1.trans s2)).ne) v3
noncomputable def rUn(g:G1)(fa:RF):RF:=λts=>(fa ts).bind λa=>(g a).bind λz=>.ok z.1
theorem axL{r:V->Hp->VK->Prop}{g:G1}(o:UnT K r g)(ha:QS K ta fa):QS K (tUn r ta) (rUn g fa):=λW σ H Q ts T hw h e q=>by
 unfold rUn at e
 obtain⟨a,e1,e⟩:=aaJ e
 obtain⟨z,e3,e⟩:=aaJ e
 cases e
 refine ha W σ H _ ts a hw h e1 λx H1 s1 r1=>?_
 refine o W x a H1 Q (λb w=>(hw b w).grow s1) r1 ?_
 rw[e3]
 intro v H3 s3 v3
 refine q v H3 (s1.trans s3) (.inl ?_)
 exact VOk.rep (λb w=>((hw b w).grow s1).ne) v3
end
noncomputable def slT(ρ : En)(j:Nat):Option Tr:=match ρ[j]? with
 |some (.sh T)=>some T
 |some (.ow ts)=>some (.lst ts)
 |some (.rf ts)=>some (.lst ts)
 |_=>none
noncomputable def anS(src:List (Option Nat))(ρ : En):List (Option Tr):=src.map λo=>o.bind (slT ρ)
noncomputable def au2:Tr->Option (Int × Int)
 |.int i=>some (i,0)
 |_=>none
noncomputable def akD(kt:Tr->Option (Int × Int))(fb:RF)(ts:List (Option Tr)):List Nat->Rs (List (Int × Int))
 | []=>.ok []
 |i::r=>(fb (some (Tr.int i)::ts)).bind λT=>match kt T with
  |some k=>(akD kt fb ts r).bind λks=>.ok (k::ks)
  |none=>.bad
theorem ajR{kt:Tr->Option (Int × Int)}{fb:RF}{ts:List (Option Tr)}:∀{l:List Nat} {ks:List (Int × Int)},akD kt fb ts l=.ok ks->ks.length=l.length/\∀(j i:Nat),l[j]?=some i->∃T k,fb (some (Tr.int i)::ts)=.ok T/\kt T=some k/\ks[j]?=some k
 | [],ks,h=>by cases h; exact⟨rfl,λj i z=>by simp at z⟩
 |a::l,ks,h=>by
  unfold akD at h
  obtain⟨T,e1,h⟩:=aaJ h
  split at h
  ·rename_i k e2
   obtain⟨ks',e3,h⟩:=aaJ h
   cases h
   obtain⟨h1,h2⟩:=ajR e3
   refine⟨by simp[h1],λj i z=>?_⟩
   cases j with
   |zero=>simp at z; subst z; exact⟨T,k,e1,e2,by simp⟩
   |succ j=>simpa using h2 j i (by simpa using z)
  ·cases h
noncomputable def alI(kt:Tr->Option (Int × Int))(src:List (Option Nat))(fa:AF)(fb:RF):EF:=λρ=>(fa ρ).bind λp=>match p.1 with
 | [.v (.int n) _]=>if 0<=n/\n<64 then(abS (akD kt fb (anS src p.2) (List.range n.toNat))).bind λks=>.ok (.v (.lst ((anP n.toNat λi=>ks.getD i (0,0)).map λi:Nat=>Tr.int i)) true,p.2)else .bad
 |_=>.bad
theorem aiU{K:PySem.W.Frag}{H:Hp}:∀l:List Nat,aa2 K H (l.map λi:Nat=>V.int i) (l.map λi:Nat=>Tr.int i)
 | []=>.nil
 |n::l=>.cons (.int n) (aiU l)
theorem au3{t:Tx}{W:Addr->Prop}{ρ : En}{σ : St}{H:Hp}{j:Nat}{U:Tr}(e:EOk t W ρ σ H)(h:slT ρ j=some U):∃v,σ[j]?=some (some v)/\Rp t.K W H v U:=by
 unfold slT at h
 split at h
 ·rename_i T q
  cases h
  obtain⟨v,h1,h2⟩:=e.sh j _ q
  exact⟨v,h1,.inl h2⟩
 ·rename_i ts q
  cases h
  obtain⟨a,xs,h1,_,_,h4,h5⟩:=e.ow j _ q
  exact⟨_,h1,.inr ⟨a,xs,ts,rfl,rfl,h4,h5⟩⟩
 ·rename_i ts q
  cases h
  obtain⟨a,xs,h1,_,_,h4,h5⟩:=e.rf j _ q
  exact⟨_,h1,.inr ⟨a,xs,ts,rfl,rfl,h4,h5⟩⟩
 ·cases h
theorem awN.smt{K:PySem.W.Frag}{P c:Addr}{x:Str}{H H':Hp}(tb:TbS K H)(hx:x∈abu)(ht:tabIn K x=some (c,P))(hu:∀x'∈abu,∀c',tabIn K x'=some (c',P)->x'=x)(l:awN P (aiI x) H H'):SmT K H H':=by
 refine⟨λb o q n=>l.kp b o q λz=>n ?_,λx' hx' c' b e=>?_⟩
 ·subst z
  exact⟨x,hx,c,ht⟩
 ·by_cases z:b=P
  ·subst z
   have:=hu x' hx' c' e
   subst this
   exact l.tb
  ·obtain⟨ps,q,t1,t2⟩:=tb x' hx' c' b e
   refine⟨ps,l.kp _ _ q z,t1,λpos v k=>?_⟩
   obtain⟨d,o,e1,e2,e3⟩:=t2 pos v k
   refine⟨d,o,e1,l.kp _ _ e2 ?_,e3⟩
   rintro rfl
   obtain⟨qs,y,_⟩:=tb x hx c d ht
   rw[y]at e2
   cases e2
theorem ap6{t:Tx}{Kw:KW}{kt:Tr->Option (Int × Int)}{c P:Addr}{x:Str}{src:List (Option Nat)}{ta:TA}{fa:AF}{te:TE}{fb:RF}(hx:x∈abu)(ht:tabIn t.K x=some (c,P))(hu:∀x'∈abu,∀c',tabIn t.K x'=some (c',P)->x'=x)
  (hkt:∀(W:Addr->Prop) (H:Hp) v T k,Rp t.K W H v T->kt T=some k->Kw H v k) (ha:SA t ta fa) (hb:QS t.K te fb):SE t (anO Kw P (aiI x) src ta te) (alI kt src fa fb):=λW ρ σ H Q e h=>by
 refine ha W ρ σ H _ e (Rs.aam (Rs.aaf h) λp h vs H1 e1 s1 v1=>?_)
 obtain⟨rs,ρ1⟩:=p
 dsimp only at h e1 v1
 split at h
 case h_2=>exact h.elim
 rename_i n fr
 split at h
 case isFalse=>exact h.elim
 rename_i hn
 have ev:vs=[.int n]:=by
  cases v1 with
  |cons h1 r1 =>
   cases r1
   cases fr with
   |false =>
    have h1:Rep _ _ _ (Tr.int n):=h1
    cases h1
    rfl
   |true =>
    obtain⟨_,_,_,_,z,_⟩:=h1
    cases z
 obtain⟨ks,k1,h⟩:=abZ (Rs.aaf h) (alD _)
 have un:∀{α : Type} {x:Rs α} {a : α},abS x=.ok a->x=.ok a:=λ{α x a} z=>by cases x <;> first|exact z|cases z
 obtain⟨kl,kg⟩:=ajR (un k1)
 have nn:((n.toNat:Nat):Int)=n:=by omega
 refine⟨n.toNat,λi=>ks.getD i (0,0),by rw[ev,nn],by omega,e1.tab.ok x hx c P ht,λH2 lh=>?_⟩
 obtain⟨e2,s2⟩:=e1.arU (lh.smt e1.tab.ok hx ht hu)
 refine⟨λi hi H3 s3=>?_,λD ys H3 s3 nD hs=>?_⟩
 ·obtain⟨T,k,f1,f2,f3⟩:=kg i i (List.getElem?_range hi)
  have e3:=e2.grow s3
  refine hb W _ H3 _ _ T e3.wl (λj U z=>?_) f1 λv H4 s4 r4=>⟨hkt W H4 v T _ r4 ?_,s4⟩
  ·cases j with
   |zero=>simp at z; subst z; exact⟨.int i,by simp,.inl (.int i)⟩
   |succ j =>
    have z:(anS src ρ1)[j]?=some (some U):=z
    unfold anS at z
    rw[List.getElem?_map]at z
    cases eq:src[j]? with
    |none=>rw[eq]at z; cases z
    |some o =>
     rw[eq]at z
     have z:o.bind (slT ρ1)=some U:=Option.some.inj z
     cases o with
     |none=>cases z
     |some l =>
      obtain⟨v,h1,h2⟩:=au3 e3 (show slT ρ1 l=some U from z)
      refine⟨v,?_,h2⟩
      show(afr src σ)[j]?=some (some v)
      rw[aiP eq,h1]
      rfl
  ·rw[f2]
   show some k=some (ks.getD i (0,0))
   rw[List.getD_eq_getElem?_getD,f3]
   rfl
 ·have e3:=e2.grow s3
  have hs':=hs.eq
  have st:Stp W H1 H3:=s2.trans (Stp.of s3)
  refine h (.ref D) _ (e3.grow (aaQ nD _)) ((s1.trans st).trans (Stp.of (aaQ nD _))) (VOE.back (H:=H3) (VOE.of (σ' := σ) e3 (aaQ nD _) (VOk.new nD ?_)) λb q=>(s1.trans st).dom b q)
  rw[hs']
  exact aiU _
theorem au4(K:PySem.W.Frag)(W:Addr->Prop)(H:Hp)(v:V)(T:Tr)(k:Int × Int)(r:Rp K W H v T)(e:au2 T=some k):kwI H v k:=by
 unfold au2 at e
 split at e
 ·cases e
  exact⟨r.int,rfl⟩
 ·cases e
end L2
end
section
namespace L2
open PySem PySem.Spec PyProof.Rows PySem.W
noncomputable def AtL(K:PySem.W.Frag)(mg:Str->Option Value)(x:Str)(st:Stmt)(c:Addr):Prop:=∃f fd,Fun K x x st f fd/\mg x=some (.ref f)/\fd.code=.ref c
section
variable {P:Program}{w:World}{K:PySem.W.Frag}{mg:Str->Option Value}{base:Heap}
theorem AtL.azQ{c:Addr}{k:Nat}{x:Str}{st:Stmt}{N ps:List Str}{sp:Sp}(a:AtL K mg x st c)(S:aaz N ps (aal st))
  (hb:∀(kV doc pm:Value) (an:Option Addr) (cdv ct:Value) (us:List Value),us.length=ps.length->bindArgs (fnOf x x (adB st) (ab4 st) (aal st) .none kV doc pm an cdv ct) ⟨us,[]⟩=pure (ps.zip us))
  (len:∀vs H Q E,sp vs H Q E->vs.length=ps.length)
  (hbody:∀(f:Addr) (A:Around) (outer:List Env) (s:Shared) (H:Hp) (vs:List V) (Q:VK) (E:XK),agj k (A.deeper (envOfC x (aal st) s.heap.objs.size f (.ref c)))->sp vs H Q E ->
   ∃t,PSs (aln (CXF P w) P w K mg base N x (aal st) f (.ref c) A outer s H E) (ab4 st) t/\t {nx:=λ_ H'=>Q .non H',rt:=Q } (start N vs) H):DfX P w K mg base (k+1) x ps sp:=by
 obtain⟨f,fd,F,m,hc⟩:=a
 refine⟨f,fd,?_,F.binds hb,F.kp,m⟩
 obtain⟨oc,od,kV,doc,pm,an,cdv,ct,osl,rfl,lk,hcd⟩:=F.ex
 have hc:cdv=.ref c:=hc
 subst hc
 exact atL lk hcd S len λA outer s H vs Q E hr h=>hbody f A outer s H vs Q E hr h
theorem AtL.azR{c:Addr}{k:Nat}{x:Str}{st:Stmt}{N ps:List Str}{cl:Str->Addr}{b:SF}(a:AtL K mg x st c)(S:aaz N ps (aal st))(hn:ps.length<=N.length)
  (hb:∀(kV doc pm:Value) (an:Option Addr) (cdv ct:Value) (us:List Value),us.length=ps.length->bindArgs (PySem.W.fnOf x x (adB st) (ab4 st) (aal st) .none kV doc pm an cdv ct) ⟨us,[]⟩=pure (ps.zip us))
  (hbody:∀(f:Addr) (A:Around) (outer:List Env) (s:Shared) (H:Hp) (E:XK),agj k (A.deeper (envOfC x (aal st) s.heap.objs.size f (.ref c))) ->
   ∃ts,PSs (aln (CXF P w) P w K mg base N x (aal st) f (.ref c) A outer s H E) (ab4 st) ts/\∀t:Tx,t.K=nlK K->(∀c H',F0 t H'->t.EX c->E (.ref (cl c)) none H')->SS t ts b) :
  DfX P w K mg base (k+1) x ps (spP K cl ps.length (fnP N.length b)):=by
 refine a.azQ S hb (λvs H Q E h=>?_) (λf A outer s H vs Q E hr h=>?_)
 ·obtain⟨_,_,h,_⟩:=h; exact h
 obtain⟨Z,as,hl,r,zl,tb,h⟩:=h
 obtain⟨ts,h1,h2⟩:=hbody f A outer s H E hr
 refine⟨ts,h1,?_⟩
 have sm:∀(b:Addr) (W:Addr->Prop) ρ σ H',EOk ⟨nlK K,Z,Tb (nlK K),H,λ_=>none,λc=>∀H',SmT (nlK K) H H'->E (.ref (cl c)) none H'⟩ W ρ σ H'->SmT (nlK K) H H':=λ_ W ρ σ H' e=>⟨λb o q n=>e.f0 b o q n,e.tab.ok⟩
 have r:=r.agx (agP tb)
 refine h2 ⟨nlK K,Z,Tb (nlK K),H,λ_=>none,λc=>∀H',SmT (nlK K) H H'->E (.ref (cl c)) none H'⟩ rfl (λc H' f0 q=>q H' ⟨λb o z n=>f0.1 b o z n,f0.2⟩) (λb=>Z b\/Tb (nlK K) b) (aaD N.length as) (start N vs) H _ ?_ (Rs.aam (Rs.aaf h) λq h=>?_)
 ·have la:=r.length
  have alA:∀(i:Nat) (us:List Tr),(aaD N.length as)[i]?=some (.dp us)->False:=λi us q=>by
   rcases abN q with⟨u',q1,z⟩|z <;> cases z
  refine⟨λ_=>[],?_,λ_ z=>.inl z,λb z=>?_,λb z=>z.elim (zl b) (λz=>.inr (tb.tbl z)),λb o q _=>q,λb q=>q,λi u q=>?_,λi us q=>?_,λi us q=>?_,λi j c m1 m2=>?_,λb o z=>(by cases z),λ_ _ _ _=>rfl,λi us q=>(alA i us q).elim,λi _ us _ _ q=>(alA i us q).elim,λi _ us _ q=>(alA i us q).elim,λi us q=>(alA i us q).elim,⟨tb,λ_ z=>.inr z,λ_ z=>z,λ_ _=>rfl⟩⟩
  ·unfold aaD start
   simp only[List.length_append,List.length_map,List.length_replicate]
   omega
  ·exact(zl b z).ne
  ·rcases abN q with⟨u',q1,z⟩|z
   ·cases z
    obtain⟨v,e1,e2⟩:=r.apz q1
    exact⟨v,afz e1,e2⟩
   ·cases z
  ·rcases abN q with⟨u',q1,z⟩|z <;> cases z
  ·rcases abN q with⟨u',q1,z⟩|z <;> cases z
  ·obtain⟨us,q|q⟩:=m1 <;> rcases abN q with⟨u',q1,z⟩|z <;> cases z
 ·obtain⟨fl,ρ'⟩:=q
  cases fl with
  |nx=>exact λW' σ' H' e n=>h .non H' (sm 0 W' ρ' σ' H' e) .non
  |rt T fr =>
   refine λv W' σ' H' e n=>h v H' (sm 0 W' ρ' σ' H' e) ?_
   cases fr <;> exact n
  |bk=>exact h.elim
  |ct=>exact h.elim
end
noncomputable def au5(K:PySem.W.Frag)(x:Str):Option (Addr × Addr):=match K.lookup mainGlobals with
 |some o=>if o.cls == .type "list" then none else(match nsIn K mainGlobals x with
  | some (some (.ref f))=>(match K.lookup f with
   |some o=>if o.cls == .type "list" then none else(match o.data with
    | .func fd=>(match fd.code with
     | .ref c=>(match K.lookup c with
      |some o=>if o.cls == .type "list" then none else tabIn K x
      |_=>none)
     |_=>none)
    |_=>none)
   |_=>none)
  |_=>none)
 |_=>none
theorem aiV{o:Obj}(h:(o.cls == .type "list")=false):noL o=o:=by
 unfold noL
 rw[if_neg]
 rintro⟨z,_⟩
 rw[z]at h
 exact absurd h (by decide +kernel)
theorem asf{K:PySem.W.Frag}{x:Str}{o:Obj}(h:K.lookup mainGlobals=some o)(n:(o.cls == .type "list")=false):nsIn (nlK K) mainGlobals x=nsIn K mainGlobals x:=by
 have e:(nlK K).lookup mainGlobals=K.lookup mainGlobals:=by
  rw[aby,h]
  show some (noL o)=some o
  rw[aiV n]
 unfold nsIn
 rw[e]
theorem anT{K:PySem.W.Frag}{x:Str}{z:Addr × Addr}(h:au5 K x=some z):tabIn K x=some z/\tabIn (nlK K) x=some z:=by
 unfold au5 at h
 split at h
 ·rename_i o1 h1
  split at h
  ·cases h
  ·rename_i n1
   split at h
   ·rename_i f hf
    split at h
    ·rename_i o2 h2
     split at h
     ·cases h
     ·rename_i n2
      split at h
      ·rename_i fd hd
       split at h
       ·rename_i c hc
        split at h
        ·rename_i o3 h3
         split at h
         ·cases h
         ·rename_i n3
          refine⟨h,?_⟩
          rw[<-h]
          unfold tabIn
          rw[asf h1 (by simpa using n1),hf]
          dsimp only
          rw[aby,h2]
          dsimp only[Option.map]
          rw[aiV (by simpa using n2)]
          obtain⟨a1,a2,a3,a4⟩:=o2
          dsimp only at hd
          subst hd
          dsimp only
          rw[hc]
          dsimp only
          rw[aby,h3]
          dsimp only[Option.map]
          rw[aiV (by simpa using n3)]
        ·cases h
       ·cases h
      ·cases h
    ·cases h
   ·cases h
 ·cases h
theorem anU{o:Obj}{d:Data}(h:(noL o).data=d)(n:d ≠ .fields #[]):noL o=o:=by
 unfold noL at h ⊢
 split at h
 ·exact(n h.symm).elim
 ·rename_i q
  rw[if_neg q]
theorem alJ{K:PySem.W.Frag}{x:Str}{z:Addr × Addr}(h:tabIn (nlK K) x=some z):tabIn K x=some z:=by
 unfold tabIn at h
 split at h
 ·rename_i f hf
  have g1:nsIn K mainGlobals x=some (some (.ref f)):=by
   unfold nsIn at hf
   rw[aby]at hf
   cases e:K.lookup mainGlobals with
   |none=>rw[e]at hf; cases hf
   |some o =>
    rw[e]at hf
    unfold nsIn
    rw[e]
    have q:noL o=o:=by
     dsimp only[Option.map]at hf
     split at hf
     ·rename_i a b es ep c eq
      have eq:noL o=⟨a,b,.dict es ep,c⟩:=Option.some.inj eq
      exact anU (d:=.dict es ep) (by rw[eq]) (by intro z; cases z)
     ·cases hf
    dsimp only[Option.map]at hf
    rw[q]at hf
    exact hf
  split at h
  ·rename_i a b fd osl hfo
   have g2:K.lookup f=some ⟨a,b,.func fd,osl⟩:=by
    rw[aby]at hfo
    cases e:K.lookup f with
    |none=>rw[e]at hfo; cases hfo
    |some o =>
     rw[e]at hfo
     have eq:noL o=⟨a,b,.func fd,osl⟩:=Option.some.inj hfo
     rw[anU (d:=.func fd) (by rw[eq]) (by intro z; cases z)]at eq
     rw[eq]
   split at h
   ·rename_i c hc
    split at h
    ·rename_i a' b' vs azb hco
     split at h
     ·rename_i Pp hv
      cases h
      have g3:K.lookup c=some ⟨a',b',.fields vs,azb⟩:=by
       rw[aby]at hco
       cases e:K.lookup c with
       |none=>rw[e]at hco; cases hco
       |some o =>
        rw[e]at hco
        have eq:noL o=⟨a',b',.fields vs,azb⟩:=Option.some.inj hco
        rw[anU (d:=.fields vs) (by rw[eq]) (by intro z; injection z with z; subst z; simp at hv)]at eq
        rw[eq]
      unfold tabIn
      rw[g1]
      dsimp only
      rw[g2]
      dsimp only
      rw[hc]
      dsimp only
      rw[g3]
      dsimp only
      rw[hv]
     ·cases h
    ·cases h
   ·cases h
  ·cases h
 ·cases h
structure ap7(K:PySem.W.Frag)(mg:Str->Option Value)(base:Heap)(x:Str)(c P:Addr):Prop where
 nm:x∈abu
 hd:CodeHd base c P
 bm:ap1 mg base
 tab:tabIn (nlK K) x=some (c,P)
 un:∀x'∈abu,∀c',tabIn (nlK K) x'=some (c',P)->x'=x
theorem ash{t:Tx}{K:PySem.W.Frag}{mg:Str->Option Value}{base:Heap}{x:Str}{c P:Addr}{src:List (Option Nat)}{ta:TA}{fa:AF}{te:TE}{fb:RF}(L:ap7 K mg base x c P)(hK:t.K=nlK K)(ha:SA t ta fa)(hb:QS (nlK K) te fb):SE t (anO kwI P (aiI x) src ta te) (alI au2 src fa fb) :=
 ap6 (c:=c) L.nm (by rw[hK]; exact L.tab) (by rw[hK]; exact L.un) (au4 _) ha (by rw[hK]; exact hb)
theorem asi{K:PySem.W.Frag}{x:Str}{f c P:Addr}{o1:Obj}{oc:Value}{od:Option Addr}{fd:FuncData}{sl:Array (Option Value)}{cc:Value}{cd:Option Addr}{vs:Array Value}{cs:Array (Option Value)}(a:nsIn K mainGlobals x=some (some (.ref f)))(l1:K.lookup mainGlobals=some o1)(n1:(o1.cls == .type "list")=false)
  (l2:K.lookup f=some ⟨oc,od,.func fd,sl⟩) (n2:(oc == .type "list")=false) (hc:fd.code=.ref c) (l3:K.lookup c=some ⟨cc,cd,.fields vs,cs⟩) (n3:(cc == .type "list")=false) (hv:vs[11]?=some (.ref P)):au5 K x=some (c,P):=by
 unfold au5
 rw[l1]
 dsimp only
 rw[if_neg (by rw[n1]; exact Bool.false_ne_true),a]
 dsimp only
 rw[l2]
 dsimp only
 rw[if_neg (by rw[n2]; exact Bool.false_ne_true),hc]
 dsimp only
 rw[l3]
 dsimp only
 rw[if_neg (by rw[n3]; exact Bool.false_ne_true)]
 unfold tabIn
 rw[a]
 dsimp only
 rw[l2]
 dsimp only
 rw[hc]
 dsimp only
 rw[l3]
 dsimp only
 rw[hv]
theorem alK{K:PySem.W.Frag}{x:Str}(a:nsIn K mainGlobals x=some none):tabIn K x=none:=by
 unfold tabIn
 rw[a]
theorem ap8{K:PySem.W.Frag}{mg:Str->Option Value}{base:Heap}{x:Str}{c P:Addr}(nm:x∈abu)(hc:∀x∈abu,∀c b,tabIn K x=some (c,b)->CodeHd base c b)(bm:ap1 mg base)(q:au5 K x=some (c,P))(ho:∀x'∈abu,x'=x\/∀c',tabIn K x'≠some (c',P)):ap7 K mg base x c P :=
 ⟨nm,hc x nm c P (anT q).1,bm,(anT q).2,λx' hx' c' e=>(ho x' hx').elim id λz=>(z c' (alJ e)).elim⟩
end L2
end
section
namespace L2
open PySem PySem.Spec PyProof.Rows PySem.W
section
variable {X:Cx}
noncomputable def tLR(ta:TA):TE:=λσ H Q=>ta σ H λvs H1=>∃n:Nat,vs=[.int n]/\n<=1000/\∀D,H1 D=none->Q (.ref D) (upd H1 D (.lst ((List.range n).map λi:Nat=>V.int i)))
theorem alL{k:Nat}{e:Expr}{p p2 pos pos2:Pos}{ta:TA}(hr:agj k X.A)(h1:X.mg "list" = none) (h2:X.mg "range" = none) (ha:PA X [e] ta)
  (hg:X.env.kindOf "list" = some .globalImplicit:=by kernel_rfl) (hg2:X.env.kindOf "range" = some .globalImplicit:=by kernel_rfl) (hs:notStar e=true:=by kernel_rfl) :
  PE X (.Call (.Name "list" p) [.Call (.Name "range" p2) [e] [] pos2] [] pos) (tLR ta):=by
 refine⟨λpins s σ H Q I h=>?_⟩
 refine wpAny_Call_Name_kw (afq I hg h1 (by decide +kernel:bootBuiltins "list" = some (.type "list")) ?_ (by decide +kernel) (by kernel_rfl))
 refine PyProof.Rows.callWith_type1 (Calls.spliced_cons (wpAny_Call_Name_kw (afq I hg2 h2 boot_range (PyProof.Rows.callWith_type1 (thn (ha pos2 pins s σ H _ I h) λus s1 ⟨vs,H1,I1,r1,q1⟩=>?_) (aeD hs) rfl) (by decide +kernel) (by kernel_rfl)))) rfl rfl
 obtain⟨n,rfl,hn,q⟩:=q1
 obtain⟨u1,rfl,t1,rfl⟩:=vals1 r1
 refine call_range_1 ?_
 have I2:Inv X pins σ H1 {s1 with heap:=s1.heap.push {cls:=.type "range",data:=.fields #[.int 0 s1.toks,.int n t1,.int 1 (s1.toks+1)] },toks:=s1.toks+1+1 }:=I1.kept λb o e=>Heap.get?_push_of_some _ e
 refine Calls.spliced_nil ?_
 have sz1:Builtin.Range.rangeSize 0 (n:Int) 1=n:=by rw[rangeSize_one]; split <;> omega
 refine call_list_range hr.hd (Heap.get?_push_size _ rfl) (small_one (by omega) (by omega) (by omega) (by omega)) sz1 (by omega) λh' tk acc c keep hS hi=>?_
 have va:Vals ((List.range n).map λi:Nat=>V.int i) acc.toList:=by
  have go:∀(l:List Value) (m:Nat),(∀(j:Nat) v,l[j]?=some v->∃t,v=Value.int ((m+j:Nat):Int) t)->Vals ((List.range' m l.length).map λi:Nat=>V.int i) l:=λl=>by
   induction l with
   |nil=>intro m _; exact .nil
   |cons v r ih =>
    intro m hv
    refine .cons ?_ (ih (m+1) λj w hw=>?_)
    ·obtain⟨t,z⟩:=hv 0 v (by simp)
     exact⟨t,by simpa using z⟩
    ·obtain⟨t,z⟩:=hv (j+1) w (by simpa using hw)
     exact⟨t,by rw[z]; congr 1; omega⟩
  have:=go acc.toList 0 λj v hv=>by
   obtain⟨t,z⟩:=hi.2 j v (by rw[<-Array.getElem?_toList]; exact hv)
   exact⟨t,by rw[z]; simp⟩
  rw[Array.length_toList,hi.1,<-List.range_eq_range']at this
  exact this
 refine⟨.ref _,_,I2.laid (t':=tk) keep (Nat.le_refl _) (show afM X.prog X.w _ _ _ (.lst ((List.range n).map λi:Nat=>V.int i))from⟨by rw[List.length_map,List.length_range,sizeLine_eq]; omega,acc.toList,c,va,by rw[Array.toArray_toList]; exact hS⟩),rfl,q _ (I2.hok.fresh (Nat.le_refl _))⟩
end
noncomputable def eLR(fa:AF):EF:=λρ=>(fa ρ).bind λp=>match p.1 with
 | [.v (.int n) _]=>if 0<=n/\n<=1000 then .ok (.v (.lst ((List.range n.toNat).map λi:Nat=>Tr.int i)) true,p.2)else .bad
 |_=>.bad
theorem asj{K:PySem.W.Frag}{W:Addr->Prop}{σ : St}{H H':Hp}{vs:List V}{n:Int}{fr:Bool}(h:ag7 K W σ H H' vs [.v (.int n) fr]):vs=[.int n]:=by
 cases h with
 |cons h1 r1 =>
  cases r1
  cases fr with
  |false =>
   have h1:Rep _ _ _ (Tr.int n):=h1
   cases h1
   rfl
  |true =>
   obtain⟨_,_,_,_,z,_⟩:=h1
   cases z
theorem au6{t:Tx}{ta:TA}{fa:AF}(ha:SA t ta fa):SE t (tLR ta) (eLR fa):=λW ρ σ H Q e h=>by
 refine ha W ρ σ H _ e (Rs.aam (Rs.aaf h) λp h vs H1 e1 s1 v1=>?_)
 obtain⟨rs,ρ1⟩:=p
 dsimp only at h e1 v1
 split at h
 case h_2=>exact h.elim
 rename_i n fr
 split at h
 case isFalse=>exact h.elim
 rename_i hn
 have nn:((n.toNat:Nat):Int)=n:=by omega
 refine⟨n.toNat,by rw[asj v1,nn],by omega,λD nD=>?_⟩
 exact h (.ref D) _ (e1.grow (aaQ nD _)) (s1.trans (Stp.of (aaQ nD _))) (VOE.back (H:=H1) (VOE.of (σ' := σ) e1 (aaQ nD _) (VOk.new nD (aiU _))) λb q=>s1.dom b q)
end L2
end
section
namespace L2
open PySem PySem.Spec PyProof.Rows
section
variable {t:Tx}{K:PySem.W.Frag}
noncomputable def asl(F:FR)(fa:EF):EF:=λρ=>(fa ρ).bind λp=>match p.1 with
 |.v (.lst us) true=>(F [.lst us]).bind λz=>.ok (.v z.1.1 z.1.2,p.2)
 |_=>.bad
end
end L2
end
section
namespace L2
open PySem PySem.Spec PyProof.Rows
section
variable {X:Cx}
noncomputable def akE:V->List V->Hp->VK->Prop:=λx vs H Q=>∃(l:Addr) (xs:List V) (k:Nat) (y:V),x=.ref l/\vs=[.int (k:Int),y]/\H l=some (.lst xs)/\k<=xs.length/\xs.length<=100000/\Q .non (upd H l (.lst (xs.take k++y::xs.drop k)))
theorem anV:MtM X "list.insert" akE:=by
 intro pins s σ H x vs v us Q I rx rv h
 obtain⟨l,xs,k,y,rfl,rfl,hH,hk,hz,q⟩:=h
 cases rx
 cases rv with
 |cons r1 rv =>
 cases rv with
 |cons ru rv =>
 cases rv
 obtain⟨t,rfl⟩:=r1
 rename_i u
 obtain⟨z,its,n,r,hl,e⟩:=I.ay3 hH
 have big:100000+1<=sizeLine:=Nat.le_of_lt (show 100001<sizeLine from by unfold sizeLine; omega)
 have hs1:its.toArray.size<=sizeLine:=by rw[List.size_toArray]; omega
 have hk':(if(k:Int)<0 then((k:Int)+(its.toArray.size:Int)).toNat else min (k:Int).toNat its.toArray.size)=k:=by
  rw[if_neg (by omega),Int.toNat_natCast,List.size_toArray]
  omega
 have h1 : -(2 ^ 63)<=(k:Int):=by omega
 have h2:(k:Int)<2 ^ 63:=by omega
 have hfit:¬(!Builtin.List.listFitsIndex (k:Int))=true:=by rw[fitsIndex_both h1 h2]; exact Bool.false_ne_true
 have hlen:(xs.take k++y::xs.drop k).length<=sizeLine:=by
  rw[List.length_append,List.length_cons,List.length_take,List.length_drop]
  omega
 clear h1 h2 big
 generalize (k:Int)=i at *
 refine call_meets F.slot_list_insert ⟨_,e,rfl⟩ F.entry_list_insert (F.args_list_insert_3 _ _ _)
  (AutoSeq1.list_insert_list_int_val_1 l its.toArray n i t u hfit hs1) ⟨e,?_⟩
 refine⟨.non,_,I.ay2 (its':=its.take k++u::its.drop k) hH e ?_ (Vals.append (r.take _) (.cons ru (r.drop _))) hlen,rfl,q⟩
 show(its.toArray.extract 0 (if i<0 then(i+(its.toArray.size:Int)).toNat else min i.toNat its.toArray.size)).push u++its.toArray.extract (if i<0 then(i+(its.toArray.size:Int)).toNat else min i.toNat its.toArray.size)=_
 rw[hk']
 exact PySem.W.kl_ins_eq its k u
end
noncomputable def aqX:GM:=λts as=>match as with
 | [.int i,T]=>if 0<=i/\i.toNat<=ts.length/\ts.length<=100000 then .ok (ts.take i.toNat++T::ts.drop i.toNat,.non)else .bad
 |_=>.bad
theorem au7:MtT akE aqX:=λK G a xs ts vs as H Q ts' T hx r ra q h=>by
 unfold aqX at q
 split at q
 ·rename_i i U
  split at q
  ·rename_i c
   cases q
   cases ra with
   |cons h1 r1 =>
    cases r1 with
    |cons h2 r2 =>
     cases r2
     cases h1
     obtain⟨k,rfl⟩:∃k:Nat,(k:Int)=i:=⟨i.toNat,by omega⟩
     rw[Int.toNat_natCast]at c h
     exact⟨a,xs,k,_,rfl,rfl,hx,by rw[r.length]; exact c.2.1,by rw[r.length]; exact c.2.2,h _ _ ((r.take k).app (.cons h2 (r.drop k))) .non⟩
  ·cases q
 ·cases q
theorem asn(ts as:List Tr)(c:Str):aqX ts as ≠ .ex c:=by
 unfold aqX
 split <;> (try split) <;> (intro z; cases z)
theorem axM{t:Tx}{K:PySem.W.Frag}{te te2:TE}{f f2:EF}(i:Nat)(h:SE t te f)(h2:SE t te2 f2):SE t (tBM K "list" akE (am6 i) (afN te (afN te2 aqF))) (eMt i aqX (aae f (aae f2 aar))):=auz i au7 asn (aac h (aac h2 aaj))
noncomputable def fuL(i:Nat)(ρ : En):Nat:=match ρ[i]? with
 |some (.sh (.lst ts))=>ts.length+1
 |some (.ow ts)=>ts.length+1
 |some (.rf ts)=>ts.length+1
 |_=>0
end L2
end
section
namespace L2
open PySem PySem.Spec PyProof.Rows
section
variable {P:Program}{w:World}{K:PySem.W.Frag}
end
section
variable {X:Cx}
end
section
variable {t:Tx}
end
section
variable {X:Cx}
end
section
variable {K:PySem.W.Frag}
end
end L2
end
section
namespace L2
open PySem PySem.Spec PyProof.Rows
noncomputable def ain(src:List (Option Nat))(n:Nat)(g:GF)(c:BF)(f:EF):EF:=λρ=>(con ρ n).bind λus=>if us.length<=100000 then(abS (ad2 g c f us (abX src ρ))).bind λz=>if ab3 src z.2 ρ = true then .ok (.v (.lst z.1) true,abv src z.2 ρ)else .bad else .bad
theorem anW{t:Tx}{K:PySem.W.Frag}(hK:t.K=nlK K){g:TG}{src:List (Option Nat)}{tc:TT}{te:TE}{gf:GF}{c:BF}{f:EF}{js:List Nat}(n:Nat)(hn:∀k:Nat,src[k]? ≠ some (some n))(I:Inj src)(hj:∀k j:Nat,src[k]?=some (some j)->k∉js)(ng:∀T ρ c,gf T ρ ≠ .ex c)
  (hg:∀t':Tx,t'.K=t.K->(∀c,¬t'.EX c)->SG t' g gf js) (hc:∀t':Tx,t'.K=t.K->(∀c,¬t'.EX c)->ST t' tc c) (he:∀t':Tx,t'.K=t.K->(∀c,¬t'.EX c)->SE t' te f):SE t (ahf (iSq K (am6 n)) g src tc te) (ain src n gf c f):=λW ρ σ H Q e h=>by
 obtain⟨us,kc,h⟩:=abZ (Rs.aaf h) (afV _ _)
 obtain⟨mu,a,ys,hσ,wa,ha,ra,_⟩:=e.con kc
 refine .inl ⟨.ref a,hσ,a,rfl,⟨ys,SqL.of ha⟩,?_⟩
 split at h
 case isFalse=>exact h.elim
 rename_i hlen
 intro D hD
 have h:=afA (Rs.aaf h)
 obtain⟨F,eF⟩:=id e
 have wD:∀b,W b->b≠D:=λb w z=>by subst z; exact e.wn b w hD
 have h0D:t.H0 D=none:=e.n0 D hD
 refine⟨λi m τ H'=>m=us.length-i/\i<=us.length/\∃ρ' xs acc,EOk (tB' t src ρ σ F H D xs) (λb=>W b\/b=D) ρ' τ H'/\aa2 t.K (aa7 (λb=>W b\/b=D) H') xs acc/\xs.length<=i/\(∀b o,¬W b->H b=some o->H' b=some o)/\(∀k,k∉js -> τ[k]?=(afr src σ)[k]?) /\
   (ad2 gf c f (us.drop i) ρ').post (λ_=>False) (λz=>(if ab3 src z.2 ρ = true then .ok (.v (.lst (acc++z.1)) true,abv src z.2 ρ)else .bad:Rs (Rv × En)).post t.EX (λp=>∀v H',EOk t W p.2 σ H'->Stp W H H'->VOE t W p.2 σ H H' v p.1->Q v H')),?_,?_⟩
 ·refine⟨us.length,by simp,Nat.zero_le _,abX src ρ,[],[],eF.enter I hD,.nil,Nat.le_refl _,λb o _ q=>?_,λ_ _=>rfl,?_⟩
  ·rw[aaG (aaW q hD)]; exact q
  ·rw[List.drop_zero]; exact h
 ·rintro i m τ H2 ⟨rfl,hi,ρ2,xs,acc,e2,r2,l2,n2,a2,h2⟩
  have sm:Same (aa7 W H) (aa7 (λb=>W b\/b=D) H2):=λb o q=>by
   obtain⟨nw,q⟩:=abl q
   rw[aaZ]
   ·exact n2 b o nw q
   ·rintro(z|rfl)
    ·exact nw z
    ·rw[hD]at q; cases q
  have nD0:a≠D:=wD a wa
  have h2a:H2 a=some (.lst ys):=e2.pn a _ ((aqR nD0 (.inl ⟨n,mu,hσ,hn⟩)).trans ha)
  have q':SqL K H2 a ys:=SqL.of h2a
  have q:(i=us.length->(Itl K a).stop i H2)/\∀u,us[i]?=some u->(Itl K a).go i H2/\∀x H'',(Itl K a).yld i H2 x H''->Same H2 H''/\Rep t.K (aa7 (λb=>W b\/b=D) H'') x u:=by
   refine⟨λz=>⟨ys,q',by rw[ra.length]; omega⟩,λu hu=>?_⟩
   obtain⟨x,hx,rx⟩:=ra.apz hu
   refine⟨⟨ys,x,q',hx⟩,λy H'' yl=>?_⟩
   obtain⟨rfl,z⟩:=yl
   have:=z ys q'
   rw[hx]at this
   cases this
   exact⟨Same.refl _,rx.mono sm⟩
  by_cases hlt:i<us.length
  ·rw[List.drop_eq_getElem_cons hlt]at h2
   obtain⟨go,y⟩:=q.2 us[i] (by simp[hlt])
   refine .inr ⟨go,λx H3 yl=>?_⟩
   obtain⟨s3,r3⟩:=y x H3 yl
   have e3:=e2.grow s3
   refine hg (tB' t src ρ σ F H D xs) rfl (λ_=>id) _ ρ2 τ H3 x us[i] _ e3 r3 (Rs.aam (aki (Rs.aaf h2) (ng _ _)) λρ4 h σ4 e4 a4=>?_)
   refine hc (tB' t src ρ σ F H D xs) rfl (λ_=>id) _ ρ4 σ4 H3 _ e4 (Rs.aam (Rs.aaf h) λb h H5 e5 s5=>?_)
   have st5:Stp (λb=>W b\/b=D) H2 H5:=(Stp.of s3).trans s5
   have n5:∀b o,¬W b->H b=some o->H5 b=some o:=λb o nw qb=>by
    have nD:b≠D:=aaW qb hD
    refine st5.keep b o ?_ (n2 b o nw qb)
    rintro(z|z)
    ·exact nw z
    ·exact nD z
   have a5:∀k,k∉js -> σ4[k]?=(afr src σ)[k]? := λk nk=>(a4 k nk).trans (a2 k nk)
   split at h
   ·rename_i cb
    rw[if_pos cb]
    refine he (tB' t src ρ σ F H D xs) rfl (λ_=>id) _ b.2 σ4 H5 _ e5 (Rs.aam (Rs.aaf h) λp h v H6 e6 s6 v6=>?_)
    obtain⟨T,kT,h⟩:=abZ (Rs.aaf h) (anE _)
    have rv:Rep t.K (aa7 (λb=>W b\/b=D) H6) v T:=by
     obtain⟨r,ρ7⟩:=p
     cases r with
     |s i=>cases kT
     |v U fr =>
      cases kT
      exact VOk.rep (K:=t.K) e5.wn v6.1
    refine⟨xs,e6.pn D _ B_D,Nat.lt_of_le_of_lt (show xs.length<=100000 by omega) (by decide),us.length-(i+1),by omega,rfl,hlt,p.2,xs++[v],acc++[T],e6.auB (.inr rfl) h0D,?_,by rw[List.length_append]; simp; omega,λb o nw q=>?_,a5,?_⟩
    ·rw[adi (.inr rfl)]
     exact(r2.mono (st5.trans s6).off).app (.cons rv .nil)
    ·have nD:b≠D:=aaW q hD
     rw[aaG nD]
     refine s6.keep b o ?_ (n5 b o nw q)
     rintro(z|z)
     ·exact nw z
     ·exact nD z
    ·refine Rs.aam (Rs.aaf h) λz h=>?_
     rw[List.append_assoc]
     exact h
   ·rename_i cb
    rw[if_neg cb]
    exact⟨us.length-(i+1),by omega,rfl,hlt,b.2,xs,acc,e5,r2.mono st5.off,by omega,n5,a5,h⟩
  ·have z:i=us.length:=by omega
   subst z
   rw[List.drop_length]at h2
   have h2:(if ab3 src ρ2 ρ = true then .ok (.v (.lst (acc++[])) true,abv src ρ2 ρ)else .bad:Rs (Rv × En)).post t.EX _:=h2
   refine .inl ⟨q.1 rfl,?_⟩
   split at h2
   ·rename_i so
    rw[List.append_nil]at h2
    have hxs:H2 D=some (.lst xs):=e2.pn D _ B_D
    have eW:EOk t W (abv src ρ2 ρ) σ H2:=⟨F,eF.leave (Wx:=W) I hD e2 n2 hj a2 so (λ_ w=>w) λ_ w=>.inl w⟩
    have eD:EOh t W D (abv src ρ2 ρ) σ H2:=⟨F,eF.leave (Wx:=λb=>W b\/b=D) I hD e2 n2 hj a2 so (λ_ w=>.inl w) λ_ w=>w,λi ts hi z=>by
     obtain⟨c,ys,_,bs,_,_,ww,_⟩:=eF.dp i ts (akv I hi)
     exact wD D (ww D z).1 rfl⟩
    have st:Stp W H H2:=⟨n2,λb q=>by
     cases z:H b with
     |none=>rfl
     |some o =>
      by_cases w:W b
      ·exact((e2.wl b (.inl w)).ne q).elim
      ·rw[n2 b o w z]at q
       cases q⟩
    refine h2 (.ref D) H2 eW st ⟨⟨D,xs,acc,rfl,rfl,hD,hxs,r2.mono λb o q=>?_⟩,λU a _ ea=>?_⟩
    ·obtain⟨nb,q⟩:=abl q
     rw[off_ne λz=>nb (.inr z),aaZ λz=>nb (.inl z)]
     exact q
    ·cases ea
     exact eD
   ·exact h2.elim
theorem au8{src:List (Option Nat)}{n:Nat}(h:src.all (λo=>o != some n)=true):∀k:Nat,src[k]? ≠ some (some n):=λk e=>by
 have:=List.all_eq_true.mp h _ (List.mem_of_getElem? e)
 simp at this
end L2
end
section
namespace L2
open PySem PySem.Spec PyProof.Rows PySem.W
noncomputable def alM:List Str := "HeadError" :: acJ
noncomputable def isub(c d:Str):Bool:=c == d || d == ("HeadError" : Str)
noncomputable def au9:List Ty:=[.int,.bool,.str,.tuple,.list]
noncomputable def ap9(K:Frag)(cs:List Str)(p:Str->Addr->Bool):Bool:=cs.all λc=>match nsIn K mainGlobals c with
 |some (some (.ref C))=>p c C
 |_=>true
theorem aiW{K:Frag}{cs:List Str}{p:Str->Addr->Bool}(h:ap9 K cs p=true){c:Str}(m:c∈cs){C:Addr}(n:nsIn K mainGlobals c=some (some (.ref C))):p c C=true:=by
 have:=List.all_eq_true.mp h c m
 rw[n]at this
 exact this
noncomputable def axN(K:Frag)(C:Addr):Bool:=findIn K (.ref C) "__getattribute__" == some (some (.builtin "BaseException.__getattribute__"))&&findIn K (.ref C) "__getattr__" == some none&&findIn K (.ref C) "__class__" == some (some (.builtin "object.__class__"))&&mroIn K C (.type "object") == some true&&mroIn K C (.type "BaseException") == some true&&(clsIn K C).isSome
theorem aso{K:Frag}{C:Addr}(h:axN K C=true):ao7 K C:=by
 unfold axN at h
 simp only[Bool.and_eq_true]at h
 obtain⟨⟨⟨⟨⟨h1,h2⟩,h3⟩,h4⟩,h5⟩,h6⟩:=h
 exact⟨beq_iff_eq.mp h1,beq_iff_eq.mp h2,beq_iff_eq.mp h3,beq_iff_eq.mp h4,beq_iff_eq.mp h5,h6⟩
noncomputable def ava(K:Frag):Bool :=
 ap9 K acJ (λ_ C=>axN K C&&au9.all (λy=>kitOne K (.ref C) (.type y.name) == some false)&&kitOne K (.ref C) (.type "ValueError") == some true) &&
 ap9 K alM (λd D=>kitOne K (.type "NoneType") (.ref D) == some false&&ap9 K acJ (λc C=>kitOne K (.ref C) (.ref D) == some (isub c d)&&(!(d == ("HeadError" : Str)) || exmOne K (.ref C) (.ref D) == some true))) &&
 kitOne K (.type "NoneType") (.type "ValueError") == some false&&(match K.lookup mainGlobals with
  |some o=>o.cls != .type "list"
  |none=>true)
structure apa(K:Frag):Prop where
 o:XOk K
 n:∀d∈alM,∀D,nsIn K mainGlobals d=some (some (.ref D))->kitOne K (.type "NoneType") (.ref D)=some false
 k:∀d∈alM,∀D,nsIn K mainGlobals d=some (some (.ref D))->∀c∈acJ,∀C,nsIn K mainGlobals c=some (some (.ref C))->kitOne K (.ref C) (.ref D)=some (isub c d)
 v:∀c∈acJ,∀C,nsIn K mainGlobals c=some (some (.ref C))->kitOne K (.ref C) (.type "ValueError")=some true
 vn:kitOne K (.type "NoneType") (.type "ValueError")=some false
 h:∀D,nsIn K mainGlobals "HeadError" = some (some (.ref D))->∀c∈acJ,∀C,nsIn K mainGlobals c=some (some (.ref C))->exmOne K (.ref C) (.ref D)=some true
 x:∀c∈acJ,∀C,nsIn K mainGlobals c=some (some (.ref C))->ao7 K C
 mc:∀o,K.lookup mainGlobals=some o->o.cls ≠ .type "list"
theorem apa.of{K:Frag}(h:ava K=true):apa K:=by
 unfold ava at h
 simp only[Bool.and_eq_true]at h
 obtain⟨⟨⟨h1,h2⟩,h3⟩,h4⟩:=h
 have a1:∀c∈acJ,∀C,nsIn K mainGlobals c=some (some (.ref C))->ao7 K C/\(∀y:Ty,kitOne K (.ref C) (.type y.name)=some false)/\kitOne K (.ref C) (.type "ValueError")=some true:=λc m C n=>by
  have:=aiW h1 m n
  simp only[Bool.and_eq_true]at this
  obtain⟨⟨x1,x2⟩,x3⟩:=this
  refine⟨aso x1,λy=>?_,beq_iff_eq.mp x3⟩
  have:=List.all_eq_true.mp x2 y (by cases y <;> simp[au9])
  exact beq_iff_eq.mp this
 have a2:∀d∈alM,∀D,nsIn K mainGlobals d=some (some (.ref D))→kitOne K (.type "NoneType") (.ref D)=some false∧∀c∈acJ,∀C,nsIn K mainGlobals c=some (some (.ref C))→kitOne K (.ref C) (.ref D)=some (isub c d)∧(d = "HeadError" → exmOne K (.ref C) (.ref D)=some true):=λd m D n=>by
  have:=aiW h2 m n
  rw[Bool.and_eq_true]at this
  refine⟨beq_iff_eq.mp this.1,λc mc C nc=>?_⟩
  have:=aiW this.2 mc nc
  rw[Bool.and_eq_true]at this
  refine⟨beq_iff_eq.mp this.1,λe=>?_⟩
  have z:=this.2
  rw[Bool.or_eq_true]at z
  rcases z with z|z
  ·rw[e]at z; cases z
  ·exact beq_iff_eq.mp z
 refine⟨λc m C n=>⟨λa=>apw (a1 c m C n).1,(a1 c m C n).2.1⟩,λd m D n=>(a2 d m D n).1,λd m D n c mc C nc=>((a2 d m D n).2 c mc C nc).1,λc m C n=>(a1 c m C n).2.2,beq_iff_eq.mp h3,λD n c mc C nc=>((a2 "HeadError" (List.mem_cons_self ..) D n).2 c mc C nc).2 rfl,λc m C n=>(a1 c m C n).1,λo e=>?_⟩
 rw[e]at h4
 simpa using h4
noncomputable def isc:Tr->Str->Option Bool
 |.exn c,d=>some (isub c d)
 |.non,_=>some false
 |_,_=>none
noncomputable def isv:Tr->Option Bool
 |.exn _=>some true
 |.non=>some false
 |_=>none
section
variable {X:Cx}
variable {e:Expr}{te:TE}{x:Str}{p q pos:Pos}
end
section
variable {t:Tx}{K:Frag}
noncomputable def azS(d:Str)(fa:EF):EF:=λρ=>(fa ρ).bind λp=>(dr p.2 p.1).bind λa=>match isc a d with
 |some b=>.ok (eB b,p.2)
 |none=>.bad
noncomputable def azT(fa:EF):EF:=λρ=>(fa ρ).bind λp=>(dr p.2 p.1).bind λa=>match isv a with
 |some b=>.ok (eB b,p.2)
 |none=>.bad
noncomputable def Pr{α : Type}(f:En->Rs (α × En)):Prop:=∀ρ,(∀p,f ρ=.ok p->p.2 = ρ)/\∀c,f ρ ≠ .ex c
end
section
variable {X:Cx}{e:Expr}{te:TEX}{pos:Pos}
end
end L2
end
section
namespace BH
open PySem L2
noncomputable def agy:SF:=(aaI (acU (adf (fuI 1) (abk (eOp gNe (aah 1) (eC (.int 0)))) (ati 0 1 (aae (aah 1) (aae (eOp acK (aah 0) (aah 1)) aar))))) (abm (eCB (g1 adE) (aae (aah 0) aar))))
noncomputable def aa3:FP:=fnP 2 agy
noncomputable def afD:SF:=(aaI (sIf (abk (eOp gEq (aah 1) (eC (.int 0)))) (aik "NoBottom" (eC (.str "a fraction has no bottom of 0"))) adZ) (aaI (abM (aas aa3 (aae (aah 0) (aae (aah 1) aar))) (gN 2)) (aaI (sIf (abk (eOp gLt (aah 1) (eC (.int 0)))) (abM (eUn anv (aah 2)) (gN 2)) adZ) (abm (akg (aae (eOp acQ (aah 0) (aah 2)) (aae (eOp acQ (aah 1) (aah 2)) aar)))))))
noncomputable def abW:FP:=fnP 3 afD
noncomputable def aio:SF:=(abm (aas abW (aae (eOp abf (eOp ab2 (eOp gIx (aah 0) (eC (.int 0))) (eOp gIx (aah 1) (eC (.int 1)))) (eOp ab2 (eOp gIx (aah 1) (eC (.int 0))) (eOp gIx (aah 0) (eC (.int 1))))) (aae (eOp ab2 (eOp gIx (aah 0) (eC (.int 1))) (eOp gIx (aah 1) (eC (.int 1)))) aar))))
noncomputable def adx:FP:=fnP 2 aio
noncomputable def ago:SF:=(abm (aas abW (aae (eOp ab2 (eOp gIx (aah 0) (eC (.int 0))) (eOp gIx (aah 1) (eC (.int 0)))) (aae (eOp ab2 (eOp gIx (aah 0) (eC (.int 1))) (eOp gIx (aah 1) (eC (.int 1)))) aar))))
noncomputable def abD:FP:=fnP 2 ago
noncomputable def agp:SF:=(abm (eOp gLt (eOp ab2 (eOp gIx (aah 0) (eC (.int 0))) (eOp gIx (aah 1) (eC (.int 1)))) (eOp ab2 (eOp gIx (aah 1) (eC (.int 0))) (eOp gIx (aah 0) (eC (.int 1))))))
noncomputable def abT:FP:=fnP 2 agp
noncomputable def aml:SF:=(abm (ao8 (amZ .int (aah 0)) (axk (amZ .bool (aah 0)))))
noncomputable def acd:FP:=fnP 1 aml
noncomputable def afE:SF:=(aaI (sIf (bOr (aie (afS (amZ .tuple (aah 0)))) (abk (eOp gNe (eCB (g1 abg) (aae (aah 0) aar)) (eC (.int 2))))) (abm (eC (.bl false))) adZ) (aaI (abM (aah 0) (gT 2 (aaV (gN 1) (aaV (gN 2) ac6)))) (aaI (sIf (bOr (aie (afS (aas acd (aae (aah 1) aar)))) (aie (afS (aas acd (aae (aah 2) aar))))) (abm (eC (.bl false))) adZ) (abm (ao8 (eOp gGe (aah 2) (eC (.int 1))) (eOp gEq (aas aa3 (aae (aah 1) (aae (aah 2) aar))) (eC (.int 1))))))))
noncomputable def abE:FP:=fnP 3 afE
noncomputable def aip:SF:=(abm (ao8 (aas abE (aae (aah 0) aar)) (agn gLe gLe (eC (.int 0)) (eOp gIx (aah 0) (eC (.int 0))) (eOp gIx (aah 0) (eC (.int 1))))))
noncomputable def ace:FP:=fnP 1 aip
noncomputable def agq:SF:=(aaI (sIf (bOr (aie (afS (amZ .list (aah 0)))) (aie (abk (agn gLe gLe (eC (.int 1)) (eCB (g1 abg) (aae (aah 0) aar)) (aah 1))))) (abm (eC (.bl false))) adZ) (abm (eCB (g1 acC) (aae (abb [none] (fSq (aah 0)) (gN 0) ad3 (aas ace (aae (aah 0) aar))) aar))))
noncomputable def ab6:FP:=fnP 2 agq
noncomputable def ajS:SF:=(aaI (sIf (bOr (aie (afS (amZ .list (aah 0)))) (aie (abk (agn gLe gLe (eC (.int 1)) (eCB (g1 abg) (aae (aah 0) aar)) (eC (.int 4)))))) (abm (eC (.bl false))) adZ) (aaI (sIf (aie (afS (eCB (g1 acC) (aae (abb [none] (fSq (aah 0)) (gN 0) ad3 (aas ab6 (aae (aah 0) (aae (eC (.int 12)) aar)))) aar)))) (abm (eC (.bl false))) adZ) (abm (eCB (g1 acC) (aae (abb [none,some 0] (fSq (aah 0)) (gN 0) ad3 (eOp gEq (eCB (g1 abg) (aae (aah 0) aar)) (eCB (g1 abg) (aae (eOp gIx (aah 1) (eC (.int 0))) aar)))) aar)))))
noncomputable def aeI:FP:=fnP 1 ajS
noncomputable def aho:SF:=(aaI (abM (eC (.int 1)) (gN 1)) (aaI (acU (ad0 (fSq (aah 0)) (gT 2 (aaV (gN 2) (aaV (gN 3) ac6))) (abM (eOp acQ (eOp ab2 (aah 1) (aah 3)) (aas aa3 (aae (aah 1) (aae (aah 3) aar)))) (gN 1)))) (abm (aah 1))))
noncomputable def ab7:FP:=fnP 4 aho
noncomputable def ae3:SF:=(aaI (abM (aas ab7 (aae (aah 0) aar)) (gN 1)) (abm (abb [none,none,some 1] (fSq (aah 0)) (gT 2 (aaV (gN 0) (aaV (gN 1) ac6))) ad3 (eOp ab2 (aah 0) (eOp acQ (aah 2) (aah 1))))))
noncomputable def abO:FP:=fnP 2 ae3
noncomputable def aez:SF:=(aaI (abM (aas abO (aae (aah 0) aar)) (gN 1)) (abm (alI au2 [some 1] (aae (eCB (g1 abg) (aae (aah 1) aar)) aar) (rUn anv (rOp gIx (ap5 1) (ap5 0))))))
noncomputable def aaO:FP:=fnP 2 aez
noncomputable def ahp:SF:=(sIf (aie (afS (aas aeI (aae (aah 0) aar)))) (aik "NoBook" (eC (.str "this is no book"))) adZ)
noncomputable def abH:FP:=fnP 1 ahp
noncomputable def aiX:SF:=(aaI (sIf (bOr (aie (afS (amZ .list (aah 0)))) (abk (eOp gNe (eCB (g1 abg) (aae (aah 0) aar)) (aah 1)))) (abm (eC (.bl false))) adZ) (abm (eCB (g1 acC) (aae (abb [none] (fSq (aah 0)) (gN 0) ad3 (ao8 (aas abE (aae (aah 0) aar)) (eOp gGe (eOp gIx (aah 0) (eC (.int 0))) (eC (.int 0))))) aar))))
noncomputable def adn:FP:=fnP 2 aiX
noncomputable def aeJ:SF:=(aaI (sIf (aie (afS (amZ .tuple (aah 0)))) (abm (eC (.bl false))) adZ) (aaI (sIf (abk (eOp gNe (eCB (g1 abg) (aae (aah 0) aar)) (eC (.int 2)))) (abm (eOp (gIn id) (aah 0) (eC (.tup [(.tup [(.str "least")]),(.tup [(.str "greatest")]),(.tup [(.str "product")])])))) adZ) (aaI (abM (aah 0) (gT 2 (aaV (gN 2) (aaV (gN 3) ac6)))) (aaI (sIf (abk (eOp gEq (aah 2) (eC (.str "shares")))) (abm (aas adn (aae (aah 3) (aae (aah 1) aar)))) adZ) (abm (ao8 (eOp gEq (aah 2) (eC (.str "middle"))) (ao8 (aas acd (aae (aah 3) aar)) (agn gLe gLe (eC (.int 1)) (aah 3) (aah 1)))))))))
noncomputable def adF:FP:=fnP 4 aeJ
noncomputable def ahS:SF:=(aaI (abM (eC (.tup [.int 0,.int 1])) (gN 2)) (aaI (acU (ad0 (auU (aae (aah 0) (aae (aah 1) aar))) (gT 2 (aaV (gN 3) (aaV (gN 4) ac6))) (abM (aas adx (aae (aah 2) (aae (aas abD (aae (aah 3) (aae (aah 4) aar))) aar))) (gN 2)))) (abm (aah 2))))
noncomputable def ac1:FP:=fnP 5 ahS
noncomputable def ahq:SF:=(aaI (abM (eC (.tup [.int 1,.int 1])) (gN 1)) (aaI (acU (ad0 (fSq (aah 0)) (gN 2) (abM (aas abD (aae (aah 1) (aae (aah 2) aar))) (gN 1)))) (abm (aah 1))))
noncomputable def acM:FP:=fnP 3 ahq
noncomputable def aeY:SF:=(aaI (sIf (abk (eOp gEq (eOp gIx (aah 0) (eC (.int 0))) (eC (.str "greatest")))) (abm (eC (.int 1))) adZ) (aaI (sIf (abk (eOp gEq (eOp gIx (aah 0) (eC (.int 0))) (eC (.str "least")))) (abm (aah 1)) adZ) (abm (eOp gIx (aah 0) (eC (.int 1))))))
noncomputable def acW:FP:=fnP 2 aeY
noncomputable def aeZ:SF:=(aaI (sIf (abk (eOp gEq (eOp gIx (aah 0) (eC (.int 0))) (eC (.str "shares")))) (abm (aas ac1 (aae (eOp gIx (aah 0) (eC (.int 1))) (aae (aah 1) aar)))) adZ) (aaI (sIf (abk (eOp gEq (eOp gIx (aah 0) (eC (.int 0))) (eC (.str "product")))) (abm (aas acM (aae (aah 1) aar))) adZ) (abm (eOp gIx (aah 1) (eOp gIx (aas aaO (aae (aah 1) aar)) (eOp acS (aas acW (aae (aah 0) (aae (eCB (g1 abg) (aae (aah 1) aar)) aar))) (eC (.int 1))))))))
noncomputable def abz:FP:=fnP 2 aeZ
noncomputable def acj:SF:=(aaI (ac3 (aas abH (aae (aah 0) aar))) (sIf (aie (afS (aas adF (aae (aah 1) (aae (eCB (g1 abg) (aae (aah 0) aar)) aar))))) (aik "NoRule" (eC (.str "this is no rule for the book's lists"))) adZ))
noncomputable def aaM:FP:=fnP 2 acj
noncomputable def akF:SF:=(abm (abb [none,some 1] (fSq (aah 0)) (gN 0) ad3 (eOp gIx (aah 0) (aah 1))))
noncomputable def adG:FP:=fnP 2 akF
noncomputable def akG:SF:=(abm (abb [none,some 1,some 0] (aeX (aae (eCB (g1 abg) (aae (eOp gIx (aah 0) (eC (.int 0))) aar)) aar)) (gN 0) ad3 (aas abz (aae (aah 1) (aae (aas adG (aae (aah 2) (aae (aah 0) aar))) aar)))))
noncomputable def ab8:FP:=fnP 2 akG
noncomputable def afa:SF:=(aaI (ac3 (aas aaM (aae (aah 0) (aae (aah 1) aar)))) (abm (aas ab8 (aae (aah 0) (aae (aah 1) aar)))))
noncomputable def aaP:FP:=fnP 2 afa
noncomputable def aiq:SF:=(abm (ao8 (aas acd (aae (aah 0) aar)) (agn gLe gLe (eC (.int 0)) (aah 0) (aah 1))))
noncomputable def aee:FP:=fnP 2 aiq
noncomputable def agr:SF:=(sIf (aie (afS (aas aee (aae (aah 1) (aae (eCB (g1 abg) (aae (eOp gIx (aah 0) (eC (.int 0))) aar)) aar))))) (aik "NoCount" (eC (.str "this is no count of the book's things"))) adZ)
noncomputable def ac4:FP:=fnP 2 agr
noncomputable def ach:SF:=(aaI (ac3 (aas aaM (aae (aah 0) (aae (aah 1) aar)))) (ac3 (aas ac4 (aae (aah 0) (aae (aah 2) aar)))))
noncomputable def aaN:FP:=fnP 3 ach
noncomputable def amm:SF:=(aaI (ac3 (aas aaN (aae (aah 0) (aae (aah 1) (aae (aah 2) aar))))) (aaI (abM (aas ab8 (aae (aah 0) (aae (aah 1) aar))) (gN 3)) (abm (abb [none,some 3] (fSq (eSl (aas aaO (aae (aah 3) aar)) oNo (afT (aah 2)))) (gN 0) ad3 (akg (aae (aah 0) (aae (eOp gIx (aah 1) (aah 0)) aar)))))))
noncomputable def abR:FP:=fnP 4 amm
noncomputable def anY:SF:=(aaI (sIf (afS (eCB (g1 ajN) (aae (abb [none,some 1,some 2] (fSq (aah 0)) (gN 0) ad3 (aas abT (aae (eOp gIx (aah 0) (aah 1)) (aae (eOp gIx (aah 0) (aah 2)) aar)))) aar))) (abm (eC (.bl false))) adZ) (abm (eCB (g1 ajN) (aae (abb [none,some 2,some 1] (fSq (aah 0)) (gN 0) ad3 (aas abT (aae (eOp gIx (aah 0) (aah 1)) (aae (eOp gIx (aah 0) (aah 2)) aar)))) aar))))
noncomputable def afX:FP:=fnP 3 anY
noncomputable def aiY:SF:=(abm (abb [none,some 1,some 0] (fSq (aah 1)) (gN 0) (aie (afS (eCB (g1 ajN) (aae (abb [none,some 2,some 0] (fSq (aah 1)) (gN 0) ad3 (aas afX (aae (aah 1) (aae (aah 0) (aae (aah 2) aar))))) aar)))) (aah 0)))
noncomputable def abF:FP:=fnP 2 aiY
noncomputable def air:SF:=(aaI (ac3 (aas abH (aae (aah 0) aar))) (abm (aas abF (aae (aah 0) (aae (eLR (aae (eCB (g1 abg) (aae (eOp gIx (aah 0) (eC (.int 0))) aar)) aar)) aar)))))
noncomputable def ady:FP:=fnP 1 air
noncomputable def aiZ:SF:=(aaI (ac3 (aas abH (aae (aah 0) aar))) (aaI (aii 1 (ae9 aar)) (aaI (abM (eLR (aae (eCB (g1 abg) (aae (eOp gIx (aah 0) (eC (.int 0))) aar)) aar)) (gN 2)) (aaI (acU (adf (fuL 2) (afS (aah 2)) (aaI (abM (aas abF (aae (aah 0) (aae (aah 2) aar))) (gN 3)) (aaI (ac3 (eMt 1 aij (aae (aah 3) aar))) (abM (abb [none,some 3] (fSq (aah 2)) (gN 0) (abk (eOp (gIn not) (aah 0) (aah 1))) (aah 0)) (gN 2)))))) (abm (aah 1))))))
noncomputable def acf:FP:=fnP 4 aiZ
end BH
end
section
namespace K97
open PySem L2 BH
noncomputable def top(i:Nat):Stmt:=PySem.Challenge.pw_bestheads_k97_whole_layers_and_few.main.body.getD i (.Pass ⟨0,0,0,0⟩)
noncomputable abbrev afY:Stmt:=top 7
noncomputable abbrev ac7:Stmt:=top 8
noncomputable abbrev aej:Stmt:=top 9
noncomputable abbrev afZ:Stmt:=top 10
noncomputable abbrev aeK:Stmt:=top 11
noncomputable abbrev aeL:Stmt:=top 12
noncomputable abbrev aek:Stmt:=top 13
noncomputable abbrev adH:Stmt:=top 14
noncomputable abbrev abP:Stmt:=top 15
noncomputable abbrev acs:Stmt:=top 16
noncomputable abbrev af0:Stmt:=top 20
noncomputable abbrev adS:Stmt:=top 21
noncomputable abbrev aeM:Stmt:=top 22
noncomputable abbrev af2:Stmt:=top 23
noncomputable abbrev afj:Stmt:=top 24
noncomputable abbrev ado:Stmt:=top 27
noncomputable abbrev ahr:Stmt:=top 28
noncomputable abbrev ad4:Stmt:=top 29
noncomputable abbrev adI:Stmt:=top 30
noncomputable abbrev af3:Stmt:=top 31
noncomputable abbrev af4:Stmt:=top 32
noncomputable abbrev acn:Stmt:=top 33
noncomputable abbrev aeN:Stmt:=top 35
noncomputable abbrev abx:Stmt:=top 36
noncomputable abbrev ael:Stmt:=top 37
noncomputable abbrev aem:Stmt:=top 38
noncomputable abbrev ad5:Stmt:=top 39
noncomputable abbrev ae0:Stmt:=top 40
noncomputable abbrev ahs:Stmt:=top 42
noncomputable abbrev acN:Stmt:=top 43
noncomputable abbrev af5:Stmt:=top 44
noncomputable abbrev adp:Stmt:=top 45
noncomputable abbrev anZ:Stmt:=top 47
noncomputable abbrev an0:Stmt:=top 48
noncomputable abbrev an1:Stmt:=top 49
noncomputable abbrev akH:Stmt:=top 50
noncomputable abbrev akI:Stmt:=top 51
noncomputable abbrev akJ:Stmt:=top 52
noncomputable abbrev ai0:Stmt:=top 53
noncomputable abbrev aht:Stmt:=top 54
noncomputable abbrev aen:Stmt:=top 55
noncomputable abbrev afF:Stmt:=top 56
noncomputable abbrev an2:Stmt:=top 57
noncomputable abbrev amn:Stmt:=top 58
structure Nm(mg:Str->Option Value):Prop where
 axO:mg "abs" = none
 aqa:mg "all" = none
 asp:mg "any" = none
 avb:mg "bool" = none
 avc:mg "int" = none
 ab9:mg "isinstance" = none
 adq:mg "len" = none
 ajT:mg "list" = none
 axP:mg "min" = none
 acO:mg "range" = none
 aqb:mg "sorted" = none
 avd:mg "str" = none
 an3:mg "tuple" = none
 axQ:mg "zip" = none
noncomputable def an4:SF:=(aaI (abM (eCB (g1 atf) (aae (eOp gEq (eOp gIx (aah 0) (eC (.int 0))) (eC (.int 0))) aar)) (gN 2)) (aaI (abM (eOp acK (eOp gIx (aah 0) (aah 2)) (aah 1)) (gN 3)) (aaI (arS 0 (aah 2) (eOp acQ (eOp gIx (aah 0) (aah 2)) (aah 1))) (abm (aah 3)))))
noncomputable def abh:FR:=fnR 4 0 an4
noncomputable def ave:SF:=(aaI (abM (aah 0) (gN 2)) (aaI (abM (aah 1) (gN 3)) (aaI (acU (adf (fuI 3) (abk (eOp gGt (aah 3) (eC (.int 0)))) (ati 2 3 (aae (aah 3) (aae (eOp acK (aah 2) (aah 3)) aar))))) (abm (akg (aae (eOp acQ (aah 0) (aah 2)) (aae (eOp acQ (aah 1) (aah 2)) aar)))))))
noncomputable def adg:FP:=fnP 4 ave
noncomputable def aqY:SF:=(abm (eOp gLt (eOp ab2 (eOp gIx (aah 0) (eC (.int 0))) (eOp gIx (aah 1) (eC (.int 1)))) (eOp ab2 (eOp gIx (aah 1) (eC (.int 0))) (eOp gIx (aah 0) (eC (.int 1))))))
noncomputable def ais:FP:=fnP 2 aqY
noncomputable def an5:SF:=(aaI (abM (eOp abf (eSl (aah 0) oNo (afT (eC (.int 63)))) (ae9 (aae (eCB (g1 abg) (aae (aah 0) aar)) aar))) (gN 1)) (aaI (abM (eC (.int 1)) (gN 2)) (aaI (acU (ad0 (aeX (aae (eC (.int 160)) aar)) (gN 3) (aaI (abM (eOp acK (eOp abf (eOp abf (eOp gIx (aah 1) (eOp acK (aah 3) (eCB (g1 abg) (aae (aah 1) aar)))) (eOp ab2 (eC (.int 48271)) (aah 3))) (eC (.int 7))) (eC (.int 2147483629))) (gN 4)) (aaI (abM (eOp acK (eOp abf (eOp ab2 (aah 4) (aah 4)) (eOp ab2 (eC (.int 69621)) (aah 3))) (eC (.int 2147483587))) (gN 4)) (abM (eOp abf (eOp ab2 (aah 2) (eC (.int 2147483587))) (eOp acK (eOp ab2 (aah 4) (aah 4)) (eC (.int 2147483563)))) (gN 2)))))) (aaI (sIf (abk (eOp gGe (eOp gIx (aah 1) (eC (.int 0))) (eOp acR (eC (.int 10)) (eC (.int 18))))) (abm (ae9 (aae (eOp acS (eOp gIx (aah 1) (eC (.int 0))) (eOp acR (eC (.int 10)) (eC (.int 18)))) (aae (aah 2) aar)))) adZ) (abm (ae9 (aae (eC (.int 0)) (aae (aah 2) aar))))))))
noncomputable def af6:FP:=fnP 5 an5
noncomputable def an6:SF:=(aaI (abM (aaT 0 abh (aae (aah 0) (aae (eC (.int 8)) aar))) (gN 2)) (aaI (sIf (abk (eOp gLt (aah 2) (eC (.int 2)))) (abm (akg (aae (aah 2) (aae (eC (.int 1)) aar)))) adZ) (aaI (sIf (abk (eOp gLt (aah 2) (eC (.int 5)))) (abm (aas adg (aae (aaT 0 abh (aae (aah 0) (aae (eC (.int 5)) aar))) (aae (eC (.int 4)) aar)))) adZ) (aaI (sIf (abk (eOp gEq (aah 2) (eC (.int 5)))) (aaI (abM (eOp abf (eC (.int 1)) (aaT 0 abh (aae (aah 0) (aae (eOp acS (eOp acR (eC (.int 10)) (eC (.int 12))) (eC (.int 1))) aar)))) (gN 3)) (abm (aas adg (aae (aaT 0 abh (aae (aah 0) (aae (eOp abf (aah 3) (eC (.int 1))) aar))) (aae (aah 3) aar))))) adZ) (aaI (abM (eOp gIx (eOp abf (aah 1) (eCL [.tup [.int 1,.int 2]])) (aaT 0 abh (aae (aah 0) (aae (eOp abf (eCB (g1 abg) (aae (aah 1) aar)) (eC (.int 1))) aar)))) (gT 2 (aaV (gN 4) (aaV (gN 3) ac6)))) (aaI (sIf (abk (eOp gEq (aah 2) (eC (.int 6)))) (abm (akg (aae (aah 4) (aae (aah 3) aar)))) adZ) (abm (aas adg (aae (eCB (g2 adw) (aae (eOp abf (aah 4) (eC (.int 1))) (aae (aah 3) aar))) (aae (aah 3) aar))))))))))
noncomputable def afk:FR:=fnR 5 0 an6
noncomputable def asq:SF:=(aaI (aii 3 (ae9 aar)) (aaI (aii 4 (ae9 aar)) (aaI (acU (ad0 (aeX (aae (aah 1) aar)) (gN 5) (aaI (aii 6 (ae9 aar)) (aaI (ad0 (aeX (aae (aah 2) aar)) (gN 7) (aaI (ac3 (eMt 6 aij (aae (aaT 0 afk (aae (aah 0) (aae (aah 4) aar))) aar))) (ac3 (eMt 4 aij (aae (eOp gIx (aah 6) (eUn anv (eC (.int 1)))) aar))))) (atg 6 (ac3 (eMt 3 aij (aae (aah 6) aar)))))))) (abm (aah 3)))))
noncomputable def ahu:FR:=fnR 8 0 asq
noncomputable def an7:SF:=(aaI (abM (eOp abf (eC (.int 1)) (aaT 0 abh (aae (aah 0) (aae (eC (.int 4)) aar)))) (gN 1)) (aaI (abM (eOp abf (eC (.int 1)) (aaT 0 abh (aae (aah 0) (aae (eC (.int 12)) aar)))) (gN 2)) (aaI (sIf (abk (eOp gEq (aaT 0 abh (aae (aah 0) (aae (eC (.int 3)) aar))) (eC (.int 0)))) (abm (aaT 0 ahu (aae (aah 0) (aae (aah 1) (aae (aah 2) aar))))) adZ) (aaI (abM (eOp abf (eC (.int 1)) (aaT 0 abh (aae (aah 0) (aae (eC (.int 12)) aar)))) (gN 3)) (aaI (aii 4 (ae9 aar)) (aaI (acU (ad0 (aeX (aae (aah 1) aar)) (gN 5) (ac3 (eMt 4 aij (aae (abb [none,some 0,some 3] (aeX (aae (aah 2) aar)) (gN 0) ad3 (aas adg (aae (aaT 0 abh (aae (aah 1) (aae (eOp abf (aah 2) (eC (.int 1))) aar))) (aae (aah 2) aar)))) aar))))) (abm (aah 4))))))))
noncomputable def af7:FR:=fnR 6 0 an7
noncomputable def an8:SF:=(aaI (aii 2 (ae9 aar)) (aaI (acU (ad0 (aeX (aae (aah 1) aar)) (gN 3) (aaI (abM (aaT 0 abh (aae (aah 0) (aae (eC (.int 3)) aar))) (gN 4)) (aaI (abM (eOp gIx (ae9 (aae (eC (.int 1)) (aae (eOp abf (eC (.int 1)) (aaT 0 abh (aae (aah 0) (aae (eC (.int 9)) aar)))) (aae (eOp abf (eC (.int 1)) (aaT 0 abh (aae (aah 0) (aae (eOp acS (eOp acR (eC (.int 10)) (eC (.int 12))) (eC (.int 1))) aar)))) aar)))) (aah 4)) (gN 5)) (ac3 (eMt 2 aij (aae (aas adg (aae (aah 5) (aae (eOp gIx (ae9 (aae (eC (.int 1)) (aae (eOp abf (eC (.int 1)) (aaT 0 abh (aae (aah 0) (aae (eC (.int 9)) aar)))) (aae (eOp abf (eC (.int 1)) (aaT 0 abh (aae (aah 0) (aae (eOp acS (eOp acR (eC (.int 10)) (eC (.int 12))) (eC (.int 1))) aar)))) aar)))) (aah 4)) aar))) aar))))))) (abm (aah 2))))
noncomputable def aeO:FR:=fnR 6 0 an8
noncomputable def akK:SF:=(aaI (aii 1 (ae9 aar)) (aaI (acU (ad0 (aeX (aae (eCB (g1 abg) (aae (aah 0) aar)) aar)) (gN 2) (ac3 (eMt 1 aqX (aae (eCB (g1 abg) (aae (ain [none,some 0,some 2] 1 (gN 0) (afS (aas ais (aae (eOp gIx (aah 1) (aah 2)) (aae (eOp gIx (aah 1) (aah 0)) aar)))) (aah 0)) aar)) (aae (aah 2) aar)))))) (abm (aah 1))))
noncomputable def acw:FP:=fnP 3 akK
noncomputable def alN:SF:=(aaI (abM (aas acw (aae (aas aaP (aae (aah 0) (aae (aah 1) aar))) aar)) (gN 3)) (aaI (acU (ad0 (aeX (aae (eOp abf (eCB (g1 abg) (aae (eOp gIx (aah 0) (eC (.int 0))) aar)) (eC (.int 1))) aar)) (gN 4) (aaI (abM (ae9 aar) (gN 5)) (aaI (ad0 (fSq (eSl (aah 2) oNo (afT (aah 4)))) (gN 6) (abM (eOp abf (aah 5) (aah 6)) (gN 5))) (aaI (abM (abb [none,none] (fSq (aas abR (aae (aah 0) (aae (aah 1) (aae (aah 4) aar))))) (gT 2 (aaV (gN 0) (aaV (gN 1) ac6))) ad3 (aah 0)) (gN 7)) (sIf (abk (eOp gGt (eCB (g1 abg) (aae (abb [none,some 5] (fSq (eOp abf (aah 7) (eSl (aah 3) oNo (afT (aah 4))))) (gN 0) (abk (eOp (gIn not) (aah 0) (aah 1))) (aah 0)) aar)) (eC (.int 0)))) (abm (eC (.bl false))) adZ)))))) (abm (eC (.bl true)))))
noncomputable def aeo:FP:=fnP 8 alN
noncomputable def aqZ:SF:=(aaI (ac3 (eMt 0 aij (aae (ae9 (aae (aah 1) (aae (eCB (g1 ao9) (aae (aah 1) aar)) aar))) aar))) (abm (aah 1)))
noncomputable def adT:FR:=fnR 2 0 aqZ
noncomputable def avf:SF:=(aaI (aii 1 (aas af6 (aae (aah 0) aar))) (aaI (aii 2 (ae9 aar)) (aaI (acU (ad0 (aeX (aae (eC (.int 2)) aar)) (gN 3) (aaI (abM (aaT 0 af7 (aae (aah 1) aar)) (gN 4)) (aaI (abM (aaT 0 adT (aae (aah 2) (aae (aas acf (aae (aah 4) aar)) aar))) (gN 5)) (aaI (sIf (abk (eOp gNe (aaT 0 adT (aae (aah 2) (aae (aas ady (aae (aah 4) aar)) aar))) (eOp gIx (aah 5) (eC (.int 0))))) (abm (eC (.bl false))) adZ) (aaI (abM (akg (aae (eC (.str "shares")) (aae (aaT 0 aeO (aae (aah 1) (aae (eCB (g1 abg) (aae (aah 4) aar)) aar))) aar))) (gN 6)) (aaI (sIf (aie (afS (aas aeo (aae (aah 4) (aae (aah 6) (aae (aah 5) aar)))))) (abm (eC (.bl false))) adZ) (aaI (abM (ae9 (aae (aah 6) (aae (eC (.tup [.str "least"])) (aae (eC (.tup [.str "greatest"])) (aae (eC (.tup [.str "product"])) aar))))) (gN 7)) (ad0 (fSq (eOp abf (aah 7) (abb [none] (aeX (aae (eCB (g1 abg) (aae (aah 4) aar)) aar)) (gN 0) ad3 (akg (aae (eC (.str "middle")) (aae (eOp abf (aah 0) (eC (.int 1))) aar)))))) (gN 8) (aaI (abM (aaT 0 adT (aae (aah 2) (aae (aas aaP (aae (aah 4) (aae (aah 8) aar))) aar))) (gN 9)) (aaI (abM (eOp gIx (eOp gIx (aaT 0 adT (aae (aah 2) (aae (aas abR (aae (aah 4) (aae (aah 8) (aae (eC (.int 1)) aar)))) aar))) (eC (.int 0))) (eC (.int 1))) (gN 10)) (sIf (abk (eOp (gIn not) (aah 10) (abb [none,some 9] (fSq (eOp gIx (aah 5) (eC (.int 0)))) (gN 0) ad3 (eOp gIx (aah 1) (aah 0))))) (abm (eC (.bl false))) adZ)))))))))))) (atg 2 (abm (eOp gEq (eCB (g1 abg) (aae (abb [none] (fSq (aah 2)) (gN 0) (abk (eOp gNe (eCB (g1 ao9) (aae (eOp gIx (aah 0) (eC (.int 0))) aar)) (eOp gIx (aah 0) (eC (.int 1))))) (aah 0)) aar)) (eC (.int 0))))))))
noncomputable def amo:FP:=fnP 11 avf
end K97
end
section
namespace K97
open PySem L2 BH
section
variable {P:Program}{w:World}{K:PySem.W.Frag}{mg:Str->Option Value}{base:Heap}{cl:Str->Addr}
theorem avh(a:At K mg "_law_draw" anZ) (M:Nm mg):DfX P w K mg base 1 "_law_draw" (["_law_purse_here", "_law_many"]:List Str) (spR K 2 0 abh):=by
 have S:aaz (["_law_purse_here", "_law_many", "_law_at", "_law_found"]:List Str) (["_law_purse_here", "_law_many"]:List Str) (aal anZ):=⟨rfl,rfl,rfl,by decide +kernel,rfl,by decide +kernel,by decide +kernel⟩
 exact a.dfR 0 S (cl:=λ_=>0) (by decide) (λ_ _ _ _ _ _ us hl=>match us,hl with | [_,_],_=>by kernel_rfl) (λf cdv A outer s H E hr=>⟨_,(aak (psL 2 S.nd (axH anf M.avc (paK (adX (adQ hr.units) (aa8 aaF (pvL 0) aan (λ_ _=>rfl)) aan (abw _)) aai))) (aak (psL 3 S.nd (aaY afh (aa8 aaF (pvL 0) (pvL 2) (λ_ _=>rfl)) (pvL 1))) (aak (alh (aaY aeh (aa8 aaF (pvL 0) (pvL 2) (λ_ _=>rfl)) (pvL 1)) (atz (pvL 0) (pvL 2) set_list)) (aap (aaB (pvL 3)))))),λt hK hx=>(aat (aa0 (axy hK (aac (x_eq hK (acE hK (aad 0) (aao _)) (aao _)) aaj)) (aaq 2) abQ) (aat (aa0 (aky hK (acE hK (aad 0) (aad 2)) (aad 1)) (aaq 3) abQ) (aat (arT 0 (akx hK (acE hK (aad 0) (aad 2)) (aad 1)) (aad 2)) (aaC (aad 3)))))⟩)
theorem avi(a:At K mg "_law_frac" an0) (M:Nm mg):DfX P w K mg base 1 "_law_frac" (["_law_top", "_law_bottom"]:List Str) (spP K cl 2 adg):=by
 have S:aaz (["_law_top", "_law_bottom", "_law_one", "_law_other"]:List Str) (["_law_top", "_law_bottom"]:List Str) (aal an0):=⟨rfl,rfl,rfl,by decide +kernel,rfl,by decide +kernel,by decide +kernel⟩
 exact a.dfP S (cl:=cl) (by decide) (λ_ _ _ _ _ _ us hl=>match us,hl with | [_,_],_=>by kernel_rfl) (λf cdv A outer s H E hr=>⟨_,(aak (psL 2 S.nd (pvL 0)) (aak (psL 3 S.nd (pvL 1)) (aak (PS.nox (aix PassesOwn.never (abn atD (pvL 3) aan (abw _)) (aap (aqC (i:=2) (j:=3) rfl S.nd rfl rfl (by decide) rfl rfl (paK (pvL 3) (paK (aaY afh (pvL 2) (pvL 3)) aai)) rfl)))) (aap (aaB (agk (paK (aaY aeh (pvL 0) (pvL 2)) (paK (aaY aeh (pvL 1) (pvL 2)) aai)))))))),λt hK hx=>(aat (aa0 (aad 0) (aaq 2) abQ) (aat (aa0 (aad 1) (aaq 3) abQ) (aat (aed (λt1 h1 k1=>(aiM (fuI 3) (abd (ay7 (h1.trans hK) (aad 3) (aao _))) (aqO 2 3 (aac (aad 3) (aac (aky (h1.trans hK) (aad 2) (aad 3)) aaj)))))) (aaC (ag9 (aac (akx hK (aad 0) (aad 2)) (aac (akx hK (aad 1) (aad 2)) aaj)))))))⟩)
theorem avj(a:At K mg "_law_held" an2) (M:Nm mg):DfX P w K mg base 1 "_law_held" (["_law_held_here", "_law_told"]:List Str) (spR K 2 0 adT):=by
 have S:aaz (["_law_held_here", "_law_told"]:List Str) (["_law_held_here", "_law_told"]:List Str) (aal an2):=⟨rfl,rfl,rfl,by decide +kernel,rfl,by decide +kernel,by decide +kernel⟩
 exact a.dfR 0 S (cl:=λ_=>0) (by decide) (λ_ _ _ _ _ _ us hl=>match us,hl with | [_,_],_=>by kernel_rfl) (λf cdv A outer s H E hr=>⟨_,(aak (psE (ajD PySem.F.plainAttrs_list PySem.F.slot_list_append PySem.F.type_list_append acH (pvL 0) (acG (ac2 (paK (pvL 1) (paK (axH (ajF hr.gd hr.units) M.avd (paK (pvL 1) aai)) aai))) aai))) (aap (aaB (pvL 1)))),λt hK hx=>(aat (acu (akA 0 (adb (aac (aad 1) (aac (auR hK (aac (aad 1) aaj)) aaj))))) (aaC (aad 1)))⟩)
theorem avk(a:At K mg "_law_less" an1) (M:Nm mg):DfX P w K mg base 1 "_law_less" (["_law_one", "_law_other"]:List Str) (spP K cl 2 ais):=by
 have S:aaz (["_law_one", "_law_other"]:List Str) (["_law_one", "_law_other"]:List Str) (aal an1):=⟨rfl,rfl,rfl,by decide +kernel,rfl,by decide +kernel,by decide +kernel⟩
 exact a.dfP S (cl:=cl) (by decide) (λ_ _ _ _ _ _ us hl=>match us,hl with | [_,_],_=>by kernel_rfl) (λf cdv A outer s H E hr=>⟨_,(aap (aaB (adX (ajG hr.units) (aaY aci (aa8 aaF (pvL 0) aan (λ_ _=>rfl)) (aa8 aaF (pvL 1) aan (λ_ _=>rfl))) (aaY aci (aa8 aaF (pvL 1) aan (λ_ _=>rfl)) (aa8 aaF (pvL 0) aan (λ_ _=>rfl))) (abw _)))),λt hK hx=>(aaC (x_lt hK (ae2 hK (acE hK (aad 0) (aao _)) (acE hK (aad 1) (aao _))) (ae2 hK (acE hK (aad 1) (aao _)) (acE hK (aad 0) (aao _)))))⟩)
theorem asr(a:At K mg "_law_lists" akJ) (M:Nm mg) (asu:DfX P w K mg base 2 "_law_worth" (["_law_purse_here", "_law_before"]:List Str) (spR K 2 0 afk)):DfX P w K mg base 3 "_law_lists" (["_law_purse_here", "_law_lists_here", "_law_many"]:List Str) (spR K 3 0 ahu):=by
 have S:aaz (["_law_purse_here", "_law_lists_here", "_law_many", "_law_found", "_law_before", "_law_place", "_law_worths", "_law_thing"]:List Str) (["_law_purse_here", "_law_lists_here", "_law_many"]:List Str) (aal akJ):=⟨rfl,rfl,rfl,by decide +kernel,rfl,by decide +kernel,by decide +kernel⟩
 exact a.dfR 0 S (cl:=λ_=>0) (by decide) (λ_ _ _ _ _ _ us hl=>match us,hl with | [_,_,_],_=>by kernel_rfl) (λf cdv A outer s H E hr=>⟨_,(aak (psL 3 S.nd (ac2 aai)) (aak (psL 4 S.nd (ac2 aai)) (aak (PS.nox (aea PassesOwn.never rfl (piR M.acO (paK (pvL 1) aai)) (pgL 5 S.nd) (aak (psL 6 S.nd (ac2 aai)) (aak (aea PassesOwn.never rfl (piR M.acO (paK (pvL 2) aai)) (pgL 7 S.nd) (aak (psE (ajD PySem.F.plainAttrs_list PySem.F.slot_list_append PySem.F.type_list_append acH (pvL 6) (acG (pcF (E:=E0) (asu.mono (by decide)) hr ab5 (paK (pvL 0) (paK (pvL 4) aai))) aai))) (aap (psE (ajD PySem.F.plainAttrs_list PySem.F.slot_list_append PySem.F.type_list_append acH (pvL 4) (acG (aa8 aaF (pvL 6) (apg alj aan) (λ_ _=>rfl)) aai)))))) (aap (psE (ajD PySem.F.plainAttrs_list PySem.F.slot_list_append PySem.F.type_list_append acH (pvL 3) (acG (pvL 6) aai)))))))) (aap (aaB (pvL 3)))))),λt hK hx=>(aat (afy 3 (adb aaj)) (aat (afy 4 (adb aaj)) (aat (aed (λt1 h1 k1=>(aec (aeG (aac (aad 1) aaj)) (aaq 5) abQ (aat (afy 6 (adb aaj)) (aat (aec (aeG (aac (aad 2) aaj)) (aaq 7) abQ (aat (acu (akA 6 (abt (h1.trans hK) (aag (aag aaw)) (aac (aad 0) (aac (aad 4) aaj))))) (acu (akA 4 (acE (h1.trans hK) (aad 6) (auQ (aao _))))))) (aqN 6 (acu (akA 3 (aad 6))))))))) (aaC (aad 3)))))⟩)
theorem akL(a:At K mg "_law_other_way" aen) (M:Nm mg) (avl:DfX P w K mg base 1 "_law_less" (["_law_one", "_law_other"]:List Str) (spP K cl 2 ais)):DfX P w K mg base 2 "_law_other_way" (["_law_worths"]:List Str) (spP K cl 1 acw):=by
 have S:aaz (["_law_worths", "_law_found", "_law_thing"]:List Str) (["_law_worths"]:List Str) (aal aen):=⟨rfl,rfl,rfl,by decide +kernel,rfl,by decide +kernel,by decide +kernel⟩
 exact a.dfP S (cl:=cl) (by decide) (λ_ _ _ _ _ _ us hl=>match us,hl with | [_],_=>by kernel_rfl) (λf cdv A outer s H E hr=>⟨_,(aak (psL 1 S.nd (ac2 aai)) (aak (PS.nox (aea PassesOwn.never rfl (piR M.acO (paK (pcB aaR M.adq (paK (pvC 0) aai)) aai)) (pgC 2 S.nd rfl) (aap (psE (ajD PySem.F.plainAttrs_list PySem.F.slot_list_insert PySem.F.type_list_insert anV (pvL 1) (acG (pcB aaR M.adq (paK (agQ (sc:=aal aen) (No:=(["_law_worths", "_law_found", "_law_thing"]:List Str)) (N:=(["_law_one", "_law_worths", "_law_thing"]:List Str)) (src:=[none,some 0,some 2]) (g:=(acp 0)) rfl rfl ⟨by rfl,by decide +kernel,by decide +kernel,by decide +kernel,by rfl,by decide +kernel⟩ rfl (acr (pvL 1)) (λC s H ex=>(pgL 0 (show List.Nodup (["_law_one", "_law_worths", "_law_thing"]:List Str) by decide +kernel))) (λC s H ex=>(ajM (K:=K) (pcF (E:=E0) (avl.mono (by decide)) hr ab5 (paK (aa8 aaF (pvC 1) (pvC 2) (λ_ _=>rfl)) (paK (aa8 aaF (pvC 1) (pvL 0) (λ_ _=>rfl)) aai))) rfl (by intro _; rfl))) (λC s H ex=>(pvL 0))) aai)) (acG (pvC 2) aai))))))) (aap (aaB (pvL 1))))),λt hK hx=>(aat (afy 1 (adb aaj)) (aat (aed (λt1 h1 k1=>(aec (aeG (aac (x_len (h1.trans hK) (aac (aad 0) aaj)) aaj)) (aaq 2) abQ (acu (axM 1 (x_len (h1.trans hK) (aac (anW (h1.trans hK) 1 (au8 (by decide)) (acA (by decide)) (acB (js:=[0]) (by decide)) abQ (λt2 h2 k2=>(aaq 0)) (λt2 h2 k2=>(ade (h2.trans (h1.trans hK)) (abe (h2.trans (h1.trans hK)) k2 (aag (aag aaw)) (aac (acE (h2.trans (h1.trans hK)) (aad 1) (aad 2)) (aac (acE (h2.trans (h1.trans hK)) (aad 1) (aad 0)) aaj))))) (λt2 h2 k2=>(aad 0))) aaj)) (aad 2)))))) (aaC (aad 1))))⟩)
theorem asv(a:At K mg "_law_purse" akH) (M:Nm mg):DfX P w K mg base 1 "_law_purse" (["_law_script"]:List Str) (spP K cl 1 af6):=by
 have S:aaz (["_law_script", "_law_cells", "_law_mixed", "_law_k", "_law_number"]:List Str) (["_law_script"]:List Str) (aal akH):=⟨rfl,rfl,rfl,by decide +kernel,rfl,by decide +kernel,by decide +kernel⟩
 exact a.dfP S (cl:=cl) (by decide) (λ_ _ _ _ _ _ us hl=>match us,hl with | [_],_=>by kernel_rfl) (λf cdv A outer s H E hr=>⟨_,(aak (psL 1 S.nd (aaY abq (agK awI (pvL 0) aiB (aiC aan)) (ac2 (paK (pcB aaR M.adq (paK (pvL 0) aai)) aai)))) (aak (psL 2 S.nd aan) (aak (PS.nox (aea PassesOwn.never rfl (piR M.acO (paK aan aai)) (pgL 3 S.nd) (aak (psL 4 S.nd (aaY afh (aaY abq (aaY abq (aa8 aaF (pvL 1) (aaY afh (pvL 3) (pcB aaR M.adq (paK (pvL 1) aai))) (λ_ _=>rfl)) (aaY aci aan (pvL 3))) aan) aan)) (aak (psL 4 S.nd (aaY afh (aaY abq (aaY aci (pvL 4) (pvL 4)) (aaY aci aan (pvL 3))) aan)) (aap (psL 2 S.nd (aaY abq (aaY aci (pvL 2) aan) (aaY afh (aaY aci (pvL 4) (pvL 4)) aan)))))))) (aak (acF (abn arl (aa8 aaF (pvL 1) aan (λ_ _=>rfl)) (aaY ah6 aan aan) (abw _)) (aap (aaB (ac2 (paK (aaY ah5 (aa8 aaF (pvL 1) aan (λ_ _=>rfl)) (aaY ah6 aan aan)) (paK (pvL 2) aai))))) aa9) (aap (aaB (ac2 (paK aan (paK (pvL 2) aai))))))))),λt hK hx=>(aat (aa0 (adk hK (apF hK (aad 0) apE (aiK (aao _))) (adb (aac (x_len hK (aac (aad 0) aaj)) aaj))) (aaq 1) abQ) (aat (aa0 (aao _) (aaq 2) abQ) (aat (aed (λt1 h1 k1=>(aec (aeG (aac (aao _) aaj)) (aaq 3) abQ (aat (aa0 (aky (h1.trans hK) (adk (h1.trans hK) (adk (h1.trans hK) (acE (h1.trans hK) (aad 1) (aky (h1.trans hK) (aad 3) (x_len (h1.trans hK) (aac (aad 1) aaj)))) (ae2 (h1.trans hK) (aao _) (aad 3))) (aao _)) (aao _)) (aaq 4) abQ) (aat (aa0 (aky (h1.trans hK) (adk (h1.trans hK) (ae2 (h1.trans hK) (aad 4) (aad 4)) (ae2 (h1.trans hK) (aao _) (aad 3))) (aao _)) (aaq 4) abQ) (aa0 (adk (h1.trans hK) (ae2 (h1.trans hK) (aad 2) (aao _)) (aky (h1.trans hK) (ae2 (h1.trans hK) (aad 4) (aad 4)) (aao _))) (aaq 2) abQ)))))) (aat (acL (abd (x_ge hK (acE hK (aad 1) (aao _)) (anG hK (aao _) (aao _)))) (aaC (adb (aac (anF hK (acE hK (aad 1) (aao _)) (anG hK (aao _) (aao _))) (aac (aad 2) aaj)))) abB) (aaC (adb (aac (aao _) (aac (aad 2) aaj))))))))⟩)
theorem o_steps(a:At K mg "_law_steps" ai0) (M:Nm mg) (ac5:DfX P w K mg base 1 "_law_draw" (["_law_purse_here", "_law_many"]:List Str) (spR K 2 0 abh)) (asw:DfX P w K mg base 3 "_law_lists" (["_law_purse_here", "_law_lists_here", "_law_many"]:List Str) (spR K 3 0 ahu)) (ahv:DfX P w K mg base 1 "_law_frac" (["_law_top", "_law_bottom"]:List Str) (spP K cl 2 adg)):DfX P w K mg base 4 "_law_steps" (["_law_purse_here"]:List Str) (spR K 1 0 af7):=by
 have S:aaz (["_law_purse_here", "_law_lists_here", "_law_many", "_law_most", "_law_found", "_law_place"]:List Str) (["_law_purse_here"]:List Str) (aal ai0):=⟨rfl,rfl,rfl,by decide +kernel,rfl,by decide +kernel,by decide +kernel⟩
 exact a.dfR 0 S (cl:=cl) (by decide) (λ_ _ _ _ _ _ us hl=>match us,hl with | [_],_=>by kernel_rfl) (λf cdv A outer s H E hr=>⟨_,(aak (psL 1 S.nd (aaY abq aan (pcF (E:=E) (ac5.mono (by decide)) hr aau (paK (pvC 0) (paK aan aai))))) (aak (psL 2 S.nd (aaY abq aan (pcF (E:=E) (ac5.mono (by decide)) hr aau (paK (pvC 0) (paK aan aai))))) (aak (acF (abn (adQ hr.units) (pcF (E:=E) (ac5.mono (by decide)) hr aau (paK (pvC 0) (paK aan aai))) aan (abw _)) (aap (aaB (pcF (E:=E) (asw.mono (by decide)) hr aau (paK (pvC 0) (paK (pvL 1) (paK (pvL 2) aai)))))) aa9) (aak (psC 3 S.nd rfl (aaY abq aan (pcF (E:=E) (ac5.mono (by decide)) hr aau (paK (pvC 0) (paK aan aai))))) (aak (psL 4 S.nd (ac2 aai)) (aak (PS.nox (aea PassesOwn.never rfl (piR M.acO (paK (pvL 1) aai)) (pgL 5 S.nd) (aap (psE (ajD PySem.F.plainAttrs_list PySem.F.slot_list_append PySem.F.type_list_append acH (pvL 4) (acG (acI (sc:=aal ai0) (No:=(["_law_purse_here", "_law_lists_here", "_law_many", "_law_most", "_law_found", "_law_place"]:List Str)) (N:=(["_law_thing", "_law_purse_here", "_law_most"]:List Str)) (src:=[none,some 0,some 3]) (g:=(acp 0)) rfl rfl ⟨by rfl,by decide +kernel,by decide +kernel,by decide +kernel,by rfl,by decide +kernel⟩ rfl (piR M.acO (paK (pvL 2) aai)) (λC s H ex=>(pgL 0 (show List.Nodup (["_law_thing", "_law_purse_here", "_law_most"]:List Str) by decide +kernel))) (λC s H ex=>(pcF (E:=E0) (ahv.mono (by decide)) hr ab5 (paK (pcF (E:=E0) (ac5.mono (by decide)) hr ab5 (paK (pvC 1) (paK (aaY abq (pvC 2) aan) aai))) (paK (pvC 2) aai))))) aai)))))) (aap (aaB (pvL 4))))))))),λt hK hx=>(aat (aa0 (adk hK (aao _) (abt hK (aag (aag aaw)) (aac (aad 0) (aac (aao _) aaj)))) (aaq 1) abQ) (aat (aa0 (adk hK (aao _) (abt hK (aag (aag aaw)) (aac (aad 0) (aac (aao _) aaj)))) (aaq 2) abQ) (aat (acL (abd (x_eq hK (abt hK (aag (aag aaw)) (aac (aad 0) (aac (aao _) aaj))) (aao _))) (aaC (abt hK (aag (aag (aag aaw))) (aac (aad 0) (aac (aad 1) (aac (aad 2) aaj))))) abB) (aat (aa0 (adk hK (aao _) (abt hK (aag (aag aaw)) (aac (aad 0) (aac (aao _) aaj)))) (aaq 3) abQ) (aat (afy 4 (adb aaj)) (aat (aed (λt1 h1 k1=>(aec (aeG (aac (aad 1) aaj)) (aaq 5) abQ (acu (akA 4 (acv (aeG (aac (aad 2) aaj)) (acA (by decide)) (acB (js:=[0]) (by decide)) abQ (λt2 h2 k2=>(aaq 0)) (λt2 h2 k2=>(abe (h2.trans (h1.trans hK)) k2 (aag (aag aaw)) (aac (abt (h2.trans (h1.trans hK)) (aag (aag aaw)) (aac (aad 1) (aac (adk (h2.trans (h1.trans hK)) (aad 2) (aao _)) aaj))) (aac (aad 2) aaj)))))))))) (aaC (aad 4))))))))⟩)
theorem an9(a:At K mg "_law_weights" aht) (M:Nm mg) (ac5:DfX P w K mg base 1 "_law_draw" (["_law_purse_here", "_law_many"]:List Str) (spR K 2 0 abh)) (ahv:DfX P w K mg base 1 "_law_frac" (["_law_top", "_law_bottom"]:List Str) (spP K cl 2 adg)):DfX P w K mg base 2 "_law_weights" (["_law_purse_here", "_law_lists_here"]:List Str) (spR K 2 0 aeO):=by
 have S:aaz (["_law_purse_here", "_law_lists_here", "_law_weights_here", "_law_place", "_law_kind", "_law_top"]:List Str) (["_law_purse_here", "_law_lists_here"]:List Str) (aal aht):=⟨rfl,rfl,rfl,by decide +kernel,rfl,by decide +kernel,by decide +kernel⟩
 exact a.dfR 0 S (cl:=cl) (by decide) (λ_ _ _ _ _ _ us hl=>match us,hl with | [_,_],_=>by kernel_rfl) (λf cdv A outer s H E hr=>⟨_,(aak (psL 2 S.nd (ac2 aai)) (aak (PS.nox (aea PassesOwn.never rfl (piR M.acO (paK (pvL 1) aai)) (pgL 3 S.nd) (aak (psL 4 S.nd (pcF (E:=E0) (ac5.mono (by decide)) hr ab5 (paK (pvL 0) (paK aan aai)))) (aak (psL 5 S.nd (aa8 aaF (ac2 (paK aan (paK (aaY abq aan (pcF (E:=E0) (ac5.mono (by decide)) hr ab5 (paK (pvL 0) (paK aan aai)))) (paK (aaY abq aan (pcF (E:=E0) (ac5.mono (by decide)) hr ab5 (paK (pvL 0) (paK (aaY ah5 (aaY ah6 aan aan) aan) aai)))) aai)))) (pvL 4) (λ_ _=>rfl))) (aap (psE (ajD PySem.F.plainAttrs_list PySem.F.slot_list_append PySem.F.type_list_append acH (pvL 2) (acG (pcF (E:=E0) (ahv.mono (by decide)) hr ab5 (paK (pvL 5) (paK (aa8 aaF (ac2 (paK aan (paK (aaY abq aan (pcF (E:=E0) (ac5.mono (by decide)) hr ab5 (paK (pvL 0) (paK aan aai)))) (paK (aaY abq aan (pcF (E:=E0) (ac5.mono (by decide)) hr ab5 (paK (pvL 0) (paK (aaY ah5 (aaY ah6 aan aan) aan) aai)))) aai)))) (pvL 4) (λ_ _=>rfl)) aai))) aai)))))))) (aap (aaB (pvL 2))))),λt hK hx=>(aat (afy 2 (adb aaj)) (aat (aed (λt1 h1 k1=>(aec (aeG (aac (aad 1) aaj)) (aaq 3) abQ (aat (aa0 (abt (h1.trans hK) (aag (aag aaw)) (aac (aad 0) (aac (aao _) aaj))) (aaq 4) abQ) (aat (aa0 (acE (h1.trans hK) (adb (aac (aao _) (aac (adk (h1.trans hK) (aao _) (abt (h1.trans hK) (aag (aag aaw)) (aac (aad 0) (aac (aao _) aaj)))) (aac (adk (h1.trans hK) (aao _) (abt (h1.trans hK) (aag (aag aaw)) (aac (aad 0) (aac (anF (h1.trans hK) (anG (h1.trans hK) (aao _) (aao _)) (aao _)) aaj)))) aaj)))) (aad 4)) (aaq 5) abQ) (acu (akA 2 (abe (h1.trans hK) k1 (aag (aag aaw)) (aac (aad 5) (aac (acE (h1.trans hK) (adb (aac (aao _) (aac (adk (h1.trans hK) (aao _) (abt (h1.trans hK) (aag (aag aaw)) (aac (aad 0) (aac (aao _) aaj)))) (aac (adk (h1.trans hK) (aao _) (abt (h1.trans hK) (aag (aag aaw)) (aac (aad 0) (aac (anF (h1.trans hK) (anG (h1.trans hK) (aao _) (aao _)) (aao _)) aaj)))) aaj)))) (aad 4)) aaj)))))))))) (aaC (aad 2))))⟩)
theorem aqc(a:At K mg "_law_within" afF) (M:Nm mg) (akM:DfX P w K mg base 2 "_law_other_way" (["_law_worths"]:List Str) (spP K cl 1 acw)) (ad6:DfX P w K mg base 8 "thing_worths" (["book", "rule"]:List Str) (spP K cl 2 aaP)) (af8:DfX P w K mg base 9 "best_few" (["book", "rule", "count"]:List Str) (spP K cl 3 abR)):DfX P w K mg base 10 "_law_within" (["_law_book", "_law_rule", "_law_layers"]:List Str) (spP K cl 3 aeo):=by
 have S:aaz (["_law_book", "_law_rule", "_law_layers", "_law_turned", "_law_count", "_law_first", "_law_layer", "_law_few"]:List Str) (["_law_book", "_law_rule", "_law_layers"]:List Str) (aal afF):=⟨rfl,rfl,rfl,by decide +kernel,rfl,by decide +kernel,by decide +kernel⟩
 exact a.dfP S (cl:=cl) (by decide) (λ_ _ _ _ _ _ us hl=>match us,hl with | [_,_,_],_=>by kernel_rfl) (λf cdv A outer s H E hr=>⟨_,(aak (psL 3 S.nd (pcF (E:=E) (akM.mono (by decide)) hr aau (paK (pcF (E:=E) (ad6.mono (by decide)) hr aau (paK (pvL 0) (paK (pvL 1) aai))) aai))) (aak (PS.nox (aea PassesOwn.never rfl (piR M.acO (paK (aaY abq (pcB aaR M.adq (paK (aa8 aaF (pvL 0) aan (λ_ _=>rfl)) aai)) aan) aai)) (pgL 4 S.nd) (aak (psC 5 S.nd rfl (ac2 aai)) (aak (aea PassesOwn.never rfl (acr (agK awI (pvL 2) aiB (aiC (pvL 4)))) (pgL 6 S.nd) (aap (psC 5 S.nd rfl (aaY abq (pvC 5) (pvL 6))))) (aak (ami (i:=7) (sc:=aal afF) (No:=(["_law_book", "_law_rule", "_law_layers", "_law_turned", "_law_count", "_law_first", "_law_layer", "_law_few"]:List Str)) (N:=(["_law_thing", "_law_worth_here"]:List Str)) (src:=[none,none]) (g:=(awz K 2 (al6 (acp 0) (al6 (acp 1) awy)))) S.nd rfl (Or.inl rfl) rfl rfl ⟨by rfl,by decide +kernel,by decide +kernel,by decide +kernel,by rfl,by decide +kernel⟩ rfl (acr (pcF (E:=E0) (af8.mono (by decide)) hr ab5 (paK (pvL 0) (paK (pvL 1) (paK (pvL 4) aai))))) (λC s H ex=>(agX rfl (ab0 (pgL 0 (show List.Nodup (["_law_thing", "_law_worth_here"]:List Str) by decide +kernel)) (ab0 (pgL 1 (show List.Nodup (["_law_thing", "_law_worth_here"]:List Str) by decide +kernel)) afe)))) (λC s H ex=>(pvL 0))) (aap (acF (abn atD (pcB aaR M.adq (paK (agQ (sc:=aal afF) (No:=(["_law_book", "_law_rule", "_law_layers", "_law_turned", "_law_count", "_law_first", "_law_layer", "_law_few"]:List Str)) (N:=(["_law_thing", "_law_first"]:List Str)) (src:=[none,some 5]) (g:=(acp 0)) rfl rfl ⟨by rfl,by decide +kernel,by decide +kernel,by decide +kernel,by rfl,by decide +kernel⟩ rfl (acr (aaY abq (pvL 7) (agK awI (pvL 3) aiB (aiC (pvL 4))))) (λC s H ex=>(pgL 0 (show List.Nodup (["_law_thing", "_law_first"]:List Str) by decide +kernel))) (λC s H ex=>(abn (ag6 hr.units) (pvL 0) (pvC 1) (by with_unfolding_all rfl))) (λC s H ex=>(pvL 0))) aai)) aan (abw _)) (aap (aaB afp)) aa9))))))) (aap (aaB afp)))),λt hK hx=>(aat (aa0 (aaS hK hx (aag aaw) (aac (aaS hK hx (aag (aag aaw)) (aac (aad 0) (aac (aad 1) aaj))) aaj)) (aaq 3) abQ) (aat (aed (λt1 h1 k1=>(aec (aeG (aac (adk (h1.trans hK) (x_len (h1.trans hK) (aac (acE (h1.trans hK) (aad 0) (aao _)) aaj)) (aao _)) aaj)) (aaq 4) abQ (aat (aa0 (adb aaj) (aaq 5) abQ) (aat (aec (acz (h1.trans hK) (apF (h1.trans hK) (aad 2) apE (aiK (aad 4)))) (aaq 6) abQ (aa0 (adk (h1.trans hK) (aad 5) (aad 6)) (aaq 5) abQ)) (aat (aa0 (acv (acz (h1.trans hK) (abe (h1.trans hK) k1 (aag (aag (aag aaw))) (aac (aad 0) (aac (aad 1) (aac (aad 4) aaj))))) (acA (by decide)) (acB (js:=[0,1]) (by decide)) (arZ (afC abQ (afC abQ ahi))) (λt2 h2 k2=>(ahd (h2.trans (h1.trans hK)) (ab1 (aaq 0) (ab1 (aaq 1) afi)))) (λt2 h2 k2=>(aad 0))) (aaq 7) abQ) (acL (abd (ay7 (h1.trans hK) (x_len (h1.trans hK) (aac (afB (acz (h1.trans hK) (adk (h1.trans hK) (aad 7) (apF (h1.trans hK) (aad 3) apE (aiK (aad 4))))) (acA (by decide)) (acB (js:=[0]) (by decide)) abQ (λt3 h3 k3=>(aaq 0)) (λt3 h3 k3=>(abd (akz (h3.trans (h1.trans hK)) (aad 0) (aad 1)))) (λt3 h3 k3=>(aad 0))) aaj)) (aao _))) (aaC (afQ _)) abB))))))) (aaC (afQ _))))⟩)
theorem asx(a:At K mg "_law_worth" akI) (M:Nm mg) (ac5:DfX P w K mg base 1 "_law_draw" (["_law_purse_here", "_law_many"]:List Str) (spR K 2 0 abh)) (ahv:DfX P w K mg base 1 "_law_frac" (["_law_top", "_law_bottom"]:List Str) (spP K cl 2 adg)):DfX P w K mg base 2 "_law_worth" (["_law_purse_here", "_law_before"]:List Str) (spR K 2 0 afk):=by
 have S:aaz (["_law_purse_here", "_law_before", "_law_way", "_law_bottom", "_law_top"]:List Str) (["_law_purse_here", "_law_before"]:List Str) (aal akI):=⟨rfl,rfl,rfl,by decide +kernel,rfl,by decide +kernel,by decide +kernel⟩
 exact a.dfR 0 S (cl:=cl) (by decide) (λ_ _ _ _ _ _ us hl=>match us,hl with | [_,_],_=>by kernel_rfl) (λf cdv A outer s H E hr=>⟨_,(aak (psL 2 S.nd (pcF (E:=E) (ac5.mono (by decide)) hr aau (paK (pvL 0) (paK aan aai)))) (aak (acF (abn (ajG hr.units) (pvL 2) aan (abw _)) (aap (aaB (agk (paK (pvL 2) (paK aan aai))))) aa9) (aak (acF (abn (ajG hr.units) (pvL 2) aan (abw _)) (aap (aaB (pcF (E:=E) (ahv.mono (by decide)) hr aau (paK (pcF (E:=E) (ac5.mono (by decide)) hr aau (paK (pvL 0) (paK aan aai))) (paK aan aai))))) aa9) (aak (acF (abn (adQ hr.units) (pvL 2) aan (abw _)) (aak (psL 3 S.nd (aaY abq aan (pcF (E:=E) (ac5.mono (by decide)) hr aau (paK (pvL 0) (paK (aaY ah5 (aaY ah6 aan aan) aan) aai))))) (aap (aaB (pcF (E:=E) (ahv.mono (by decide)) hr aau (paK (pcF (E:=E) (ac5.mono (by decide)) hr aau (paK (pvL 0) (paK (aaY abq (pvL 3) aan) aai))) (paK (pvL 3) aai)))))) aa9) (aak (alh (aa8 aaF (aaY abq (pvL 1) (axF (G:=nlK K) (Ts:=[.tup [.int 1,.int 2]]) (by kernel_rfl))) (pcF (E:=E) (ac5.mono (by decide)) hr aau (paK (pvL 0) (paK (aaY abq (pcB aaR M.adq (paK (pvL 1) aai)) aan) aai))) (λ_ _=>rfl)) (agX rfl (ab0 (pgL 4 S.nd) (ab0 (pgL 3 S.nd) afe)))) (aak (acF (abn (adQ hr.units) (pvL 2) aan (abw _)) (aap (aaB (agk (paK (pvL 4) (paK (pvL 3) aai))))) aa9) (aap (aaB (pcF (E:=E) (ahv.mono (by decide)) hr aau (paK (pcB (ane rfl) M.axP (paK (aaY abq (pvL 4) aan) (paK (pvL 3) aai))) (paK (pvL 3) aai))))))))))),λt hK hx=>(aat (aa0 (abt hK (aag (aag aaw)) (aac (aad 0) (aac (aao _) aaj))) (aaq 2) abQ) (aat (acL (abd (x_lt hK (aad 2) (aao _))) (aaC (ag9 (aac (aad 2) (aac (aao _) aaj)))) abB) (aat (acL (abd (x_lt hK (aad 2) (aao _))) (aaC (aaS hK hx (aag (aag aaw)) (aac (abt hK (aag (aag aaw)) (aac (aad 0) (aac (aao _) aaj))) (aac (aao _) aaj)))) abB) (aat (acL (abd (x_eq hK (aad 2) (aao _))) (aat (aa0 (adk hK (aao _) (abt hK (aag (aag aaw)) (aac (aad 0) (aac (anF hK (anG hK (aao _) (aao _)) (aao _)) aaj)))) (aaq 3) abQ) (aaC (aaS hK hx (aag (aag aaw)) (aac (abt hK (aag (aag aaw)) (aac (aad 0) (aac (adk hK (aad 3) (aao _)) aaj))) (aac (aad 3) aaj))))) abB) (aat (aa0 (acE hK (adk hK (aad 1) (axG hK)) (abt hK (aag (aag aaw)) (aac (aad 0) (aac (adk hK (x_len hK (aac (aad 1) aaj)) (aao _)) aaj)))) (ahd hK (ab1 (aaq 4) (ab1 (aaq 3) afi))) (arZ (afC abQ (afC abQ ahi)))) (aat (acL (abd (x_eq hK (aad 2) (aao _))) (aaC (ag9 (aac (aad 4) (aac (aad 3) aaj)))) abB) (aaC (aaS hK hx (aag (aag aaw)) (aac (axz hK (aac (adk hK (aad 4) (aao _)) (aac (aad 3) aaj))) (aac (aad 3) aaj))))))))))⟩)
theorem ahT(a:At K mg "are_weights" ado) (M:Nm mg) (XT:apa K) (aep:DfX P w K mg base 2 "is_fraction" (["thing"]:List Str) (spP K cl 1 abE)):DfX P w K mg base 3 "are_weights" (["thing", "many"]:List Str) (spP K cl 2 adn):=by
 have S:aaz (["thing", "many"]:List Str) (["thing", "many"]:List Str) (aal ado):=⟨rfl,rfl,rfl,by decide +kernel,rfl,by decide +kernel,by decide +kernel⟩
 exact a.dfP S (cl:=cl) (by decide) (λ_ _ _ _ _ _ us hl=>match us,hl with | [_,_],_=>by kernel_rfl) (λf cdv A outer s H E hr=>⟨_,(aak (acF (PW.pt (am8 (adA (abV (pcI XT.o .list (pvL 0) M.ab9 M.ajT) (by intro _; rfl))) (ajt (abn (aib hr.units) (pcB aaR M.adq (paK (pvL 0) aai)) (pvL 1) (abw _))))) (aap (aaB afp)) aa9) (aap (aaB (pcB (agM rfl) M.aqa (paK (acI (sc:=aal ado) (No:=(["thing", "many"]:List Str)) (N:=(["part"]:List Str)) (src:=[none]) (g:=(acp 0)) rfl rfl ⟨by rfl,by decide +kernel,by decide +kernel,by decide +kernel,by rfl,by decide +kernel⟩ rfl (acr (pvL 0)) (λC s H ex=>(pgL 0 (show List.Nodup (["part"]:List Str) by decide +kernel))) (λC s H ex=>(agW (pcF (E:=E0) (aep.mono (by decide)) hr ab5 (paK (pvL 0) aai)) (ah4 (adX arl (aa8 aaF (pvL 0) aan (λ_ _=>rfl)) aan (abw _)))))) aai))))),λt hK hx=>(aat (acL (anx (adD (ade hK (ahc hK .list (aad 0)))) (abd (atk hK (x_len hK (aac (aad 0) aaj)) (aad 1)))) (aaC (afQ _)) abB) (aaC (apQ hK (aac (acv (acz hK (aad 0)) (acA (by decide)) (acB (js:=[0]) (by decide)) abQ (λt1 h1 k1=>(aaq 0)) (λt1 h1 k1=>(ahb (abe (h1.trans hK) k1 (aag aaw) (aac (aad 0) aaj)) (x_ge (h1.trans hK) (acE (h1.trans hK) (aad 0) (aao _)) (aao _))))) aaj))))⟩)
theorem ai1(a:At K mg "are_worths" adS) (M:Nm mg) (XT:apa K) (amq:DfX P w K mg base 3 "is_worth" (["thing"]:List Str) (spP K cl 1 ace)):DfX P w K mg base 4 "are_worths" (["thing", "most"]:List Str) (spP K cl 2 ab6):=by
 have S:aaz (["thing", "most"]:List Str) (["thing", "most"]:List Str) (aal adS):=⟨rfl,rfl,rfl,by decide +kernel,rfl,by decide +kernel,by decide +kernel⟩
 exact a.dfP S (cl:=cl) (by decide) (λ_ _ _ _ _ _ us hl=>match us,hl with | [_,_],_=>by kernel_rfl) (λf cdv A outer s H E hr=>⟨_,(aak (acF (PW.pt (am8 (adA (abV (pcI XT.o .list (pvL 0) M.ab9 M.ajT) (by intro _; rfl))) (ajt (adA (alm ahM ahM aan (pcB aaR M.adq (paK (pvL 0) aai)) (pvL 1)))))) (aap (aaB afp)) aa9) (aap (aaB (pcB (agM rfl) M.aqa (paK (acI (sc:=aal adS) (No:=(["thing", "most"]:List Str)) (N:=(["part"]:List Str)) (src:=[none]) (g:=(acp 0)) rfl rfl ⟨by rfl,by decide +kernel,by decide +kernel,by decide +kernel,by rfl,by decide +kernel⟩ rfl (acr (pvL 0)) (λC s H ex=>(pgL 0 (show List.Nodup (["part"]:List Str) by decide +kernel))) (λC s H ex=>(pcF (E:=E0) (amq.mono (by decide)) hr ab5 (paK (pvL 0) aai)))) aai))))),λt hK hx=>(aat (acL (anx (adD (ade hK (ahc hK .list (aad 0)))) (adD (abd (ahj hK ahP ahP ahR ahR (aao _) (x_len hK (aac (aad 0) aaj)) (aad 1))))) (aaC (afQ _)) abB) (aaC (apQ hK (aac (acv (acz hK (aad 0)) (acA (by decide)) (acB (js:=[0]) (by decide)) abQ (λt1 h1 k1=>(aaq 0)) (λt1 h1 k1=>(abe (h1.trans hK) k1 (aag aaw) (aac (aad 0) aaj)))) aaj))))⟩)
theorem aqd(a:At K mg "beats" ahs) (M:Nm mg) (ags:DfX P w K mg base 1 "frac_below" (["one", "other"]:List Str) (spP K cl 2 abT)):DfX P w K mg base 2 "beats" (["book", "one", "other"]:List Str) (spP K cl 3 afX):=by
 have S:aaz (["book", "one", "other"]:List Str) (["book", "one", "other"]:List Str) (aal ahs):=⟨rfl,rfl,rfl,by decide +kernel,rfl,by decide +kernel,by decide +kernel⟩
 exact a.dfP S (cl:=cl) (by decide) (λ_ _ _ _ _ _ us hl=>match us,hl with | [_,_,_],_=>by kernel_rfl) (λf cdv A outer s H E hr=>⟨_,(aak (acF (abV (pcB (aiT rfl) M.asp (paK (acI (sc:=aal ahs) (No:=(["book", "one", "other"]:List Str)) (N:=(["row", "one", "other"]:List Str)) (src:=[none,some 1,some 2]) (g:=(acp 0)) rfl rfl ⟨by rfl,by decide +kernel,by decide +kernel,by decide +kernel,by rfl,by decide +kernel⟩ rfl (acr (pvL 0)) (λC s H ex=>(pgL 0 (show List.Nodup (["row", "one", "other"]:List Str) by decide +kernel))) (λC s H ex=>(pcF (E:=E0) (ags.mono (by decide)) hr ab5 (paK (aa8 aaF (pvL 0) (pvC 1) (λ_ _=>rfl)) (paK (aa8 aaF (pvL 0) (pvC 2) (λ_ _=>rfl)) aai))))) aai)) (by intro _; rfl)) (aap (aaB afp)) aa9) (aap (aaB (pcB (aiT rfl) M.asp (paK (acI (sc:=aal ahs) (No:=(["book", "one", "other"]:List Str)) (N:=(["row", "other", "one"]:List Str)) (src:=[none,some 2,some 1]) (g:=(acp 0)) rfl rfl ⟨by rfl,by decide +kernel,by decide +kernel,by decide +kernel,by rfl,by decide +kernel⟩ rfl (acr (pvL 0)) (λC s H ex=>(pgL 0 (show List.Nodup (["row", "other", "one"]:List Str) by decide +kernel))) (λC s H ex=>(pcF (E:=E0) (ags.mono (by decide)) hr ab5 (paK (aa8 aaF (pvL 0) (pvC 1) (λ_ _=>rfl)) (paK (aa8 aaF (pvL 0) (pvC 2) (λ_ _=>rfl)) aai))))) aai))))),λt hK hx=>(aat (acL (ade hK (ar5 hK (aac (acv (acz hK (aad 0)) (acA (by decide)) (acB (js:=[0]) (by decide)) abQ (λt1 h1 k1=>(aaq 0)) (λt1 h1 k1=>(abe (h1.trans hK) k1 (aag (aag aaw)) (aac (acE (h1.trans hK) (aad 0) (aad 1)) (aac (acE (h1.trans hK) (aad 0) (aad 2)) aaj))))) aaj))) (aaC (afQ _)) abB) (aaC (ar5 hK (aac (acv (acz hK (aad 0)) (acA (by decide)) (acB (js:=[0]) (by decide)) abQ (λt2 h2 k2=>(aaq 0)) (λt2 h2 k2=>(abe (h2.trans hK) k2 (aag (aag aaw)) (aac (acE (h2.trans hK) (aad 0) (aad 1)) (aac (acE (h2.trans hK) (aad 0) (aad 2)) aaj))))) aaj))))⟩)
theorem akN(a:At K mg "best_few" ae0) (M:Nm mg) (adN:DfX P w K mg base 8 "need_book_rule_and_count" (["book", "rule", "count"]:List Str) (spP K cl 3 aaN)) (afl:DfX P w K mg base 6 "worths_by" (["book", "rule"]:List Str) (spP K cl 2 ab8)) (ac8:DfX P w K mg base 4 "falling_places" (["fractions"]:List Str) (spP K cl 1 aaO)):DfX P w K mg base 9 "best_few" (["book", "rule", "count"]:List Str) (spP K cl 3 abR):=by
 have S:aaz (["book", "rule", "count", "worths"]:List Str) (["book", "rule", "count"]:List Str) (aal ae0):=⟨rfl,rfl,rfl,by decide +kernel,rfl,by decide +kernel,by decide +kernel⟩
 exact a.dfP S (cl:=cl) (by decide) (λ_ _ _ _ _ _ us hl=>match us,hl with | [_,_,_],_=>by kernel_rfl) (λf cdv A outer s H E hr=>⟨_,(aak (psE (pcF (E:=E) (adN.mono (by decide)) hr aau (paK (pvL 0) (paK (pvL 1) (paK (pvL 2) aai))))) (aak (psC 3 S.nd rfl (pcF (E:=E) (afl.mono (by decide)) hr aau (paK (pvL 0) (paK (pvL 1) aai)))) (aap (aaB (acI (sc:=aal ae0) (No:=(["book", "rule", "count", "worths"]:List Str)) (N:=(["thing", "worths"]:List Str)) (src:=[none,some 3]) (g:=(acp 0)) rfl rfl ⟨by rfl,by decide +kernel,by decide +kernel,by decide +kernel,by rfl,by decide +kernel⟩ rfl (acr (agK awI (pcF (E:=E) (ac8.mono (by decide)) hr aau (paK (pvC 3) aai)) aiB (aiC (pvL 2)))) (λC s H ex=>(pgL 0 (show List.Nodup (["thing", "worths"]:List Str) by decide +kernel))) (λC s H ex=>(agk (paK (pvL 0) (paK (aa8 aaF (pvC 1) (pvL 0) (λ_ _=>rfl)) aai))))))))),λt hK hx=>(aat (acu (aaS hK hx (aag (aag (aag aaw))) (aac (aad 0) (aac (aad 1) (aac (aad 2) aaj))))) (aat (aa0 (aaS hK hx (aag (aag aaw)) (aac (aad 0) (aac (aad 1) aaj))) (aaq 3) abQ) (aaC (acv (acz hK (apF hK (aaS hK hx (aag aaw) (aac (aad 3) aaj)) apE (aiK (aad 2)))) (acA (by decide)) (acB (js:=[0]) (by decide)) abQ (λt1 h1 k1=>(aaq 0)) (λt1 h1 k1=>(ag9 (aac (aad 0) (aac (acE (h1.trans hK) (aad 1) (aad 0)) aaj))))))))⟩)
theorem ahU(a:At K mg "book_layers" adp) (M:Nm mg) (adJ:DfX P w K mg base 6 "need_book" (["book"]:List Str) (spP K cl 1 abH)) (aer:DfX P w K mg base 3 "unbeaten_of" (["book", "things"]:List Str) (spP K cl 2 abF)):DfX P w K mg base 7 "book_layers" (["book"]:List Str) (spP K cl 1 acf):=by
 have S:aaz (["book", "layers", "rest", "layer"]:List Str) (["book"]:List Str) (aal adp):=⟨rfl,rfl,rfl,by decide +kernel,rfl,by decide +kernel,by decide +kernel⟩
 exact a.dfP S (cl:=cl) (by decide) (λ_ _ _ _ _ _ us hl=>match us,hl with | [_],_=>by kernel_rfl) (λf cdv A outer s H E hr=>⟨_,(aak (psE (pcF (E:=E) (adJ.mono (by decide)) hr aau (paK (pvL 0) aai))) (aak (psL 1 S.nd (ac2 aai)) (aak (psL 2 S.nd (alL hr M.ajT M.acO (paK (pcB aaR M.adq (paK (aa8 aaF (pvL 0) aan (λ_ _=>rfl)) aai)) aai))) (aak (PS.nox (aix PassesOwn.never (abV (pvL 2) (by intro _; rfl)) (aak (psC 3 S.nd rfl (pcF (E:=E0) (aer.mono (by decide)) hr ab5 (paK (pvL 0) (paK (pvL 2) aai)))) (aak (psE (ajD PySem.F.plainAttrs_list PySem.F.slot_list_append PySem.F.type_list_append acH (pvL 1) (acG (pvC 3) aai))) (aap (aku (i:=2) (sc:=aal adp) (No:=(["book", "layers", "rest", "layer"]:List Str)) (N:=(["thing", "layer"]:List Str)) (src:=[none,some 3]) (g:=(acp 0)) S.nd rfl (Or.inl rfl) rfl rfl ⟨by rfl,by decide +kernel,by decide +kernel,by decide +kernel,by rfl,by decide +kernel⟩ rfl (acr (pvL 2)) (λC s H ex=>(pgL 0 (show List.Nodup (["thing", "layer"]:List Str) by decide +kernel))) (λC s H ex=>(abn (ag6 hr.units) (pvL 0) (pvC 1) (by with_unfolding_all rfl))) (λC s H ex=>(pvL 0)))))))) (aap (aaB (pvL 1))))))),λt hK hx=>(aat (acu (aaS hK hx (aag aaw) (aac (aad 0) aaj))) (aat (afy 1 (adb aaj)) (aat (aa0 (au6 (aac (x_len hK (aac (acE hK (aad 0) (aao _)) aaj)) aaj)) (aaq 2) abQ) (aat (aed (λt1 h1 k1=>(aiM (fuL 2) (ade (h1.trans hK) (aad 2)) (aat (aa0 (abe (h1.trans hK) k1 (aag (aag aaw)) (aac (aad 0) (aac (aad 2) aaj))) (aaq 3) abQ) (aat (acu (akA 1 (aad 3))) (aa0 (afB (acz (h1.trans hK) (aad 2)) (acA (by decide)) (acB (js:=[0]) (by decide)) abQ (λt2 h2 k2=>(aaq 0)) (λt2 h2 k2=>(abd (akz (h2.trans (h1.trans hK)) (aad 0) (aad 1)))) (λt2 h2 k2=>(aad 0))) (aaq 2) abQ)))))) (aaC (aad 1))))))⟩)
theorem agz(a:At K mg "common_bottom" adH) (M:Nm mg) (abY:DfX P w K mg base 1 "common_divisor" (["one", "other"]:List Str) (spP K cl 2 aa3)):DfX P w K mg base 2 "common_bottom" (["fractions"]:List Str) (spP K cl 1 ab7):=by
 have S:aaz (["fractions", "bottom", "top", "own"]:List Str) (["fractions"]:List Str) (aal adH):=⟨rfl,rfl,rfl,by decide +kernel,rfl,by decide +kernel,by decide +kernel⟩
 exact a.dfP S (cl:=cl) (by decide) (λ_ _ _ _ _ _ us hl=>match us,hl with | [_],_=>by kernel_rfl) (λf cdv A outer s H E hr=>⟨_,(aak (psL 1 S.nd aan) (aak (PS.nox (aea PassesOwn.never rfl (acr (pvL 0)) (agX rfl (ab0 (pgL 2 S.nd) (ab0 (pgL 3 S.nd) afe))) (aap (psL 1 S.nd (aaY aeh (aaY aci (pvL 1) (pvL 3)) (pcF (E:=E0) (abY.mono (by decide)) hr ab5 (paK (pvL 1) (paK (pvL 3) aai)))))))) (aap (aaB (pvL 1))))),λt hK hx=>(aat (aa0 (aao _) (aaq 1) abQ) (aat (aed (λt1 h1 k1=>(aec (acz (h1.trans hK) (aad 0)) (ahd (h1.trans hK) (ab1 (aaq 2) (ab1 (aaq 3) afi))) (arZ (afC abQ (afC abQ ahi))) (aa0 (akx (h1.trans hK) (ae2 (h1.trans hK) (aad 1) (aad 3)) (abe (h1.trans hK) k1 (aag (aag aaw)) (aac (aad 1) (aac (aad 3) aaj)))) (aaq 1) abQ)))) (aaC (aad 1))))⟩)
theorem af9(a:At K mg "common_divisor" ac7) (M:Nm mg):DfX P w K mg base 1 "common_divisor" (["one", "other"]:List Str) (spP K cl 2 aa3):=by
 have S:aaz (["one", "other"]:List Str) (["one", "other"]:List Str) (aal ac7):=⟨rfl,rfl,rfl,by decide +kernel,rfl,by decide +kernel,by decide +kernel⟩
 exact a.dfP S (cl:=cl) (by decide) (λ_ _ _ _ _ _ us hl=>match us,hl with | [_,_],_=>by kernel_rfl) (λf cdv A outer s H E hr=>⟨_,(aak (PS.nox (aix PassesOwn.never (abn (aib hr.units) (pvL 1) aan (abw _)) (aap (aqC (i:=0) (j:=1) rfl S.nd rfl rfl (by decide) rfl rfl (paK (pvL 1) (paK (aaY afh (pvL 0) (pvL 1)) aai)) rfl)))) (aap (aaB (pcB aph M.axO (paK (pvL 0) aai))))),λt hK hx=>(aat (aed (λt1 h1 k1=>(aiM (fuI 1) (abd (atk (h1.trans hK) (aad 1) (aao _))) (aqO 0 1 (aac (aad 1) (aac (aky (h1.trans hK) (aad 0) (aad 1)) aaj)))))) (aaC (axx hK (aac (aad 0) aaj))))⟩)
theorem aga{c_ P_:Addr}(a:AtL K mg "falling_places" acs c_) (L:ap7 K mg base "falling_places" c_ P_) (M:Nm mg) (ae4:DfX P w K mg base 3 "tops_on_one_bottom" (["fractions"]:List Str) (spP K cl 1 abO)):DfX P w K mg base 4 "falling_places" (["fractions"]:List Str) (spP K cl 1 aaO):=by
 have S:aaz (["fractions", "tops"]:List Str) (["fractions"]:List Str) (aal acs):=⟨rfl,rfl,rfl,by decide +kernel,rfl,by decide +kernel,by decide +kernel⟩
 exact a.azR S (cl:=cl) (by decide) (λ_ _ _ _ _ _ us hl=>match us,hl with | [_],_=>by kernel_rfl) (λf A outer s H E hr=>⟨_,(aak (psC 1 S.nd rfl (pcF (E:=E) (ae4.mono (by decide)) hr aau (paK (pvL 0) aai))) (aap (aaB (ap3 (sc:=aal acs) (No:=(["fractions", "tops"]:List Str)) (x := "place") (Ns:=(["tops"]:List Str)) (src:=[some 1]) au1 (λ_ h=>h) ase hr M.aqb M.acO rfl rfl ⟨⟨by rfl,by decide +kernel,by decide +kernel,by decide +kernel,by rfl,by decide +kernel⟩,by decide +kernel,by rfl,by rfl,by rfl⟩ rfl L.hd L.bm rfl (paK (pcB aaR M.adq (paK (pvC 1) aai)) aai) (λ_ _ _ _=>by kernel_rfl) (λA f cd s H=>(apg alj (aa8 aaF (pvF 1) (pvL 0) (λ_ _=>rfl)))))))),λt hK hx=>(aat (aa0 (aaS hK hx (aag aaw) (aac (aad 0) aaj)) (aaq 1) abQ) (aaC (ash L hK (aac (x_len hK (aac (aad 1) aaj)) aaj) (axL aqL (axK auk (aqW 1) (aqW 0))))))⟩)
theorem ai2(a:At K mg "frac_below" aeL) (M:Nm mg):DfX P w K mg base 1 "frac_below" (["one", "other"]:List Str) (spP K cl 2 abT):=by
 have S:aaz (["one", "other"]:List Str) (["one", "other"]:List Str) (aal aeL):=⟨rfl,rfl,rfl,by decide +kernel,rfl,by decide +kernel,by decide +kernel⟩
 exact a.dfP S (cl:=cl) (by decide) (λ_ _ _ _ _ _ us hl=>match us,hl with | [_,_],_=>by kernel_rfl) (λf cdv A outer s H E hr=>⟨_,(aap (aaB (adX (ajG hr.units) (aaY aci (aa8 aaF (pvL 0) aan (λ_ _=>rfl)) (aa8 aaF (pvL 1) aan (λ_ _=>rfl))) (aaY aci (aa8 aaF (pvL 1) aan (λ_ _=>rfl)) (aa8 aaF (pvL 0) aan (λ_ _=>rfl))) (abw _)))),λt hK hx=>(aaC (x_lt hK (ae2 hK (acE hK (aad 0) (aao _)) (acE hK (aad 1) (aao _))) (ae2 hK (acE hK (aad 1) (aao _)) (acE hK (aad 0) (aao _)))))⟩)
theorem akO(a:At K mg "frac_sum" afZ) (M:Nm mg) (aes:DfX P w K mg base 2 "fraction_of" (["top", "bottom"]:List Str) (spP K cl 2 abW)):DfX P w K mg base 3 "frac_sum" (["one", "other"]:List Str) (spP K cl 2 adx):=by
 have S:aaz (["one", "other"]:List Str) (["one", "other"]:List Str) (aal afZ):=⟨rfl,rfl,rfl,by decide +kernel,rfl,by decide +kernel,by decide +kernel⟩
 exact a.dfP S (cl:=cl) (by decide) (λ_ _ _ _ _ _ us hl=>match us,hl with | [_,_],_=>by kernel_rfl) (λf cdv A outer s H E hr=>⟨_,(aap (aaB (pcF (E:=E) (aes.mono (by decide)) hr aau (paK (aaY abq (aaY aci (aa8 aaF (pvL 0) aan (λ_ _=>rfl)) (aa8 aaF (pvL 1) aan (λ_ _=>rfl))) (aaY aci (aa8 aaF (pvL 1) aan (λ_ _=>rfl)) (aa8 aaF (pvL 0) aan (λ_ _=>rfl)))) (paK (aaY aci (aa8 aaF (pvL 0) aan (λ_ _=>rfl)) (aa8 aaF (pvL 1) aan (λ_ _=>rfl))) aai))))),λt hK hx=>(aaC (aaS hK hx (aag (aag aaw)) (aac (adk hK (ae2 hK (acE hK (aad 0) (aao _)) (acE hK (aad 1) (aao _))) (ae2 hK (acE hK (aad 1) (aao _)) (acE hK (aad 0) (aao _)))) (aac (ae2 hK (acE hK (aad 0) (aao _)) (acE hK (aad 1) (aao _))) aaj))))⟩)
theorem ai3(a:At K mg "frac_times" aeK) (M:Nm mg) (aes:DfX P w K mg base 2 "fraction_of" (["top", "bottom"]:List Str) (spP K cl 2 abW)):DfX P w K mg base 3 "frac_times" (["one", "other"]:List Str) (spP K cl 2 abD):=by
 have S:aaz (["one", "other"]:List Str) (["one", "other"]:List Str) (aal aeK):=⟨rfl,rfl,rfl,by decide +kernel,rfl,by decide +kernel,by decide +kernel⟩
 exact a.dfP S (cl:=cl) (by decide) (λ_ _ _ _ _ _ us hl=>match us,hl with | [_,_],_=>by kernel_rfl) (λf cdv A outer s H E hr=>⟨_,(aap (aaB (pcF (E:=E) (aes.mono (by decide)) hr aau (paK (aaY aci (aa8 aaF (pvL 0) aan (λ_ _=>rfl)) (aa8 aaF (pvL 1) aan (λ_ _=>rfl))) (paK (aaY aci (aa8 aaF (pvL 0) aan (λ_ _=>rfl)) (aa8 aaF (pvL 1) aan (λ_ _=>rfl))) aai))))),λt hK hx=>(aaC (aaS hK hx (aag (aag aaw)) (aac (ae2 hK (acE hK (aad 0) (aao _)) (acE hK (aad 1) (aao _))) (aac (ae2 hK (acE hK (aad 0) (aao _)) (acE hK (aad 1) (aao _))) aaj))))⟩)
theorem ahV(a:At K mg "fraction_of" aej) (M:Nm mg) (ae1:PyProof.Rows.OwnCls "NoBottom" (cl "NoBottom") bmV "ValueError.__new__" mg base) (abY:DfX P w K mg base 1 "common_divisor" (["one", "other"]:List Str) (spP K cl 2 aa3)):DfX P w K mg base 2 "fraction_of" (["top", "bottom"]:List Str) (spP K cl 2 abW):=by
 have S:aaz (["top", "bottom", "divisor"]:List Str) (["top", "bottom"]:List Str) (aal aej):=⟨rfl,rfl,rfl,by decide +kernel,rfl,by decide +kernel,by decide +kernel⟩
 exact a.dfP S (cl:=cl) (by decide) (λ_ _ _ _ _ _ us hl=>match us,hl with | [_,_],_=>by kernel_rfl) (λf cdv A outer s H E hr=>⟨_,(aak (acF (abn (adQ hr.units) (pvL 1) aan (abw _)) (aap (agN afv ae1 PySem.F.excBase_ValueError rfl ad9)) aa9) (aak (psL 2 S.nd (pcF (E:=E) (abY.mono (by decide)) hr aau (paK (pvL 0) (paK (pvL 1) aai)))) (aak (acF (abn (ajG hr.units) (pvL 1) aan (abw _)) (aap (psL 2 S.nd (apg alj (pvL 2)))) aa9) (aap (aaB (agk (paK (aaY aeh (pvL 0) (pvL 2)) (paK (aaY aeh (pvL 1) (pvL 2)) aai)))))))),λt hK hx=>(aat (acL (abd (x_eq hK (aad 1) (aao _))) (agO (λH'=>hx "NoBottom" H') (aey _)) abB) (aat (aa0 (aaS hK hx (aag (aag aaw)) (aac (aad 0) (aac (aad 1) aaj))) (aaq 2) abQ) (aat (acL (abd (x_lt hK (aad 1) (aao _))) (aa0 (auQ (aad 2)) (aaq 2) abQ) abB) (aaC (ag9 (aac (akx hK (aad 0) (aad 2)) (aac (akx hK (aad 1) (aad 2)) aaj)))))))⟩)
theorem amr(a:At K mg "is_book" aeM) (M:Nm mg) {aeP:V} (adU:Gk K mg "MOST_LISTS" aeP (.int 4)) {aeu:V} (adt:Gk K mg "MOST_THINGS" aeu (.int 12)) (XT:apa K) (ajU:DfX P w K mg base 4 "are_worths" (["thing", "most"]:List Str) (spP K cl 2 ab6)):DfX P w K mg base 5 "is_book" (["thing"]:List Str) (spP K cl 1 aeI):=by
 have S:aaz (["thing"]:List Str) (["thing"]:List Str) (aal aeM):=⟨rfl,rfl,rfl,by decide +kernel,rfl,by decide +kernel,by decide +kernel⟩
 exact a.dfP S (cl:=cl) (by decide) (λ_ _ _ _ _ _ us hl=>match us,hl with | [_],_=>by kernel_rfl) (λf cdv A outer s H E hr=>⟨_,(aak (acF (PW.pt (am8 (adA (abV (pcI XT.o .list (pvC 0) M.ab9 M.ajT) (by intro _; rfl))) (ajt (adA (alm ahM ahM aan (pcB aaR M.adq (paK (pvC 0) aai)) (pGk adU)))))) (aap (aaB afp)) aa9) (aak (acF (adA (abV (pcB (agM rfl) M.aqa (paK (acI (sc:=aal aeM) (No:=(["thing"]:List Str)) (N:=(["row"]:List Str)) (src:=[none]) (g:=(acp 0)) rfl rfl ⟨by rfl,by decide +kernel,by decide +kernel,by decide +kernel,by rfl,by decide +kernel⟩ rfl (acr (pvC 0)) (λC s H ex=>(pgL 0 (show List.Nodup (["row"]:List Str) by decide +kernel))) (λC s H ex=>(pcF (E:=E0) (ajU.mono (by decide)) hr ab5 (paK (pvL 0) (paK (pGk adt) aai))))) aai)) (by intro _; rfl))) (aap (aaB afp)) aa9) (aap (aaB (pcB (agM rfl) M.aqa (paK (acI (sc:=aal aeM) (No:=(["thing"]:List Str)) (N:=(["row", "thing"]:List Str)) (src:=[none,some 0]) (g:=(acp 0)) rfl rfl ⟨by rfl,by decide +kernel,by decide +kernel,by decide +kernel,by rfl,by decide +kernel⟩ rfl (acr (pvC 0)) (λC s H ex=>(pgL 0 (show List.Nodup (["row", "thing"]:List Str) by decide +kernel))) (λC s H ex=>(adX (adQ hr.units) (pcB aaR M.adq (paK (pvL 0) aai)) (pcB aaR M.adq (paK (aa8 aaF (pvC 1) aan (λ_ _=>rfl)) aai)) (abw _)))) aai)))))),λt hK hx=>(aat (acL (anx (adD (ade hK (ahc hK .list (aad 0)))) (adD (abd (ahj hK ahP ahP ahR ahR (aao _) (x_len hK (aac (aad 0) aaj)) (ar0 hK adU))))) (aaC (afQ _)) abB) (aat (acL (adD (ade hK (apQ hK (aac (acv (acz hK (aad 0)) (acA (by decide)) (acB (js:=[0]) (by decide)) abQ (λt1 h1 k1=>(aaq 0)) (λt1 h1 k1=>(abe (h1.trans hK) k1 (aag (aag aaw)) (aac (aad 0) (aac (ar0 (h1.trans hK) adt) aaj))))) aaj)))) (aaC (afQ _)) abB) (aaC (apQ hK (aac (acv (acz hK (aad 0)) (acA (by decide)) (acB (js:=[0]) (by decide)) abQ (λt2 h2 k2=>(aaq 0)) (λt2 h2 k2=>(x_eq (h2.trans hK) (x_len (h2.trans hK) (aac (aad 0) aaj)) (x_len (h2.trans hK) (aac (acE (h2.trans hK) (aad 1) (aao _)) aaj))))) aaj)))))⟩)
theorem akP(a:At K mg "is_count" af2) (M:Nm mg) (adz:DfX P w K mg base 1 "is_whole" (["thing"]:List Str) (spP K cl 1 acd)):DfX P w K mg base 2 "is_count" (["thing", "many"]:List Str) (spP K cl 2 aee):=by
 have S:aaz (["thing", "many"]:List Str) (["thing", "many"]:List Str) (aal af2):=⟨rfl,rfl,rfl,by decide +kernel,rfl,by decide +kernel,by decide +kernel⟩
 exact a.dfP S (cl:=cl) (by decide) (λ_ _ _ _ _ _ us hl=>match us,hl with | [_,_],_=>by kernel_rfl) (λf cdv A outer s H E hr=>⟨_,(aap (aaB (agW (pcF (E:=E) (adz.mono (by decide)) hr aau (paK (pvL 0) aai)) (ah4 (aiy ahM ahM aan (pvL 0) (pvL 1)))))),λt hK hx=>(aaC (ahb (aaS hK hx (aag aaw) (aac (aad 0) aaj)) (ahj hK ahP ahP ahR ahR (aao _) (aad 0) (aad 1))))⟩)
theorem ahW(a:At K mg "is_fraction" aek) (M:Nm mg) (XT:apa K) (adz:DfX P w K mg base 1 "is_whole" (["thing"]:List Str) (spP K cl 1 acd)) (abY:DfX P w K mg base 1 "common_divisor" (["one", "other"]:List Str) (spP K cl 2 aa3)):DfX P w K mg base 2 "is_fraction" (["thing"]:List Str) (spP K cl 1 abE):=by
 have S:aaz (["thing", "top", "bottom"]:List Str) (["thing"]:List Str) (aal aek):=⟨rfl,rfl,rfl,by decide +kernel,rfl,by decide +kernel,by decide +kernel⟩
 exact a.dfP S (cl:=cl) (by decide) (λ_ _ _ _ _ _ us hl=>match us,hl with | [_],_=>by kernel_rfl) (λf cdv A outer s H E hr=>⟨_,(aak (acF (PW.pt (am8 (adA (abV (pcI XT.o .tuple (pvL 0) M.ab9 M.an3) (by intro _; rfl))) (ajt (abn (aib hr.units) (pcB aaR M.adq (paK (pvL 0) aai)) aan (abw _))))) (aap (aaB afp)) aa9) (aak (alh (pvL 0) (agX rfl (ab0 (pgL 1 S.nd) (ab0 (pgL 2 S.nd) afe)))) (aak (acF (PW.pt (am8 (adA (abV (pcF (E:=E) (adz.mono (by decide)) hr aau (paK (pvL 1) aai)) (by intro _; rfl))) (ajt (adA (abV (pcF (E:=E) (adz.mono (by decide)) hr aau (paK (pvL 2) aai)) (by intro _; rfl)))))) (aap (aaB afp)) aa9) (aap (aaB (agW (adX arl (pvL 2) aan (abw _)) (ah4 (adX (adQ hr.units) (pcF (E:=E) (abY.mono (by decide)) hr aau (paK (pvL 1) (paK (pvL 2) aai))) aan (abw _))))))))),λt hK hx=>(aat (acL (anx (adD (ade hK (ahc hK .tuple (aad 0)))) (abd (atk hK (x_len hK (aac (aad 0) aaj)) (aao _)))) (aaC (afQ _)) abB) (aat (aa0 (aad 0) (ahd hK (ab1 (aaq 1) (ab1 (aaq 2) afi))) (arZ (afC abQ (afC abQ ahi)))) (aat (acL (anx (adD (ade hK (aaS hK hx (aag aaw) (aac (aad 1) aaj)))) (adD (ade hK (aaS hK hx (aag aaw) (aac (aad 2) aaj))))) (aaC (afQ _)) abB) (aaC (ahb (x_ge hK (aad 2) (aao _)) (x_eq hK (aaS hK hx (aag (aag aaw)) (aac (aad 1) (aac (aad 2) aaj))) (aao _)))))))⟩)
theorem ams(a:At K mg "is_rule" ahr) (M:Nm mg) {aeQ:V} (adV:Gk K mg "BARE_RULES" aeQ (.tup [(.tup [(.str "least")]),(.tup [(.str "greatest")]),(.tup [(.str "product")])])) (XT:apa K) (ai4:DfX P w K mg base 3 "are_weights" (["thing", "many"]:List Str) (spP K cl 2 adn)) (adz:DfX P w K mg base 1 "is_whole" (["thing"]:List Str) (spP K cl 1 acd)):DfX P w K mg base 4 "is_rule" (["thing", "many"]:List Str) (spP K cl 2 adF):=by
 have S:aaz (["thing", "many", "word", "rest"]:List Str) (["thing", "many"]:List Str) (aal ahr):=⟨rfl,rfl,rfl,by decide +kernel,rfl,by decide +kernel,by decide +kernel⟩
 exact a.dfP S (cl:=cl) (by decide) (λ_ _ _ _ _ _ us hl=>match us,hl with | [_,_],_=>by kernel_rfl) (λf cdv A outer s H E hr=>⟨_,(aak (acF (adA (abV (pcI XT.o .tuple (pvL 0) M.ab9 M.an3) (by intro _; rfl))) (aap (aaB afp)) aa9) (aak (acF (abn (aib hr.units) (pcB aaR M.adq (paK (pvL 0) aai)) aan (abw _)) (aap (aaB (adX (at3 hr.units) (pvL 0) (pGk adV) (by with_unfolding_all rfl)))) aa9) (aak (alh (pvL 0) (agX rfl (ab0 (pgL 2 S.nd) (ab0 (pgL 3 S.nd) afe)))) (aak (acF (abn (adQ hr.units) (pvL 2) ad9 (abw _)) (aap (aaB (pcF (E:=E) (ai4.mono (by decide)) hr aau (paK (pvL 3) (paK (pvL 1) aai))))) aa9) (aap (aaB (agW (adX (adQ hr.units) (pvL 2) ad9 (abw _)) (agW (pcF (E:=E) (adz.mono (by decide)) hr aau (paK (pvL 3) aai)) (ah4 (aiy ahM ahM aan (pvL 3) (pvL 1))))))))))),λt hK hx=>(aat (acL (adD (ade hK (ahc hK .tuple (aad 0)))) (aaC (afQ _)) abB) (aat (acL (abd (atk hK (x_len hK (aac (aad 0) aaj)) (aao _))) (aaC (azJ hK (aad 0) (ar0 hK adV))) abB) (aat (aa0 (aad 0) (ahd hK (ab1 (aaq 2) (ab1 (aaq 3) afi))) (arZ (afC abQ (afC abQ ahi)))) (aat (acL (abd (x_eq hK (aad 2) (aey _))) (aaC (aaS hK hx (aag (aag aaw)) (aac (aad 3) (aac (aad 1) aaj)))) abB) (aaC (ahb (x_eq hK (aad 2) (aey _)) (ahb (aaS hK hx (aag aaw) (aac (aad 3) aaj)) (ahj hK ahP ahP ahR ahR (aao _) (aad 3) (aad 1)))))))))⟩)
theorem akQ(a:At K mg "is_whole" afY) (M:Nm mg) (XT:apa K):DfX P w K mg base 1 "is_whole" (["thing"]:List Str) (spP K cl 1 acd):=by
 have S:aaz (["thing"]:List Str) (["thing"]:List Str) (aal afY):=⟨rfl,rfl,rfl,by decide +kernel,rfl,by decide +kernel,by decide +kernel⟩
 exact a.dfP S (cl:=cl) (by decide) (λ_ _ _ _ _ _ us hl=>match us,hl with | [_],_=>by kernel_rfl) (λf cdv A outer s H E hr=>⟨_,(aap (aaB (agW (pcI XT.o .int (pvL 0) M.ab9 M.avc) (ah4 (atx (pcI XT.o .bool (pvL 0) M.ab9 M.avb)))))),λt hK hx=>(aaC (ahb (ahc hK .int (aad 0)) (aun (ahc hK .bool (aad 0)))))⟩)
theorem akR(a:At K mg "is_worth" af0) (M:Nm mg) (aep:DfX P w K mg base 2 "is_fraction" (["thing"]:List Str) (spP K cl 1 abE)):DfX P w K mg base 3 "is_worth" (["thing"]:List Str) (spP K cl 1 ace):=by
 have S:aaz (["thing"]:List Str) (["thing"]:List Str) (aal af0):=⟨rfl,rfl,rfl,by decide +kernel,rfl,by decide +kernel,by decide +kernel⟩
 exact a.dfP S (cl:=cl) (by decide) (λ_ _ _ _ _ _ us hl=>match us,hl with | [_],_=>by kernel_rfl) (λf cdv A outer s H E hr=>⟨_,(aap (aaB (agW (pcF (E:=E) (aep.mono (by decide)) hr aau (paK (pvL 0) aai)) (ah4 (aiy ahM ahM aan (aa8 aaF (pvL 0) aan (λ_ _=>rfl)) (aa8 aaF (pvL 0) aan (λ_ _=>rfl))))))),λt hK hx=>(aaC (ahb (aaS hK hx (aag aaw) (aac (aad 0) aaj)) (ahj hK ahP ahP ahR ahR (aao _) (acE hK (aad 0) (aao _)) (acE hK (aad 0) (aao _)))))⟩)
theorem avm(a:At K mg "law" amn) (M:Nm mg) (asy:DfX P w K mg base 1 "_law_purse" (["_law_script"]:List Str) (spP K cl 1 af6)) (asz:DfX P w K mg base 4 "_law_steps" (["_law_purse_here"]:List Str) (spR K 1 0 af7)) (alO:DfX P w K mg base 1 "_law_held" (["_law_held_here", "_law_told"]:List Str) (spR K 2 0 adT)) (ai5:DfX P w K mg base 7 "book_layers" (["book"]:List Str) (spP K cl 1 acf)) (aoa:DfX P w K mg base 2 "_law_weights" (["_law_purse_here", "_law_lists_here"]:List Str) (spR K 2 0 aeO)) (aqe:DfX P w K mg base 10 "_law_within" (["_law_book", "_law_rule", "_law_layers"]:List Str) (spP K cl 3 aeo)) (amt:DfX P w K mg base 7 "unbeaten" (["book"]:List Str) (spP K cl 1 ady)) (ad6:DfX P w K mg base 8 "thing_worths" (["book", "rule"]:List Str) (spP K cl 2 aaP)) (af8:DfX P w K mg base 9 "best_few" (["book", "rule", "count"]:List Str) (spP K cl 3 abR)):DfX P w K mg base 11 "law" (["_law_script"]:List Str) (spP K cl 1 amo):=by
 have S:aaz (["_law_script", "_law_purse_here", "_law_held_here", "_law_time", "_law_book", "_law_layers", "_law_shares", "_law_rules", "_law_rule", "_law_worths", "_law_best"]:List Str) (["_law_script"]:List Str) (aal amn):=⟨rfl,rfl,rfl,by decide +kernel,rfl,by decide +kernel,by decide +kernel⟩
 exact a.dfP S (cl:=cl) (by decide) (λ_ _ _ _ _ _ us hl=>match us,hl with | [_],_=>by kernel_rfl) (λf cdv A outer s H E hr=>⟨_,(aak (psL 1 S.nd (pcF (E:=E) (asy.mono (by decide)) hr aau (paK (pvL 0) aai))) (aak (psL 2 S.nd (ac2 aai)) (aak (PS.nox (aea PassesOwn.never rfl (piR M.acO (paK aan aai)) (pgL 3 S.nd) (aak (psL 4 S.nd (pcF (E:=E0) (asz.mono (by decide)) hr ab5 (paK (pvL 1) aai))) (aak (psL 5 S.nd (pcF (E:=E0) (alO.mono (by decide)) hr ab5 (paK (pvL 2) (paK (pcF (E:=E0) (ai5.mono (by decide)) hr ab5 (paK (pvL 4) aai)) aai)))) (aak (acF (abn (aib hr.units) (pcF (E:=E0) (alO.mono (by decide)) hr ab5 (paK (pvL 2) (paK (pcF (E:=E0) (amt.mono (by decide)) hr ab5 (paK (pvL 4) aai)) aai))) (aa8 aaF (pvL 5) aan (λ_ _=>rfl)) (abw _)) (aap (aaB afp)) aa9) (aak (psL 6 S.nd (agk (paK ad9 (paK (pcF (E:=E0) (aoa.mono (by decide)) hr ab5 (paK (pvL 1) (paK (pcB aaR M.adq (paK (pvL 4) aai)) aai))) aai)))) (aak (acF (adA (abV (pcF (E:=E0) (aqe.mono (by decide)) hr ab5 (paK (pvL 4) (paK (pvL 6) (paK (pvL 5) aai)))) (by intro _; rfl))) (aap (aaB afp)) aa9) (aak (psL 7 S.nd (ac2 (paK (pvL 6) (paK (ahk (G:=nlK K) (Ts:=[.str "least"]) (by kernel_rfl)) (paK (ahk (G:=nlK K) (Ts:=[.str "greatest"]) (by kernel_rfl)) (paK (ahk (G:=nlK K) (Ts:=[.str "product"]) (by kernel_rfl)) aai)))))) (aap (aea PassesOwn.never rfl (acr (aaY abq (pvL 7) (acI (sc:=aal amn) (No:=(["_law_script", "_law_purse_here", "_law_held_here", "_law_time", "_law_book", "_law_layers", "_law_shares", "_law_rules", "_law_rule", "_law_worths", "_law_best"]:List Str)) (N:=(["_law_place"]:List Str)) (src:=[none]) (g:=(acp 0)) rfl rfl ⟨by rfl,by decide +kernel,by decide +kernel,by decide +kernel,by rfl,by decide +kernel⟩ rfl (piR M.acO (paK (pcB aaR M.adq (paK (pvL 4) aai)) aai)) (λC s H ex=>(pgL 0 (show List.Nodup (["_law_place"]:List Str) by decide +kernel))) (λC s H ex=>(agk (paK ad9 (paK (aaY abq (pvL 0) aan) aai))))))) (pgL 8 S.nd) (aak (psC 9 S.nd rfl (pcF (E:=E0) (alO.mono (by decide)) hr ab5 (paK (pvL 2) (paK (pcF (E:=E0) (ad6.mono (by decide)) hr ab5 (paK (pvL 4) (paK (pvL 8) aai))) aai)))) (aak (psL 10 S.nd (aa8 aaF (aa8 aaF (pcF (E:=E0) (alO.mono (by decide)) hr ab5 (paK (pvL 2) (paK (pcF (E:=E0) (af8.mono (by decide)) hr ab5 (paK (pvL 4) (paK (pvL 8) (paK aan aai)))) aai))) aan (λ_ _=>rfl)) aan (λ_ _=>rfl))) (aap (acF (abn (ag6 hr.units) (pvL 10) (acI (sc:=aal amn) (No:=(["_law_script", "_law_purse_here", "_law_held_here", "_law_time", "_law_book", "_law_layers", "_law_shares", "_law_rules", "_law_rule", "_law_worths", "_law_best"]:List Str)) (N:=(["_law_thing", "_law_worths"]:List Str)) (src:=[none,some 9]) (g:=(acp 0)) rfl rfl ⟨by rfl,by decide +kernel,by decide +kernel,by decide +kernel,by rfl,by decide +kernel⟩ rfl (acr (aa8 aaF (pvL 5) aan (λ_ _=>rfl))) (λC s H ex=>(pgL 0 (show List.Nodup (["_law_thing", "_law_worths"]:List Str) by decide +kernel))) (λC s H ex=>(aa8 aaF (pvC 1) (pvL 0) (λ_ _=>rfl)))) (by with_unfolding_all rfl)) (aap (aaB afp)) aa9)))))))))))))) (aap (aaB (adX (adQ hr.units) (pcB aaR M.adq (paK (agQ (sc:=aal amn) (No:=(["_law_script", "_law_purse_here", "_law_held_here", "_law_time", "_law_book", "_law_layers", "_law_shares", "_law_rules", "_law_rule", "_law_worths", "_law_best"]:List Str)) (N:=(["_law_one"]:List Str)) (src:=[none]) (g:=(acp 0)) rfl rfl ⟨by rfl,by decide +kernel,by decide +kernel,by decide +kernel,by rfl,by decide +kernel⟩ rfl (acr (pvL 2)) (λC s H ex=>(pgL 0 (show List.Nodup (["_law_one"]:List Str) by decide +kernel))) (λC s H ex=>(abn (aib hr.units) (axH (ajF hr.gd hr.units) M.avd (paK (aa8 aaF (pvL 0) aan (λ_ _=>rfl)) aai)) (aa8 aaF (pvL 0) aan (λ_ _=>rfl)) (abw _))) (λC s H ex=>(pvL 0))) aai)) aan (abw _))))))),λt hK hx=>(aat (afy 1 (aaS hK hx (aag aaw) (aac (aad 0) aaj))) (aat (afy 2 (adb aaj)) (aat (aed (λt1 h1 k1=>(aec (aeG (aac (aao _) aaj)) (aaq 3) abQ (aat (aa0 (abt (h1.trans hK) (aag aaw) (aac (aad 1) aaj)) (aaq 4) abQ) (aat (aa0 (abt (h1.trans hK) (aag (aag aaw)) (aac (aad 2) (aac (abe (h1.trans hK) k1 (aag aaw) (aac (aad 4) aaj)) aaj))) (aaq 5) abQ) (aat (acL (abd (atk (h1.trans hK) (abt (h1.trans hK) (aag (aag aaw)) (aac (aad 2) (aac (abe (h1.trans hK) k1 (aag aaw) (aac (aad 4) aaj)) aaj))) (acE (h1.trans hK) (aad 5) (aao _)))) (aaC (afQ _)) abB) (aat (aa0 (ag9 (aac (aey _) (aac (abt (h1.trans hK) (aag (aag aaw)) (aac (aad 1) (aac (x_len (h1.trans hK) (aac (aad 4) aaj)) aaj))) aaj))) (aaq 6) abQ) (aat (acL (adD (ade (h1.trans hK) (abe (h1.trans hK) k1 (aag (aag (aag aaw))) (aac (aad 4) (aac (aad 6) (aac (aad 5) aaj)))))) (aaC (afQ _)) abB) (aat (aa0 (adb (aac (aad 6) (aac (anJ (h1.trans hK)) (aac (anJ (h1.trans hK)) (aac (anJ (h1.trans hK)) aaj))))) (aaq 7) abQ) (aec (acz (h1.trans hK) (adk (h1.trans hK) (aad 7) (acv (aeG (aac (x_len (h1.trans hK) (aac (aad 4) aaj)) aaj)) (acA (by decide)) (acB (js:=[0]) (by decide)) abQ (λt2 h2 k2=>(aaq 0)) (λt2 h2 k2=>(ag9 (aac (aey _) (aac (adk (h2.trans (h1.trans hK)) (aad 0) (aao _)) aaj))))))) (aaq 8) abQ (aat (aa0 (abt (h1.trans hK) (aag (aag aaw)) (aac (aad 2) (aac (abe (h1.trans hK) k1 (aag (aag aaw)) (aac (aad 4) (aac (aad 8) aaj))) aaj))) (aaq 9) abQ) (aat (aa0 (acE (h1.trans hK) (acE (h1.trans hK) (abt (h1.trans hK) (aag (aag aaw)) (aac (aad 2) (aac (abe (h1.trans hK) k1 (aag (aag (aag aaw))) (aac (aad 4) (aac (aad 8) (aac (aao _) aaj)))) aaj))) (aao _)) (aao _)) (aaq 10) abQ) (acL (abd (akz (h1.trans hK) (aad 10) (acv (acz (h1.trans hK) (acE (h1.trans hK) (aad 5) (aao _))) (acA (by decide)) (acB (js:=[0]) (by decide)) abQ (λt3 h3 k3=>(aaq 0)) (λt3 h3 k3=>(acE (h3.trans (h1.trans hK)) (aad 1) (aad 0)))))) (aaC (afQ _)) abB))))))))))))) (aqN 2 (aaC (x_eq hK (x_len hK (aac (afB (acz hK (aad 2)) (acA (by decide)) (acB (js:=[0]) (by decide)) abQ (λt4 h4 k4=>(aaq 0)) (λt4 h4 k4=>(abd (atk (h4.trans hK) (auR (h4.trans hK) (aac (acE (h4.trans hK) (aad 0) (aao _)) aaj)) (acE (h4.trans hK) (aad 0) (aao _))))) (λt4 h4 k4=>(aad 0))) aaj)) (aao _)))))))⟩)
theorem ajV(a:At K mg "need_book" afj) (M:Nm mg) (agS:PyProof.Rows.OwnCls "NoBook" (cl "NoBook") bmV "ValueError.__new__" mg base) (aob:DfX P w K mg base 5 "is_book" (["thing"]:List Str) (spP K cl 1 aeI)):DfX P w K mg base 6 "need_book" (["book"]:List Str) (spP K cl 1 abH):=by
 have S:aaz (["book"]:List Str) (["book"]:List Str) (aal afj):=⟨rfl,rfl,rfl,by decide +kernel,rfl,by decide +kernel,by decide +kernel⟩
 exact a.dfP S (cl:=cl) (by decide) (λ_ _ _ _ _ _ us hl=>match us,hl with | [_],_=>by kernel_rfl) (λf cdv A outer s H E hr=>⟨_,(aap (acF (adA (abV (pcF (E:=E) (aob.mono (by decide)) hr aau (paK (pvL 0) aai)) (by intro _; rfl))) (aap (agN afv agS PySem.F.excBase_ValueError rfl ad9)) aa9)),λt hK hx=>(acL (adD (ade hK (aaS hK hx (aag aaw) (aac (aad 0) aaj)))) (agO (λH'=>hx "NoBook" H') (aey _)) abB)⟩)
theorem aeR(a:At K mg "need_book_and_rule" acn) (M:Nm mg) (agT:PyProof.Rows.OwnCls "NoRule" (cl "NoRule") bmV "ValueError.__new__" mg base) (adJ:DfX P w K mg base 6 "need_book" (["book"]:List Str) (spP K cl 1 abH)) (aoc:DfX P w K mg base 4 "is_rule" (["thing", "many"]:List Str) (spP K cl 2 adF)):DfX P w K mg base 7 "need_book_and_rule" (["book", "rule"]:List Str) (spP K cl 2 aaM):=by
 have S:aaz (["book", "rule"]:List Str) (["book", "rule"]:List Str) (aal acn):=⟨rfl,rfl,rfl,by decide +kernel,rfl,by decide +kernel,by decide +kernel⟩
 exact a.dfP S (cl:=cl) (by decide) (λ_ _ _ _ _ _ us hl=>match us,hl with | [_,_],_=>by kernel_rfl) (λf cdv A outer s H E hr=>⟨_,(aak (psE (pcF (E:=E) (adJ.mono (by decide)) hr aau (paK (pvL 0) aai))) (aap (acF (adA (abV (pcF (E:=E) (aoc.mono (by decide)) hr aau (paK (pvL 1) (paK (pcB aaR M.adq (paK (pvL 0) aai)) aai))) (by intro _; rfl))) (aap (agN afv agT PySem.F.excBase_ValueError rfl ad9)) aa9))),λt hK hx=>(aat (acu (aaS hK hx (aag aaw) (aac (aad 0) aaj))) (acL (adD (ade hK (aaS hK hx (aag (aag aaw)) (aac (aad 1) (aac (x_len hK (aac (aad 0) aaj)) aaj))))) (agO (λH'=>hx "NoRule" H') (aey _)) abB))⟩)
theorem adK(a:At K mg "need_book_rule_and_count" abx) (M:Nm mg) (aco:DfX P w K mg base 7 "need_book_and_rule" (["book", "rule"]:List Str) (spP K cl 2 aaM)) (ajW:DfX P w K mg base 3 "need_count" (["book", "count"]:List Str) (spP K cl 2 ac4)):DfX P w K mg base 8 "need_book_rule_and_count" (["book", "rule", "count"]:List Str) (spP K cl 3 aaN):=by
 have S:aaz (["book", "rule", "count"]:List Str) (["book", "rule", "count"]:List Str) (aal abx):=⟨rfl,rfl,rfl,by decide +kernel,rfl,by decide +kernel,by decide +kernel⟩
 exact a.dfP S (cl:=cl) (by decide) (λ_ _ _ _ _ _ us hl=>match us,hl with | [_,_,_],_=>by kernel_rfl) (λf cdv A outer s H E hr=>⟨_,(aak (psE (pcF (E:=E) (aco.mono (by decide)) hr aau (paK (pvL 0) (paK (pvL 1) aai)))) (aap (psE (pcF (E:=E) (ajW.mono (by decide)) hr aau (paK (pvL 0) (paK (pvL 2) aai)))))),λt hK hx=>(aat (acu (aaS hK hx (aag (aag aaw)) (aac (aad 0) (aac (aad 1) aaj)))) (acu (aaS hK hx (aag (aag aaw)) (aac (aad 0) (aac (aad 2) aaj)))))⟩)
theorem ai6(a:At K mg "need_count" aeN) (M:Nm mg) (afG:PyProof.Rows.OwnCls "NoCount" (cl "NoCount") bmV "ValueError.__new__" mg base) (amu:DfX P w K mg base 2 "is_count" (["thing", "many"]:List Str) (spP K cl 2 aee)):DfX P w K mg base 3 "need_count" (["book", "count"]:List Str) (spP K cl 2 ac4):=by
 have S:aaz (["book", "count"]:List Str) (["book", "count"]:List Str) (aal aeN):=⟨rfl,rfl,rfl,by decide +kernel,rfl,by decide +kernel,by decide +kernel⟩
 exact a.dfP S (cl:=cl) (by decide) (λ_ _ _ _ _ _ us hl=>match us,hl with | [_,_],_=>by kernel_rfl) (λf cdv A outer s H E hr=>⟨_,(aap (acF (adA (abV (pcF (E:=E) (amu.mono (by decide)) hr aau (paK (pvL 1) (paK (pcB aaR M.adq (paK (aa8 aaF (pvL 0) aan (λ_ _=>rfl)) aai)) aai))) (by intro _; rfl))) (aap (agN afv afG PySem.F.excBase_ValueError rfl ad9)) aa9)),λt hK hx=>(acL (adD (ade hK (aaS hK hx (aag (aag aaw)) (aac (aad 1) (aac (x_len hK (aac (acE hK (aad 0) (aao _)) aaj)) aaj))))) (agO (λH'=>hx "NoCount" H') (aey _)) abB)⟩)
theorem akS(a:At K mg "place_of" af3) (M:Nm mg):DfX P w K mg base 1 "place_of" (["rule", "many"]:List Str) (spP K cl 2 acW):=by
 have S:aaz (["rule", "many"]:List Str) (["rule", "many"]:List Str) (aal af3):=⟨rfl,rfl,rfl,by decide +kernel,rfl,by decide +kernel,by decide +kernel⟩
 exact a.dfP S (cl:=cl) (by decide) (λ_ _ _ _ _ _ us hl=>match us,hl with | [_,_],_=>by kernel_rfl) (λf cdv A outer s H E hr=>⟨_,(aak (acF (abn (adQ hr.units) (aa8 aaF (pvL 0) aan (λ_ _=>rfl)) ad9 (abw _)) (aap (aaB aan)) aa9) (aak (acF (abn (adQ hr.units) (aa8 aaF (pvL 0) aan (λ_ _=>rfl)) ad9 (abw _)) (aap (aaB (pvL 1))) aa9) (aap (aaB (aa8 aaF (pvL 0) aan (λ_ _=>rfl)))))),λt hK hx=>(aat (acL (abd (x_eq hK (acE hK (aad 0) (aao _)) (aey _))) (aaC (aao _)) abB) (aat (acL (abd (x_eq hK (acE hK (aad 0) (aao _)) (aey _))) (aaC (aad 1)) abB) (aaC (acE hK (aad 0) (aao _)))))⟩)
theorem agA(a:At K mg "product_worth" adI) (M:Nm mg) (aeS:DfX P w K mg base 3 "frac_times" (["one", "other"]:List Str) (spP K cl 2 abD)):DfX P w K mg base 4 "product_worth" (["worths"]:List Str) (spP K cl 1 acM):=by
 have S:aaz (["worths", "product", "worth"]:List Str) (["worths"]:List Str) (aal adI):=⟨rfl,rfl,rfl,by decide +kernel,rfl,by decide +kernel,by decide +kernel⟩
 exact a.dfP S (cl:=cl) (by decide) (λ_ _ _ _ _ _ us hl=>match us,hl with | [_],_=>by kernel_rfl) (λf cdv A outer s H E hr=>⟨_,(aak (psL 1 S.nd (ahk (G:=nlK K) (Ts:=[.int 1,.int 1]) (by kernel_rfl))) (aak (PS.nox (aea PassesOwn.never rfl (acr (pvL 0)) (pgL 2 S.nd) (aap (psL 1 S.nd (pcF (E:=E0) (aeS.mono (by decide)) hr ab5 (paK (pvL 1) (paK (pvL 2) aai))))))) (aap (aaB (pvL 1))))),λt hK hx=>(aat (aa0 (anJ hK) (aaq 1) abQ) (aat (aed (λt1 h1 k1=>(aec (acz (h1.trans hK) (aad 0)) (aaq 2) abQ (aa0 (abe (h1.trans hK) k1 (aag (aag aaw)) (aac (aad 1) (aac (aad 2) aaj))) (aaq 1) abQ)))) (aaC (aad 1))))⟩)
theorem ahw(a:At K mg "shares_worth" ad4) (M:Nm mg) (amv:DfX P w K mg base 3 "frac_sum" (["one", "other"]:List Str) (spP K cl 2 adx)) (aeS:DfX P w K mg base 3 "frac_times" (["one", "other"]:List Str) (spP K cl 2 abD)):DfX P w K mg base 4 "shares_worth" (["weights", "worths"]:List Str) (spP K cl 2 ac1):=by
 have S:aaz (["weights", "worths", "total", "weight", "worth"]:List Str) (["weights", "worths"]:List Str) (aal ad4):=⟨rfl,rfl,rfl,by decide +kernel,rfl,by decide +kernel,by decide +kernel⟩
 exact a.dfP S (cl:=cl) (by decide) (λ_ _ _ _ _ _ us hl=>match us,hl with | [_,_],_=>by kernel_rfl) (λf cdv A outer s H E hr=>⟨_,(aak (psL 2 S.nd (ahk (G:=nlK K) (Ts:=[.int 0,.int 1]) (by kernel_rfl))) (aak (PS.nox (aea PassesOwn.never rfl (at8 M.axQ (paK (pvL 0) (paK (pvL 1) aai))) (agX rfl (ab0 (pgL 3 S.nd) (ab0 (pgL 4 S.nd) afe))) (aap (psL 2 S.nd (pcF (E:=E0) (amv.mono (by decide)) hr ab5 (paK (pvL 2) (paK (pcF (E:=E0) (aeS.mono (by decide)) hr ab5 (paK (pvL 3) (paK (pvL 4) aai))) aai))))))) (aap (aaB (pvL 2))))),λt hK hx=>(aat (aa0 (anJ hK) (aaq 2) abQ) (aat (aed (λt1 h1 k1=>(aec (auV (h1.trans hK) (aac (aad 0) (aac (aad 1) aaj))) (ahd (h1.trans hK) (ab1 (aaq 3) (ab1 (aaq 4) afi))) (arZ (afC abQ (afC abQ ahi))) (aa0 (abe (h1.trans hK) k1 (aag (aag aaw)) (aac (aad 2) (aac (abe (h1.trans hK) k1 (aag (aag aaw)) (aac (aad 3) (aac (aad 4) aaj))) aaj))) (aaq 2) abQ)))) (aaC (aad 2))))⟩)
theorem ahx(a:At K mg "thing_worths" ad5) (M:Nm mg) (aco:DfX P w K mg base 7 "need_book_and_rule" (["book", "rule"]:List Str) (spP K cl 2 aaM)) (afl:DfX P w K mg base 6 "worths_by" (["book", "rule"]:List Str) (spP K cl 2 ab8)):DfX P w K mg base 8 "thing_worths" (["book", "rule"]:List Str) (spP K cl 2 aaP):=by
 have S:aaz (["book", "rule"]:List Str) (["book", "rule"]:List Str) (aal ad5):=⟨rfl,rfl,rfl,by decide +kernel,rfl,by decide +kernel,by decide +kernel⟩
 exact a.dfP S (cl:=cl) (by decide) (λ_ _ _ _ _ _ us hl=>match us,hl with | [_,_],_=>by kernel_rfl) (λf cdv A outer s H E hr=>⟨_,(aak (psE (pcF (E:=E) (aco.mono (by decide)) hr aau (paK (pvL 0) (paK (pvL 1) aai)))) (aap (aaB (pcF (E:=E) (afl.mono (by decide)) hr aau (paK (pvL 0) (paK (pvL 1) aai)))))),λt hK hx=>(aat (acu (aaS hK hx (aag (aag aaw)) (aac (aad 0) (aac (aad 1) aaj)))) (aaC (aaS hK hx (aag (aag aaw)) (aac (aad 0) (aac (aad 1) aaj)))))⟩)
theorem aeT(a:At K mg "tops_on_one_bottom" abP) (M:Nm mg) (ahy:DfX P w K mg base 2 "common_bottom" (["fractions"]:List Str) (spP K cl 1 ab7)):DfX P w K mg base 3 "tops_on_one_bottom" (["fractions"]:List Str) (spP K cl 1 abO):=by
 have S:aaz (["fractions", "bottom"]:List Str) (["fractions"]:List Str) (aal abP):=⟨rfl,rfl,rfl,by decide +kernel,rfl,by decide +kernel,by decide +kernel⟩
 exact a.dfP S (cl:=cl) (by decide) (λ_ _ _ _ _ _ us hl=>match us,hl with | [_],_=>by kernel_rfl) (λf cdv A outer s H E hr=>⟨_,(aak (psC 1 S.nd rfl (pcF (E:=E) (ahy.mono (by decide)) hr aau (paK (pvL 0) aai))) (aap (aaB (acI (sc:=aal abP) (No:=(["fractions", "bottom"]:List Str)) (N:=(["top", "own", "bottom"]:List Str)) (src:=[none,none,some 1]) (g:=(awz K 2 (al6 (acp 0) (al6 (acp 1) awy)))) rfl rfl ⟨by rfl,by decide +kernel,by decide +kernel,by decide +kernel,by rfl,by decide +kernel⟩ rfl (acr (pvL 0)) (λC s H ex=>(agX rfl (ab0 (pgL 0 (show List.Nodup (["top", "own", "bottom"]:List Str) by decide +kernel)) (ab0 (pgL 1 (show List.Nodup (["top", "own", "bottom"]:List Str) by decide +kernel)) afe)))) (λC s H ex=>(aaY aci (pvL 0) (aaY aeh (pvC 2) (pvL 1)))))))),λt hK hx=>(aat (aa0 (aaS hK hx (aag aaw) (aac (aad 0) aaj)) (aaq 1) abQ) (aaC (acv (acz hK (aad 0)) (acA (by decide)) (acB (js:=[0,1]) (by decide)) (arZ (afC abQ (afC abQ ahi))) (λt1 h1 k1=>(ahd (h1.trans hK) (ab1 (aaq 0) (ab1 (aaq 1) afi)))) (λt1 h1 k1=>(ae2 (h1.trans hK) (aad 0) (akx (h1.trans hK) (aad 2) (aad 1)))))))⟩)
theorem akT(a:At K mg "unbeaten" af5) (M:Nm mg) (adJ:DfX P w K mg base 6 "need_book" (["book"]:List Str) (spP K cl 1 abH)) (aer:DfX P w K mg base 3 "unbeaten_of" (["book", "things"]:List Str) (spP K cl 2 abF)):DfX P w K mg base 7 "unbeaten" (["book"]:List Str) (spP K cl 1 ady):=by
 have S:aaz (["book"]:List Str) (["book"]:List Str) (aal af5):=⟨rfl,rfl,rfl,by decide +kernel,rfl,by decide +kernel,by decide +kernel⟩
 exact a.dfP S (cl:=cl) (by decide) (λ_ _ _ _ _ _ us hl=>match us,hl with | [_],_=>by kernel_rfl) (λf cdv A outer s H E hr=>⟨_,(aak (psE (pcF (E:=E) (adJ.mono (by decide)) hr aau (paK (pvL 0) aai))) (aap (aaB (pcF (E:=E) (aer.mono (by decide)) hr aau (paK (pvL 0) (paK (alL hr M.ajT M.acO (paK (pcB aaR M.adq (paK (aa8 aaF (pvL 0) aan (λ_ _=>rfl)) aai)) aai)) aai)))))),λt hK hx=>(aat (acu (aaS hK hx (aag aaw) (aac (aad 0) aaj))) (aaC (aaS hK hx (aag (aag aaw)) (aac (aad 0) (aac (au6 (aac (x_len hK (aac (acE hK (aad 0) (aao _)) aaj)) aaj)) aaj)))))⟩)
theorem ahX(a:At K mg "unbeaten_of" acN) (M:Nm mg) (asA:DfX P w K mg base 2 "beats" (["book", "one", "other"]:List Str) (spP K cl 3 afX)):DfX P w K mg base 3 "unbeaten_of" (["book", "things"]:List Str) (spP K cl 2 abF):=by
 have S:aaz (["book", "things"]:List Str) (["book", "things"]:List Str) (aal acN):=⟨rfl,rfl,rfl,by decide +kernel,rfl,by decide +kernel,by decide +kernel⟩
 exact a.dfP S (cl:=cl) (by decide) (λ_ _ _ _ _ _ us hl=>match us,hl with | [_,_],_=>by kernel_rfl) (λf cdv A outer s H E hr=>⟨_,(aap (aaB (agQ (sc:=aal acN) (No:=(["book", "things"]:List Str)) (N:=(["thing", "things", "book"]:List Str)) (src:=[none,some 1,some 0]) (g:=(acp 0)) rfl rfl ⟨by rfl,by decide +kernel,by decide +kernel,by decide +kernel,by rfl,by decide +kernel⟩ rfl (acr (pvC 1)) (λC s H ex=>(pgC 0 (show List.Nodup (["thing", "things", "book"]:List Str) by decide +kernel) rfl)) (λC s H ex=>(adA (ajM (K:=K) (pcB (aiT rfl) M.asp (paK (acI (sc:=apo _ (aal acN)) (No:=(["thing", "things", "book"]:List Str)) (N:=(["other", "book", "thing"]:List Str)) (src:=[none,some 2,some 0]) (g:=(acp 0)) rfl rfl ⟨by rfl,by decide +kernel,by decide +kernel,by decide +kernel,by rfl,by decide +kernel⟩ rfl (acr (pvC 1)) (λC s H ex=>(pgL 0 (show List.Nodup (["other", "book", "thing"]:List Str) by decide +kernel))) (λC s H ex=>(pcF (E:=E0) (asA.mono (by decide)) hr ab5 (paK (pvC 1) (paK (pvL 0) (paK (pvC 2) aai)))))) aai)) rfl (by intro _; rfl)))) (λC s H ex=>(pvC 0))))),λt hK hx=>(aaC (afB (acz hK (aad 1)) (acA (by decide)) (acB (js:=[0]) (by decide)) abQ (λt1 h1 k1=>(aaq 0)) (λt1 h1 k1=>(adD (ade (h1.trans hK) (ar5 (h1.trans hK) (aac (acv (acz (h1.trans hK) (aad 1)) (acA (by decide)) (acB (js:=[0]) (by decide)) abQ (λt2 h2 k2=>(aaq 0)) (λt2 h2 k2=>(abe (h2.trans (h1.trans hK)) k2 (aag (aag (aag aaw))) (aac (aad 1) (aac (aad 0) (aac (aad 2) aaj)))))) aaj))))) (λt1 h1 k1=>(aad 0))))⟩)
theorem akU(a:At K mg "worth_by" af4) (M:Nm mg) (ahY:DfX P w K mg base 4 "shares_worth" (["weights", "worths"]:List Str) (spP K cl 2 ac1)) (ahz:DfX P w K mg base 4 "product_worth" (["worths"]:List Str) (spP K cl 1 acM)) (ac8:DfX P w K mg base 4 "falling_places" (["fractions"]:List Str) (spP K cl 1 aaO)) (amw:DfX P w K mg base 1 "place_of" (["rule", "many"]:List Str) (spP K cl 2 acW)):DfX P w K mg base 5 "worth_by" (["rule", "worths"]:List Str) (spP K cl 2 abz):=by
 have S:aaz (["rule", "worths"]:List Str) (["rule", "worths"]:List Str) (aal af4):=⟨rfl,rfl,rfl,by decide +kernel,rfl,by decide +kernel,by decide +kernel⟩
 exact a.dfP S (cl:=cl) (by decide) (λ_ _ _ _ _ _ us hl=>match us,hl with | [_,_],_=>by kernel_rfl) (λf cdv A outer s H E hr=>⟨_,(aak (acF (abn (adQ hr.units) (aa8 aaF (pvL 0) aan (λ_ _=>rfl)) ad9 (abw _)) (aap (aaB (pcF (E:=E) (ahY.mono (by decide)) hr aau (paK (aa8 aaF (pvL 0) aan (λ_ _=>rfl)) (paK (pvL 1) aai))))) aa9) (aak (acF (abn (adQ hr.units) (aa8 aaF (pvL 0) aan (λ_ _=>rfl)) ad9 (abw _)) (aap (aaB (pcF (E:=E) (ahz.mono (by decide)) hr aau (paK (pvL 1) aai)))) aa9) (aap (aaB (aa8 aaF (pvL 1) (aa8 aaF (pcF (E:=E) (ac8.mono (by decide)) hr aau (paK (pvL 1) aai)) (aaY ah5 (pcF (E:=E) (amw.mono (by decide)) hr aau (paK (pvL 0) (paK (pcB aaR M.adq (paK (pvL 1) aai)) aai))) aan) (λ_ _=>rfl)) (λ_ _=>rfl)))))),λt hK hx=>(aat (acL (abd (x_eq hK (acE hK (aad 0) (aao _)) (aey _))) (aaC (aaS hK hx (aag (aag aaw)) (aac (acE hK (aad 0) (aao _)) (aac (aad 1) aaj)))) abB) (aat (acL (abd (x_eq hK (acE hK (aad 0) (aao _)) (aey _))) (aaC (aaS hK hx (aag aaw) (aac (aad 1) aaj))) abB) (aaC (acE hK (aad 1) (acE hK (aaS hK hx (aag aaw) (aac (aad 1) aaj)) (anF hK (aaS hK hx (aag (aag aaw)) (aac (aad 0) (aac (x_len hK (aac (aad 1) aaj)) aaj))) (aao _)))))))⟩)
theorem ajX(a:At K mg "worths_by" aem) (M:Nm mg) (amx:DfX P w K mg base 5 "worth_by" (["rule", "worths"]:List Str) (spP K cl 2 abz)) (akV:DfX P w K mg base 1 "worths_of" (["book", "thing"]:List Str) (spP K cl 2 adG)):DfX P w K mg base 6 "worths_by" (["book", "rule"]:List Str) (spP K cl 2 ab8):=by
 have S:aaz (["book", "rule"]:List Str) (["book", "rule"]:List Str) (aal aem):=⟨rfl,rfl,rfl,by decide +kernel,rfl,by decide +kernel,by decide +kernel⟩
 exact a.dfP S (cl:=cl) (by decide) (λ_ _ _ _ _ _ us hl=>match us,hl with | [_,_],_=>by kernel_rfl) (λf cdv A outer s H E hr=>⟨_,(aap (aaB (acI (sc:=aal aem) (No:=(["book", "rule"]:List Str)) (N:=(["thing", "rule", "book"]:List Str)) (src:=[none,some 1,some 0]) (g:=(acp 0)) rfl rfl ⟨by rfl,by decide +kernel,by decide +kernel,by decide +kernel,by rfl,by decide +kernel⟩ rfl (piR M.acO (paK (pcB aaR M.adq (paK (aa8 aaF (pvC 0) aan (λ_ _=>rfl)) aai)) aai)) (λC s H ex=>(pgL 0 (show List.Nodup (["thing", "rule", "book"]:List Str) by decide +kernel))) (λC s H ex=>(pcF (E:=E0) (amx.mono (by decide)) hr ab5 (paK (pvC 1) (paK (pcF (E:=E0) (akV.mono (by decide)) hr ab5 (paK (pvC 2) (paK (pvL 0) aai))) aai))))))),λt hK hx=>(aaC (acv (aeG (aac (x_len hK (aac (acE hK (aad 0) (aao _)) aaj)) aaj)) (acA (by decide)) (acB (js:=[0]) (by decide)) abQ (λt1 h1 k1=>(aaq 0)) (λt1 h1 k1=>(abe (h1.trans hK) k1 (aag (aag aaw)) (aac (aad 1) (aac (abe (h1.trans hK) k1 (aag (aag aaw)) (aac (aad 2) (aac (aad 0) aaj))) aaj))))))⟩)
theorem ajY(a:At K mg "worths_of" ael) (M:Nm mg):DfX P w K mg base 1 "worths_of" (["book", "thing"]:List Str) (spP K cl 2 adG):=by
 have S:aaz (["book", "thing"]:List Str) (["book", "thing"]:List Str) (aal ael):=⟨rfl,rfl,rfl,by decide +kernel,rfl,by decide +kernel,by decide +kernel⟩
 exact a.dfP S (cl:=cl) (by decide) (λ_ _ _ _ _ _ us hl=>match us,hl with | [_,_],_=>by kernel_rfl) (λf cdv A outer s H E hr=>⟨_,(aap (aaB (acI (sc:=aal ael) (No:=(["book", "thing"]:List Str)) (N:=(["row", "thing"]:List Str)) (src:=[none,some 1]) (g:=(acp 0)) rfl rfl ⟨by rfl,by decide +kernel,by decide +kernel,by decide +kernel,by rfl,by decide +kernel⟩ rfl (acr (pvL 0)) (λC s H ex=>(pgL 0 (show List.Nodup (["row", "thing"]:List Str) by decide +kernel))) (λC s H ex=>(aa8 aaF (pvL 0) (pvC 1) (λ_ _=>rfl)))))),λt hK hx=>(aaC (acv (acz hK (aad 0)) (acA (by decide)) (acB (js:=[0]) (by decide)) abQ (λt1 h1 k1=>(aaq 0)) (λt1 h1 k1=>(acE (h1.trans hK) (aad 0) (aad 1)))))⟩)
end
end K97
end
section
namespace L2
open PySem
@[simp] theorem Rs.aaJ{α β : Type}(a : α)(f : α -> Rs β):(Rs.ok a).bind f=f a:=rfl
@[simp] theorem Rs.awO{α β : Type}(f : α -> Rs β):(Rs.bad:Rs α).bind f=.bad:=rfl
@[simp] theorem Rs.axR{α β : Type}(c:Str)(f : α -> Rs β):(Rs.ex c:Rs α).bind f=.ex c:=rfl
inductive Tg{α β : Type}(f : α -> Rs β):Type
 |mk
noncomputable def bd{α β : Type}(r:Rs α)(f : α -> Rs β)(_:Tg f):Rs β := r.bind f
@[simp] theorem akW{α β : Type}(f : α -> Rs β)(a : α)(u:Tg f):bd (.ok a) f u=f a:=rfl
@[simp] theorem azc{α β : Type}(f : α -> Rs β)(u:Tg f):bd .bad f u=.bad:=rfl
@[simp] theorem azU{α β : Type}(f : α -> Rs β)(c:Str)(u:Tg f):bd (.ex c) f u=.ex c:=rfl
@[simp] theorem aod(f g:SF)(ρ : En):aaI f g ρ = ((bd (f ρ) (λp=>match p.1 with
 |.nx=>g p.2
 |fl=>.ok (fl,p.2)) .mk)):=rfl
@[simp] theorem avn(c:BF)(f g:SF)(ρ : En):sIf c f g ρ = ((bd (c ρ) (λp=>if p.1=true then f p.2 else g p.2) .mk)):=rfl
@[simp] theorem aoe(f:EF)(ρ : En):abm f ρ = ((bd (f ρ) (λp=>match p.1 with
 |.v T fr=>.ok (.rt T fr,p.2)
 |.s i=>match p.2[i]? with
  |some (.ow ts)=>.ok (.rt (.lst ts) true,p.2)
  |_=>.bad) .mk)):=rfl
@[simp] theorem axS(f:EF)(g:GF)(ρ : En):abM f g ρ = ((bd (f ρ) (λp=>match p.1 with
 |.v T _=>(bd (g T p.2) (λρ'=>.ok (.nx,ρ')) .mk)
 |.s _=>.bad) .mk)):=rfl
@[simp] theorem axT(i:Nat)(f:EF)(ρ : En):aii i f ρ = ((bd (f ρ) (λp=>match p.1 with
 |.v (.lst ts) true=>.ok (.nx,p.2.set i (.ow ts))
 |_=>.bad) .mk)):=rfl
@[simp] theorem asB  (ρ : En):adZ  ρ = (.ok (.nx,ρ)):=rfl
@[simp] theorem axU(f:SF)(ρ : En):acU f ρ = (abS (f ρ)):=rfl
@[simp] theorem axV(i j:Nat)(fa:AF)(ρ : En):ati i j fa ρ = ((bd (fa ρ) (λp=>(bd (cls p.1) (λTs=>match Ts with
 | [T,U]=>.ok (.nx,(p.2.set i (.sh T)).set j (.sh U))
 |_=>.bad) .mk)) .mk)):=rfl
@[simp] theorem awP(i:Nat)(fk fe:EF)(ρ : En):arS i fk fe ρ = ((bd (fe ρ) (λp=>(bd (cls [p.1]) (λTs=>(bd (con p.2 i) (λ_=>(bd (fk p.2) (λq=>(bd (dr q.2 q.1) (λkT=>(bd (iOf kT) (λk=>(bd (con q.2 i) (λts=>match Ts,ixN ts.length k with
 | [T],some j=>.ok (.nx,abr i (ts.set j T) q.2)
 |_,_=>.bad) .mk)) .mk)) .mk)) .mk)) .mk)) .mk)) .mk)):=rfl
@[simp] theorem awQ(f:EF)(ρ : En):ac3 f ρ = ((bd (f ρ) (λp=>.ok (.nx,p.2)) .mk)):=rfl
@[simp] theorem axW(fi:IF)(g:GF)(b:SF)(ρ : En):ad0 fi g b ρ = ((bd (fi ρ) (λp=>abC g b p.1 p.2) .mk)):=rfl
@[simp] theorem axX(i:Nat)(f:SF)(ρ : En):atg i f ρ = (f (frz i ρ)):=rfl
@[simp] theorem axY(i:Nat)(f:SF)(ρ : En):azO i f ρ = (f (dow i ρ)):=rfl
@[simp] theorem axZ(i:Nat)(p:Int->Int->Int)(f:EF)(ρ : En):azH i p f ρ = (match ρ[i]? with
 |some (.sh (.int x))=>(bd (f ρ) (λq=>(bd (dr q.2 q.1) (λyT=>(bd (iOf yT) (λy=>.ok (.nx,q.2.set i (.sh (.int (p x y))))) .mk)) .mk)) .mk)
 |_=>.bad):=rfl
@[simp] theorem ax0(i:Nat)(fk:QF)(m:GM)(fa:QF)(ρ : En):azN i fk m fa ρ = ((bd (ac0 ρ i) (λts=>(bd (abS (fk ρ)) (λk=>(bd (ixT ts k) (λz=>match z.2 with
 |.lst us=>(bd (abS (fa ρ)) (λT=>(bd (m us [T]) (λy=>.ok (.nx,ρ.set i (.dp (ts.set z.1 (.lst y.1))))) .mk)) .mk)
 |_=>.bad) .mk)) .mk)) .mk)):=rfl
@[simp] theorem awR(i:Nat)(fk fj:QF)(fe:EF)(ρ : En):axI i fk fj fe ρ = ((bd (fe ρ) (λp=>(bd (clV p.1) (λT=>(bd (ac0 p.2 i) (λts=>(bd (abS (fk p.2)) (λk=>(bd (ixT ts k) (λz=>match z.2 with
 |.lst us=>(bd (abS (fj p.2)) (λj=>(bd (ixT us j) (λy=>.ok (.nx,p.2.set i (.dp (ts.set z.1 (.lst (us.set y.1 T)))))) .mk)) .mk)
 |_=>.bad) .mk)) .mk)) .mk)) .mk)) .mk)):=rfl
@[simp] theorem avo(i:Nat)(src:List (Option Nat))(fi:IF)(g:GF)(c:BF)(f:EF)(ρ : En):auS i src fi g c f ρ = ((bd (fi ρ) (λp=>if p.1.length<=100000 then(bd (abS (apU g c f p.1 (abX src p.2))) (λz=>if ab3 src z.2 p.2=true then .ok (.nx,(abv src z.2 p.2).set i (.dp z.1))else .bad) .mk)else .bad) .mk)):=rfl
@[simp] theorem ax1(i:Nat)(ρ : En):azL i ρ = (match ρ[i]? with
 |some (.sh T)=>.ok T
 |_=>.bad):=rfl
@[simp] theorem azV(T:Tr)(ρ : En):qC T ρ=.ok T:=rfl
@[simp] theorem ax2(i:Nat)(fk fj:QF)(ρ : En):azM i fk fj ρ = ((bd (ac0 ρ i) (λts=>(bd (fk ρ) (λk=>(bd (ixT ts k) (λz=>match z.2 with
 |.lst us=>(bd (fj ρ) (λj=>(bd (ixT us j) (λy=>.ok y.2) .mk)) .mk)
 |_=>.bad) .mk)) .mk)) .mk)):=rfl
@[simp] theorem asC(i:Nat)(ρ : En):aah i ρ = (match ρ[i]? with
 |some (.sh T)=>.ok (.v T false,ρ)
 |some (.ow _)=>.ok (.s i,ρ)
 |some (.rf _)=>.ok (.s i,ρ)
 |_=>.bad):=rfl
@[simp] theorem ax3(T:Tr)(ρ : En):eC T ρ = (.ok (.v T false,ρ)):=rfl
@[simp] theorem azd(Ts:List Tr)(ρ : En):eCL Ts ρ=.ok (.v (.lst Ts) true,ρ):=rfl
@[simp] theorem avp(g:G2)(fa fb:EF)(ρ : En):eOp g fa fb ρ = ((bd (fa ρ) (λp=>(bd (fb p.2) (λq=>(bd (dr q.2 p.1) (λa=>(bd (dr q.2 q.1) (λb=>(bd (g a b) (λz=>.ok (.v z.1 z.2,q.2)) .mk)) .mk)) .mk)) .mk)) .mk)):=rfl
@[simp] theorem aze(g:G1)(fa:EF)(ρ : En):eUn g fa ρ = ((bd (fa ρ) (λp=>(bd (dr p.2 p.1) (λa=>(bd (g a) (λz=>.ok (.v z.1 z.2,p.2)) .mk)) .mk)) .mk)):=rfl
@[simp] theorem avq(g:GN)(fa:AF)(ρ : En):eCB g fa ρ = ((bd (fa ρ) (λp=>(bd (drs p.2 p.1) (λas=>(bd (g as) (λz=>.ok (.v z.1 z.2,p.2)) .mk)) .mk)) .mk)):=rfl
@[simp] theorem aof(F:FP)(fa:AF)(ρ : En):aas F fa ρ = ((bd (fa ρ) (λp=>(bd (drs p.2 p.1) (λas=>(bd (F as) (λz=>if p.1.any isS=true/\ad1 z=false then .bad else .ok (.v z.1 z.2,p.2)) .mk)) .mk)) .mk)):=rfl
@[simp] theorem avr(r:Nat)(F:FR)(fa:AF)(ρ : En):aaT r F fa ρ = ((bd (fa ρ) (λp=>match p.1[r]? with
 |some (.s i)=>if others r i p.1=true then((bd (con p.2 i) (λ_=>(bd (drs p.2 p.1) (λas=>(bd (F as) (λz=>if((p.1.eraseIdx r).any isS=true/\ad1 z.1=false)\/(((p.1.eraseIdx r).any isS=true\/z.1.2=true)/\adM z.2=false)then .bad else .ok (.v z.1.1 z.1.2,abr i z.2 p.2)) .mk)) .mk)) .mk))else .bad
 |_=>.bad) .mk)):=rfl
@[simp] theorem ax4(a:Int):adM [.int a]=true:=rfl
@[simp] theorem ax5(a b:Int):adM [.int a,.int b]=true:=rfl
@[simp] theorem ax6(g:AF)(ρ : En):ae9 g ρ = ((bd (g ρ) (λp=>(bd (cls p.1) (λts=>if ts.length<=1000 then .ok (.v (.lst ts) true,p.2)else .bad) .mk)) .mk)):=rfl
@[simp] theorem ax7(g:AF)(ρ : En):akg g ρ = ((bd (g ρ) (λp=>(bd (cls p.1) (λts=>if ts.length<=1000 then .ok (.v (.tup ts) false,p.2)else .bad) .mk)) .mk)):=rfl
@[simp] theorem ax8(f g:EF)(ρ : En):ao8 f g ρ = ((bd (abk f ρ) (λp=>if p.1=true then g p.2 else .ok (eB false,p.2)) .mk)):=rfl
@[simp] theorem azf(f g:EF)(ρ : En):eOr f g ρ = ((bd (abk f ρ) (λp=>if p.1=true then .ok (eB true,p.2)else g p.2) .mk)):=rfl
@[simp] theorem ax9(f:EF)(ρ : En):axk f ρ = ((bd (abk f ρ) (λp=>.ok (eB (!p.1),p.2)) .mk)):=rfl
@[simp] theorem azg(c:BF)(f g:EF)(ρ : En):eIf c f g ρ = ((bd (c ρ) (λp=>if p.1=true then f p.2 else g p.2) .mk)):=rfl
@[simp] theorem aya(c:Ty)(fa:EF)(ρ : En):amZ c fa ρ = ((bd (fa ρ) (λp=>(bd (dr p.2 p.1) (λa=>.ok (eB (ada a c),p.2)) .mk)) .mk)):=rfl
@[simp] theorem avs(g g':G2)(fa fb fc:EF)(ρ : En):agn g g' fa fb fc ρ = ((bd (fa ρ) (λp=>(bd (fb p.2) (λq=>(bd (dr q.2 p.1) (λa=>(bd (dr q.2 q.1) (λb=>(bd (g a b) (λz=>(bd (bOf z.1) (λk=>if k=true then(bd (fc q.2) (λs=>(bd (dr s.2 q.1) (λb=>(bd (dr s.2 s.1) (λc=>(bd (g' b c) (λz=>.ok (.v z.1 z.2,s.2)) .mk)) .mk)) .mk)) .mk)else .ok (eB false,q.2)) .mk)) .mk)) .mk)) .mk)) .mk)) .mk)):=rfl
@[simp] theorem azh(fa:EF)(fl fh:OF)(ρ : En):eSl fa fl fh ρ = ((bd (fa ρ) (λp=>(bd (fl p.2) (λl=>(bd (fh l.2) (λh=>(bd (dr h.2 p.1) (λa=>(bd (gSl l.1 h.1 a) (λz=>.ok (.v z.1 z.2,h.2)) .mk)) .mk)) .mk)) .mk)) .mk)):=rfl
@[simp] theorem alP(src:List (Option Nat))(fi:IF)(g:GF)(c:BF)(f:EF)(ρ : En):abb src fi g c f ρ = ((bd (fi ρ) (λp=>if p.1.length<=100000 then(bd (abS (ad2 g c f p.1 (abX src p.2))) (λz=>if ab3 src z.2 p.2=true then .ok (.v (.lst z.1) true,abv src z.2 p.2)else .bad) .mk)else .bad) .mk)):=rfl
@[simp] theorem azi(i:Nat)(m:GM)(fa:AF)(ρ : En):eMt i m fa ρ = ((bd (con ρ i) (λ_=>(bd (fa ρ) (λp=>(bd (cls p.1) (λas=>(bd (con p.2 i) (λts=>(bd (m ts as) (λz=>.ok (.v z.2 false,abr i z.1 p.2)) .mk)) .mk)) .mk)) .mk)) .mk)):=rfl
@[simp] theorem ayb(i:Nat)(m:GM)(ρ : En):azG i m ρ = ((bd (con ρ i) (λts=>(bd (m ts []) (λz=>.ok (.v z.2 false,abr i z.1 ρ)) .mk)) .mk)):=rfl
@[simp] theorem aqf(fa:EF)(ρ : En):abk fa ρ = ((bd (fa ρ) (λp=>(bd (dr p.2 p.1) (λa=>(bd (bOf a) (λb=>.ok (b,p.2)) .mk)) .mk)) .mk)):=rfl
@[simp] theorem ayc(fa:EF)(ρ : En):afS fa ρ = ((bd (fa ρ) (λp=>(bd (dr p.2 p.1) (λa=>(bd (tru a) (λb=>.ok (b,p.2)) .mk)) .mk)) .mk)):=rfl
@[simp] theorem ayd(f g:BF)(ρ : En):azE f g ρ = ((bd (f ρ) (λp=>if p.1=true then g p.2 else .ok (false,p.2)) .mk)):=rfl
@[simp] theorem azj(f g:BF)(ρ : En):bOr f g ρ = ((bd (f ρ) (λp=>if p.1=true then .ok (true,p.2)else g p.2) .mk)):=rfl
@[simp] theorem aye(f:BF)(ρ : En):aie f ρ = ((bd (f ρ) (λp=>.ok (!p.1,p.2)) .mk)):=rfl
@[simp] theorem aog  (ρ : En):ad3  ρ = (.ok (true,ρ)):=rfl
@[simp] theorem asD  (ρ : En):aar  ρ = (.ok ([],ρ)):=rfl
@[simp] theorem aqg(f:EF)(g:AF)(ρ : En):aae f g ρ = ((bd (f ρ) (λp=>(bd (g p.2) (λq=>.ok (p.1::q.1,q.2)) .mk)) .mk)):=rfl
@[simp] theorem azk(f:EF)(ρ : En):fSq f ρ = ((bd (f ρ) (λp=>(bd (acD p.1) (λz=>.ok (z.1,p.2)) .mk)) .mk)):=rfl
@[simp] theorem ayf(fa:AF)(ρ : En):aeX fa ρ = ((bd (fa ρ) (λp=>(bd (drs p.2 p.1) (λas=>match as with
 | [.int j]=>if okR j=true then .ok (upTo 0 j.toNat,p.2)else .bad
 |_=>.bad) .mk)) .mk)):=rfl
@[simp] theorem awS(fa:AF)(ρ : En):axl fa ρ = ((bd (fa ρ) (λp=>(bd (drs p.2 p.1) (λas=>match as with
 | [.int i,.int j]=>if okR i=true/\okR j=true then .ok (upTo i (j-i).toNat,p.2)else .bad
 |_=>.bad) .mk)) .mk)):=rfl
@[simp] theorem ayg(fa:AF)(ρ : En):auU fa ρ = ((bd (fa ρ) (λp=>match p.1 with
 | [.v (.lst us) _,.v (.lst vs) _]=>.ok (aqT us vs,p.2)
 |_=>.bad) .mk)):=rfl
@[simp] theorem azl  (ρ : En):oNo  ρ = (.ok (none,ρ)):=rfl
@[simp] theorem awT(fa:EF)(ρ : En):afT fa ρ = ((bd (fa ρ) (λp=>(bd (dr p.2 p.1) (λa=>(bd (iOf a) (λb=>.ok (some b,p.2)) .mk)) .mk)) .mk)):=rfl
@[simp] theorem azW(i:Nat)(T:Tr)(ρ : En):gN i T ρ = (.ok (ρ.set i (.sh T))):=rfl
@[simp] theorem azX(n:Nat)(f:GFs)(T:Tr)(ρ : En):gT n f T ρ = (match T with
 |.tup Ts=>if Ts.length=n then f Ts ρ else .bad
 |_=>.bad):=rfl
@[simp] theorem awU  (Ts:List Tr)(ρ : En):ac6  Ts ρ = (match Ts with
 | []=>.ok ρ
 |_=>.bad):=rfl
@[simp] theorem avt(f:GF)(g:GFs)(Ts:List Tr)(ρ : En):aaV f g Ts ρ = (match Ts with
 |T::r=>(bd (f T ρ) (λρ'=>g r ρ') .mk)
 | []=>.bad):=rfl
@[simp] theorem azm(a:Tr):aaD 1 [a]=[.sh a]:=rfl
end L2
end
section
namespace BH
open PySem L2
theorem aaA(i:Int):dep (.int i)=0:=rfl
theorem aa5(i:Bool):dep (.bl i)=0:=rfl
theorem aaE(i:Str):dep (.str i)=0:=rfl
theorem aaK:dep .non=0:=rfl
theorem aaH(ts:List Tr):dep (.tup ts)=deps ts+1:=by simp only[dep]
theorem aaL(ts:List Tr):dep (.lst ts)=deps ts+1:=by simp only[dep]
theorem aax:deps []=0:=rfl
theorem aav(t:Tr)(ts:List Tr):deps (t::ts)=max (dep t) (deps ts):=by simp only[deps]
theorem aaU(i j:Int):eqT (.int i) (.int j)=(i == j):=by simp only[eqT]
theorem aa6(i j:Bool):eqT (.bl i) (.bl j)=(i == j):=by simp only[eqT]
theorem aa1(i j:Str):eqT (.str i) (.str j)=(i == j):=by simp only[eqT]
noncomputable def isW:Tr->Bool
 |.int _=>true
 |_=>false
theorem afm(T:Tr):acd [T]=.ok (.bl (isW T),false):=by cases T <;> rfl
noncomputable def wc:BF:=abk (eOp gNe (aah 1) (eC (.int 0)))
noncomputable def wb:SF:=ati 0 1 (aae (aah 1) (aae (eOp acK (aah 0) (aah 1)) aar))
theorem ayh(a b:Int):wc [.sh (.int a),.sh (.int b)]=.ok (!(b == 0),[.sh (.int a),.sh (.int b)]):=rfl
theorem ayi(a b:Int)(h:b≠0):wb [.sh (.int a),.sh (.int b)]=.ok (.nx,[.sh (.int b),.sh (.int (a.fmod b))]):=by
 unfold wb; simp -dsimp[abS,frz,dow,abr,con,ac0,eB,bOf,tru,dr,drs,cls,clV,adl,g1,g2,gI,gIC,gB,gEq,gNe,gIn,abf,ab2,acQ,acK,acR,acS,gLt,gGt,gLe,gGe,gIx,abg,adE,abL,aa4,adw,ad8,acC,acD,okR,iOf,isS,others,abX,abv,ab3,acV,acT,aaA,aa5,aaE,aaK,aaH,aaL,aax,aav,aaU,aa6,aa1,ada,atI,ixN,aaD,h]
theorem alQ:∀(n:Nat) (a b:Int),b.natAbs<n->∃g:Int,aeF wc wb n [.sh (.int a),.sh (.int b)]=.ok (.nx,[.sh (.int g),.sh (.int 0)])/\(if g<0 then -g else g)=((Int.gcd a b:Nat):Int)
 | 0,a,b,h=>by omega
 |n+1,a,b,h=>by
  unfold aeF
  rw[ayh]
  by_cases z:b=0
  ·subst z
   exact⟨a,rfl,arC a⟩
  ·obtain⟨g,h1,h2⟩:=alQ n b (a.fmod b) (by have:=amj a b z; omega)
   refine⟨g,?_,by rw[h2,alu]⟩
   have e:(!(b == 0))=true:=by simp[z]
   simp only[Rs.bind,e,if_true]
   rw[ayi a b z]
   exact h1
noncomputable def azn:SF:=(aaI (acU (adf (fuI 1) wc wb)) (abm (eCB (g1 adE) (aae (aah 0) aar))))
theorem asF(a b:Int):fnP 2 azn [.int a,.int b]=.ok (.int (Int.gcd a b:Nat),false):=by
 obtain⟨g,h1,h2⟩:=alQ (b.natAbs+1) a b (by omega)
 have h0:aaD 2 [.int a,.int b]=[.sh (.int a),.sh (.int b)]:=rfl
 have h3:acU (adf (fuI 1) wc wb) [.sh (.int a),.sh (.int b)]=.ok (.nx,[.sh (.int g),.sh (.int 0)]):=by
  unfold acU adf
  rw[show fuI 1 [.sh (.int a),.sh (.int b)]=b.natAbs+1 from rfl,h1]
  rfl
 rw[<-h2]
 unfold fnP azn aaI
 rw[h0,h3]
 rfl
theorem acX(a b:Int):aa3 [.int a,.int b]=.ok (.int (Int.gcd a b:Nat),false):=asF a b
noncomputable def aqh:Tr->Tr->Bool
 |.int p,.int q=>decide (1<=q)&&(Int.gcd p q == 1)
 |_,_=>false
noncomputable def am0:Tr->Bool
 |.tup [a,b]=>aqh a b
 |_=>false
theorem asG(n:Nat):((n:Int) == 1)=(n == 1):=by
 rw[Bool.eq_iff_iff]; simp; omega
theorem abI(T:Tr):abE [T]=.ok (.bl (am0 T),false):=by
 unfold abE afE fnP
 cases T with
 |tup ts =>
  match ts with
  | []=>rfl
  | [_]=>rfl
  | [a,b] =>
   cases a <;> cases b <;> try rfl
   rename_i p q
   simp -dsimp[abS,frz,dow,abr,con,ac0,eB,bOf,tru,dr,drs,cls,clV,adl,g1,g2,gI,gIC,gB,gEq,gNe,gIn,abf,ab2,acQ,acK,acR,acS,gLt,gGt,gLe,gGe,gIx,abg,adE,abL,aa4,adw,ad8,acC,acD,okR,iOf,isS,others,abX,abv,ab3,acV,acT,aaA,aa5,aaE,aaK,aaH,aaL,aax,aav,aaU,aa6,aa1,ada,atI,ixN,aaD,afm,isW,acX,am0,aqh,asG]
   by_cases h:1<=q <;> simp[h]
  |a::b::c::r =>
   have:((r.length:Int)+1+1+1 == 2)=false:=by simp; omega
   simp -dsimp[abS,frz,dow,abr,con,ac0,eB,bOf,tru,dr,drs,cls,clV,adl,g1,g2,gI,gIC,gB,gEq,gNe,gIn,abf,ab2,acQ,acK,acR,acS,gLt,gGt,gLe,gGe,gIx,abg,adE,abL,aa4,adw,ad8,acC,acD,okR,iOf,isS,others,abX,abv,ab3,acV,acT,aaA,aa5,aaE,aaK,aaH,aaL,aax,aav,aaU,aa6,aa1,ada,atI,ixN,aaD,am0,this]
 |_=>rfl
noncomputable def asH:Tr->Tr->Bool
 |.int p,.int q=>decide (0<=p)&&decide (p<=q)&&decide (1<=q)&&(Int.gcd p q == 1)
 |_,_=>false
noncomputable def amy:Tr->Bool
 |.tup [a,b]=>asH a b
 |_=>false
theorem akX(T:Tr):ace [T]=.ok (.bl (amy T),false):=by
 unfold ace aip fnP
 cases T with
 |tup ts =>
  match ts with
  | []=>simp -dsimp[abS,frz,dow,abr,con,ac0,eB,bOf,tru,dr,drs,cls,clV,adl,g1,g2,gI,gIC,gB,gEq,gNe,gIn,abf,ab2,acQ,acK,acR,acS,gLt,gGt,gLe,gGe,gIx,abg,adE,abL,aa4,adw,ad8,acC,acD,okR,iOf,isS,others,abX,abv,ab3,acV,acT,aaA,aa5,aaE,aaK,aaH,aaL,aax,aav,aaU,aa6,aa1,ada,atI,ixN,aaD,abI,am0,amy]
  | [_]=>simp -dsimp[abS,frz,dow,abr,con,ac0,eB,bOf,tru,dr,drs,cls,clV,adl,g1,g2,gI,gIC,gB,gEq,gNe,gIn,abf,ab2,acQ,acK,acR,acS,gLt,gGt,gLe,gGe,gIx,abg,adE,abL,aa4,adw,ad8,acC,acD,okR,iOf,isS,others,abX,abv,ab3,acV,acT,aaA,aa5,aaE,aaK,aaH,aaL,aax,aav,aaU,aa6,aa1,ada,atI,ixN,aaD,abI,am0,amy]
  | [a,b] =>
   by_cases w:isW a=true/\isW b=true
   case neg =>
    have w1:aqh a b=false:=by cases a <;> cases b <;> first|rfl|exact absurd ⟨rfl,rfl⟩ w
    have w2:asH a b=false:=by cases a <;> cases b <;> first|rfl|exact absurd ⟨rfl,rfl⟩ w
    simp -dsimp[abS,frz,dow,abr,con,ac0,eB,bOf,tru,dr,drs,cls,clV,adl,g1,g2,gI,gIC,gB,gEq,gNe,gIn,abf,ab2,acQ,acK,acR,acS,gLt,gGt,gLe,gGe,gIx,abg,adE,abL,aa4,adw,ad8,acC,acD,okR,iOf,isS,others,abX,abv,ab3,acV,acT,aaA,aa5,aaE,aaK,aaH,aaL,aax,aav,aaU,aa6,aa1,ada,atI,ixN,aaD,abI,am0,amy,w1,w2]
   cases a <;> try cases w.1
   cases b <;> try cases w.2
   rename_i p q
   simp -dsimp[abS,frz,dow,abr,con,ac0,eB,bOf,tru,dr,drs,cls,clV,adl,g1,g2,gI,gIC,gB,gEq,gNe,gIn,abf,ab2,acQ,acK,acR,acS,gLt,gGt,gLe,gGe,gIx,abg,adE,abL,aa4,adw,ad8,acC,acD,okR,iOf,isS,others,abX,abv,ab3,acV,acT,aaA,aa5,aaE,aaK,aaH,aaL,aax,aav,aaU,aa6,aa1,ada,atI,ixN,aaD,abI,am0,amy,aqh,asH]
   by_cases h:1<=q <;> by_cases h2:p.gcd q=1 <;> by_cases h3:0<=p <;> simp[h,h2,h3]
  |a::b::c::r=>simp -dsimp[abS,frz,dow,abr,con,ac0,eB,bOf,tru,dr,drs,cls,clV,adl,g1,g2,gI,gIC,gB,gEq,gNe,gIn,abf,ab2,acQ,acK,acR,acS,gLt,gGt,gLe,gGe,gIx,abg,adE,abL,aa4,adw,ad8,acC,acD,okR,iOf,isS,others,abX,abv,ab3,acV,acT,aaA,aa5,aaE,aaK,aaH,aaL,aax,aav,aaU,aa6,aa1,ada,atI,ixN,aaD,abI,am0,amy]
 |_=>simp -dsimp[abS,frz,dow,abr,con,ac0,eB,bOf,tru,dr,drs,cls,clV,adl,g1,g2,gI,gIC,gB,gEq,gNe,gIn,abf,ab2,acQ,acK,acR,acS,gLt,gGt,gLe,gGe,gIx,abg,adE,abL,aa4,adw,ad8,acC,acD,okR,iOf,isS,others,abX,abv,ab3,acV,acT,aaA,aa5,aaE,aaK,aaH,aaL,aax,aav,aaU,aa6,aa1,ada,atI,ixN,aaD,abI,am0,amy]
end BH
end
section
namespace BH
open PySem L2
theorem comp_map{f:EF}{h:Tr->Tr}{τ : En}:∀(us:List Tr) (s:Sl),(∀u∈us,∃fr,f (.sh u::τ)=.ok (.v (h u) fr,.sh u::τ))->∃s',ad2 (gN 0) ad3 f us (s::τ)=.ok (us.map h,s'::τ)
 | [],s,_=>⟨s,rfl⟩
 |u::us,s,q=>by
  obtain⟨fr,e⟩:=q u (by simp)
  obtain⟨s',e'⟩:=comp_map us (.sh u) λv hv=>q v (by simp[hv])
  refine⟨s',?_⟩
  unfold ad2
  simp[e,clV,e']
theorem akY{p:Tr->Bool}:∀us:List Tr,ahQ (us.map λu=>.bl (p u))=some (us.map p)
 | []=>rfl
 |u::us=>by simp[ahQ,akY us]
theorem alR{F:FP}{p:Tr->Bool}{us:List Tr}{ρ : En}{i:IF}{fe:EF}(hl:us.length<=100000)(hi:i ρ=.ok (us,ρ))(hf:∀u∈us,∃fr,fe [.sh u]=.ok (.v (.bl (p u)) fr,[.sh u])):eCB (g1 acC) (aae (abb [none] i (gN 0) ad3 fe) aar) ρ=.ok (.v (.bl (us.all p)) false,ρ):=by
 obtain⟨s',e⟩:=comp_map (h:=λu=>.bl (p u)) us .un hf
 simp -dsimp[abS,frz,dow,abr,con,ac0,eB,bOf,tru,dr,drs,cls,clV,adl,g1,g2,gI,gIC,gB,gEq,gNe,gIn,abf,ab2,acQ,acK,acR,acS,gLt,gGt,gLe,gGe,gIx,abg,adE,abL,aa4,adw,ad8,acC,acD,okR,iOf,isS,others,abX,abv,ab3,acV,acT,aaA,aa5,aaE,aaK,aaH,aaL,aax,aav,aaU,aa6,aa1,ada,atI,ixN,aaD,hi,hl,e,akY]
theorem aoh{p:Tr->Bool}{us:List Tr}{ρ : En}{i:IF}{fe:EF}{j:Nat}{T:Tr}(hl:us.length<=100000)(hi:i ρ=.ok (us,ρ))(hj : ρ[j]?=some (.sh T))(hf:∀u∈us,∃fr,fe [.sh u,.sh T]=.ok (.v (.bl (p u)) fr,[.sh u,.sh T])):eCB (g1 acC) (aae (abb [none,some j] i (gN 0) ad3 fe) aar) ρ=.ok (.v (.bl (us.all p)) false,ρ):=by
 obtain⟨s',e⟩:=comp_map (h:=λu=>.bl (p u)) us .un hf
 simp -dsimp[abS,frz,dow,abr,con,ac0,eB,bOf,tru,dr,drs,cls,clV,adl,g1,g2,gI,gIC,gB,gEq,gNe,gIn,abf,ab2,acQ,acK,acR,acS,gLt,gGt,gLe,gGe,gIx,abg,adE,abL,aa4,adw,ad8,acC,acD,okR,iOf,isS,others,abX,abv,ab3,acV,acT,aaA,aa5,aaE,aaK,aaH,aaL,aax,aav,aaU,aa6,aa1,ada,atI,ixN,aaD,hi,hl,hj,e,akY]
noncomputable def agB(m:Int):Tr->Bool
 |.lst ts=>decide (1<=(ts.length:Int))&&decide ((ts.length:Int)<=m)&&ts.all amy
 |_=>false
theorem ai7(T:Tr)(m:Int)(hm:m<=1000):ab6 [T,.int m]=.ok (.bl (agB m T),false):=by
 unfold ab6 agq fnP
 cases T with
 |lst ts =>
  by_cases h1:1<=(ts.length:Int)
  ·by_cases h2:(ts.length:Int)<=m
   ·have e:=alR (F:=ace) (p:=amy) (us:=ts) (ρ:=[.sh (.lst ts),.sh (.int m)]) (i:=fSq (aah 0)) (fe:=aas ace (aae (aah 0) aar)) (by omega) rfl (λu _=>⟨false,by simp -dsimp[abS,frz,dow,abr,con,ac0,eB,bOf,tru,dr,drs,cls,clV,adl,g1,g2,gI,gIC,gB,gEq,gNe,gIn,abf,ab2,acQ,acK,acR,acS,gLt,gGt,gLe,gGe,gIx,abg,adE,abL,aa4,adw,ad8,acC,acD,okR,iOf,isS,others,abX,abv,ab3,acV,acT,aaA,aa5,aaE,aaK,aaH,aaL,aax,aav,aaU,aa6,aa1,ada,atI,ixN,aaD,akX]⟩)
    generalize eCB (g1 acC) (aae (abb [none] (fSq (aah 0)) (gN 0) ad3 (aas ace (aae (aah 0) aar))) aar)=G at e ⊢
    simp -dsimp[abS,frz,dow,abr,con,ac0,eB,bOf,tru,dr,drs,cls,clV,adl,g1,g2,gI,gIC,gB,gEq,gNe,gIn,abf,ab2,acQ,acK,acR,acS,gLt,gGt,gLe,gGe,gIx,abg,adE,abL,aa4,adw,ad8,acC,acD,okR,iOf,isS,others,abX,abv,ab3,acV,acT,aaA,aa5,aaE,aaK,aaH,aaL,aax,aav,aaU,aa6,aa1,ada,atI,ixN,aaD,h1,h2,e,agB]
   ·simp -dsimp[abS,frz,dow,abr,con,ac0,eB,bOf,tru,dr,drs,cls,clV,adl,g1,g2,gI,gIC,gB,gEq,gNe,gIn,abf,ab2,acQ,acK,acR,acS,gLt,gGt,gLe,gGe,gIx,abg,adE,abL,aa4,adw,ad8,acC,acD,okR,iOf,isS,others,abX,abv,ab3,acV,acT,aaA,aa5,aaE,aaK,aaH,aaL,aax,aav,aaU,aa6,aa1,ada,atI,ixN,aaD,h1,h2,agB]
  ·simp -dsimp[abS,frz,dow,abr,con,ac0,eB,bOf,tru,dr,drs,cls,clV,adl,g1,g2,gI,gIC,gB,gEq,gNe,gIn,abf,ab2,acQ,acK,acR,acS,gLt,gGt,gLe,gGe,gIx,abg,adE,abL,aa4,adw,ad8,acC,acD,okR,iOf,isS,others,abX,abv,ab3,acV,acT,aaA,aa5,aaE,aaK,aaH,aaL,aax,aav,aaU,aa6,aa1,ada,atI,ixN,aaD,h1,agB]
 |_=>simp -dsimp[abS,frz,dow,abr,con,ac0,eB,bOf,tru,dr,drs,cls,clV,adl,g1,g2,gI,gIC,gB,gEq,gNe,gIn,abf,ab2,acQ,acK,acR,acS,gLt,gGt,gLe,gGe,gIx,abg,adE,abL,aa4,adw,ad8,acC,acD,okR,iOf,isS,others,abX,abv,ab3,acV,acT,aaA,aa5,aaE,aaK,aaH,aaL,aax,aav,aaU,aa6,aa1,ada,atI,ixN,aaD,agB]
noncomputable def am1:Tr->Int
 |.lst ts=>ts.length
 |_=>-1
noncomputable def alS:Tr->Bool
 |.lst rs=>decide (1<=(rs.length:Int))&&decide ((rs.length:Int)<=4)&&rs.all (agB 12)&&rs.all λr=>am1 r == am1 (rs.headD .non)
 |_=>false
theorem ajZ{m:Int}{T:Tr}(h:agB m T=true):∃ts,T=.lst ts:=by
 cases T <;> first|exact⟨_,rfl⟩|cases h
theorem amz(T:Tr):aeI [T]=.ok (.bl (alS T),false):=by
 unfold aeI ajS fnP
 cases T with
 |lst ts =>
  by_cases h1:1<=(ts.length:Int)
  ·by_cases h2:(ts.length:Int)<=4
   ·have e:=alR (F:=ace) (p:=agB 12) (us:=ts) (ρ:=[.sh (.lst ts)]) (i:=fSq (aah 0)) (fe:=(aas ab6 (aae (aah 0) (aae (eC (.int 12)) aar)))) (by omega) rfl (λu _=>⟨false,by simp -dsimp[abS,frz,dow,abr,con,ac0,eB,bOf,tru,dr,drs,cls,clV,adl,g1,g2,gI,gIC,gB,gEq,gNe,gIn,abf,ab2,acQ,acK,acR,acS,gLt,gGt,gLe,gGe,gIx,abg,adE,abL,aa4,adw,ad8,acC,acD,okR,iOf,isS,others,abX,abv,ab3,acV,acT,aaA,aa5,aaE,aaK,aaH,aaL,aax,aav,aaU,aa6,aa1,ada,atI,ixN,aaD,ai7]⟩)
    generalize eCB (g1 acC) (aae (abb [none] (fSq (aah 0)) (gN 0) ad3 (aas ab6 (aae (aah 0) (aae (eC (.int 12)) aar)))) aar)=G at e ⊢
    cases h3:ts.all (agB 12)with
    |false=>rw[h3]at e; simp -dsimp[abS,frz,dow,abr,con,ac0,eB,bOf,tru,dr,drs,cls,clV,adl,g1,g2,gI,gIC,gB,gEq,gNe,gIn,abf,ab2,acQ,acK,acR,acS,gLt,gGt,gLe,gGe,gIx,abg,adE,abL,aa4,adw,ad8,acC,acD,okR,iOf,isS,others,abX,abv,ab3,acV,acT,aaA,aa5,aaE,aaK,aaH,aaL,aax,aav,aaU,aa6,aa1,ada,atI,ixN,aaD,h1,h2,e,alS,h3]
    |true =>
     have h4:=List.all_eq_true.mp h3
     obtain⟨r0,rs,rfl⟩:∃r0 rs,ts=r0::rs:=by cases ts with
      |nil=>simp at h1
      |cons a b=>exact⟨a,b,rfl⟩
     obtain⟨l0,rfl⟩:=ajZ (h4 r0 (by simp))
     have e2:=aoh (p:=λr=>am1 r == (l0.length:Int)) (us:=.lst l0::rs) (ρ:=[.sh (.lst (.lst l0::rs))]) (j:=0) (T:=.lst (.lst l0::rs)) (i:=fSq (aah 0)) (fe:=(eOp gEq (eCB (g1 abg) (aae (aah 0) aar)) (eCB (g1 abg) (aae (eOp gIx (aah 1) (eC (.int 0))) aar)))) (by omega) rfl rfl (λu hu=>⟨false,by
      obtain⟨l,rfl⟩:=ajZ (h4 u hu)
      have:(0:Int)<(rs.length:Int)+1:=by omega
      simp -dsimp[abS,frz,dow,abr,con,ac0,eB,bOf,tru,dr,drs,cls,clV,adl,g1,g2,gI,gIC,gB,gEq,gNe,gIn,abf,ab2,acQ,acK,acR,acS,gLt,gGt,gLe,gGe,gIx,abg,adE,abL,aa4,adw,ad8,acC,acD,okR,iOf,isS,others,abX,abv,ab3,acV,acT,aaA,aa5,aaE,aaK,aaH,aaL,aax,aav,aaU,aa6,aa1,ada,atI,ixN,aaD,am1,this]⟩)
     generalize eCB (g1 acC) (aae (abb [none,some 0] (fSq (aah 0)) (gN 0) ad3 (eOp gEq (eCB (g1 abg) (aae (aah 0) aar)) (eCB (g1 abg) (aae (eOp gIx (aah 1) (eC (.int 0))) aar)))) aar)=G2 at e2 ⊢
     rw[h3]at e
     have e3:alS (.lst (.lst l0::rs))=(Tr.lst l0::rs).all (λr=>am1 r == (l0.length:Int)):=by
      show(decide (1<=((Tr.lst l0::rs).length:Int))&&decide (((Tr.lst l0::rs).length:Int)<=4)&&(Tr.lst l0::rs).all (agB 12)&&(Tr.lst l0::rs).all λr=>am1 r == am1 (.lst l0))=_
      rw[h3,decide_eq_true h1,decide_eq_true h2]
      rfl
     rw[e3]
     generalize (Tr.lst l0::rs).all (λr=>am1 r == (l0.length:Int))=bb at e2
     have h1':(1:Int)<=(rs.length:Int)+1:=by omega
     have h2':(rs.length:Int)+1<=4:=by simp only[List.length_cons]at h2; omega
     simp -dsimp[abS,frz,dow,abr,con,ac0,eB,bOf,tru,dr,drs,cls,clV,adl,g1,g2,gI,gIC,gB,gEq,gNe,gIn,abf,ab2,acQ,acK,acR,acS,gLt,gGt,gLe,gGe,gIx,abg,adE,abL,aa4,adw,ad8,acC,acD,okR,iOf,isS,others,abX,abv,ab3,acV,acT,aaA,aa5,aaE,aaK,aaH,aaL,aax,aav,aaU,aa6,aa1,ada,atI,ixN,aaD,h1',h2',e,e2]
   ·simp -dsimp[abS,frz,dow,abr,con,ac0,eB,bOf,tru,dr,drs,cls,clV,adl,g1,g2,gI,gIC,gB,gEq,gNe,gIn,abf,ab2,acQ,acK,acR,acS,gLt,gGt,gLe,gGe,gIx,abg,adE,abL,aa4,adw,ad8,acC,acD,okR,iOf,isS,others,abX,abv,ab3,acV,acT,aaA,aa5,aaE,aaK,aaH,aaL,aax,aav,aaU,aa6,aa1,ada,atI,ixN,aaD,h1,h2,alS]
  ·simp -dsimp[abS,frz,dow,abr,con,ac0,eB,bOf,tru,dr,drs,cls,clV,adl,g1,g2,gI,gIC,gB,gEq,gNe,gIn,abf,ab2,acQ,acK,acR,acS,gLt,gGt,gLe,gGe,gIx,abg,adE,abL,aa4,adw,ad8,acC,acD,okR,iOf,isS,others,abX,abv,ab3,acV,acT,aaA,aa5,aaE,aaK,aaH,aaL,aax,aav,aaU,aa6,aa1,ada,atI,ixN,aaD,h1,alS]
 |_=>simp -dsimp[abS,frz,dow,abr,con,ac0,eB,bOf,tru,dr,drs,cls,clV,adl,g1,g2,gI,gIC,gB,gEq,gNe,gIn,abf,ab2,acQ,acK,acR,acS,gLt,gGt,gLe,gGe,gIx,abg,adE,abL,aa4,adw,ad8,acC,acD,okR,iOf,isS,others,abX,abv,ab3,acV,acT,aaA,aa5,aaE,aaK,aaH,aaL,aax,aav,aaU,aa6,aa1,ada,atI,ixN,aaD,alS]
end BH
end
section
namespace L2
open PySem
@[simp] theorem azo(fa:AF)(ρ : En):eLR fa ρ = bd (fa ρ) (λp=>match p.1 with
 | [.v (.int n) _]=>if 0<=n/\n<=1000 then .ok (.v (.lst ((List.range n.toNat).map λi:Nat=>Tr.int i)) true,p.2)else .bad
 |_=>.bad) .mk:=rfl
@[simp] theorem atl(F:FR)(fa:EF)(ρ : En):asl F fa ρ = bd (fa ρ) (λp=>match p.1 with
 |.v (.lst us) true=>bd (F [.lst us]) (λz=>.ok (.v z.1.1 z.1.2,p.2)) .mk
 |_=>.bad) .mk:=rfl
@[simp] theorem avu(kt:Tr->Option (Int × Int))(src:List (Option Nat))(fa:AF)(fb:RF)(ρ : En):alI kt src fa fb ρ = bd (fa ρ) (λp=>match p.1 with
 | [.v (.int n) _]=>if 0<=n/\n<64 then bd (abS (akD kt fb (anS src p.2) (List.range n.toNat))) (λks=>.ok (.v (.lst ((anP n.toNat λi=>ks.getD i (0,0)).map λi:Nat=>Tr.int i)) true,p.2)) .mk else .bad
 |_=>.bad) .mk:=rfl
end L2
namespace BH
open PySem L2
noncomputable def fT(x:Int × Int):Tr:=.tup [.int x.1,.int x.2]
theorem lg2{k:Int}{M:Nat}(h:k.natAbs<2 ^ M)(hM:M<=8000):k.natAbs.log2<9000:=by
 by_cases z:k.natAbs=0
 ·rw[z]; decide
 ·have:=(Nat.log2_lt (n:=k.natAbs) (k:=M) z).mpr h
  omega
theorem aq0{k:Int}{M:Nat}(h:k.natAbs<2 ^ M)(hM:M<=8000):fit k=true:=by
 have:=lg2 h hM
 unfold fit
 rw[decide_eq_true_eq]
 omega
theorem adL{i j:Int}{M N:Nat}(h1:i.natAbs<2 ^ M)(hM:M<=8000)(h2:j.natAbs<2 ^ N)(hN:N<=8000):agw i j=true:=by
 unfold agw
 rw[aq0 h1 hM,aq0 h2 hN]
 rfl
theorem afn{i j:Int}{M:Nat}(h0:j≠0)(h:j.natAbs<2 ^ M)(hM:M<=8000):amY i j=true:=by
 unfold amY
 rw[Bool.and_eq_true,decide_eq_true_eq,decide_eq_true_eq]
 exact⟨h0,lg2 h hM⟩
theorem aqi{B q:Int}(hB:1<=B)(hq:1<=q):let B':=(B*q).fdiv ((Int.gcd B q:Nat):Int); 1<=B'/\B∣B'/\q∣B'/\B'<=B*q:=by
 have g0:0<Int.gcd B q:=Int.gcd_pos_of_ne_zero_left _ (by omega)
 obtain⟨b,hb⟩:=Int.gcd_dvd_left (a:=B) (b:=q)
 obtain⟨o,ho⟩:=Int.gcd_dvd_right (a:=B) (b:=q)
 generalize hg:((Int.gcd B q:Nat):Int)=g at hb ho
 have g1:0<g:=by omega
 have b1:0<b:=by
  rcases Int.lt_or_le 0 b with z|z
  ·exact z
  ·have:=Int.mul_nonpos_of_nonneg_of_nonpos (a:=g) (b:=b) (by omega) z; omega
 have o1:0<o:=by
  rcases Int.lt_or_le 0 o with z|z
  ·exact z
  ·have:=Int.mul_nonpos_of_nonneg_of_nonpos (a:=g) (b:=o) (by omega) z; omega
 have e:(B*q).fdiv g=B*o:=by
  rw[Int.fdiv_eq_ediv_of_nonneg _ (by omega)]
  have:B*q=g*(B*o):=by rw[ho]; ac_rfl
  rw[this]
  exact Int.mul_ediv_cancel_left _ (by omega)
 dsimp only
 rw[e]
 refine⟨?_,⟨o,rfl⟩,⟨b,?_⟩,?_⟩
 ·have:=Int.mul_pos (a:=B) (b:=o) (by omega) o1; omega
 ·conv=>lhs; rw[hb]
  conv=>rhs; rw[ho]
  ac_rfl
 ·refine Int.mul_le_mul_of_nonneg_left ?_ (by omega)
  rw[ho]
  have:=Int.mul_le_mul_of_nonneg_right (a:=1) (b:=g) (c:=o) (by omega) (by omega)
  omega
noncomputable def cbB:SF:=(abM (eOp acQ (eOp ab2 (aah 1) (aah 3)) (aas aa3 (aae (aah 1) (aae (aah 3) aar)))) (gN 1))
theorem avv(s0:Sl)(B p q:Int){M N:Nat}(hB:1<=B)(hq:1<=q)(hB2:B<2 ^ M)(hM:M<=8000)(hq2:q<2 ^ N)(hN:N<=8000):cbB [s0,.sh (.int B),.sh (.int p),.sh (.int q)]=.ok (.nx,[s0,.sh (.int ((B*q).fdiv ((Int.gcd B q:Nat):Int))),.sh (.int p),.sh (.int q)]):=by
 have g0:0<Int.gcd B q:=Int.gcd_pos_of_ne_zero_left _ (by omega)
 have gl:Int.gcd B q<=q.natAbs:=Nat.le_of_dvd (by omega) (Int.gcd_dvd_natAbs_right ..)
 have eM:((2 ^ M:Nat):Int)=2 ^ M:=by push_cast; rfl
 have eN:((2 ^ N:Nat):Int)=2 ^ N:=by push_cast; rfl
 have c1:agw B q=true:=adL (M:=M) (N:=N) (by omega) hM (by omega) hN
 have c2:∀i,amY i ((Int.gcd B q:Nat):Int)=true:=λi=>afn (M:=N) (by omega) (by omega) hN
 unfold cbB
 simp -dsimp[abS,frz,dow,abr,con,ac0,eB,bOf,tru,dr,drs,cls,clV,adl,g1,g2,gI,gIC,gB,gEq,gNe,gIn,abf,ab2,acQ,acK,acR,acS,gLt,gGt,gLe,gGe,gIx,abg,adE,abL,aa4,adw,ad8,acC,acD,okR,iOf,isS,others,abX,abv,ab3,acV,acT,aaA,aa5,aaE,aaK,aaH,aaL,aax,aav,aaU,aa6,aa1,ada,atI,ixN,aaD,acX,c1,c2]
noncomputable def Fr(N:Nat)(l:List (Int × Int)):Prop:=∀x∈l,1<=x.2/\x.2<2 ^ N
theorem aoi{N:Nat}(s0:Sl):∀(l:List (Int × Int)) (B:Int) (M:Nat) (s2 s3:Sl),Fr N l->1<=B->B<2 ^ M->M+N*l.length<=8000->N<=8000->∃B' t2 t3,abC (gT 2 (aaV (gN 2) (aaV (gN 3) ac6))) cbB (l.map fT) [s0,.sh (.int B),s2,s3]=.ok (.nx,[s0,.sh (.int B'),t2,t3])/\1<=B'/\B'<2 ^ (M+N*l.length)/\B∣B'/\∀x∈l,x.2∣B'
 | [],B,M,s2,s3,_,h1,h2,_,_=>⟨B,s2,s3,rfl,h1,by simpa using h2,Int.dvd_refl _,by simp⟩
 |x::l,B,M,s2,s3,h,h1,h2,h3,h4=>by
  obtain⟨a1,a2⟩:=h x (by simp)
  obtain⟨b1,b2,b3,b4⟩:=aqi h1 a1
  have e:=avv s0 B x.1 x.2 h1 a1 h2 (by omega) a2 h4
  generalize (B*x.2).fdiv ((Int.gcd B x.2:Nat):Int)=B1 at b1 b2 b3 b4 e
  have lt:B1<2 ^ (M+N):=by
   have p1:(0:Int)<2 ^ N:=Int.pow_pos (by omega)
   have q1:B*x.2<=B*2 ^ N:=Int.mul_le_mul_of_nonneg_left (by omega) (by omega)
   have q2:B*2 ^ N<2 ^ M*2 ^ N:=Int.mul_lt_mul_of_pos_right h2 p1
   rw[Int.pow_add]
   omega
  rw[List.length_cons]at h3
  have hm:M+N+N*l.length=M+N*(l.length+1):=by rw[Nat.mul_succ]; omega
  obtain⟨B',t2,t3,e',c1,c2,c3,c4⟩:=aoi s0 l B1 (M+N) (.sh (.int x.1)) (.sh (.int x.2)) (λy hy=>h y (by simp[hy])) b1 lt (by omega) h4
  refine⟨B',t2,t3,?_,c1,by rw[List.length_cons,<-hm]; exact c2,Int.dvd_trans b2 c3,λy hy=>?_⟩
  ·show abC _ cbB (fT x::l.map fT) _=_
   unfold abC
   rw[show(gT 2 (aaV (gN 2) (aaV (gN 3) ac6))) (fT x) [s0,.sh (.int B),s2,s3]=.ok [s0,.sh (.int B),.sh (.int x.1),.sh (.int x.2)]from rfl]
   simp only[Rs.aaJ]
   rw[e]
   exact e'
  ·rcases List.mem_cons.mp hy with rfl|hy
   ·exact Int.dvd_trans b3 c3
   ·exact c4 y hy
theorem agC{N:Nat}(l:List (Int × Int))(h:Fr N l)(hl:1+N*l.length<=8000)(hN:N<=8000):∃B,ab7 [.lst (l.map fT)]=.ok (.int B,false)/\1<=B/\B<2 ^ (1+N*l.length)/\∀x∈l,x.2∣B:=by
 obtain⟨B,t2,t3,e,h1,h2,_,h3⟩:=aoi (.sh (.lst (l.map fT))) l 1 1 .un .un h (by omega) (by omega) hl hN
 refine⟨B,?_,h1,h2,h3⟩
 show fnP 4 (aaI (abM (eC (.int 1)) (gN 1)) (aaI (acU (ad0 (fSq (aah 0)) (gT 2 (aaV (gN 2) (aaV (gN 3) ac6))) cbB)) (abm (aah 1)))) [.lst (l.map fT)]=_
 have e1:acU (ad0 (fSq (aah 0)) (gT 2 (aaV (gN 2) (aaV (gN 3) ac6))) cbB) [.sh (.lst (l.map fT)),.sh (.int 1),.un,.un]=.ok (.nx,[.sh (.lst (l.map fT)),.sh (.int B),t2,t3]):=by
  unfold acU ad0
  show abS (abC _ cbB (l.map fT) _)=_
  rw[e]
  rfl
 generalize acU _=G at e1 ⊢
 generalize Tr.lst (l.map fT)=T at e1 ⊢
 unfold fnP
 simp -dsimp[abS,frz,dow,abr,con,ac0,eB,bOf,tru,dr,drs,cls,clV,adl,g1,g2,gI,gIC,gB,gEq,gNe,gIn,abf,ab2,acQ,acK,acR,acS,gLt,gGt,gLe,gGe,gIx,abg,adE,abL,aa4,adw,ad8,acC,acD,okR,iOf,isS,others,abX,abv,ab3,acV,acT,aaA,aa5,aaE,aaK,aaH,aaL,aax,aav,aaU,aa6,aa1,ada,atI,ixN,aaD,e1]
noncomputable def tpE:EF:=(eOp ab2 (aah 0) (eOp acQ (aah 2) (aah 1)))
theorem aj0{B:Int}{M N:Nat}(hB:1<=B)(hB2:B<2 ^ M)(hM:M<=8000)(hN:N<=8000):∀(l:List (Int × Int)) (s0 s1:Sl),Fr N l->(∀x∈l,x.1.natAbs<2 ^ N)->∃t0 t1,ad2 (gT 2 (aaV (gN 0) (aaV (gN 1) ac6))) ad3 tpE (l.map fT) [s0,s1,.sh (.int B)]=.ok (l.map λx=>.int (x.1*(B / x.2)),[t0,t1,.sh (.int B)])
 | [],s0,s1,_,_=>⟨s0,s1,rfl⟩
 |x::l,s0,s1,h,h'=>by
  obtain⟨a1,a2⟩:=h x (by simp)
  have a3:=h' x (by simp)
  obtain⟨t0,t1,e⟩:=aj0 hB hB2 hM hN l (.sh (.int x.1)) (.sh (.int x.2)) (λy hy=>h y (by simp[hy])) (λy hy=>h' y (by simp[hy]))
  refine⟨t0,t1,?_⟩
  have eM:((2 ^ M:Nat):Int)=2 ^ M:=by push_cast; rfl
  have eN:((2 ^ N:Nat):Int)=2 ^ N:=by push_cast; rfl
  have d0:=Int.ediv_nonneg (a:=B) (b:=x.2) (by omega) (by omega)
  have d1:=Int.ediv_le_self (a:=B) x.2 (by omega)
  have c1:amY B x.2=true:=afn (M:=N) (by omega) (by omega) hN
  have c2:agw x.1 (B / x.2)=true:=adL (M:=N) (N:=M) a3 hN (by omega) hM
  have e1:tpE [.sh (.int x.1),.sh (.int x.2),.sh (.int B)]=.ok (.v (.int (x.1*(B / x.2))) false,[.sh (.int x.1),.sh (.int x.2),.sh (.int B)]):=by
   unfold tpE
   have fe:B.fdiv x.2=B / x.2:=Int.fdiv_eq_ediv_of_nonneg _ (by omega)
   simp -dsimp[abS,frz,dow,abr,con,ac0,eB,bOf,tru,dr,drs,cls,clV,adl,g1,g2,gI,gIC,gB,gEq,gNe,gIn,abf,ab2,acQ,acK,acR,acS,gLt,gGt,gLe,gGe,gIx,abg,adE,abL,aa4,adw,ad8,acC,acD,okR,iOf,isS,others,abX,abv,ab3,acV,acT,aaA,aa5,aaE,aaK,aaH,aaL,aax,aav,aaU,aa6,aa1,ada,atI,ixN,aaD,c1,fe,c2]
  show ad2 _ ad3 tpE (fT x::l.map fT) _=_
  unfold ad2
  rw[show(gT 2 (aaV (gN 0) (aaV (gN 1) ac6))) (fT x) [s0,s1,.sh (.int B)]=.ok [.sh (.int x.1),.sh (.int x.2),.sh (.int B)]from rfl]
  simp only[Rs.aaJ,aog,if_true]
  rw[e1]
  simp only[Rs.aaJ,clV]
  rw[e]
  rfl
noncomputable def Frs(N:Nat)(l:List (Int × Int)):Prop:=∀x∈l,1<=x.2/\x.2<2 ^ N/\x.1.natAbs<2 ^ N
theorem Frs.fr{N:Nat}{l:List (Int × Int)}(h:Frs N l):Fr N l:=λx hx=>⟨(h x hx).1,(h x hx).2.1⟩
theorem asI{N:Nat}(l:List (Int × Int))(h:Frs N l)(hl:1+N*l.length<=8000)(hN:N<=8000)(hl2:l.length<=1000):∃B,abO [.lst (l.map fT)]=.ok (.lst (l.map λx=>.int (x.1*(B / x.2))),true)/\1<=B/\∀x∈l,x.2∣B:=by
 obtain⟨B,e,h1,h2,h3⟩:=agC l h.fr hl hN
 obtain⟨t0,t1,e2⟩:=aj0 h1 h2 hl hN l .un .un h.fr λx hx=>(h x hx).2.2
 refine⟨B,?_,h1,h3⟩
 show fnP 2 (aaI (abM (aas ab7 (aae (aah 0) aar)) (gN 1)) (abm (abb [none,none,some 1] (fSq (aah 0)) (gT 2 (aaV (gN 0) (aaV (gN 1) ac6))) ad3 tpE))) [.lst (l.map fT)]=_
 unfold fnP
 simp -dsimp[abS,frz,dow,abr,con,ac0,eB,bOf,tru,dr,drs,cls,clV,adl,g1,g2,gI,gIC,gB,gEq,gNe,gIn,abf,ab2,acQ,acK,acR,acS,gLt,gGt,gLe,gGe,gIx,abg,adE,abL,aa4,adw,ad8,acC,acD,okR,iOf,isS,others,abX,abv,ab3,acV,acT,aaA,aa5,aaE,aaK,aaH,aaL,aax,aav,aaU,aa6,aa1,ada,atI,ixN,aaD,e,e2,show l.length<=100000 by omega]
noncomputable def Bfr(l:List (Int × Int))(i j:Nat):Prop:=(l.getD j (0,1)).1*(l.getD i (0,1)).2<(l.getD i (0,1)).1*(l.getD j (0,1)).2\/((l.getD j (0,1)).1*(l.getD i (0,1)).2=(l.getD i (0,1)).1*(l.getD j (0,1)).2/\i<j)
noncomputable def Fall(l:List (Int × Int))(ys:List Nat):Prop:=ys.Perm (List.range l.length)/\ys.Pairwise (Bfr l)
theorem alT(ts:List Int):∀(is:List Nat),(∀i∈is,i<ts.length)->akD au2 (rUn anv (rOp gIx (ap5 1) (ap5 0))) [some (.lst (ts.map Tr.int))] is=.ok (is.map λi=>(-(ts.getD i 0),0))
 | [],_=>rfl
 |i::is,h=>by
  have hi:=h i (by simp)
  have e:(rUn anv (rOp gIx (ap5 1) (ap5 0))) [some (Tr.int i),some (.lst (ts.map Tr.int))]=.ok (.int (-(ts.getD i 0))):=by
   unfold rUn rOp ap5
   have a:atI (ts.map Tr.int) (i:Int)=some (.int (ts.getD i 0)):=by
    unfold atI ixN
    simp[hi]
   simp[gIx,a,anv]
  unfold akD
  rw[e,alT ts is λj hj=>h j (by simp[hj])]
  rfl
theorem top_lt{B p q r s:Int}(hB:1<=B)(hq:1<=q)(hs:1<=s)(dq:q∣B)(ds:s∣B):(p*(B / q)<r*(B / s)↔p*s<r*q)/\(p*(B / q)=r*(B / s)↔p*s=r*q):=by
 obtain⟨a,ha⟩:=dq
 obtain⟨b,hb⟩:=ds
 have e1:B / q=a:=by rw[ha]; exact Int.mul_ediv_cancel_left _ (by omega)
 have e2:B / s=b:=by rw[hb]; exact Int.mul_ediv_cancel_left _ (by omega)
 rw[e1,e2]
 have x1:(p*a)*(q*s)=(p*s)*B:=by rw[ha]; ac_rfl
 have x2:(r*b)*(q*s)=(r*q)*B:=by rw[hb]; ac_rfl
 have qs:0<q*s:=Int.mul_pos (by omega) (by omega)
 constructor
 ·constructor
  ·intro h
   have:=Int.mul_lt_mul_of_pos_right h qs
   rw[x1,x2]at this
   exact Int.lt_of_mul_lt_mul_right this (by omega)
  ·intro h
   have:=Int.mul_lt_mul_of_pos_right h (show 0<B by omega)
   rw[<-x1,<-x2]at this
   exact Int.lt_of_mul_lt_mul_right this (by omega)
 ·constructor
  ·intro h
   rw[h,x2]at x1
   exact(Int.eq_of_mul_eq_mul_right (by omega) x1).symm
  ·intro h
   rw[h,<-x2]at x1
   exact Int.eq_of_mul_eq_mul_right (by omega) x1
theorem agb{N:Nat}(l:List (Int × Int))(h:Frs N l)(hl:1+N*l.length<=8000)(hN:N<=8000)(h64:l.length<64):∃ys,aaO [.lst (l.map fT)]=.ok (.lst (ys.map λi:Nat=>Tr.int i),true)/\Fall l ys:=by
 obtain⟨B,e,h1,h3⟩:=asI l h hl hN (by omega)
 have ek:=alT (l.map λx=>x.1*(B / x.2)) (List.range l.length) λi hi=>by simpa using hi
 refine⟨anP l.length λi=>((List.range l.length).map λi=>(-((l.map λx=>x.1*(B / x.2)).getD i 0),(0:Int))).getD i (0,0),?_,?_⟩
 ·unfold aaO aez fnP
  have z1:(l.map λx=>Tr.int (x.1*(B / x.2)))=(l.map λx=>x.1*(B / x.2)).map Tr.int:=by rw[List.map_map]; rfl
  rw[z1]at e
  generalize hts:(l.map λx=>x.1*(B / x.2))=ts at e ek ⊢
  have tl:ts.length=l.length:=by rw[<-hts,List.length_map]
  generalize Tr.lst (l.map fT)=T at e ⊢
  have q1:(l.length:Int)<64:=by omega
  simp -dsimp[abS,frz,dow,abr,con,ac0,eB,bOf,tru,dr,drs,cls,clV,adl,g1,g2,gI,gIC,gB,gEq,gNe,gIn,abf,ab2,acQ,acK,acR,acS,gLt,gGt,gLe,gGe,gIx,abg,adE,abL,aa4,adw,ad8,acC,acD,okR,iOf,isS,others,abX,abv,ab3,acV,acT,aaA,aa5,aaE,aaK,aaH,aaL,aax,aav,aaU,aa6,aa1,ada,atI,ixN,aaD,e,tl,q1,anS,slT,ek]
 ·have hs:=ajQ l.length λi=>((List.range l.length).map λi=>(-((l.map λx=>x.1*(B / x.2)).getD i 0),(0:Int))).getD i (0,0)
  refine⟨hs.1,?_⟩
  refine hs.2.imp_of_mem λ{i j} hi hj hb=>?_
  have hi':i<l.length:=by simpa using hs.1.mem_iff.mp hi
  have hj':j<l.length:=by simpa using hs.1.mem_iff.mp hj
  have k:∀i,i<l.length->((List.range l.length).map λi=>(-((l.map λx=>x.1*(B / x.2)).getD i 0),(0:Int))).getD i (0,0)=(-(l[i]!.1*(B / l[i]!.2)),0):=λi hi=>by
   rw[List.getD_eq_getElem?_getD,List.getElem?_map,List.getElem?_range hi]
   simp[hi]
  simp only[k i hi',k j hj']at hb
  have g:∀i,i<l.length->l.getD i (0,1)=l[i]! /\ l[i]! ∈ l:=λi hi=>by
   refine⟨by simp[hi],by simp[hi]⟩
  obtain⟨g1,m1⟩:=g i hi'
  obtain⟨g2,m2⟩:=g j hj'
  unfold Bfr
  rw[g1,g2]
  have t:=top_lt (p:=l[j]!.1) (r:=l[i]!.1) h1 (h _ m2).1 (h _ m1).1 (h3 _ m2) (h3 _ m1)
  rw[<-t.1,<-t.2]
  omega
theorem adW{T:Tr}(h:alS T=true):abH [T]=.ok (.non,false):=by
 unfold abH ahp fnP
 simp -dsimp[abS,frz,dow,abr,con,ac0,eB,bOf,tru,dr,drs,cls,clV,adl,g1,g2,gI,gIC,gB,gEq,gNe,gIn,abf,ab2,acQ,acK,acR,acS,gLt,gGt,gLe,gGe,gIx,abg,adE,abL,aa4,adw,ad8,acC,acD,okR,iOf,isS,others,abX,abv,ab3,acV,acT,aaA,aa5,aaE,aaK,aaH,aaL,aax,aav,aaU,aa6,aa1,ada,atI,ixN,aaD,amz,h]
theorem acP{xs:List Tr}{i:Nat}{T:Tr}(h:xs[i]?=some T):gIx (.lst xs) (.int i)=.ok (T,false):=by
 obtain⟨hi,e⟩:=List.getElem?_eq_some_iff.mp h
 show(match atI xs i with
  |some t=>Rs.ok (t,false)
  |none=>.bad)=_
 have:atI xs (i:Int)=some T:=by
  unfold atI ixN
  simp[hi,e]
 rw[this]
theorem aqj{xs:List Tr}{i:Nat}{T:Tr}(h:xs[i]?=some T):gIx (.lst xs) (.int i)=.ok (T,false):=acP h
end BH
namespace BH
open PySem L2
noncomputable def Wo(x:Int × Int):Prop:=0<=x.1/\x.1<=x.2/\1<=x.2/\x.2<=1000000000000/\Int.gcd x.1 x.2=1
noncomputable instance (x:Int × Int):Decidable (Wo x):=by unfold Wo; infer_instance
noncomputable def aaX(l:List (Int × Int)):Tr:=.lst (l.map fT)
noncomputable def bkT(ls:List (List (Int × Int))):Tr:=.lst (ls.map aaX)
noncomputable def Shp(c:Nat)(ls:List (List (Int × Int))):Prop:=∀l∈ls,l.length=c/\∀x∈l,Wo x
noncomputable def Bk(c:Nat)(ls:List (List (Int × Int))):Prop:=1<=ls.length/\ls.length<=4/\1<=c/\c<=12/\Shp c ls
theorem Wo.amy{x:Int × Int}(h:Wo x):amy (fT x)=true:=by
 obtain⟨h1,h2,h3,h4,h5⟩:=h
 show(decide (0<=x.1)&&decide (x.1<=x.2)&&decide (1<=x.2)&&(Int.gcd x.1 x.2 == 1))=true
 simp[h1,h2,h3,h5]
theorem Wo.frs{l:List (Int × Int)}(h:∀x∈l,Wo x):Frs 40 l:=λx hx=>by
 obtain⟨h1,h2,h3,h4,h5⟩:=h x hx
 exact⟨h3,by omega,by omega⟩
theorem avw{l:List (Int × Int)}(h:∀x∈l,Wo x)(h1:1<=l.length)(h2:l.length<=12):agB 12 (aaX l)=true:=by
 show(decide (1<=((l.map fT).length:Int))&&decide (((l.map fT).length:Int)<=12)&&(l.map fT).all amy)=true
 rw[List.length_map,decide_eq_true (by omega),decide_eq_true (by omega)]
 simp only[Bool.true_and,List.all_eq_true]
 intro t ht
 obtain⟨x,hx,rfl⟩:=List.mem_map.mp ht
 exact(h x hx).amy
theorem Bk.alS{c:Nat}{ls:List (List (Int × Int))}(h:Bk c ls):alS (bkT ls)=true:=by
 obtain⟨h1,h2,h3,h4,h5⟩:=h
 show(decide (1<=((ls.map aaX).length:Int))&&decide (((ls.map aaX).length:Int)<=4)&&(ls.map aaX).all (agB 12)&&(ls.map aaX).all λr=>am1 r == am1 ((ls.map aaX).headD .non))=true
 rw[List.length_map,decide_eq_true (by omega),decide_eq_true (by omega)]
 simp only[Bool.true_and,Bool.and_eq_true,List.all_eq_true]
 refine⟨λt ht=>?_,λt ht=>?_⟩
 ·obtain⟨l,hl,rfl⟩:=List.mem_map.mp ht
  exact avw (h5 l hl).2 (by have:=(h5 l hl).1; omega) (by have:=(h5 l hl).1; omega)
 ·obtain⟨l,hl,rfl⟩:=List.mem_map.mp ht
  cases ls with
  |nil=>simp at hl
  |cons l0 r =>
   show(am1 (aaX l) == am1 (aaX l0))=true
   show(((l.map fT).length:Int) == ((l0.map fT).length:Int))=true
   rw[List.length_map,List.length_map,(h5 l hl).1,(h5 l0 (by simp)).1]
   simp
end BH
end
section
namespace L2
open PySem
@[simp] theorem ayj(fa:EF)(ρ : En):azK fa ρ = bd (fa ρ) (λp=>bd (dr p.2 p.1) (λa=>bd (ay8 a) (λz=>.ok (.v z.1 z.2,p.2)) .mk) .mk) .mk:=rfl
end L2
namespace BH
open PySem L2
theorem aoj{α : Type}(xs:List α)(k:Nat):L2.cut xs none (some (k:Int))=xs.take k:=by
 unfold L2.cut HT.sIx
 by_cases h:(k:Int)<0
 ·omega
 ·simp only[h,if_false,Int.toNat_natCast,Nat.sub_zero,List.drop_zero]
  by_cases z:k<=xs.length
  ·rw[Nat.min_eq_left z]
  ·rw[Nat.min_eq_right (by omega),List.take_of_length_le (by omega),List.take_of_length_le (by omega)]
noncomputable def nT(ys:List Nat):Tr:=.lst (ys.map λi:Nat=>Tr.int i)
theorem aj1:∀ys:List Nat,deps (ys.map λi:Nat=>Tr.int i)=0
 | []=>rfl
 |y::ys=>by rw[List.map_cons,aav,aaA,aj1 ys]; rfl
theorem aok{n:Nat}:∀{ts:List Tr},(∀t∈ts,dep t<=n)->deps ts<=n
 | [],_=>by rw[aax]; omega
 |t::ts,h=>by
  rw[aav]
  have h1:=h t (by simp)
  have h2:=aok (ts:=ts) λu hu=>h u (by simp[hu])
  omega
theorem avx(x:Int × Int):dep (fT x)=1:=by unfold fT; rw[aaH,aav,aav,aaA,aaA,aax]; rfl
theorem ai8{T:Tr}(h:dep T<=40):gNe T T=.ok (.bl false,false):=by
 unfold gNe
 rw[if_pos ⟨h,h⟩,afs]
 rfl
theorem aqk{T:Tr}(h:dep T<=40):gEq T T=.ok (.bl true,false):=by
 unfold gEq
 rw[if_pos ⟨h,h⟩,afs]
end BH
end
section
namespace BH
open PySem L2
theorem alU{l:List (Int × Int)}{i:Nat}(h:i<l.length):gIx (aaX l) (.int i)=.ok (fT (l.getD i (0,1)),false):=acP (by simp[h])
theorem aol{α : Type}{r h : α -> Tr}{f:EF}{τ : En}:∀(xs:List α) (s:Sl),(∀x∈xs,∃fr,f (.sh (r x)::τ)=.ok (.v (h x) fr,.sh (r x)::τ))->∃s',ad2 (gN 0) ad3 f (xs.map r) (s::τ)=.ok (xs.map h,s'::τ)
 | [],s,_=>⟨s,rfl⟩
 |x::xs,s,q=>by
  obtain⟨fr,e⟩:=q x (by simp)
  obtain⟨s',e'⟩:=aol xs (.sh (r x)) λv hv=>q v (by simp[hv])
  refine⟨s',?_⟩
  rw[List.map_cons]
  unfold ad2
  simp[e,clV,e']
theorem agc{α : Type}{r : α -> Tr}{c:BF}{p : α -> Bool}{τ : En}:∀(xs:List α) (s:Sl),(∀x∈xs,c (.sh (r x)::τ)=.ok (p x,.sh (r x)::τ))->∃s',ad2 (gN 0) c (aah 0) (xs.map r) (s::τ)=.ok ((xs.filter p).map r,s'::τ)
 | [],s,_=>⟨s,rfl⟩
 |x::xs,s,q=>by
  have e:=q x (by simp)
  obtain⟨s',e'⟩:=agc xs (.sh (r x)) λv hv=>q v (by simp[hv])
  refine⟨s',?_⟩
  rw[List.map_cons]
  unfold ad2
  cases h:p x with
  |false=>rw[h]at e; simp[e,e',h]
  |true=>rw[h]at e; simp[e,e',h,clV]
theorem aom{α : Type}{p : α -> Bool}:∀xs:List α,ahQ (xs.map λx=>.bl (p x))=some (xs.map p)
 | []=>rfl
 |x::xs=>by simp[ahQ,aom xs]
theorem asJ{α : Type}{r h : α -> Tr}{xs:List α}{ρ τ : En}{rest:List (Option Nat)}{i:IF}{fe:EF}(hl:xs.length<=100000)(hi:i ρ=.ok (xs.map r,ρ))(hτ : abX rest ρ = τ)(hs:∀s',ab3 (none::rest) (s'::τ) ρ = true)(hd:∀s',abv (none::rest) (s'::τ) ρ = ρ)
  (hf:∀x∈xs,∃fr,fe (.sh (r x)::τ)=.ok (.v (h x) fr,.sh (r x)::τ)):abb (none::rest) i (gN 0) ad3 fe ρ=.ok (.v (.lst (xs.map h)) true,ρ):=by
 obtain⟨s',e⟩:=aol xs .un hf
 have hu:abX (none::rest) ρ=.un::τ := by rw[<-hτ]; rfl
 have hl':(xs.map r).length<=100000:=by rw[List.length_map]; exact hl
 rw[alP,hi]
 simp only[akW]
 rw[if_pos hl',hu,e]
 simp only[abS,akW]
 rw[if_pos (hs s'),hd s']
theorem aql{α : Type}{r : α -> Tr}{p : α -> Bool}{xs:List α}{ρ τ : En}{rest:List (Option Nat)}{i:IF}{c:BF}(hl:xs.length<=100000)(hi:i ρ=.ok (xs.map r,ρ))(hτ : abX rest ρ = τ)(hs:∀s',ab3 (none::rest) (s'::τ) ρ = true)(hd:∀s',abv (none::rest) (s'::τ) ρ = ρ)
  (hf:∀x∈xs,c (.sh (r x)::τ)=.ok (p x,.sh (r x)::τ)):abb (none::rest) i (gN 0) c (aah 0) ρ=.ok (.v (.lst ((xs.filter p).map r)) true,ρ):=by
 obtain⟨s',e⟩:=agc xs .un hf
 have hu:abX (none::rest) ρ=.un::τ := by rw[<-hτ]; rfl
 have hl':(xs.map r).length<=100000:=by rw[List.length_map]; exact hl
 rw[alP,hi]
 simp only[akW]
 rw[if_pos hl',hu,e]
 simp only[abS,akW]
 rw[if_pos (hs s'),hd s']
theorem anyC{α : Type}{r : α -> Tr}{p : α -> Bool}{xs:List α}{ρ τ : En}{rest:List (Option Nat)}{i:IF}{fe:EF}(hl:xs.length<=100000)(hi:i ρ=.ok (xs.map r,ρ))(hτ : abX rest ρ = τ)(hs:∀s',ab3 (none::rest) (s'::τ) ρ = true)(hd:∀s',abv (none::rest) (s'::τ) ρ = ρ)
  (hf:∀x∈xs,∃fr,fe (.sh (r x)::τ)=.ok (.v (.bl (p x)) fr,.sh (r x)::τ)):eCB (g1 ajN) (aae (abb (none::rest) i (gN 0) ad3 fe) aar) ρ=.ok (.v (.bl (xs.any p)) false,ρ):=by
 have e:=asJ (h:=λx=>.bl (p x)) hl hi hτ hs hd hf
 have eg:ajN (.lst (xs.map λx=>.bl (p x)))=.ok (.bl (xs.any p),false):=by
  unfold ajN
  simp only[aom]
  rw[List.any_map]
  rfl
 generalize abb _ _ _ _ _=G at e ⊢
 generalize Tr.lst (xs.map λx=>.bl (p x))=T at e eg
 simp[e,eg,drs,dr,g1]
noncomputable def lt2(x y:Int × Int):Bool:=decide (x.1*y.2<y.1*x.2)
theorem ai9{x y:Int × Int}(hx:Wo x)(hy:Wo y):abT [fT x,fT y]=.ok (.bl (lt2 x y),false):=by
 obtain⟨a1,a2,a3,a4,_⟩:=hx
 obtain⟨b1,b2,b3,b4,_⟩:=hy
 have c1:agw x.1 y.2=true:=adL (M:=40) (N:=40) (by omega) (by omega) (by omega) (by omega)
 have c2:agw y.1 x.2=true:=adL (M:=40) (N:=40) (by omega) (by omega) (by omega) (by omega)
 unfold abT agp fnP fT
 simp -dsimp[abS,frz,dow,abr,con,ac0,eB,bOf,tru,dr,drs,cls,clV,adl,g1,g2,gI,gIC,gB,gEq,gNe,gIn,abf,ab2,acQ,acK,acR,acS,gLt,gGt,gLe,gGe,gIx,abg,adE,abL,aa4,adw,ad8,acC,acD,okR,iOf,isS,others,abX,abv,ab3,acV,acT,aaA,aa5,aaE,aaK,aaH,aaL,aax,aav,aaU,aa6,aa1,ada,atI,ixN,aaD,c1,c2,lt2]
noncomputable def at2(l:List (Int × Int))(i:Nat):Int × Int:=l.getD i (0,1)
noncomputable def bt(ls:List (List (Int × Int)))(i j:Nat):Bool := !(ls.any λl=>lt2 (at2 l i) (at2 l j))&&ls.any λl=>lt2 (at2 l j) (at2 l i)
theorem below_at{l:List (Int × Int)}{c i j:Nat}(h:l.length=c/\∀x∈l,Wo x)(hi:i<c)(hj:j<c):abT [fT (at2 l i),fT (at2 l j)]=.ok (.bl (lt2 (at2 l i) (at2 l j)),false) :=
 ai9 (h.2 _ (by unfold at2; simp[h.1,hi])) (h.2 _ (by unfold at2; simp[h.1,hj]))
noncomputable def blE:EF:=aas abT (aae (eOp gIx (aah 0) (aah 1)) (aae (eOp gIx (aah 0) (aah 2)) aar))
theorem aq1{l:List (Int × Int)}{c i j:Nat}(h:l.length=c/\∀x∈l,Wo x)(hi:i<c)(hj:j<c):blE [.sh (aaX l),.sh (.int i),.sh (.int j)]=.ok (.v (.bl (lt2 (at2 l i) (at2 l j))) false,[.sh (aaX l),.sh (.int i),.sh (.int j)]):=by
 have e1:gIx (aaX l) (.int i)=.ok (fT (at2 l i),false):=alU (by rw[h.1]; exact hi)
 have e2:gIx (aaX l) (.int j)=.ok (fT (at2 l j),false):=alU (by rw[h.1]; exact hj)
 have e3:=below_at h hi hj
 generalize lt2 _ _=B at e3 ⊢
 generalize fT (at2 l i)=X at e1 e3
 generalize fT (at2 l j)=Y at e2 e3
 generalize aaX l=T at e1 e2 ⊢
 unfold blE
 simp[dr,drs,isS,e1,e2,e3]
theorem aqm{c:Nat}{ls:List (List (Int × Int))}(h:Shp c ls)(hl:ls.length<=4){i j:Nat}(hi:i<c)(hj:j<c):afX [bkT ls,.int i,.int j]=.ok (.bl (bt ls i j),false):=by
 have e1:=anyC (r:=aaX) (p:=λl=>lt2 (at2 l i) (at2 l j)) (xs:=ls) (ρ:=[.sh (bkT ls),.sh (.int i),.sh (.int j)]) (rest:=[some 1,some 2]) (i:=fSq (aah 0)) (fe:=blE) (by omega) rfl rfl (λs'=>rfl) (λs'=>rfl) (λl hl=>⟨false,aq1 (h l hl) hi hj⟩)
 have e2:=anyC (r:=aaX) (p:=λl=>lt2 (at2 l j) (at2 l i)) (xs:=ls) (ρ:=[.sh (bkT ls),.sh (.int i),.sh (.int j)]) (rest:=[some 2,some 1]) (i:=fSq (aah 0)) (fe:=blE) (by omega) rfl rfl (λs'=>rfl) (λs'=>rfl) (λl hl=>⟨false,aq1 (h l hl) hj hi⟩)
 have hd:anY=aaI (sIf (afS (eCB (g1 ajN) (aae (abb [none,some 1,some 2] (fSq (aah 0)) (gN 0) ad3 blE) aar))) (abm (eC (.bl false))) adZ) (abm (eCB (g1 ajN) (aae (abb [none,some 2,some 1] (fSq (aah 0)) (gN 0) ad3 blE) aar))):=rfl
 unfold afX bt
 rw[hd]
 generalize (ls.any λl=>lt2 (at2 l i) (at2 l j))=A at e1 ⊢
 generalize (ls.any λl=>lt2 (at2 l j) (at2 l i))=B at e2 ⊢
 generalize eCB (g1 ajN) (aae (abb [none,some 1,some 2] _ _ _ _) aar)=G1 at e1 ⊢
 generalize eCB (g1 ajN) (aae (abb [none,some 2,some 1] _ _ _ _) aar)=G2 at e2 ⊢
 generalize bkT ls=T at *
 unfold fnP
 cases A <;> simp[aaD,e1,e2,dr,tru]
noncomputable def acg(ls:List (List (Int × Int)))(ys:List Nat):List Nat:=ys.filter λt=>!(ys.any λo=>bt ls o t)
noncomputable def ubE:EF:=aas afX (aae (aah 1) (aae (aah 0) (aae (aah 2) aar)))
noncomputable def ubC:BF:=aie (afS (eCB (g1 ajN) (aae (abb [none,some 2,some 0] (fSq (aah 1)) (gN 0) ad3 ubE) aar)))
theorem afb{c:Nat}{ls:List (List (Int × Int))}(h:Shp c ls)(hl:ls.length<=4){ys:List Nat}(hy:∀i∈ys,i<c)(h2:ys.length<=1000):abF [bkT ls,nT ys]=.ok (nT (acg ls ys),true):=by
 have hc:∀t∈ys,ubC [.sh (.int (t:Int)),.sh (nT ys),.sh (bkT ls)]=.ok (!(ys.any λo=>bt ls o t),[.sh (.int (t:Int)),.sh (nT ys),.sh (bkT ls)]):=λt ht=>by
  have e:=anyC (r:=λi:Nat=>Tr.int i) (p:=λo=>bt ls o t) (xs:=ys) (ρ:=[.sh (.int (t:Int)),.sh (nT ys),.sh (bkT ls)]) (rest:=[some 2,some 0]) (i:=fSq (aah 1)) (fe:=ubE) (by omega) rfl rfl (λs'=>rfl) (λs'=>rfl) (λo ho=>⟨false,by
   have:=aqm h hl (hy o ho) (hy t ht)
   unfold ubE
   dsimp only[abX,List.map]
   generalize bkT ls=T at this ⊢
   simp[acT,drs,dr,isS,this]⟩)
  unfold ubC
  generalize eCB (g1 ajN) (aae (abb _ _ _ _ _) aar)=G at e ⊢
  simp[e,dr,tru]
 have e:=aql (r:=λi:Nat=>Tr.int i) (p:=λt=>!(ys.any λo=>bt ls o t)) (xs:=ys) (ρ:=[.sh (bkT ls),.sh (nT ys)]) (rest:=[some 1,some 0]) (i:=fSq (aah 1)) (c:=ubC) (by omega) rfl rfl (λs'=>rfl) (λs'=>rfl) hc
 show fnP 2 (abm (abb [none,some 1,some 0] (fSq (aah 1)) (gN 0) ubC (aah 0))) [bkT ls,nT ys]=_
 unfold fnP
 generalize abb _ _ _ _ _=G at e ⊢
 have hi:aaD 2 [bkT ls,nT ys]=[.sh (bkT ls),.sh (nT ys)]:=rfl
 rw[hi,aoe,e]
 rfl
theorem akZ{c:Nat}{ls:List (List (Int × Int))}(h:Bk c ls):ady [bkT ls]=.ok (nT (acg ls (List.range c)),true):=by
 obtain⟨h1,h2,h3,h4,h5⟩:=id h
 have e1:=adW h.alS
 have e2:=afb h5 h2 (ys:=List.range c) (λi hi=>by simpa using hi) (by simp; omega)
 obtain⟨l,hl⟩:∃l,ls[0]?=some l:=⟨_,List.getElem?_eq_getElem (by omega)⟩
 have e3:gIx (bkT ls) (.int 0)=.ok (aaX l,false):=acP (i:=0) (by rw[List.getElem?_map,hl]; rfl)
 have e4:abg (aaX l)=.ok (.int (c:Int),false):=by
  show Rs.ok (Tr.int ((l.map fT).length:Int),false)=_
  rw[List.length_map,(h5 l (List.mem_of_getElem? hl)).1]
 have q:(c:Int)<=1000:=by omega
 have e2':abF [bkT ls,.lst ((List.range c).map λi:Nat=>Tr.int i)]=.ok (nT (acg ls (List.range c)),true):=e2
 generalize nT (acg ls (List.range c))=R at e2' ⊢
 unfold ady air fnP
 generalize bkT ls=T at *
 generalize aaX l=T2 at *
 simp -dsimp[aaD,drs,dr,isS,e1,e3,e4,g1,q,e2']
theorem avy(i j:Int):abf (.int i) (.int j)=.ok (.int (i+j),false):=rfl
theorem amA(n k:Int)(h:0<k):0<=n.fmod k/\n.fmod k<k:=⟨Int.fmod_nonneg_of_pos n h,Int.fmod_lt_of_pos n h⟩
theorem avz{i:Int}(h : -1000000000000000000<i/\i<1000000000000000000):tiny i=true:=by
 unfold tiny
 rw[Bool.and_eq_true]
 exact⟨decide_eq_true (by omega),decide_eq_true (by omega)⟩
theorem aqn{i j:Int}(h : -1000000000000000000<i/\i<1000000000000000000):agw i j=true:=by unfold agw; rw[avz h]; simp
theorem ayk{i j:Int}(h : -1000000000000000000<j/\j<1000000000000000000):agw i j=true:=by unfold agw; rw[avz h]; simp
theorem alV:∀(n m:Nat),L2.upTo (m:Int) n=(List.range' m n).map λi:Nat=>Tr.int i
 | 0,_=>rfl
 |n+1,m=>by
  unfold L2.upTo
  rw[show((m:Int)+1)=((m+1:Nat):Int) by omega,alV n (m+1),List.range'_succ]
  rfl
theorem aef(n:Nat):L2.upTo 0 n=(List.range n).map λi:Nat=>Tr.int i:=by
 rw[List.range_eq_range']
 exact alV n 0
end BH
end
section
namespace K97
open PySem L2 BH
theorem acY(a b k:Int)(h:0<k)(hk:k.natAbs<2 ^ 60):∃x a' b',abh [.lst [.int a,.int b],.int k]=.ok ((.int x,false),[.int a',.int b'])/\0<=x/\x<k:=by
 have h0:k≠0:=by omega
 have h1:∀n,amY n k=true:=λn=>afn (M:=60) h0 hk (by omega)
 by_cases z:a=0
 ·subst z
  refine⟨b.fmod k,0,b.fdiv k,?_,amA b k h⟩
  unfold abh an4 fnR
  simp -dsimp[abS,frz,dow,abr,con,ac0,eB,bOf,tru,dr,drs,cls,clV,adl,g1,g2,gI,gIC,gB,gEq,gNe,gIn,abf,ab2,acQ,acK,acR,acS,gLt,gGt,gLe,gGe,gIx,abg,adE,abL,aa4,adw,ad8,acC,acD,okR,iOf,isS,others,abX,abv,ab3,acV,acT,aaA,aa5,aaE,aaK,aaH,aaL,aax,aav,aaU,aa6,aa1,ada,atI,ixN,aaD,atf,h0,h1,adM,alz]
 ·refine⟨a.fmod k,a.fdiv k,b,?_,amA a k h⟩
  have z1:(a == 0)=false:=by simp[z]
  unfold abh an4 fnR
  simp -dsimp[abS,frz,dow,abr,con,ac0,eB,bOf,tru,dr,drs,cls,clV,adl,g1,g2,gI,gIC,gB,gEq,gNe,gIn,abf,ab2,acQ,acK,acR,acS,gLt,gGt,gLe,gGe,gIx,abg,adE,abL,aa4,adw,ad8,acC,acD,okR,iOf,isS,others,abX,abv,ab3,acV,acT,aaA,aa5,aaE,aaK,aaH,aaL,aax,aav,aaU,aa6,aa1,ada,atI,ixN,aaD,atf,z1,h0,h1,adM,alz]
noncomputable def frC:BF:=abk (eOp gGt (aah 3) (eC (.int 0)))
noncomputable def frW:SF:=ati 2 3 (aae (aah 3) (aae (eOp acK (aah 2) (aah 3)) aar))
theorem avA(s0 s1 s2:Sl)(b:Int):frC [s0,s1,s2,.sh (.int b)]=.ok (decide (0<b),[s0,s1,s2,.sh (.int b)]):=by
 unfold frC
 simp -dsimp[abS,frz,dow,abr,con,ac0,eB,bOf,tru,dr,drs,cls,clV,adl,g1,g2,gI,gIC,gB,gEq,gNe,gIn,abf,ab2,acQ,acK,acR,acS,gLt,gGt,gLe,gGe,gIx,abg,adE,abL,aa4,adw,ad8,acC,acD,okR,iOf,isS,others,abX,abv,ab3,acV,acT,aaA,aa5,aaE,aaK,aaH,aaL,aax,aav,aaU,aa6,aa1,ada,atI,ixN,aaD]
theorem avB(s0 s1:Sl)(a b:Int)(h:b≠0):frW [s0,s1,.sh (.int a),.sh (.int b)]=.ok (.nx,[s0,s1,.sh (.int b),.sh (.int (a.fmod b))]):=by
 unfold frW
 simp -dsimp[abS,frz,dow,abr,con,ac0,eB,bOf,tru,dr,drs,cls,clV,adl,g1,g2,gI,gIC,gB,gEq,gNe,gIn,abf,ab2,acQ,acK,acR,acS,gLt,gGt,gLe,gGe,gIx,abg,adE,abL,aa4,adw,ad8,acC,acD,okR,iOf,isS,others,abX,abv,ab3,acV,acT,aaA,aa5,aaE,aaK,aaH,aaL,aax,aav,aaU,aa6,aa1,ada,atI,ixN,aaD,h]
theorem ak0(s0 s1:Sl):∀(n:Nat) (a b:Int),0<=a->0<=b->b.natAbs<n->aeF frC frW n [s0,s1,.sh (.int a),.sh (.int b)]=.ok (.nx,[s0,s1,.sh (.int ((Int.gcd a b:Nat):Int)),.sh (.int 0)])
 | 0,a,b,_,_,h=>by omega
 |n+1,a,b,ha,hb,h=>by
  unfold aeF
  rw[avA]
  by_cases z:b=0
  ·subst z
   have:((Int.gcd a 0:Nat):Int)=a:=by rw[Int.gcd_zero_right]; omega
   rw[this]
   rfl
  ·have r:=amA a b (by omega)
   have e:=ak0 s0 s1 n b (a.fmod b) hb r.1 (by omega)
   have q:0<b:=by omega
   simp only[Rs.aaJ,q,decide_true,if_true]
   rw[avB s0 s1 a b z]
   simp only[Rs.aaJ]
   rw[e,alu]
theorem aja(x b:Int)(hx:0<=x)(hb:1<=b)(h1:x<=b)(h2:b<=1000000000000):∃y,adg [.int x,.int b]=.ok (fT y,false)/\Wo y:=by
 obtain⟨g1,g2,g3,g4,g5,g6,g7⟩:=aeE (a:=x) (b:=b) (by omega)
 have e1:x.fdiv (Int.gcd x b:Nat)=x / (Int.gcd x b:Nat):=Int.fdiv_eq_ediv_of_nonneg _ (by omega)
 have e2:b.fdiv (Int.gcd x b:Nat)=b / (Int.gcd x b:Nat):=Int.fdiv_eq_ediv_of_nonneg _ (by omega)
 refine⟨(x.fdiv (Int.gcd x b:Nat),b.fdiv (Int.gcd x b:Nat)),?_,?_⟩
 ·have hw:=ak0 (.sh (.int x)) (.sh (.int b)) (b.natAbs+1) x b hx (by omega) (by omega)
  show fnP 4 (aaI (abM (aah 0) (gN 2)) (aaI (abM (aah 1) (gN 3)) (aaI (acU (adf (fuI 3) frC frW)) (abm (akg (aae (eOp acQ (aah 0) (aah 2)) (aae (eOp acQ (aah 1) (aah 2)) aar))))))) [.int x,.int b]=_
  generalize hg:((Int.gcd x b:Nat):Int)=g at g1 g2 hw
  have h3:acU (adf (fuI 3) frC frW) [.sh (.int x),.sh (.int b),.sh (.int x),.sh (.int b)]=.ok (.nx,[.sh (.int x),.sh (.int b),.sh (.int g),.sh (.int 0)]):=by
   unfold acU adf
   rw[show fuI 3 [.sh (.int x),.sh (.int b),.sh (.int x),.sh (.int b)]=b.natAbs+1 from rfl,hw]
   rfl
  generalize acU _=G at h3 ⊢
  have c1:amY x g=true:=afn (M:=60) (by omega) (by omega) (by omega)
  have c2:amY b g=true:=afn (M:=60) (by omega) (by omega) (by omega)
  unfold fnP fT
  simp -dsimp[abS,frz,dow,abr,con,ac0,eB,bOf,tru,dr,drs,cls,clV,adl,g1,g2,gI,gIC,gB,gEq,gNe,gIn,abf,ab2,acQ,acK,acR,acS,gLt,gGt,gLe,gGe,gIx,abg,adE,abL,aa4,adw,ad8,acC,acD,okR,iOf,isS,others,abX,abv,ab3,acV,acT,aaA,aa5,aaE,aaK,aaH,aaL,aax,aav,aaU,aa6,aa1,ada,atI,ixN,aaD,h3,c1,c2]
 ·rw[e1,e2]
  refine⟨g5 hx,Int.ediv_le_ediv g1 h1,g3,?_,g4⟩
  have:=Int.ediv_le_self (a:=b) ((Int.gcd x b:Nat):Int) (by omega)
  show b / ((Int.gcd x b:Nat):Int)<=1000000000000
  omega
noncomputable def w5:SF:=(aaI (abM (eOp abf (eC (.int 1)) (aaT 0 abh (aae (aah 0) (aae (eOp acS (eOp acR (eC (.int 10)) (eC (.int 12))) (eC (.int 1))) aar)))) (gN 3)) (abm (aas adg (aae (aaT 0 abh (aae (aah 0) (aae (eOp abf (aah 3) (eC (.int 1))) aar))) (aae (aah 3) aar)))))
noncomputable def w7:SF:=(aaI (sIf (abk (eOp gEq (aah 2) (eC (.int 6)))) (abm (akg (aae (aah 4) (aae (aah 3) aar)))) adZ) (abm (aas adg (aae (eCB (g2 adw) (aae (eOp abf (aah 4) (eC (.int 1))) (aae (aah 3) aar))) (aae (aah 3) aar)))))
noncomputable def w6:SF:=(aaI (abM (eOp gIx (eOp abf (aah 1) (eCL [.tup [.int 1,.int 2]])) (aaT 0 abh (aae (aah 0) (aae (eOp abf (eCB (g1 abg) (aae (aah 1) aar)) (eC (.int 1))) aar)))) (gT 2 (aaV (gN 4) (aaV (gN 3) ac6)))) w7)
noncomputable def w2:SF:=(abm (aas adg (aae (aaT 0 abh (aae (aah 0) (aae (eC (.int 5)) aar))) (aae (eC (.int 4)) aar))))
theorem aon:an6=(aaI (abM (aaT 0 abh (aae (aah 0) (aae (eC (.int 8)) aar))) (gN 2)) (aaI (sIf (abk (eOp gLt (aah 2) (eC (.int 2)))) (abm (akg (aae (aah 2) (aae (eC (.int 1)) aar)))) adZ) (aaI (sIf (abk (eOp gLt (aah 2) (eC (.int 5)))) w2 adZ) (aaI (sIf (abk (eOp gEq (aah 2) (eC (.int 5)))) w5 adZ) w6)))):=rfl
theorem ayl(a b:Int)(s1 s2 s3 s4:Sl):∃y a' b' ρ,w2 [.rf [.int a,.int b],s1,s2,s3,s4]=.ok (.rt (fT y) false,.rf [.int a',.int b']::ρ)/\Wo y:=by
 obtain⟨x,a',b',e,x0,x1⟩:=acY a b 5 (by omega) (by decide)
 obtain⟨y,e2,hy⟩:=aja x 4 x0 (by omega) (by omega) (by omega)
 refine⟨y,a',b',[s1,s2,s3,s4],?_,hy⟩
 unfold w2
 generalize fT y=T at e2 ⊢
 simp -dsimp[con,drs,dr,isS,others,abr,e,e2]
theorem aym(a b:Int)(s1 s2 s3 s4:Sl):∃y a' b' ρ,w5 [.rf [.int a,.int b],s1,s2,s3,s4]=.ok (.rt (fT y) false,.rf [.int a',.int b']::ρ)/\Wo y:=by
 obtain⟨x,a1,b1,e,x0,x1⟩:=acY a b 999999999999 (by omega) (by decide)
 obtain⟨z,a',b',e1,z0,z1⟩:=acY a1 b1 (1+x+1) (by omega) (by omega)
 obtain⟨y,e2,hy⟩:=aja z (1+x) z0 (by omega) (by omega) (by omega)
 refine⟨y,a',b',[s1,s2,.sh (.int (1+x)),s4],?_,hy⟩
 unfold w5
 generalize fT y=T at e2 ⊢
 simp -dsimp[con,drs,dr,isS,others,abr,acR,gIC,aud,tiny,acS,gI,abf,e,e1,e2]
theorem ayn(s0 s1:Sl)(k:Int){x:Int × Int}(hx:Wo x):∃y ρ,w7 [s0,s1,.sh (.int k),.sh (.int x.2),.sh (.int x.1)]=.ok (.rt (fT y) false,s0::ρ)/\Wo y:=by
 by_cases h6:k=6
 ·subst h6
  refine⟨x,[s1,.sh (.int 6),.sh (.int x.2),.sh (.int x.1)],?_,hx⟩
  unfold w7 fT
  simp -dsimp[abS,frz,dow,abr,con,ac0,eB,bOf,tru,dr,drs,cls,clV,adl,g1,g2,gI,gIC,gB,gEq,gNe,gIn,abf,ab2,acQ,acK,acR,acS,gLt,gGt,gLe,gGe,gIx,abg,adE,abL,aa4,adw,ad8,acC,acD,okR,iOf,isS,others,abX,abv,ab3,acV,acT,aaA,aa5,aaE,aaK,aaH,aaL,aax,aav,aaU,aa6,aa1,ada,atI,ixN,aaD]
 ·obtain⟨h1,h2,h3,h4,h5⟩:=id hx
  obtain⟨y,e2,hy⟩:=aja (if x.2<x.1+1 then x.2 else x.1+1) x.2 (by split <;> omega) h3 (by split <;> omega) h4
  refine⟨y,[s1,.sh (.int k),.sh (.int x.2),.sh (.int x.1)],?_,hy⟩
  have q:(k == 6)=false:=by simp[h6]
  generalize hz:(if x.2<x.1+1 then x.2 else x.1+1)=z at e2
  unfold w7
  generalize fT y=T at e2 ⊢
  simp -dsimp only[and_self,aod,avn,aqf,avp,asC,ax3,aoe,asB,aof,aqg,asD,avq,akW,List.getElem?_cons_succ,List.getElem?_cons_zero,dr,drs,gEq,aaA,aaU,q,bOf,abf,gI,g2,adw,hz,e2,isS,List.any_cons,List.any_nil,Rs.aaJ,Nat.zero_le,if_true,Bool.false_eq_true,if_false,Bool.or_false,false_and]
theorem ayo(a b k:Int)(s3 s4:Sl){bs:List (Int × Int)}(hw:∀x∈bs,Wo x)(hl:bs.length<=100):∃y a' b' ρ,w6 [.rf [.int a,.int b],.sh (aaX bs),.sh (.int k),s3,s4]=.ok (.rt (fT y) false,.rf [.int a',.int b']::ρ)/\Wo y:=by
 obtain⟨x,a',b',e,x0,x1⟩:=acY a b ((bs.length:Int)+1) (by omega) (by omega)
 obtain⟨i,rfl⟩:∃i:Nat,(i:Int)=x:=⟨x.toNat,by omega⟩
 have hi:i<(bs++[(1,2)]).length:=by simp; omega
 have hm:(bs++[(1,2)])[i]∈bs++[(1,2)]:=List.getElem_mem hi
 have ei:gIx (aaX (bs++[(1,2)])) (.int i)=.ok (fT (bs++[(1,2)])[i],false):=acP (by rw[List.getElem?_map,List.getElem?_eq_getElem hi]; rfl)
 have ea:abf (aaX bs) (.lst [.tup [.int 1,.int 2]])=.ok (aaX (bs++[(1,2)]),true):=by
  show(if(bs.map fT).length+[Tr.tup [.int 1,.int 2]].length<=100000 then Rs.ok (Tr.lst (bs.map fT++[Tr.tup [.int 1,.int 2]]),true)else .bad)=_
  rw[if_pos (by simp; omega)]
  unfold aaX
  rw[List.map_append]
  rfl
 have el:abg (aaX bs)=.ok (.int (bs.length:Int),false):=by
  show Rs.ok (Tr.int ((bs.map fT).length:Int),false)=_
  rw[List.length_map]
 have hx:Wo (bs++[(1,2)])[i]:=by
  rcases List.mem_append.mp hm with z|z
  ·exact hw _ z
  ·rw[List.mem_singleton.mp z]
   decide
 generalize (bs++[(1,2)])[i]=x at ei hx
 obtain⟨y,ρ,e7,hy⟩:=ayn (.rf [.int a',.int b']) (.sh (aaX bs)) k hx
 refine⟨y,a',b',ρ,?_,hy⟩
 unfold w6
 generalize w7=G at e7 ⊢
 generalize aaX (bs++[(1,2)])=T2 at ea ei
 generalize aaX bs=T at ea el e7 ⊢
 generalize (bs.length:Int)=N at e el
 generalize fT y=Y at e7 ⊢
 unfold fT at ei
 simp -dsimp[con,drs,dr,isS,others,abr,ea,el,g1,avy,e,ei,e7]
theorem aqo(a b:Int){bs:List (Int × Int)}(hw:∀x∈bs,Wo x)(hl:bs.length<=100):∃y a' b',afk [.lst [.int a,.int b],aaX bs]=.ok ((fT y,false),[.int a',.int b'])/\Wo y:=by
 obtain⟨k,a1,b1,e,k0,k1⟩:=acY a b 8 (by omega) (by decide)
 unfold afk
 rw[aon]
 have fin:∀{y:Int × Int} {a' b':Int} {ρ : En} {S:SF},S [.rf [.int a1,.int b1],.sh (aaX bs),.sh (.int k),.un,.un]=.ok (.rt (fT y) false,.rf [.int a',.int b']::ρ) ->
   fnR 5 0 (aaI (abM (aaT 0 abh (aae (aah 0) (aae (eC (.int 8)) aar))) (gN 2)) S) [.lst [.int a,.int b],aaX bs]=.ok ((fT y,false),[.int a',.int b']):=λ{y a' b' ρ S} hS=>by
  generalize aaX bs=T at hS ⊢
  generalize fT y=Y at hS ⊢
  unfold fnR
  simp -dsimp[aaD,con,drs,dr,isS,others,abr,abS,adM,alz,e,hS]
 by_cases h2:k<2
 ·refine⟨(k,1),a1,b1,fin (ρ:=[.sh (aaX bs),.sh (.int k),.un,.un]) ?_,?_⟩
  ·generalize aaX bs=T
   simp -dsimp[dr,gLt,gB,h2,bOf,cls,fT]
  ·rcases(show k=0\/k=1 by omega)with rfl|rfl <;> decide
 ·by_cases h5:k<5
  ·obtain⟨y,a',b',ρ,e2,hy⟩:=ayl a1 b1 (.sh (aaX bs)) (.sh (.int k)) .un .un
   refine⟨y,a',b',fin (ρ := ρ) ?_,hy⟩
   generalize w2=G at e2 ⊢
   generalize aaX bs=T at e2 ⊢
   generalize fT y=Y at e2 ⊢
   simp -dsimp[dr,gLt,gB,h2,h5,bOf,e2]
  ·by_cases h6:k=5
   ·obtain⟨y,a',b',ρ,e2,hy⟩:=aym a1 b1 (.sh (aaX bs)) (.sh (.int k)) .un .un
    refine⟨y,a',b',fin (ρ := ρ) ?_,hy⟩
    generalize w5=G at e2 ⊢
    generalize aaX bs=T at e2 ⊢
    generalize fT y=Y at e2 ⊢
    subst h6
    simp -dsimp[dr,gLt,gB,bOf,gEq,aaA,aaU,e2]
   ·obtain⟨y,a',b',ρ,e2,hy⟩:=ayo a1 b1 k .un .un hw hl
    refine⟨y,a',b',fin (ρ := ρ) ?_,hy⟩
    generalize w6=G at e2 ⊢
    generalize aaX bs=T at e2 ⊢
    generalize fT y=Y at e2 ⊢
    have q:(k == 5)=false:=by simp[h6]
    simp -dsimp[dr,gLt,gB,h2,h5,bOf,gEq,aaA,aaU,q,e2]
noncomputable def li1:SF:=(aaI (ac3 (eMt 6 aij (aae (aaT 0 afk (aae (aah 0) (aae (aah 4) aar))) aar))) (ac3 (eMt 4 aij (aae (eOp gIx (aah 6) (eUn anv (eC (.int 1)))) aar))))
theorem aqp(ts:List Tr)(t:Tr):gIx (.lst (ts++[t])) (.int (-1))=.ok (t,false):=by
 show(match atI (ts++[t]) (-1)with
  |some t=>Rs.ok (t,false)
  |none=>.bad)=_
 have:atI (ts++[t]) (-1)=some t:=by
  unfold atI ixN
  have q0:¬(0:Int) <= -1:=by omega
  have q1 : -((ts++[t]).length:Int) <= -1:=by simp only[List.length_append,List.length_singleton]; omega
  have q2:((-1:Int)+((ts++[t]).length:Int)).toNat=ts.length:=by simp only[List.length_append,List.length_singleton]; omega
  rw[if_neg q0,if_pos q1,q2]
  simp
 rw[this]
theorem agd{ts:List Tr}{t:Tr}(h:ts.length<=100000):aij ts [t]=.ok (ts++[t],.non):=by
 show(if ts.length<=100000 then _ else _)=_
 rw[if_pos h]
theorem avC(a b:Int)(s1 s2 s3 s5 s7:Sl){bs ws:List (Int × Int)}(hb:∀x∈bs,Wo x)(hbl:bs.length<=100)(hwl:ws.length<=100):∃(y:Int × Int) (a' b':Int),li1 [.rf [.int a,.int b],s1,s2,s3,.ow (bs.map fT),s5,.ow (ws.map fT),s7]=.ok (.nx,[.rf [.int a',.int b'],s1,s2,s3,.ow ((bs++[y]).map fT),s5,.ow ((ws++[y]).map fT),s7])/\Wo y:=by
 obtain⟨y,a',b',e,hy⟩:=aqo a b hb hbl
 refine⟨y,a',b',?_,hy⟩
 have e':afk [.lst [.int a,.int b],.lst (bs.map fT)]=.ok ((fT y,false),[.int a',.int b']):=e
 have m1:=agd (ts:=ws.map fT) (t:=fT y) (by rw[List.length_map]; omega)
 have m2:=agd (ts:=bs.map fT) (t:=fT y) (by rw[List.length_map]; omega)
 have g:=aqp (ws.map fT) (fT y)
 have fl:alz (fT y)=true:=rfl
 rw[List.map_append,List.map_append,List.map_singleton]
 generalize bs.map fT=B at *
 generalize ws.map fT=W at *
 generalize fT y=Y at *
 unfold li1
 simp -dsimp[con,drs,dr,cls,isS,others,abr,ad1,fl,e',m1,anv,g,m2]
theorem aoo(s1 s2 s3 s5:Sl):∀(us:List Tr) (a b:Int) (s7:Sl) (bs ws:List (Int × Int)),(∀x∈bs,Wo x)->(∀x∈ws,Wo x)->bs.length+us.length<=100->ws.length+us.length<=100 ->
  ∃(a' b':Int) (s7':Sl) (bs' ws':List (Int × Int)),abC (gN 7) li1 us [.rf [.int a,.int b],s1,s2,s3,.ow (bs.map fT),s5,.ow (ws.map fT),s7]=.ok (.nx,[.rf [.int a',.int b'],s1,s2,s3,.ow (bs'.map fT),s5,.ow (ws'.map fT),s7'])/\(∀x∈bs',Wo x)/\(∀x∈ws',Wo x)/\bs'.length=bs.length+us.length/\ws'.length=ws.length+us.length
 | [],a,b,s7,bs,ws,h1,h2,_,_=>⟨a,b,s7,bs,ws,rfl,h1,h2,rfl,rfl⟩
 |u::us,a,b,s7,bs,ws,h1,h2,h3,h4=>by
  rw[List.length_cons]at h3 h4
  obtain⟨y,a1,b1,e,hy⟩:=avC a b s1 s2 s3 s5 (.sh u) h1 (by omega) (by omega:ws.length<=100)
  have q1:∀x∈bs++[y],Wo x:=λx hx=>(List.mem_append.mp hx).elim (h1 x) λz=>(List.mem_singleton.mp z)▸hy
  have q2:∀x∈ws++[y],Wo x:=λx hx=>(List.mem_append.mp hx).elim (h2 x) λz=>(List.mem_singleton.mp z)▸hy
  obtain⟨a',b',s7',bs',ws',e',g1,g2,g3,g4⟩:=aoo s1 s2 s3 s5 us a1 b1 (.sh u) (bs++[y]) (ws++[y]) q1 q2 (by simp; omega) (by simp; omega)
  refine⟨a',b',s7',bs',ws',?_,g1,g2,by rw[g3]; simp; omega,by rw[g4]; simp; omega⟩
  unfold abC
  rw[show gN 7 u [.rf [.int a,.int b],s1,s2,s3,.ow (bs.map fT),s5,.ow (ws.map fT),s7]=.ok [.rf [.int a,.int b],s1,s2,s3,.ow (bs.map fT),s5,.ow (ws.map fT),.sh u]from rfl]
  simp only[Rs.aaJ]
  rw[e]
  exact e'
noncomputable def li2:SF:=(aaI (aii 6 (ae9 aar)) (aaI (ad0 (aeX (aae (aah 2) aar)) (gN 7) li1) (atg 6 (ac3 (eMt 3 aij (aae (aah 6) aar))))))
theorem acZ:∀(n:Nat) (lo:Int),(L2.upTo lo n).length=n
 | 0,_=>rfl
 |n+1,lo=>by unfold L2.upTo; rw[List.length_cons,acZ n]
theorem avD(a b:Int)(s1 s5 s6 s7:Sl)(c:Nat)(hc:c<=12){bs:List (Int × Int)}{rows:List (List (Int × Int))}(hb:∀x∈bs,Wo x)(hbl:bs.length+12<=100)(hr:rows.length<=100):∃(a' b':Int) (s6' s7':Sl) (bs' l:List (Int × Int)),li2 [.rf [.int a,.int b],s1,.sh (.int c),.ow (rows.map aaX),.ow (bs.map fT),s5,s6,s7]=.ok (.nx,[.rf [.int a',.int b'],s1,.sh (.int c),.ow ((rows++[l]).map aaX),.ow (bs'.map fT),s5,s6',s7'])/\(∀x∈bs',Wo x)/\bs'.length=bs.length+c/\l.length=c/\∀x∈l,Wo x:=by
 obtain⟨a',b',s7',bs',l,e,h1,h2,h3,h4⟩:=aoo s1 (.sh (.int c)) (.ow (rows.map aaX)) s5 (L2.upTo 0 c) a b s7 bs [] hb (by simp) (by rw[acZ]; omega) (by rw[acZ]; simp; omega)
 rw[acZ]at h3 h4
 refine⟨a',b',.sh (aaX l),s7',bs',l,?_,h1,h3,by simpa using h4,h2⟩
 have m1:=agd (ts:=rows.map aaX) (t:=aaX l) (by rw[List.length_map]; omega)
 have ef:ad0 (aeX (aae (aah 2) aar)) (gN 7) li1 [.rf [.int a,.int b],s1,.sh (.int c),.ow (rows.map aaX),.ow (bs.map fT),s5,.ow [],s7]=.ok (.nx,[.rf [.int a',.int b'],s1,.sh (.int c),.ow (rows.map aaX),.ow (bs'.map fT),s5,.ow (l.map fT),s7']):=by
  have q1:(-1000000:Int)<=c:=by omega
  have q2:(c:Int)<=1000000:=by omega
  have q3:okR (c:Int)=true:=by unfold okR; simp[q1,q2]
  unfold ad0
  have:aeX (aae (aah 2) aar) [.rf [.int a,.int b],s1,.sh (.int c),.ow (rows.map aaX),.ow (bs.map fT),s5,.ow [],s7]=.ok (L2.upTo 0 c,[.rf [.int a,.int b],s1,.sh (.int c),.ow (rows.map aaX),.ow (bs.map fT),s5,.ow [],s7]):=by
   generalize rows.map aaX=R
   generalize bs.map fT=B
   simp -dsimp[drs,dr,q3]
  rw[this]
  exact e
 rw[List.map_append,List.map_singleton]
 have hrow:Tr.lst (l.map fT)=aaX l:=rfl
 generalize rows.map aaX=R at *
 generalize bs.map fT=B at *
 generalize bs'.map fT=B' at *
 unfold li2
 generalize ad0 _ _ _=G at ef ⊢
 generalize l.map fT=L at *
 generalize aaX l=RL at *
 subst hrow
 simp -dsimp[cls,ef,frz,con,m1,abr,dr]
theorem aop(s1:Sl)(c:Nat)(hc:c<=12):∀(us:List Tr) (a b:Int) (s5 s6 s7:Sl) (bs:List (Int × Int)) (rows:List (List (Int × Int))),(∀x∈bs,Wo x)->bs.length+12*us.length<=60->rows.length+us.length<=4->Shp c rows ->
  ∃(a' b':Int) (s5' s6' s7':Sl) (bs':List Tr) (ahA:List (List (Int × Int))),abC (gN 5) li2 us [.rf [.int a,.int b],s1,.sh (.int c),.ow (rows.map aaX),.ow (bs.map fT),s5,s6,s7]=.ok (.nx,[.rf [.int a',.int b'],s1,.sh (.int c),.ow (ahA.map aaX),.ow bs',s5',s6',s7'])/\ahA.length=rows.length+us.length/\Shp c ahA
 | [],a,b,s5,s6,s7,bs,rows,h1,_,_,h4=>⟨a,b,s5,s6,s7,bs.map fT,rows,rfl,rfl,h4⟩
 |u::us,a,b,s5,s6,s7,bs,rows,h1,h2,h3,h4=>by
  rw[List.length_cons]at h2 h3
  obtain⟨a1,b1,s6',s7',bs',l,e,g1,g2,g3,g4⟩:=avD a b s1 (.sh u) s6 s7 c hc h1 (by omega) (by omega:rows.length<=100)
  obtain⟨a',b',r5,r6,r7,bs2,ahA,e',k1,k2⟩:=aop s1 c hc us a1 b1 (.sh u) s6' s7' bs' (rows++[l]) g1 (by omega) (by simp; omega) (λr hr=>(List.mem_append.mp hr).elim (h4 r) λz=>(List.mem_singleton.mp z)▸⟨g3,g4⟩)
  refine⟨a',b',r5,r6,r7,bs2,ahA,?_,by rw[k1]; simp; omega,k2⟩
  unfold abC
  rw[show gN 5 u [.rf [.int a,.int b],s1,.sh (.int c),.ow (rows.map aaX),.ow (bs.map fT),s5,s6,s7]=.ok [.rf [.int a,.int b],s1,.sh (.int c),.ow (rows.map aaX),.ow (bs.map fT),.sh u,s6,s7]from rfl]
  simp only[Rs.aaJ]
  rw[e]
  exact e'
theorem aqq(a b:Int){k c:Nat}(hk:k<=4)(hc:c<=12):∃(a' b':Int) (rows:List (List (Int × Int))),ahu [.lst [.int a,.int b],.int k,.int c]=.ok ((bkT rows,true),[.int a',.int b'])/\rows.length=k/\Shp c rows:=by
 obtain⟨a',b',s5,s6,s7,bs,rows,e,h1,h2⟩:=aop (.sh (.int k)) c hc (L2.upTo 0 k) a b .un .un .un [] [] (by simp) (by rw[acZ]; simp; omega) (by rw[acZ]; simp; omega) (by intro r hr; simp at hr)
 rw[acZ]at h1
 refine⟨a',b',rows,?_,by simpa using h1,h2⟩
 show fnR 8 0 (aaI (aii 3 (ae9 aar)) (aaI (aii 4 (ae9 aar)) (aaI (acU (ad0 (aeX (aae (aah 1) aar)) (gN 5) li2)) (abm (aah 3))))) _=_
 have q1:(-1000000:Int)<=k:=by omega
 have q2:(k:Int)<=1000000:=by omega
 have e':abC (gN 5) li2 (L2.upTo 0 k) [.rf [.int a,.int b],.sh (.int k),.sh (.int c),.ow [],.ow [],.un,.un,.un]=.ok (.nx,[.rf [.int a',.int b'],.sh (.int k),.sh (.int c),.ow (rows.map aaX),.ow bs,s5,s6,s7]):=e
 unfold bkT
 generalize rows.map aaX=R at e' ⊢
 generalize li2=G at e' ⊢
 unfold fnR
 simp -dsimp[abS,frz,dow,abr,con,ac0,eB,bOf,tru,dr,drs,cls,clV,adl,g1,g2,acD,okR,iOf,isS,others,abX,abv,ab3,acV,acT,aaD,ad1,q1,q2,e',adM,alz]
noncomputable def stE:EF:=(aas adg (aae (aaT 0 abh (aae (aah 1) (aae (eOp abf (aah 2) (eC (.int 1))) aar))) (aae (aah 2) aar)))
theorem avE(u:Tr)(a b m:Int)(h1:1<=m)(h2:m<=12):∃y a' b',stE [.sh u,.rf [.int a,.int b],.sh (.int m)]=.ok (.v (fT y) false,[.sh u,.rf [.int a',.int b'],.sh (.int m)])/\Wo y:=by
 obtain⟨x,a',b',e,x0,x1⟩:=acY a b (m+1) (by omega) (by omega)
 obtain⟨y,e2,hy⟩:=aja x m x0 (by omega) (by omega) (by omega)
 refine⟨y,a',b',?_,hy⟩
 unfold stE
 generalize fT y=T at e2 ⊢
 simp -dsimp[con,drs,dr,isS,others,abr,abf,gI,e,e2]
theorem aoq(m:Int)(h1:1<=m)(h2:m<=12):∀(us:List Tr) (s:Sl) (a b:Int),∃(ws:List (Int × Int)) (s':Sl) (a' b':Int),ad2 (gN 0) ad3 stE us [s,.rf [.int a,.int b],.sh (.int m)]=.ok (ws.map fT,[s',.rf [.int a',.int b'],.sh (.int m)])/\ws.length=us.length/\∀w∈ws,Wo w
 | [],s,a,b=>⟨[],s,a,b,rfl,rfl,by simp⟩
 |u::us,s,a,b=>by
  obtain⟨y,a1,b1,e,p⟩:=avE u a b m h1 h2
  obtain⟨ws,s',a',b',e',hl,hp⟩:=aoq m h1 h2 us (.sh u) a1 b1
  refine⟨y::ws,s',a',b',?_,by simp[hl],λw hw=>(List.mem_cons.mp hw).elim (λz=>z▸p) (hp w)⟩
  generalize stE=G at e e' ⊢
  unfold ad2
  simp[e,clV,e']
noncomputable def stB:SF:=(ac3 (eMt 4 aij (aae (abb [none,some 0,some 3] (aeX (aae (aah 2) aar)) (gN 0) ad3 stE) aar)))
theorem avF(a b m:Int)(s1 s5:Sl)(h1:1<=m)(h2:m<=12)(c:Nat)(hc:c<=12){rows:List (List (Int × Int))}(hr:rows.length<=100):∃(a' b':Int) (l:List (Int × Int)),stB [.rf [.int a,.int b],s1,.sh (.int c),.sh (.int m),.ow (rows.map aaX),s5]=.ok (.nx,[.rf [.int a',.int b'],s1,.sh (.int c),.sh (.int m),.ow ((rows++[l]).map aaX),s5])/\l.length=c/\∀x∈l,Wo x:=by
 obtain⟨l,s',a',b',e,hl,hp⟩:=aoq m h1 h2 (L2.upTo 0 c) .un a b
 have ul:=acZ c 0
 rw[ul]at hl
 refine⟨a',b',l,?_,hl,hp⟩
 have m1:=agd (ts:=rows.map aaX) (t:=aaX l) (by rw[List.length_map]; omega)
 have q1:(-1000000:Int)<=c:=by omega
 have q2:(c:Int)<=1000000:=by omega
 have q3:c<=100000:=by omega
 rw[List.map_append,List.map_singleton]
 have hrow:Tr.lst (l.map fT)=aaX l:=rfl
 generalize rows.map aaX=R at *
 generalize l.map fT=L at *
 generalize aaX l=RL at *
 subst hrow
 unfold stB
 generalize stE=G at e ⊢
 simp -dsimp[abS,frz,dow,abr,con,ac0,eB,bOf,tru,dr,drs,cls,clV,adl,g1,g2,acD,okR,iOf,isS,others,abX,abv,ab3,acV,acT,aaD,ad1,q1,q2,q3,ul,e,m1]
theorem aor(s1:Sl)(m:Int)(h1:1<=m)(h2:m<=12)(c:Nat)(hc:c<=12):∀(us:List Tr) (a b:Int) (s5:Sl) (rows:List (List (Int × Int))),rows.length+us.length<=4->Shp c rows ->
  ∃(a' b':Int) (s5':Sl) (ahA:List (List (Int × Int))),abC (gN 5) stB us [.rf [.int a,.int b],s1,.sh (.int c),.sh (.int m),.ow (rows.map aaX),s5]=.ok (.nx,[.rf [.int a',.int b'],s1,.sh (.int c),.sh (.int m),.ow (ahA.map aaX),s5'])/\ahA.length=rows.length+us.length/\Shp c ahA
 | [],a,b,s5,rows,_,h4=>⟨a,b,s5,rows,rfl,rfl,h4⟩
 |u::us,a,b,s5,rows,h3,h4=>by
  rw[List.length_cons]at h3
  obtain⟨a1,b1,l,e,g3,g4⟩:=avF a b m s1 (.sh u) h1 h2 c hc (by omega:rows.length<=100)
  obtain⟨a',b',r5,ahA,e',k1,k2⟩:=aor s1 m h1 h2 c hc us a1 b1 (.sh u) (rows++[l]) (by simp; omega) (λr hr=>(List.mem_append.mp hr).elim (h4 r) λz=>(List.mem_singleton.mp z)▸⟨g3,g4⟩)
  refine⟨a',b',r5,ahA,?_,by rw[k1]; simp; omega,k2⟩
  unfold abC
  rw[show gN 5 u [.rf [.int a,.int b],s1,.sh (.int c),.sh (.int m),.ow (rows.map aaX),s5]=.ok [.rf [.int a,.int b],s1,.sh (.int c),.sh (.int m),.ow (rows.map aaX),.sh u]from rfl]
  simp only[Rs.aaJ]
  rw[e]
  exact e'
noncomputable def stA:SF:=(aaI (abM (eOp abf (eC (.int 1)) (aaT 0 abh (aae (aah 0) (aae (eC (.int 12)) aar)))) (gN 3)) (aaI (aii 4 (ae9 aar)) (aaI (acU (ad0 (aeX (aae (aah 1) aar)) (gN 5) stB)) (abm (aah 4)))))
theorem avG(a b:Int){k c:Nat}(hk:k<=4)(hc:c<=12):∃(a' b':Int) (rows:List (List (Int × Int))) (ρ : En),stA [.rf [.int a,.int b],.sh (.int k),.sh (.int c),.un,.un,.un]=.ok (.rt (bkT rows) true,.rf [.int a',.int b']::ρ)/\rows.length=k/\Shp c rows:=by
 obtain⟨x,a1,b1,e,x0,x1⟩:=acY a b 12 (by omega) (by decide)
 obtain⟨a',b',s5,rows,e2,h1,h2⟩:=aor (.sh (.int k)) (1+x) (by omega) (by omega) c hc (L2.upTo 0 k) a1 b1 .un [] (by rw[acZ]; simp; omega) (by intro r hr; simp at hr)
 rw[acZ]at h1
 refine⟨a',b',rows,[.sh (.int k),.sh (.int c),.sh (.int (1+x)),.ow (rows.map aaX),s5],?_,by simpa using h1,h2⟩
 have q1:(-1000000:Int)<=k:=by omega
 have q2:(k:Int)<=1000000:=by omega
 have e':abC (gN 5) stB (L2.upTo 0 k) [.rf [.int a1,.int b1],.sh (.int k),.sh (.int c),.sh (.int (1+x)),.ow [],.un]=.ok (.nx,[.rf [.int a',.int b'],.sh (.int k),.sh (.int c),.sh (.int (1+x)),.ow (rows.map aaX),s5]):=e2
 unfold bkT stA
 generalize rows.map aaX=R at e' ⊢
 generalize stB=G at e' ⊢
 simp -dsimp[abS,frz,dow,abr,con,ac0,eB,bOf,tru,dr,drs,cls,clV,adl,g1,g2,acD,okR,iOf,isS,others,abX,abv,ab3,acV,acT,aaD,ad1,e,abf,gI,q1,q2,e']
noncomputable def stL:SF:=(abm (aaT 0 ahu (aae (aah 0) (aae (aah 1) (aae (aah 2) aar)))))
theorem aos:an7=(aaI (abM (eOp abf (eC (.int 1)) (aaT 0 abh (aae (aah 0) (aae (eC (.int 4)) aar)))) (gN 1)) (aaI (abM (eOp abf (eC (.int 1)) (aaT 0 abh (aae (aah 0) (aae (eC (.int 12)) aar)))) (gN 2)) (aaI (sIf (abk (eOp gEq (aaT 0 abh (aae (aah 0) (aae (eC (.int 3)) aar))) (eC (.int 0)))) stL adZ) stA))):=rfl
theorem aqr(a b:Int):∃(a' b':Int) (rows:List (List (Int × Int))) (c:Nat),af7 [.lst [.int a,.int b]]=.ok ((bkT rows,true),[.int a',.int b'])/\Bk c rows:=by
 obtain⟨x,a1,b1,e1,x0,x1⟩:=acY a b 4 (by omega) (by decide)
 obtain⟨y,a2,b2,e2,y0,y1⟩:=acY a1 b1 12 (by omega) (by decide)
 obtain⟨z,a3,b3,e3,z0,z1⟩:=acY a2 b2 3 (by omega) (by decide)
 obtain⟨k,hk⟩:∃k:Nat,(k:Int)=1+x:=⟨(1+x).toNat,by omega⟩
 obtain⟨c,hc⟩:∃k:Nat,(k:Int)=1+y:=⟨(1+y).toNat,by omega⟩
 unfold af7
 rw[aos]
 by_cases h:z=0
 ·obtain⟨a',b',rows,e4,h1,h2⟩:=aqq a3 b3 (k:=k) (c:=c) (by omega) (by omega)
  refine⟨a',b',rows,c,?_,by omega,by omega,by omega,by omega,h2⟩
  subst h
  generalize bkT rows=T at e4 ⊢
  unfold fnR stL
  simp -dsimp[abS,frz,dow,abr,con,ac0,eB,bOf,tru,dr,drs,cls,clV,adl,g1,g2,acD,okR,iOf,isS,others,abX,abv,ab3,acV,acT,aaD,ad1,e1,e2,e3,abf,gI,<-hk,<-hc,gEq,aaA,aaU,e4,adM,alz]
 ·obtain⟨a',b',rows,ρ,e4,h1,h2⟩:=avG a3 b3 (k:=k) (c:=c) (by omega) (by omega)
  refine⟨a',b',rows,c,?_,by omega,by omega,by omega,by omega,h2⟩
  have q:(z == 0)=false:=by simp[h]
  generalize stA=G at e4 ⊢
  generalize bkT rows=T at e4 ⊢
  unfold fnR
  simp -dsimp[abS,frz,dow,abr,con,ac0,eB,bOf,tru,dr,drs,cls,clV,adl,g1,g2,acD,okR,iOf,isS,others,abX,abv,ab3,acV,acT,aaD,ad1,e1,e2,e3,abf,gI,<-hk,<-hc,gEq,aaA,aaU,q,e4,adM,alz]
noncomputable def puB:SF:=(aaI (abM (eOp acK (eOp abf (eOp abf (eOp gIx (aah 1) (eOp acK (aah 3) (eCB (g1 abg) (aae (aah 1) aar)))) (eOp ab2 (eC (.int 48271)) (aah 3))) (eC (.int 7))) (eC (.int 2147483629))) (gN 4)) (aaI (abM (eOp acK (eOp abf (eOp ab2 (aah 4) (aah 4)) (eOp ab2 (eC (.int 69621)) (aah 3))) (eC (.int 2147483587))) (gN 4)) (abM (eOp abf (eOp ab2 (aah 2) (eC (.int 2147483587))) (eOp acK (eOp ab2 (aah 4) (aah 4)) (eC (.int 2147483563)))) (gN 2))))
theorem avH(s0 s4:Sl){cs:List Int}(hc:0<cs.length)(mixed:Int){k:Int}(k0:0<=k)(k1:k<1000):∃x t4,puB [s0,.sh (.lst (cs.map .int)),.sh (.int mixed),.sh (.int k),s4]=.ok (.nx,[s0,.sh (.lst (cs.map .int)),.sh (.int x),.sh (.int k),t4]):=by
 have hr:=amA k (cs.length:Int) (by omega)
 have hn:((cs.length:Int))≠0:=by omega
 have el:abg (.lst (cs.map .int))=.ok (.int (cs.length:Int),false):=by
  show Rs.ok (Tr.int ((cs.map Tr.int).length:Int),false)=_
  rw[List.length_map]
 obtain⟨v,ev⟩:∃v,gIx (.lst (cs.map .int)) (.int (k.fmod (cs.length:Int)))=.ok (.int v,false):=by
  obtain⟨i,hi⟩:∃i:Nat,(i:Int)=k.fmod (cs.length:Int):=⟨(k.fmod (cs.length:Int)).toNat,by omega⟩
  rw[<-hi]
  have hi':i<cs.length:=by omega
  exact⟨cs[i],acP (by rw[List.getElem?_map,List.getElem?_eq_getElem hi']; rfl)⟩
 have c1:agw 48271 k=true:=aqn (by omega)
 generalize hA:(v+48271*k+7).fmod 2147483629=A
 have rA:=amA (v+48271*k+7) 2147483629 (by omega)
 rw[hA]at rA
 have c2:agw A A=true:=aqn (by omega)
 have c3:agw 69621 k=true:=aqn (by omega)
 generalize hB:(A*A+69621*k).fmod 2147483587=B
 have rB:=amA (A*A+69621*k) 2147483587 (by omega)
 rw[hB]at rB
 have c4:agw B B=true:=aqn (by omega)
 have c5:agw mixed 2147483587=true:=ayk (by omega)
 generalize hC:(B*B).fmod 2147483563=C
 refine⟨mixed*2147483587+C,.sh (.int B),?_⟩
 generalize Tr.lst (cs.map .int)=T at *
 generalize hF:k.fmod (cs.length:Int)=F at *
 generalize (cs.length:Int)=N at *
 unfold puB
 simp -dsimp[drs,dr,g1,acK,gIC,hn,hF,el,ev,ab2,c1,abf,gI,hA,c2,c3,hB,c4,c5,hC]
theorem aot(s0:Sl){cs:List Int}(hc:0<cs.length):∀(us:List Tr) (mixed:Int) (s3 s4:Sl),(∀u∈us,∃j:Int,u=.int j/\0<=j/\j<1000)->∃x t3 t4,abC (gN 3) puB us [s0,.sh (.lst (cs.map .int)),.sh (.int mixed),s3,s4]=.ok (.nx,[s0,.sh (.lst (cs.map .int)),.sh (.int x),t3,t4])
 | [],mixed,s3,s4,_=>⟨mixed,s3,s4,rfl⟩
 |u::us,mixed,s3,s4,h=>by
  obtain⟨j,rfl,j0,j1⟩:=h u (by simp)
  obtain⟨y,t4,e⟩:=avH s0 s4 hc mixed j0 j1
  obtain⟨x,r3,r4,e'⟩:=aot s0 hc us y (.sh (.int j)) t4 λv hv=>h v (by simp[hv])
  refine⟨x,r3,r4,?_⟩
  generalize Tr.lst (cs.map .int)=T at *
  unfold abC
  simp[e,e']
theorem aqs(ns:List Int):∃a b,af6 [.lst (ns.map .int)]=.ok (.lst [.int a,.int b],true):=by
 obtain⟨cs,hcs⟩:∃cs:List Int,cs=ns.take 63++[(ns.length:Int)]:=⟨_,rfl⟩
 have hc:0<cs.length:=by rw[hcs]; simp
 obtain⟨x,t3,t4,e⟩:=aot (.sh (.lst (ns.map .int))) hc (L2.upTo 0 160) 1 .un .un λu hu=>by
  rw[aef]at hu
  obtain⟨i,hi,rfl⟩:=List.mem_map.mp hu
  have:=List.mem_range.mp hi
  exact⟨i,rfl,by omega,by omega⟩
 have es:gSl none (some 63) (.lst (ns.map .int))=.ok (.lst ((ns.take 63).map .int),true):=by
  have c:=aoj (ns.map Tr.int) 63
  show Rs.ok (Tr.lst (L2.cut (ns.map Tr.int) none (some 63)),true)=_
  rw[show L2.cut (ns.map Tr.int) none (some 63)=_ from c,List.map_take]
 have ea:abf (.lst ((ns.take 63).map .int)) (.lst [.int (ns.length:Int)])=.ok (.lst (cs.map .int),true):=by
  show(if((ns.take 63).map Tr.int).length+[Tr.int (ns.length:Int)].length<=100000 then Rs.ok (Tr.lst ((ns.take 63).map Tr.int++[Tr.int (ns.length:Int)]),true)else .bad)=_
  rw[if_pos (by simp; omega),hcs,List.map_append]
  rfl
 have el:abg (.lst (ns.map .int))=.ok (.int (ns.length:Int),false):=by
  show Rs.ok (Tr.int ((ns.map Tr.int).length:Int),false)=_
  rw[List.length_map]
 have e0:gIx (.lst (cs.map .int)) (.int 0)=.ok (.int cs[0],false):=acP (i:=0) (by rw[List.getElem?_map,List.getElem?_eq_getElem hc]; rfl)
 have en:acU (ad0 (aeX (aae (eC (.int 160)) aar)) (gN 3) puB) [.sh (.lst (ns.map .int)),.sh (.lst (cs.map .int)),.sh (.int 1),.un,.un]=.ok (.nx,[.sh (.lst (ns.map .int)),.sh (.lst (cs.map .int)),.sh (.int x),t3,t4]):=by
  show abS (abC (gN 3) puB (L2.upTo 0 160) _)=_
  rw[e]
  rfl
 have hd:an5=(aaI (abM (eOp abf (eSl (aah 0) oNo (afT (eC (.int 63)))) (ae9 (aae (eCB (g1 abg) (aae (aah 0) aar)) aar))) (gN 1)) (aaI (abM (eC (.int 1)) (gN 2)) (aaI (acU (ad0 (aeX (aae (eC (.int 160)) aar)) (gN 3) puB)) (aaI (sIf (abk (eOp gGe (eOp gIx (aah 1) (eC (.int 0))) (eOp acR (eC (.int 10)) (eC (.int 18))))) (abm (ae9 (aae (eOp acS (eOp gIx (aah 1) (eC (.int 0))) (eOp acR (eC (.int 10)) (eC (.int 18)))) (aae (aah 2) aar)))) adZ) (abm (ae9 (aae (eC (.int 0)) (aae (aah 2) aar)))))))):=rfl
 unfold af6
 rw[hd]
 generalize cs[0]=v at e0
 generalize acU _=G at en ⊢
 generalize Tr.lst (cs.map .int)=C at *
 generalize Tr.lst ((ns.take 63).map .int)=N1 at *
 generalize Tr.lst (ns.map .int)=N0 at *
 generalize (ns.length:Int)=L at *
 by_cases h:1000000000000000000<=v
 ·refine⟨v-1000000000000000000,x,?_⟩
  unfold fnP
  simp -dsimp[aaD,drs,dr,iOf,es,el,g1,cls,ea,en,e0,acR,gIC,aud,tiny,gGe,gB,h,bOf,acS,gI]
 ·refine⟨0,x,?_⟩
  unfold fnP
  simp -dsimp[aaD,drs,dr,iOf,es,el,g1,cls,ea,en,e0,acR,gIC,aud,tiny,gGe,gB,h,bOf,acS,gI]
end K97
end
section
namespace BH
open PySem L2
noncomputable def red(a b:Int):Int × Int:=(a / ((Int.gcd a b:Nat):Int),b / ((Int.gcd a b:Nat):Int))
noncomputable def Fq(M:Nat)(x:Int × Int):Prop:=0<=x.1/\x.1<2 ^ M/\1<=x.2/\x.2<2 ^ M/\Int.gcd x.1 x.2=1
theorem am2(M:Nat):((2 ^ M:Nat):Int)=2 ^ M:=by push_cast; rfl
theorem aou{a b:Int}{M:Nat}(ha:0<=a)(ha2:a<2 ^ M)(hb:1<=b)(hb2:b<2 ^ M):Fq M (red a b):=by
 obtain⟨g1,g2,g3,g4,g5,g6,g7⟩:=aeE (a:=a) (b:=b) (by omega)
 have d1:=Int.ediv_le_self (a:=a) ((Int.gcd a b:Nat):Int) ha
 have d2:=Int.ediv_le_self (a:=b) ((Int.gcd a b:Nat):Int) (by omega)
 exact⟨g5 ha,by unfold red; dsimp only; omega,g3,by unfold red; dsimp only; omega,g4⟩
theorem ad7{a b:Int}(hb:1<=b):a*(red a b).2=(red a b).1*b/\1<=(red a b).2/\Int.gcd (red a b).1 (red a b).2=1:=by
 obtain⟨g1,g2,g3,g4,g5,g6,g7⟩:=aeE (a:=a) (b:=b) (by omega)
 refine⟨?_,g3,g4⟩
 show a*(b / ((Int.gcd a b:Nat):Int))=(a / ((Int.gcd a b:Nat):Int))*b
 generalize ((Int.gcd a b:Nat):Int)=g at *
 generalize a / g=p at *
 generalize b / g=q at *
 rw[g6,g7]
 ac_rfl
noncomputable def le2(x y:Int × Int):Prop:=x.1*y.2<=y.1*x.2
theorem afH{x y:Int × Int}:lt2 x y=false↔le2 y x:=by
 unfold lt2 le2
 rw[decide_eq_false_iff_not,Int.not_lt]
theorem adu(x:Int × Int):le2 x x:=Int.le_refl _
theorem ahB{x y z:Int × Int}(hx:1<=x.2)(hy:1<=y.2)(hz:1<=z.2)(h1:le2 x y)(h2:le2 y z):le2 x z:=by
 unfold le2 at *
 have a1:=Int.mul_le_mul_of_nonneg_right h1 (show 0<=z.2 by omega)
 have a2:=Int.mul_le_mul_of_nonneg_right h2 (show 0<=x.2 by omega)
 have e1:x.1*y.2*z.2=(x.1*z.2)*y.2:=by ac_rfl
 have e2:y.1*x.2*z.2=y.1*z.2*x.2:=by ac_rfl
 have e3:z.1*y.2*x.2=(z.1*x.2)*y.2:=by ac_rfl
 rw[e1,e2]at a1
 rw[e3]at a2
 exact Int.le_of_mul_le_mul_right (Int.le_trans a1 a2) (by omega)
theorem alW{x y:Int × Int}(hx:1<=x.2)(hy:1<=y.2)(gx:Int.gcd x.1 x.2=1)(gy:Int.gcd y.1 y.2=1)(h1:le2 x y)(h2:le2 y x):x=y:=by
 unfold le2 at *
 have:=arD hx hy gx gy (Int.le_antisymm h1 h2)
 exact Prod.ext this.1 this.2
theorem ak1{a b c d:Int}(hb:1<=b)(hd:1<=d)(h:a*d<=c*b):le2 (red a b) (red c d):=by
 obtain⟨e1,p1,_⟩:=ad7 (a:=a) hb
 obtain⟨e2,p2,_⟩:=ad7 (a:=c) hd
 generalize red a b=x at *
 generalize red c d=y at *
 unfold le2
 have a1:=Int.mul_le_mul_of_nonneg_right h (Int.mul_nonneg (show 0<=x.2 by omega) (show 0<=y.2 by omega))
 have e3:a*d*(x.2*y.2)=(a*x.2)*(d*y.2):=by ac_rfl
 have e4:c*b*(x.2*y.2)=(c*y.2)*(b*x.2):=by ac_rfl
 rw[e3,e4,e1,e2]at a1
 have e5:x.1*b*(d*y.2)=(x.1*y.2)*(b*d):=by ac_rfl
 have e6:y.1*d*(b*x.2)=(y.1*x.2)*(b*d):=by ac_rfl
 rw[e5,e6]at a1
 exact Int.le_of_mul_le_mul_right a1 (Int.mul_pos (by omega) (by omega))
noncomputable def sumF(x y:Int × Int):Int × Int:=red (x.1*y.2+y.1*x.2) (x.2*y.2)
noncomputable def ae5(x y:Int × Int):Int × Int:=red (x.1*y.1) (x.2*y.2)
theorem aev{a b:Int}{M N:Nat}(ha:0<=a)(ha2:a<2 ^ M)(hb:0<=b)(hb2:b<2 ^ N):a*b<2 ^ (M+N):=by
 have p1:(0:Int)<2 ^ N:=Int.pow_pos (by omega)
 have q1:a*b<=a*2 ^ N:=Int.mul_le_mul_of_nonneg_left (by omega) ha
 have q2:a*2 ^ N<2 ^ M*2 ^ N:=Int.mul_lt_mul_of_pos_right ha2 p1
 rw[Int.pow_add]
 omega
theorem agf{x y:Int × Int}{M N:Nat}(hx:Fq M x)(hy:Fq N y):Fq (M+N) (ae5 x y) :=
 aou (Int.mul_nonneg hx.1 hy.1) (aev hx.1 hx.2.1 hy.1 hy.2.1) (by have:=Int.mul_pos (a:=x.2) (b:=y.2) (by have:=hx.2.2.1; omega) (by have:=hy.2.2.1; omega); omega) (aev (by have:=hx.2.2.1; omega) hx.2.2.2.1 (by have:=hy.2.2.1; omega) hy.2.2.2.1)
theorem aov{x y:Int × Int}{M N:Nat}(hx:Fq M x)(hy:Fq N y):Fq (M+N+1) (sumF x y):=by
 obtain⟨x1,x2,x3,x4,_⟩:=hx
 obtain⟨y1,y2,y3,y4,_⟩:=hy
 have m1:=aev x1 x2 (by omega) y4
 have m2:=aev y1 y2 (by omega) x4
 have m3:=aev (by omega) x4 (by omega) y4
 rw[Nat.add_comm N M]at m2
 have p:=Int.mul_pos (a:=x.2) (b:=y.2) (by omega) (by omega)
 have n1:=Int.mul_nonneg x1 (show 0<=y.2 by omega)
 have n2:=Int.mul_nonneg y1 (show 0<=x.2 by omega)
 have e:(2:Int) ^ (M+N+1)=2 ^ (M+N)*2:=Int.pow_succ ..
 exact aou (by omega) (by rw[e]; omega) (by omega) (by rw[e]; omega)
theorem aow{w x y:Int × Int}(hw:0<=w.1)(hw2:1<=w.2)(hx:1<=x.2)(hy:1<=y.2)(h:le2 x y):le2 (ae5 w x) (ae5 w y):=by
 have p1:=Int.mul_pos (a:=w.2) (b:=x.2) (by omega) (by omega)
 have p2:=Int.mul_pos (a:=w.2) (b:=y.2) (by omega) (by omega)
 refine ak1 (by omega) (by omega) ?_
 unfold le2 at h
 have a1:=Int.mul_le_mul_of_nonneg_left h (Int.mul_nonneg hw (show 0<=w.2 by omega))
 have e1:w.1*x.1*(w.2*y.2)=w.1*w.2*(x.1*y.2):=by ac_rfl
 have e2:w.1*y.1*(w.2*x.2)=w.1*w.2*(y.1*x.2):=by ac_rfl
 rw[e1,e2]
 exact a1
theorem alX{w v x y:Int × Int}(hw:0<=w.1)(hw2:1<=w.2)(hv:0<=v.1)(hv2:1<=v.2)(hx0:0<=x.1)(hy0:0<=y.1)(hx:1<=x.2)(hy:1<=y.2)(h:le2 w v)(h':le2 x y):le2 (ae5 w x) (ae5 v y):=by
 have p1:=Int.mul_pos (a:=w.2) (b:=x.2) (by omega) (by omega)
 have p2:=Int.mul_pos (a:=v.2) (b:=y.2) (by omega) (by omega)
 refine ak1 (by omega) (by omega) ?_
 unfold le2 at h h'
 have e1:w.1*x.1*(v.2*y.2)=(w.1*v.2)*(x.1*y.2):=by ac_rfl
 have e2:v.1*y.1*(w.2*x.2)=(v.1*w.2)*(y.1*x.2):=by ac_rfl
 rw[e1,e2]
 exact Int.mul_le_mul h h' (Int.mul_nonneg hx0 (by omega)) (Int.mul_nonneg hv (by omega))
theorem ak2{w v x y:Int × Int}(hw2:1<=w.2)(hv2:1<=v.2)(hx:1<=x.2)(hy:1<=y.2)(h:le2 w v)(h':le2 x y):le2 (sumF w x) (sumF v y):=by
 have p1:=Int.mul_pos (a:=w.2) (b:=x.2) (by omega) (by omega)
 have p2:=Int.mul_pos (a:=v.2) (b:=y.2) (by omega) (by omega)
 refine ak1 (by omega) (by omega) ?_
 unfold le2 at h h'
 have a1:=Int.mul_le_mul_of_nonneg_right h (Int.mul_nonneg (show 0<=x.2 by omega) (show 0<=y.2 by omega))
 have a2:=Int.mul_le_mul_of_nonneg_right h' (Int.mul_nonneg (show 0<=w.2 by omega) (show 0<=v.2 by omega))
 have e1:(w.1*x.2+x.1*w.2)*(v.2*y.2)=w.1*v.2*(x.2*y.2)+x.1*y.2*(w.2*v.2):=by rw[Int.add_mul]; ac_rfl
 have e2:(v.1*y.2+y.1*v.2)*(w.2*x.2)=v.1*w.2*(x.2*y.2)+y.1*x.2*(w.2*v.2):=by rw[Int.add_mul]; ac_rfl
 rw[e1,e2]
 omega
theorem afc{a b:Int}{M:Nat}(hb:1<=b)(hb2:b<2 ^ M)(hM:M<=8000):abW [.int a,.int b]=.ok (fT (red a b),false):=by
 obtain⟨g1,g2,_⟩:=aeE (a:=a) (b:=b) (by omega)
 have e1:a.fdiv (Int.gcd a b:Nat)=a / (Int.gcd a b:Nat):=Int.fdiv_eq_ediv_of_nonneg _ (by omega)
 have e2:b.fdiv (Int.gcd a b:Nat)=b / (Int.gcd a b:Nat):=Int.fdiv_eq_ediv_of_nonneg _ (by omega)
 have hs:=acX a b
 have np:=am2 M
 unfold abW afD fnP fT red
 generalize hg:((Int.gcd a b:Nat):Int)=g at *
 have h3:¬b<0:=by omega
 have h4:(b == 0)=false:=by simp; omega
 have c1:∀n,amY n g=true:=λn=>afn (M:=M) (by omega) (by omega) hM
 simp -dsimp[abS,frz,dow,abr,con,ac0,eB,bOf,tru,dr,drs,cls,clV,adl,g1,g2,gI,gIC,gB,gEq,gNe,gIn,abf,ab2,acQ,acK,acR,acS,gLt,gGt,gLe,gGe,gIx,abg,adE,abL,aa4,adw,ad8,acC,acD,okR,iOf,isS,others,abX,abv,ab3,acV,acT,aaA,aa5,aaE,aaK,aaH,aaL,aax,aav,aaU,aa6,aa1,ada,atI,ixN,aaD,hs,h3,h4,c1,e1,e2]
theorem afI{x y:Int × Int}{M N:Nat}(hx:Fq M x)(hy:Fq N y)(hM:M+N<=8000):abD [fT x,fT y]=.ok (fT (ae5 x y),false):=by
 have q:=agf hx hy
 obtain⟨x1,x2,x3,x4,_⟩:=hx
 obtain⟨y1,y2,y3,y4,_⟩:=hy
 have nM:=am2 M
 have nN:=am2 N
 have c1:agw x.1 y.1=true:=adL (M:=M) (N:=N) (by omega) (by omega) (by omega) (by omega)
 have c2:agw x.2 y.2=true:=adL (M:=M) (N:=N) (by omega) (by omega) (by omega) (by omega)
 have p:=Int.mul_pos (a:=x.2) (b:=y.2) (by omega) (by omega)
 have e:=afc (a:=x.1*y.1) (b:=x.2*y.2) (M:=M+N) (by omega) (aev (by omega) x4 (by omega) y4) hM
 unfold abD ago fnP
 show _=Rs.ok (fT (red (x.1*y.1) (x.2*y.2)),false)
 generalize fT (red (x.1*y.1) (x.2*y.2))=R at e ⊢
 unfold fT
 simp -dsimp[abS,frz,dow,abr,con,ac0,eB,bOf,tru,dr,drs,cls,clV,adl,g1,g2,gI,gIC,gB,gEq,gNe,gIn,abf,ab2,acQ,acK,acR,acS,gLt,gGt,gLe,gGe,gIx,abg,adE,abL,aa4,adw,ad8,acC,acD,okR,iOf,isS,others,abX,abv,ab3,acV,acT,aaA,aa5,aaE,aaK,aaH,aaL,aax,aav,aaU,aa6,aa1,ada,atI,ixN,aaD,c1,c2,e]
theorem ak3{x y:Int × Int}{M N:Nat}(hx:Fq M x)(hy:Fq N y)(hM:M+N<=8000):adx [fT x,fT y]=.ok (fT (sumF x y),false):=by
 obtain⟨x1,x2,x3,x4,_⟩:=hx
 obtain⟨y1,y2,y3,y4,_⟩:=hy
 have nM:=am2 M
 have nN:=am2 N
 have c1:agw x.1 y.2=true:=adL (M:=M) (N:=N) (by omega) (by omega) (by omega) (by omega)
 have c2:agw y.1 x.2=true:=adL (M:=N) (N:=M) (by omega) (by omega) (by omega) (by omega)
 have c3:agw x.2 y.2=true:=adL (M:=M) (N:=N) (by omega) (by omega) (by omega) (by omega)
 have p:=Int.mul_pos (a:=x.2) (b:=y.2) (by omega) (by omega)
 have e:=afc (a:=x.1*y.2+y.1*x.2) (b:=x.2*y.2) (M:=M+N) (by omega) (aev (by omega) x4 (by omega) y4) hM
 unfold adx aio fnP
 show _=Rs.ok (fT (red (x.1*y.2+y.1*x.2) (x.2*y.2)),false)
 generalize fT (red (x.1*y.2+y.1*x.2) (x.2*y.2))=R at e ⊢
 unfold fT
 simp -dsimp[abS,frz,dow,abr,con,ac0,eB,bOf,tru,dr,drs,cls,clV,adl,g1,g2,gI,gIC,gB,gEq,gNe,gIn,abf,ab2,acQ,acK,acR,acS,gLt,gGt,gLe,gGe,gIx,abg,adE,abL,aa4,adw,ad8,acC,acD,okR,iOf,isS,others,abX,abv,ab3,acV,acT,aaA,aa5,aaE,aaK,aaH,aaL,aax,aav,aaU,aa6,aa1,ada,atI,ixN,aaD,c1,c2,c3,e]
end BH
end
section
namespace BH
open PySem L2
noncomputable def shF(ps:List ((Int × Int) × (Int × Int)))(t:Int × Int):Int × Int:=ps.foldl (λt p=>sumF t (ae5 p.1 p.2)) t
noncomputable def prF(xs:List (Int × Int))(t:Int × Int):Int × Int:=xs.foldl ae5 t
theorem aq2:∀(ps:List ((Int × Int) × (Int × Int))) (t:Int × Int) (M:Nat),Fq M t->(∀p∈ps,Fq 45 p.1/\Fq 45 p.2)->Fq (M+91*ps.length) (shF ps t)
 | [],t,M,h,_=>h
 |p::ps,t,M,h,hp=>by
  have h1:=agf (hp p (by simp)).1 (hp p (by simp)).2
  have h2:=aov h h1
  have:=aq2 ps _ _ h2 λq hq=>hp q (by simp[hq])
  rw[show M+91*(p::ps).length=M+(45+45)+1+91*ps.length by rw[List.length_cons]; omega]
  exact this
theorem aq3:∀(ps:List (Int × Int)) (t:Int × Int) (M:Nat),Fq M t->(∀p∈ps,Fq 45 p)->Fq (M+45*ps.length) (prF ps t)
 | [],t,M,h,_=>h
 |p::ps,t,M,h,hp=>by
  have h2:=agf h (hp p (by simp))
  have:=aq3 ps _ _ h2 λq hq=>hp q (by simp[hq])
  rw[show M+45*(p::ps).length=M+45+45*ps.length by rw[List.length_cons]; omega]
  exact this
theorem Wo.fq{x:Int × Int}(h:Wo x):Fq 45 x:=by
 obtain⟨h1,h2,h3,h4,h5⟩:=h
 exact⟨h1,by omega,h3,by omega,h5⟩
noncomputable def ShB(B:SF):Prop:=∀(t w x:Int × Int) (M:Nat) (s0 s1:Sl) (τ : En),Fq M t->Fq 45 w->Fq 45 x->M+90<=8000->B (s0::s1 :: .sh (fT t) :: .sh (fT w) :: .sh (fT x)::τ)=.ok (.nx,s0::s1 :: .sh (fT (sumF t (ae5 w x))) :: .sh (fT w) :: .sh (fT x)::τ)
theorem aox{B:SF}(hB:ShB B)(s0 s1:Sl)(τ : En):∀(ps:List ((Int × Int) × (Int × Int))) (t:Int × Int) (M:Nat) (s3 s4:Sl),Fq M t->(∀p∈ps,Fq 45 p.1/\Fq 45 p.2)->M+91*ps.length<=8000 ->
  ∃t3 t4,abC (gT 2 (aaV (gN 3) (aaV (gN 4) ac6))) B (ps.map λp=>Tr.tup [fT p.1,fT p.2]) (s0::s1 :: .sh (fT t)::s3::s4::τ)=.ok (.nx,s0::s1 :: .sh (fT (shF ps t))::t3::t4::τ)
 | [],t,M,s3,s4,_,_,_=>⟨s3,s4,rfl⟩
 |p::ps,t,M,s3,s4,h,hp,hl=>by
  rw[List.length_cons]at hl
  have h1:=agf (hp p (by simp)).1 (hp p (by simp)).2
  have h2:=aov h h1
  have e:=hB t p.1 p.2 M s0 s1 τ h (hp p (by simp)).1 (hp p (by simp)).2 (by omega)
  obtain⟨t3,t4,e'⟩:=aox hB s0 s1 τ ps _ _ (.sh (fT p.1)) (.sh (fT p.2)) h2 (λq hq=>hp q (by simp[hq])) (by omega)
  refine⟨t3,t4,?_⟩
  rw[List.map_cons]
  unfold abC
  rw[show(gT 2 (aaV (gN 3) (aaV (gN 4) ac6))) (Tr.tup [fT p.1,fT p.2]) (s0::s1 :: .sh (fT t)::s3::s4::τ)=.ok (s0::s1 :: .sh (fT t) :: .sh (fT p.1) :: .sh (fT p.2)::τ)from rfl]
  simp only[Rs.aaJ]
  rw[e]
  exact e'
theorem avI(ws xs:List (Int × Int)):aqT (ws.map fT) (xs.map fT)=(ws.zip xs).map λp=>Tr.tup [fT p.1,fT p.2]:=by
 unfold aqT
 rw[List.zip_map,List.map_map]
 rfl
noncomputable def swB:SF:=(abM (aas adx (aae (aah 2) (aae (aas abD (aae (aah 3) (aae (aah 4) aar))) aar))) (gN 2))
theorem avJ:ShB swB:=λt w x M s0 s1 τ ht hw hx hM=>by
 have e1:=afI hw hx (by omega)
 have e2:=ak3 ht (agf hw hx) (by omega)
 generalize fT (sumF t (ae5 w x))=R at e2 ⊢
 generalize fT (ae5 w x)=P at e1 e2
 generalize fT t=T at *
 generalize fT w=W at *
 generalize fT x=Y at *
 unfold swB
 simp -dsimp[drs,dr,isS,e1,e2]
theorem azp:Fq 1 (0,1):=by unfold Fq; decide
theorem azq:Fq 1 (1,1):=by unfold Fq; decide
theorem aq4{ws xs:List (Int × Int)}(hw:∀w∈ws,Fq 45 w)(hx:∀x∈xs,Fq 45 x):∀p∈ws.zip xs,Fq 45 p.1/\Fq 45 p.2:=λp hp=>⟨hw _ (List.of_mem_zip hp).1,hx _ (List.of_mem_zip hp).2⟩
theorem ahC{ws xs:List (Int × Int)}(hw:∀w∈ws,Fq 45 w)(hx:∀x∈xs,Fq 45 x)(hl:xs.length<=12):ac1 [aaX ws,aaX xs]=.ok (fT (shF (ws.zip xs) (0,1)),false):=by
 have hz:(ws.zip xs).length<=12:=by rw[List.length_zip]; omega
 obtain⟨t3,t4,e⟩:=aox avJ (.sh (aaX ws)) (.sh (aaX xs)) [] (ws.zip xs) (0,1) 1 .un .un azp (aq4 hw hx) (by omega)
 rw[<-avI]at e
 have e1:acU (ad0 (auU (aae (aah 0) (aae (aah 1) aar))) (gT 2 (aaV (gN 3) (aaV (gN 4) ac6))) swB) [.sh (aaX ws),.sh (aaX xs),.sh (fT (0,1)),.un,.un]=.ok (.nx,[.sh (aaX ws),.sh (aaX xs),.sh (fT (shF (ws.zip xs) (0,1))),t3,t4]):=by
  show abS (abC _ swB (aqT (ws.map fT) (xs.map fT)) _)=_
  rw[e]
  rfl
 show fnP 5 (aaI (abM (eC (.tup [.int 0,.int 1])) (gN 2)) (aaI (acU (ad0 (auU (aae (aah 0) (aae (aah 1) aar))) (gT 2 (aaV (gN 3) (aaV (gN 4) ac6))) swB)) (abm (aah 2)))) [aaX ws,aaX xs]=_
 have e0:Tr.tup [.int 0,.int 1]=fT (0,1):=rfl
 rw[e0]
 generalize acU _=G at e1 ⊢
 generalize fT (shF (ws.zip xs) (0,1))=R at *
 generalize fT (0,1)=Z at *
 generalize aaX ws=W at *
 generalize aaX xs=Y at *
 unfold fnP
 simp -dsimp[aaD,e1]
noncomputable def pwB:SF:=(abM (aas abD (aae (aah 1) (aae (aah 2) aar))) (gN 1))
theorem aoy(s0:Sl):∀(xs:List (Int × Int)) (t:Int × Int) (M:Nat) (s2:Sl),Fq M t->(∀p∈xs,Fq 45 p)->M+45*xs.length<=8000 ->
  ∃t2,abC (gN 2) pwB (xs.map fT) [s0,.sh (fT t),s2]=.ok (.nx,[s0,.sh (fT (prF xs t)),t2])
 | [],t,M,s2,_,_,_=>⟨s2,rfl⟩
 |x::xs,t,M,s2,h,hp,hl=>by
  rw[List.length_cons]at hl
  have e:=afI h (hp x (by simp)) (by omega)
  obtain⟨t2,e'⟩:=aoy s0 xs _ _ (.sh (fT x)) (agf h (hp x (by simp))) (λq hq=>hp q (by simp[hq])) (by omega)
  refine⟨t2,?_⟩
  have e1:pwB [s0,.sh (fT t),.sh (fT x)]=.ok (.nx,[s0,.sh (fT (ae5 t x)),.sh (fT x)]):=by
   generalize fT (ae5 t x)=R at e ⊢
   generalize fT t=T at *
   generalize fT x=Y at *
   unfold pwB
   simp -dsimp[drs,dr,isS,e]
  rw[List.map_cons]
  unfold abC
  rw[show gN 2 (fT x) [s0,.sh (fT t),s2]=.ok [s0,.sh (fT t),.sh (fT x)]from rfl]
  simp only[Rs.aaJ]
  rw[e1]
  exact e'
theorem agD{xs:List (Int × Int)}(hx:∀x∈xs,Fq 45 x)(hl:xs.length<=12):acM [aaX xs]=.ok (fT (prF xs (1,1)),false):=by
 obtain⟨t2,e⟩:=aoy (.sh (aaX xs)) xs (1,1) 1 .un azq hx (by omega)
 have e1:acU (ad0 (fSq (aah 0)) (gN 2) pwB) [.sh (aaX xs),.sh (fT (1,1)),.un]=.ok (.nx,[.sh (aaX xs),.sh (fT (prF xs (1,1))),t2]):=by
  show abS (abC _ pwB (xs.map fT) _)=_
  rw[e]
  rfl
 show fnP 3 (aaI (abM (eC (.tup [.int 1,.int 1])) (gN 1)) (aaI (acU (ad0 (fSq (aah 0)) (gN 2) pwB)) (abm (aah 1)))) [aaX xs]=_
 have e0:Tr.tup [.int 1,.int 1]=fT (1,1):=rfl
 rw[e0]
 generalize acU _=G at e1 ⊢
 generalize fT (prF xs (1,1))=R at *
 generalize fT (1,1)=Z at *
 generalize aaX xs=Y at *
 unfold fnP
 simp -dsimp[aaD,e1]
noncomputable def Dsc(xs zs:List (Int × Int)):Prop:=zs.Perm xs/\zs.Pairwise λa b=>le2 b a
noncomputable def LT(xs:List (Int × Int)):Prop:=∀x∈xs,1<=x.2/\Int.gcd x.1 x.2=1
theorem alY:∀{l m:List (Int × Int)},LT l->l.Perm m->l.Pairwise (λa b=>le2 b a)->m.Pairwise (λa b=>le2 b a)->l=m
 | [],m,_,p,_,_=>by rw[List.nil_perm.mp p]
 |a::l,[],_,p,_,_=>by simpa using p.length_eq
 |a::l,b::m,hl,p,h1,h2=>by
  have h1':=List.pairwise_cons.mp h1
  have h2':=List.pairwise_cons.mp h2
  have e:a=b:=by
   rcases List.mem_cons.mp (p.mem_iff.mp (List.mem_cons_self ..))with z|z
   ·exact z
   ·rcases List.mem_cons.mp (p.mem_iff.mpr (List.mem_cons_self (a:=b)))with y|y
    ·exact y.symm
    ·have a1:=h1'.1 b y
     have a2:=h2'.1 a z
     have la:=hl a (by simp)
     have lb:=hl b (by simp[y])
     exact alW la.1 lb.1 la.2 lb.2 a2 a1
  subst e
  rw[alY (λx hx=>hl x (by simp[hx])) p.cons_inv h1'.2 h2'.2]
theorem Dsc.uniq{xs l m:List (Int × Int)}(h:LT xs)(a:Dsc xs l)(b:Dsc xs m):l=m:=alY (λx hx=>h x (a.1.mem_iff.mp hx)) (a.1.trans b.1.symm) a.2 b.2
theorem ahZ(xs:List (Int × Int)):(List.range xs.length).map (λi=>xs.getD i (0,1))=xs:=by
 apply List.ext_getElem
 ·simp
 ·intro i h1 h2
  simp[List.getD_eq_getElem?_getD,h2]
theorem Fall.dsc{xs:List (Int × Int)}{ys:List Nat}(h:Fall xs ys):Dsc xs (ys.map λi=>xs.getD i (0,1)):=by
 refine⟨?_,?_⟩
 ·have:=h.1.map λi=>xs.getD i (0,1)
  rw[ahZ]at this
  exact this
 ·rw[List.pairwise_map]
  refine h.2.imp λ{i j} hb=>?_
  unfold Bfr at hb
  unfold le2
  omega
noncomputable def ov(t x:Int × Int):Bool:=lt2 t x
theorem aoz{p:Int × Int->Bool}:∀(xs:List (Int × Int)) (i:Nat) (v:Int × Int),(∀x,xs[i]?=some x->p x=true->p v=true)->xs.countP p<=(xs.set i v).countP p
 | [],i,v,_=>by simp
 |x::xs,0,v,h=>by
  have:=h x (by simp)
  simp only[List.set_cons_zero,List.countP_cons]
  cases e:p x with
  |false=>simp
  |true=>rw[this e]; simp
 |x::xs,i+1,v,h=>by
  have:=aoz xs i v λy hy=>h y (by simpa using hy)
  simp only[List.set_cons_succ,List.countP_cons]
  omega
theorem Dsc.mono{xs zs zs':List (Int × Int)}{i:Nat}{v:Int × Int}(hx:LT xs)(hv:1<=v.2)(hi:∀x,xs[i]?=some x->le2 x v)(a:Dsc xs zs)(b:Dsc (xs.set i v) zs'){k:Nat}{z z':Int × Int}(hz:zs[k]?=some z)(hz':zs'[k]?=some z'):le2 z z':=by
 refine Classical.byContradiction λhn=>?_
 have hx':∀x∈xs.set i v,1<=x.2:=λx m=>by
  rcases List.mem_or_eq_of_mem_set m with m|rfl
  ·exact(hx x m).1
  ·exact hv
 have pz:1<=z.2:=(hx z (a.1.mem_iff.mp (List.mem_of_getElem? hz))).1
 have pz':1<=z'.2:=hx' z' (b.1.mem_iff.mp (List.mem_of_getElem? hz'))
 have hlt:lt2 z' z=true:=by
  cases e:lt2 z' z with
  |true=>rfl
  |false=>exact absurd (afH.mp e) hn
 obtain⟨hk,ek⟩:=List.getElem?_eq_some_iff.mp hz
 obtain⟨hk',ek'⟩:=List.getElem?_eq_some_iff.mp hz'
 have pw:=List.pairwise_iff_getElem.mp a.2
 have pw':=List.pairwise_iff_getElem.mp b.2
 have up:∀x:Int × Int,1<=x.2->le2 z x->lt2 z' x=true:=λx px h=>by
  cases e:lt2 z' x with
  |true=>rfl
  |false=>exact absurd (ahB pz px pz' h (afH.mp e)) hn
 have c1:k+1<=zs.countP (lt2 z'):=by
  rw[<-List.take_append_drop (k+1) zs,List.countP_append]
  have:(zs.take (k+1)).countP (lt2 z')=(zs.take (k+1)).length:=by
   rw[List.countP_eq_length]
   intro x m
   obtain⟨j,hj,rfl⟩:=List.getElem_of_mem m
   rw[List.getElem_take]
   have hj':j<k+1:=by rw[List.length_take]at hj; omega
   have jl:j<zs.length:=by omega
   refine up _ (hx _ (a.1.mem_iff.mp (List.getElem_mem jl))).1 ?_
   by_cases q:j=k
   ·subst q; rw[ek]; exact adu _
   ·have:=pw j k jl hk (by omega)
    rw[ek]at this
    exact this
  rw[this,List.length_take]
  omega
 have c2:zs'.countP (lt2 z')<=k:=by
  rw[<-List.take_append_drop k zs',List.countP_append]
  have:(zs'.drop k).countP (lt2 z')=0:=by
   rw[List.countP_eq_zero]
   intro x m hp
   obtain⟨j,hj,rfl⟩:=List.getElem_of_mem m
   rw[List.getElem_drop]at hp
   have jl:k+j<zs'.length:=by rw[List.length_drop]at hj; omega
   have:le2 zs'[k+j] z':=by
    by_cases q:j=0
    ·subst q
     have:zs'[k+0]=z':=ek'
     rw[this]; exact adu _
    ·have:=pw' k (k+j) hk' jl (by omega)
     rw[ek']at this
     exact this
   rw[afH.mpr this]at hp
   cases hp
  rw[this]
  have:=List.countP_le_length (p:=lt2 z') (l:=zs'.take k)
  rw[List.length_take]at this
  omega
 rw[a.1.countP_eq]at c1
 rw[b.1.countP_eq]at c2
 have:=aoz (p:=lt2 z') xs i v λx hxi hp=>by
  cases e:lt2 z' v with
  |true=>rfl
  |false =>
   have px:=(hx x (List.mem_of_getElem? hxi)).1
   have:=ahB px hv pz' (hi x hxi) (afH.mp e)
   rw[afH.mpr this]at hp
   cases hp
 omega
theorem ajb:∀(ws xs:List (Int × Int)) (i:Nat) (v t t':Int × Int),(∀w∈ws,Fq 45 w)->(∀x∈xs,1<=x.2)->1<=v.2->(∀x,xs[i]?=some x->le2 x v)->1<=t.2->1<=t'.2->le2 t t'->le2 (shF (ws.zip xs) t) (shF (ws.zip (xs.set i v)) t')
 | [],xs,i,v,t,t',_,_,_,_,_,_,h=>by simpa[shF]using h
 |w::ws,[],i,v,t,t',_,_,_,_,_,_,h=>by simpa[shF]using h
 |w::ws,x::xs,i,v,t,t',hw,hx,hv,hi,ht,ht',h=>by
  have fw:=hw w (by simp)
  have px:=hx x (by simp)
  have rp:∀y:Int × Int,1<=y.2->1<=(ae5 w y).2:=λy py=>(ad7 (a:=w.1*y.1) (by have:=Int.mul_pos (a:=w.2) (b:=y.2) (by have:=fw.2.2.1; omega) (by omega); omega)).2.1
  have sp:∀s y:Int × Int,1<=s.2->1<=y.2->1<=(sumF s y).2:=λs y ps py=>(ad7 (a:=s.1*y.2+y.1*s.2) (by have:=Int.mul_pos (a:=s.2) (b:=y.2) (by omega) (by omega); omega)).2.1
  cases i with
  |zero =>
   have lx:=hi x (by simp)
   show le2 (shF (ws.zip xs) (sumF t (ae5 w x))) (shF (ws.zip xs) (sumF t' (ae5 w v)))
   have:=ajb ws xs xs.length v (sumF t (ae5 w x)) (sumF t' (ae5 w v)) (λy hy=>hw y (by simp[hy])) (λy hy=>hx y (by simp[hy])) hv (λy hy=>by simp at hy) (sp _ _ ht (rp x px)) (sp _ _ ht' (rp v hv)) (ak2 ht ht' (rp x px) (rp v hv) h (aow fw.1 fw.2.2.1 px hv lx))
   rw[List.set_eq_of_length_le (by omega)]at this
   exact this
  |succ i =>
   show le2 (shF (ws.zip xs) (sumF t (ae5 w x))) (shF (ws.zip (xs.set i v)) (sumF t' (ae5 w x)))
   exact ajb ws xs i v _ _ (λy hy=>hw y (by simp[hy])) (λy hy=>hx y (by simp[hy])) hv (λy hy=>hi y (by simpa using hy)) (sp _ _ ht (rp x px)) (sp _ _ ht' (rp x px)) (ak2 ht ht' (rp x px) (rp x px) h (adu _))
theorem ajc:∀(xs:List (Int × Int)) (i:Nat) (v t t':Int × Int),(∀x∈xs,1<=x.2/\0<=x.1)->1<=v.2->0<=v.1->(∀x,xs[i]?=some x->le2 x v)->1<=t.2->0<=t.1->1<=t'.2->0<=t'.1->le2 t t'->le2 (prF xs t) (prF (xs.set i v) t')
 | [],i,v,t,t',_,_,_,_,_,_,_,_,h=>by simpa[prF]using h
 |x::xs,i,v,t,t',hx,hv,hv0,hi,ht,ht0,ht',awV,h=>by
  obtain⟨px,px0⟩:=hx x (by simp)
  have rp:∀s y:Int × Int,1<=s.2->0<=s.1->1<=y.2->0<=y.1->1<=(ae5 s y).2/\0<=(ae5 s y).1:=λs y ps ps0 py py0=>by
   have m:=Int.mul_pos (a:=s.2) (b:=y.2) (by omega) (by omega)
   refine⟨(ad7 (a:=s.1*y.1) (by omega)).2.1,?_⟩
   exact Int.ediv_nonneg (Int.mul_nonneg ps0 py0) (by omega)
  cases i with
  |zero =>
   have lx:=hi x (by simp)
   show le2 (prF xs (ae5 t x)) (prF xs (ae5 t' v))
   have a:=rp t x ht ht0 px px0
   have b:=rp t' v ht' awV hv hv0
   have:=ajc xs xs.length v (ae5 t x) (ae5 t' v) (λy hy=>hx y (by simp[hy])) hv hv0 (λy hy=>by simp at hy) a.1 a.2 b.1 b.2 (alX ht0 ht awV ht' px0 hv0 px hv h lx)
   rw[List.set_eq_of_length_le (by omega)]at this
   exact this
  |succ i =>
   have a:=rp t x ht ht0 px px0
   have b:=rp t' x ht' awV px px0
   show le2 (prF xs (ae5 t x)) (prF (xs.set i v) (ae5 t' x))
   exact ajc xs i v _ _ (λy hy=>hx y (by simp[hy])) hv hv0 (λy hy=>hi y (by simpa using hy)) a.1 a.2 b.1 b.2 (alX ht0 ht awV ht' px0 px0 px px h (adu _))
end BH
end
section
namespace BH
open PySem L2
inductive Ru where
 |sh (ws:List (Int × Int))|mid (k:Nat)|least|greatest|product
noncomputable def ruT:Ru->Tr
 |.sh ws=>.tup [.str "shares",aaX ws]
 |.mid k=>.tup [.str "middle",.int k]
 |.least=>.tup [.str "least"]
 |.greatest=>.tup [.str "greatest"]
 |.product=>.tup [.str "product"]
noncomputable def alZ(n:Nat):Ru->Prop
 |.sh ws=>ws.length=n/\∀w∈ws,Fq 45 w
 |.mid k=>1<=k/\k<=n
 |_=>True
theorem sEq(a:Str):gEq (.str a) (.str a)=.ok (.bl true,false):=aqk (T:=.str a) (by rw[aaE]; omega)
theorem sNe{a b:Str}(h:(a == b)=false):gEq (.str a) (.str b)=.ok (.bl false,false):=by
 unfold gEq
 rw[if_pos ⟨by rw[aaE]; omega,by rw[aaE]; omega⟩,aa1,h]
theorem azY{α : Type}{r : α -> Tr}{xs:List α}{ρ τ : En}{rest:List (Option Nat)}{i:IF}{fe:EF}(hl:xs.length<=100000)(hi:i ρ=.ok (xs.map r,ρ))(hτ : abX rest ρ = τ)(hs:∀s',ab3 (none::rest) (s'::τ) ρ = true)(hd:∀s',abv (none::rest) (s'::τ) ρ = ρ)
  (hf:∀x∈xs,∃fr,fe (.sh (r x)::τ)=.ok (.v (.bl true) fr,.sh (r x)::τ)):eCB (g1 acC) (aae (abb (none::rest) i (gN 0) ad3 fe) aar) ρ=.ok (.v (.bl true) false,ρ):=by
 have e:=asJ (h:=λx=>.bl ((λ_ : α=>true) x)) hl hi hτ hs hd hf
 have eg:acC (.lst (xs.map λx=>.bl ((λ_ : α=>true) x)))=.ok (.bl true,false):=by
  unfold acC
  simp only[aom]
  rw[show(xs.map λ_=>true).all id=true by simp]
 generalize abb _ _ _ _ _=G at e ⊢
 generalize Tr.lst (xs.map λx=>.bl ((λ_ : α=>true) x))=T at e eg
 simp[e,eg,drs,dr,g1]
theorem Fq.am0{M:Nat}{x:Int × Int}(h:Fq M x):am0 (fT x)=true:=by
 show(decide (1<=x.2)&&(Int.gcd x.1 x.2 == 1))=true
 simp[h.2.2.1,h.2.2.2.2]
noncomputable def awE:EF:=(ao8 (aas abE (aae (aah 0) aar)) (eOp gGe (eOp gIx (aah 0) (eC (.int 0))) (eC (.int 0))))
theorem ah0{ws:List (Int × Int)}(hw:∀w∈ws,Fq 45 w)(hl:ws.length<=12):adn [aaX ws,.int ws.length]=.ok (.bl true,false):=by
 have e1:=azY (r:=fT) (xs:=ws) (ρ:=[.sh (aaX ws),.sh (.int ws.length)]) (rest:=[]) (i:=fSq (aah 0)) (fe:=awE) (by omega) rfl rfl (λs'=>rfl) (λs'=>rfl) (λw hw'=>⟨false,by
  have h:=hw w hw'
  have e:=abI (fT w)
  rw[h.am0]at e
  have h0:=h.1
  unfold awE
  dsimp only[abX,List.map]
  have g0:gIx (fT w) (.int 0)=.ok (.int w.1,false):=rfl
  generalize fT w=T at *
  simp -dsimp[drs,dr,isS,e,bOf,g0,gGe,gB,h0]⟩)
 have el:abg (aaX ws)=.ok (.int (ws.length:Int),false):=by
  show Rs.ok (Tr.int ((ws.map fT).length:Int),false)=_
  rw[List.length_map]
 have ei:amZ .list (aah 0) [.sh (aaX ws),.sh (.int ws.length)]=.ok (.v (.bl true) false,[.sh (aaX ws),.sh (.int ws.length)]):=by
  simp[aaX,ada,dr,eB]
 have en:=ai8 (T:=.int (ws.length:Int)) (by rw[aaA]; omega)
 show fnP 2 (aaI (sIf (bOr (aie (afS (amZ .list (aah 0)))) (abk (eOp gNe (eCB (g1 abg) (aae (aah 0) aar)) (aah 1)))) (abm (eC (.bl false))) adZ) (abm (eCB (g1 acC) (aae (abb [none] (fSq (aah 0)) (gN 0) ad3 awE) aar)))) [aaX ws,.int ws.length]=_
 generalize eCB (g1 acC) _=G at e1 ⊢
 generalize amZ _ _=G2 at ei ⊢
 generalize aaX ws=T at *
 generalize (ws.length:Int)=N at *
 unfold fnP
 simp -dsimp[aaD,e1,ei,dr,drs,g1,el,en,bOf,tru]
theorem asK{T:Tr}(h:T=.tup [.str "least"]∨T=.tup [.str "greatest"]∨T=.tup [.str "product"]):gIn id T (.tup [(.tup [(.str "least")]),(.tup [(.str "greatest")]),(.tup [(.str "product")])])=.ok (.bl true,false):=by
 rcases h with rfl|rfl|rfl <;> kernel_rfl
theorem ait{r:Ru}{n:Nat}(h:alZ n r)(hn:n<=12):adF [ruT r,.int n]=.ok (.bl true,false):=by
 have bare:∀T:Tr,(T=.tup [.str "least"]∨T=.tup [.str "greatest"]∨T=.tup [.str "product"])→adF [T,.int n]=.ok (.bl true,false):=λT hT=>by
  have e:=asK hT
  have e1:ada T .tuple=true:=by rcases hT with rfl|rfl|rfl <;> rfl
  have e2:abg T=.ok (.int 1,false):=by rcases hT with rfl|rfl|rfl <;> rfl
  have e3:gNe (.int 1) (.int 2)=.ok (.bl true,false):=rfl
  unfold adF aeJ fnP
  simp -dsimp[aaD,eB,e1,e2,e3,e,dr,drs,g1,bOf,tru]
 cases r with
 |least=>exact bare _ (.inl rfl)
 |greatest=>exact bare _ (.inr (.inl rfl))
 |product=>exact bare _ (.inr (.inr rfl))
 |sh ws =>
  obtain⟨h1,h2⟩:=h
  subst h1
  have e:=ah0 h2 hn
  have e2:∀N:Tr,abg (.tup [.str "shares",N])=.ok (.int 2,false):=λ_=>rfl
  have e3:gNe (.int 2) (.int 2)=.ok (.bl false,false):=rfl
  have e4:=sEq "shares"
  show fnP 4 aeJ [.tup [.str "shares",aaX ws],.int ws.length]=_
  unfold aeJ fnP
  generalize aaX ws=T at *
  simp -dsimp[aaD,eB,ada,e2,e3,e4,e,isS,dr,drs,g1,bOf,tru]
 |mid k =>
  obtain⟨h1,h2⟩:=h
  have e2:∀N:Tr,abg (.tup [.str "middle",N])=.ok (.int 2,false):=λ_=>rfl
  have e3:gNe (.int 2) (.int 2)=.ok (.bl false,false):=rfl
  have e4:gEq (.str "middle") (.str "shares")=.ok (.bl false,false):=sNe (by decide +kernel)
  have e5:=sEq "middle"
  have e6:=afm (.int k)
  have q1:(1:Int)<=k:=by omega
  have q2:(k:Int)<=n:=by omega
  unfold adF aeJ fnP ruT
  simp -dsimp[aaD,eB,ada,e2,e3,e4,e5,e6,isW,isS,dr,drs,g1,bOf,tru,gLe,gB,q1,q2]
noncomputable def plc(n:Nat):Ru->Nat
 |.mid k=>k
 |.least=>n
 |.greatest=>1
 |_=>0
noncomputable def Wv(r:Ru)(xs:List (Int × Int))(v:Int × Int):Prop:=match r with
 |.sh ws=>v=shF (ws.zip xs) (0,1)
 |.product=>v=prF xs (1,1)
 |r=>∃zs,Dsc xs zs/\zs[plc xs.length r-1]?=some v
noncomputable def placed:Ru->Bool
 |.mid _=>true
 |.least=>true
 |.greatest=>true
 |_=>false
theorem aoA(r:Ru):∃w:Str,gIx (ruT r) (.int 0)=.ok (.str w,false)∧gEq (.str w) (.str "shares")=.ok (.bl (match r with|.sh _=>true|_=>false),false)∧gEq (.str w) (.str "product")=.ok (.bl (match r with|.product=>true|_=>false),false) ∧
  gEq (.str w) (.str "greatest")=.ok (.bl (match r with|.greatest=>true|_=>false),false)∧gEq (.str w) (.str "least")=.ok (.bl (match r with|.least=>true|_=>false),false)∧gEq (.str w) (.str "middle")=.ok (.bl (match r with|.mid _=>true|_=>false),false):=by
 cases r with
 |sh ws=>exact⟨"shares",rfl,sEq _,sNe (by decide +kernel),sNe (by decide +kernel),sNe (by decide +kernel),sNe (by decide +kernel)⟩
 |mid k=>exact⟨"middle",rfl,sNe (by decide +kernel),sNe (by decide +kernel),sNe (by decide +kernel),sNe (by decide +kernel),sEq _⟩
 |least=>exact⟨"least",rfl,sNe (by decide +kernel),sNe (by decide +kernel),sNe (by decide +kernel),sEq _,sNe (by decide +kernel)⟩
 |greatest=>exact⟨"greatest",rfl,sNe (by decide +kernel),sNe (by decide +kernel),sEq _,sNe (by decide +kernel),sNe (by decide +kernel)⟩
 |product=>exact⟨"product",rfl,sNe (by decide +kernel),sEq _,sNe (by decide +kernel),sNe (by decide +kernel),sNe (by decide +kernel)⟩
theorem ak4{r:Ru}{n:Nat}(h:placed r=true):acW [ruT r,.int n]=.ok (.int (plc n r:Nat),false):=by
 obtain⟨w,e1,_,_,e2,e3,_⟩:=aoA r
 cases r with
 |sh ws=>cases h
 |product=>cases h
 |least =>
  unfold acW aeY fnP plc
  generalize ruT .least=T at *
  simp -dsimp[aaD,dr,e1,e2,e3,bOf]
 |greatest =>
  unfold acW aeY fnP plc
  generalize ruT .greatest=T at *
  simp -dsimp[aaD,dr,e1,e2,e3,bOf]
 |mid k =>
  have e4:gIx (ruT (.mid k)) (.int 1)=.ok (.int k,false):=rfl
  unfold acW aeY fnP plc
  generalize ruT (.mid k)=T at *
  simp -dsimp[aaD,dr,e1,e2,e3,e4,bOf]
theorem asL{r:Ru}{n:Nat}(h:placed r=true)(ho:alZ n r)(hn:1<=n):1<=plc n r/\plc n r<=n:=by
 cases r with
 |sh ws=>cases h
 |product=>cases h
 |least=>exact⟨hn,Nat.le_refl _⟩
 |greatest=>exact⟨Nat.le_refl _,hn⟩
 |mid k=>exact ho
theorem ahD{r:Ru}{xs:List (Int × Int)}(hx:∀x∈xs,Wo x)(h1:1<=xs.length)(h2:xs.length<=12)(ho:alZ xs.length r):∃v,abz [ruT r,aaX xs]=.ok (fT v,false)/\Wv r xs v:=by
 have hq:∀x∈xs,Fq 45 x:=λx m=>(hx x m).fq
 obtain⟨w,e1,e2,e3,_⟩:=aoA r
 have pl:placed r=true->∃v,abz [ruT r,aaX xs]=.ok (fT v,false)/\∃zs,Dsc xs zs/\zs[plc xs.length r-1]?=some v:=λhp=>by
  obtain⟨ys,ef,hf⟩:=agb (N:=40) xs (Wo.frs hx) (by omega) (by omega) (by omega)
  have pr:=asL hp ho h1
  have ep:=ak4 (n:=xs.length) hp
  have ly:ys.length=xs.length:=by have:=hf.1.length_eq; simpa using this
  obtain⟨i,hi⟩:∃i,ys[plc xs.length r-1]?=some i:=⟨_,List.getElem?_eq_getElem (by omega)⟩
  have il:i<xs.length:=by simpa using hf.1.mem_iff.mp (List.mem_of_getElem? hi)
  refine⟨xs.getD i (0,1),?_,_,hf.dsc,by rw[List.getElem?_map,hi]; rfl⟩
  have gg1:gIx (.lst (ys.map λi:Nat=>Tr.int i)) (.int ((plc xs.length r-1:Nat):Int))=.ok (.int (i:Int),false):=acP (by rw[List.getElem?_map,hi]; rfl)
  have g2:=alU il
  have el:abg (aaX xs)=.ok (.int (xs.length:Int),false):=by
   show Rs.ok (Tr.int ((xs.map fT).length:Int),false)=_
   rw[List.length_map]
  have sub:((plc xs.length r:Nat):Int)-1=((plc xs.length r-1:Nat):Int):=by omega
  have ef':aaO [aaX xs]=.ok (.lst (ys.map λi:Nat=>Tr.int i),true):=ef
  have e2:gEq (.str w) (.str "shares")=.ok (.bl false,false):=by cases r <;> first|exact e2|cases hp
  have e3:gEq (.str w) (.str "product")=.ok (.bl false,false):=by cases r <;> first|exact e3|cases hp
  unfold abz aeZ fnP
  generalize fT (xs.getD i (0,1))=R at *
  generalize Tr.lst (ys.map λi:Nat=>Tr.int i)=Y at *
  generalize ruT r=T at *
  generalize aaX xs=X at *
  rw[<-sub]at gg1
  simp -dsimp[aaD,dr,drs,isS,e1,e2,e3,bOf,ef',el,ep,g1,acS,gI,gg1,g2]
 cases r with
 |sh ws =>
  have es:=ahC ho.2 hq h2
  refine⟨_,?_,rfl⟩
  have e4:gIx (ruT (.sh ws)) (.int 1)=.ok (aaX ws,false):=rfl
  unfold abz aeZ fnP
  generalize ruT (.sh ws)=T at *
  generalize fT (shF (ws.zip xs) (0,1))=R at *
  generalize aaX ws=W at *
  generalize aaX xs=X at *
  simp -dsimp[aaD,dr,drs,isS,e1,e2,bOf,e4,es]
 |product =>
  have es:=agD hq h2
  refine⟨_,?_,rfl⟩
  unfold abz aeZ fnP
  generalize ruT .product=T at *
  generalize fT (prF xs (1,1))=R at *
  generalize aaX xs=X at *
  simp -dsimp[aaD,dr,drs,isS,e1,e2,e3,bOf,es]
 |least=>exact pl rfl
 |greatest=>exact pl rfl
 |mid k=>exact pl rfl
theorem awW{xs:List (Int × Int)}(hx:∀x∈xs,Wo x):LT xs:=λx m=>⟨(hx x m).2.2.1,(hx x m).2.2.2.2⟩
theorem Wv.uniq{r:Ru}{xs:List (Int × Int)}{v v':Int × Int}(hx:∀x∈xs,Wo x)(a:Wv r xs v)(b:Wv r xs v'):v=v':=by
 cases r with
 |sh ws=>exact a.trans b.symm
 |product=>exact a.trans b.symm
 |least =>
  obtain⟨z,d,e⟩:=a
  obtain⟨z',d',e'⟩:=b
  rw[d.uniq (awW hx) d',e']at e
  exact(Option.some.inj e).symm
 |greatest =>
  obtain⟨z,d,e⟩:=a
  obtain⟨z',d',e'⟩:=b
  rw[d.uniq (awW hx) d',e']at e
  exact(Option.some.inj e).symm
 |mid k =>
  obtain⟨z,d,e⟩:=a
  obtain⟨z',d',e'⟩:=b
  rw[d.uniq (awW hx) d',e']at e
  exact(Option.some.inj e).symm
theorem Fq.up{M N:Nat}{x:Int × Int}(h:Fq M x)(hl:M<=N):Fq N x:=by
 obtain⟨h1,h2,h3,h4,h5⟩:=h
 have:(2:Int) ^ M<=2 ^ N:=by
  have:=Nat.pow_le_pow_right (n:=2) (by omega) hl
  have a:=am2 M
  have b:=am2 N
  omega
 exact⟨h1,by omega,h3,by omega,h5⟩
theorem Wv.fq{r:Ru}{xs:List (Int × Int)}{v:Int × Int}(hx:∀x∈xs,Wo x)(hl:xs.length<=4)(ho:alZ xs.length r)(a:Wv r xs v):Fq 400 v:=by
 have hq:∀x∈xs,Fq 45 x:=λx m=>(hx x m).fq
 have pl:(∃zs,Dsc xs zs/\zs[plc xs.length r-1]?=some v)->Fq 400 v:=λ⟨z,d,e⟩=>(hq v (d.1.mem_iff.mp (List.mem_of_getElem? e))).up (by omega)
 cases r with
 |sh ws =>
  have a:v=shF (ws.zip xs) (0,1):=a
  rw[a]
  exact(aq2 _ _ 1 azp (aq4 ho.2 hq)).up (by rw[List.length_zip]; omega)
 |product =>
  have a:v=prF xs (1,1):=a
  rw[a]
  exact(aq3 _ _ 1 azq hq).up (by omega)
 |least=>exact pl a
 |greatest=>exact pl a
 |mid k=>exact pl a
theorem Wv.mono{r:Ru}{xs:List (Int × Int)}{i:Nat}{u v v':Int × Int}(hx:∀x∈xs,Wo x)(hu:Wo u)(hi:∀x,xs[i]?=some x->le2 x u)(ho:alZ xs.length r)(a:Wv r xs v)(b:Wv r (xs.set i u) v'):le2 v v':=by
 have pl:(∃zs,Dsc xs zs/\zs[plc xs.length r-1]?=some v)->(∃zs,Dsc (xs.set i u) zs/\zs[plc (xs.set i u).length r-1]?=some v')->le2 v v':=λ⟨z,d,e⟩ ⟨z',d',e'⟩=>by
  rw[List.length_set]at e'
  exact d.mono (awW hx) hu.2.2.1 hi d' e e'
 cases r with
 |sh ws =>
  have a:v=shF (ws.zip xs) (0,1):=a
  have b:v'=shF (ws.zip (xs.set i u)) (0,1):=b
  rw[a,b]
  exact ajb ws xs i u _ _ ho.2 (λx m=>(hx x m).2.2.1) hu.2.2.1 hi (by decide) (by decide) (adu _)
 |product =>
  have a:v=prF xs (1,1):=a
  have b:v'=prF (xs.set i u) (1,1):=b
  rw[a,b]
  exact ajc xs i u _ _ (λx m=>⟨(hx x m).2.2.1,(hx x m).1⟩) hu.2.2.1 hu.1 hi (by decide) (by decide) (by decide) (by decide) (adu _)
 |least=>exact pl a b
 |greatest=>exact pl a b
 |mid k=>exact pl a b
end BH
end
section
namespace L2
open PySem
@[simp] theorem ayp(d:Str)(fa:EF)(ρ : En):azS d fa ρ = bd (fa ρ) (λp=>bd (dr p.2 p.1) (λa=>match isc a d with
 |some b=>.ok (eB b,p.2)
 |none=>.bad) .mk) .mk:=rfl
@[simp] theorem ayq(fa:EF)(ρ : En):azT fa ρ = bd (fa ρ) (λp=>bd (dr p.2 p.1) (λa=>match isv a with
 |some b=>.ok (eB b,p.2)
 |none=>.bad) .mk) .mk:=rfl
@[simp] theorem avK(c:Str)(f:EF)(ρ : En):aik c f ρ = bd (f ρ) (λ_=>.ex c) .mk:=rfl
end L2
namespace BH
open PySem L2
theorem al0(t:Nat):∀ys:List Nat,apq (.int t) (ys.map λi:Nat=>Tr.int i)=ys.any (· == t)
 | []=>rfl
 |y::ys=>by
  have:=al0 t ys
  unfold apq at *
  rw[List.map_cons,List.any_cons,this,List.any_cons,aaU]
  congr 1
  rw[Bool.eq_iff_iff]
  simp
  omega
theorem al1(t:Nat)(ys:List Nat):gIn not (.int t) (nT ys)=.ok (.bl (!(ys.any (· == t))),false):=by
 show(if deps (ys.map λi:Nat=>Tr.int i)<=40/\dep (.int t)<=40 then Rs.ok (Tr.bl (!(apq (.int t) (ys.map λi:Nat=>Tr.int i))),false)else .bad)=_
 rw[aj1,aaA,if_pos (by omega),al0]
noncomputable def rst(ys zs:List Nat):List Nat:=ys.filter λt=>!(zs.any (· == t))
noncomputable def lyB:SF:=(aaI (abM (aas abF (aae (aah 0) (aae (aah 2) aar))) (gN 3)) (aaI (ac3 (eMt 1 aij (aae (aah 3) aar))) (abM (abb [none,some 3] (fSq (aah 2)) (gN 0) (abk (eOp (gIn not) (aah 0) (aah 1))) (aah 0)) (gN 2))))
theorem avL{c:Nat}{ls:List (List (Int × Int))}(h:Shp c ls)(hl:ls.length<=4){ys:List Nat}(hy:∀i∈ys,i<c)(h2:ys.length<=1000){us:List Tr}(hu:us.length<=1000)(s3:Sl) :
  lyB [.sh (bkT ls),.ow us,.sh (nT ys),s3]=.ok (.nx,[.sh (bkT ls),.ow (us++[nT (acg ls ys)]),.sh (nT (rst ys (acg ls ys))),.sh (nT (acg ls ys))]):=by
 have e1:=afb h hl hy h2
 have e2:=aql (r:=λi:Nat=>Tr.int i) (p:=λt=>!((acg ls ys).any (· == t))) (xs:=ys) (ρ:=[.sh (bkT ls),.ow (us++[nT (acg ls ys)]),.sh (nT ys),.sh (nT (acg ls ys))]) (rest:=[some 3]) (i:=fSq (aah 2)) (c:=(abk (eOp (gIn not) (aah 0) (aah 1)))) (by omega) rfl rfl (λs'=>rfl) (λs'=>rfl) (λt _=>by
  have:=al1 t (acg ls ys)
  dsimp only[abX,List.map]
  generalize nT (acg ls ys)=U at this ⊢
  simp -dsimp[acT,dr,this,bOf])
 have e3:Tr.lst ((ys.filter λt=>!((acg ls ys).any (· == t))).map λi:Nat=>Tr.int i)=nT (rst ys (acg ls ys)):=rfl
 rw[e3]at e2
 have em:aij us [nT (acg ls ys)]=.ok (us++[nT (acg ls ys)],.non):=by
  show(if us.length<=100000 then Rs.ok (us++[nT (acg ls ys)],Tr.non)else .bad)=_
  rw[if_pos (by omega)]
 unfold lyB
 generalize abb _ _ _ _ _=G at e2 ⊢
 generalize nT (acg ls ys)=U at *
 generalize nT (rst ys (acg ls ys))=R at *
 generalize nT ys=Y at *
 generalize bkT ls=T at *
 simp -dsimp[drs,dr,isS,e1,con,cls,em,abr,e2]
theorem aoB(ls:List (List (Int × Int)))(i:Nat):bt ls i i=false:=by
 unfold bt lt2
 simp
theorem al2{c:Nat}{ls:List (List (Int × Int))}(h:Shp c ls){i j k:Nat}(hi:i<c)(hj:j<c)(hk:k<c)(a:bt ls i j=true)(b:bt ls j k=true):bt ls i k=true:=by
 unfold bt at *
 rw[Bool.and_eq_true,Bool.not_eq_true',List.any_eq_false,List.any_eq_true]at *
 obtain⟨a1,l,al,a2⟩:=a
 obtain⟨b1,_⟩:=b
 have pos:∀l∈ls,∀i,i<c->1<=(at2 l i).2:=λl m i hi=>((h l m).2 _ (by unfold at2; simp[(h l m).1,hi])).2.2.1
 have key:∀l∈ls,∀x y z:Nat,x<c->y<c->z<c->(at2 l y).1*(at2 l x).2<=(at2 l x).1*(at2 l y).2->(at2 l z).1*(at2 l y).2<=(at2 l y).1*(at2 l z).2->(at2 l z).1*(at2 l x).2<=(at2 l x).1*(at2 l z).2:=λl m x y z hx hy hz p q=>by
  have px:=pos l m x hx
  have py:=pos l m y hy
  have pz:=pos l m z hz
  refine Int.le_of_mul_le_mul_right (show(at2 l z).1*(at2 l x).2*(at2 l y).2<=(at2 l x).1*(at2 l z).2*(at2 l y).2 from ?_) (by omega)
  have x1:=Int.mul_le_mul_of_nonneg_right q (show 0<=(at2 l x).2 by omega)
  have x2:=Int.mul_le_mul_of_nonneg_right p (show 0<=(at2 l z).2 by omega)
  calc (at2 l z).1*(at2 l x).2*(at2 l y).2=(at2 l z).1*(at2 l y).2*(at2 l x).2:=by ac_rfl
   _<=(at2 l y).1*(at2 l z).2*(at2 l x).2:=x1
   _=(at2 l y).1*(at2 l x).2*(at2 l z).2:=by ac_rfl
   _<=(at2 l x).1*(at2 l y).2*(at2 l z).2:=x2
   _=(at2 l x).1*(at2 l z).2*(at2 l y).2:=by ac_rfl
 have A:∀l∈ls,(at2 l j).1*(at2 l i).2<=(at2 l i).1*(at2 l j).2:=λl m=>by
  have:=a1 l m
  unfold lt2 at this
  simpa using this
 have B:∀l∈ls,(at2 l k).1*(at2 l j).2<=(at2 l j).1*(at2 l k).2:=λl m=>by
  have:=b1 l m
  unfold lt2 at this
  simpa using this
 refine⟨λl m=>?_,l,al,?_⟩
 ·have:=key l m i j k hi hj hk (A l m) (B l m)
  unfold lt2
  simpa using this
 ·unfold lt2 at a2 ⊢
  rw[decide_eq_true_eq]at a2 ⊢
  have px:=pos l al i hi
  have py:=pos l al j hj
  have pz:=pos l al k hk
  refine Int.lt_of_mul_lt_mul_right (show(at2 l k).1*(at2 l i).2*(at2 l j).2<(at2 l i).1*(at2 l k).2*(at2 l j).2 from ?_) (by omega)
  have x1:=Int.mul_le_mul_of_nonneg_right (B l al) (show 0<=(at2 l i).2 by omega)
  have x2:=Int.mul_lt_mul_of_pos_right a2 (show 0<(at2 l k).2 by omega)
  calc (at2 l k).1*(at2 l i).2*(at2 l j).2=(at2 l k).1*(at2 l j).2*(at2 l i).2:=by ac_rfl
   _<=(at2 l j).1*(at2 l k).2*(at2 l i).2:=x1
   _=(at2 l j).1*(at2 l i).2*(at2 l k).2:=by ac_rfl
   _<(at2 l i).1*(at2 l j).2*(at2 l k).2:=x2
   _=(at2 l i).1*(at2 l k).2*(at2 l j).2:=by ac_rfl
theorem aoC{c:Nat}{ls:List (List (Int × Int))}(h:Shp c ls):∀{ys:List Nat},(∀i∈ys,i<c)->ys≠[]->∃t∈ys,∀o∈ys,bt ls o t=false
 | [],_,n=>absurd rfl n
 | [a],_,_=>⟨a,by simp,λo m=>by rw[List.mem_singleton.mp m]; exact aoB ls a⟩
 |a::b::l,hy,_=>by
  obtain⟨t,mt,ht⟩:=aoC h (ys:=b::l) (λi m=>hy i (List.mem_cons_of_mem _ m)) (by simp)
  cases e:bt ls a t with
  |false =>
   refine⟨t,List.mem_cons_of_mem _ mt,λo m=>?_⟩
   rcases List.mem_cons.mp m with rfl|m
   ·exact e
   ·exact ht o m
  |true =>
   refine⟨a,List.mem_cons_self ..,λo m=>?_⟩
   rcases List.mem_cons.mp m with rfl|m
   ·exact aoB ls o
   ·cases z:bt ls o a with
    |false=>rfl
    |true =>
     have:=al2 h (hy o (List.mem_cons_of_mem _ m)) (hy a (by simp)) (hy t (List.mem_cons_of_mem _ mt)) z e
     rw[ht o m]at this
     cases this
theorem aew{ls:List (List (Int × Int))}{ys:List Nat}{t:Nat}(h:t∈acg ls ys):t∈ys:=(List.mem_filter.mp h).1
theorem asM{c:Nat}{ls:List (List (Int × Int))}(h:Shp c ls){ys:List Nat}(hy:∀i∈ys,i<c)(n:ys≠[]):acg ls ys≠[]:=by
 obtain⟨t,m,ht⟩:=aoC h hy n
 intro z
 have:t∈acg ls ys:=List.mem_filter.mpr ⟨m,by
  rw[Bool.not_eq_true',List.any_eq_false]
  intro o mo
  rw[ht o mo]
  simp⟩
 rw[z]at this
 cases this
theorem aq5{c:Nat}{ls:List (List (Int × Int))}(h:Shp c ls){ys:List Nat}(hy:∀i∈ys,i<c)(n:ys≠[]):(rst ys (acg ls ys)).length<ys.length:=by
 obtain⟨t,m⟩:=List.exists_mem_of_ne_nil _ (asM h hy n)
 unfold rst
 refine List.length_filter_lt_length_iff_exists.mpr ⟨t,aew m,?_⟩
 have:(acg ls ys).any (· == t)=true:=List.any_eq_true.mpr ⟨t,m,by simp⟩
 rw[this]
 simp
noncomputable def lays(ls:List (List (Int × Int))):Nat->List Nat->List (List Nat)
 | 0,_=>[]
 |n+1,ys=>if ys=[]then []else acg ls ys::lays ls n (rst ys (acg ls ys))
theorem aoD{c:Nat}{ls:List (List (Int × Int))}(h:Shp c ls)(hl:ls.length<=4):∀(n:Nat) (ys:List Nat) (us:List Tr) (s3:Sl),(∀i∈ys,i<c)->ys.length<n->us.length+n<=900->n<=900 ->
  ∃t3,aeF (afS (aah 2)) lyB n [.sh (bkT ls),.ow us,.sh (nT ys),s3]=.ok (.nx,[.sh (bkT ls),.ow (us++(lays ls n ys).map nT),.sh (nT []),t3])
 | 0,ys,us,s3,hy,hn,hu,_=>by omega
 |n+1,ys,us,s3,hy,hn,hu,hm=>by
  have ec:afS (aah 2) [.sh (bkT ls),.ow us,.sh (nT ys),s3]=.ok (!ys.isEmpty,[.sh (bkT ls),.ow us,.sh (nT ys),s3]):=by
   show Rs.ok (!(ys.map λi:Nat=>Tr.int i).isEmpty,_)=_
   rw[List.isEmpty_map]
  unfold aeF lays
  rw[ec]
  by_cases z:ys=[]
  ·subst z
   exact⟨s3,by simp⟩
  ·have e:=avL h hl hy (by omega) (us:=us) (by omega) s3
   have lt:=aq5 h hy z
   obtain⟨t3,e'⟩:=aoD h hl n (rst ys (acg ls ys)) (us++[nT (acg ls ys)]) (.sh (nT (acg ls ys))) (λi m=>hy i (List.mem_filter.mp m).1) (by omega) (by rw[List.length_append,List.length_singleton]; omega) (by omega)
   refine⟨t3,?_⟩
   have ze:ys.isEmpty=false:=by cases ys with
    |nil=>exact absurd rfl z
    |cons a b=>rfl
   rw[ze,if_neg z]
   simp only[Rs.aaJ,Bool.not_false,if_true]
   rw[e]
   simp only[Rs.aaJ]
   rw[e',List.map_cons,List.append_assoc]
   rfl
theorem aoE{c:Nat}{ls:List (List (Int × Int))}(h:Bk c ls):acf [bkT ls]=.ok (.lst ((lays ls (c+1) (List.range c)).map nT),true):=by
 obtain⟨h1,h2,h3,h4,h5⟩:=id h
 have e1:=adW h.alS
 obtain⟨t3,e2⟩:=aoD h5 h2 (c+1) (List.range c) [] .un (λi hi=>by simpa using hi) (by simp) (by simp; omega) (by omega)
 obtain⟨l,hl⟩:∃l,ls[0]?=some l:=⟨_,List.getElem?_eq_getElem (by omega)⟩
 have e3:gIx (bkT ls) (.int 0)=.ok (aaX l,false):=acP (i:=0) (by rw[List.getElem?_map,hl]; rfl)
 have e4:abg (aaX l)=.ok (.int (c:Int),false):=by
  show Rs.ok (Tr.int ((l.map fT).length:Int),false)=_
  rw[List.length_map,(h5 l (List.mem_of_getElem? hl)).1]
 have q:(c:Int)<=1000:=by omega
 have ew:acU (adf (fuL 2) (afS (aah 2)) lyB) [.sh (bkT ls),.ow [],.sh (nT (List.range c)),.un]=.ok (.nx,[.sh (bkT ls),.ow ((lays ls (c+1) (List.range c)).map nT),.sh (nT []),t3]):=by
  unfold acU adf
  rw[show fuL 2 [.sh (bkT ls),.ow [],.sh (nT (List.range c)),.un]=((List.range c).map λi:Nat=>Tr.int i).length+1 from rfl,List.length_map,List.length_range,e2]
  rfl
 have en:Tr.lst ((List.range c).map λi:Nat=>Tr.int i)=nT (List.range c):=rfl
 show fnP 4 (aaI (ac3 (aas abH (aae (aah 0) aar))) (aaI (aii 1 (ae9 aar)) (aaI (abM (eLR (aae (eCB (g1 abg) (aae (eOp gIx (aah 0) (eC (.int 0))) aar)) aar)) (gN 2)) (aaI (acU (adf (fuL 2) (afS (aah 2)) lyB)) (abm (aah 1)))))) [bkT ls]=_
 generalize acU _=G at ew ⊢
 generalize (lays ls (c+1) (List.range c)).map nT=R at *
 generalize nT []=Z at *
 generalize bkT ls=T at *
 generalize aaX l=T2 at *
 unfold fnP
 simp -dsimp[aaD,drs,dr,isS,cls,e1,e3,e4,g1,q,en]
 generalize nT (List.range c)=Y at *
 simp -dsimp[ew]
end BH
end
section
namespace BH
open PySem L2
theorem aq6(L:List Tr)(k:Nat):gSl none (some (k:Int)) (.lst L)=.ok (.lst (L.take k),true):=by
 show Rs.ok (Tr.lst (L2.cut L none (some (k:Int))),true)=_
 rw[aoj]
theorem aq7{A B:List Tr}(h:A.length+B.length<=100000):abf (.lst A) (.lst B)=.ok (.lst (A++B),true):=by
 show(if A.length+B.length<=100000 then Rs.ok (Tr.lst (A++B),true)else .bad)=_
 rw[if_pos h]
end BH
end
section
namespace K97
open PySem L2 BH
theorem avM{c:Nat}{ls:List (List (Int × Int))}(h:Shp c ls){ys:List Nat}(hy:∀i∈ys,i<c){t:Nat}(mt:t∈ys)(nt:t∉acg ls ys):∃o∈acg ls ys,bt ls o t=true:=by
 have⟨o,mo,ho⟩:∃o∈ys,bt ls o t=true:=by
  cases e:ys.any λo=>bt ls o t with
  |true=>exact List.any_eq_true.mp e
  |false=>exact absurd (List.mem_filter.mpr ⟨mt,by rw[e]; rfl⟩) nt
 have mo':o∈ys.filter λs=>bt ls s t:=List.mem_filter.mpr ⟨mo,ho⟩
 obtain⟨u,mu,hu⟩:=aoC h (ys:=ys.filter λs=>bt ls s t) (λi m=>hy i (List.mem_filter.mp m).1) (List.ne_nil_of_mem mo')
 have⟨m1,m2⟩:=List.mem_filter.mp mu
 refine⟨u,List.mem_filter.mpr ⟨m1,?_⟩,m2⟩
 rw[Bool.not_eq_true',List.any_eq_false]
 intro s ms z
 have:=hu s (List.mem_filter.mpr ⟨ms,al2 h (hy s ms) (hy u m1) (hy t mt) z m2⟩)
 rw[this]at z
 cases z
theorem aj2{p q:Nat->Bool}:∀ys:List Nat,(ys.filter p).length=((ys.filter q).filter p).length+((ys.filter λt=>!(q t)).filter p).length
 | []=>rfl
 |a::l=>by
  have:=aj2 (p:=p) (q:=q) l
  cases e1:p a <;> cases e2:q a <;> simp[List.filter_cons,e1,e2]at this ⊢ <;> omega
theorem deep{c:Nat}{ls:List (List (Int × Int))}(h:Shp c ls)(t:Nat):∀(k n:Nat) (ys:List Nat),(∀i∈ys,i<c)->ys.length<n->t∈ys->t∉((lays ls n ys).take k).flatten->k<=(ys.filter λs=>bt ls s t).length
 | 0,_,_,_,_,_,_=>Nat.zero_le _
 |_+1,0,_,_,hn,_,_=>absurd hn (Nat.not_lt_zero _)
 |k+1,n+1,ys,hy,hn,mt,nt=>by
  have hne:ys≠[]:=List.ne_nil_of_mem mt
  have el:lays ls (n+1) ys=acg ls ys::lays ls n (rst ys (acg ls ys)):=by
   show(if ys=[]then []else _)=_
   rw[if_neg hne]
  rw[el,List.take_succ_cons,List.flatten_cons,List.mem_append]at nt
  have n1:t∉acg ls ys:=λz=>nt (.inl z)
  have n2:=λz=>nt (.inr z)
  have hr:∀i∈rst ys (acg ls ys),i∈ys:=λi m=>(List.mem_filter.mp m).1
  have mr:t∈rst ys (acg ls ys):=List.mem_filter.mpr ⟨mt,by
   rw[Bool.not_eq_true',List.any_eq_false]
   intro o mo z
   exact n1 ((beq_iff_eq.mp z)▸mo)⟩
  have ih:=deep h t k n (rst ys (acg ls ys)) (λi m=>hy i (hr i m)) (by have:=aq5 h hy hne; omega) mr n2
  obtain⟨o,mo,ho⟩:=avM h hy mt n1
  have sp:=aj2 (p:=λs=>bt ls s t) (q:=λs=>(acg ls ys).any (· == s)) ys
  have:0<((ys.filter λs=>(acg ls ys).any (· == s)).filter λs=>bt ls s t).length:=List.length_pos_of_mem (a:=o) (List.mem_filter.mpr ⟨List.mem_filter.mpr ⟨aew mo,List.any_eq_true.mpr ⟨o,mo,by simp⟩⟩,ho⟩)
  have e2:(ys.filter λs=>!((acg ls ys).any (· == s)))=rst ys (acg ls ys):=rfl
  rw[e2]at sp
  omega
theorem firsts{c:Nat}{ls:List (List (Int × Int))}(h:Shp c ls){ord:List Nat}(hp:ord.Perm (List.range c))(ho:ord.Pairwise λa b=>bt ls b a=false){k:Nat}{t:Nat}(mt:t∈ord.take k):t∈((lays ls (c+1) (List.range c)).take k).flatten:=by
 apply Classical.byContradiction
 intro nt
 obtain⟨p,hp1,hp2⟩:=List.mem_iff_getElem.mp mt
 have hpk:p<k/\p<ord.length:=by
  rw[List.length_take]at hp1
  omega
 have et:ord[p]=t:=by rw[<-hp2,List.getElem_take]
 have d:=deep h t k (c+1) (List.range c) (λi m=>List.mem_range.mp m) (by rw[List.length_range]; omega) (hp.mem_iff.mp (List.mem_of_mem_take mt)) nt
 have e1:=(hp.filter λs=>bt ls s t).length_eq
 have e2:(ord.drop p).filter (λs=>bt ls s t)=[]:=by
  rw[List.filter_eq_nil_iff]
  intro s ms z
  rw[List.drop_eq_getElem_cons hpk.2,et]at ms
  rcases List.mem_cons.mp ms with rfl|ms
  ·rw[aoB]at z
   cases z
  ·obtain⟨q,hq1,hq2⟩:=List.mem_iff_getElem.mp ms
   have hq:p+1+q<ord.length:=by
    rw[List.length_drop]at hq1
    omega
   rw[List.getElem_drop]at hq2
   have:=List.pairwise_iff_getElem.mp ho p (p+1+q) hpk.2 hq (by omega)
   rw[et,hq2,z]at this
   cases this
 have e3:(ord.filter λs=>bt ls s t).length<=p:=by
  have:=congrArg (λl:List Nat=>(l.filter λs=>bt ls s t).length) (List.take_append_drop p ord)
  simp only[List.filter_append,e2,List.append_nil]at this
  rw[<-this]
  exact Nat.le_trans (List.length_filter_le ..) (by rw[List.length_take]; omega)
 omega
theorem lay0{c:Nat}{ls:List (List (Int × Int))}(hc:0<c):(lays ls (c+1) (List.range c))=acg ls (List.range c)::lays ls c (rst (List.range c) (acg ls (List.range c))):=by
 show(if List.range c=[]then []else _)=_
 rw[if_neg (by cases c with|zero=>exact absurd hc (by omega)|succ n=>rw[List.range_succ]; simp)]
end K97
end
section
namespace K97
open PySem L2 BH
@[simp] theorem aoF(src:List (Option Nat))(n:Nat)(g:GF)(c:BF)(f:EF)(ρ : En):ain src n g c f ρ = bd (con ρ n) (λus=>if us.length<=100000 then bd (abS (ad2 g c f us (abX src ρ))) (λz=>if ab3 src z.2 ρ = true then .ok (.v (.lst z.1) true,abv src z.2 ρ)else .bad) .mk else .bad) .mk:=rfl
theorem avN{α : Type}{r : α -> Tr}{p : α -> Bool}{xs:List α}{ρ τ : En}{rest:List (Option Nat)}{n:Nat}{c:BF}(hl:xs.length<=100000)(hi:con ρ n=.ok (xs.map r))(hτ : abX rest ρ = τ)(hs:∀s',ab3 (none::rest) (s'::τ) ρ = true)(hd:∀s',abv (none::rest) (s'::τ) ρ = ρ)
  (hf:∀x∈xs,c (.sh (r x)::τ)=.ok (p x,.sh (r x)::τ)):ain (none::rest) n (gN 0) c (aah 0) ρ=.ok (.v (.lst ((xs.filter p).map r)) true,ρ):=by
 obtain⟨s',e⟩:=agc xs .un hf
 have hu:abX (none::rest) ρ=.un::τ := by rw[<-hτ]; rfl
 have hl':(xs.map r).length<=100000:=by rw[List.length_map]; exact hl
 rw[aoF,hi]
 simp only[akW]
 rw[if_pos hl',hu,e]
 simp only[abS,akW]
 rw[if_pos (hs s'),hd s']
theorem avO{M:Nat}{x y:Int × Int}(hM:M<=8000)(hx:Fq M x)(hy:Fq M y):ais [fT x,fT y]=.ok (.bl (lt2 x y),false):=by
 obtain⟨x1,x2,x3,x4,_⟩:=hx
 obtain⟨y1,y2,y3,y4,_⟩:=hy
 have nM:=am2 M
 have c1:agw x.1 y.2=true:=adL (M:=M) (N:=M) (by omega) (by omega) (by omega) (by omega)
 have c2:agw y.1 x.2=true:=adL (M:=M) (N:=M) (by omega) (by omega) (by omega) (by omega)
 unfold ais aqY fnP fT
 simp -dsimp[abS,frz,dow,abr,con,ac0,eB,bOf,tru,dr,drs,cls,clV,adl,g1,g2,gI,gIC,gB,gEq,gNe,gIn,abf,ab2,acQ,acK,acR,acS,gLt,gGt,gLe,gGe,gIx,abg,adE,abL,aa4,adw,ad8,acC,acD,okR,iOf,isS,others,abX,abv,ab3,acV,acT,aaA,aa5,aaE,aaK,aaH,aaL,aax,aav,aaU,aa6,aa1,ada,atI,ixN,aaD,c1,c2,lt2]
theorem pref{α : Type}{p : α -> Bool}:∀zs:List α,zs.Pairwise (λa b=>p b=true->p a=true)->(∀a∈zs.take (zs.filter p).length,p a=true)/\∀b∈zs.drop (zs.filter p).length,p b=false
 | [],_=>⟨λ_ h=>by simp at h,λ_ h=>by simp at h⟩
 |a::l,h=>by
  obtain⟨h1,h2⟩:=List.pairwise_cons.mp h
  obtain⟨i1,i2⟩:=pref l h2
  cases e:p a with
  |true =>
   rw[List.filter_cons_of_pos e,List.length_cons,List.take_succ_cons,List.drop_succ_cons]
   refine⟨λb hb=>?_,i2⟩
   rcases List.mem_cons.mp hb with rfl|hb
   ·exact e
   ·exact i1 b hb
  |false =>
   have hf:∀b∈l,p b=false:=λb hb=>by
    cases z:p b with
    |false=>rfl
    |true=>rw[h1 b hb z]at e; cases e
   have:(a::l).filter p=[]:=by
    rw[List.filter_eq_nil_iff]
    intro b hb
    rcases List.mem_cons.mp hb with rfl|hb
    ·rw[e]; simp
    ·rw[hf b hb]; simp
   rw[this]
   refine⟨λb hb=>by simp at hb,λb hb=>?_⟩
   rcases List.mem_cons.mp hb with rfl|hb
   ·exact e
   ·exact hf b hb
noncomputable def iT(i:Nat):Tr:=.int (i:Nat)
noncomputable def vT(V:Nat->Int × Int)(c:Nat):Tr:=.lst ((List.range c).map λi=>fT (V i))
theorem asN{V:Nat->Int × Int}{c i:Nat}(h:i<c):gIx (vT V c) (iT i)=.ok (fT (V i),false):=aqj (by simp[h])
noncomputable def Nb(V:Nat->Int × Int)(i j:Nat):Prop:=lt2 (V i) (V j)=false
noncomputable def owC:BF:=(afS (aas ais (aae (eOp gIx (aah 1) (aah 2)) (aae (eOp gIx (aah 1) (aah 0)) aar))))
noncomputable def owB:SF:=(ac3 (eMt 1 aqX (aae (eCB (g1 abg) (aae (ain [none,some 0,some 2] 1 (gN 0) owC (aah 0)) aar)) (aae (aah 2) aar))))
theorem avP{V:Nat->Int × Int}{c:Nat}(hV:∀i,i<c->Fq 400 (V i))(hc:c<=12){n:Nat}(hn:n<c){zs:List Nat}(hp:zs.Perm (List.range n))(hs:zs.Pairwise (Nb V)):∃zs':List Nat,owB [.sh (vT V c),.ow (zs.map iT),.sh (iT n)]=.ok (.nx,[.sh (vT V c),.ow (zs'.map iT),.sh (iT n)])/\zs'.Perm (List.range (n+1))/\zs'.Pairwise (Nb V):=by
 have hz:∀z∈zs,z<n:=λz m=>by simpa using hp.mem_iff.mp m
 have hl:zs.length=n:=by simpa using hp.length_eq
 have ec:=avN (r:=iT) (p:=λz=>lt2 (V n) (V z)) (xs:=zs) (ρ:=[.sh (vT V c),.ow (zs.map iT),.sh (iT n)]) (rest:=[some 0,some 2]) (n:=1) (c:=owC) (by omega) rfl rfl (λs'=>rfl) (λs'=>rfl) (λz m=>by
  have zc:z<c:=by have:=hz z m; omega
  have e:=avO (by omega) (hV n hn) (hV z zc)
  have e0:=asN (V:=V) hn
  have e1:=asN (V:=V) zc
  unfold owC
  dsimp only[abX,List.map]
  generalize lt2 (V n) (V z)=B at *
  generalize iT z=Z at *
  generalize iT n=N at *
  generalize vT V c=W at *
  generalize fT (V z)=X at *
  generalize fT (V n)=Y at *
  simp -dsimp[acT,drs,dr,isS,e,e0,e1,tru])
 obtain⟨p1,p2⟩:=pref (p:=λz=>lt2 (V n) (V z)) zs (hs.imp_of_mem λ{a b} ma mb hab pb=>by
  obtain⟨_,_,a3,_⟩:=hV a (by have:=hz a ma; omega)
  obtain⟨_,_,b3,_⟩:=hV b (by have:=hz b mb; omega)
  obtain⟨_,_,n3,_⟩:=hV n hn
  unfold Nb at hab
  unfold lt2 at *
  rw[decide_eq_false_iff_not,Int.not_lt]at hab
  rw[decide_eq_true_eq]at pb ⊢
  refine Int.lt_of_mul_lt_mul_right (show(V n).1*(V a).2*(V b).2<(V a).1*(V n).2*(V b).2 from ?_) (show 0<=(V b).2 by omega)
  have x1:=Int.mul_lt_mul_of_pos_right pb (show 0<(V a).2 by omega)
  have x2:=Int.mul_le_mul_of_nonneg_right hab (show 0<=(V n).2 by omega)
  calc (V n).1*(V a).2*(V b).2=(V n).1*(V b).2*(V a).2:=by ac_rfl
   _<(V b).1*(V n).2*(V a).2:=x1
   _=(V b).1*(V a).2*(V n).2:=by ac_rfl
   _<=(V a).1*(V b).2*(V n).2:=x2
   _=(V a).1*(V n).2*(V b).2:=by ac_rfl)
 have ql:(zs.filter λz=>lt2 (V n) (V z)).length<=zs.length:=List.length_filter_le ..
 have el:abg (.lst ((zs.filter λz=>lt2 (V n) (V z)).map iT))=.ok (.int ((zs.filter λz=>lt2 (V n) (V z)).length:Int),false):=by
  show Rs.ok (Tr.int (((zs.filter λz=>lt2 (V n) (V z)).map iT).length:Int),false)=_
  rw[List.length_map]
 generalize hq:(zs.filter λz=>lt2 (V n) (V z)).length=q at *
 refine⟨zs.take q++n::zs.drop q,?_,?_,?_⟩
 ·have em:aqX (zs.map iT) [.int (q:Nat),iT n]=.ok ((zs.take q++n::zs.drop q).map iT,.non):=by
   show(if 0<=(q:Int)/\(q:Int).toNat<=(zs.map iT).length/\(zs.map iT).length<=100000 then Rs.ok ((zs.map iT).take (q:Int).toNat++iT n::(zs.map iT).drop (q:Int).toNat,Tr.non)else .bad)=_
   rw[List.length_map,Int.toNat_natCast,if_pos (by omega),List.map_append,List.map_cons,List.map_take,List.map_drop]
  generalize (zs.take q++n::zs.drop q).map iT=R at *
  unfold owB
  generalize ain _ _ _ _ _=G at ec ⊢
  generalize Tr.lst ((zs.filter λz=>lt2 (V n) (V z)).map iT)=FL at *
  generalize zs.map iT=L at *
  generalize iT n=N at *
  generalize vT V c=X at *
  simp -dsimp[con,drs,dr,cls,g1,ec,el,em,abr]
 ·have:(zs.take q++n::zs.drop q).Perm (n::(zs.take q++zs.drop q)):=List.perm_middle
  rw[List.take_append_drop]at this
  rw[List.range_succ]
  exact this.trans ((hp.cons n).trans (List.perm_append_comm (l₁:=[n])))
 ·have hs':(zs.take q++zs.drop q).Pairwise (Nb V):=by rw[List.take_append_drop]; exact hs
  obtain⟨a1,a2,a3⟩:=List.pairwise_append.mp hs'
  refine List.pairwise_append.mpr ⟨a1,List.pairwise_cons.mpr ⟨λb mb=>p2 b mb,a2⟩,λa ma b mb=>?_⟩
  rcases List.mem_cons.mp mb with rfl|mb
  ·have:=p1 a ma
   unfold Nb
   unfold lt2 at *
   simp only[decide_eq_true_eq,decide_eq_false_iff_not,Int.not_lt]at *
   omega
  ·exact a3 a ma b mb
theorem aoG{V:Nat->Int × Int}{c:Nat}(hV:∀i,i<c->Fq 400 (V i))(hc:c<=12):∀(k n:Nat) (zs:List Nat) (s2:Sl),n+k=c->zs.Perm (List.range n)->zs.Pairwise (Nb V)->∃(zs':List Nat) (t2:Sl),abC (gN 2) owB ((List.range' n k).map iT) [.sh (vT V c),.ow (zs.map iT),s2]=.ok (.nx,[.sh (vT V c),.ow (zs'.map iT),t2])/\zs'.Perm (List.range c)/\zs'.Pairwise (Nb V)
 | 0,n,zs,s2,h,hp,hs=>by
  have:n=c:=by omega
  subst this
  exact⟨zs,s2,rfl,hp,hs⟩
 |k+1,n,zs,s2,h,hp,hs=>by
  obtain⟨zs1,e,p1,p2⟩:=avP hV hc (n:=n) (by omega) hp hs
  obtain⟨zs',r2,e',q1,q2⟩:=aoG hV hc k (n+1) zs1 (.sh (iT n)) (by omega) p1 p2
  refine⟨zs',r2,?_,q1,q2⟩
  rw[List.range'_succ,List.map_cons]
  unfold abC
  rw[show(gN 2) (iT n) [.sh (vT V c),.ow (zs.map iT),s2]=.ok [.sh (vT V c),.ow (zs.map iT),.sh (iT n)]from rfl]
  simp only[Rs.aaJ]
  rw[e]
  exact e'
theorem aj3{V:Nat->Int × Int}{c:Nat}(hV:∀i,i<c->Fq 400 (V i))(hc:c<=12):∃zs:List Nat,acw [vT V c]=.ok (.lst (zs.map iT),true)/\zs.Perm (List.range c)/\zs.Pairwise (Nb V):=by
 obtain⟨zs,t2,e,p1,p2⟩:=aoG hV hc c 0 [] .un (by omega) (by simp) .nil
 refine⟨zs,?_,p1,p2⟩
 have e2:acU (ad0 (aeX (aae (eCB (g1 abg) (aae (aah 0) aar)) aar)) (gN 2) owB) [.sh (vT V c),.ow [],.un]=.ok (.nx,[.sh (vT V c),.ow (zs.map iT),t2]):=by
  have el:abg (vT V c)=.ok (.int (c:Nat),false):=by
   show Rs.ok (Tr.int (((List.range c).map λi=>fT (V i)).length:Int),false)=_
   rw[List.length_map,List.length_range]
  have ef:aeX (aae (eCB (g1 abg) (aae (aah 0) aar)) aar) [.sh (vT V c),.ow [],.un]=.ok ((List.range' 0 c).map iT,[.sh (vT V c),.ow [],.un]):=by
   generalize vT V c=W at *
   rw[<-List.range_eq_range']
   have ok:okR (c:Int)=true:=by
    unfold okR
    simp
    omega
   simp -dsimp[drs,dr,isS,g1,el,ok]
   exact aef c
  generalize aeX _=G at ef ⊢
  unfold acU ad0
  simp -dsimp[ef]
  rw[show([]:List Tr)=([]:List Nat).map iT from rfl,e]
  rfl
 show fnP 3 (aaI (aii 1 (ae9 aar)) (aaI (acU (ad0 (aeX (aae (eCB (g1 abg) (aae (aah 0) aar)) aar)) (gN 2) owB)) (abm (aah 1)))) [vT V c]=_
 generalize acU _=G at e2 ⊢
 generalize zs.map iT=L at *
 generalize vT V c=W at *
 unfold fnP
 simp -dsimp[aaD,cls,e2]
end K97
end
section
namespace K97
open PySem L2 BH
theorem ak5{x y:Int × Int}:lt2 x y=true↔x.1*y.2<y.1*x.2:=by unfold lt2; exact decide_eq_true_iff
theorem aoH{a b c d:Int}(hb:1<=b)(hd:1<=d)(h:a*d<c*b):lt2 (red a b) (red c d)=true:=by
 cases e:lt2 (red a b) (red c d)with
 |true=>rfl
 |false =>
  exfalso
  have l:=afH.mp e
  obtain⟨r1,r2,_⟩:=ad7 (a:=a) hb
  obtain⟨s1,s2,_⟩:=ad7 (a:=c) hd
  unfold le2 at l
  generalize red a b=r at *
  generalize red c d=s at *
  have p:0<s.2*r.2:=Int.mul_pos (by omega) (by omega)
  have q:0<=d*b:=Int.mul_nonneg (by omega) (by omega)
  have:=Int.mul_le_mul_of_nonneg_right l q
  have x1:c*b*(s.2*r.2)=s.1*r.2*(d*b):=by
   calc c*b*(s.2*r.2)=(c*s.2)*(b*r.2):=by ac_rfl
    _=(s.1*d)*(b*r.2):=by rw[s1]
    _=s.1*r.2*(d*b):=by ac_rfl
  have x2:a*d*(s.2*r.2)=r.1*s.2*(d*b):=by
   calc a*d*(s.2*r.2)=(a*r.2)*(d*s.2):=by ac_rfl
    _=(r.1*b)*(d*s.2):=by rw[r1]
    _=r.1*s.2*(d*b):=by ac_rfl
  have:=Int.le_of_mul_le_mul_right (show c*b*(s.2*r.2)<=a*d*(s.2*r.2) by omega) p
  omega
theorem pos2{a b:Int}(ha:1<=a)(hb:1<=b):1<=a*b:=by
 have:=Int.mul_pos (a:=a) (b:=b) (by omega) (by omega)
 omega
theorem asO{w x y:Int × Int}(hw:1<=w.1)(hw2:1<=w.2)(hx:1<=x.2)(hy:1<=y.2)(h:lt2 x y=true):lt2 (ae5 w x) (ae5 w y)=true:=by
 have h:=ak5.mp h
 refine aoH (pos2 hw2 hx) (pos2 hw2 hy) ?_
 have p:=pos2 hw hw2
 have:=Int.mul_lt_mul_of_pos_left h (show 0<w.1*w.2 by omega)
 calc w.1*x.1*(w.2*y.2)=w.1*w.2*(x.1*y.2):=by ac_rfl
  _<w.1*w.2*(y.1*x.2):=this
  _=w.1*y.1*(w.2*x.2):=by ac_rfl
theorem aoI{w v x y:Int × Int}(hw2:1<=w.2)(hv2:1<=v.2)(hx:1<=x.2)(hy:1<=y.2)(h:le2 w v)(h':le2 x y)(s:lt2 w v=true\/lt2 x y=true):lt2 (sumF w x) (sumF v y)=true:=by
 refine aoH (pos2 hw2 hx) (pos2 hv2 hy) ?_
 have p:=pos2 hx hy
 have q:=pos2 hw2 hv2
 have e1:(w.1*x.2+x.1*w.2)*(v.2*y.2)=w.1*v.2*(x.2*y.2)+x.1*y.2*(w.2*v.2):=by
  rw[Int.add_mul]
  congr 1 <;> ac_rfl
 have e2:(v.1*y.2+y.1*v.2)*(w.2*x.2)=v.1*w.2*(x.2*y.2)+y.1*x.2*(w.2*v.2):=by
  rw[Int.add_mul]
  congr 1 <;> ac_rfl
 rw[e1,e2]
 have a:=Int.mul_le_mul_of_nonneg_right h (show 0<=x.2*y.2 by omega)
 have b:=Int.mul_le_mul_of_nonneg_right h' (show 0<=w.2*v.2 by omega)
 rcases s with s|s
 ·have:=Int.mul_lt_mul_of_pos_right (ak5.mp s) (show 0<x.2*y.2 by omega)
  omega
 ·have:=Int.mul_lt_mul_of_pos_right (ak5.mp s) (show 0<w.2*v.2 by omega)
  omega
theorem al3{w x:Int × Int}(hw:1<=w.2)(hx:1<=x.2):1<=(ae5 w x).2:=(ad7 (a:=w.1*x.1) (pos2 hw hx)).2.1
theorem al4{w x:Int × Int}(hw:1<=w.2)(hx:1<=x.2):1<=(sumF w x).2:=(ad7 (a:=w.1*x.2+x.1*w.2) (pos2 hw hx)).2.1
theorem avQ(i j:Nat):∀(ws:List (Int × Int)) (ls:List (List (Int × Int))) (t t':Int × Int),ws.length=ls.length->(∀w∈ws,1<=w.1/\1<=w.2)->(∀l∈ls,1<=(at2 l i).2/\1<=(at2 l j).2/\le2 (at2 l j) (at2 l i))->1<=t.2->1<=t'.2->le2 t t'->(lt2 t t'=true\/∃l∈ls,lt2 (at2 l j) (at2 l i)=true)->lt2 (shF (ws.zip (ls.map (at2 · j))) t) (shF (ws.zip (ls.map (at2 · i))) t')=true
 | [],[],t,t',_,_,_,_,_,_,h=>by
  rcases h with h|⟨l,m,_⟩
  ·exact h
  ·cases m
 | [],_::_,_,_,z,_,_,_,_,_,_=>by cases z
 |_::_,[],_,_,z,_,_,_,_,_,_=>by cases z
 |w::ws,l::ls,t,t',e,hw,hl,ht,ht',le,h=>by
  obtain⟨w1,w2⟩:=hw w (by simp)
  obtain⟨l1,l2,l3⟩:=hl l (by simp)
  have a:=al3 w2 l2
  have b:=al3 w2 l1
  have tl:=aow (w:=w) (by omega) w2 l2 l1 l3
  refine avQ i j ws ls (sumF t (ae5 w (at2 l j))) (sumF t' (ae5 w (at2 l i))) (by simpa using e) (λx m=>hw x (List.mem_cons_of_mem _ m)) (λx m=>hl x (List.mem_cons_of_mem _ m)) (al4 ht a) (al4 ht' b) (ak2 ht ht' a b le tl) ?_
  rcases h with h|⟨k,m,hk⟩
  ·exact .inl (aoI ht ht' a b le tl (.inl h))
  ·rcases List.mem_cons.mp m with rfl|m
   ·exact .inl (aoI ht ht' a b le tl (.inr (asO w1 w2 l2 l1 hk)))
   ·exact .inr ⟨k,m,hk⟩
theorem avR{ls:List (List (Int × Int))}{i j:Nat}(h:bt ls i j=true):(∀l∈ls,le2 (at2 l j) (at2 l i))/\∃l∈ls,lt2 (at2 l j) (at2 l i)=true:=by
 unfold bt at h
 rw[Bool.and_eq_true,Bool.not_eq_true',List.any_eq_false]at h
 refine⟨λl m=>afH.mp ?_,List.any_eq_true.mp h.2⟩
 have:=h.1 l m
 simpa using this
end K97
end
section
namespace K97
open PySem L2 BH
noncomputable def mix(xs ys:List (Int × Int))(k:Nat):List (Int × Int):=ys.take k++xs.drop k
theorem aeU{xs ys:List (Int × Int)}(h:ys.length=xs.length)(k:Nat):(mix xs ys k).length=xs.length:=by
 unfold mix
 rw[List.length_append,List.length_take,List.length_drop]
 omega
theorem asQ{xs ys:List (Int × Int)}{k:Nat}{x:Int × Int}(m:x∈mix xs ys k):x∈xs\/x∈ys:=by
 rcases List.mem_append.mp m with m|m
 ·exact .inr (List.mem_of_mem_take m)
 ·exact .inl (List.mem_of_mem_drop m)
theorem aqt{xs ys:List (Int × Int)}(h:ys.length=xs.length){k:Nat}(hk:k<ys.length):mix xs ys (k+1)=(mix xs ys k).set k ys[k]/\(mix xs ys k)[k]?=xs[k]? := by
 have lt:(ys.take k).length=k:=by rw[List.length_take]; omega
 constructor
 ·unfold mix
  rw[List.set_append_right _ _ (by omega),lt,Nat.sub_self,List.drop_eq_getElem_cons (show k<xs.length by omega),List.set_cons_zero,List.take_succ_eq_append_getElem hk,List.append_assoc]
  rfl
 ·unfold mix
  rw[List.getElem?_append_right (by omega),lt,Nat.sub_self,List.getElem?_drop]
  rfl
theorem ayr{r:Ru}{xs ys:List (Int × Int)}{v v':Int × Int}(hx:∀x∈xs,Wo x)(hy:∀y∈ys,Wo y)(h:ys.length=xs.length)(h1:1<=xs.length)(h4:xs.length<=4)(ho:alZ xs.length r)(hl:∀(k:Nat) (x y:Int × Int),xs[k]?=some x->ys[k]?=some y->le2 x y)(a:Wv r xs v)(b:Wv r ys v'):le2 v v':=by
 have hm:∀k,∀x∈mix xs ys k,Wo x:=λk x m=>(asQ m).elim (hx x) (hy x)
 have key:∀k,k<=ys.length->∀u,Wv r (mix xs ys k) u->le2 v u:=by
  intro k
  induction k with
  |zero =>
   intro _ u hu
   have:u=v:=Wv.uniq hx (by simpa[mix]using hu) a
   rw[this]
   exact adu _
  |succ k ih =>
   intro hk u hu
   obtain⟨e1,e2⟩:=aqt h (k:=k) (by omega)
   obtain⟨u0,_,w0⟩:=ahD (r:=r) (hm k) (by rw[aeU h]; exact h1) (by rw[aeU h]; omega) (by rw[aeU h]; exact ho)
   have s1:=ih (by omega) u0 w0
   rw[e1]at hu
   have s2:=Wv.mono (hm k) (hy _ (List.getElem_mem (show k<ys.length by omega))) (λx hxk=>hl k x _ (by rw[<-e2]; exact hxk) (List.getElem?_eq_getElem (by omega))) (by rw[aeU h]; exact ho) w0 hu
   have f0:=Wv.fq hx h4 ho a
   have f1:=Wv.fq (hm k) (by rw[aeU h]; exact h4) (by rw[aeU h]; exact ho) w0
   have f2:Fq 400 u:=by
    rw[<-e1]at hu
    exact Wv.fq (hm (k+1)) (by rw[aeU h]; exact h4) (by rw[aeU h]; exact ho) hu
   exact ahB f0.2.2.1 f1.2.2.1 f2.2.2.1 s1 s2
 refine key ys.length (Nat.le_refl _) v' ?_
 have:mix xs ys ys.length=ys:=by
  unfold mix
  rw[List.take_length,h,List.drop_length,List.append_nil]
 rw[this]
 exact b
end K97
end
section
namespace K97
open PySem L2 BH
theorem aqu{x b:Int}{M:Nat}(hx:0<=x)(hb:1<=b)(hb2:b<2 ^ M)(hM:M<=8000):adg [.int x,.int b]=.ok (fT (red x b),false):=by
 obtain⟨g1,g2,_⟩:=aeE (a:=x) (b:=b) (by omega)
 have e1:x.fdiv (Int.gcd x b:Nat)=x / (Int.gcd x b:Nat):=Int.fdiv_eq_ediv_of_nonneg _ (by omega)
 have e2:b.fdiv (Int.gcd x b:Nat)=b / (Int.gcd x b:Nat):=Int.fdiv_eq_ediv_of_nonneg _ (by omega)
 have hw:=ak0 (.sh (.int x)) (.sh (.int b)) (b.natAbs+1) x b hx (by omega) (by omega)
 have np:=am2 M
 show fnP 4 (aaI (abM (aah 0) (gN 2)) (aaI (abM (aah 1) (gN 3)) (aaI (acU (adf (fuI 3) frC frW)) (abm (akg (aae (eOp acQ (aah 0) (aah 2)) (aae (eOp acQ (aah 1) (aah 2)) aar))))))) [.int x,.int b]=_
 unfold red
 generalize hg:((Int.gcd x b:Nat):Int)=g at *
 have h3:acU (adf (fuI 3) frC frW) [.sh (.int x),.sh (.int b),.sh (.int x),.sh (.int b)]=.ok (.nx,[.sh (.int x),.sh (.int b),.sh (.int g),.sh (.int 0)]):=by
  unfold acU adf
  rw[show fuI 3 [.sh (.int x),.sh (.int b),.sh (.int x),.sh (.int b)]=b.natAbs+1 from rfl,hw]
  rfl
 generalize acU _=G at h3 ⊢
 have c1:∀n,amY n g=true:=λn=>afn (M:=M) (by omega) (by omega) hM
 unfold fnP fT
 simp -dsimp[abS,frz,dow,abr,con,ac0,eB,bOf,tru,dr,drs,cls,clV,adl,g1,g2,gI,gIC,gB,gEq,gNe,gIn,abf,ab2,acQ,acK,acR,acS,gLt,gGt,gLe,gGe,gIx,abg,adE,abL,aa4,adw,ad8,acC,acD,okR,iOf,isS,others,abX,abv,ab3,acV,acT,aaA,aa5,aaE,aaK,aaH,aaL,aax,aav,aaU,aa6,aa1,ada,atI,ixN,aaD,h3,c1,e1,e2]
theorem asR{a b:Int}(ha:1<=a)(hb:1<=b):1<=(red a b).1:=by
 obtain⟨r1,r2,_⟩:=ad7 (a:=a) hb
 have:=pos2 ha r2
 rw[r1]at this
 exact Int.pos_of_mul_pos_left (show 0<(red a b).1*b by omega) (by omega)
noncomputable def wE:EF:=(eOp gIx (ae9 (aae (eC (.int 1)) (aae (eOp abf (eC (.int 1)) (aaT 0 abh (aae (aah 0) (aae (eC (.int 9)) aar)))) (aae (eOp abf (eC (.int 1)) (aaT 0 abh (aae (aah 0) (aae (eOp acS (eOp acR (eC (.int 10)) (eC (.int 12))) (eC (.int 1))) aar)))) aar)))) (aah 4))
theorem three{p q r:Int}{j:Int}(h0:0<=j)(h1:j<3){P:Int->Prop}(hp:P p)(hq:P q)(hr:P r):∃v,gIx (.lst [.int p,.int q,.int r]) (.int j)=.ok (.int v,false)/\P v:=by
 rcases(show j=0\/j=1\/j=2 by omega)with rfl|rfl|rfl
 ·exact⟨p,rfl,hp⟩
 ·exact⟨q,rfl,hq⟩
 ·exact⟨r,rfl,hr⟩
theorem avS(a b:Int)(s1 s2 s3 s5:Sl){j:Int}(h0:0<=j)(h1:j<3):∃(v a' b':Int),wE [.rf [.int a,.int b],s1,s2,s3,.sh (.int j),s5]=.ok (.v (.int v) false,[.rf [.int a',.int b'],s1,s2,s3,.sh (.int j),s5])/\1<=v/\v<=1000000000000:=by
 obtain⟨x,a1,b1,e1,x0,x1⟩:=acY a b 9 (by omega) (by decide)
 obtain⟨y,a2,b2,e2,y0,y1⟩:=acY a1 b1 999999999999 (by omega) (by decide)
 have p12:acR (.int 10) (.int 12)=.ok (.int 1000000000000,false):=by kernel_rfl
 obtain⟨v,ev,hv⟩:=three (p:=1) (q:=1+x) (r:=1+y) h0 h1 (P:=λv=>1<=v/\v<=1000000000000) (by omega) (by omega) (by omega)
 refine⟨v,a2,b2,?_,hv⟩
 unfold wE
 simp -dsimp[con,drs,dr,isS,others,abr,cls,avy,e1,p12,acS,gI,e2,ev]
noncomputable def wtB:SF:=(aaI (abM (aaT 0 abh (aae (aah 0) (aae (eC (.int 3)) aar))) (gN 4)) (aaI (abM wE (gN 5)) (ac3 (eMt 2 aij (aae (aas adg (aae (aah 5) (aae wE aar))) aar)))))
theorem avT(a b:Int)(s1 s3 s4 s5:Sl){ws:List (Int × Int)}(hl:ws.length<=100):∃(a' b':Int) (t4 t5:Sl) (w:Int × Int),wtB [.rf [.int a,.int b],s1,.ow (ws.map fT),s3,s4,s5]=.ok (.nx,[.rf [.int a',.int b'],s1,.ow ((ws++[w]).map fT),s3,t4,t5])/\Fq 45 w/\1<=w.1:=by
 obtain⟨j,a1,b1,e1,j0,j1⟩:=acY a b 3 (by omega) (by decide)
 obtain⟨p,a2,b2,e2,p0,p1⟩:=avS a1 b1 s1 (.ow (ws.map fT)) s3 s5 j0 j1
 obtain⟨q,a3,b3,e3,q0,q1⟩:=avS a2 b2 s1 (.ow (ws.map fT)) s3 (.sh (.int p)) j0 j1
 have e4:=aqu (x:=p) (b:=q) (M:=60) (by omega) q0 (by omega) (by omega)
 refine⟨a3,b3,.sh (.int j),.sh (.int p),red p q,?_,aou (by omega) (by omega) q0 (by omega),asR p0 q0⟩
 have m1:=agd (ts:=ws.map fT) (t:=fT (red p q)) (by rw[List.length_map]; omega)
 rw[List.map_append,List.map_singleton]
 generalize fT (red p q)=R at *
 generalize ws.map fT=L at *
 unfold wtB
 generalize wE=G1 at e2 e3 ⊢
 simp -dsimp[con,drs,dr,isS,others,abr,cls,e1,e2,e3,e4,m1]
noncomputable def Wt(w:Int × Int):Prop:=Fq 45 w/\1<=w.1
theorem aoJ(s1:Sl):∀(us:List Tr) (a b:Int) (s3 s4 s5:Sl) (ws:List (Int × Int)),ws.length+us.length<=100->(∀w∈ws,Wt w)->∃(a' b':Int) (t3 t4 t5:Sl) (vs:List (Int × Int)),abC (gN 3) wtB us [.rf [.int a,.int b],s1,.ow (ws.map fT),s3,s4,s5]=.ok (.nx,[.rf [.int a',.int b'],s1,.ow (vs.map fT),t3,t4,t5])/\vs.length=ws.length+us.length/\∀w∈vs,Wt w
 | [],a,b,s3,s4,s5,ws,_,h=>⟨a,b,s3,s4,s5,ws,rfl,rfl,h⟩
 |u::us,a,b,s3,s4,s5,ws,hl,h=>by
  rw[List.length_cons]at hl
  obtain⟨a1,b1,t4,t5,w,e,hw⟩:=avT a b s1 (.sh u) s4 s5 (show ws.length<=100 by omega)
  obtain⟨a',b',r3,r4,r5,vs,e',g1,g2⟩:=aoJ s1 us a1 b1 (.sh u) t4 t5 (ws++[w]) (by simp; omega) (λx hx=>(List.mem_append.mp hx).elim (h x) λz=>(List.mem_singleton.mp z)▸hw)
  refine⟨a',b',r3,r4,r5,vs,?_,by rw[g1]; simp; omega,g2⟩
  unfold abC
  rw[show gN 3 u [.rf [.int a,.int b],s1,.ow (ws.map fT),s3,s4,s5]=.ok [.rf [.int a,.int b],s1,.ow (ws.map fT),.sh u,s4,s5]from rfl]
  simp only[Rs.aaJ]
  rw[e]
  exact e'
theorem amB(a b:Int){k:Nat}(hk:k<=4):∃(a' b':Int) (vs:List (Int × Int)),aeO [.lst [.int a,.int b],.int k]=.ok ((aaX vs,true),[.int a',.int b'])/\vs.length=k/\∀w∈vs,Wt w:=by
 obtain⟨a',b',t3,t4,t5,vs,e,h1,h2⟩:=aoJ (.sh (.int k)) (L2.upTo 0 k) a b .un .un .un [] (by rw[acZ]; simp; omega) (by simp)
 rw[acZ]at h1
 have q1:(-1000000:Int)<=k:=by omega
 have q2:(k:Int)<=1000000:=by omega
 have e':abC (gN 3) wtB (L2.upTo 0 k) [.rf [.int a,.int b],.sh (.int k),.ow [],.un,.un,.un]=.ok (.nx,[.rf [.int a',.int b'],.sh (.int k),.ow (vs.map fT),t3,t4,t5]):=e
 refine⟨a',b',vs,?_,by simpa using h1,h2⟩
 show fnR 6 0 (aaI (aii 2 (ae9 aar)) (aaI (acU (ad0 (aeX (aae (aah 1) aar)) (gN 3) wtB)) (abm (aah 2)))) [.lst [.int a,.int b],.int k]=.ok ((.lst (vs.map fT),true),[.int a',.int b'])
 unfold fnR
 generalize wtB=G at e' ⊢
 generalize vs.map fT=L at *
 simp -dsimp[abS,frz,dow,abr,con,ac0,eB,bOf,tru,dr,drs,cls,clV,adl,g1,g2,acD,okR,iOf,isS,others,abX,abv,ab3,acV,acT,aaD,ad1,q1,q2,e',adM,alz]
end K97
end
section
namespace K97
open PySem L2 BH
noncomputable def Sm(B D:Nat)(T:Tr):Prop:=okS T=true/\blk T<=B/\dep T<=D
theorem Sm.mono{B D B' D':Nat}{T:Tr}(h:Sm B D T)(hB:B<=B')(hD:D<=D'):Sm B' D' T:=⟨h.1,by have:=h.2.1; omega,by have:=h.2.2; omega⟩
theorem sms{B D:Nat}:∀{l:List Tr},(∀t∈l,Sm B D t)->ao6 l=true/\blks l<=l.length*(B+1)/\deps l<=D
 | [],_=>⟨by simp only[ao6],by simp[blks],by simp[deps]⟩
 |t::l,h=>by
  obtain⟨a1,a2,a3⟩:=h t (by simp)
  obtain⟨b1,b2,b3⟩:=sms (l:=l) λu hu=>h u (by simp[hu])
  refine⟨by simp only[ao6]; rw[a1,b1]; rfl,?_,?_⟩
  ·simp only[blks,List.length_cons]
   rw[Nat.succ_mul]
   omega
  ·simp only[deps]
   omega
theorem Sm.lst{B D N:Nat}{l:List Tr}(h:∀t∈l,Sm B D t)(hn:l.length*(B+1)<=N):Sm N (D+1) (.lst l):=by
 obtain⟨a,b,c⟩:=sms h
 exact⟨by simp only[okS]; exact a,by simp only[blk]; omega,by simp only[dep]; omega⟩
theorem Sm.tup{B D N:Nat}{l:List Tr}(h:∀t∈l,Sm B D t)(hn:l.length*(B+1)<=N):Sm N (D+1) (.tup l):=by
 obtain⟨a,b,c⟩:=sms h
 exact⟨by simp only[okS]; exact a,by simp only[blk]; omega,by simp only[dep]; omega⟩
theorem Sm.int{i:Int}(h:i.natAbs.log2<1920):Sm 0 0 (.int i):=⟨by simp only[okS]; exact decide_eq_true h,by simp[blk],by simp[dep]⟩
theorem Sm.nat{i:Nat}(h:i<2 ^ 60):Sm 0 0 (.int (i:Nat)):=.int (by
 rw[Int.natAbs_natCast]
 by_cases z:i=0
 ·rw[z]; decide
 ·exact Nat.lt_trans ((Nat.log2_lt z).mpr h) (by omega))
theorem Sm.fr{x:Int × Int}(h:Fq 400 x):Sm 2 1 (fT x):=by
 obtain⟨h1,h2,h3,h4,_⟩:=h
 have np:=am2 400
 have k:∀y:Int,0<=y->y<2 ^ 400->Sm 0 0 (.int y):=λy y0 y1=>.int (by
  by_cases z:y.natAbs=0
  ·rw[z]; decide
  ·exact Nat.lt_trans ((Nat.log2_lt z).mpr (show y.natAbs<2 ^ 400 by omega)) (by omega))
 exact Sm.tup (B:=0) (D:=0) (l:=[.int x.1,.int x.2]) (λt m=>by
  rcases List.mem_cons.mp m with rfl|m
  ·exact k _ h1 h2
  ·rw[List.mem_singleton.mp m]
   exact k _ (by omega) h4) (by simp)
theorem avU{ys:List Nat}{c:Nat}(h:∀i∈ys,i<c)(hc:c<=12)(hl:ys.length<=12):Sm 12 1 (nT ys):=Sm.lst (B:=0) (D:=0) (λt m=>by
 obtain⟨i,mi,rfl⟩:=List.mem_map.mp m
 exact .nat (by have:=h i mi; omega)) (by rw[List.length_map]; omega)
theorem ajd(ls:List (List (Int × Int))):∀(n:Nat) (ys:List Nat),(lays ls n ys).length<=n
 | 0,_=>Nat.le_refl _
 |n+1,ys=>by
  show(if ys=[]then []else acg ls ys::lays ls n (rst ys (acg ls ys))).length<=_
  split
  ·simp
  ·rw[List.length_cons]
   have:=ajd ls n (rst ys (acg ls ys))
   omega
theorem aje(ls:List (List (Int × Int))):∀(n:Nat) (ys:List Nat),∀L∈lays ls n ys,L.length<=ys.length/\∀t∈L,t∈ys
 | 0,_,L,m=>by cases m
 |n+1,ys,L,m=>by
  have m:L∈(if ys=[]then []else acg ls ys::lays ls n (rst ys (acg ls ys))):=m
  split at m
  ·cases m
  ·rcases List.mem_cons.mp m with rfl|m
   ·exact⟨List.length_filter_le ..,λt mt=>aew mt⟩
   ·obtain⟨a,b⟩:=aje ls n (rst ys (acg ls ys)) L m
    refine⟨Nat.le_trans a (List.length_filter_le ..),λt mt=>(List.mem_filter.mp (b t mt)).1⟩
noncomputable def lyT(c:Nat)(ls:List (List (Int × Int))):Tr:=.lst ((lays ls (c+1) (List.range c)).map nT)
theorem avV{c:Nat}{ls:List (List (Int × Int))}(hc:c<=12):Sm 8000 40 (lyT c ls):=by
 have:=ajd ls (c+1) (List.range c)
 refine Sm.mono (Sm.lst (B:=12) (D:=1) (N:=13*13) (λt m=>?_) (by rw[List.length_map]; exact Nat.mul_le_mul_right _ (by omega))) (by omega) (by omega)
 obtain⟨L,mL,rfl⟩:=List.mem_map.mp m
 obtain⟨a,b⟩:=aje ls (c+1) (List.range c) L mL
 rw[List.length_range]at a
 exact avU (c:=c) (λi mi=>List.mem_range.mp (b i mi)) hc (by omega)
theorem avW{c:Nat}{ls:List (List (Int × Int))}(hc:c<=12):Sm 8000 40 (nT (acg ls (List.range c))):=by
 have:(acg ls (List.range c)).length<=(List.range c).length:=List.length_filter_le ..
 rw[List.length_range]at this
 exact(avU (c:=c) (λi mi=>List.mem_range.mp (aew mi)) hc (by omega)).mono (by omega) (by omega)
theorem ays{V:Nat->Int × Int}{c:Nat}(hV:∀i,i<c->Fq 400 (V i))(hc:c<=12):Sm 8000 40 (vT V c):=by
 refine Sm.mono (Sm.lst (B:=2) (D:=1) (N:=12*3) (λt m=>?_) (by rw[List.length_map,List.length_range]; omega)) (by omega) (by omega)
 obtain⟨i,mi,rfl⟩:=List.mem_map.mp m
 exact .fr (hV i (List.mem_range.mp mi))
noncomputable def prT(V:Nat->Int × Int)(i:Nat):Tr:=.tup [.int (i:Nat),fT (V i)]
theorem ayt{V:Nat->Int × Int}{c:Nat}(hV:∀i,i<c->Fq 400 (V i))(hc:c<=12){zs:List Nat}(hz:∀z∈zs,z<c)(hl:zs.length<=12):Sm 8000 40 (.lst (zs.map (prT V))):=by
 refine Sm.mono (Sm.lst (B:=6) (D:=2) (N:=12*7) (λt m=>?_) (by rw[List.length_map]; omega)) (by omega) (by omega)
 obtain⟨i,mi,rfl⟩:=List.mem_map.mp m
 refine Sm.tup (B:=2) (D:=1) (λt m=>?_) (by simp)
 rcases List.mem_cons.mp m with rfl|m
 ·exact(Sm.nat (by have:=hz i mi; omega)).mono (by omega) (by omega)
 ·rw[List.mem_singleton.mp m]
  exact .fr (hV i (hz i mi))
noncomputable def Hd(u:Tr):Prop:=∃T,u=.lst [T,.str (txt T)]/\Sm 8000 40 T
theorem aoK{T:Tr}(h:Sm 8000 40 T):ao9 T=.ok (.str (txt T),false):=by
 unfold ao9
 rw[if_pos ⟨h.1,h.2.1,h.2.2⟩]
end K97
end
section
namespace K97
open PySem L2 BH
noncomputable def col(rows:List (List (Int × Int)))(i:Nat):List (Int × Int):=rows.map λl=>at2 l i
theorem ajf(l:List (Int × Int)):abg (aaX l)=.ok (.int (l.length:Int),false):=by
 show Rs.ok (Tr.int ((l.map fT).length:Int),false)=_
 rw[List.length_map]
theorem ajg(rows:List (List (Int × Int))):abg (bkT rows)=.ok (.int (rows.length:Int),false):=by
 show Rs.ok (Tr.int ((rows.map aaX).length:Int),false)=_
 rw[List.length_map]
noncomputable def Len(c:Nat)(rows:List (List (Int × Int))):Prop:=∀l∈rows,l.length=c
noncomputable def coE:EF:=(eOp gIx (aah 0) (aah 1))
theorem avX{l:List (Int × Int)}{i:Nat}(h:i<l.length):coE [.sh (aaX l),.sh (.int i)]=.ok (.v (fT (at2 l i)) false,[.sh (aaX l),.sh (.int i)]):=by
 have e:gIx (aaX l) (.int i)=.ok (fT (at2 l i),false):=alU h
 generalize fT (at2 l i)=V at *
 generalize aaX l=T at *
 unfold coE
 simp -dsimp[dr,e]
theorem asS(rows:List (List (Int × Int)))(i:Nat):Tr.lst (rows.map λl=>fT (at2 l i))=aaX (col rows i):=by
 unfold aaX col
 rw[List.map_map]
 rfl
theorem aj4{c:Nat}{rows:List (List (Int × Int))}(h:Len c rows)(hl:rows.length<=100){i:Nat}(hi:i<c):adG [bkT rows,.int i]=.ok (aaX (col rows i),true):=by
 have e:=asJ (r:=aaX) (h:=λl=>fT (at2 l i)) (xs:=rows) (ρ:=[.sh (bkT rows),.sh (.int i)]) (rest:=[some 1]) (i:=fSq (aah 0)) (fe:=coE) (by omega) rfl rfl (λs'=>rfl) (λs'=>rfl) (λl m=>⟨false,avX (by rw[h l m]; exact hi)⟩)
 rw[asS]at e
 show fnP 2 (abm (abb [none,some 1] (fSq (aah 0)) (gN 0) ad3 coE)) [bkT rows,.int i]=_
 generalize abb _ _ _ _ _=G at e ⊢
 generalize aaX (col rows i)=R at *
 generalize bkT rows=T at *
 unfold fnP
 simp -dsimp[aaD,e]
noncomputable def wbE:EF:=(aas abz (aae (aah 1) (aae (aas adG (aae (aah 2) (aae (aah 0) aar))) aar)))
theorem agt{c:Nat}{rows:List (List (Int × Int))}{R:Tr}{V:Nat->Int × Int}(h:Len c rows)(h1:1<=rows.length)(hl:rows.length<=100)(hc:c<=12)(hV:∀i,i<c->abz [R,aaX (col rows i)]=.ok (fT (V i),false)):ab8 [bkT rows,R]=.ok (.lst ((List.range c).map λi=>fT (V i)),true):=by
 obtain⟨l,hl0⟩:∃l,rows[0]?=some l:=⟨_,List.getElem?_eq_getElem (by omega)⟩
 have e3:gIx (bkT rows) (.int 0)=.ok (aaX l,false):=acP (i:=0) (by rw[List.getElem?_map,hl0]; rfl)
 have e4:=ajf l
 rw[h l (List.mem_of_getElem? hl0)]at e4
 have q1:(-1000000:Int)<=c:=by omega
 have q2:(c:Int)<=1000000:=by omega
 have ef:aeX (aae (eCB (g1 abg) (aae (eOp gIx (aah 0) (eC (.int 0))) aar)) aar) [.sh (bkT rows),.sh R]=.ok ((List.range c).map λi:Nat=>Tr.int i,[.sh (bkT rows),.sh R]):=by
  rw[<-aef]
  generalize bkT rows=T at *
  generalize aaX l=T2 at *
  simp -dsimp[drs,dr,okR,q1,q2,e3,e4,g1]
 have e:=asJ (r:=λi:Nat=>Tr.int i) (h:=λi=>fT (V i)) (xs:=List.range c) (τ:=[.sh R,.sh (bkT rows)]) (rest:=[some 1,some 0]) (fe:=wbE) (by simp; omega) ef rfl (λs'=>rfl) (λs'=>rfl) (λi hi=>⟨false,by
  have hi':i<c:=by simpa using hi
  have a1:=aj4 h hl hi'
  have a2:=hV i hi'
  unfold wbE
  generalize fT (V i)=Vi at *
  generalize aaX (col rows i)=C at *
  generalize bkT rows=T at *
  simp -dsimp[drs,dr,isS,a1,a2]⟩)
 show fnP 2 (abm (abb [none,some 1,some 0] (aeX (aae (eCB (g1 abg) (aae (eOp gIx (aah 0) (eC (.int 0))) aar)) aar)) (gN 0) ad3 wbE)) [bkT rows,R]=_
 generalize abb _ _ _ _ _=G at e ⊢
 generalize Tr.lst ((List.range c).map λi=>fT (V i))=L at *
 generalize bkT rows=T at *
 unfold fnP
 simp -dsimp[aaD,e]
theorem ahE{c:Nat}{rows:List (List (Int × Int))}{r:Ru}{V:Nat->Int × Int}(hb:alS (bkT rows)=true)(h:Len c rows)(h1:1<=rows.length)(hl:rows.length<=4)(hc:c<=12)(ho:alZ rows.length r)(hV:∀i,i<c->abz [ruT r,aaX (col rows i)]=.ok (fT (V i),false)):aaP [bkT rows,ruT r]=.ok (.lst ((List.range c).map λi=>fT (V i)),true):=by
 have e1:=agt h h1 (by omega) hc hV
 have e2:=adW hb
 have e3:=ait ho (by omega)
 have e4:=ajg rows
 have e5:aaM [bkT rows,ruT r]=.ok (.non,false):=by
  generalize bkT rows=T at *
  generalize ruT r=R at *
  generalize (rows.length:Int)=N at *
  unfold aaM acj fnP
  simp -dsimp[aaD,drs,dr,isS,e2,e4,g1,e3,tru]
 generalize Tr.lst ((List.range c).map λi=>fT (V i))=L at *
 generalize bkT rows=T at *
 generalize ruT r=R at *
 unfold aaP afa fnP
 simp -dsimp[aaD,drs,dr,isS,e5,e1]
noncomputable def Bf(V:Nat->Int × Int)(i j:Nat):Prop:=(V j).1*(V i).2<(V i).1*(V j).2\/((V j).1*(V i).2=(V i).1*(V j).2/\i<j)
theorem falls{V:Nat->Int × Int}{c:Nat}(hV:∀i,i<c->Fq 400 (V i))(hc:c<=12){zs:List Nat}(hp:zs.Perm (List.range c))(hs:zs.Pairwise (Bf V)):aaO [.lst ((List.range c).map λi=>fT (V i))]=.ok (.lst (zs.map λi:Nat=>Tr.int i),true):=by
 have nM:=am2 400
 have hr:(List.range c).map (λi=>fT (V i))=((List.range c).map V).map fT:=by rw[List.map_map]; rfl
 have hlen:((List.range c).map V).length=c:=by simp
 obtain⟨ys,e,f1,f2⟩:=agb (N:=400) ((List.range c).map V) (λy hy=>by
  obtain⟨i,hi,rfl⟩:=List.mem_map.mp hy
  obtain⟨a1,a2,a3,a4,_⟩:=hV i (by simpa using hi)
  exact⟨a3,a4,by omega⟩) (by rw[hlen]; omega) (by omega) (by rw[hlen]; omega)
 rw[hlen]at f1
 have g:∀i,i<c->((List.range c).map V).getD i (0,1)=V i:=λi hi=>by simp[hi]
 have f3:ys.Pairwise (Bf V):=f2.imp_of_mem λ{a b} ma mb h=>by
  have ha:a<c:=by simpa using f1.mem_iff.mp ma
  have hb:b<c:=by simpa using f1.mem_iff.mp mb
  unfold Bfr at h
  rw[g a ha,g b hb]at h
  exact h
 have:ys=zs:=List.Perm.eq_of_pairwise (le:=Bf V) (λa b _ _ h1 h2=>by
  unfold Bf at h1 h2
  omega) f3 hs (f1.trans hp.symm)
 rw[hr,e,this]
noncomputable def bfE:EF:=(akg (aae (aah 0) (aae (eOp gIx (aah 1) (aah 0)) aar)))
theorem ak6{c:Nat}{rows:List (List (Int × Int))}{r:Ru}{V:Nat->Int × Int}{zs:List Nat}{k:Nat}(hb:Bk c rows)(ho:alZ rows.length r)(hV:∀i,i<c->Fq 400 (V i))(hw:ab8 [bkT rows,ruT r]=.ok (.lst ((List.range c).map λi=>fT (V i)),true))(hp:zs.Perm (List.range c))(hs:zs.Pairwise (Bf V))(hk:k<=c):abR [bkT rows,ruT r,.int (k:Nat)]=.ok (.lst ((zs.take k).map (prT V)),true):=by
 obtain⟨h1,h2,h3,h4,h5⟩:=id hb
 obtain⟨l,hl0⟩:∃l,rows[0]?=some l:=⟨_,List.getElem?_eq_getElem (by omega)⟩
 have e3:gIx (bkT rows) (.int 0)=.ok (aaX l,false):=acP (i:=0) (by rw[List.getElem?_map,hl0]; rfl)
 have e4:=ajf l
 rw[(h5 l (List.mem_of_getElem? hl0)).1]at e4
 have ef:=falls hV h4 hp hs
 have e2:=adW hb.alS
 have e5:=ait ho (by omega)
 have e6:=ajg rows
 have e7:aaM [bkT rows,ruT r]=.ok (.non,false):=by
  generalize bkT rows=T at *
  generalize ruT r=R at *
  generalize (rows.length:Int)=N at *
  unfold aaM acj fnP
  simp -dsimp[aaD,drs,dr,isS,e2,e6,g1,e5,tru]
 have e8:aee [.int (k:Nat),.int (c:Nat)]=.ok (.bl true,false):=by
  have q:(k:Int)<=c:=by omega
  unfold aee aiq fnP
  simp -dsimp[abS,frz,dow,abr,con,ac0,eB,bOf,tru,dr,drs,cls,clV,adl,g1,g2,gI,gIC,gB,gEq,gNe,gIn,abf,ab2,acQ,acK,acR,acS,gLt,gGt,gLe,gGe,gIx,abg,adE,abL,aa4,adw,ad8,acC,acD,okR,iOf,isS,others,abX,abv,ab3,acV,acT,aaA,aa5,aaE,aaK,aaH,aaL,aax,aav,aaU,aa6,aa1,ada,atI,ixN,aaD,afm,isW,gLe,q]
 have e9:ac4 [bkT rows,.int (k:Nat)]=.ok (.non,false):=by
  generalize bkT rows=T at *
  generalize aaX l=T2 at *
  generalize (k:Int)=N at *
  generalize (c:Int)=N2 at *
  unfold ac4 agr fnP
  simp -dsimp[aaD,drs,dr,isS,e3,e4,g1,e8,tru]
 have e10:aaN [bkT rows,ruT r,.int (k:Nat)]=.ok (.non,false):=by
  generalize bkT rows=T at *
  generalize ruT r=R at *
  generalize (k:Int)=N at *
  unfold aaN ach fnP
  simp -dsimp[aaD,drs,dr,isS,e7,e9]
 have gi:∀i,i<c->gIx (.lst ((List.range c).map λi=>fT (V i))) (.int (i:Nat))=.ok (fT (V i),false):=λi hi=>acP (by simp[hi])
 have hz:∀z∈zs,z<c:=λz m=>by simpa using hp.mem_iff.mp m
 have zl:zs.length=c:=by simpa using hp.length_eq
 have es:gSl none (some (k:Int)) (.lst (zs.map λi:Nat=>Tr.int i))=.ok (.lst ((zs.take k).map λi:Nat=>Tr.int i),true):=by
  show Rs.ok (Tr.lst (L2.cut (zs.map λi:Nat=>Tr.int i) none (some (k:Int))),true)=_
  rw[aoj,List.map_take]
 generalize Tr.lst ((List.range c).map λi=>fT (V i))=W at *
 have ei:fSq (eSl (aas aaO (aae (aah 3) aar)) oNo (afT (aah 2))) [.sh (bkT rows),.sh (ruT r),.sh (.int (k:Nat)),.sh W]=.ok ((zs.take k).map λi:Nat=>Tr.int i,[.sh (bkT rows),.sh (ruT r),.sh (.int (k:Nat)),.sh W]):=by
  generalize bkT rows=T at *
  generalize ruT r=R at *
  generalize (k:Int)=N at *
  generalize (zs.take k).map (λi:Nat=>Tr.int i)=Y at *
  generalize zs.map (λi:Nat=>Tr.int i)=Y2 at *
  simp -dsimp[drs,dr,isS,ef,iOf,es,acD]
 have em:=asJ (r:=λi:Nat=>Tr.int i) (h:=prT V) (xs:=zs.take k) (τ:=[.sh W]) (rest:=[some 3]) (fe:=bfE) (by rw[List.length_take]; omega) ei rfl (λs'=>rfl) (λs'=>rfl) (λi hi=>⟨false,by
  have a1:=gi i (hz i (List.mem_of_mem_take hi))
  unfold bfE prT
  generalize fT (V i)=X at *
  simp -dsimp[drs,dr,isS,a1,cls]⟩)
 show fnP 4 (aaI (ac3 (aas aaN (aae (aah 0) (aae (aah 1) (aae (aah 2) aar))))) (aaI (abM (aas ab8 (aae (aah 0) (aae (aah 1) aar))) (gN 3)) (abm (abb [none,some 3] (fSq (eSl (aas aaO (aae (aah 3) aar)) oNo (afT (aah 2)))) (gN 0) ad3 bfE)))) [bkT rows,ruT r,.int (k:Nat)]=_
 generalize abb _ _ _ _ _=G at em ⊢
 generalize (zs.take k).map (prT V)=L at *
 generalize bkT rows=T at *
 generalize ruT r=R at *
 generalize (k:Int)=N at *
 unfold fnP
 simp -dsimp[aaD,drs,dr,isS,e10,hw,em]
end K97
end
section
namespace K97
open PySem L2 BH
theorem order{V:Nat->Int × Int}{c:Nat}(hV:∀i,i<c->Fq 400 (V i))(hc:c<=12):∃zs:List Nat,zs.Perm (List.range c)/\zs.Pairwise (Bf V):=by
 have nM:=am2 400
 have hlen:((List.range c).map V).length=c:=by simp
 obtain⟨ys,e,f1,f2⟩:=agb (N:=400) ((List.range c).map V) (λy hy=>by
  obtain⟨i,hi,rfl⟩:=List.mem_map.mp hy
  obtain⟨a1,a2,a3,a4,_⟩:=hV i (by simpa using hi)
  exact⟨a3,a4,by omega⟩) (by rw[hlen]; omega) (by omega) (by rw[hlen]; omega)
 rw[hlen]at f1
 have g:∀i,i<c->((List.range c).map V).getD i (0,1)=V i:=λi hi=>by simp[hi]
 refine⟨ys,f1,f2.imp_of_mem λ{a b} ma mb h=>?_⟩
 have ha:a<c:=by simpa using f1.mem_iff.mp ma
 have hb:b<c:=by simpa using f1.mem_iff.mp mb
 unfold Bfr at h
 rw[g a ha,g b hb]at h
 exact h
structure Fd(c:Nat)(rows:List (List (Int × Int)))(r:Ru)(V:Nat->Int × Int)(zs:List Nat):Prop where
 fq:∀i,i<c->Fq 400 (V i)
 wv:∀i,i<c->Wv r (col rows i) (V i)
 tw:aaP [bkT rows,ruT r]=.ok (vT V c,true)
 pm:zs.Perm (List.range c)
 sr:zs.Pairwise (Bf V)
 few:∀k:Nat,k<=c->abR [bkT rows,ruT r,.int (k:Nat)]=.ok (.lst ((zs.take k).map (prT V)),true)
theorem avY{c:Nat}{rows:List (List (Int × Int))}(h5:Shp c rows){i:Nat}(hi:i<c):∀x∈col rows i,Wo x:=λx m=>by
 obtain⟨l,hl,rfl⟩:=List.mem_map.mp m
 exact(h5 l hl).2 _ (by unfold at2; simp[(h5 l hl).1,hi])
theorem aqv(rows:List (List (Int × Int)))(i:Nat):(col rows i).length=rows.length:=by unfold col; simp
theorem found{c:Nat}{rows:List (List (Int × Int))}{r:Ru}(hb:Bk c rows)(ho:alZ rows.length r):∃V zs,Fd c rows r V zs:=by
 obtain⟨h1,h2,h3,h4,h5⟩:=id hb
 have hlen:Len c rows:=λl m=>(h5 l m).1
 have ex:∀i,∃v,i<c->(abz [ruT r,aaX (col rows i)]=.ok (fT v,false)/\Wv r (col rows i) v)/\Fq 400 v:=λi=>by
  by_cases hi:i<c
  ·have ho':alZ (col rows i).length r:=by rw[aqv]; exact ho
   obtain⟨v,e,wv⟩:=ahD (avY h5 hi) (by rw[aqv]; exact h1) (by rw[aqv]; omega) ho'
   exact⟨v,λ_=>⟨⟨e,wv⟩,wv.fq (avY h5 hi) (by rw[aqv]; omega) ho'⟩⟩
  ·exact⟨(0,1),λz=>absurd z hi⟩
 obtain⟨V,hV⟩:=Classical.skolem.mp ex
 have bw:=agt hlen h1 (by omega) h4 λi hi=>(hV i hi).1.1
 have tw:=ahE hb.alS hlen h1 h2 h4 ho λi hi=>(hV i hi).1.1
 obtain⟨zs,p1,p2⟩:=order (λi hi=>(hV i hi).2) h4
 exact⟨V,zs,λi hi=>(hV i hi).2,λi hi=>(hV i hi).1.2,tw,p1,p2,λk hk=>ak6 hb ho (λi hi=>(hV i hi).2) bw p1 p2 hk⟩
theorem Bf.nb{V:Nat->Int × Int}{i j:Nat}(h:Bf V i j):Nb V i j:=by
 unfold Nb
 rw[afH]
 unfold le2
 unfold Bf at h
 omega
theorem ayu{c:Nat}{rows:List (List (Int × Int))}{ws:List (Int × Int)}{V:Nat->Int × Int}(h5:Shp c rows)(hw:∀w∈ws,Wt w)(hl:ws.length=rows.length)(hv:∀i,i<c->Wv (.sh ws) (col rows i) (V i)){i j:Nat}(hi:i<c)(hj:j<c)(h:bt rows i j=true):lt2 (V j) (V i)=true:=by
 obtain⟨a,b⟩:=avR h
 have ei:V i=shF (ws.zip (col rows i)) (0,1):=hv i hi
 have ej:V j=shF (ws.zip (col rows j)) (0,1):=hv j hj
 rw[ei,ej]
 have wo:∀l∈rows,∀k,k<c->1<=(at2 l k).2:=λl m k hk=>(avY h5 hk _ (List.mem_map.mpr ⟨l,m,rfl⟩)).2.2.1
 exact avQ i j ws rows (0,1) (0,1) hl (λw m=>⟨(hw w m).2,(hw w m).1.2.2.1⟩) (λl m=>⟨wo l m i hi,wo l m j hj,a l m⟩) (by decide) (by decide) (adu _) (.inr b)
theorem avZ{c:Nat}{rows:List (List (Int × Int))}{ws:List (Int × Int)}{V:Nat->Int × Int}(h5:Shp c rows)(hw:∀w∈ws,Wt w)(hl:ws.length=rows.length)(hv:∀i,i<c->Wv (.sh ws) (col rows i) (V i)){zs:List Nat}(hp:zs.Perm (List.range c))(hs:zs.Pairwise (Nb V)):zs.Pairwise λa b=>bt rows b a=false:=by
 refine hs.imp_of_mem λ{a b} ma mb h=>?_
 have ha:a<c:=by simpa using hp.mem_iff.mp ma
 have hb:b<c:=by simpa using hp.mem_iff.mp mb
 cases z:bt rows b a with
 |false=>rfl
 |true =>
  have:=ayu h5 hw hl hv hb ha z
  unfold Nb at h
  rw[h]at this
  cases this
theorem ayv{c:Nat}{rows:List (List (Int × Int))}{r:Ru}{V:Nat->Int × Int}{z:Nat}{zs:List Nat}(hb:Bk c rows)(ho:alZ rows.length r)(f:Fd c rows r V (z::zs)):∃u∈acg rows (List.range c),V u=V z:=by
 obtain⟨h1,h2,h3,h4,h5⟩:=id hb
 have mz:z∈List.range c:=f.pm.mem_iff.mp (by simp)
 have hz:z<c:=List.mem_range.mp mz
 by_cases m:z∈acg rows (List.range c)
 ·exact⟨z,m,rfl⟩
 obtain⟨o,mo,bo⟩:=avM h5 (λi m=>List.mem_range.mp m) mz m
 have hoc:o<c:=List.mem_range.mp (aew mo)
 refine⟨o,mo,?_⟩
 have l1:le2 (V z) (V o):=by
  refine ayr (r:=r) (avY h5 hz) (avY h5 hoc) (by rw[aqv,aqv]) (by rw[aqv]; exact h1) (by rw[aqv]; exact h2) (by rw[aqv]; exact ho) (λk x y hx hy=>?_) (f.wv z hz) (f.wv o hoc)
  unfold col at hx hy
  rw[List.getElem?_map]at hx hy
  cases q:rows[k]? with
  |none=>rw[q]at hx; cases hx
  |some l =>
   rw[q]at hx hy
   cases hx
   cases hy
   exact(avR bo).1 l (List.mem_of_getElem? q)
 have l2:le2 (V o) (V z):=by
  have mo':o∈z::zs:=f.pm.mem_iff.mpr (aew mo)
  rcases List.mem_cons.mp mo' with rfl|mo'
  ·exact adu _
  ·exact afH.mp ((List.pairwise_cons.mp f.sr).1 o mo').nb
 have fo:=f.fq o hoc
 have fz:=f.fq z hz
 exact alW fo.2.2.1 fz.2.2.1 fo.2.2.2.2 fz.2.2.2.2 l2 l1
theorem held_eq{us:List Tr}{T:Tr}(h:Sm 8000 40 T)(hl:us.length<=1000):adT [.lst us,T]=.ok ((T,false),us++[.lst [T,.str (txt T)]]):=by
 have e:=aoK h
 have m1:=agd (ts:=us) (t:=.lst [T,.str (txt T)]) (by omega)
 unfold adT aqZ fnR
 generalize txt T=S at *
 generalize us++[.lst [T,.str S]]=R at *
 simp -dsimp[aaD,con,drs,dr,isS,others,abr,cls,abS,g1,e,m1]
end K97
end
section
namespace K97
open PySem L2 BH
noncomputable def fiB:SF:=(abM (eOp abf (aah 5) (aah 6)) (gN 5))
theorem aoL{xs ys:List Nat}(h:xs.length+ys.length<=1000):abf (nT xs) (nT ys)=.ok (nT (xs++ys),true):=by
 have:=aq7 (A:=xs.map λi:Nat=>Tr.int i) (B:=ys.map λi:Nat=>Tr.int i) (by rw[List.length_map,List.length_map]; omega)
 rw[<-List.map_append]at this
 exact this
theorem aoM(s0 s1 s2 s3 s4 s7:Sl):∀(Ls:List (List Nat)) (acc:List Nat) (s6:Sl),acc.length+Ls.flatten.length<=1000->∃t6,abC (gN 6) fiB (Ls.map nT) [s0,s1,s2,s3,s4,.sh (nT acc),s6,s7]=.ok (.nx,[s0,s1,s2,s3,s4,.sh (nT (acc++Ls.flatten)),t6,s7])
 | [],acc,s6,_=>⟨s6,by rw[List.flatten_nil,List.append_nil]; rfl⟩
 |L::Ls,acc,s6,h=>by
  rw[List.flatten_cons,List.length_append]at h
  obtain⟨t6,e⟩:=aoM s0 s1 s2 s3 s4 s7 Ls (acc++L) (.sh (nT L)) (by rw[List.length_append]; omega)
  refine⟨t6,?_⟩
  have ea:=aoL (xs:=acc) (ys:=L) (by omega)
  have eb:fiB [s0,s1,s2,s3,s4,.sh (nT acc),.sh (nT L),s7]=.ok (.nx,[s0,s1,s2,s3,s4,.sh (nT (acc++L)),.sh (nT L),s7]):=by
   unfold fiB
   generalize nT (acc++L)=R at *
   generalize nT acc=A at *
   generalize nT L=B at *
   simp -dsimp[drs,dr,isS,ea]
  rw[List.map_cons]
  unfold abC
  rw[show gN 6 (nT L) [s0,s1,s2,s3,s4,.sh (nT acc),s6,s7]=.ok [s0,s1,s2,s3,s4,.sh (nT acc),.sh (nT L),s7]from rfl]
  simp only[Rs.aaJ]
  rw[eb,List.flatten_cons,<-List.append_assoc]
  exact e
theorem aoN(V:Nat->Int × Int):∀(zs:List Nat) (s0 s1:Sl),∃t0 t1,ad2 (gT 2 (aaV (gN 0) (aaV (gN 1) ac6))) ad3 (aah 0) (zs.map (prT V)) [s0,s1]=.ok (zs.map λi:Nat=>Tr.int i,[t0,t1])
 | [],s0,s1=>⟨s0,s1,rfl⟩
 |z::zs,s0,s1=>by
  obtain⟨t0,t1,e⟩:=aoN V zs (.sh (.int (z:Nat))) (.sh (fT (V z)))
  refine⟨t0,t1,?_⟩
  rw[List.map_cons,List.map_cons]
  unfold ad2
  rw[show(gT 2 (aaV (gN 0) (aaV (gN 1) ac6))) (prT V z) [s0,s1]=.ok [.sh (.int (z:Nat)),.sh (fT (V z))]from rfl]
  simp only[Rs.aaJ,aog,if_true]
  rw[show aah 0 [.sh (.int (z:Nat)),.sh (fT (V z))]=.ok (.v (.int (z:Nat)) false,[.sh (.int (z:Nat)),.sh (fT (V z))])from rfl]
  simp only[Rs.aaJ,clV]
  rw[e]
  rfl
noncomputable def wiE:EF:=(abb [none,none] (fSq (aas abR (aae (aah 0) (aae (aah 1) (aae (aah 4) aar))))) (gT 2 (aaV (gN 0) (aaV (gN 1) ac6))) ad3 (aah 0))
noncomputable def wiC:EF:=(abb [none,some 5] (fSq (eOp abf (aah 7) (eSl (aah 3) oNo (afT (aah 4))))) (gN 0) (abk (eOp (gIn not) (aah 0) (aah 1))) (aah 0))
noncomputable def wiF:SF:=(ad0 (fSq (eSl (aah 2) oNo (afT (aah 4)))) (gN 6) fiB)
noncomputable def wiB:SF:=(aaI (abM (ae9 aar) (gN 5)) (aaI wiF (aaI (abM wiE (gN 7)) (sIf (abk (eOp gGt (eCB (g1 abg) (aae wiC aar)) (eC (.int 0)))) (abm (eC (.bl false))) adZ))))
theorem amC:alN=(aaI (abM (aas acw (aae (aas aaP (aae (aah 0) (aae (aah 1) aar))) aar)) (gN 3)) (aaI (acU (ad0 (aeX (aae (eOp abf (eCB (g1 abg) (aae (eOp gIx (aah 0) (eC (.int 0))) aar)) (eC (.int 1))) aar)) (gN 4) wiB)) (abm (eC (.bl true))))):=rfl
theorem av0{B R:Tr}{V:Nat->Int × Int}{zs:List Nat}{k:Nat}(hz:zs.length<=12)(hf:abR [B,R,.int (k:Nat)]=.ok (.lst ((zs.take k).map (prT V)),true))(s2 s3 s5 s6 s7:Sl):wiE [.sh B,.sh R,s2,s3,.sh (.int (k:Nat)),s5,s6,s7]=.ok (.v (nT (zs.take k)) true,[.sh B,.sh R,s2,s3,.sh (.int (k:Nat)),s5,s6,s7]):=by
 obtain⟨t0,t1,e⟩:=aoN V (zs.take k) .un .un
 have hl:((zs.take k).map (prT V)).length<=100000:=by
  rw[List.length_map,List.length_take]
  omega
 have e3:nT (zs.take k)=.lst ((zs.take k).map λi:Nat=>Tr.int i):=rfl
 rw[e3]
 unfold wiE
 generalize (zs.take k).map (λi:Nat=>Tr.int i)=Y at *
 generalize (zs.take k).map (prT V)=L at *
 generalize (k:Int)=N at *
 simp -dsimp[drs,dr,isS,hf,acD,hl,abX,e,abS,ab3,abv]
theorem av1{few turned first:List Nat}{k:Nat}(h1:few.length<=12)(h2:turned.length<=12)(hs:∀t∈few++turned.take k,t∈first)(s0 s1 s2 s6:Sl):wiC [s0,s1,s2,.sh (nT turned),.sh (.int (k:Nat)),.sh (nT first),s6,.sh (nT few)]=.ok (.v (.lst []) true,[s0,s1,s2,.sh (nT turned),.sh (.int (k:Nat)),.sh (nT first),s6,.sh (nT few)]):=by
 have es:gSl none (some (k:Int)) (nT turned)=.ok (nT (turned.take k),true):=by
  show gSl none (some (k:Int)) (.lst (turned.map λi:Nat=>Tr.int i))=_
  rw[aq6,<-List.map_take]
  rfl
 have ea:=aoL (xs:=few) (ys:=turned.take k) (by rw[List.length_take]; omega)
 have ei:fSq (eOp abf (aah 7) (eSl (aah 3) oNo (afT (aah 4)))) [s0,s1,s2,.sh (nT turned),.sh (.int (k:Nat)),.sh (nT first),s6,.sh (nT few)]=.ok ((few++turned.take k).map λi:Nat=>Tr.int i,[s0,s1,s2,.sh (nT turned),.sh (.int (k:Nat)),.sh (nT first),s6,.sh (nT few)]):=by
  have e3:nT (few++turned.take k)=.lst ((few++turned.take k).map λi:Nat=>Tr.int i):=rfl
  rw[e3]at ea
  generalize (few++turned.take k).map (λi:Nat=>Tr.int i)=Y at *
  generalize nT (turned.take k)=Z2 at *
  generalize nT turned=Z3 at *
  generalize nT few=Z4 at *
  generalize nT first=Z5 at *
  generalize (k:Int)=N at *
  simp -dsimp[drs,dr,isS,iOf,es,ea,acD]
 have e2:=aql (r:=λi:Nat=>Tr.int i) (p:=λt=>!(first.any (· == t))) (xs:=few++turned.take k) (rest:=[some 5]) (c:=(abk (eOp (gIn not) (aah 0) (aah 1)))) (by rw[List.length_append,List.length_take]; omega) ei rfl (λs'=>rfl) (λs'=>rfl) (λt _=>by
  have:=al1 t first
  dsimp only[abX,List.map]
  generalize nT first=U at this ⊢
  simp -dsimp[acT,dr,this,bOf])
 have en:(few++turned.take k).filter (λt=>!(first.any (· == t)))=[]:=by
  rw[List.filter_eq_nil_iff]
  intro t mt z
  rw[Bool.not_eq_true',List.any_eq_false]at z
  exact z t (hs t mt) (by simp)
 rw[en]at e2
 exact e2
end K97
end
section
namespace K97
open PySem L2 BH
theorem al5:∀(Ls:List (List Nat)),(∀L∈Ls,L.length<=12)->Ls.flatten.length<=Ls.length*12
 | [],_=>Nat.le_refl _
 |L::Ls,h=>by
  rw[List.flatten_cons,List.length_append,List.length_cons,Nat.succ_mul]
  have a:=h L (by simp)
  have b:=al5 Ls λM m=>h M (List.mem_cons_of_mem _ m)
  omega
theorem av2{c:Nat}{rows:List (List (Int × Int))}(hc:c<=12)(k:Nat)(s0 s1 s3 s6 s7:Sl):∃t6,wiF [s0,s1,.sh (lyT c rows),s3,.sh (.int (k:Nat)),.sh (.lst []),s6,s7]=.ok (.nx,[s0,s1,.sh (lyT c rows),s3,.sh (.int (k:Nat)),.sh (nT ((lays rows (c+1) (List.range c)).take k).flatten),t6,s7]):=by
 have l1:=ajd rows (c+1) (List.range c)
 have l2:=al5 ((lays rows (c+1) (List.range c)).take k) λL m=>by
  have:=(aje rows (c+1) (List.range c) L (List.mem_of_mem_take m)).1
  rw[List.length_range]at this
  omega
 have l3:((lays rows (c+1) (List.range c)).take k).length<=13:=by rw[List.length_take]; omega
 obtain⟨t6,e⟩:=aoM s0 s1 (.sh (lyT c rows)) s3 (.sh (.int (k:Nat))) s7 ((lays rows (c+1) (List.range c)).take k) [] s6 (by simp only[List.length_nil]; omega)
 refine⟨t6,?_⟩
 rw[List.nil_append]at e
 have es:gSl none (some (k:Int)) (lyT c rows)=.ok (.lst (((lays rows (c+1) (List.range c)).take k).map nT),true):=by
  unfold lyT
  rw[aq6,<-List.map_take]
 have e:abC (gN 6) fiB (((lays rows (c+1) (List.range c)).take k).map nT) [s0,s1,.sh (lyT c rows),s3,.sh (.int (k:Nat)),.sh (.lst []),s6,s7]=_:=e
 unfold wiF
 generalize nT ((lays rows (c+1) (List.range c)).take k).flatten=R at *
 generalize ((lays rows (c+1) (List.range c)).take k).map nT=L at *
 generalize lyT c rows=Y at *
 generalize (k:Int)=N at *
 have ef:fSq (eSl (aah 2) oNo (afT (aah 4))) [s0,s1,.sh Y,s3,.sh (.int N),.sh (.lst []),s6,s7]=.ok (L,[s0,s1,.sh Y,s3,.sh (.int N),.sh (.lst []),s6,s7]):=by
  simp -dsimp[drs,dr,isS,iOf,es,acD]
 generalize fSq _=G at ef ⊢
 unfold ad0
 simp -dsimp[ef]
 exact e
theorem av3{c:Nat}{rows:List (List (Int × Int))}{ws:List (Int × Int)}{V:Nat->Int × Int}{zs turned:List Nat}(hb:Bk c rows)(hw:∀w∈ws,Wt w)(hl:ws.length=rows.length)(f:Fd c rows (.sh ws) V zs)(tp:turned.Perm (List.range c))(ts:turned.Pairwise (Nb V)){k:Nat}(hk:k<=c)(s5 s6 s7:Sl) :
  ∃t5 t6 t7,wiB [.sh (bkT rows),.sh (ruT (.sh ws)),.sh (lyT c rows),.sh (nT turned),.sh (.int (k:Nat)),s5,s6,s7]=.ok (.nx,[.sh (bkT rows),.sh (ruT (.sh ws)),.sh (lyT c rows),.sh (nT turned),.sh (.int (k:Nat)),t5,t6,t7]):=by
 obtain⟨h1,h2,h3,h4,h5⟩:=id hb
 obtain⟨t6,eF⟩:=av2 (rows:=rows) h4 k (.sh (bkT rows)) (.sh (ruT (.sh ws))) (.sh (nT turned)) s6 s7
 have zl:zs.length=c:=by simpa using f.pm.length_eq
 have tl:turned.length=c:=by simpa using tp.length_eq
 have eE:=av0 (k:=k) (zs:=zs) (by omega) (f.few k hk) (.sh (lyT c rows)) (.sh (nT turned)) (.sh (nT ((lays rows (c+1) (List.range c)).take k).flatten)) t6 s7
 have eC:=av1 (few:=zs.take k) (turned:=turned) (first:=((lays rows (c+1) (List.range c)).take k).flatten) (k:=k) (by rw[List.length_take]; omega) (by omega) (λt m=>by
  rcases List.mem_append.mp m with m|m
  ·exact firsts h5 f.pm (avZ h5 hw hl f.wv f.pm (f.sr.imp λh=>h.nb)) m
  ·exact firsts h5 tp (avZ h5 hw hl f.wv tp ts) m) (.sh (bkT rows)) (.sh (ruT (.sh ws))) (.sh (lyT c rows)) t6
 refine⟨.sh (nT ((lays rows (c+1) (List.range c)).take k).flatten),t6,.sh (nT (zs.take k)),?_⟩
 have eg:gGt (.int 0) (.int 0)=.ok (.bl false,false):=rfl
 have el:abg (.lst [])=.ok (.int 0,false):=rfl
 unfold wiB
 generalize wiF=G1 at eF ⊢
 generalize wiE=G2 at eE ⊢
 generalize wiC=G3 at eC ⊢
 generalize nT ((lays rows (c+1) (List.range c)).take k).flatten=R at *
 generalize nT (zs.take k)=R2 at *
 generalize lyT c rows=Y at *
 generalize bkT rows=B at *
 generalize ruT (.sh ws)=U at *
 generalize nT turned=Z at *
 generalize (k:Int)=N at *
 simp -dsimp[drs,dr,isS,cls,eF,eE,eC,g1,el,eg,bOf]
theorem aoO{c:Nat}{rows:List (List (Int × Int))}{ws:List (Int × Int)}{V:Nat->Int × Int}{zs turned:List Nat}(hb:Bk c rows)(hw:∀w∈ws,Wt w)(hl:ws.length=rows.length)(f:Fd c rows (.sh ws) V zs)(tp:turned.Perm (List.range c))(ts:turned.Pairwise (Nb V)):∀(ks:List Nat),(∀k∈ks,k<=c)->∀(s4 s5 s6 s7:Sl),
  ∃t4 t5 t6 t7,abC (gN 4) wiB (ks.map iT) [.sh (bkT rows),.sh (ruT (.sh ws)),.sh (lyT c rows),.sh (nT turned),s4,s5,s6,s7]=.ok (.nx,[.sh (bkT rows),.sh (ruT (.sh ws)),.sh (lyT c rows),.sh (nT turned),t4,t5,t6,t7])
 | [],_,s4,s5,s6,s7=>⟨s4,s5,s6,s7,rfl⟩
 |k::ks,h,s4,s5,s6,s7=>by
  obtain⟨a5,a6,a7,e⟩:=av3 hb hw hl f tp ts (h k (by simp)) s5 s6 s7
  obtain⟨t4,t5,t6,t7,e'⟩:=aoO hb hw hl f tp ts ks (λj m=>h j (List.mem_cons_of_mem _ m)) (.sh (iT k)) a5 a6 a7
  refine⟨t4,t5,t6,t7,?_⟩
  rw[List.map_cons]
  unfold abC
  rw[show gN 4 (iT k) [.sh (bkT rows),.sh (ruT (.sh ws)),.sh (lyT c rows),.sh (nT turned),s4,s5,s6,s7]=.ok [.sh (bkT rows),.sh (ruT (.sh ws)),.sh (lyT c rows),.sh (nT turned),.sh (.int (k:Nat)),s5,s6,s7]from rfl]
  simp only[Rs.aaJ]
  rw[e]
  exact e'
theorem av4(ks:List Nat):ks.map iT=ks.map λi:Nat=>Tr.int i:=rfl
theorem okc{c:Nat}(hc:c<=12):okR ((c+1:Nat):Int)=true:=by
 unfold okR
 rw[Bool.and_eq_true,decide_eq_true_eq,decide_eq_true_eq]
 omega
theorem upc(c:Nat):L2.upTo 0 ((c+1:Nat):Int).toNat=(List.range (c+1)).map iT:=by
 rw[Int.toNat_natCast,aef,av4]
theorem av5(c:Nat):abf (.int (c:Int)) (.int 1)=.ok (.int ((c+1:Nat):Int),false):=rfl
noncomputable def wiR:IF:=aeX (aae (eOp abf (eCB (g1 abg) (aae (eOp gIx (aah 0) (eC (.int 0))) aar)) (eC (.int 1))) aar)
theorem asT{B B2:Tr}{M N:Int}{Y:List Tr}(e3:gIx B (.int 0)=.ok (B2,false))(e4:abg B2=.ok (.int M,false))(e5:abf (.int M) (.int 1)=.ok (.int N,false))(ok:okR N=true)(eu:L2.upTo 0 N.toNat=Y)(τ : En):wiR (.sh B::τ)=.ok (Y,.sh B::τ):=by
 unfold wiR
 simp -dsimp[drs,dr,isS,g1,e3,e4,e5,ok,eu]
theorem av6{B B2:Tr}{c:Nat}(hc:c<=12)(e3:gIx B (.int 0)=.ok (B2,false))(e4:abg B2=.ok (.int (c:Int),false))(τ : En):wiR (.sh B::τ)=.ok ((List.range (c+1)).map iT,.sh B::τ):=asT e3 e4 (av5 c) (okc hc) (upc c) τ
theorem av7{B U Y Z:Tr}{L:List Tr}{ρ : En}(eR:wiR [.sh B,.sh U,.sh Y,.sh Z,.un,.un,.un,.un]=.ok (L,[.sh B,.sh U,.sh Y,.sh Z,.un,.un,.un,.un]))(e:abC (gN 4) wiB L [.sh B,.sh U,.sh Y,.sh Z,.un,.un,.un,.un]=.ok (.nx,ρ)):acU (ad0 wiR (gN 4) wiB) [.sh B,.sh U,.sh Y,.sh Z,.un,.un,.un,.un]=.ok (.nx,ρ):=by
 generalize wiR=G at eR ⊢
 generalize wiB=G2 at e ⊢
 unfold acU ad0
 simp -dsimp[eR,e]
 rfl
theorem av8{B U Y Z W:Tr}{G:SF}{t4 t5 t6 t7:Sl}(etw:aaP [B,U]=.ok (W,true))(eo:acw [W]=.ok (Z,true))(ef:G [.sh B,.sh U,.sh Y,.sh Z,.un,.un,.un,.un]=.ok (.nx,[.sh B,.sh U,.sh Y,.sh Z,t4,t5,t6,t7])):fnP 8 (aaI (abM (aas acw (aae (aas aaP (aae (aah 0) (aae (aah 1) aar))) aar)) (gN 3)) (aaI G (abm (eC (.bl true))))) [B,U,Y]=.ok (.bl true,false):=by
 unfold fnP
 simp -dsimp[aaD,drs,dr,isS,etw,eo,ef]
theorem aoP{c:Nat}{rows:List (List (Int × Int))}{ws:List (Int × Int)}(hb:Bk c rows)(hw:∀w∈ws,Wt w)(hl:ws.length=rows.length):aeo [bkT rows,ruT (.sh ws),lyT c rows]=.ok (.bl true,false):=by
 obtain⟨h1,h2,h3,h4,h5⟩:=id hb
 obtain⟨V,zs,f⟩:=found (r:=.sh ws) hb ⟨hl,λw m=>(hw w m).1⟩
 obtain⟨turned,eo,tp,ts⟩:=aj3 f.fq h4
 obtain⟨t4,t5,t6,t7,e⟩:=aoO hb hw hl f tp ts (List.range (c+1)) (λk m=>by have:=List.mem_range.mp m; omega) .un .un .un .un
 obtain⟨l,hl0⟩:∃l,rows[0]?=some l:=⟨_,List.getElem?_eq_getElem (by omega)⟩
 have e3:gIx (bkT rows) (.int 0)=.ok (aaX l,false):=acP (i:=0) (by rw[List.getElem?_map,hl0]; rfl)
 have e4:=ajf l
 rw[(h5 l (List.mem_of_getElem? hl0)).1]at e4
 have nz:nT turned=.lst (turned.map iT):=rfl
 rw[nz]at e
 unfold aeo
 rw[amC]
 exact av8 f.tw eo (av7 (av6 h4 e3 e4 _) e)
end K97
end
section
namespace K97
open PySem L2 BH
theorem ayw{T:Tr}{l:List Tr}(m:T∈l)(hd:∀t∈l,dep t<=40):gIn not T (.lst l)=.ok (.bl false,false):=by
 have a:apq T l=true:=List.any_eq_true.mpr ⟨T,m,afs T⟩
 show(if deps l<=40/\dep T<=40 then Rs.ok (Tr.bl (!(apq T l)),false)else .bad)=_
 rw[if_pos ⟨aok hd,hd T m⟩,a]
 rfl
noncomputable def rcE:EF:=(abb [none,some 9] (fSq (eOp gIx (aah 5) (eC (.int 0)))) (gN 0) ad3 (eOp gIx (aah 1) (aah 0)))
theorem av9{c:Nat}{rows:List (List (Int × Int))}{V:Nat->Int × Int}(h1:1<=c)(hc:c<=12)(s0 s1 s2 s3 s4 s6 s7 s8 s10:Sl):rcE [s0,s1,s2,s3,s4,.sh (lyT c rows),s6,s7,s8,.sh (vT V c),s10]=.ok (.v (.lst ((acg rows (List.range c)).map λi=>fT (V i))) true,[s0,s1,s2,s3,s4,.sh (lyT c rows),s6,s7,s8,.sh (vT V c),s10]):=by
 have e0:gIx (lyT c rows) (.int 0)=.ok (nT (acg rows (List.range c)),false):=acP (i:=0) (by rw[lay0 h1]; rfl)
 have ei:fSq (eOp gIx (aah 5) (eC (.int 0))) [s0,s1,s2,s3,s4,.sh (lyT c rows),s6,s7,s8,.sh (vT V c),s10]=.ok ((acg rows (List.range c)).map λi:Nat=>Tr.int i,[s0,s1,s2,s3,s4,.sh (lyT c rows),s6,s7,s8,.sh (vT V c),s10]):=by
  have e3:nT (acg rows (List.range c))=.lst ((acg rows (List.range c)).map λi:Nat=>Tr.int i):=rfl
  rw[e3]at e0
  generalize (acg rows (List.range c)).map (λi:Nat=>Tr.int i)=Y at *
  generalize lyT c rows=L at *
  generalize vT V c=W at *
  simp -dsimp[drs,dr,isS,e0,acD]
 have ul:(acg rows (List.range c)).length<=(List.range c).length:=List.length_filter_le ..
 rw[List.length_range]at ul
 exact asJ (r:=λi:Nat=>Tr.int i) (h:=λi=>fT (V i)) (xs:=acg rows (List.range c)) (rest:=[some 9]) (fe:=(eOp gIx (aah 1) (aah 0))) (by omega) ei rfl (λs'=>rfl) (λs'=>rfl) (λi m=>⟨false,by
  have a:gIx (vT V c) (.int (i:Nat))=.ok (fT (V i),false):=asN (List.mem_range.mp (aew m))
  dsimp only[abX,List.map]
  generalize vT V c=W at *
  generalize fT (V i)=X at *
  generalize (i:Int)=N at *
  simp -dsimp[acT,drs,dr,isS,a]⟩)
end K97
end
section
namespace K97
open PySem L2 BH
noncomputable def ruB:SF:=(aaI (abM (aaT 0 adT (aae (aah 2) (aae (aas aaP (aae (aah 4) (aae (aah 8) aar))) aar))) (gN 9)) (aaI (abM (eOp gIx (eOp gIx (aaT 0 adT (aae (aah 2) (aae (aas abR (aae (aah 4) (aae (aah 8) (aae (eC (.int 1)) aar)))) aar))) (eC (.int 0))) (eC (.int 1))) (gN 10)) (sIf (abk (eOp (gIn not) (aah 10) rcE)) (abm (eC (.bl false))) adZ)))
theorem awa{us us1 us2:List Tr}{B R W L X Z F:Tr}{s0 s1 s3 s5 s6 s7 s9 s10:Sl}(a1:aaP [B,R]=.ok (W,true))(a2:adT [.lst us,W]=.ok ((W,false),us1))(a3:abR [B,R,.int 1]=.ok (L,true))(a4:adT [.lst us1,L]=.ok ((L,false),us2))(a5:gIx L (.int 0)=.ok (Z,false))(a6:gIx Z (.int 1)=.ok (X,false))(a7:rcE [s0,s1,.ow us2,s3,.sh B,s5,s6,s7,.sh R,.sh W,.sh X]=.ok (.v F true,[s0,s1,.ow us2,s3,.sh B,s5,s6,s7,.sh R,.sh W,.sh X]))(a8:gIn not X F=.ok (.bl false,false)) :
  ruB [s0,s1,.ow us,s3,.sh B,s5,s6,s7,.sh R,s9,s10]=.ok (.nx,[s0,s1,.ow us2,s3,.sh B,s5,s6,s7,.sh R,.sh W,.sh X]):=by
 unfold ruB
 generalize rcE=G at a7 ⊢
 simp -dsimp[con,drs,dr,isS,others,abr,cls,a1,a2,a3,a4,a5,a6,a7,a8,bOf]
theorem awb{c:Nat}{rows:List (List (Int × Int))}{r:Ru}(hb:Bk c rows)(ho:alZ rows.length r){us:List Tr}(hu:∀u∈us,Hd u)(hl:us.length<=900)(s0 s1 s3 s6 s7 s9 s10:Sl):∃us' t9 t10,ruB [s0,s1,.ow us,s3,.sh (bkT rows),.sh (lyT c rows),s6,s7,.sh (ruT r),s9,s10]=.ok (.nx,[s0,s1,.ow us',s3,.sh (bkT rows),.sh (lyT c rows),s6,s7,.sh (ruT r),t9,t10])/\us'.length=us.length+2/\∀u∈us',Hd u:=by
 obtain⟨h1,h2,h3,h4,h5⟩:=id hb
 obtain⟨V,zs,f⟩:=found hb ho
 have zl:zs.length=c:=by simpa using f.pm.length_eq
 obtain⟨z,zs',rfl⟩:∃z zs',zs=z::zs':=by
  cases zs with
  |nil=>simp at zl; omega
  |cons z l=>exact⟨z,l,rfl⟩
 have hz:z<c:=by simpa using f.pm.mem_iff.mp (List.mem_cons_self ..)
 have sV:=ays f.fq h4
 have few:=f.few 1 h3
 have sL:Sm 8000 40 (.lst [prT V z]):=ayt f.fq h4 (zs:=[z]) (λy m=>by rw[List.mem_singleton.mp m]; exact hz) (by simp)
 obtain⟨u,mu,eu⟩:=ayv hb ho f
 have a2:=held_eq (us:=us) sV (by omega)
 have a4:=held_eq (us:=us++[.lst [vT V c,.str (txt (vT V c))]]) sL (by rw[List.length_append]; simp; omega)
 refine⟨_,_,_,awa (s9:=s9) (s10:=s10) f.tw a2 few a4 (Z:=prT V z) (X:=fT (V z)) rfl rfl (av9 h3 h4 ..) (ayw (List.mem_map.mpr ⟨u,mu,by rw[eu]⟩) λt m=>?_),?_,?_⟩
 ·obtain⟨i,_,rfl⟩:=List.mem_map.mp m
  rw[avx]
  omega
 ·simp
 ·intro w m
  rcases List.mem_append.mp m with m|m
  ·rcases List.mem_append.mp m with m|m
   ·exact hu w m
   ·rw[List.mem_singleton.mp m]
    exact⟨_,rfl,sV⟩
  ·rw[List.mem_singleton.mp m]
   exact⟨_,rfl,sL⟩
end K97
end
section
namespace K97
open PySem L2 BH
theorem aoQ{c:Nat}{rows:List (List (Int × Int))}(hb:Bk c rows)(s0 s1 s3 s6 s7:Sl):∀(rs:List Ru),(∀r∈rs,alZ rows.length r)->∀(us:List Tr) (s8 s9 s10:Sl),(∀u∈us,Hd u)->us.length+2*rs.length<=900->∃us' t8 t9 t10,abC (gN 8) ruB (rs.map ruT) [s0,s1,.ow us,s3,.sh (bkT rows),.sh (lyT c rows),s6,s7,s8,s9,s10]=.ok (.nx,[s0,s1,.ow us',s3,.sh (bkT rows),.sh (lyT c rows),s6,s7,t8,t9,t10])/\us'.length=us.length+2*rs.length/\∀u∈us',Hd u
 | [],_,us,s8,s9,s10,hu,_=>⟨us,s8,s9,s10,rfl,rfl,hu⟩
 |r::rs,h,us,s8,s9,s10,hu,hl=>by
  rw[List.length_cons]at hl
  obtain⟨us1,a9,a10,e,l1,h1⟩:=awb hb (h r (by simp)) hu (by omega) s0 s1 s3 s6 s7 s9 s10
  obtain⟨us2,t8,t9,t10,e',l2,h2⟩:=aoQ hb s0 s1 s3 s6 s7 rs (λq m=>h q (List.mem_cons_of_mem _ m)) us1 (.sh (ruT r)) a9 a10 h1 (by omega)
  refine⟨us2,t8,t9,t10,?_,by rw[List.length_cons]; omega,h2⟩
  rw[List.map_cons]
  unfold abC
  rw[show gN 8 (ruT r) [s0,s1,.ow us,s3,.sh (bkT rows),.sh (lyT c rows),s6,s7,s8,s9,s10]=.ok [s0,s1,.ow us,s3,.sh (bkT rows),.sh (lyT c rows),s6,s7,.sh (ruT r),s9,s10]from rfl]
  simp only[Rs.aaJ]
  rw[e]
  exact e'
noncomputable def lsC:BF:=(abk (eOp gNe (eCB (g1 ao9) (aae (eOp gIx (aah 0) (eC (.int 0))) aar)) (eOp gIx (aah 0) (eC (.int 1)))))
theorem awc{u:Tr}(h:Hd u):lsC [.sh u]=.ok (false,[.sh u]):=by
 obtain⟨T,rfl,hT⟩:=h
 have a1:gIx (.lst [T,.str (txt T)]) (.int 0)=.ok (T,false):=rfl
 have a2:gIx (.lst [T,.str (txt T)]) (.int 1)=.ok (.str (txt T),false):=rfl
 have a3:=aoK hT
 have a4:=ai8 (T:=.str (txt T)) (by rw[aaE]; omega)
 unfold lsC
 generalize Tr.lst [T,.str (txt T)]=U at *
 generalize Tr.str (txt T)=S at *
 simp -dsimp[drs,dr,isS,a1,a2,a3,a4,g1,bOf]
end K97
end
section
namespace K97
open PySem L2 BH
noncomputable def ps(a b:Int):Sl:=.ow [.int a,.int b]
noncomputable def hT(T:Tr):Tr:=.lst [T,.str (txt T)]
noncomputable def tA1:SF:=(abM (aaT 0 af7 (aae (aah 1) aar)) (gN 4))
noncomputable def tA2:SF:=(abM (aaT 0 adT (aae (aah 2) (aae (aas acf (aae (aah 4) aar)) aar))) (gN 5))
noncomputable def tA3:SF:=(sIf (abk (eOp gNe (aaT 0 adT (aae (aah 2) (aae (aas ady (aae (aah 4) aar)) aar))) (eOp gIx (aah 5) (eC (.int 0))))) (abm (eC (.bl false))) adZ)
noncomputable def tA4:SF:=(abM (akg (aae (eC (.str "shares")) (aae (aaT 0 aeO (aae (aah 1) (aae (eCB (g1 abg) (aae (aah 4) aar)) aar))) aar))) (gN 6))
noncomputable def tA5:SF:=(sIf (aie (afS (aas aeo (aae (aah 4) (aae (aah 6) (aae (aah 5) aar)))))) (abm (eC (.bl false))) adZ)
noncomputable def tA6:SF:=(abM (ae9 (aae (aah 6) (aae (eC (.tup [.str "least"])) (aae (eC (.tup [.str "greatest"])) (aae (eC (.tup [.str "product"])) aar))))) (gN 7))
noncomputable def mdF:EF:=(akg (aae (eC (.str "middle")) (aae (eOp abf (aah 0) (eC (.int 1))) aar)))
noncomputable def mdE:EF:=(abb [none] (aeX (aae (eCB (g1 abg) (aae (aah 4) aar)) aar)) (gN 0) ad3 mdF)
noncomputable def tA7:SF:=(ad0 (fSq (eOp abf (aah 7) mdE)) (gN 8) ruB)
noncomputable def tmB:SF:=aaI tA1 (aaI tA2 (aaI tA3 (aaI tA4 (aaI tA5 (aaI tA6 tA7)))))
theorem asU:avf=(aaI (aii 1 (aas af6 (aae (aah 0) aar))) (aaI (aii 2 (ae9 aar)) (aaI (acU (ad0 (aeX (aae (eC (.int 2)) aar)) (gN 3) tmB)) (atg 2 (abm (eOp gEq (eCB (g1 abg) (aae (abb [none] (fSq (aah 2)) (gN 0) lsC (aah 0)) aar)) (eC (.int 0)))))))):=rfl
theorem ayx{α : Type}(r : α -> Tr)(xs:List α):gEq (.int (((xs.filter λ_=>false).map r).length:Int)) (.int 0)=.ok (.bl true,false):=by
 rw[show(xs.filter λ_=>false)=[] by simp]
 rfl
theorem sq{f g:SF}{ρ ρ2:En}(h:f ρ=.ok (.nx,ρ2)):aaI f g ρ = g ρ2:=by
 rw[aod,h]
 rfl
noncomputable def mids(n:Nat):List Ru:=(List.range n).map λi=>.mid (i+1)
theorem awd(i:Nat):mdF [.sh (.int (i:Nat))]=.ok (.v (ruT (.mid (i+1))) false,[.sh (.int (i:Nat))]):=by
 have e:=av5 i
 have e2:ruT (.mid (i+1))=.tup [.str "middle",.int ((i+1:Nat):Int)]:=rfl
 rw[e2]
 unfold mdF
 generalize ((i+1:Nat):Int)=M at *
 generalize (i:Int)=N at *
 simp -dsimp[drs,dr,isS,cls,e]
theorem awe{rows:List (List (Int × Int))}(hl:rows.length<=4)(s0 s1 s2 s3 s5 s6 s7 s8 s9 s10:Sl):mdE [s0,s1,s2,s3,.sh (bkT rows),s5,s6,s7,s8,s9,s10]=.ok (.v (.lst ((mids rows.length).map ruT)) true,[s0,s1,s2,s3,.sh (bkT rows),s5,s6,s7,s8,s9,s10]):=by
 have el:=ajg rows
 have q1:(-1000000:Int)<=(rows.length:Int):=by omega
 have q2:(rows.length:Int)<=1000000:=by omega
 have ei:aeX (aae (eCB (g1 abg) (aae (aah 4) aar)) aar) [s0,s1,s2,s3,.sh (bkT rows),s5,s6,s7,s8,s9,s10]=.ok ((List.range rows.length).map λi:Nat=>Tr.int i,[s0,s1,s2,s3,.sh (bkT rows),s5,s6,s7,s8,s9,s10]):=by
  rw[<-aef]
  generalize bkT rows=T at *
  simp -dsimp[drs,dr,okR,q1,q2,el,g1]
 have e:=asJ (r:=λi:Nat=>Tr.int i) (h:=λi=>ruT (.mid (i+1))) (xs:=List.range rows.length) (rest:=[]) (fe:=mdF) (by simp; omega) ei rfl (λs'=>rfl) (λs'=>rfl) (λi _=>⟨false,awd i⟩)
 unfold mids
 rw[List.map_map]
 exact e
theorem awf(a b:Int)(s0 s2 s3 s4 s5 s6 s7 s8 s9 s10:Sl):∃(a' b':Int) (rows:List (List (Int × Int))) (c:Nat),tA1 [s0,ps a b,s2,s3,s4,s5,s6,s7,s8,s9,s10]=.ok (.nx,[s0,ps a' b',s2,s3,.sh (bkT rows),s5,s6,s7,s8,s9,s10])/\Bk c rows:=by
 obtain⟨a',b',rows,c,e,hb⟩:=aqr a b
 refine⟨a',b',rows,c,?_,hb⟩
 generalize bkT rows=B at *
 unfold tA1 ps
 simp -dsimp[con,drs,dr,isS,others,abr,cls,e]
theorem awg{c:Nat}{rows:List (List (Int × Int))}(hb:Bk c rows){us:List Tr}(hl:us.length<=900)(s0 s1 s3 s5 s6 s7 s8 s9 s10:Sl):tA2 [s0,s1,.ow us,s3,.sh (bkT rows),s5,s6,s7,s8,s9,s10]=.ok (.nx,[s0,s1,.ow (us++[hT (lyT c rows)]),s3,.sh (bkT rows),.sh (lyT c rows),s6,s7,s8,s9,s10]):=by
 obtain⟨h1,h2,h3,h4,h5⟩:=id hb
 have e1:acf [bkT rows]=.ok (lyT c rows,true):=aoE hb
 have e2:=held_eq (us:=us) (avV (ls:=rows) h4) (by omega)
 unfold hT
 generalize us++[.lst [lyT c rows,.str (txt (lyT c rows))]]=U at *
 generalize lyT c rows=L at *
 generalize bkT rows=B at *
 unfold tA2
 simp -dsimp[con,drs,dr,isS,others,abr,cls,e1,e2]
theorem awh{c:Nat}{rows:List (List (Int × Int))}(hb:Bk c rows){us:List Tr}(hl:us.length<=900)(s0 s1 s3 s6 s7 s8 s9 s10:Sl):tA3 [s0,s1,.ow us,s3,.sh (bkT rows),.sh (lyT c rows),s6,s7,s8,s9,s10]=.ok (.nx,[s0,s1,.ow (us++[hT (nT (acg rows (List.range c)))]),s3,.sh (bkT rows),.sh (lyT c rows),s6,s7,s8,s9,s10]):=by
 obtain⟨h1,h2,h3,h4,h5⟩:=id hb
 have e1:=akZ hb
 have sm:=avW (ls:=rows) h4
 have e2:=held_eq (us:=us) sm (by omega)
 have e3:gIx (lyT c rows) (.int 0)=.ok (nT (acg rows (List.range c)),false):=acP (i:=0) (by rw[lay0 h3]; rfl)
 have e4:=ai8 (T:=nT (acg rows (List.range c))) sm.2.2
 unfold hT
 generalize nT (acg rows (List.range c))=R at *
 generalize us++[.lst [R,.str (txt R)]]=U at *
 generalize lyT c rows=L at *
 generalize bkT rows=B at *
 unfold tA3
 simp -dsimp[con,drs,dr,isS,others,abr,cls,e1,e2,e3,e4,bOf]
theorem awi(a b:Int){rows:List (List (Int × Int))}(hl:rows.length<=4)(s0 s2 s3 s5 s6 s7 s8 s9 s10:Sl):∃(a' b':Int) (vs:List (Int × Int)),tA4 [s0,ps a b,s2,s3,.sh (bkT rows),s5,s6,s7,s8,s9,s10]=.ok (.nx,[s0,ps a' b',s2,s3,.sh (bkT rows),s5,.sh (ruT (.sh vs)),s7,s8,s9,s10])/\vs.length=rows.length/\∀w∈vs,Wt w:=by
 obtain⟨a',b',vs,e,h1,h2⟩:=amB a b hl
 refine⟨a',b',vs,?_,h1,h2⟩
 have el:=ajg rows
 rw[show ruT (.sh vs)=.tup [.str "shares",aaX vs]from rfl]
 generalize aaX vs=V at *
 generalize bkT rows=B at *
 generalize (rows.length:Int)=N at *
 unfold tA4 ps
 simp -dsimp[con,drs,dr,isS,others,abr,cls,el,g1,e]
theorem awj{B U Y:Tr}(e:aeo [B,U,Y]=.ok (.bl true,false))(s0 s1 s2 s3 s7 s8 s9 s10:Sl):tA5 [s0,s1,s2,s3,.sh B,.sh Y,.sh U,s7,s8,s9,s10]=.ok (.nx,[s0,s1,s2,s3,.sh B,.sh Y,.sh U,s7,s8,s9,s10]):=by
 unfold tA5
 simp -dsimp[drs,dr,isS,cls,e,tru]
theorem awk(U:Tr)(s0 s1 s2 s3 s4 s5 s7 s8 s9 s10:Sl):tA6 [s0,s1,s2,s3,s4,s5,.sh U,s7,s8,s9,s10]=.ok (.nx,[s0,s1,s2,s3,s4,s5,.sh U,.sh (.lst [U,.tup [.str "least"],.tup [.str "greatest"],.tup [.str "product"]]),s8,s9,s10]):=by
 unfold tA6
 simp -dsimp[drs,dr,isS,cls]
noncomputable def rul(ws:List (Int × Int))(n:Nat):List Ru:=[.sh ws,.least,.greatest,.product]++mids n
theorem awl{ws:List (Int × Int)}{n:Nat}(hl:ws.length=n)(hw:∀w∈ws,Wt w):∀r∈rul ws n,alZ n r:=by
 intro r m
 rcases List.mem_append.mp m with m|m
 ·simp only[List.mem_cons,List.not_mem_nil,or_false]at m
  rcases m with rfl|rfl|rfl|rfl
  ·exact⟨hl,λw m=>(hw w m).1⟩
  ·exact trivial
  ·exact trivial
  ·exact trivial
 ·obtain⟨i,mi,rfl⟩:=List.mem_map.mp m
  have:=List.mem_range.mp mi
  exact⟨by omega,by omega⟩
theorem awm{c:Nat}{rows:List (List (Int × Int))}{ws:List (Int × Int)}(hb:Bk c rows)(hw:∀w∈ws,Wt w)(hl:ws.length=rows.length){us:List Tr}(hu:∀u∈us,Hd u)(hn:us.length<=800)(s0 s1 s3 s6 s8 s9 s10:Sl):∃us' t8 t9 t10,tA7 [s0,s1,.ow us,s3,.sh (bkT rows),.sh (lyT c rows),s6,.sh (.lst [ruT (.sh ws),.tup [.str "least"],.tup [.str "greatest"],.tup [.str "product"]]),s8,s9,s10]=.ok (.nx,[s0,s1,.ow us',s3,.sh (bkT rows),.sh (lyT c rows),s6,.sh (.lst [ruT (.sh ws),.tup [.str "least"],.tup [.str "greatest"],.tup [.str "product"]]),t8,t9,t10])/\us'.length<=us.length+16/\∀u∈us',Hd u:=by
 obtain⟨h1,h2,h3,h4,h5⟩:=id hb
 have ln:(rul ws rows.length).length=4+rows.length:=by unfold rul mids; simp; omega
 obtain⟨us',t8,t9,t10,e,g1,g2⟩:=aoQ hb s0 s1 s3 s6 (.sh (.lst [ruT (.sh ws),.tup [.str "least"],.tup [.str "greatest"],.tup [.str "product"]])) (rul ws rows.length) (awl hl hw) us s8 s9 s10 hu (by omega)
 refine⟨us',t8,t9,t10,?_,by omega,g2⟩
 have em:=awe h2 s0 s1 (.ow us) s3 (.sh (lyT c rows)) s6 (.sh (.lst [ruT (.sh ws),.tup [.str "least"],.tup [.str "greatest"],.tup [.str "product"]])) s8 s9 s10
 have ea:abf (.lst [ruT (.sh ws),.tup [.str "least"],.tup [.str "greatest"],.tup [.str "product"]]) (.lst ((mids rows.length).map ruT))=.ok (.lst ((rul ws rows.length).map ruT),true):=by
  have:=aq7 (A:=[ruT (.sh ws),.tup [.str "least"],.tup [.str "greatest"],.tup [.str "product"]]) (B:=(mids rows.length).map ruT) (by unfold mids; simp; omega)
  rw[this]
  unfold rul
  rw[List.map_append]
  rfl
 generalize (rul ws rows.length).map ruT=L at *
 generalize (mids rows.length).map ruT=M at *
 generalize [ruT (.sh ws),.tup [.str "least"],.tup [.str "greatest"],.tup [.str "product"]]=Q at *
 generalize bkT rows=B at *
 generalize lyT c rows=Y at *
 have ef:fSq (eOp abf (aah 7) mdE) [s0,s1,.ow us,s3,.sh B,.sh Y,s6,.sh (.lst Q),s8,s9,s10]=.ok (L,[s0,s1,.ow us,s3,.sh B,.sh Y,s6,.sh (.lst Q),s8,s9,s10]):=by
  generalize mdE=G at em ⊢
  simp -dsimp[drs,dr,isS,cls,em,ea,acD]
 unfold tA7
 generalize fSq _=G at ef ⊢
 generalize ruB=G2 at e ⊢
 unfold ad0
 simp -dsimp[ef]
 exact e
theorem awn(a b:Int){us:List Tr}(hu:∀u∈us,Hd u)(hn:us.length<=700)(s0 s3 s4 s5 s6 s7 s8 s9 s10:Sl):∃(a' b':Int) (us':List Tr) (t4 t5 t6 t7 t8 t9 t10:Sl),tmB [s0,ps a b,.ow us,s3,s4,s5,s6,s7,s8,s9,s10]=.ok (.nx,[s0,ps a' b',.ow us',s3,t4,t5,t6,t7,t8,t9,t10])/\us'.length<=us.length+18/\∀u∈us',Hd u:=by
 obtain⟨a1,b1,rows,c,e1,hb⟩:=awf a b s0 (.ow us) s3 s4 s5 s6 s7 s8 s9 s10
 obtain⟨h1,h2,h3,h4,h5⟩:=id hb
 have e2:=awg hb (us:=us) (by omega) s0 (ps a1 b1) s3 s5 s6 s7 s8 s9 s10
 have e3:=awh hb (us:=us++[hT (lyT c rows)]) (by simp; omega) s0 (ps a1 b1) s3 s6 s7 s8 s9 s10
 obtain⟨a2,b2,ws,e4,hl,hw⟩:=awi a1 b1 h2 s0 (.ow (us++[hT (lyT c rows)]++[hT (nT (acg rows (List.range c)))])) s3 (.sh (lyT c rows)) s6 s7 s8 s9 s10
 have e5:=awj (aoP hb hw hl) s0 (ps a2 b2) (.ow (us++[hT (lyT c rows)]++[hT (nT (acg rows (List.range c)))])) s3 s7 s8 s9 s10
 have e6:=awk (ruT (.sh ws)) s0 (ps a2 b2) (.ow (us++[hT (lyT c rows)]++[hT (nT (acg rows (List.range c)))])) s3 (.sh (bkT rows)) (.sh (lyT c rows)) s7 s8 s9 s10
 obtain⟨us',t8,t9,t10,e7,g1,g2⟩:=awm hb hw hl (us:=us++[hT (lyT c rows)]++[hT (nT (acg rows (List.range c)))]) (λu m=>by
  rcases List.mem_append.mp m with m|m
  ·rcases List.mem_append.mp m with m|m
   ·exact hu u m
   ·rw[List.mem_singleton.mp m]
    exact⟨_,rfl,avV h4⟩
  ·rw[List.mem_singleton.mp m]
   exact⟨_,rfl,avW h4⟩) (by simp; omega) s0 (ps a2 b2) s3 (.sh (ruT (.sh ws))) s8 s9 s10
 refine⟨a2,b2,us',.sh (bkT rows),.sh (lyT c rows),.sh (ruT (.sh ws)),.sh (.lst [ruT (.sh ws),.tup [.str "least"],.tup [.str "greatest"],.tup [.str "product"]]),t8,t9,t10,?_,by simp at g1; omega,g2⟩
 exact(sq e1).trans ((sq e2).trans ((sq e3).trans ((sq e4).trans ((sq e5).trans ((sq e6).trans e7)))))
theorem aoR(s0:Sl):∀(ts:List Tr) (a b:Int) (us:List Tr) (s3 s4 s5 s6 s7 s8 s9 s10:Sl),(∀u∈us,Hd u)->us.length+18*ts.length<=700->∃t1 us' t3 t4 t5 t6 t7 t8 t9 t10,abC (gN 3) tmB ts [s0,ps a b,.ow us,s3,s4,s5,s6,s7,s8,s9,s10]=.ok (.nx,[s0,t1,.ow us',t3,t4,t5,t6,t7,t8,t9,t10])/\us'.length<=700/\∀u∈us',Hd u
 | [],a,b,us,s3,s4,s5,s6,s7,s8,s9,s10,hu,hn=>⟨_,us,s3,s4,s5,s6,s7,s8,s9,s10,rfl,by simp at hn; omega,hu⟩
 |t::ts,a,b,us,s3,s4,s5,s6,s7,s8,s9,s10,hu,hn=>by
  rw[List.length_cons]at hn
  obtain⟨a',b',us1,t4,t5,t6,t7,t8,t9,t10,e,l1,h1⟩:=awn a b hu (by omega) s0 (.sh t) s4 s5 s6 s7 s8 s9 s10
  obtain⟨r1,us2,r3,r4,r5,r6,r7,r8,r9,r10,e',l2,h2⟩:=aoR s0 ts a' b' us1 (.sh t) t4 t5 t6 t7 t8 t9 t10 h1 (by omega)
  refine⟨r1,us2,r3,r4,r5,r6,r7,r8,r9,r10,?_,l2,h2⟩
  unfold abC
  rw[show gN 3 t [s0,ps a b,.ow us,s3,s4,s5,s6,s7,s8,s9,s10]=.ok [s0,ps a b,.ow us,.sh t,s4,s5,s6,s7,s8,s9,s10]from rfl]
  simp only[Rs.aaJ]
  rw[e]
  exact e'
theorem awo(ns:List Int):amo [.lst (ns.map .int)]=.ok (.bl true,false):=by
 obtain⟨a,b,e1⟩:=aqs ns
 obtain⟨t1,us,t3,t4,t5,t6,t7,t8,t9,t10,e,hl,hu⟩:=aoR (.sh (.lst (ns.map .int))) (L2.upTo 0 2) a b [] .un .un .un .un .un .un .un .un (by simp) (by rw[acZ]; simp)
 have e2:acU (ad0 (aeX (aae (eC (.int 2)) aar)) (gN 3) tmB) [.sh (.lst (ns.map .int)),.ow [.int a,.int b],.ow [],.un,.un,.un,.un,.un,.un,.un,.un]=.ok (.nx,[.sh (.lst (ns.map .int)),t1,.ow us,t3,t4,t5,t6,t7,t8,t9,t10]):=by
  show abS (abC (gN 3) tmB (L2.upTo 0 2) _)=_
  have e:abC (gN 3) tmB (L2.upTo 0 2) [.sh (.lst (ns.map .int)),.ow [.int a,.int b],.ow [],.un,.un,.un,.un,.un,.un,.un,.un]=_:=e
  rw[e]
  rfl
 have e3:=aql (r:=λt:Tr=>t) (p:=λ_=>false) (xs:=us) (ρ:=[.sh (.lst (ns.map .int)),t1,.sh (.lst us),t3,t4,t5,t6,t7,t8,t9,t10]) (rest:=[]) (i:=fSq (aah 2)) (c:=lsC) (by omega) (by rw[List.map_id']; rfl) rfl (λs'=>rfl) (λs'=>rfl) (λu m=>awc (hu u m))
 have n1:=ayx (λt:Tr=>t) us
 have gl:∀ts,abg (.lst ts)=.ok (.int (ts.length:Int),false):=λ_=>rfl
 unfold amo
 rw[asU]
 generalize acU _=G at e2 ⊢
 generalize abb _ _ _ _ _=G3 at e3 ⊢
 generalize (us.filter λ_=>false).map (λt:Tr=>t)=M at *
 generalize Tr.lst (ns.map .int)=S at *
 unfold fnP
 simp -dsimp[aaD,drs,dr,isS,cls,frz,e1,e2,e3,g1,gl,n1]
end K97
end
section
namespace L2
open PySem PySem.Spec PyProof.Rows PySem.W
theorem aoS{P:Program}{w:World}{K:PySem.W.Frag}{mg mb:Str->Option Value}{CX:CXT}{k:Nat}{fa a:Addr}{x:Str}{sp:Sp}{s₁ : Shared}{vs:List Value}{ns:List Int}
  (KX:K.In s₁.heap) (hns:s₁.heap.Ns mainGlobals mg) (hb:s₁.heap.Ns builtinsNs mb) (hbb:∀x:Str,x ≠ "__name__" -> mb x=bootBuiltins x) (hlim:s₁.heap.NoLimit) (hg:s₁.gens = #[])
  (ha:s₁.heap.get? a=some {cls:=.type "list",data:=.seq vs.toArray }) (hi:IntsAre vs ns) (hl:ns.length<=sizeLine) (hr:agj k callerA)
  (hT:∀x∈abu,∀c b,tabIn K x=some (c,b)->CodeHd s₁.heap c b/\s₁.heap.get? b=some (tabObj #[])) (hNT:noTabs K=true) (hB:ap1 mg s₁.heap)
  (F:∀base:Heap,K.In base->base.Ns mainGlobals mg->(∀x∈abu,∀c b,tabIn K x=some (c,b)->CodeHd base c b)->ap1 mg base->∃fd:FuncData,(∀(s:Shared) (u:Value),K.In s.heap->BindsTo s fd ⟨[u],[]⟩ [(x,u)])/\amb P w K mg base CX k fa fd [x] sp)
  (hsp:∀H:Hp,TbS (nlK K) H->SqX K H a (ns.map V.int)->sp [.ref a] H (λv _=>v=.bl true) λ_ _ _=>False)
  (hCX:∀H e s',CX [] H s₁ (λ_ _ _=>False) e s'->False) :
  codeAny (model P w) callerA (.call (.ref fa) ⟨[.ref a],[]⟩) (λr s'=>r=.ok (.ret (.bool true))/\OldK s₁.heap s'.heap/\s'.os=s₁.os/\AllBare s'.gens) s₁ := by
 have rv:=ajE hi
 have lenV:=hi.length
 -- from an abstract heap in which nothing but the script may be tracked
 have hT':∀b,Tb (nlK K) b->∃c,CodeHd s₁.heap c b/\s₁.heap.get? b=some (tabObj #[]):=λb ⟨x,hx,c,e⟩=>⟨c,hT x hx c b (alJ e)⟩
 have core:∀H:Hp,(∀b,H b=none\/(∃o xs,H b=some (.frz o (.lst xs)))\/(H b=some (.tbl #[])/\Tb (nlK K) b))->TbS (nlK K) H->SqX K H a (ns.map V.int)->HOk P w H s₁.heap->(∀b,H b≠none->b=a\/Tb (nlK K) b)->(H a≠none->K.lookup a=none) ->
   codeAny (model P w) callerA (.call (.ref fa) ⟨[.ref a],[]⟩) (λr s'=>r=.ok (.ret (.bool true))/\OldK s₁.heap s'.heap/\s'.os=s₁.os/\AllBare s'.gens) s₁ := by
  intro H hO hTb hS hok hA hK
  have ajh:∀{b:Addr} {o:Obj},s₁.heap.get? b=some o->H b=none->(apb s₁.heap H).get? b=some o:=λe n=>apc e n
  have noA:∀{b:Addr} {o:Obj} {es:Array DictEntry} {ep:Nat},s₁.heap.get? b=some o->o.data=.dict es ep->H b=none:=λ{b o es ep} e d=>by
   cases q:H b with
   |none=>rfl
   |some u =>
    rcases hA b (by rw[q]; simp)with e'|e'
    ·subst e'
     rw[ha]at e; cases e
     have d':Data.seq vs.toArray _=Data.dict es ep:=d
     cases d'
    ·obtain⟨c,_,z⟩:=hT' b e'
     rw[z]at e; cases e
     cases d
  have nsK:∀{b:Addr} {m:Str->Option Value},s₁.heap.Ns b m->(apb s₁.heap H).Ns b m:=λ{b m} ⟨o,es,ep,e,d,r⟩=>⟨o,es,ep,ajh e (noA e d),d,r⟩
  have hKb:K.In (apb s₁.heap H):=λb o e=>ajh (KX b o e) (by
   cases q:H b with
   |none=>rfl
   |some u =>
    rcases hA b (by rw[q]; simp)with e'|e'
    ·subst e'
     rw[hK (by rw[q]; simp)]at e; cases e
    ·obtain⟨c,_,z⟩:=hT' b e'
     have z2:=KX b o e
     rw[z]at z2
     cases z2
     have h2:=List.all_eq_true.mp hNT (b,_) (mem_of_lookupK e)
     exact absurd (show false=true from h2) Bool.false_ne_true)
  have hM:Mod K mg (apb s₁.heap H):=⟨hKb,nsK hns,⟨mb,nsK hb,hbb⟩,let⟨mc,h1,h2⟩:=hlim; ⟨mc,nsK h1,h2⟩⟩
  have e0:awB P w K mg (apb s₁.heap H) callerA [] s₁ H:=⟨rfl,hM,λb o e=>aq9 e,Nat.le_of_eq (am5 _ _),trivial,λb hb=>absurd (show b∈([]:List Addr)from hb) (by simp),hok,.of_eq hg⟩
  have free:∀{b:Addr} {o:Obj},s₁.heap.get? b=some o->o.cls ≠ .none->(∀its n,o.data ≠ .seq its n)->H b=none:=λ{b o} e n1 n2=>by
   cases q:H b with
   |none=>rfl
   |some u =>
    rcases hA b (by rw[q]; simp)with e'|e'
    ·subst e'
     rw[ha]at e; cases e
     exact(n2 _ _ rfl).elim
    ·obtain⟨c,_,z⟩:=hT' b e'
     rw[z]at e; cases e
     exact(n1 rfl).elim
  obtain⟨fd,hbind,F1⟩:=F _ hKb (nsK hns) (λx hx c b e=>by
   obtain⟨o,vs',file,tf,flags,tg,inF,text,tt,e1,r1,r2,r3⟩:=(hT x hx c b e).1
   exact⟨o,vs',file,tf,flags,tg,inF,text,tt,ajh e1 (free e1 (by rw[r1]; intro z; cases z) (λ_ _ z=>by rw[r2]at z; cases z)),r1,r2,r3⟩) (by
   obtain⟨bm,ob,b1,b2,b3,b4,b5,b6,b7⟩:=hB
   exact⟨bm,ob,b1,b2,b3,ajh b4 (free b4 (by rw[b5]; intro z; cases z) (λ_ _ z=>by rw[b7]at z; cases z)),b5,b6,b7⟩)
  refine codeAny_mono (F1.run callerA [] s₁ H ⟨[.ref a],[]⟩ [.ref a] [.ref a] _ _ hr e0 (hbind s₁ (.ref a) KX) (.cons rfl .nil) (hsp H hTb hS)) λr s' h=>?_
  cases r with
  |error e=>exact(hCX H e s' h).elim
  |ok fl =>
   cases fl with
   |next=>exact False.elim h
   |brk=>exact False.elim h
   |cont=>exact False.elim h
   |ret u =>
    obtain⟨v,H',os,bare,un,hok',r',q⟩:=h
    have q':v=.bl true:=q
    subst q'
    obtain rfl:u=Value.bool true:=r'
    refine⟨rfl,⟨λb o e=>?_,λb o e=>un.there b o e (by simp)⟩,os,bare⟩
    cases q:H b with
    |none=>exact .inl (un.keep b o e q (by intro z; exact absurd (show b∈([]:List Addr)from z) (by simp)) (by simp))
    |some u =>
     rcases hO b with z|⟨ob,xs,z⟩|⟨z,zt⟩
     ·rw[q]at z; cases z
     ·have z2:=un.am3 b ob _ z
      obtain⟨e1,_⟩:=hok b _ z
      obtain⟨e2,_⟩:=hok' b _ z2
      rw[e]at e1; cases e1
      exact .inl e2
     ·obtain⟨more,z2⟩:=un.am4 b _ z
      have e1:s₁.heap.get? b=some (tabObj #[]):=hok b _ z
      have e2:s'.heap.get? b=some (tabObj (#[]++more)):=hok' b _ z2
      rw[e]at e1; cases e1
      obtain⟨c,hc,_⟩:=hT' b zt
      exact .inr (.inl ⟨(hc.tab e).isCodeTable,rfl,#[],more,rfl,e2⟩)
 classical
 have azr:∀H:Hp,(∀b,Tb (nlK K) b->H b=some (.tbl #[]))->TbS (nlK K) H:=λH h x hx c b e=>⟨#[],h b ⟨x,hx,c,e⟩,trivial,λpos v z=>by cases z⟩
 have nTa:¬Tb (nlK K) a:=λz=>by
  obtain⟨c,_,e⟩:=hT' a z
  rw[ha]at e
  cases e
 cases hk:K.lookup a with
 |some o =>
  have e:=KX a o hk
  rw[ha]at e
  cases e
  refine core (λb=>if Tb (nlK K) b then some (.tbl #[])else none) (λb=>?_) (azr _ λb z=>if_pos z) (.inr ⟨vs.toArray,_,hk,by rw[List.size_toArray,lenV]; exact hl,by simpa using rv⟩) (λb u z=>?_) (λb z=>?_) λz=>?_
  ·by_cases q:Tb (nlK K) b
   ·exact .inr (.inr ⟨if_pos q,q⟩)
   ·exact .inl (if_neg q)
  ·by_cases q:Tb (nlK K) b
   ·have z':=(if_pos q).symm.trans z
    cases z'
    obtain⟨c,_,e⟩:=hT' b q
    exact e
   ·have z':=(if_neg q).symm.trans z
    cases z'
  ·by_cases q:Tb (nlK K) b
   ·exact .inr q
   ·exact absurd (if_neg q) z
  ·exact absurd (if_neg nTa) z
 |none =>
  refine core (λb=>if b=a then some (.frz {cls:=.type "list",data:=.seq vs.toArray } (.lst (ns.map V.int)))else if Tb (nlK K) b then some (.tbl #[])else none) (λb=>?_) (azr _ λb z=>by
   have nb:¬b=a:=λq=>nTa (by rw[<-q]; exact z)
   exact(if_neg nb).trans (if_pos z)) (.inl (.inr ⟨{cls:=.type "list",data:=.seq vs.toArray },if_pos rfl⟩)) (λb u z=>?_) (λb z=>?_) λ_=>hk
  ·by_cases hb:b=a
   ·exact .inr (.inl ⟨_,_,if_pos hb⟩)
   ·by_cases q:Tb (nlK K) b
    ·exact .inr (.inr ⟨(if_neg hb).trans (if_pos q),q⟩)
    ·exact .inl ((if_neg hb).trans (if_neg q))
  ·by_cases hb:b=a
   ·have z':=(if_pos hb).symm.trans z
    cases z'
    subst hb
    exact⟨ha,by rw[List.length_map]; exact hl,vs,_,rv,ha⟩
   ·have z':=(if_neg hb).symm.trans z
    by_cases q:Tb (nlK K) b
    ·have z':=(if_pos q).symm.trans z'
     cases z'
     obtain⟨c,_,e⟩:=hT' b q
     exact e
    ·have z':=(if_neg q).symm.trans z'
     cases z'
  ·by_cases hb:b=a
   ·exact .inl hb
   ·by_cases q:Tb (nlK K) b
    ·exact .inr q
    ·exact absurd ((if_neg hb).trans (if_neg q)) z
theorem aqw{l:PySem.W.OpenLaw}{n k:Nat}{q:Program}{loose:List Str}{XP:(Str->Option Value)->Heap->Prop}{YP:World->Heap->Prop}{d:DefRec}{K:Params->PySem.W.Frag}{CX:World->CXT}{sp:World->Sp}{x:Str}
  (hn:l.most=some n) (hn2:n<=sizeLine) (hdf:d.params.defaults=[]) (hr:agj k callerA)
  (awp:∀x∈abu,((recsOf q).find? (λe=>e.name == x)).isSome=true\/∀w:World,nsIn (K w.params) mainGlobals x=some none) (hNT:∀w:World,noTabs (K w.params)=true)
  (hY:∀(w:World) (h:Heap),YP w h->(K w.params).In h)
  (F:∀(w:World) (mg:Str->Option Value) (fa:Addr) (h:Heap),(K w.params).In h->h.Ns mainGlobals mg->mg d.name=some (.ref fa) ->
   ∀base:Heap,(K w.params).In base->base.Ns mainGlobals mg->(∀x∈abu,∀c b,tabIn (K w.params) x=some (c,b)->CodeHd base c b)->ap1 mg base->∃fd:FuncData,(∀(s:Shared) (u:Value),(K w.params).In s.heap->BindsTo s fd ⟨[u],[]⟩ [(x,u)])/\amb l.prog w (K w.params) mg base (CX w) k fa fd [x] (sp w))
  (hsp:∀(w:World) (H:Hp) (a:Addr) (ns:List Int),ns.length<=n->TbS (nlK (K w.params)) H->SqX (K w.params) H a (ns.map V.int)->sp w [.ref a] H (λv _=>v=.bl true) λ_ _ _=>False)
  (hCX:∀(w:World) (H:Hp) (s:Shared) (e:Value) (s':Shared),CX w [] H s (λ_ _ _=>False) e s'->False) :
  PySem.W.WalkO q loose XP YP l.row.toRowW d [] (λf vs=>PySem.call f vs):=by
 refine Att.akn hn hdf λw s₀ s₁ mg mb fa o pm cd doc a vs ns G Y ho hd hcd hmg hobj hints hlen hg=>?_
 have KX:=hY w _ Y
 have hT:∀x∈abu,∀c b,tabIn (K w.params) x=some (c,b)->CodeHd s₁.heap c b/\s₁.heap.get? b=some (tabObj #[]):=λx hx c b e=>by
  rcases awp x hx with z|z
  ·obtain⟨d,z⟩:=Option.isSome_iff_exists.mp z
   exact tab_of G.T KX z e
  ·rw[alK (z w)]at e; cases e
 have hB:ap1 mg s₁.heap:=by
  obtain⟨bm,ob,b1,b2,b3,b4,b5,b6⟩:=G.T.bmain
  refine⟨bm,ob,b1,b2,λz=>?_,b3,b4,b5,b6⟩
  obtain⟨o,es,ep,e,hd,_⟩:=G.T.g
  rw[z,e]at b3; cases b3
  rw[hd]at b6; cases b6
 exact aoS KX G.T.g G.T.b G.T.builtins G.T.nolimit hg hobj hints (Nat.le_trans hlen hn2) hr hT (hNT w) hB (F w mg fa _ KX G.T.g hmg) (λH hO hS=>hsp w H a ns hlen hO hS) λH e s'=>hCX w H s₁ e s'
end L2
end
section
namespace K97
open PySem L2 BH PySem.W
section
variable {K:Frag}{mg:Str->Option Value}{h:Heap}
theorem abJ{x:Str}{st:Stmt}(X:K.In h)(G:h.Ns mainGlobals mg){f:Addr}{od an:Option Addr}{sl:Array (Option Value)}{oc kV dc pm cd ct:Value}
  (a:nsIn K mainGlobals x=some (some (.ref f))) (l:K.lookup f=some ⟨oc,od,.func (fnOf x x (adB st) (ab4 st) (aal st) .none kV dc pm an cd ct),sl⟩) (c:codeIn K cd x=true) (k:keepIn K (.ref f)=true):At K mg x st :=
 ⟨f,_,aqH (st:=st) l c k,mg_of X G a⟩
theorem awq{x:Str}{st:Stmt}(X:K.In h)(G:h.Ns mainGlobals mg){f c:Addr}{od an:Option Addr}{sl:Array (Option Value)}{oc kV dc pm ct:Value}
  (a:nsIn K mainGlobals x=some (some (.ref f))) (l:K.lookup f=some ⟨oc,od,.func (fnOf x x (adB st) (ab4 st) (aal st) .none kV dc pm an (.ref c) ct),sl⟩) (cc:codeIn K (.ref c) x=true) (k:keepIn K (.ref f)=true):AtL K mg x st c :=
 ⟨f,_,aqH (st:=st) l cc k,mg_of X G a,rfl⟩
theorem aq8{x:Str}{i:Int}{tk:Tok}(X:K.In h)(G:h.Ns mainGlobals mg)(a:nsIn K mainGlobals x=some (some (.int i tk))):Gk K mg x (.int i) (.int i):=⟨.int i tk,mg_of X G a,by first|exact rfl|exact⟨_,rfl⟩,λ_=>.int i⟩
theorem aji{H:Hp}{a:Addr}{od:Option Addr}{its:Array Value}{n:Nat}{sl:Array (Option Value)}{xs:List V}{vs:List Value}{ts:List Tr}(l:K.lookup a=some ⟨.type "tuple",od,.seq its n,sl⟩) (e:its.toList=vs) (hl:vs.length<=1000) (r:Vals xs vs) (rr:aa2 (nlK K) H xs ts):Rep (nlK K) H (.ref a) (.tup ts):=by
 refine .tup (xs:=xs) (.inr ⟨_,its,n,at9 l rfl,rfl,rfl,?_,by rw[e]; exact r⟩) rr
 rw[<-Array.length_toList,e]
 exact Nat.le_of_lt (ag1 hl)
theorem asV(X:K.In h)(G:h.Ns mainGlobals mg){a r1 r2 r3:Addr}{od o1 o2 o3:Option Addr}{its i1 i2 i3:Array Value}{n n1 n2 n3:Nat}{sl sl1 sl2 sl3:Array (Option Value)}{t1 t2 t3:Tok}
  (m:nsIn K mainGlobals "BARE_RULES" = some (some (.ref a))) (l:K.lookup a=some ⟨.type "tuple",od,.seq its n,sl⟩) (e:its.toList=[.ref r1,.ref r2,.ref r3])
  (l1:K.lookup r1=some ⟨.type "tuple",o1,.seq i1 n1,sl1⟩) (e1:i1.toList=[.str "least" t1]) (l2:K.lookup r2=some ⟨.type "tuple",o2,.seq i2 n2,sl2⟩) (e2:i2.toList=[.str "greatest" t2]) (l3:K.lookup r3=some ⟨.type "tuple",o3,.seq i3 n3,sl3⟩) (e3:i3.toList=[.str "product" t3]):Gk K mg "BARE_RULES" (.ref a) (.tup [(.tup [(.str "least")]),(.tup [(.str "greatest")]),(.tup [(.str "product")])]):=by
 refine⟨_,mg_of X G m,rfl,λH=>aji (xs:=[.ref r1,.ref r2,.ref r3]) l e (Nat.le_of_ble_eq_true rfl) (.cons rfl (.cons rfl (.cons rfl .nil))) ?_⟩
 exact .cons (aji (xs:=[.str "least"]) l1 e1 (Nat.le_of_ble_eq_true rfl) (.cons ⟨_,rfl⟩ .nil) (.cons (.str _) .nil)) (.cons (aji (xs:=[.str "greatest"]) l2 e2 (Nat.le_of_ble_eq_true rfl) (.cons ⟨_,rfl⟩ .nil) (.cons (.str _) .nil)) (.cons (aji (xs:=[.str "product"]) l3 e3 (Nat.le_of_ble_eq_true rfl) (.cons ⟨_,rfl⟩ .nil) (.cons (.str _) .nil)) .nil))
theorem aoT(H:Hp):aa7 (λ_=>False) H=H:=by
 funext b
 exact aaZ (λz=>z)
theorem aj5{K:Frag}{H:Hp}:∀ns:List Int,aa2 K H (ns.map V.int) (ns.map Tr.int)
 | []=>.nil
 |n::ns=>.cons (.int n) (aj5 ns)
noncomputable def spL(K:Frag)(n:Nat)(F:FP):Sp:=λvs H Q E=>∃Z ts,vs.length=n/\aa2 (nlK K) (aa7 Z H) vs ts/\(∀b,Z b->Lt H b)/\TbS (nlK K) H/\∃p,F ts=.ok p/\∀v H',SmT (nlK K) H H'->VRt (nlK K) Z H H' v p.1 p.2->Q v H'
theorem asW{K:Frag}{cl:Str->Addr}{n:Nat}{F:FP}(vs:List V)(H:Hp)(Q:VK)(E:XK)(h:spL K n F vs H Q E):spP K cl n F vs H Q E:=by
 obtain⟨Z,ts,h1,h2,h3,h4,p,h5,h6⟩:=h
 refine⟨Z,ts,h1,h2,h3,h4,?_⟩
 rw[h5]
 exact h6
theorem ayy(X:K.In h)(G:h.Ns mainGlobals mg)(z0:nsIn K mainGlobals "abs" = some none) (z1:nsIn K mainGlobals "all" = some none) (z2:nsIn K mainGlobals "any" = some none) (z3:nsIn K mainGlobals "bool" = some none) (z4:nsIn K mainGlobals "int" = some none) (z5:nsIn K mainGlobals "isinstance" = some none) (z6:nsIn K mainGlobals "len" = some none) (z7:nsIn K mainGlobals "list" = some none) (z8:nsIn K mainGlobals "min" = some none) (z9:nsIn K mainGlobals "range" = some none) (z10:nsIn K mainGlobals "sorted" = some none) (z11:nsIn K mainGlobals "str" = some none) (z12:nsIn K mainGlobals "tuple" = some none) (z13:nsIn K mainGlobals "zip" = some none):Nm mg :=
 ⟨mg_none_of X G z0,mg_none_of X G z1,mg_none_of X G z2,mg_none_of X G z3,mg_none_of X G z4,mg_none_of X G z5,mg_none_of X G z6,mg_none_of X G z7,mg_none_of X G z8,mg_none_of X G z9,mg_none_of X G z10,mg_none_of X G z11,mg_none_of X G z12,mg_none_of X G z13⟩
end
section
variable {P:Program}{w:World}{K:Frag}{mg:Str->Option Value}{base:Heap}
theorem ayz(M:Nm mg){agg:Addr}(ae1:PyProof.Rows.OwnCls "NoBottom" agg bmV "ValueError.__new__" mg base) {ajj:Addr} (agS:PyProof.Rows.OwnCls "NoBook" ajj bmV "ValueError.__new__" mg base) {ajk:Addr} (agT:PyProof.Rows.OwnCls "NoRule" ajk bmV "ValueError.__new__" mg base) {ahF:Addr} (afG:PyProof.Rows.OwnCls "NoCount" ahF bmV "ValueError.__new__" mg base) (XT:apa K) (amD:At K mg "is_whole" afY) (agE:At K mg "common_divisor" ac7) (ajl:At K mg "fraction_of" aej) (amE:At K mg "frac_sum" afZ) (aj6:At K mg "frac_times" aeK) (aj7:At K mg "frac_below" aeL) (ajm:At K mg "is_fraction" aek) (ahG:At K mg "common_bottom" adH) (ae6:At K mg "tops_on_one_bottom" abP) {aeA agF:Addr} (agG:AtL K mg "falling_places" acs aeA) (agH:ap7 K mg base "falling_places" aeA agF) (amF:At K mg "is_worth" af0) (aj8:At K mg "are_worths" adS) (aoU:At K mg "is_book" aeM) (amG:At K mg "is_count" af2) (ak7:At K mg "need_book" afj) (ajn:At K mg "are_weights" ado) (aoV:At K mg "is_rule" ahr) (ah1:At K mg "shares_worth" ad4) (ahH:At K mg "product_worth" adI) (amH:At K mg "place_of" af3) (amI:At K mg "worth_by" af4) (ae7:At K mg "need_book_and_rule" acn) (aj9:At K mg "need_count" aeN) (adO:At K mg "need_book_rule_and_count" abx) (ak8:At K mg "worths_of" ael) (ak9:At K mg "worths_by" aem) (ah2:At K mg "thing_worths" ad5) (amJ:At K mg "best_few" ae0) (asY:At K mg "beats" ahs) (ajo:At K mg "unbeaten_of" acN) (amK:At K mg "unbeaten" af5) (ajp:At K mg "book_layers" adp) (awr:At K mg "_law_draw" anZ) (aws:At K mg "_law_frac" an0) (awt:At K mg "_law_less" an1) (asZ:At K mg "_law_purse" akH) (as3:At K mg "_law_worth" akI) (as4:At K mg "_law_lists" akJ) (as5:At K mg "_law_steps" ai0) (aoW:At K mg "_law_weights" aht) (ala:At K mg "_law_other_way" aen) (aqx:At K mg "_law_within" afF) (awu:At K mg "_law_held" an2) (ayA:At K mg "law" amn) {aeP:V} (adU:Gk K mg "MOST_LISTS" aeP (.int 4)) {aeu:V} (adt:Gk K mg "MOST_THINGS" aeu (.int 12)) {aeQ:V} (adV:Gk K mg "BARE_RULES" aeQ (.tup [(.tup [(.str "least")]),(.tup [(.str "greatest")]),(.tup [(.str "product")])])):DfX P w K mg base 11 "law" (["_law_script"]:List Str) (spL K 1 amo):=by
 obtain⟨cl,amL,aqy,aqz,aoX⟩:∃cl:Str→Addr,cl "NoBottom" = agg∧cl "NoBook" = ajj∧cl "NoRule" = ajk∧cl "NoCount" = ahF:=⟨λx=>if x=("NoBottom" : Str)then agg else if x=("NoBook" : Str)then ajj else if x=("NoRule" : Str)then ajk else if x=("NoCount" : Str)then ahF else 0,if_pos rfl,(if_neg (by decide +kernel)).trans (if_pos rfl),(if_neg (by decide +kernel)).trans ((if_neg (by decide +kernel)).trans (if_pos rfl)),(if_neg (by decide +kernel)).trans ((if_neg (by decide +kernel)).trans ((if_neg (by decide +kernel)).trans (if_pos rfl)))⟩
 rw[<-amL]at ae1
 rw[<-aqy]at agS
 rw[<-aqz]at agT
 rw[<-aoX]at afG
 have agh:=akQ (P:=P) (w:=w) (base:=base) (cl:=cl) amD M XT
 have ac9:=af9 (P:=P) (w:=w) (base:=base) (cl:=cl) agE M
 have afJ:=ahV (P:=P) (w:=w) (base:=base) (cl:=cl) ajl M ae1 ac9
 have amM:=akO (P:=P) (w:=w) (base:=base) (cl:=cl) amE M afJ
 have agu:=ai3 (P:=P) (w:=w) (base:=base) (cl:=cl) aj6 M afJ
 have akb:=ai2 (P:=P) (w:=w) (base:=base) (cl:=cl) aj7 M
 have afK:=ahW (P:=P) (w:=w) (base:=base) (cl:=cl) ajm M XT agh ac9
 have ahI:=agz (P:=P) (w:=w) (base:=base) (cl:=cl) ahG M ac9
 have ae8:=aeT (P:=P) (w:=w) (base:=base) (cl:=cl) ae6 M ahI
 have aeB:=aga (P:=P) (w:=w) (base:=base) (cl:=cl) agG agH M ae8
 have amN:=akR (P:=P) (w:=w) (base:=base) (cl:=cl) amF M afK
 have akc:=ai1 (P:=P) (w:=w) (base:=base) (cl:=cl) aj8 M XT amN
 have aoY:=amr (P:=P) (w:=w) (base:=base) (cl:=cl) aoU M adU adt XT akc
 have amO:=akP (P:=P) (w:=w) (base:=base) (cl:=cl) amG M agh
 have afo:=ajV (P:=P) (w:=w) (base:=base) (cl:=cl) ak7 M agS aoY
 have ajq:=ahT (P:=P) (w:=w) (base:=base) (cl:=cl) ajn M XT afK
 have aoZ:=ams (P:=P) (w:=w) (base:=base) (cl:=cl) aoV M adV XT ajq agh
 have ah3:=ahw (P:=P) (w:=w) (base:=base) (cl:=cl) ah1 M amM agu
 have ahJ:=agA (P:=P) (w:=w) (base:=base) (cl:=cl) ahH M agu
 have amP:=akS (P:=P) (w:=w) (base:=base) (cl:=cl) amH M
 have amQ:=akU (P:=P) (w:=w) (base:=base) (cl:=cl) amI M ah3 ahJ aeB amP
 have adh:=aeR (P:=P) (w:=w) (base:=base) (cl:=cl) ae7 M agT afo aoZ
 have akd:=ai6 (P:=P) (w:=w) (base:=base) (cl:=cl) aj9 M afG amO
 have adP:=adK (P:=P) (w:=w) (base:=base) (cl:=cl) adO M adh akd
 have alb:=ajY (P:=P) (w:=w) (base:=base) (cl:=cl) ak8 M
 have ahK:=ajX (P:=P) (w:=w) (base:=base) (cl:=cl) ak9 M amQ alb
 have afd:=ahx (P:=P) (w:=w) (base:=base) (cl:=cl) ah2 M adh ahK
 have aiu:=akN (P:=P) (w:=w) (base:=base) (cl:=cl) amJ M adP ahK aeB
 have as6:=aqd (P:=P) (w:=w) (base:=base) (cl:=cl) asY M akb
 have afL:=ahX (P:=P) (w:=w) (base:=base) (cl:=cl) ajo M as6
 have amR:=akT (P:=P) (w:=w) (base:=base) (cl:=cl) amK M afo afL
 have ajr:=ahU (P:=P) (w:=w) (base:=base) (cl:=cl) ajp M afo afL
 have ao0:=avh (P:=P) (w:=w) (base:=base) awr M
 have ao1:=avi (P:=P) (w:=w) (base:=base) (cl:=cl) aws M
 have awv:=avk (P:=P) (w:=w) (base:=base) (cl:=cl) awt M
 have as7:=asv (P:=P) (w:=w) (base:=base) (cl:=cl) asZ M
 have as8:=asx (P:=P) (w:=w) (base:=base) (cl:=cl) as3 M ao0 ao1
 have as9:=asr (P:=P) (w:=w) (base:=base) as4 M as8
 have ata:=o_steps (P:=P) (w:=w) (base:=base) (cl:=cl) as5 M ao0 as9 ao1
 have ao2:=an9 (P:=P) (w:=w) (base:=base) (cl:=cl) aoW M ao0 ao1
 have alc:=akL (P:=P) (w:=w) (base:=base) (cl:=cl) ala M awv
 have aqA:=aqc (P:=P) (w:=w) (base:=base) (cl:=cl) aqx M alc afd aiu
 have aww:=avj (P:=P) (w:=w) (base:=base) awu M
 have ayB:=avm (P:=P) (w:=w) (base:=base) (cl:=cl) ayA M as7 ata aww ajr ao2 aqA amR afd aiu
 obtain⟨f,fd,h1,h2⟩:=ayB
 exact⟨f,fd,h1.imp asW,h2⟩
end
theorem walk{l:OpenLaw}{q:Program}{loose:List Str}{XP:(Str->Option Value)->Heap->Prop}{YP:World->Heap->Prop}{d:DefRec}{K:Params->Frag}(hn:l.most=some 63)(hdf:d.params.defaults=[])(hd:d.name = "law")
  (awp:∀x∈abu,((PyProof.Rows.recsOf q).find? (λe=>e.name == x)).isSome=true\/∀w:World,nsIn (K w.params) mainGlobals x=some none) (hNT:∀w:World,noTabs (K w.params)=true)
  (hY:∀(w:World) (h:Heap),YP w h->(K w.params).In h)
  (F:∀(w:World) (mg:Str->Option Value) (h:Heap),(K w.params).In h->h.Ns mainGlobals mg->∀base:Heap,(K w.params).In base->base.Ns mainGlobals mg->(∀x∈abu,∀c b,tabIn (K w.params) x=some (c,b)->CodeHd base c b)->ap1 mg base->DfX l.prog w (K w.params) mg base 11 "law" (["_law_script"]:List Str) (spL (K w.params) 1 amo)) :
  WalkO q loose XP YP l.row.toRowW d [] (λf vs=>PySem.call f vs) :=
 L2.aqw (n:=63) (k:=11) (x := "_law_script") (CX:=λw=>CXF l.prog w) (sp:=λw=>spL (K w.params) 1 amo) hn (by decide) hdf ⟨rfl,by decide,by decide,rfl⟩ awp hNT hY
  (λw mg fa h KX G hm base kb gb hc bm=>by
   obtain⟨f,fd,h1,h2,_,h4⟩:=F w mg h KX G base kb gb hc bm
   rw[hd]at hm
   cases h4.symm.trans hm
   exact⟨fd,λs u ks=>h2 s [u] ks rfl,h1⟩)
  (λw H a ns hl hTb hS=>⟨λ_=>False,[.lst (ns.map .int)],rfl,.cons (.lst ((aoT H).symm▸hS.toN) (aj5 ns)) .nil,λb z=>z.elim,hTb,_,awo ns,λv H' _ r=>by
   cases r
   rfl⟩)
  λw H s e s' h=>by
   obtain⟨_,_,_,_,_,_,z,_⟩:=h
   exact z
end K97
end
section
namespace PySem.W.Fast
end PySem.W.Fast
namespace PySem.W.Fast
end PySem.W.Fast
namespace PySem.W.Fast
theorem tw10135137335912848245:True:=⟨⟩
theorem tw10174854409506843097:True:=⟨⟩
theorem tw10249060305261924015:True:=⟨⟩
theorem tw10747547313371931391:True:=⟨⟩
theorem tw1075071924786273117:True:=⟨⟩
theorem tw10801666978311180808:True:=⟨⟩
theorem tw10998550708878864015:True:=⟨⟩
theorem tw11139252553324781888:True:=⟨⟩
theorem tw1130277385382709323:True:=⟨⟩
theorem tw11409198174761976249:True:=⟨⟩
theorem tw11645502061071950022:True:=⟨⟩
theorem tw11650790999427327145:True:=⟨⟩
theorem tw11780101989029889210:True:=⟨⟩
theorem tw11926063384847735788:True:=⟨⟩
theorem tw12005718676890505311:True:=⟨⟩
theorem tw12356818660433186892:True:=⟨⟩
theorem tw12515818637106308299:True:=⟨⟩
theorem tw12622388826490660860:True:=⟨⟩
theorem tw13278424980574779767:True:=⟨⟩
theorem tw13322910873599258905:True:=⟨⟩
theorem tw13838521059060287655:True:=⟨⟩
theorem tw13844146646603096924:True:=⟨⟩
theorem tw13947945868031819255:True:=⟨⟩
theorem tw1418232671095027595:True:=⟨⟩
theorem tw14259200387389016400:True:=⟨⟩
theorem tw14263392341786952617:True:=⟨⟩
theorem tw14362854212150445485:True:=⟨⟩
theorem tw14495833491418269374:True:=⟨⟩
theorem tw14712957429026977529:True:=⟨⟩
theorem tw14913804797964801650:True:=⟨⟩
theorem tw14988567716281925672:True:=⟨⟩
theorem tw15170113915472077240:True:=⟨⟩
theorem tw15428558693489487983:True:=⟨⟩
theorem tw15455703041631427750:True:=⟨⟩
theorem tw15549162536227829043:True:=⟨⟩
theorem tw15660565746402069087:True:=⟨⟩
theorem tw16089358310023492238:True:=⟨⟩
theorem tw16127036242363589000:True:=⟨⟩
theorem tw16246610323092131318:True:=⟨⟩
theorem tw16424620175839016523:True:=⟨⟩
theorem tw16636579596027793292:True:=⟨⟩
theorem tw16868852345169825852:True:=⟨⟩
theorem tw17123597771668687577:True:=⟨⟩
theorem tw17206448262357322919:True:=⟨⟩
theorem tw17263358831273508759:True:=⟨⟩
theorem tw17409363467818057890:True:=⟨⟩
theorem tw17725687836222109448:True:=⟨⟩
theorem tw17811714527642737060:True:=⟨⟩
theorem tw17868055627680388529:True:=⟨⟩
theorem tw17888917191737907639:True:=⟨⟩
theorem tw17928906262787421929:True:=⟨⟩
theorem tw17935826868469905974:True:=⟨⟩
theorem tw1807076220563917314:True:=⟨⟩
theorem tw18102672255476390455:True:=⟨⟩
theorem tw18162275658103306577:True:=⟨⟩
theorem tw18216942996726793964:True:=⟨⟩
theorem tw18443992952444988253:True:=⟨⟩
theorem tw1856033176767469664:True:=⟨⟩
theorem tw2110462783942218330:True:=⟨⟩
theorem tw2157026081210723893:True:=⟨⟩
theorem tw2172722433509042192:True:=⟨⟩
theorem tw2654776010408011461:True:=⟨⟩
theorem tw2858724451593730278:True:=⟨⟩
theorem tw2865001051321610155:True:=⟨⟩
theorem tw3048121575572433030:True:=⟨⟩
theorem tw3219643578815272524:True:=⟨⟩
theorem tw3227968778569898545:True:=⟨⟩
theorem tw3486874006285985835:True:=⟨⟩
theorem tw393420872319769510:True:=⟨⟩
theorem tw4030530885867743966:True:=⟨⟩
theorem tw4098855626898997536:True:=⟨⟩
theorem tw4123286846845680565:True:=⟨⟩
theorem tw4259802386263249783:True:=⟨⟩
theorem tw4649829793727413898:True:=⟨⟩
theorem tw4695343787938819972:True:=⟨⟩
theorem tw4795047836602044223:True:=⟨⟩
theorem tw4805013619849864341:True:=⟨⟩
theorem tw4919544980786355225:True:=⟨⟩
theorem tw5352464501140890870:True:=⟨⟩
theorem tw5388953846643327089:True:=⟨⟩
theorem tw5518686858439336694:True:=⟨⟩
theorem tw5556220763010236878:True:=⟨⟩
theorem tw5673548099728774447:True:=⟨⟩
theorem tw5891895003281441101:True:=⟨⟩
theorem tw5954576230448742713:True:=⟨⟩
theorem tw6015041917054524499:True:=⟨⟩
theorem tw6091305019145477649:True:=⟨⟩
theorem tw6269008153482036483:True:=⟨⟩
theorem tw6776918235774991166:True:=⟨⟩
theorem tw6898230276444177429:True:=⟨⟩
theorem tw7049663524369778348:True:=⟨⟩
theorem tw7109870213864978706:True:=⟨⟩
theorem tw7201168710583383110:True:=⟨⟩
theorem tw7411266419996782314:True:=⟨⟩
theorem tw7450367474986856490:True:=⟨⟩
theorem tw7572438891489175433:True:=⟨⟩
theorem tw7635785337926662877:True:=⟨⟩
theorem tw767818589418973908:True:=⟨⟩
theorem tw7700504290542954091:True:=⟨⟩
theorem tw777296606571345805:True:=⟨⟩
theorem tw8134689550815955082:True:=⟨⟩
theorem tw8544730102889732992:True:=⟨⟩
theorem tw8560409365320966827:True:=⟨⟩
theorem tw8686244097140598552:True:=⟨⟩
theorem tw8703763976542107728:True:=⟨⟩
theorem tw8862587774588312905:True:=⟨⟩
theorem tw895710504601756477:True:=⟨⟩
theorem tw9229607875742786634:True:=⟨⟩
theorem tw9473934705896566667:True:=⟨⟩
theorem tw9484973960758214374:True:=⟨⟩
theorem tw9744019521635037205:True:=⟨⟩
theorem tw9859117369673564943:True:=⟨⟩
theorem tw9957189103066410564:True:=⟨⟩
theorem tw9976284270104955057:True:=⟨⟩
end PySem.W.Fast
open PySem PySem.W PyProof.Rows
set_option maxRecDepth 100000 in
set_option maxHeartbeats 0 in
theorem PySem.Challenge.cw_bestheads_k97_whole_layers_and_few_holds : PySem.Challenge.rw_bestheads_k97_whole_layers_and_few.Holds := by
 w_on; o_law; k_head; (case hw=>w_witness2)
 k_fill
 refine K97.walk (l:=PySem.Challenge.rw_bestheads_k97_whole_layers_and_few) rfl rfl rfl ?awp ?hNT (λw h Y=>by first|exact PySem.W.km_in_of Y|exact PySem.W.kIn_of Y) ?F
 case awp =>
  intro x hx
  rcases(List.mem_cons.mp hx)with rfl|hx
  ·exact .inl (by kernel_rfl)
  ·rw[List.mem_singleton.mp hx]
   exact .inr λw=>by k_is
 case hNT=>intro w; kernel_rfl
 case F =>
  intro w mg h KX G base kb gb hcd hbm
  refine' K97.ayz ?qM ?ald ?ao3 ?ao4 ?amS ?qXT ?qd1 ?qd2 ?qd3 ?qd4 ?qd5 ?qd6 ?qd7 ?qd8 ?qd9 ?azZ ?az0 ?az1 ?az2 ?az3 ?az4 ?az5 ?az6 ?az7 ?az8 ?az9 ?aAa ?aAb ?aAc ?aAd ?aAe ?aAf ?aAg ?aAh ?aAi ?aAj ?aAk ?aAl ?aAm ?aAn ?aAo ?aAp ?aAq ?aAr ?aAs ?aAt ?aAu ?aAv ?aAw ?aAx ?aAy ?ayC ?ayD ?ayE
  case qM =>
   refine' K97.ayy KX G ?z0 ?z1 ?z2 ?z3 ?z4 ?z5 ?z6 ?z7 ?z8 ?z9 ?z10 ?z11 ?z12 ?z13
   all_goals k_is
  case qd1 =>
   refine' K97.abJ KX G ?qa1 ?ql1 ?qc1 ?qk1
   (case qa1=>k_is); (case ql1=>k_is); (case qc1=>k_is); (case qk1=>k_is)
  case qd2 =>
   refine' K97.abJ KX G ?qa2 ?ql2 ?qc2 ?qk2
   (case qa2=>k_is); (case ql2=>k_is); (case qc2=>k_is); (case qk2=>k_is)
  case qd3 =>
   refine' K97.abJ KX G ?qa3 ?ql3 ?qc3 ?qk3
   (case qa3=>k_is); (case ql3=>k_is); (case qc3=>k_is); (case qk3=>k_is)
  case qd4 =>
   refine' K97.abJ KX G ?qa4 ?ql4 ?qc4 ?qk4
   (case qa4=>k_is); (case ql4=>k_is); (case qc4=>k_is); (case qk4=>k_is)
  case qd5 =>
   refine' K97.abJ KX G ?qa5 ?ql5 ?qc5 ?qk5
   (case qa5=>k_is); (case ql5=>k_is); (case qc5=>k_is); (case qk5=>k_is)
  case qd6 =>
   refine' K97.abJ KX G ?qa6 ?ql6 ?qc6 ?qk6
   (case qa6=>k_is); (case ql6=>k_is); (case qc6=>k_is); (case qk6=>k_is)
  case qd7 =>
   refine' K97.abJ KX G ?qa7 ?ql7 ?qc7 ?qk7
   (case qa7=>k_is); (case ql7=>k_is); (case qc7=>k_is); (case qk7=>k_is)
  case qd8 =>
   refine' K97.abJ KX G ?qa8 ?ql8 ?qc8 ?qk8
   (case qa8=>k_is); (case ql8=>k_is); (case qc8=>k_is); (case qk8=>k_is)
  case qd9 =>
   refine' K97.abJ KX G ?qa9 ?ql9 ?qc9 ?qk9
   (case qa9=>k_is); (case ql9=>k_is); (case qc9=>k_is); (case qk9=>k_is)
  case az1 =>
   refine' K97.abJ KX G ?aAz ?aAA ?aAB ?aAC
   (case aAz=>k_is); (case aAA=>k_is); (case aAB=>k_is); (case aAC=>k_is)
  case az2 =>
   refine' K97.abJ KX G ?aAD ?aAE ?aAF ?aAG
   (case aAD=>k_is); (case aAE=>k_is); (case aAF=>k_is); (case aAG=>k_is)
  case az3 =>
   refine' K97.abJ KX G ?aAH ?aAI ?aAJ ?aAK
   (case aAH=>k_is); (case aAI=>k_is); (case aAJ=>k_is); (case aAK=>k_is)
  case az4 =>
   refine' K97.abJ KX G ?aAL ?aAM ?aAN ?aAO
   (case aAL=>k_is); (case aAM=>k_is); (case aAN=>k_is); (case aAO=>k_is)
  case az5 =>
   refine' K97.abJ KX G ?aAP ?aAQ ?aAR ?aAS
   (case aAP=>k_is); (case aAQ=>k_is); (case aAR=>k_is); (case aAS=>k_is)
  case az6 =>
   refine' K97.abJ KX G ?aAT ?aAU ?aAV ?aAW
   (case aAT=>k_is); (case aAU=>k_is); (case aAV=>k_is); (case aAW=>k_is)
  case az7 =>
   refine' K97.abJ KX G ?aAX ?aAY ?aAZ ?aA0
   (case aAX=>k_is); (case aAY=>k_is); (case aAZ=>k_is); (case aA0=>k_is)
  case az8 =>
   refine' K97.abJ KX G ?aA1 ?aA2 ?aA3 ?aA4
   (case aA1=>k_is); (case aA2=>k_is); (case aA3=>k_is); (case aA4=>k_is)
  case az9 =>
   refine' K97.abJ KX G ?aA5 ?aA6 ?aA7 ?aA8
   (case aA5=>k_is); (case aA6=>k_is); (case aA7=>k_is); (case aA8=>k_is)
  case aAa =>
   refine' K97.abJ KX G ?aA9 ?aBa ?aBb ?aBd
   (case aA9=>k_is); (case aBa=>k_is); (case aBb=>k_is); (case aBd=>k_is)
  case aAb =>
   refine' K97.abJ KX G ?aBe ?aBf ?aBg ?aBh
   (case aBe=>k_is); (case aBf=>k_is); (case aBg=>k_is); (case aBh=>k_is)
  case aAc =>
   refine' K97.abJ KX G ?aBi ?aBj ?aBk ?aBl
   (case aBi=>k_is); (case aBj=>k_is); (case aBk=>k_is); (case aBl=>k_is)
  case aAd =>
   refine' K97.abJ KX G ?aBm ?aBn ?aBo ?aBp
   (case aBm=>k_is); (case aBn=>k_is); (case aBo=>k_is); (case aBp=>k_is)
  case aAe =>
   refine' K97.abJ KX G ?aBq ?aBr ?aBs ?aBt
   (case aBq=>k_is); (case aBr=>k_is); (case aBs=>k_is); (case aBt=>k_is)
  case aAf =>
   refine' K97.abJ KX G ?aBu ?aBv ?aBw ?aBx
   (case aBu=>k_is); (case aBv=>k_is); (case aBw=>k_is); (case aBx=>k_is)
  case aAg =>
   refine' K97.abJ KX G ?aBy ?aBz ?aBA ?aBB
   (case aBy=>k_is); (case aBz=>k_is); (case aBA=>k_is); (case aBB=>k_is)
  case aAh =>
   refine' K97.abJ KX G ?aBC ?aBD ?aBE ?aBF
   (case aBC=>k_is); (case aBD=>k_is); (case aBE=>k_is); (case aBF=>k_is)
  case aAi =>
   refine' K97.abJ KX G ?aBG ?aBH ?aBI ?aBJ
   (case aBG=>k_is); (case aBH=>k_is); (case aBI=>k_is); (case aBJ=>k_is)
  case aAj =>
   refine' K97.abJ KX G ?aBK ?aBL ?aBM ?aBN
   (case aBK=>k_is); (case aBL=>k_is); (case aBM=>k_is); (case aBN=>k_is)
  case aAk =>
   refine' K97.abJ KX G ?aBO ?aBP ?aBQ ?aBR
   (case aBO=>k_is); (case aBP=>k_is); (case aBQ=>k_is); (case aBR=>k_is)
  case aAl =>
   refine' K97.abJ KX G ?aBS ?aBT ?aBU ?aBV
   (case aBS=>k_is); (case aBT=>k_is); (case aBU=>k_is); (case aBV=>k_is)
  case aAm =>
   refine' K97.abJ KX G ?aBW ?aBX ?aBY ?aBZ
   (case aBW=>k_is); (case aBX=>k_is); (case aBY=>k_is); (case aBZ=>k_is)
  case aAn =>
   refine' K97.abJ KX G ?aB0 ?aB1 ?aB2 ?aB3
   (case aB0=>k_is); (case aB1=>k_is); (case aB2=>k_is); (case aB3=>k_is)
  case aAo =>
   refine' K97.abJ KX G ?aB4 ?aB5 ?aB6 ?aB7
   (case aB4=>k_is); (case aB5=>k_is); (case aB6=>k_is); (case aB7=>k_is)
  case aAp =>
   refine' K97.abJ KX G ?aB8 ?aB9 ?aCa ?aCb
   (case aB8=>k_is); (case aB9=>k_is); (case aCa=>k_is); (case aCb=>k_is)
  case aAq =>
   refine' K97.abJ KX G ?aCc ?aCd ?aCe ?aCf
   (case aCc=>k_is); (case aCd=>k_is); (case aCe=>k_is); (case aCf=>k_is)
  case aAr =>
   refine' K97.abJ KX G ?aCg ?aCh ?aCi ?aCj
   (case aCg=>k_is); (case aCh=>k_is); (case aCi=>k_is); (case aCj=>k_is)
  case aAs =>
   refine' K97.abJ KX G ?aCk ?aCl ?aCm ?aCn
   (case aCk=>k_is); (case aCl=>k_is); (case aCm=>k_is); (case aCn=>k_is)
  case aAt =>
   refine' K97.abJ KX G ?aCo ?aCp ?aCq ?aCr
   (case aCo=>k_is); (case aCp=>k_is); (case aCq=>k_is); (case aCr=>k_is)
  case aAu =>
   refine' K97.abJ KX G ?aCs ?aCt ?aCu ?aCv
   (case aCs=>k_is); (case aCt=>k_is); (case aCu=>k_is); (case aCv=>k_is)
  case aAv =>
   refine' K97.abJ KX G ?aCw ?aCx ?aCy ?aCz
   (case aCw=>k_is); (case aCx=>k_is); (case aCy=>k_is); (case aCz=>k_is)
  case aAw =>
   refine' K97.abJ KX G ?aCA ?aCB ?aCC ?aCD
   (case aCA=>k_is); (case aCB=>k_is); (case aCC=>k_is); (case aCD=>k_is)
  case aAx =>
   refine' K97.abJ KX G ?aCE ?aCF ?aCG ?aCH
   (case aCE=>k_is); (case aCF=>k_is); (case aCG=>k_is); (case aCH=>k_is)
  case aAy =>
   refine' K97.abJ KX G ?aCI ?aCJ ?aCK ?aCL
   (case aCI=>k_is); (case aCJ=>k_is); (case aCK=>k_is); (case aCL=>k_is)
  case azZ =>
   refine' K97.awq KX G ?aCM ?aCN ?aCO ?aCP
   (case aCM=>k_is); (case aCN=>k_is); (case aCO=>k_is); (case aCP=>k_is)
  case az0 =>
   refine' L2.ap8 (by decide) hcd hbm (L2.asi ?aCQ ?aCR ?aCS ?aCT ?aCU ?aCV ?aCW ?aCX ?aCY) ?aCZ
   (case aCQ=>k_is); (case aCR=>k_is); (case aCT=>k_is); (case aCV=>exact rfl); (case aCW=>k_is); (case aCS=>kernel_rfl); (case aCU=>kernel_rfl); (case aCX=>kernel_rfl); (case aCY=>exact rfl)
   case aCZ =>
    intro x' hx'
    rcases(List.mem_cons.mp hx')with rfl|hx'
    ·exact .inl rfl
    ·rw[List.mem_singleton.mp hx']
     exact .inr λc' z=>(by have y:=(L2.alK (by k_is)).symm.trans z; cases y)
  case ayC =>
   refine' K97.aq8 KX G ?ayF
   (case ayF=>k_is)
  case ayD =>
   refine' K97.aq8 KX G ?ayG
   (case ayG=>k_is)
  case ayE =>
   refine' K97.asV KX G ?qbm ?qbl ?qbe ?aC0 ?aC1 ?aC2 ?aC3 ?aC4 ?aC5
   (case qbm=>k_is); (case qbl=>k_is); (case qbe=>rfl); (case aC0=>k_is); (case aC1=>rfl); (case aC2=>k_is); (case aC3=>rfl); (case aC4=>k_is); (case aC5=>rfl)
  case qXT=>exact L2.apa.of (by kernel_rfl)
  case ald =>
   refine' L2.alv kb gb ?ake ?akf
   (case ake=>k_is); (case akf=>k_exc)
  case ao3 =>
   refine' L2.alv kb gb ?amT ?amU
   (case amT=>k_is); (case amU=>k_exc)
  case ao4 =>
   refine' L2.alv kb gb ?amV ?amW
   (case amV=>k_is); (case amW=>k_exc)
  case amS =>
   refine' L2.alv kb gb ?ale ?alf
   (case ale=>k_is); (case alf=>k_exc)
#print axioms PySem.Challenge.cw_bestheads_k97_whole_layers_and_few_holds
end