import PyProof.Rows.All
import Wide.All
import OpenK.AllK
import Wide.FinOn
import Lean
import PyProof.EqAt
import PyProof.EqKinds
import PyProof.TupleCall
import PyProof.ReprRoads
import PyProof.ReprBulk
import PyProof.Rows.RegStrFacts
import PyProof.StrBlockH
import PyProof.FitsBits
import KE.KTurns
import PyProof.NeKinds
import KE.KNest
import KE.KSortKey
import PyProof.ListRange
import PyProof.Rows.SortWalk
import KE.KListMore
import PySem.Challenge.RW_bestheads_k17_no_best_few
set_option exponentiation.threshold 6000
set_option Elab.async false
set_option linter.all false
set_option maxRecDepth 100000
set_option maxHeartbeats 4000000
section
namespace L2
open PySem PySem.Spec PyProof.Rows
noncomputable abbrev Key:=Sum Int Str
noncomputable def atD:Key->Value->Bool
 | .inl k,v=>Value.isInt k v
 | .inr x,v=>Value.isStrOf x v
noncomputable def azh (w:World):Key->Int
 | .inl k=>hashInt k
 | .inr x=>hashStr w x
theorem abV:∀ {k:Key} {v:Value},atD k v=true->(∃ i t,k=Sum.inl i /\ v=Value.int i t) \/ (∃ x t,k=Sum.inr x /\ v=Value.str x t)
 | .inl i,v,h=>by
  obtain ⟨t,e⟩:=Value.isInt_shape (k:=i) (v:=v) h
  exact .inl ⟨i,t,rfl,e⟩
 | .inr x,v,h=>by
  obtain ⟨t,e⟩:=Value.isStrOf_shape (x:=x) (v:=v) h
  exact .inr ⟨x,t,rfl,e⟩
theorem atF (a b:Int):decide ((Sum.inl a:Key)=Sum.inl b)=(a == b):=by
 by_cases e:a=b
 ·subst e; simp
 ·have h:¬ (Sum.inl a:Key)=Sum.inl b:=λq=>e (Sum.inl.inj q)
  rw [decide_eq_false h]
  exact (beq_eq_false_iff_ne.mpr e).symm
theorem atG (a b:Str):decide ((Sum.inr a:Key)=Sum.inr b)=decide (a=b):=by
 by_cases e:a=b
 ·subst e; simp
 ·have h:¬ (Sum.inr a:Key)=Sum.inr b:=λq=>e (Sum.inr.inj q)
  rw [decide_eq_false h,decide_eq_false e]
theorem atH (a:Int) (b:Str):decide ((Sum.inl a:Key)=Sum.inr b)=false:=decide_eq_false (λq=>nomatch q)
theorem atJ (a:Str) (b:Int):decide ((Sum.inr a:Key)=Sum.inl b)=false:=decide_eq_false (λq=>nomatch q)
noncomputable def akk (prog:Program) (w:World):PySem.KeyKind prog w Key where
 is:=atD
 hash:=azh w
 inj:=λv a b ha hb=>by
  rcases abV ha with ⟨i,t,rfl,rfl⟩ | ⟨x,t,rfl,rfl⟩
  ·rcases abV hb with ⟨j,u,rfl,e⟩ | ⟨y,u,rfl,e⟩
   ·injection e with e1 _; rw [e1]
   ·exact nomatch e
  ·rcases abV hb with ⟨j,u,rfl,e⟩ | ⟨y,u,rfl,e⟩
   ·exact nomatch e
   ·injection e with e1 _; rw [e1]
 byValue:=λk v h=>by
  rcases abV h with ⟨i,t,rfl,rfl⟩ | ⟨x,t,rfl,rfl⟩ <;> rfl
 pyHash:=λhv h=>by
  rcases abV hv with ⟨i,t,rfl,rfl⟩ | ⟨x,t,rfl,rfl⟩
  ·exact wpAny_pyHash_int h
  ·exact wpAny_pyHash_str h
 eqBool:=λhu hv h=>by
  rcases abV hu with ⟨i,t,rfl,rfl⟩ | ⟨x,t,rfl,rfl⟩
  ·rcases abV hv with ⟨j,u,rfl,rfl⟩ | ⟨y,u,rfl,rfl⟩
   ·rw [atF] at h; exact wpAny_eqBool_int h
   ·rw [atH] at h; exact SeqAt.EqAt.int_str i t y u _ _ _ _ h
  ·rcases abV hv with ⟨j,u,rfl,rfl⟩ | ⟨y,u,rfl,rfl⟩
   ·rw [atJ] at h; exact SeqAt.EqAt.str_int x t j u _ _ _ _ h
   ·rw [atG] at h; exact wpAny_eqBool_str h
 «strs» := λk x t v h=>by
  rcases abV h with ⟨i,u,rfl,e⟩ | ⟨y,u,rfl,e⟩
  ·exact nomatch e
  ·injection e with e1 _
   subst e1
   cases v <;> rfl
end L2
namespace L2
open PySem PySem.Spec PyProof.Rows
inductive V where
 | non | bl (b:Bool) | int (i:Int) | str (x:Str) | byt (b:Array UInt8) | flt (b:UInt64) | ref (a:Addr) | ty (n:String)
 deriving DecidableEq
noncomputable def RelV:V->Value->Prop
 | .non,u=>u=Value.none
 | .bl b,u=>u=Value.bool b
 | .int i,u=>∃ t,u=Value.int i t
 | .str x,u=>∃ t,u=Value.str x t
 | .byt b,u=>∃ t,u=Value.bytes b t
 | .flt b,u=>∃ t,u=Value.float b t
 | .ref a,u=>u=Value.ref a
 | .ty n,u=>u=Value.type n
noncomputable abbrev Vals:List V->List Value->Prop:=Paired RelV
theorem Vals.length {xs:List V} {us:List Value} (r:Vals xs us):xs.length=us.length:=Paired.length r
theorem Vals.get:∀ {xs:List V} {us:List Value} {i:Nat} {x:V},Vals xs us->xs[i]? = some x->∃ u,us[i]? = some u /\ RelV x u
 | _,_,_,_,.nil,e=>by simp at e
 | _,_,0,_,.cons r _,e=>by simp at e; subst e; exact ⟨_,rfl,r⟩
 | _,_,i + 1,x,.cons _ t,e=>by
  obtain ⟨u,h1,h2⟩:=Vals.get (i:=i) (x:=x) t (by simpa using e)
  exact ⟨u,by simpa using h1,h2⟩
theorem Vals.set {x:V} {u:Value} (r:RelV x u):∀ {xs:List V} {us:List Value} (i:Nat),Vals xs us->Vals (xs.set i x) (us.set i u)
 | _,_,_,.nil => .nil
 | _,_,0,.cons _ t => .cons r t
 | _,_,i + 1,.cons q t => .cons q (Vals.set r i t)
theorem Vals.append:∀ {xs ys:List V} {us ws:List Value},Vals xs us->Vals ys ws->Vals (xs ++ ys) (us ++ ws)
 | _,_,_,_,.nil,s=>s
 | _,_,_,_,.cons r t,s => .cons r (Vals.append t s)
theorem Vals.take:∀ {xs:List V} {us:List Value} (n:Nat),Vals xs us->Vals (xs.take n) (us.take n)
 | _,_,0,_ => .nil
 | _,_,_ + 1,.nil => .nil
 | _,_,n + 1,.cons r t => .cons r (Vals.take n t)
theorem Vals.drop:∀ {xs:List V} {us:List Value} (n:Nat),Vals xs us->Vals (xs.drop n) (us.drop n)
 | _,_,0,r=>r
 | _,_,_ + 1,.nil => .nil
 | _,_,n + 1,.cons _ t=>Vals.drop n t
noncomputable def ayu:Option V->Option Value->Prop
 | some v,some u=>RelV v u
 | none,none=>True
 | _,_=>False
noncomputable def KV {κ : Type}:List (κ × V)->List (κ × Value)->Prop:=Paired λ(p : κ × V) (q : κ × Value)=>p.1=q.1 /\ RelV p.2 q.2
noncomputable def kV:Key->V
 | .inl i => .int i
 | .inr x => .str x
inductive HO where
 | lst (xs:List V)
 | tup (xs:List V)
 | dK (kvs:List (Key × V)) | dT (kvs:List (List Key × V))
 | set (S:Int->Bool) (n:Nat)
 | ins (C dx:Addr) (fs:List (Str × V))
 | own (x:Addr)
 | xd (fs:List (Str × V))
 | met (f x:Addr)
 | rng (lo hi:Int)
 | frz (o:Obj) (u:HO)
 | tbl (ps:Array Value)
 | ext (φ : Heap->Prop)
noncomputable abbrev Hp:=Addr->Option HO
noncomputable def upd (H:Hp) (a:Addr) (o:HO):Hp:=λb=>if b=a then some o else H b
theorem aa9 {H:Hp} {a:Addr} {o:HO}:upd H a o a=some o:=by unfold upd; rw [if_pos rfl]
theorem aaF {H:Hp} {a b:Addr} {o:HO} (h:b ≠ a):upd H a o b=H b:=by unfold upd; rw [if_neg h]
theorem abh {H:Hp} {a b:Addr} {o:HO} (h:H a=some o) (h':H b=none):a ≠ b:=by
 intro e; subst e; rw [h] at h'; cases h'
section
variable (P:Program) (w:World)
noncomputable def ae9 (H:Hp) (h:Heap) (a:Addr):HO->Prop
 | .lst xs=>xs.length<=sizeLine /\ ∃ (its:List Value) (n:Nat),Vals xs its /\ h.get? a=some {cls := .type "list",data := .seq its.toArray n }
 | .tup xs=>xs.length<=sizeLine /\ ∃ its:List Value,Vals xs its /\ IsTup h a its.toArray
 | .dK kvs=>kvs.length<=sizeLine /\ (a == sysModules)=false /\ ∃ vs,KV kvs vs /\ h.DictOf (akk P w) a vs
 | .dT kvs=>kvs.length<=sizeLine /\ (a == sysModules)=false /\ ∃ xs:List (List Key × Addr × Value),
   Paired (λ(p:List Key × V) (q:List Key × Addr × Value)=>p.1=q.1 /\ H q.2.1=some (.tup (p.1.map kV)) /\ RelV p.2 q.2.2) kvs xs /\
   ∃ o es ep,h.get? a=some o /\ o.ExactDict /\ o.data = .dict es ep /\ es.toList=xs.map (entryOfKey (tupleKind (akk P w))) /\ (xs.map (·.1)).Nodup
 | .set S n=>h.SetOf (intKind P w) a S n
 | .ins C dx fs=>H dx=some (.own a) /\ fs.length<=1000 /\ dx ≠ a /\ h.get? a=some (PySem.W.instObj C dx) /\
   ∃ mA,h.Ns1 dx mA /\ (∀ f,ayu (fs.lookup f) (mA f)) /\ PySem.Within mA (fs.map (·.1))
 | .own _=>∃ o,h.get? a=some o
 | .xd fs=>∃ mA,h.Ns1 a mA /\ ∀ f,ayu (fs.lookup f) (mA f)
 | .rng lo hi=>∃ t u v,h.get? a=some {cls := .type "range",data := .fields #[.int lo t,.int hi u,.int 1 v] }
 | .frz o u=>h.get? a=some o /\ ae9 H h a u
 | .tbl ps=>h.get? a=some {cls := .none,data := .fields ps }
 | .met f x=>h.get? a=some (PySem.W.methodObj (.ref f) (.ref x))
 | .ext φ => φ h /\ (∃ o,h.get? a=some o) /\ ∀ h1 h2:Heap,φ h1->(∀ o,h1.get? a=some o->h2.get? a=some o) -> φ h2
noncomputable def HOk (H:Hp) (h:Heap):Prop:=∀ a o,H a=some o->ae9 P w H h a o
end
section
variable {P:Program} {w:World} {H H':Hp} {h h':Heap} {a:Addr} {o:HO}
theorem ae9.lt (x:ae9 P w H h a o):a<h.objs.size:=by
 cases o with
 | lst xs=>obtain ⟨_,_,_,_,e⟩:=x; exact Heap.lt_size e
 | tup xs=>obtain ⟨_,_,_,p⟩:=x; exact p.lt
 | dK kvs=>obtain ⟨_,_,_,_,o,_,_,e,_⟩:=x; exact Heap.lt_size e
 | dT kvs=>obtain ⟨_,_,_,_,o,_,_,e,_⟩:=x; exact Heap.lt_size e
 | set S n=>obtain ⟨o,_,_,_,e,_⟩:=x; exact Heap.lt_size e
 | ins C dx fs=>obtain ⟨_,_,_,e,_⟩:=x; exact Heap.lt_size e
 | own y=>obtain ⟨_,e⟩:=x; exact Heap.lt_size e
 | xd fs=>obtain ⟨_,⟨_,_,_,e,_⟩,_⟩:=x; exact Heap.lt_size e
 | rng lo hi=>obtain ⟨_,_,_,e⟩:=x; exact Heap.lt_size e
 | frz ob u=>obtain ⟨e,_⟩:=x; exact Heap.lt_size e
 | tbl ps=>exact Heap.lt_size (show h.get? a=some _ from x)
 | met f y=>exact Heap.lt_size (show h.get? a=some _ from x)
 | ext φ => obtain ⟨_,⟨_,e⟩,_⟩:=x; exact Heap.lt_size e
theorem Paired.ayv {α β : Type} {F G : α -> β -> Prop}:∀ {l₁ : List α} {l₂ : List β},Paired F l₁ l₂ -> (∀ a b,F a b->G a b)->Paired G l₁ l₂
 | _,_,.nil,_ => .nil
 | _,_,.cons r t,f => .cons (f _ _ r) (Paired.ayv t f)
theorem ae9.stay (x:ae9 P w H h a o) (k:∀ b u,(b=a \/ H b=some (.own a))->h.get? b=some u->h'.get? b=some u)
  (ho:∀ b,H b=some (.own a)->H' b=some (.own a)) (ht:∀ b xs,H b=some (.tup xs)->H' b=some (.tup xs)):ae9 P w H' h' a o:=by
 induction o with
 | lst xs=>obtain ⟨z,its,n,r,e⟩:=x; exact ⟨z,its,n,r,k _ _ (.inl rfl) e⟩
 | tup xs=>obtain ⟨z,its,r,ob,e,c⟩:=x; exact ⟨z,its,r,ob,k _ _ (.inl rfl) e,c⟩
 | dK kvs=>obtain ⟨z,y,vs,r,ob,es,ep,e,c⟩:=x; exact ⟨z,y,vs,r,ob,es,ep,k _ _ (.inl rfl) e,c⟩
 | dT kvs =>
  obtain ⟨z,y,xs,r,ob,es,ep,e,c⟩:=x
  exact ⟨z,y,xs,Paired.ayv r λp q z=>⟨z.1,ht _ _ z.2.1,z.2.2⟩,ob,es,ep,k _ _ (.inl rfl) e,c⟩
 | set S n=>obtain ⟨ob,es,ep,t,e,c⟩:=x; exact ⟨ob,es,ep,t,k _ _ (.inl rfl) e,c⟩
 | ins C dx fs =>
  obtain ⟨d,z,ne,e,mA,⟨od,es,ep,e2,c⟩,r⟩:=x
  exact ⟨ho _ d,z,ne,k _ _ (.inl rfl) e,mA,⟨od,es,ep,k _ _ (.inr d) e2,c⟩,r⟩
 | own y=>obtain ⟨ob,e⟩:=x; exact ⟨ob,k _ _ (.inl rfl) e⟩
 | xd fs=>obtain ⟨mA,⟨od,es,ep,e,c⟩,r⟩:=x; exact ⟨mA,⟨od,es,ep,k _ _ (.inl rfl) e,c⟩,r⟩
 | rng lo hi=>obtain ⟨t,u,v,e⟩:=x; exact ⟨t,u,v,k _ _ (.inl rfl) e⟩
 | frz ob u ih=>obtain ⟨e,q⟩:=x; exact ⟨k _ _ (.inl rfl) e,ih q⟩
 | tbl ps =>
  have e:h.get? a=some {cls := .none,data := .fields ps }:=x
  show h'.get? a=some {cls := .none,data := .fields ps }
  exact k a _ (.inl rfl) e
 | met f y =>
  have e:h.get? a=some (PySem.W.methodObj (.ref f) (.ref y)):=x
  show h'.get? a=some (PySem.W.methodObj (.ref f) (.ref y))
  exact k a _ (.inl rfl) e
 | ext φ => obtain ⟨p,⟨o,e⟩,st⟩:=x; exact ⟨st _ _ p λo q=>k _ _ (.inl rfl) q,⟨o,k _ _ (.inl rfl) e⟩,st⟩
theorem HOk.lt (x:HOk P w H h) (e:H a=some o):a<h.objs.size:=(x a o e).lt
theorem HOk.fresh (x:HOk P w H h) (e:h.objs.size<=a):H a=none:=by
 cases q:H a with
 | none=>rfl
 | some u=>exact absurd (Nat.lt_of_lt_of_le (x.lt q) e) (Nat.lt_irrefl _)
theorem HOk.kept (x:HOk P w H h) (k:∀ b u,h.get? b=some u->h'.get? b=some u):HOk P w H h':=λa o e =>
 (x a o e).stay (λb u _ q=>k b u q) (λ_ q=>q) λ_ _ q=>q
theorem HOk.laid (x:HOk P w H h) (k:∀ b u,h.get? b=some u->h'.get? b=some u) (hp:h.objs.size<=a) (new:ae9 P w (upd H a o) h' a o):HOk P w (upd H a o) h':=λb u e=>by
 have hn:=x.fresh hp
 by_cases hb:b=a
 ·subst hb; rw [aa9] at e; cases e; exact new
 ·rw [aaF hb] at e
  exact (x b u e).stay (λc v _ q=>k c v q) (λc q=>by rw [aaF (abh q hn)]; exact q) λc xs q=>by rw [aaF (abh q hn)]; exact q
end
noncomputable def Rd (H:Hp) (a:Addr) (u:HO):Prop:=H a=some u \/ ∃ o,H a=some (.frz o u)
theorem Rd.ok {P:Program} {w:World} {H:Hp} {h:Heap} {a:Addr} {u:HO} (r:Rd H a u) (x:HOk P w H h):ae9 P w H h a u:=by
 rcases r with r | ⟨o,r⟩
 ·exact x a u r
 ·obtain ⟨_,q⟩:=x a _ r
  exact q
noncomputable def Mut:Option HO->Prop
 | some (.lst _)=>True
 | some (.dK _)=>True
 | some (.dT _)=>True
 | some (.set _ _)=>True
 | some (.ins _ _ _)=>True
 | some (.ext _)=>True
 | _=>False
section
variable {P:Program} {w:World} {H:Hp} {h h':Heap} {x e:Addr} {o':HO}
theorem HOk.write (ok:HOk P w H h) (mu:Mut (H x)) (he:e=x \/ H e=some (.own x)) (k:∀ b u,b ≠ e->h.get? b=some u->h'.get? b=some u) (heo:∃ u,h'.get? e=some u)
  (new:ae9 P w (upd H x o') h' x o'):HOk P w (upd H x o') h':=λb u q=>by
 have ayw:∀ c y,H c=some (.own y)->c ≠ x:=λc y r z=>by subst z; rw [r] at mu; exact mu
 have azi:∀ c xs,H c=some (.tup xs)->c ≠ x:=λc xs r z=>by subst z; rw [r] at mu; exact mu
 by_cases hb:b=x
 ·subst hb; rw [aa9] at q; cases q; exact new
 ·rw [aaF hb] at q
  by_cases hbe:b=e
  ·have q':H b=some (.own x):=by
    rcases he with z | z
    ·exact absurd (hbe.trans z) hb
    ·rw [hbe]; exact z
   rw [q] at q'; cases q'
   obtain ⟨v,hv⟩:=heo
   exact ⟨v,by rw [hbe]; exact hv⟩
  ·refine (ok b u q).stay (λc v hc r=>k c v ?_ r) (λc r=>by rw [aaF (ayw c b r)]; exact r) λc xs r=>by rw [aaF (azi c xs r)]; exact r
   rcases hc with rfl | hc
   ·exact hbe
   ·rintro rfl
    rcases he with z | z
    ·exact ayw c b hc z
    ·rw [hc] at z; cases z; exact hb rfl
end
structure Un (fs ex:List Addr) (H H':Hp) (h h':Heap):Prop where
 keep:∀ b o,h.get? b=some o->H b=none->b ∉ fs->b ∉ ex->h'.get? b=some o
 slot:∀ b o,h.get? b=some o->H b=none->b ∈ fs->b ∉ ex->∃ sl,h'.get? b=some {o with slots:=sl }
 free:∀ b o,h.get? b=some o->H b=none->b ∉ ex->H' b=none
 there:∀ b o,h.get? b=some o->b ∉ ex->∃ o',h'.get? b=some o'
 tups:∀ b xs,H b=some (.tup xs)->H' b=some (.tup xs)
 alx:∀ b o u,H b=some (.frz o u)->H' b=some (.frz o u)
 aly:∀ b ps,H b=some (.tbl ps)->∃ more,H' b=some (.tbl (ps ++ more))
section
variable {fs fs' ex ex':List Addr} {H H1 H2:Hp} {h h1 h2 h':Heap} {a x e:Addr} {o:HO}
theorem Un.any (u:Un fs ex H H1 h h1) {b:Addr} {ob:Obj} (q:h.get? b=some ob) (n:H b=none) (hx:b ∉ ex):∃ sl,h1.get? b=some {ob with slots:=sl }:=by
 by_cases hb:b ∈ fs
 ·exact u.slot b ob q n hb hx
 ·exact ⟨ob.slots,u.keep b ob q n hb hx⟩
theorem Un.kept (k:∀ b u,h.get? b=some u->h'.get? b=some u):Un fs ex H H h h' :=
 ⟨λb ob q _ _ _=>k b ob q,λb ob q _ _ _=>⟨ob.slots,k b ob q⟩,λ_ _ _ n _=>n,λb ob q _=>⟨ob,k b ob q⟩,λ_ _ q=>q,λ_ _ _ q=>q,λ_ ps q=>⟨#[],by rw [q]; simp⟩⟩
theorem Un.refl:Un fs ex H H h h:=Un.kept λ_ _ q=>q
theorem Un.laid (k:∀ b u,h.get? b=some u->h'.get? b=some u) (hp:h.objs.size<=a) (hn:H a=none):Un fs ex H (upd H a o) h h' where
 keep:=λb u q _ _ _=>k b u q
 slot:=λb u q _ _ _=>⟨u.slots,k b u q⟩
 free:=λb u q n _=>by rw [aaF (Nat.ne_of_lt (Nat.lt_of_lt_of_le (Heap.lt_size q) hp))]; exact n
 there:=λb u q _=>⟨u,k b u q⟩
 tups:=λb xs q=>by rw [aaF (abh q hn)]; exact q
 alx:=λb u xs q=>by rw [aaF (abh q hn)]; exact q
 aly:=λb ps q=>⟨#[],by rw [aaF (abh q hn),q]; simp⟩
theorem Un.write (mu:Mut (H x)) (he:e=x \/ H e=some (.own x)) (k:∀ b u,b ≠ e->h.get? b=some u->h'.get? b=some u) (heo:∃ u,h'.get? e=some u):Un fs ex H (upd H x o) h h':=by
 have hx:∀ b,H b=none->b ≠ x:=λb n z=>by subst z; rw [n] at mu; exact mu
 have hb:∀ b,H b=none->b ≠ e:=λb n z=>by
  subst z
  rcases he with r | r
  ·exact hx b n r
  ·rw [n] at r; cases r
 have hm:∀ b u,H b=some u->¬ Mut (some u)->b ≠ x:=λb u q nm z=>by subst z; rw [q] at mu; exact nm mu
 refine ⟨λb u q n _ _=>k b u (hb b n) q,λb u q n _ _=>⟨u.slots,k b u (hb b n) q⟩,λb u q n _=>by rw [aaF (hx b n)]; exact n,λb u q _=>?_,
  λb xs q=>by rw [aaF (hm b _ q λz=>z)]; exact q,λb u xs q=>by rw [aaF (hm b _ q λz=>z)]; exact q,λb ps q=>⟨#[],by rw [aaF (hm b _ q λz=>z),q]; simp⟩⟩
 by_cases hbe:b=e
 ·subst hbe; exact heo
 ·exact ⟨u,k b u hbe q⟩
end
noncomputable def trk (h:Heap) (H:Hp):List Addr:=(List.range h.objs.size).filter λa=>(H a).isSome
noncomputable def apf (h:Heap) (H:Hp):Heap:=PySem.W.hideAll h (trk h H)
theorem anw (h:Heap) (H:Hp):(apf h H).objs.size=h.objs.size:=PySem.W.hideAll_size _ _
theorem apg {h:Heap} {H:Hp} {b:Addr} {o:Obj} (e:h.get? b=some o) (n:H b=none):(apf h H).get? b=some o :=
 PySem.W.hideAll_get _ e λhm=>by
  have q:(H b).isSome=true:=(List.mem_filter.mp hm).2
  rw [n] at q; simp at q
theorem arl {h:Heap} {H:Hp} {b:Addr} {o:Obj} (e:(apf h H).get? b=some o):h.get? b=some o /\ H b=none:=by
 have e':h.get? b=some o:=PySem.W.of_hideAll (trk h H) e
 refine ⟨e',?_⟩
 cases q:H b with
 | none=>rfl
 | some x =>
  have hm:b ∈ trk h H:=List.mem_filter.mpr ⟨List.mem_range.mpr (Heap.lt_size e'),by simp [q]⟩
  have z:(apf h H).get? b=none:=PySem.W.hideAll_none (trk h H) hm
  rw [z] at e; cases e
noncomputable def arn (g h:Heap) (L:Addr):List (Addr × Obj):=(List.range h.objs.size).filterMap λa=>if a=L \/ (g.get? a).isSome=true then none else (h.get? a).map λo=>(a,o)
noncomputable def rest (g h:Heap) (L d:Addr):List (Addr × Obj):=(arn g h L).filter λp=>decide (p.1 ≠ d)
end L2
namespace L2
open PySem PySem.Spec PyProof.Rows
structure Mod (K:PySem.W.Frag) (mg:Str->Option Value) (base:Heap):Prop where
 kin:K.In base
 glob:base.Ns mainGlobals mg
 blt:∃ mb,base.Ns builtinsNs mb /\ ∀ x:Str,x ≠ "__name__" -> mb x=bootBuiltins x
 nolimit:base.NoLimit
structure Cx where
 prog:Program
 w:World
 K:PySem.W.Frag
 mg:Str->Option Value
 base:Heap
 A:Around
 N:List Str
 s₀ : Shared
 H₀ : Hp
 env:Env
 outer:List Env
 stack:List Env
 ex:List Addr
 fn:Str->Bool
 calm:Bool
 pn:List (Addr × Obj)
 xe:Value->Shared->Prop
noncomputable def frs (l:List Env):List Addr:=l.filterMap (·.frame)
noncomputable abbrev Cx.fs (X:Cx):List Addr:=frs X.outer
noncomputable def Vis (sc:Scope) (x:Str):Prop:=sc.names.lookup x=some .local \/ sc.names.lookup x=some .cell \/ sc.names.lookup x=some .free
noncomputable def Loc (sc:Scope) (x:Str):Prop:=sc.names.lookup x=some .local \/ sc.names.lookup x=some .cell
noncomputable def Look (env:Env) (h:Heap) (m:Str->Option Value) (x:Str) (u:Value):Prop :=
 (env.kindOf x=some .local /\ m x=some u) \/ ((env.kindOf x=some .cell \/ env.kindOf x=some .free) /\ ∃ c,env.cells.lookup x=some c /\ h.IsCell c (some u))
structure Cx.Ok (X:Cx):Prop where
 mod:Mod X.K X.mg X.base
 kind:X.env.scope.kind = .function
 glob:X.env.globals=mainGlobals
 blt:X.env.builtins=builtinsNs
 above:X.s₀.heap.objs.size<=X.env.locals
 inj:∀ x y c,X.env.cells.lookup x=some c->X.env.cells.lookup y=some c->x=y
 has:∀ x,(X.env.kindOf x=some .cell \/ X.env.kindOf x=some .free)->∃ c,X.env.cells.lookup x=some c
 cab:∀ x c,X.fn x=true->X.env.cells.lookup x=some c->X.s₀.heap.objs.size<=c
 hd:X.calm=true->X.A.handled=none
 frames:X.A.frames=some X.stack
 stk:X.stack=X.outer \/ (X.stack=X.env :: X.outer /\ X.env.frame=some X.env.locals)
 exf:∀ b ∈ X.ex,b ≠ X.env.locals /\ ∀ x c,X.env.cells.lookup x=some c->c ≠ b
 bs:∀ b o,X.base.get? b=some o->X.s₀.heap.get? b=some o /\ X.H₀ b=none
 bsz:X.base.objs.size<=X.s₀.heap.objs.size
 akl:∀ b o,X.base.get? b=some o->b ∉ X.ex
 atL:∀ b ∈ X.ex,b ∉ X.fs
 amf:X.s₀.heap.FunFrames X.base X.outer
 frf:∀ b ∈ X.fs,X.H₀ b=none
structure Inv (X:Cx) (pins:List (Addr × Obj)) (σ : List (Option V)) (H:Hp) (s:Shared):Prop where
 ok:X.Ok
 os:s.os=X.s₀.os
 bare:AllBare s.gens
 base:Un X.fs X.ex X.H₀ H X.s₀.heap s.heap
 loc:∃ m,s.heap.Ns X.env.locals m /\ ∀ (i:Nat) (x:Str) (v:V),X.N[i]? = some x -> σ[i]? = some (some v)->Vis X.env.scope x->∃ u,RelV v u /\ Look X.env s.heap m x u
 cell:∀ x c,X.env.cells.lookup x=some c->∃ v,s.heap.IsCell c v
 free:H X.env.locals=none
 afo:∀ x c,X.env.cells.lookup x=some c->H c=none
 pin:∀ p ∈ X.pn ++ pins,s.heap.get? p.1=some p.2 /\ H p.1=none /\ p.1 ≠ X.env.locals /\ p.1 ∉ X.fs /\ ∀ v,p.2.data ≠ .cell v
 hok:HOk X.prog X.w H s.heap
 len : σ.length=X.N.length
section
variable {X:Cx} {pins:List (Addr × Obj)} {σ : List (Option V)} {H H':Hp} {s:Shared} {h':Heap}
theorem Cx.Ok.atv (ok:X.Ok) {b:Addr} {o:Obj} (e:X.base.get? b=some o):b ∉ X.fs:=λhb=>by
 have:=(ok.amf.mem hb).1
 rw [e] at this; cases this
theorem Inv.bs (I:Inv X pins σ H s):∀ b o,X.base.get? b=some o->s.heap.get? b=some o /\ H b=none:=λb o e =>
 ⟨I.base.keep b o (I.ok.bs b o e).1 (I.ok.bs b o e).2 (I.ok.atv e) (I.ok.akl b o e),I.base.free b o (I.ok.bs b o e).1 (I.ok.bs b o e).2 (I.ok.akl b o e)⟩
theorem Inv.bk (I:Inv X pins σ H s):∀ b o,X.base.get? b=some o->s.heap.get? b=some o:=λb o e=>(I.bs b o e).1
theorem Inv.mod (I:Inv X pins σ H s):Mod X.K X.mg X.base:=I.ok.mod
theorem Inv.kIn (I:Inv X pins σ H s):X.K.In s.heap:=I.ok.mod.kin.keeps I.bk
theorem Inv.nolimit (I:Inv X pins σ H s):s.heap.NoLimit:=I.ok.mod.nolimit.keeps I.bk
theorem Inv.lt (I:Inv X pins σ H s):X.env.locals<s.heap.objs.size:=let ⟨_,hn,_⟩:=I.loc; hn.lt
theorem Inv.sz (I:Inv X pins σ H s):X.s₀.heap.objs.size<=s.heap.objs.size:=Nat.le_trans I.ok.above (Nat.le_of_lt I.lt)
theorem Inv.azj (I:Inv X pins σ H s) {a:Addr} (h:s.heap.objs.size<=a):a ∉ X.fs:=λhb=>by
 obtain ⟨_,o,ho,_⟩:=I.ok.amf.mem hb
 exact absurd (Nat.lt_of_lt_of_le (Heap.lt_size ho) (Nat.le_trans I.sz h)) (Nat.lt_irrefl _)
theorem Inv.cne (I:Inv X pins σ H s):∀ x c,X.env.cells.lookup x=some c->c ≠ X.env.locals:=λx c e z=>by
 obtain ⟨v,o,ho,hd⟩:=I.cell x c e
 obtain ⟨m,⟨o',es,ep,ho',hd',_⟩,_⟩:=I.loc
 rw [z,ho'] at ho; cases ho; rw [hd'] at hd; cases hd
theorem Inv.amf (I:Inv X pins σ H s):s.heap.FunFrames X.base X.outer:=by
 have all:∀ (l:List Env),(∀ b ∈ frs l,b ∈ X.fs)->X.s₀.heap.FunFrames X.base l->s.heap.FunFrames X.base l:=by
  intro l
  induction l with
  | nil=>intro _ _; trivial
  | cons env r ih =>
   intro hs hl
   obtain ⟨hk,⟨L,o,hf,hn,ho,hd⟩,hr⟩:=hl
   have hL:L ∈ X.fs:=hs L (by unfold frs; rw [List.filterMap_cons,hf]; exact List.mem_cons_self)
   obtain ⟨sl,e⟩:=I.base.slot L o ho (I.ok.frf L hL) hL λz=>I.ok.atL L z hL
   exact ⟨hk,⟨L,_,hf,hn,e,hd⟩,ih (λb hb=>hs b (by unfold frs; rw [List.filterMap_cons,hf]; exact List.mem_cons_of_mem _ hb)) hr⟩
 exact all X.outer (λ_ hb=>hb) I.ok.amf
theorem Inv.stack (I:Inv X pins σ H s):s.heap.FunFrames X.base X.stack:=by
 rcases I.ok.stk with e | ⟨e,hf⟩
 ·rw [e]; exact I.amf
 ·rw [e]
  obtain ⟨m,hn,_⟩:=I.loc
  refine .cons (by rw [I.ok.kind]; decide) hf hn ?_ I.amf
  exact Heap.get?_none_of_le (Nat.le_trans I.ok.bsz I.ok.above)
theorem Inv.alz (I:Inv X pins σ H s):∀ b ∈ frs X.stack,b ∈ X.env.locals :: X.fs:=λb hb=>by
 rcases I.ok.stk with e | ⟨e,hf⟩
 ·rw [e] at hb; exact List.mem_cons_of_mem _ hb
 ·rw [e] at hb
  unfold frs at hb
  rw [List.filterMap_cons,hf] at hb
  exact hb
theorem Inv.afS (I:Inv X pins σ H s):∀ b ∈ frs X.stack,H b=none:=λb hb=>by
 rcases List.mem_cons.mp (I.alz b hb) with e | hb
 ·rw [e]; exact I.free
 ·obtain ⟨_,o,ho,_⟩:=I.ok.amf.mem hb
  exact I.base.free b o ho (I.ok.frf b hb) λz=>I.ok.atL b z hb
theorem Inv.step {g':Array GenState} {t':Nat} {d':Drawn} {ch:List Addr} (I:Inv X pins σ H s)
  (hch:∀ b ∈ ch,(b ∈ X.ex \/ X.s₀.heap.objs.size<=b) /\ b ≠ X.env.locals /\ (∀ x c,X.env.cells.lookup x=some c->c ≠ b) /\ ∀ p ∈ X.pn ++ pins,p.1 ≠ b)
  (keep:∀ b o,b ≠ X.env.locals->b ∉ X.fs->b ∉ ch->s.heap.get? b=some o->H b=none->h'.get? b=some o)
  (slot:∀ b o,b ≠ X.env.locals->b ∈ X.fs->b ∉ ch->s.heap.get? b=some o->H b=none->∃ sl,h'.get? b=some {o with slots:=sl }) (free:∀ b o,b ∉ ch->s.heap.get? b=some o->H b=none->H' b=none)
  (there:∀ b o,b ∉ ch->s.heap.get? b=some o->∃ o',h'.get? b=some o')
  (tups:∀ b xs,H b=some (.tup xs)->H' b=some (.tup xs)) (alx:∀ b o u,H b=some (.frz o u)->H' b=some (.frz o u)) (aly:∀ b ps,H b=some (.tbl ps)->∃ more,H' b=some (.tbl (ps ++ more)))
  (ns:∀ m,s.heap.Ns X.env.locals m->h'.Ns X.env.locals m) (hok:HOk X.prog X.w H' h') (hg:AllBare g') :
  Inv X pins σ H' {s with heap:=h',gens:=g',drawn:=d',toks:=t' }:=by
 have neL:∀ b o,X.s₀.heap.get? b=some o->b ≠ X.env.locals:=λb o e=>Nat.ne_of_lt (Nat.lt_of_lt_of_le (Heap.lt_size e) I.ok.above)
 have neC:∀ b o,X.s₀.heap.get? b=some o->b ∉ X.ex->b ∉ ch:=λb o e hx hb=>by
  rcases (hch b hb).1 with z | z
  ·exact hx z
  ·exact absurd (Nat.lt_of_lt_of_le (Heap.lt_size e) z) (Nat.lt_irrefl _)
 have cellK:∀ x c,X.env.cells.lookup x=some c->∀ v,s.heap.IsCell c v->h'.IsCell c v:=λx c e v ⟨o,ho,hd⟩=>by
  have nch:c ∉ ch:=λz=>(hch c z).2.2.1 x c e rfl
  by_cases hc:c ∈ X.fs
  ·obtain ⟨sl,q⟩:=slot c o (I.cne x c e) hc nch ho (I.afo x c e)
   exact ⟨_,q,hd⟩
  ·exact ⟨o,keep c o (I.cne x c e) hc nch ho (I.afo x c e),hd⟩
 refine ⟨I.ok,I.os,hg,⟨λb o e n hb hx=>?_,λb o e n hb hx=>?_,λb o e n hx=>?_,λb o e hx=>?_,λb xs e=>tups b xs (I.base.tups b xs e),λb o xs e=>alx b o xs (I.base.alx b o xs e),λb ps e=>?_⟩,?_,λx c e=>?_,?_,λx c e=>?_,λp hp=>?_,hok,I.len⟩
 ·exact keep b o (neL b o e) hb (neC b o e hx) (I.base.keep b o e n hb hx) (I.base.free b o e n hx)
 ·obtain ⟨sl,e1⟩:=I.base.slot b o e n hb hx
  obtain ⟨sl',e2⟩:=slot b _ (neL b o e) hb (neC b o e hx) e1 (I.base.free b o e n hx)
  exact ⟨sl',e2⟩
 ·obtain ⟨o',e1⟩:=I.base.there b o e hx
  exact free b o' (neC b o e hx) e1 (I.base.free b o e n hx)
 ·obtain ⟨o',e1⟩:=I.base.there b o e hx
  exact there b o' (neC b o e hx) e1
 ·obtain ⟨m1,e1⟩:=I.base.aly b ps e
  obtain ⟨m2,e2⟩:=aly b _ e1
  exact ⟨m1 ++ m2,by rw [e2,Array.append_assoc]⟩
 ·obtain ⟨m,hn,hl⟩:=I.loc
  refine ⟨m,ns m hn,λi x v e1 e2 e3=>?_⟩
  obtain ⟨u,r,l⟩:=hl i x v e1 e2 e3
  refine ⟨u,r,?_⟩
  rcases l with l | ⟨k,c,e,z⟩
  ·exact .inl l
  ·exact .inr ⟨k,c,e,cellK x c e _ z⟩
 ·obtain ⟨v,z⟩:=I.cell x c e
  exact ⟨v,cellK x c e v z⟩
 ·obtain ⟨m,⟨o,_,_,ho,_⟩,_⟩:=I.loc
  exact free _ o (λz=>(hch _ z).2.1 rfl) ho I.free
 ·obtain ⟨v,o,ho,hd⟩:=I.cell x c e
  exact free c o (λz=>(hch c z).2.2.1 x c e rfl) ho (I.afo x c e)
 ·obtain ⟨e,n,ne,nf,d⟩:=I.pin p hp
  have nch:p.1 ∉ ch:=λz=>(hch p.1 z).2.2.2 p hp rfl
  exact ⟨keep p.1 p.2 ne nf nch e n,free p.1 p.2 nch e n,ne,nf,d⟩
theorem Inv.un {t':Nat} (I:Inv X pins σ H s) (u:Un X.fs [] H H' s.heap h') (hok:HOk X.prog X.w H' h'):Inv X pins σ H' {s with heap:=h',toks:=t' }:=by
 obtain ⟨m,⟨o,es,ep,ho,r⟩,_⟩:=id I.loc
 obtain ⟨sl,hL⟩:=u.any ho I.free (by simp)
 exact I.step (g':=s.gens) (d':=s.drawn) (ch := []) (λ_ z=>nomatch z) (λb o _ hb _ e n=>u.keep b o e n hb (by simp)) (λb o _ hb _ e n=>u.slot b o e n hb (by simp)) (λb o _ e n=>u.free b o e n (by simp)) (λb o _ e=>u.there b o e (by simp)) u.tups u.alx u.aly (λm' hm=>by
  obtain ⟨o',es',ep',ho',r'⟩:=hm
  rw [ho] at ho'; cases ho'
  exact ⟨_,es',ep',hL,r'⟩) hok I.bare
theorem Inv.call {g':Array GenState} {t':Nat} {d':Drawn} {ch:List Addr} (I:Inv X pins σ H s) (u:Un (frs X.stack) ch H H' s.heap h') (hok:HOk X.prog X.w H' h') (hg:AllBare g')
  (hch:∀ b ∈ ch,(b ∈ X.ex \/ X.s₀.heap.objs.size<=b) /\ b ≠ X.env.locals /\ (∀ x c,X.env.cells.lookup x=some c->c ≠ b) /\ ∀ p ∈ X.pn ++ pins,p.1 ≠ b) :
  Inv X pins σ H' {s with heap:=h',gens:=g',drawn:=d',toks:=t' }:=by
 obtain ⟨m,⟨o,es,ep,ho,r⟩,_⟩:=id I.loc
 obtain ⟨sl,hL⟩:=u.any ho I.free λz=>(hch _ z).2.1 rfl
 exact I.step (ch:=ch) hch (λb o hL hb hc e n=>u.keep b o e n (λz=>(List.mem_cons.mp (I.alz b z)).elim hL hb) hc) (λb o _ _ hc e n=>u.any e n hc) (λb o hc e n=>u.free b o e n hc) (λb o hc e=>u.there b o e hc) u.tups u.alx u.aly (λm' hm=>by
  obtain ⟨o',es',ep',ho',r'⟩:=hm
  rw [ho] at ho'; cases ho'
  exact ⟨_,es',ep',hL,r'⟩) hok hg
theorem Inv.turned {t':Nat} {it:Addr} (I:Inv X pins σ H s) (k:∀ b o,b ≠ it->s.heap.get? b=some o->h'.get? b=some o) (hn:H it=none) (hL:it ≠ X.env.locals)
  (h1:it ∈ X.ex \/ X.s₀.heap.objs.size<=it) (h2:∀ x c,X.env.cells.lookup x=some c->c ≠ it) (h3:∀ p ∈ X.pn ++ pins,p.1 ≠ it):Inv X pins σ H {s with heap:=h',toks:=t' }:=by
 have nit:∀ b u,H b=some u->b ≠ it:=λb u e z=>by rw [z,hn] at e; cases e
 refine I.step (g':=s.gens) (d':=s.drawn) (ch := [it]) (λb hb=>?_) (λb o _ _ hc e _=>k b o (λz=>hc (by simp [z])) e) (λb o _ _ hc e _=>⟨o.slots,k b o (λz=>hc (by simp [z])) e⟩) (λ_ _ _ _ n=>n)
  (λb o hc e=>⟨o,k b o (λz=>hc (by simp [z])) e⟩) (λ_ _ e=>e) (λ_ _ _ e=>e) (λb ps e=>⟨#[],by rw [e]; simp⟩) (λm hm=>?_) (λb u e=>?_) I.bare
 ·have e:b=it:=by simpa using hb
  subst e
  exact ⟨h1,hL,h2,h3⟩
 ·obtain ⟨o,es,ep,ho,r⟩:=hm
  exact ⟨o,es,ep,k _ o (Ne.symm hL) ho,r⟩
 ·refine (I.hok b u e).stay (λc v hc q=>k c v ?_ q) (λ_ q=>q) λ_ _ q=>q
  rcases hc with z | z
  ·rw [z]; exact nit b u e
  ·exact nit c _ z
theorem Inv.tok (I:Inv X pins σ H s) (t:Nat):Inv X pins σ H {s with toks:=t }:=I.un (h':=s.heap) (t':=t) Un.refl I.hok
theorem Inv.kept {t':Nat} (I:Inv X pins σ H s) (k:∀ b u,s.heap.get? b=some u->h'.get? b=some u):Inv X pins σ H {s with heap:=h',toks:=t' }:=I.un (Un.kept k) (I.hok.kept k)
theorem Inv.laid {a:Addr} {o:HO} {t':Nat} (I:Inv X pins σ H s) (k:∀ b u,s.heap.get? b=some u->h'.get? b=some u) (hp:s.heap.objs.size<=a) (new:ae9 X.prog X.w (upd H a o) h' a o) :
  Inv X pins σ (upd H a o) {s with heap:=h',toks:=t' }:=I.un (Un.laid k hp (I.hok.fresh hp)) (I.hok.laid k hp new)
theorem Inv.write {x e:Addr} {o:HO} {t':Nat} (I:Inv X pins σ H s) (mu:Mut (H x)) (he:e=x \/ H e=some (.own x)) (k:∀ b u,b ≠ e->s.heap.get? b=some u->h'.get? b=some u) (heo:∃ u,h'.get? e=some u)
  (new:ae9 X.prog X.w (upd H x o) h' x o):Inv X pins σ (upd H x o) {s with heap:=h',toks:=t' }:=I.un (Un.write mu he k heo) (I.hok.write mu he k heo new)
theorem Inv.aiw {ahP:List (Addr × Obj)} (I:Inv X pins σ H s) (h:∀ p ∈ ahP,s.heap.get? p.1=some p.2 /\ H p.1=none /\ p.1 ≠ X.env.locals /\ p.1 ∉ X.fs /\ ∀ v,p.2.data ≠ .cell v):Inv X ahP σ H s :=
 ⟨I.ok,I.os,I.bare,I.base,I.loc,I.cell,I.free,I.afo,λp hp=>(List.mem_append.mp hp).elim (λz=>I.pin p (List.mem_append_left _ z)) (h p),I.hok,I.len⟩
theorem aix {N:List Str} (hN:N.Nodup) {i j:Nat} {x:Str} (a:N[i]? = some x) (b:N[j]? = some x):i=j:=by
 obtain ⟨h1,e1⟩:=List.getElem?_eq_some_iff.mp a
 obtain ⟨h2,e2⟩:=List.getElem?_eq_some_iff.mp b
 exact (List.getElem_inj hN).mp (e1.trans e2.symm)
theorem ajf {M:Model} {A:Around} {E:Value->Shared->Prop} {i:Nat} {x:Str} {v:V} {u:Value} {Q:Unit->Shared->Prop} (I:Inv X pins σ H s) (hN:X.N.Nodup) (hi:X.N[i]? = some x) (hx:Loc X.env.scope x) (r:RelV v u)
  (h:∀ s',Inv X pins (σ.set i (some v)) H s'->(∃ a,Heap.SameBut a s.heap s'.heap /\ (a=X.env.locals \/ X.env.cells.lookup x=some a))->Q () s') (hf:X.fn x=true \/ X.env.scope.names.lookup x=some .local:=by first | exact .inl rfl | exact .inr rfl | assumption):wpAny M A (storeName X.env x u) Q E s:=by
 obtain ⟨m,hn,hl⟩:=id I.loc
 have hcls:(X.env.scope.kind == .class || (X.env.scope.kind == .module && X.env.locals != X.env.globals))=false:=by rw [I.ok.kind]; rfl
 have hiσ : i < σ.length:=by rw [I.len]; exact (List.getElem?_eq_some_iff.mp hi).1
 have cne:=I.cne
 have tracked:∀ {a:Addr} {h':Heap},(∃ o,s.heap.get? a=some o /\ H a=none)->Heap.SameBut a s.heap h'->HOk X.prog X.w H h':=λ{a h'} ha hs b ob e=>by
  obtain ⟨_,_,hfree⟩:=ha
  refine (I.hok b ob e).stay (λc w' hc q=>(hs.2 c ?_).trans q) (λ_ q=>q) λ_ _ q=>q
  rintro rfl
  rcases hc with rfl | hc
  ·rw [hfree] at e; cases e
  ·rw [hfree] at hc; cases hc
 rcases hx with hk | hk
 ·refine wpAny_storeName_local hk hn (λh' hn' hs=>?_) hcls
  obtain ⟨oL,_,_,hoL,_⟩:=id hn
  refine h _ ⟨I.ok,I.os,I.bare,⟨λb o e n hb hx=>?_,λb o e n hb hx=>?_,I.base.free,λb o e hx=>?_,I.base.tups,I.base.alx,I.base.aly⟩,⟨_,hn',λj y v' e1 e2 e3=>?_⟩,λy c e=>?_,I.free,I.afo,λp hp=>?_,tracked ⟨oL,hoL,I.free⟩ hs,by simpa using I.len⟩ ⟨_,hs,.inl rfl⟩
  ·exact (hs.2 b (Nat.ne_of_lt (Nat.lt_of_lt_of_le (Heap.lt_size e) I.ok.above))).trans (I.base.keep b o e n hb hx)
  ·obtain ⟨sl,e1⟩:=I.base.slot b o e n hb hx
   exact ⟨sl,(hs.2 b (Nat.ne_of_lt (Nat.lt_of_lt_of_le (Heap.lt_size e) I.ok.above))).trans e1⟩
  ·obtain ⟨o',e1⟩:=I.base.there b o e hx
   exact ⟨o',(hs.2 b (Nat.ne_of_lt (Nat.lt_of_lt_of_le (Heap.lt_size e) I.ok.above))).trans e1⟩
  ·by_cases hj:j=i
   ·subst hj
    rw [hi] at e1; cases e1
    rw [List.getElem?_set_self hiσ] at e2
    cases e2
    exact ⟨u,r,.inl ⟨hk,by simp⟩⟩
   ·rw [List.getElem?_set_ne (Ne.symm hj)] at e2
    obtain ⟨u',r',q⟩:=hl j y v' e1 e2 e3
    refine ⟨u',r',?_⟩
    rcases q with ⟨k,e⟩ | ⟨k,c,e,z⟩
    ·refine .inl ⟨k,?_⟩
     have:y ≠ x:=λe=>hj (aix hN e1 (e ▸ hi))
     simp [this,e]
    ·exact .inr ⟨k,c,e,z.sameBut hs (cne y c e)⟩
  ·obtain ⟨w',z⟩:=I.cell y c e
   exact ⟨w',z.sameBut hs (cne y c e)⟩
  ·obtain ⟨e,n,ne,nf,d⟩:=I.pin p hp
   exact ⟨(hs.2 p.1 ne).trans e,n,ne,nf,d⟩
 ·have hfn:X.fn x=true:=by
   rcases hf with z | z
   ·exact z
   ·rw [z] at hk; cases hk
  obtain ⟨c,hc⟩:=I.ok.has x (.inl hk)
  obtain ⟨w',z⟩:=I.cell x c hc
  refine wpAny_storeName_cell I.ok.kind hk hc z (λh' hc' hs=>?_)
  obtain ⟨oc,hoc,azk⟩:=id z
  refine h {s with heap:=h' } ⟨I.ok,I.os,I.bare,⟨λb o e n hb hx=>?_,λb o e n hb hx=>?_,I.base.free,λb o e hx=>?_,I.base.tups,I.base.alx,I.base.aly⟩,⟨m,hn.sameBut hs (Ne.symm (cne x c hc)),λj y v' e1 e2 e3=>?_⟩,λy c' e=>?_,I.free,I.afo,λp hp=>?_,tracked ⟨oc,hoc,I.afo x c hc⟩ hs,by simpa using I.len⟩ ⟨c,hs,.inr hc⟩
  ·exact (hs.2 b (Nat.ne_of_lt (Nat.lt_of_lt_of_le (Heap.lt_size e) (I.ok.cab x c hfn hc)))).trans (I.base.keep b o e n hb hx)
  ·obtain ⟨sl,e1⟩:=I.base.slot b o e n hb hx
   exact ⟨sl,(hs.2 b (Nat.ne_of_lt (Nat.lt_of_lt_of_le (Heap.lt_size e) (I.ok.cab x c hfn hc)))).trans e1⟩
  ·obtain ⟨o',e1⟩:=I.base.there b o e hx
   exact ⟨o',(hs.2 b (Nat.ne_of_lt (Nat.lt_of_lt_of_le (Heap.lt_size e) (I.ok.cab x c hfn hc)))).trans e1⟩
  ·by_cases hj:j=i
   ·subst hj
    rw [hi] at e1; cases e1
    rw [List.getElem?_set_self hiσ] at e2
    cases e2
    exact ⟨u,r,.inr ⟨.inl hk,c,hc,hc'⟩⟩
   ·rw [List.getElem?_set_ne (Ne.symm hj)] at e2
    obtain ⟨u',r',q⟩:=hl j y v' e1 e2 e3
    refine ⟨u',r',?_⟩
    rcases q with q | ⟨k,c',e,z'⟩
    ·exact .inl q
    ·refine .inr ⟨k,c',e,z'.sameBut hs ?_⟩
     rintro rfl
     exact hj (aix hN e1 (I.ok.inj _ _ _ e hc ▸ hi))
  ·by_cases hcc:c'=c
   ·subst hcc; exact ⟨_,hc'⟩
   ·obtain ⟨w2,z2⟩:=I.cell y c' e
    exact ⟨w2,z2.sameBut hs hcc⟩
  ·obtain ⟨e,n,ne,nf,d⟩:=I.pin p hp
   refine ⟨(hs.2 p.1 ?_).trans e,n,ne,nf,d⟩
   intro q
   rw [q,hoc] at e
   have q':oc=p.2:=Option.some.inj e
   exact d w' (by rw [<-q']; exact azk)
theorem afp {M:Model} {A:Around} {E:Value->Shared->Prop} {i:Nat} {x:Str} {v:V} {u:Value} {Q:Unit->Shared->Prop} (I:Inv X pins σ H s) (hN:X.N.Nodup) (hi:X.N[i]? = some x) (hx:Loc X.env.scope x) (r:RelV v u)
  (h:∀ s',Inv X pins (σ.set i (some v)) H s'->Q () s') (hf:X.fn x=true \/ X.env.scope.names.lookup x=some .local:=by first | exact .inl rfl | exact .inr rfl | assumption):wpAny M A (storeName X.env x u) Q E s :=
 ajf I hN hi hx r (λs' I' _=>h s' I') hf
theorem Inv.call' {s':Shared} {ch:List Addr} (I:Inv X pins σ H s) (ho:s'.os=s.os) (u:Un (frs X.stack) ch H H' s.heap s'.heap) (hok:HOk X.prog X.w H' s'.heap) (hg:AllBare s'.gens)
  (hch:∀ b ∈ ch,(b ∈ X.ex \/ X.s₀.heap.objs.size<=b) /\ b ≠ X.env.locals /\ (∀ x c,X.env.cells.lookup x=some c->c ≠ b) /\ ∀ p ∈ X.pn ++ pins,p.1 ≠ b):Inv X pins σ H' s':=by
 obtain ⟨h',g',d',t',o'⟩:=s'
 have e:o'=s.os:=ho
 subst e
 exact I.call (g':=g') (t':=t') (d':=d') u hok hg hch
end
noncomputable abbrev XK:=Value->Option Addr->Hp->Prop
noncomputable abbrev St:=List (Option V)
noncomputable abbrev VK:=V->Hp->Prop
noncomputable abbrev TE:=St->Hp->VK->Prop
noncomputable abbrev TT:=St->Hp->(Bool->Hp->Prop)->Prop
noncomputable abbrev TA:=St->Hp->(List V->Hp->Prop)->Prop
structure Ends where
 nx:St->Hp->Prop
 rt:VK
 bk:St->Hp->Prop:=λ_ _=>False
 ct:St->Hp->Prop:=λ_ _=>False
noncomputable abbrev TS:=Ends->St->Hp->Prop
noncomputable def EP (X:Cx) (pins:List (Addr × Obj)) (σ : St) (Q:VK) (u:Value) (s':Shared):Prop:=∃ v H',Inv X pins σ H' s' /\ RelV v u /\ Q v H'
noncomputable def TP (X:Cx) (pins:List (Addr × Obj)) (σ : St) (Q:Bool->Hp->Prop) (b:Bool) (s':Shared):Prop:=∃ H',Inv X pins σ H' s' /\ Q b H'
noncomputable def AP (X:Cx) (pins:List (Addr × Obj)) (σ : St) (Q:List V->Hp->Prop) (us:List Value) (s':Shared):Prop:=∃ vs H',Inv X pins σ H' s' /\ Vals vs us /\ Q vs H'
noncomputable def SP (X:Cx) (pins:List (Addr × Obj)) (D:Ends) (f:Flow) (s':Shared):Prop :=
 match f with
 | .next=>∃ σ' H',Inv X pins σ' H' s' /\ D.nx σ' H'
 | .brk=>∃ σ' H',Inv X pins σ' H' s' /\ D.bk σ' H'
 | .cont=>∃ σ' H',Inv X pins σ' H' s' /\ D.ct σ' H'
 | .ret u=>∃ v σ' H',Inv X pins σ' H' s' /\ RelV v u /\ D.rt v H'
structure PE (X:Cx) (e:Expr) (t:TE):Prop where
 run:∀ (pins:List (Addr × Obj)) (s:Shared) (σ : St) (H:Hp) (Q:VK),Inv X pins σ H s->t σ H Q->wpAny (model X.prog X.w) X.A (eval e X.env) (EP X pins σ Q) X.xe s
noncomputable instance {X:Cx} {e:Expr} {t:TE}:CoeFun (PE X e t) λ_=>∀ (pins:List (Addr × Obj)) (s:Shared) (σ : St) (H:Hp) (Q:VK),Inv X pins σ H s->t σ H Q->wpAny (model X.prog X.w) X.A (eval e X.env) (EP X pins σ Q) X.xe s:=⟨PE.run⟩
structure PT (X:Cx) (e:Expr) (t:TT):Prop where
 run:∀ (pins:List (Addr × Obj)) (s:Shared) (σ : St) (H:Hp) (Q:Bool->Hp->Prop),Inv X pins σ H s->t σ H Q->wpAny (model X.prog X.w) X.A (isTrue e X.env (eval e X.env)) (TP X pins σ Q) X.xe s
noncomputable instance {X:Cx} {e:Expr} {t:TT}:CoeFun (PT X e t) λ_=>∀ (pins:List (Addr × Obj)) (s:Shared) (σ : St) (H:Hp) (Q:Bool->Hp->Prop),Inv X pins σ H s->t σ H Q->wpAny (model X.prog X.w) X.A (isTrue e X.env (eval e X.env)) (TP X pins σ Q) X.xe s:=⟨PT.run⟩
structure PW (X:Cx) (e:Expr) (t:TT):Prop where
 run:∀ (whole:Sem Value) (pins:List (Addr × Obj)) (s:Shared) (σ : St) (H:Hp) (Q:Bool->Hp->Prop),Inv X pins σ H s->t σ H Q->wpAny (model X.prog X.w) X.A (isTrue e X.env whole) (TP X pins σ Q) X.xe s
noncomputable instance {X:Cx} {e:Expr} {t:TT}:CoeFun (PW X e t) λ_=>∀ (whole:Sem Value) (pins:List (Addr × Obj)) (s:Shared) (σ : St) (H:Hp) (Q:Bool->Hp->Prop),Inv X pins σ H s->t σ H Q->wpAny (model X.prog X.w) X.A (isTrue e X.env whole) (TP X pins σ Q) X.xe s:=⟨PW.run⟩
theorem PW.pt {X:Cx} {e:Expr} {t:TT} (h:PW X e t):PT X e t:=⟨h.run _⟩
structure PA (X:Cx) (es:List Expr) (t:TA):Prop where
 run:∀ (pos:Pos) (pins:List (Addr × Obj)) (s:Shared) (σ : St) (H:Hp) (Q:List V->Hp->Prop),Inv X pins σ H s->t σ H Q->wpAny (model X.prog X.w) X.A (spliced (backTo pos (starEach es X.env))) (AP X pins σ Q) X.xe s
noncomputable instance {X:Cx} {es:List Expr} {t:TA}:CoeFun (PA X es t) λ_=>∀ (pos:Pos) (pins:List (Addr × Obj)) (s:Shared) (σ : St) (H:Hp) (Q:List V->Hp->Prop),Inv X pins σ H s->t σ H Q->wpAny (model X.prog X.w) X.A (spliced (backTo pos (starEach es X.env))) (AP X pins σ Q) X.xe s:=⟨PA.run⟩
structure PS (X:Cx) (st:Stmt) (t:TS):Prop where
 run:∀ (pins:List (Addr × Obj)) (s:Shared) (σ : St) (H:Hp) (D:Ends),Inv X pins σ H s->t D σ H->wpAny (model X.prog X.w) X.A (exec st X.env) (SP X pins D) X.xe s
noncomputable instance {X:Cx} {st:Stmt} {t:TS}:CoeFun (PS X st t) λ_=>∀ (pins:List (Addr × Obj)) (s:Shared) (σ : St) (H:Hp) (D:Ends),Inv X pins σ H s->t D σ H->wpAny (model X.prog X.w) X.A (exec st X.env) (SP X pins D) X.xe s:=⟨PS.run⟩
structure PSs (X:Cx) (st:List Stmt) (t:TS):Prop where
 run:∀ (pins:List (Addr × Obj)) (s:Shared) (σ : St) (H:Hp) (D:Ends),Inv X pins σ H s->t D σ H->wpAny (model X.prog X.w) X.A (execs st X.env) (SP X pins D) X.xe s
noncomputable instance {X:Cx} {st:List Stmt} {t:TS}:CoeFun (PSs X st t) λ_=>∀ (pins:List (Addr × Obj)) (s:Shared) (σ : St) (H:Hp) (D:Ends),Inv X pins σ H s->t D σ H->wpAny (model X.prog X.w) X.A (execs st X.env) (SP X pins D) X.xe s:=⟨PSs.run⟩
theorem thn {α : Type} {t:Sem α} {Q Q' : α -> Shared->Prop} {M:Model} {A:Around} {E:Value->Shared->Prop} {s:Shared} (h:wpAny M A t Q E s) (hQ:∀ a s,Q a s->Q' a s):wpAny M A t Q' E s:=wpAny_mono h hQ λ_ _ x=>x
end L2
namespace L2
open PySem PySem.Spec PyProof.Rows
section
variable {X:Cx}
noncomputable def aph (i:Nat):TE:=λσ H Q=>∃ v,σ[i]? = some (some v) /\ Q v H
noncomputable def tC (v:V):TE:=λ_ H Q=>Q v H
theorem anx {i:Nat} {x:Str} {pos:Pos} (hN:X.N[i]? = some x) (hv:Vis X.env.scope x) (hd:(x == ("__debug__" : Str))=false:=by decide) (hcd:(x == ("__classdict__" : Str))=false:=by decide):PE X (.Name x pos) (aph i):=by
 refine ⟨λpins s σ H Q I h=>?_⟩
 obtain ⟨v,e,h⟩:=h
 obtain ⟨m,hn,hl⟩:=I.loc
 obtain ⟨u,r,l⟩:=hl i x v hN e hv
 have fin:EP X pins σ Q u s:=⟨v,H,I,r,h⟩
 rcases l with ⟨hk,hm⟩ | ⟨hk,c,hc,hcell⟩
 ·exact wpAny_Name (wpAny_loadName_local I.ok.kind hk hn hm fin) hd
 ·rcases hk with hk | hk
  ·exact wpAny_Name (wpAny_loadName_cell I.ok.kind hk hc hcell fin) hd
  ·exact wpAny_Name (wpAny_loadName_free I.ok.kind hk hc hcell fin hcd) hd
theorem aam {i j pos}:PE X (.Constant (.int i) j pos) (tC (.int i)):=⟨λ_ _ _ H _ I h=>wpAny_Constant_int ⟨.int i,H,I.tok _,⟨_,rfl⟩,h⟩⟩
theorem agv {b j pos}:PE X (.Constant (.bool b) j pos) (tC (.bl b)):=⟨λ_ _ _ H _ I h=>Constant_bool ⟨.bl b,H,I,rfl,h⟩⟩
theorem ah9 {j pos}:PE X (.Constant .none j pos) (tC .non):=⟨λ_ _ _ H _ I h=>Constant_none ⟨.non,H,I,rfl,h⟩⟩
theorem ace {x j pos}:PE X (.Constant (.str x) j pos) (tC (.str x)):=⟨λ_ _ _ H _ I h=>Calls.Constant_str ⟨.str x,H,I.tok _,⟨_,rfl⟩,h⟩⟩
noncomputable def Gl (X:Cx) (x:Str):Prop:=X.env.kindOf x=some .globalImplicit
theorem ag1 {E:Value->Shared->Prop} {pins:List (Addr × Obj)} {s:Shared} {σ : St} {H:Hp} {x:Str} {u:Value} {pos:Pos} {Q:Value->Shared->Prop} (I:Inv X pins σ H s) (hg:Gl X x) (hm:X.mg x=some u) (h:Q u s)
  (hd:(x == ("__debug__" : Str))=false:=by decide):wpAny (model X.prog X.w) X.A (eval (.Name x pos) X.env) Q E s :=
 Calls.Name_function_global I.ok.kind hg (Calls.loadGlobal_global (by rw [I.ok.glob]; exact I.mod.glob.keeps I.bk) hm h) hd
theorem agk {E:Value->Shared->Prop} {pins:List (Addr × Obj)} {s:Shared} {σ : St} {H:Hp} {x:Str} {u:Value} {pos:Pos} {Q:Value->Shared->Prop} (I:Inv X pins σ H s) (hg:Gl X x) (hm:X.mg x=none) (hv:bootBuiltins x=some u) (h:Q u s)
  (hn:x ≠ "__name__" := by decide) (hd:(x == ("__debug__" : Str))=false:=by decide):wpAny (model X.prog X.w) X.A (eval (.Name x pos) X.env) Q E s:=by
 obtain ⟨mb,h1,h2⟩:=I.mod.blt
 exact Calls.Name_function_global I.ok.kind hg (Calls.loadGlobal_builtin (by rw [I.ok.glob]; exact I.mod.glob.keeps I.bk) hm (by rw [I.ok.blt]; exact h1.keeps I.bk) ((h2 x hn).trans hv) h) hd
theorem anz {x:Str} {v:V} {u:Value} {pos:Pos} (hg:Gl X x) (hm:X.mg x=some u) (r:RelV v u) (hd:(x == ("__debug__" : Str))=false:=by decide):PE X (.Name x pos) (tC v) :=
 ⟨λ_ _ _ H _ I h=>ag1 I hg hm ⟨v,H,I,r,h⟩ hd⟩
theorem anA {x:Str} {v:V} {u:Value} {pos:Pos} (hg:Gl X x) (hm:X.mg x=none) (hv:bootBuiltins x=some u) (r:RelV v u) (hn:x ≠ "__name__" := by decide) (hd:(x == ("__debug__" : Str))=false:=by decide):PE X (.Name x pos) (tC v) :=
 ⟨λ_ _ _ H _ I h=>agk I hg hm hv ⟨v,H,I,r,h⟩ hn hd⟩
variable {a b:Expr} {ta tb:TE} {pos:Pos}
variable {tA tB':TT} {rest:List Expr}
noncomputable def tOr (t u:TT):TT:=λσ H Q=>t σ H λc H1=>if c=true then Q true H1 else u σ H1 Q
noncomputable def ayx (t:TT):TT:=λσ H Q=>t σ H λc H1=>Q (!c) H1
theorem ajg (ha:PT X a tA):PW X (.BoolOp .Or [a] pos) tA:=by
 refine ⟨λwh pins s σ H Q I h=>?_⟩
 refine isTrue_or (thn (ha pins s σ H Q I h) λc s1 e=>?_)
 cases c with
 | false=>exact isTrue_or_nil e
 | true=>exact e
theorem anB (ha:PT X a tA) (hb:PW X (.BoolOp .Or (b :: rest) pos) tB'):PW X (.BoolOp .Or (a :: b :: rest) pos) (tOr tA tB'):=by
 refine ⟨λwh pins s σ H Q I h=>?_⟩
 refine isTrue_or (thn (ha pins s σ H _ I h) λc s1 ⟨H1,I1,q1⟩=>?_)
 cases c with
 | true=>exact ⟨H1,I1,q1⟩
 | false=>exact hb wh pins s1 σ H1 Q I1 q1
theorem adI (ha:PT X a tA):PT X (.UnaryOp .Not a pos) (ayx tA):=by
 refine ⟨λpins s σ H Q I h=>?_⟩
 exact isTrue_not (ha pins s σ H (λc H1=>Q (!c) H1) I h)
noncomputable def atM (ta tb:TE):TE:=λσ H Q=>ta σ H λx H1=>∃ c,x = .bl c /\ if c=true then tb σ H1 Q else Q (.bl false) H1
noncomputable def atN (ta:TE):TE:=λσ H Q=>ta σ H λx H1=>∃ c,x = .bl c /\ Q (.bl (!c)) H1
theorem ag2 {op} {t:TE} (h:PE X a t):PE X (.BoolOp op [a] pos) t:=⟨λpins s σ H Q I hw=>BoolOp_one (h pins s σ H Q I hw)⟩
theorem agl (ha:PE X a ta) (hb:PE X (.BoolOp .And (b :: rest) pos) tb):PE X (.BoolOp .And (a :: b :: rest) pos) (atM ta tb):=by
 refine ⟨λpins s σ H Q I h=>?_⟩
 refine BoolOp_and (thn (ha pins s σ H _ I h) λv s1 ⟨x,H1,I1,r1,q1⟩=>?_)
 obtain ⟨c,rfl,q1⟩:=q1
 cases r1
 refine wpAny_truthy_bool ?_
 cases c with
 | true=>exact hb pins s1 σ H1 Q I1 q1
 | false=>exact ⟨.bl false,H1,I1,rfl,q1⟩
theorem atO (ha:PE X a ta):PE X (.UnaryOp .Not a pos) (atN ta):=by
 refine ⟨λpins s σ H Q I h=>?_⟩
 refine UnaryOp_ (thn (ha pins s σ H _ I h) λv s1 ⟨x,H1,I1,r1,q1⟩=>?_)
 obtain ⟨c,rfl,q1⟩:=q1
 cases r1
 exact not_of (wpAny_truthy_bool ⟨.bl (!c),H1,I1,rfl,q1⟩)
end
end L2
namespace L2
open PySem PySem.Spec PyProof.Rows
noncomputable def SqL (K:PySem.W.Frag) (H:Hp) (a:Addr) (xs:List V):Prop :=
 Rd H a (.lst xs) \/
  ∃ (o:Obj) (its:Array Value) (n:Nat),K.lookup a=some o /\ o.cls = .type "list" /\ o.dict=none /\ o.data = .seq its n /\ its.size<=sizeLine /\ Vals xs its.toList
noncomputable def SqT (K:PySem.W.Frag) (H:Hp) (a:Addr) (xs:List V):Prop :=
 Rd H a (.tup xs) \/
  ∃ (o:Obj) (its:Array Value) (n:Nat),K.lookup a=some o /\ o.cls = .type "tuple" /\ o.data = .seq its n /\ its.size<=sizeLine /\ Vals xs its.toList
noncomputable def azl:Value->Option V
 | .none=>some .non
 | .bool b=>some (.bl b)
 | .int i _=>some (.int i)
 | .str x _=>some (.str x)
 | .bytes b _=>some (.byt b)
 | .float b _=>some (.flt b)
 | .ref a=>some (.ref a)
 | .type n=>some (.ty n)
 | _=>none
theorem RelV.abs {x:V} {u:Value} (r:RelV x u):azl u=some x:=by
 cases x with
 | non=>cases r; rfl
 | bl _=>cases r; rfl
 | int _=>obtain ⟨t,rfl⟩:=r; rfl
 | str _=>obtain ⟨t,rfl⟩:=r; rfl
 | byt _=>obtain ⟨t,rfl⟩:=r; rfl
 | flt _=>obtain ⟨t,rfl⟩:=r; rfl
 | ref _=>cases r; rfl
 | ty _=>cases r; rfl
theorem RelV.inj {x y:V} {u:Value} (r:RelV x u) (q:RelV y u):x=y:=Option.some.inj (r.abs.symm.trans q.abs)
theorem Vals.inj:∀ {xs ys:List V} {us:List Value},Vals xs us->Vals ys us->xs=ys
 | _,_,_,.nil,.nil=>rfl
 | _,_,_,.cons r t,.cons r' t'=>by rw [r.inj r',Vals.inj t t']
section
variable {X:Cx} {pins:List (Addr × Obj)} {σ : St} {H:Hp} {s:Shared} {a:Addr} {xs ys:List V}
theorem SqL.of {K:PySem.W.Frag} (h:H a=some (.lst xs)):SqL K H a xs := .inl (.inl h)
theorem SqT.of {K:PySem.W.Frag} (h:H a=some (.tup xs)):SqT K H a xs := .inl (.inl h)
theorem Inv.list (I:Inv X pins σ H s) (h:SqL X.K H a xs):∃ its:List Value,Vals xs its /\ PlainL s.heap a its.toArray /\ xs.length<=sizeLine:=by
 rcases h with h | ⟨o,its,n,hk,hc,hd,hs,hz,r⟩
 ·obtain ⟨z,its,n,r,e⟩:=h.ok I.hok
  exact ⟨its,r,⟨_,n,e,rfl,rfl,rfl⟩,z⟩
 ·refine ⟨its.toList,r,⟨o,n,I.kIn a o hk,hc,hd,by simpa using hs⟩,?_⟩
  have e:=r.length
  simp only [Array.length_toList] at e
  omega
theorem Inv.tuple (I:Inv X pins σ H s) (h:SqT X.K H a xs):∃ its:List Value,Vals xs its /\ IsTup s.heap a its.toArray /\ xs.length<=sizeLine:=by
 rcases h with h | ⟨o,its,n,hk,hc,hs,hz,r⟩
 ·obtain ⟨z,its,r,p⟩:=h.ok I.hok
  exact ⟨its,r,p,z⟩
 ·refine ⟨its.toList,r,⟨o,I.kIn a o hk,hc,n,by simpa using hs⟩,?_⟩
  have e:=r.length
  simp only [Array.length_toList] at e
  omega
theorem Inv.afq (I:Inv X pins σ H s) (h:SqL X.K H a xs) (h':SqL X.K H a ys):xs=ys:=by
 obtain ⟨its,r,⟨o,n,e,_,_,d⟩,_⟩:=I.list h
 obtain ⟨its',r',⟨o',n',e',_,_,d'⟩,_⟩:=I.list h'
 rw [e] at e'; cases e'
 rw [d] at d'
 injection d' with d1 _
 have:its=its':=by simpa using congrArg Array.toList d1
 subst this
 exact r.inj r'
theorem Inv.ajh (I:Inv X pins σ H s) (h:SqT X.K H a xs) (h':SqT X.K H a ys):xs=ys:=by
 obtain ⟨its,r,⟨o,e,_,n,d⟩,_⟩:=I.tuple h
 obtain ⟨its',r',⟨o',e',_,n',d'⟩,_⟩:=I.tuple h'
 rw [e] at e'; cases e'
 rw [d] at d'
 injection d' with d1 _
 have:its=its':=by simpa using congrArg Array.toList d1
 subst this
 exact r.inj r'
end
noncomputable abbrev Cx.wish (X:Cx) (E:Value->Shared->Prop):Cx:={X with xe:=E }
noncomputable abbrev Cx.nox (X:Cx):Cx:=X.wish λ_ _=>False
theorem Cx.Ok.wish {X:Cx} (ok:X.Ok) (E:Value->Shared->Prop):(X.wish E).Ok :=
 ⟨ok.mod,ok.kind,ok.glob,ok.blt,ok.above,ok.inj,ok.has,ok.cab,ok.hd,ok.frames,ok.stk,ok.exf,ok.bs,ok.bsz,ok.akl,ok.atL,ok.amf,ok.frf⟩
theorem Cx.Ok.aez {X:Cx} {E:Value->Shared->Prop} (ok:(X.wish E).Ok):X.Ok :=
 ⟨ok.mod,ok.kind,ok.glob,ok.blt,ok.above,ok.inj,ok.has,ok.cab,ok.hd,ok.frames,ok.stk,ok.exf,ok.bs,ok.bsz,ok.akl,ok.atL,ok.amf,ok.frf⟩
section
variable {X:Cx} {pins:List (Addr × Obj)} {σ : St} {H:Hp} {s:Shared} {E:Value->Shared->Prop}
theorem Inv.wish (I:Inv X pins σ H s) (E:Value->Shared->Prop):Inv (X.wish E) pins σ H s:=⟨I.ok.wish E,I.os,I.bare,I.base,I.loc,I.cell,I.free,I.afo,I.pin,I.hok,I.len⟩
theorem Inv.aez (I:Inv (X.wish E) pins σ H s):Inv X pins σ H s:=⟨I.ok.aez,I.os,I.bare,I.base,I.loc,I.cell,I.free,I.afo,I.pin,I.hok,I.len⟩
theorem SP.aez {D:Ends} {f:Flow} {s':Shared} (h:SP (X.wish E) pins D f s'):SP X pins D f s':=by
 cases f with
 | next=>obtain ⟨σ',H',I,q⟩:=h; exact ⟨σ',H',I.aez,q⟩
 | brk=>obtain ⟨σ',H',I,q⟩:=h; exact ⟨σ',H',I.aez,q⟩
 | cont=>obtain ⟨σ',H',I,q⟩:=h; exact ⟨σ',H',I.aez,q⟩
 | ret u=>obtain ⟨v,σ',H',I,r,q⟩:=h; exact ⟨v,σ',H',I.aez,r,q⟩
end
section
variable {X:Cx} {st:Stmt} {rest:List Stmt} {t u:TS} {e:Expr} {te:TE} {pos:Pos}
noncomputable def atP:TS:=λD σ H=>D.nx σ H
noncomputable def ayy (t u:TS):TS:=λD σ H=>t {D with nx:=u D } σ H
theorem aa4:PSs X [] atP:=⟨λ_ _ σ H _ I h=>wpAny_execs_nil ⟨σ,H,I,h⟩⟩
theorem aaj (h1:PS X st t) (h2:PSs X rest u):PSs X (st :: rest) (ayy t u):=by
 refine ⟨λpins s σ H D I h=>?_⟩
 refine wpAny_execs_cons (thn (h1 pins s σ H {D with nx:=u D } I h) λf s1 q=>?_)
 cases f with
 | next =>
  obtain ⟨σ',H',I',q⟩:=q
  exact h2 pins s1 σ' H' D I' q
 | ret v=>exact q
 | brk=>exact q
 | cont=>exact q
theorem aaq (h1:PS X st t):PSs X [st] t:=by
 refine ⟨λpins s σ H D I h=>?_⟩
 refine wpAny_execs_cons (thn (h1 pins s σ H D I h) λf s1 q=>?_)
 cases f with
 | next=>exact wpAny_execs_nil q
 | ret v=>exact q
 | brk=>exact q
 | cont=>exact q
theorem Inv.quiet {pins:List (Addr × Obj)} {σ : St} {H:Hp} {s:Shared} (I:Inv X pins σ H s):interactive X.env=false:=by simp [interactive,I.ok.kind]
noncomputable def aro (te:TE):TS:=λD σ H=>te σ H λ_ H1=>D.nx σ H1
theorem arp (he:PE X e te) (hs:swapsWith e none pos.line X.env=pure false:=by rfl):PS X (.Expr e pos) (aro te):=by
 refine ⟨λpins s σ H D I h=>?_⟩
 exact wpAny_Expr_any (thn (he pins s σ H _ I h) λv s1 ⟨x,H1,I1,r1,q1⟩=>⟨σ,H1,I1,q1⟩) I.quiet hs
noncomputable def ayz (te:TE):TS:=λD σ H=>te σ H D.rt
theorem aaI (he:PE X e te):PS X (.Return (some e) pos) (ayz te):=by
 refine ⟨λpins s σ H D I h=>?_⟩
 exact wpAny_Return_some (thn (he pins s σ H _ I h) λv s1 ⟨x,H1,I1,r1,q1⟩=>⟨x,σ,H1,I1,r1,q1⟩)
noncomputable def ayA (c:TT) (t u:TS):TS:=λD σ H=>c σ H λb H1=>if b=true then t D σ H1 else u D σ H1
theorem acz {c:Expr} {a b:List Stmt} {tc:TT} (hc:PT X c tc) (ha:PSs X a t) (hb:PSs X b u):PS X (.If c a b pos) (ayA tc t u):=by
 refine ⟨λpins s σ H D I h=>?_⟩
 refine wpAny_If (thn (hc pins s σ H _ I h) λd s1 ⟨H1,I1,q1⟩=>?_)
 cases d with
 | true=>exact ha pins s1 σ H1 D I1 q1
 | false=>exact hb pins s1 σ H1 D I1 q1
end
noncomputable abbrev TG:=V->St->Hp->(St->Hp->Prop)->Prop
noncomputable abbrev TGs:=List V->St->Hp->(St->Hp->Prop)->Prop
noncomputable def PG (X:Cx) (target:Expr) (t:TG):Prop :=
 ∀ (pins:List (Addr × Obj)) (s:Shared) (σ : St) (H:Hp) (v:V) (u:Value) (Q:St->Hp->Prop),Inv X pins σ H s->RelV v u->t v σ H Q ->
  wpAny (model X.prog X.w) X.A (assign target X.env u) (λ_ s'=>∃ σ' H',Inv X pins σ' H' s' /\ Q σ' H') X.xe s
noncomputable def PGs (X:Cx) (ts:List Expr) (t:TGs):Prop :=
 ∀ (pins:List (Addr × Obj)) (s:Shared) (σ : St) (H:Hp) (vs:List V) (us:List Value) (Q:St->Hp->Prop),Inv X pins σ H s->Vals vs us->t vs σ H Q ->
  wpAny (model X.prog X.w) X.A (assignInOrder ((assignEach ts X.env).map (·.2)) us) (λ_ s'=>∃ σ' H',Inv X pins σ' H' s' /\ Q σ' H') X.xe s
noncomputable abbrev awM:=V->V->V->Hp->(Hp->Prop)->Prop
noncomputable def ayB (X:Cx) (t:awM):Prop :=
 ∀ (pins:List (Addr × Obj)) (s:Shared) (σ : St) (H:Hp) (o i v:V) (ov iv u:Value) (Q:Hp->Prop),Inv X pins σ H s->RelV o ov->RelV i iv->RelV v u->t o i v H Q ->
  wpAny (model X.prog X.w) X.A (setItem ov iv u) (λ_ s'=>∃ H',Inv X pins σ H' s' /\ Q H') X.xe s
section
variable {X:Cx} {pos:Pos}
noncomputable def adB (i:Nat):TG:=λv σ H Q=>Q (σ.set i (some v)) H
theorem arq {i:Nat} {x:Str} (hN:X.N.Nodup) (hi:X.N[i]? = some x) (hx:Loc X.env.scope x) (hf:X.fn x=true \/ X.env.scope.names.lookup x=some .local:=by first | exact .inl rfl | exact .inr rfl | assumption):PG X (.Name x pos) (adB i):=by
 intro pins s σ H v u Q I r h
 exact wpAny_assign_Name (afp I hN hi hx r (λs' I'=>⟨_,H,I',h⟩) hf)
noncomputable def awN:TGs:=λvs σ H Q=>vs = [] /\ Q σ H
noncomputable def apj (t:TG) (u:TGs):TGs:=λvs σ H Q=>∃ v r,vs=v :: r /\ t v σ H λσ' H'=>u r σ' H' Q
theorem afa:PGs X [] awN:=by
 intro pins s σ H vs us Q I r h
 obtain ⟨e,h⟩:=h
 subst e
 cases r
 exact assignInOrder_nil ⟨σ,H,I,h⟩
theorem ab7 {e:Expr} {es:List Expr} {t:TG} {u:TGs} (h1:PG X e t) (h2:PGs X es u)
  (hs:(assignEach (e :: es) X.env).map (·.2)=assign e X.env :: (assignEach es X.env).map (·.2):=by rfl):PGs X (e :: es) (apj t u):=by
 intro pins s σ H vs us Q I r h
 obtain ⟨v,vr,e1,h⟩:=h
 subst e1
 cases r with
 | cons r rr =>
  rw [hs]
  refine assignInOrder_cons (thn (h1 pins s σ H _ _ _ I r h) λ_ s1 ⟨σ1,H1,I1,q1⟩=>?_)
  exact h2 pins s1 σ1 H1 _ _ Q I1 rr q1
noncomputable def awO (K:PySem.W.Frag) (n:Nat) (t:TGs):TG:=λv σ H Q=>∃ a xs,v = .ref a /\ SqT K H a xs /\ xs.length=n /\ t xs σ H Q
theorem ag3 {es:List Expr} {k:Nat} {t:TGs} {n:Nat} (hc:X.calm=true) (h:PGs X es t)
  (hn:(assignEach es X.env).length=n:=by rfl) (hst:(assignEach es X.env).findIdx? (·.1)=none:=by rfl):PG X (.Tuple es k pos) (awO X.K n t):=by
 intro pins s σ H v u Q I r hw
 obtain ⟨a,xs,e1,hq,hl,hw⟩:=hw
 subst e1
 cases r
 obtain ⟨its,rv,ht,hz⟩:=I.tuple hq
 refine assign_Tuple_tuple (I.ok.hd hc) ht (by simp [hn,<-hl,rv.length]) hst λh' hx=>?_
 have I1:Inv X pins σ H {s with heap:=h' }:=I.kept (t':=s.toks) λb o e=>hx b o (Nat.ne_of_lt (Heap.lt_size e)) e
 exact h pins _ σ H xs _ Q I1 (by simpa using rv) hw
noncomputable def ayC (to ti:TE) (t:awM):TG:=λv σ H Q=>to σ H λo H1=>ti σ H1 λi H2=>t o i v H2 λH3=>Q σ H3
theorem atQ {o i:Expr} {to ti:TE} {t:awM} (ho:PE X o to) (hi:PE X i ti) (hs:ayB X t)
  (ha:∀ v,assign (.Subscript o i pos) X.env v=(do
   let ov <-holding [v] (eval o X.env)
   let iv <-holding [v,ov] (eval i X.env)
   standAt pos
   holding [v,ov,iv] (setItem ov iv v)
   release [v,ov,iv] []):=by intro _; rfl):PG X (.Subscript o i pos) (ayC to ti t):=by
 intro pins s σ H v u Q I r h
 rw [ha]
 refine wpAny_bind (wpAny_holding (thn (ho pins s σ H _ I h) λov s1 ⟨x,H1,I1,r1,q1⟩=>?_))
 refine wpAny_bind (wpAny_holding (thn (hi pins s1 σ H1 _ I1 q1) λiv s2 ⟨y,H2,I2,r2,q2⟩=>?_))
 refine wpAny_bind (wpAny_standAt (wpAny_bind (wpAny_holding (thn (hs pins s2 σ H2 x y v ov iv u _ I2 r1 r2 r q2) λ_ s3 ⟨H3,I3,q3⟩=>?_))))
 exact wpAny_release ⟨σ,H3,I3,q3⟩
noncomputable def aqH (te:TE) (g:TG):TS:=λD σ H=>te σ H λx H1=>g x σ H1 D.nx
theorem alA {tg e:Expr} {te:TE} {g:TG} (he:PE X e te) (hg:PG X tg g) (hs:swapsWithSole [tg] e pos.line X.env=pure false:=by rfl) (hw:swappedStores [tg] e X.env=pure none:=by rfl)
  (h1:(assignEach [tg] X.env).map (·.2) = [assign tg X.env]:=by rfl):PS X (.Assign [tg] e pos) (aqH te g):=by
 refine ⟨λpins s σ H D I h=>?_⟩
 refine wpAny_Assign_stores (thn (he pins s σ H _ I h) λv s1 ⟨x,H1,I1,r1,q1⟩=>?_) hs hw
 rw [h1]
 exact thn (hg pins s1 σ H1 x v _ I1 r1 q1) λ_ s2 q=>q
theorem aqI {i:Nat} {x:Str} {e:Expr} {te:TE} {pos':Pos} (hN:X.N.Nodup) (hi:X.N[i]? = some x) (hx:Loc X.env.scope x) (he:PE X e te) (hs:swapsWith e (some (.Name x pos')) pos.line X.env=pure false:=by rfl) (hf:X.fn x=true \/ X.env.scope.names.lookup x=some .local:=by first | exact .inl rfl | exact .inr rfl | assumption) :
  PS X (.Assign [.Name x pos'] e pos) (aqH te (adB i)):=by
 refine ⟨λpins s σ H D I h=>?_⟩
 refine wpAny_Assign_Name (thn (he pins s σ H _ I h) λv s1 ⟨y,H1,I1,r1,q1⟩=>?_) hs
 exact afp I1 hN hi hx r1 (λs2 I2=>⟨_,H1,I2,q1⟩) hf
noncomputable def ayD (i j:Nat) (ta:TA):TS:=λD σ H=>ta σ H λvs H1=>∃ v w,vs = [v,w] /\ D.nx ((σ.set i (some v)).set j (some w)) H1
theorem aqJ {i j:Nat} {x y:Str} {a b:Expr} {ta:TA} {px py pt:Pos} {kt k2 pt2} (hc:X.calm=true) (hN:X.N.Nodup) (hi:X.N[i]? = some x) (hj:X.N[j]? = some y) (hij:i ≠ j)
  (hx:X.env.scope.names.lookup x=some .local) (hy:X.env.scope.names.lookup y=some .local) (ha:PA X [a,b] ta)
  (hw:swappedStores [.Tuple [.Name x px,.Name y py] kt pt] (.Tuple [a,b] k2 pt2) X.env=pure (some [x,y]))
  (hs:swapsWithSole [.Tuple [.Name x px,.Name y py] kt pt] (.Tuple [a,b] k2 pt2) pos.line X.env=pure false:=by rfl) :
  PS X (.Assign [.Tuple [.Name x px,.Name y py] kt pt] (.Tuple [a,b] k2 pt2) pos) (ayD i j ta):=by
 refine ⟨λpins s σ H D I h=>?_⟩
 rw [exec_Assign_arm]
 refine wpAny_bind (wpAny_standAt ?_)
 rw [hs]
 refine wpAny_bind (wpAny_pure ?_)
 rw [if_neg (by decide)]
 refine wpAny_bind (Tuple_ (thn (ha _ pins s σ H _ I h) λus s1 ⟨vs,H1,I1,r1,q1⟩=>?_))
 obtain ⟨v,w,e1,q1⟩:=q1
 subst e1
 obtain ⟨u1,u2,rfl,rv,rw'⟩:∃ u1 u2,us = [u1,u2] /\ RelV v u1 /\ RelV w u2:=by
  cases r1 with
  | cons p q =>
   cases q with
   | cons p' q' =>
    cases q'
    exact ⟨_,_,rfl,p,p'⟩
 refine wpAny_newObj_type ?_ (by show 2<=sizeLine; decide)
 have I2:Inv X pins σ H1 {s1 with heap:=s1.heap.push {cls := .type "tuple",data := .seq [u1,u2].toArray } }:=I1.kept (t':=s1.toks) λb o e=>Heap.get?_push_of_some _ e
 rw [hw]
 refine wpAny_bind (wpAny_pure ?_)
 show wpAny (model X.prog X.w) X.A (do rule "assign.swapped-stores"; let items <-unpackItems (.ref s1.heap.objs.size) 2 none; assignInOrder [λv=>bindName X.env y v,λv=>bindName X.env x v] items.reverse; pure Flow.next) _ _ _
 refine wpAny_bind (wpAny_rule (wpAny_bind (unpackItems_tuple (items := #[u1,u2]) (I.ok.hd hc) (IsTup.new s1.heap _) λh' hx'=>?_)))
 have I3:=I2.kept (h':=h') (t':=s1.toks) λb o e=>hx' b o (Nat.ne_of_lt (Heap.lt_size e)) e
 show wpAny _ _ (assignInOrder [λv=>bindName X.env y v,λv=>bindName X.env x v] [u2,u1] >>= λ_=>pure Flow.next) _ _ _
 refine wpAny_bind (assignInOrder_cons (wpAny_bindName (afp I3 hN hj (.inl hy) rw' (λs2 I4=>?_) (.inr hy))))
 refine assignInOrder_cons (wpAny_bindName (afp I4 hN hi (.inl hx) rv (λs3 I5=>assignInOrder_nil (wpAny_pure ?_)) (.inr hx)))
 rw [List.set_comm _ _ (Ne.symm hij)] at I5
 exact ⟨_,H1,I5,q1⟩
end
section
variable {X:Cx} {pos:Pos}
noncomputable def aqK (c:TT) (tb:TS):TS:=λD σ H=>∃ W:Nat->St->Hp->Prop,(∃ m,W m σ H) /\ ∀ m σ H,W m σ H ->
 c σ H λb H1=>if b=true then ∃ N:St->Hp->Prop,(∀ σ' H',N σ' H'->∃ m',m'<m /\ W m' σ' H') /\ tb {D with nx:=N,ct:=N,bk:=D.nx } σ H1 else D.nx σ H1
theorem alB {c:Expr} {body:List Stmt} {tc:TT} {tb:TS} (hp:PassesOwn (model X.prog X.w) X.A X.env X.xe) (hc:PT X c tc) (hb:PSs X body tb):PS X (.While c body [] pos) (aqK tc tb):=by
 refine ⟨λpins s σ H D I h=>?_⟩
 obtain ⟨W,⟨m0,w0⟩,turn⟩:=h
 refine wpAny_While (codeAny_whileLoop (λn s'=>∃ σ' H',Inv X pins σ' H' s' /\ W n σ' H') ?_ m0 ⟨σ,H,I,w0⟩)
 rintro n s1 ⟨σ1,H1,I1,w1⟩
 refine wpAny_passesOwn hp (thn (hc pins s1 σ1 H1 _ I1 (turn n σ1 H1 w1)) λb s2 ⟨H2,I2,q2⟩=>?_)
 cases b with
 | true =>
  obtain ⟨N,hN,q2⟩:=q2
  rw [if_pos rfl]
  refine wpAny_passesOwn hp (thn (hb pins s2 σ1 H2 _ I2 q2) λf s3 q3=>?_)
  cases f with
  | next =>
   obtain ⟨σ3,H3,I3,n3⟩:=q3
   obtain ⟨m',hm,w3⟩:=hN σ3 H3 n3
   exact ⟨m',hm,σ3,H3,I3,w3⟩
  | cont =>
   obtain ⟨σ3,H3,I3,n3⟩:=q3
   obtain ⟨m',hm,w3⟩:=hN σ3 H3 n3
   exact ⟨m',hm,σ3,H3,I3,w3⟩
  | brk=>exact q3
  | ret v=>exact q3
 | false =>
  rw [if_neg Bool.false_ne_true]
  exact wpAny_execs_nil ⟨σ1,H2,I2,q2⟩
end
structure It where
 go:Nat->Hp->Prop
 yld:Nat->Hp->V->Hp->Prop
 stop:Nat->Hp->Prop
noncomputable def afr (X:Cx) (pins:List (Addr × Obj)) (H:Hp) (b:Addr):Prop :=
 H b=none /\ b ≠ X.env.locals /\ b ∉ X.fs /\ (b ∈ X.ex \/ X.s₀.heap.objs.size<=b) /\ (∀ x c,X.env.cells.lookup x=some c->c ≠ b) /\ ∀ p ∈ X.pn ++ pins,p.1 ≠ b
theorem Inv.apc {X:Cx} {pins:List (Addr × Obj)} {σ : St} {H H':Hp} {s:Shared} {b:Addr} (I:Inv X pins σ H s) (hb:s.heap.objs.size<=b) (hn:H' b=none):afr X pins H' b:=by
 refine ⟨hn,Nat.ne_of_gt (Nat.lt_of_lt_of_le I.lt hb),I.azj hb,.inr (Nat.le_trans I.sz hb),λx c e z=>?_,λp hp z=>?_⟩
 ·obtain ⟨v,q⟩:=I.cell x c e
  exact absurd (Nat.lt_of_lt_of_le q.lt (by rw [z]; exact hb)) (Nat.lt_irrefl _)
 ·exact absurd (Nat.lt_of_lt_of_le (Heap.lt_size (I.pin p hp).1) (by rw [z]; exact hb)) (Nat.lt_irrefl _)
structure Turn (P:Program) (w:World) (K:PySem.W.Frag) (tg:Expr) (J:It) (fp:List Addr) (it:Addr) (tn:Nat->Heap->Prop):Prop where
 mem:it ∈ fp
 obj:∀ i h,tn i h->∀ b ∈ fp,∃ o,h.get? b=some o /\ ∀ v,o.data ≠ .cell v
 keep:∀ i h h',tn i h->(∀ b ∈ fp,∀ o,h.get? b=some o->h'.get? b=some o)->tn i h'
 item:∀ (X:Cx),X.prog=P->X.w=w->X.K=K->X.calm=true->∀ (i:Nat) (pins:List (Addr × Obj)) (s:Shared) (σ : St) (H:Hp) (E:Value->Shared->Prop),Inv X pins σ H s->(∀ b ∈ fp,afr X pins H b)->tn i s.heap->J.go i H ->
  wpAny (model P w) X.A (pyNext (.ref it)) (λr s1=>∃ u,r=some u /\
   wpAny (model P w) X.A (letOwnedTupleGo tg (.ref it) u) (λ_ s2=>∃ x H',Inv X pins σ H' s2 /\ RelV x u /\ J.yld i H x H' /\ tn (i + 1) s2.heap /\ ∀ b ∈ fp,H' b=none) E s1) E s
 done:∀ (X:Cx),X.prog=P->X.w=w->X.K=K->X.calm=true->∀ (i:Nat) (pins:List (Addr × Obj)) (s:Shared) (σ : St) (H:Hp) (E:Value->Shared->Prop),Inv X pins σ H s->(∀ b ∈ fp,afr X pins H b)->tn i s.heap->J.stop i H ->
  wpAny (model P w) X.A (pyNext (.ref it)) (λr s1=>r=none /\ Inv X pins σ H s1) E s
 self:∀ (A:Around) (i:Nat) (s:Shared) (Q:Value->Shared->Prop) (E:Value->Shared->Prop),tn i s.heap->Q (.ref it) s->wpAny (model P w) A (pyIter (.ref it)) Q E s
noncomputable abbrev TI:=St->Hp->(It->Hp->Prop)->Prop
noncomputable def PIE (X:Cx) (pins:List (Addr × Obj)) (σ : St) (tg:Expr) (R:It->Hp->Prop) (itv:Value) (s2:Shared):Prop :=
 ∃ (it:Addr) (fp:List Addr) (tn:Nat->Heap->Prop) (J:It) (H':Hp),itv = .ref it /\ Inv X pins σ H' s2 /\ Turn X.prog X.w X.K tg J fp it tn /\ tn 0 s2.heap /\ (∀ b ∈ fp,afr X pins H' b) /\ R J H'
noncomputable def PI (X:Cx) (tg iter:Expr) (wi:TI):Prop :=
 ∀ (pins:List (Addr × Obj)) (s:Shared) (σ : St) (H:Hp) (R:It->Hp->Prop),Inv X pins σ H s->wi σ H R ->
  wpAny (model X.prog X.w) X.A (eval iter X.env) (λv s1=>wpAny (model X.prog X.w) X.A (pyIter v) (PIE X pins σ tg R) X.xe s1) X.xe s
theorem ars {M:Model} {A:Around} {E:Value→Shared→Prop} {s:Shared} {tg:Expr} {it:Addr} {u:Value} {o:Obj} {n:String} {vs:Array Value} {Q:Unit→Shared→Prop} (ho:s.heap.get? it=some o) (hc:o.cls = .type n) (hd:o.data = .fields vs)
    (hn : ["enumerate", "zip", "dict_itemiterator", "dict_reverseitemiterator", "odict_iterator", "itertools.zip_longest", "itertools.pairwise"].contains n=false) (hQ:Q () s):wpAny M A (letOwnedTupleGo tg (.ref it) u) Q E s:=by
  unfold letOwnedTupleGo
  cases tg <;> first
    | exact wpAny_pure hQ
    | (cases u <;> first
        | exact wpAny_pure hQ
        | (refine wpAny_bind (wpAny_load ho ?_)
           rw [hc,hd]
           show wpAny M A (if (["enumerate", "zip", "dict_itemiterator", "dict_reverseitemiterator", "odict_iterator", "itertools.zip_longest", "itertools.pairwise"].contains n && vs[0]? == some (rawInt _))=true then _ else _) Q E s
           rw [if_neg (by intro h; rw [hn,Bool.false_and] at h; cases h)]
           exact wpAny_pure hQ))
noncomputable def Itl (K:PySem.W.Frag) (a:Addr):It :=
 ⟨λi H=>∃ xs x,SqL K H a xs /\ xs[i]? = some x,λi H x H'=>H'=H /\ ∀ xs,SqL K H a xs->xs[i]? = some x,λi H=>∃ xs,SqL K H a xs /\ xs.length<=i⟩
noncomputable def Itt (K:PySem.W.Frag) (a:Addr):It :=
 ⟨λi H=>∃ xs x,SqT K H a xs /\ xs[i]? = some x,λi H x H'=>H'=H /\ ∀ xs,SqT K H a xs->xs[i]? = some x,λi H=>∃ xs,SqT K H a xs /\ xs.length<=i⟩
noncomputable def Itr (lo:Int) (n:Nat):It:=⟨λi _=>i<n,λi H x H'=>H'=H /\ x = .int (lo + i),λi _=>n<=i⟩
theorem anC {P:Program} {w:World} {K:PySem.W.Frag} {tg:Expr} (a it:Addr):Turn P w K tg (Itl K a) [it] it (λi h=>h.IsListIter it a i) where
 mem:=by simp
 obj:=λi h st b hb=>by
  have e:b=it:=by simpa using hb
  subst e
  obtain ⟨o,e,c,d⟩:=st
  exact ⟨o,e,λv z=>by rw [d] at z; cases z⟩
 keep:=λi h h' st k=>st.at λo e=>k it (by simp) o e
 item:=by
  intro X hP hw hK hc i pins s σ H E I hf st hg
  subst hP hw hK
  obtain ⟨xs,x,hq,hx⟩:=hg
  obtain ⟨its,rv,p,hz⟩:=I.list hq
  obtain ⟨u,hu,ru⟩:=rv.get hx
  obtain ⟨f0,f1,f2,f3,f4,f5⟩:=hf it (by simp)
  refine wpAny_pyNext_list_item st p.isList (x:=u) (by simpa using hu) λh' st' sb=>?_
  have I1:Inv X pins σ H {s with heap:=h' }:=I.turned (t':=s.toks) (λb o hb e=>(sb.2 b hb).trans e) f0 f1 f3 f4 f5
  obtain ⟨o,e,c,d⟩:=id st'
  exact ⟨u,rfl,ars (s:={s with heap:=h' }) e c d (by decide) ⟨x,H,I1,ru,⟨rfl,λys hy=>by rw [I.afq hy hq]; exact hx⟩,st',λb hb=>(hf b hb).1⟩⟩
 done:=by
  intro X hP hw hK hc i pins s σ H E I hf st hg
  subst hP hw hK
  obtain ⟨xs,hq,hx⟩:=hg
  obtain ⟨its,rv,p,hz⟩:=I.list hq
  obtain ⟨f0,f1,f2,f3,f4,f5⟩:=hf it (by simp)
  have hl:=rv.length
  exact wpAny_pyNext_list_end (I.ok.hd hc) st p.isList (by simp; omega) λh' eb=>⟨rfl,I.turned (t':=s.toks) (λb o hb e=>eb b o hb e) f0 f1 f3 f4 f5⟩
 self:=λ_ _ _ _ _ st h=>wpAny_pyIter_listiter st h
theorem amg {P:Program} {w:World} {K:PySem.W.Frag} {tg:Expr} (a it:Addr):Turn P w K tg (Itt K a) [it] it (λi h=>h.IsTupleIter it a i) where
 mem:=by simp
 obj:=λi h st b hb=>by
  have e:b=it:=by simpa using hb
  subst e
  obtain ⟨o,e,c,d⟩:=st
  exact ⟨o,e,λv z=>by rw [d] at z; cases z⟩
 keep:=λi h h' st k=>st.at λo e=>k it (by simp) o e
 item:=by
  intro X hP hw hK hc i pins s σ H E I hf st hg
  subst hP hw hK
  obtain ⟨xs,x,hq,hx⟩:=hg
  obtain ⟨its,rv,p,hz⟩:=I.tuple hq
  obtain ⟨u,hu,ru⟩:=rv.get hx
  obtain ⟨f0,f1,f2,f3,f4,f5⟩:=hf it (by simp)
  refine wpAny_pyNext_tuple_item st (show s.heap.IsTuple a its.toArray from p) (x:=u) (by simpa using hu) λh' st' sb=>?_
  have I1:Inv X pins σ H {s with heap:=h' }:=I.turned (t':=s.toks) (λb o hb e=>(sb.2 b hb).trans e) f0 f1 f3 f4 f5
  obtain ⟨o,e,c,d⟩:=id st'
  exact ⟨u,rfl,ars (s:={s with heap:=h' }) e c d (by decide) ⟨x,H,I1,ru,⟨rfl,λys hy=>by rw [I.ajh hy hq]; exact hx⟩,st',λb hb=>(hf b hb).1⟩⟩
 done:=by
  intro X hP hw hK hc i pins s σ H E I hf st hg
  subst hP hw hK
  obtain ⟨xs,hq,hx⟩:=hg
  obtain ⟨its,rv,p,hz⟩:=I.tuple hq
  obtain ⟨f0,f1,f2,f3,f4,f5⟩:=hf it (by simp)
  have hl:=rv.length
  exact wpAny_pyNext_tuple_end (I.ok.hd hc) st (show s.heap.IsTuple a its.toArray from p) (by simp; omega) λh' eb=>⟨rfl,I.turned (t':=s.toks) (λb o hb e=>eb b o hb e) f0 f1 f3 f4 f5⟩
 self:=λ_ _ _ _ _ st h=>wpAny_pyIter_tupleiter st h
theorem amh {P:Program} {w:World} {K:PySem.W.Frag} {tg:Expr} (it:Addr) (lo:Int) (n:Nat):Turn P w K tg (Itr lo n) [it] it (λi h=>IsRangeIter h it (lo + (i:Nat) * 1) ((n:Int) - (i:Nat)) 1) where
 mem:=by simp
 obj:=λi h st b hb=>by
  have e:b=it:=by simpa using hb
  subst e
  exact ⟨_,st,λv z=>by
   have z':Data.fields _=Data.cell v:=z
   cases z'⟩
 keep:=λi h h' st k=>k it (by simp) _ st
 item:=by
  intro X hP hw hK hc i pins s σ H E I hf st hg
  subst hP hw hK
  obtain ⟨f0,f1,f2,f3,f4,f5⟩:=hf it (by simp)
  have W:=Walks.range (prog:=X.prog) (w:=X.w) (I.ok.hd hc) it lo 1 n
  refine W.item i s _ _ hg st λv h' tk hv st' kk=>?_
  obtain ⟨t,rfl⟩:=hv
  have I1:Inv X pins σ H {s with heap:=h',toks:=tk }:=I.turned (λb o hb e=>kk b o (by simpa using hb) e) f0 f1 f3 f4 f5
  refine ⟨_,rfl,ars (s:={s with heap:=h',toks:=tk }) (n := "range_iterator") st' rfl rfl (by decide) ⟨.int (lo + i),H,I1,⟨t,?_⟩,⟨rfl,rfl⟩,st',λb hb=>(hf b hb).1⟩⟩
  rw [Int.mul_one]
 done:=by
  intro X hP hw hK hc i pins s σ H E I hf st hg
  subst hP hw hK
  obtain ⟨f0,f1,f2,f3,f4,f5⟩:=hf it (by simp)
  exact wpAny_pyNext_range_end (I.ok.hd hc) st (by have:n<=i:=hg; omega) λh' eb=>⟨rfl,I.turned (t':=s.toks) (λb o hb e=>eb b o hb e) f0 f1 f3 f4 f5⟩
 self:=λ_ _ _ _ _ st h=>wpAny_pyIter_rangeiter st h
end L2
namespace L2
open PySem PySem.Spec PyProof.Rows
section
variable {X:Cx} {tg:Expr}
noncomputable def atR (K:PySem.W.Frag) (tl:TE):TI:=λσ H R=>tl σ H λx H1=>∃ a,x = .ref a /\ (∃ xs,SqL K H1 a xs) /\ R (Itl K a) H1
noncomputable def ayE (K:PySem.W.Frag) (tl:TE):TI:=λσ H R=>tl σ H λx H1=>∃ a,x = .ref a /\ (∃ xs,SqT K H1 a xs) /\ R (Itt K a) H1
theorem aru {l:Expr} {tl:TE} (hl:PE X l tl):PI X tg l (atR X.K tl):=by
 intro pins s σ H R I h
 refine thn (hl pins s σ H _ I h) λv s1 ⟨x,H1,I1,r1,q1⟩=>?_
 obtain ⟨a,e,⟨xs,hq⟩,q⟩:=q1
 subst e
 cases r1
 obtain ⟨its,rv,p,hz⟩:=I1.list hq
 refine wpAny_pyIter_list p.isList ?_
 refine ⟨s1.heap.objs.size,[s1.heap.objs.size],_,_,H1,rfl,I1.kept (t':=s1.toks) λb o e=>Heap.get?_push_of_some _ e,anC a _,⟨_,Heap.get?_push_size _ rfl,rfl,rfl⟩,λb hb=>?_,q⟩
 have e:b=s1.heap.objs.size:=by simpa using hb
 subst e
 exact I1.apc (Nat.le_refl _) (I1.hok.fresh (Nat.le_refl _))
theorem atU {l:Expr} {tl:TE} (hl:PE X l tl):PI X tg l (ayE X.K tl):=by
 intro pins s σ H R I h
 refine thn (hl pins s σ H _ I h) λv s1 ⟨x,H1,I1,r1,q1⟩=>?_
 obtain ⟨a,e,⟨xs,hq⟩,q⟩:=q1
 subst e
 cases r1
 obtain ⟨its,rv,p,hz⟩:=I1.tuple hq
 refine wpAny_pyIter_tuple (show s1.heap.IsTuple a its.toArray from p) ?_
 refine ⟨s1.heap.objs.size,[s1.heap.objs.size],_,_,H1,rfl,I1.kept (t':=s1.toks) λb o e=>Heap.get?_push_of_some _ e,amg a _,⟨_,Heap.get?_push_size _ rfl,rfl,rfl⟩,λb hb=>?_,q⟩
 have e:b=s1.heap.objs.size:=by simpa using hb
 subst e
 exact I1.apc (Nat.le_refl _) (I1.hok.fresh (Nat.le_refl _))
theorem apk {pins:List (Addr × Obj)} {σ : St} {H:Hp} {s:Shared} {R:It->Hp->Prop} {E:Value->Shared->Prop} {lo hi:Int} {t u v:Tok} {tk:Nat} (I:Inv X pins σ H s) (h1 : -(2 ^ 62)<=lo) (h2:lo<2 ^ 62) (h3 : -(2 ^ 62)<=hi) (h4:hi<2 ^ 62)
  (q:R (Itr lo (hi - lo).toNat) H):wpAny (model X.prog X.w) X.A (pyIter (.ref s.heap.objs.size)) (PIE X pins σ tg R) E {s with heap:=s.heap.push {cls := .type "range",data := .fields #[.int lo t,.int hi u,.int 1 v] },toks:=tk }:=by
 refine wpAny_pyIter_range (IsRange.new ..) (small_one h1 h2 h3 h4) ?_
 have I1:Inv X pins σ H {s with heap:=s.heap.push {cls := .type "range",data := .fields #[.int lo t,.int hi u,.int 1 v] },toks:=tk }:=I.kept λb o e=>Heap.get?_push_of_some _ e
 refine ⟨(s.heap.push {cls := .type "range",data := .fields #[.int lo t,.int hi u,.int 1 v] }).objs.size,[(s.heap.push {cls := .type "range",data := .fields #[.int lo t,.int hi u,.int 1 v] }).objs.size],_,_,H,rfl,
  I1.kept (t':=tk) λb o e=>Heap.get?_push_of_some _ e,amh _ lo (hi - lo).toNat,?_,λb hb=>?_,q⟩
 ·have e1:lo + ((0:Nat):Int) * 1=lo:=by simp
  have e2:(((hi - lo).toNat:Nat):Int) - ((0:Nat):Int)=Builtin.Range.rangeSize lo hi 1:=by rw [rangeSize_one]; split <;> omega
  show IsRangeIter _ _ (lo + ((0:Nat):Int) * 1) ((((hi - lo).toNat:Nat):Int) - ((0:Nat):Int)) 1
  rw [e1,e2]
  exact Heap.get?_push_size _ rfl
 ·have e:b=(s.heap.push {cls := .type "range",data := .fields #[.int lo t,.int hi u,.int 1 v] }).objs.size:=by simpa using hb
  subst e
  exact I1.apc (Nat.le_refl _) (I1.hok.fresh (Nat.le_refl _))
noncomputable def arv (ta:TA):TI:=λσ H R=>ta σ H λvs H1=>∃ j:Int,vs = [.int j] /\ -(2 ^ 62)<=j /\ j<2 ^ 62 /\ R (Itr 0 j.toNat) H1
theorem anD {a:Expr} {ta:TA} {p pos:Pos} (hg:Gl X "range") (hm:X.mg "range" = none) (ha:PA X [a] ta) (hs:starEach [a] X.env = [(false,eval a X.env)]:=by rfl):PI X tg (.Call (.Name "range" p) [a] [] pos) (arv ta):=by
 intro pins s σ H R I h
 refine Call_ (agk I hg hm boot_range (PyProof.Rows.callWith_type1 (thn (ha pos pins s σ H _ I h) λus s1 ⟨vs,H1,I1,r1,q1⟩=>?_) hs rfl))
 obtain ⟨j,e,q1,q2,q⟩:=q1
 subst e
 cases r1 with
 | cons r rr =>
  cases rr
  obtain ⟨t,rfl⟩:=r
  exact call_range_1 (apk I1 (by omega) (by omega) q1 q2 (by simpa using q))
noncomputable def ayF (wi:TI) (g:TG) (tb:TS):TS:=λD σ H=>wi σ H λJ H1=>∃ W:Nat->Nat->St->Hp->Prop,(∃ m,W 0 m σ H1) /\ ∀ i m σ H,W i m σ H ->
 (J.stop i H /\ D.nx σ H) \/ (J.go i H /\ ∃ N:St->Hp->Prop,(∀ σ' H',N σ' H'->∃ m',m'<m /\ W (i + 1) m' σ' H') /\ ∀ x H',J.yld i H x H'->g x σ H' λσ2 H2=>tb {D with nx:=N,ct:=N,bk:=D.nx } σ2 H2)
noncomputable def alC (fp:List Addr) (h:Heap):List (Addr × Obj):=fp.filterMap λb=>(h.get? b).map λo=>(b,o)
theorem aeQ {fp:List Addr} {h:Heap} {b:Addr} {o:Obj} (hb:b ∈ fp) (e:h.get? b=some o):(b,o) ∈ alC fp h:=List.mem_filterMap.mpr ⟨b,hb,by rw [e]; rfl⟩
theorem anE {fp:List Addr} {h:Heap} {p:Addr × Obj} (hp:p ∈ alC fp h):p.1 ∈ fp /\ h.get? p.1=some p.2:=by
 obtain ⟨b,hb,e⟩:=List.mem_filterMap.mp hp
 cases q:h.get? b with
 | none=>rw [q] at e; cases e
 | some o =>
  rw [q] at e
  have e':(b,o)=p:=Option.some.inj e
  subst e'
  exact ⟨hb,q⟩
theorem Inv.pinned {pins:List (Addr × Obj)} {σ : St} {H:Hp} {s:Shared} {fp:List Addr} (I:Inv X pins σ H s) (hf:∀ b ∈ fp,afr X pins H b) (ho:∀ b ∈ fp,∃ o,s.heap.get? b=some o /\ ∀ v,o.data ≠ .cell v):Inv X (pins ++ alC fp s.heap) σ H s :=
 I.aiw λp hp=>(List.mem_append.mp hp).elim (λz=>I.pin p (List.mem_append_right _ z)) λz=>by
  obtain ⟨hb,e⟩:=anE z
  obtain ⟨f0,f1,f2,_⟩:=hf p.1 hb
  obtain ⟨o,e',d⟩:=ho p.1 hb
  rw [e] at e'; cases e'
  exact ⟨e,f0,f1,f2,d⟩
theorem Inv.agL {pins pl:List (Addr × Obj)} {σ : St} {H:Hp} {s:Shared} (I:Inv X (pins ++ pl) σ H s):Inv X pins σ H s:=I.aiw λp hp=>I.pin p (List.mem_append_right _ (List.mem_append_left _ hp))
theorem ae5 {iter:Expr} {body:List Stmt} {wi:TI} {g:TG} {tb:TS} {pos:Pos} (hp:PassesOwn (model X.prog X.w) X.A X.env X.xe) (hc:X.calm=true) (hi:PI X tg iter wi) (hg:PG X tg g) (hb:PSs X body tb)
  (hs:∀ x,foldedSetIterable iter X.env x=pure x:=by intro _; rfl):PS X (.For tg iter body [] pos) (ayF wi g tb):=by
 refine ⟨λpins s σ H D I h=>?_⟩
 refine wpAny_For (thn (hi pins s σ H _ I h) λv s1 h1=>thn h1 λitv s2 h2=>?_) hs
 obtain ⟨it,fp,tn,J,H2,e,I2,T,st2,f2,W,⟨m0,w0⟩,turn⟩:=h2
 subst e
 -- what stays true of the iterator's objects through the loop
 have stat:∀ {H':Hp},(∀ b ∈ fp,H' b=none)->∀ b ∈ fp,afr X pins H' b:=λhn b hb=>⟨hn b hb,(f2 b hb).2⟩
 refine codeAny_forLoop_any (λn s'=>∃ i σ' H',Inv X pins σ' H' s' /\ tn i s'.heap /\ (∀ b ∈ fp,H' b=none) /\ W i n σ' H') ?_ m0 ⟨0,σ,H2,I2,st2,λb hb=>(f2 b hb).1,w0⟩
 rintro n s3 ⟨i,σ3,H3,I3,st3,fr3,w3⟩
 rcases turn i n σ3 H3 w3 with ⟨stop,qn⟩ | ⟨go,N,hN,step⟩
 ·refine wpAny_passesOwn hp (thn (T.done X rfl rfl rfl hc i pins s3 σ3 H3 X.xe I3 (stat fr3) st3 stop) λr s4 ⟨hr,I4⟩=>?_)
  subst hr
  exact wpAny_execs_nil ⟨σ3,H3,I4,qn⟩
 ·refine wpAny_passesOwn hp (thn (T.item X rfl rfl rfl hc i pins s3 σ3 H3 X.xe I3 (stat fr3) st3 go) λr s4 ⟨u,hr,h4⟩=>?_)
  subst hr
  refine wpAny_passesOwn hp (thn h4 λ_ s5 ⟨x,H5,I5,r5,y5,st5,fr5⟩=>?_)
  have I5':=I5.pinned (stat fr5) (T.obj _ _ st5)
  refine wpAny_passesOwn hp (thn (hg _ s5 σ3 H5 x u _ I5' r5 (step x H5 y5)) λ_ s6 ⟨σ6,H6,I6,q6⟩=>?_)
  refine wpAny_passesOwn hp (thn (hb _ s6 σ6 H6 _ I6 q6) λf s7 q7=>?_)
  have again:∀ {σ7:St} {H7:Hp},Inv X (pins ++ alC fp s5.heap) σ7 H7 s7->N σ7 H7->∃ m,m<n /\ ∃ i σ' H',Inv X pins σ' H' s7 /\ tn i s7.heap /\ (∀ b ∈ fp,H' b=none) /\ W i m σ' H':=λ{σ7 H7} I7 n7=>by
   obtain ⟨m',hm,w7⟩:=hN σ7 H7 n7
   refine ⟨m',hm,i + 1,σ7,H7,I7.agL,T.keep _ _ _ st5 λb hb o e=>(I7.pin (b,o) (List.mem_append_right _ (List.mem_append_right _ (aeQ hb e)))).1,λb hb=>?_,w7⟩
   obtain ⟨o,e,d⟩:=T.obj _ _ st5 b hb
   exact (I7.pin (b,o) (List.mem_append_right _ (List.mem_append_right _ (aeQ hb e)))).2.1
  cases f with
  | next=>obtain ⟨σ7,H7,I7,n7⟩:=q7; exact again I7 n7
  | cont=>obtain ⟨σ7,H7,I7,n7⟩:=q7; exact again I7 n7
  | brk=>obtain ⟨σ7,H7,I7,q7⟩:=q7; exact ⟨σ7,H7,I7.agL,q7⟩
  | ret v=>obtain ⟨x7,σ7,H7,I7,r7,q7⟩:=q7; exact ⟨x7,σ7,H7,I7.agL,r7,q7⟩
end
end L2
namespace L2
open PySem PySem.Spec PyProof.Rows
noncomputable abbrev R2:=V->V->Hp->VK->Prop
noncomputable def OpR (X:Cx) (f:Value->Value->Sem Value) (r:R2):Prop :=
 ∀ (pins:List (Addr × Obj)) (s:Shared) (σ : St) (H:Hp) (x y:V) (v u:Value) (Q:VK),Inv X pins σ H s->RelV x v->RelV y u->r x y H Q ->
  wpAny (model X.prog X.w) X.A (f v u) (EP X pins σ Q) X.xe s
noncomputable def UnR (X:Cx) (f:Value->Sem Value) (r:V->Hp->VK->Prop):Prop :=
 ∀ (pins:List (Addr × Obj)) (s:Shared) (σ : St) (H:Hp) (x:V) (v:Value) (Q:VK),Inv X pins σ H s->RelV x v->r x H Q ->
  wpAny (model X.prog X.w) X.A (f v) (EP X pins σ Q) X.xe s
noncomputable def adC (X:Cx) (f:Value) (r:List V->Hp->VK->Prop):Prop :=
 ∀ (pins:List (Addr × Obj)) (s:Shared) (σ : St) (H:Hp) (xs:List V) (us:List Value) (Q:VK),Inv X pins σ H s->Vals xs us->r xs H Q ->
  wpAny (model X.prog X.w) X.A (call f us) (EP X pins σ Q) X.xe s
noncomputable def azm (X:Cx) (r:V->Hp->(Bool->Hp->Prop)->Prop):Prop :=
 ∀ (pins:List (Addr × Obj)) (s:Shared) (σ : St) (H:Hp) (x:V) (v:Value) (Q:Bool->Hp->Prop),Inv X pins σ H s->RelV x v->r x H Q ->
  wpAny (model X.prog X.w) X.A (truthy v) (TP X pins σ Q) X.xe s
noncomputable def tOp (r:R2) (ta tb:TE):TE:=λσ H Q=>ta σ H λx H1=>tb σ H1 λy H2=>r x y H2 Q
noncomputable def tUn (r:V->Hp->VK->Prop) (ta:TE):TE:=λσ H Q=>ta σ H λx H1=>r x H1 Q
noncomputable def rI (C:Int->Int->Prop) (g:Int->Int->V):R2:=λx y H Q=>∃ i j,x = .int i /\ y = .int j /\ C i j /\ Q (g i j) H
noncomputable def rI0 (g:Int->Int->V):R2:=λx y H Q=>∃ i j,x = .int i /\ y = .int j /\ Q (g i j) H
noncomputable def rU (g:Int->V):V->Hp->VK->Prop:=λx H Q=>∃ i,x = .int i /\ Q (g i) H
section
variable {X:Cx} {a b c:Expr} {ta tb tc:TE} {pos:Pos}
theorem awP (ha:PE X a ta) (hb:PE X b tb) {pins:List (Addr × Obj)} {s:Shared} {σ : St} {H:Hp} {R:V->V->Hp->Prop} (I:Inv X pins σ H s)
  (h:ta σ H λx H1=>tb σ H1 λy H2=>R x y H2) {Q:Value->Shared->Prop} {f:Value->Value->Sem Value}
  (hf:∀ v u s2 x y H2,Inv X pins σ H2 s2->RelV x v->RelV y u->R x y H2->wpAny (model X.prog X.w) X.A (f v u) Q X.xe s2) :
  wpAny (model X.prog X.w) X.A (eval a X.env) (λv s₁ => wpAny (model X.prog X.w) X.A (eval b X.env) (λu s₂ => wpAny (model X.prog X.w) X.A (f v u) Q X.xe s₂) X.xe s₁) X.xe s:=by
 refine thn (ha pins s σ H _ I h) λv s1 ⟨x,H1,I1,r1,q1⟩=>?_
 refine thn (hb pins s1 σ H1 _ I1 q1) λu s2 ⟨y,H2,I2,r2,q2⟩=>?_
 exact hf v u s2 x y H2 I2 r1 r2 q2
theorem aaG {op:Operator} {r:R2} (ho:OpR X (binaryOp op) r) (ha:PE X a ta) (hb:PE X b tb):PE X (.BinOp a op b pos) (tOp r ta tb):=by
 refine ⟨λpins s σ H Q I h=>?_⟩
 exact wpAny_BinOp (awP ha hb I h λv u s2 x y H2 I2 rx ry q=>ho pins s2 σ H2 x y v u Q I2 rx ry q)
theorem anF {op:UnaryOp} {r:V->Hp->VK->Prop} (ho:UnR X (unaryOp op) r) (ha:PE X a ta):PE X (.UnaryOp op a pos) (tUn r ta):=by
 refine ⟨λpins s σ H Q I h=>?_⟩
 exact UnaryOp_ (thn (ha pins s σ H _ I h) λv s1 ⟨x,H1,I1,r1,q1⟩=>ho pins s1 σ H1 x v Q I1 r1 q1)
theorem opI {f:Value->Value->Sem Value} {C:Int->Int->Prop} {g:Int->Int->Int}
  (rule:∀ (i j:Int) (t u:Tok) (s:Shared) (Q:Value->Shared->Prop) (E:Value->Shared->Prop),C i j->Q (.int (g i j) s.toks) {s with toks:=s.toks + 1 }->wpAny (model X.prog X.w) X.A (f (.int i t) (.int j u)) Q E s) :
  OpR X f (rI C λi j => .int (g i j)):=by
 intro pins s σ H x y v u Q I rx ry h
 obtain ⟨i,j,rfl,rfl,hc,q⟩:=h
 obtain ⟨t,rfl⟩:=rx
 obtain ⟨t',rfl⟩:=ry
 exact rule i j t t' s _ _ hc ⟨.int (g i j),H,I.tok _,⟨_,rfl⟩,q⟩
theorem ayG {f:Value->Value->Sem Value} {g:Int->Int->Int}
  (rule:∀ (i j:Int) (t u:Tok) (s:Shared) (Q:Value->Shared->Prop) (E:Value->Shared->Prop),Q (.int (g i j) s.toks) {s with toks:=s.toks + 1 }->wpAny (model X.prog X.w) X.A (f (.int i t) (.int j u)) Q E s) :
  OpR X f (rI0 λi j => .int (g i j)):=by
 intro pins s σ H x y v u Q I rx ry h
 obtain ⟨i,j,rfl,rfl,q⟩:=h
 obtain ⟨t,rfl⟩:=rx
 obtain ⟨t',rfl⟩:=ry
 exact rule i j t t' s _ _ ⟨.int (g i j),H,I.tok _,⟨_,rfl⟩,q⟩
theorem awp {f:Value->Value->Sem Value} {g:Int->Int->Bool}
  (rule:∀ (i j:Int) (t u:Tok) (s:Shared) (Q:Value->Shared->Prop) (E:Value->Shared->Prop),Q (.bool (g i j)) s->wpAny (model X.prog X.w) X.A (f (.int i t) (.int j u)) Q E s) :
  OpR X f (rI0 λi j => .bl (g i j)):=by
 intro pins s σ H x y v u Q I rx ry h
 obtain ⟨i,j,rfl,rfl,q⟩:=h
 obtain ⟨t,rfl⟩:=rx
 obtain ⟨t',rfl⟩:=ry
 exact rule i j t t' s _ _ ⟨.bl (g i j),H,I,rfl,q⟩
noncomputable def awQ (i j:Int):Prop:=0<=j /\ j<=1000000 /\ i.natAbs<2 ^ 64
theorem aqL:OpR X (binaryOp .Add) (rI0 λi j => .int (i + j)):=ayG λ_ _ _ _ _ _ _ q=>add_int q
theorem agm:OpR X (binaryOp .Sub) (rI0 λi j => .int (i - j)):=ayG λ_ _ _ _ _ _ _ q=>sub_int q
theorem afb:OpR X (binaryOp .Mod) (rI (λ_ j=>j ≠ 0) λi j => .int (i.fmod j)):=opI λ_ _ _ _ _ _ _ hc q=>mod_int' hc q
theorem agn:OpR X (binaryOp .Pow) (rI awQ λi j => .int (i ^ j.toNat)):=opI λ_ _ _ _ _ _ _ hc q=>pow_int_small hc.1 hc.2.1 hc.2.2 q
theorem unI {f:Value->Sem Value} {g:Int->Int}
  (rule:∀ (i:Int) (t:Tok) (s:Shared) (Q:Value->Shared->Prop) (E:Value->Shared->Prop),Q (.int (g i) s.toks) {s with toks:=s.toks + 1 }->wpAny (model X.prog X.w) X.A (f (.int i t)) Q E s) :
  UnR X f (rU λi => .int (g i)):=by
 intro pins s σ H x v Q I rx h
 obtain ⟨i,rfl,q⟩:=h
 obtain ⟨t,rfl⟩:=rx
 exact rule i t s _ _ ⟨.int (g i),H,I.tok _,⟨_,rfl⟩,q⟩
theorem aji:UnR X (unaryOp .USub) (rU λi => .int (-i)):=unI λ_ _ _ _ _ q=>neg_int q
end
section
variable {X:Cx} {a b c:Expr} {ta tb tc:TE} {pos:Pos}
theorem atV {pins:List (Addr × Obj)} {σ : St} {H:Hp} {s:Shared} {Q:VK} {k k':Bool} (I:Inv X pins σ H s) (q:Q (.bl k) H) (e:k=k'):EP X pins σ Q (.bool k') s:=by
 subst e
 exact ⟨.bl k,H,I,rfl,q⟩
theorem awR:OpR X (compareOp .Lt) (rI0 λi j => .bl (decide (i<j))):=awp λ_ _ _ _ _ _ _ q=>lt_int q
theorem ahQ:OpR X (compareOp .LtE) (rI0 λi j => .bl (decide (i<=j))):=awp λ_ _ _ _ _ _ _ q=>le_int q
theorem awS:OpR X (compareOp .Gt) (rI0 λi j => .bl (decide (j<i))):=awp λ_ _ _ _ _ _ _ q=>gt_int q
theorem arw:OpR X (compareOp .GtE) (rI0 λi j => .bl (decide (j<=i))):=awp λ_ _ _ _ _ _ _ q=>ge_int q
theorem atX:OpR X (compareOp .Is) (λx y H Q=>y = .non /\ Q (.bl (decide (x = .non))) H):=by
 intro pins s σ H x y v u Q I rx ry h
 obtain ⟨rfl,q⟩:=h
 cases ry
 refine is_none_gen (atV I q ?_)
 cases x <;> first
  | (cases rx; rfl)
  | (obtain ⟨t,rfl⟩:=rx; rfl)
theorem OpR.or {f:Value->Value->Sem Value} {r r':R2} (h:OpR X f r) (h':OpR X f r'):OpR X f (λx y H Q=>r x y H Q \/ r' x y H Q):=by
 intro pins s σ H x y v u Q I rx ry q
 rcases q with q | q
 ·exact h pins s σ H x y v u Q I rx ry q
 ·exact h' pins s σ H x y v u Q I rx ry q
theorem abq (b:Expr) {op:CmpOp} (h:op ≠ .In:=by decide) (h2:op ≠ .NotIn:=by decide):behindInMarks op b=false:=by
 have e1:(op == CmpOp.In)=false:=by cases op <;> first | rfl | exact absurd rfl h
 have e2:(op == CmpOp.NotIn)=false:=by cases op <;> first | rfl | exact absurd rfl h2
 cases b <;> simp [behindInMarks,e1,e2]
theorem adk {op:CmpOp} {r:R2} (ho:OpR X (compareOp op) r) (ha:PE X a ta) (hb:PE X b tb) (hm:behindInMarks op b=false):PE X (.Compare a [op] [b] pos) (tOp r ta tb):=by
 refine ⟨λpins s σ H Q I h=>?_⟩
 exact wpAny_Compare1 (awP ha hb I h λv u s2 x y H2 I2 rx ry q=>ho pins s2 σ H2 x y v u Q I2 rx ry q) hm
noncomputable def arx (t:TE):TT:=λσ H Q=>t σ H λx H'=>∃ k,x = .bl k /\ Q k H'
theorem abH {op:CmpOp} {r:R2} (ho:OpR X (compareOp op) r) (ha:PE X a ta) (hb:PE X b tb) (hm:behindInMarks op b=false):PT X (.Compare a [op] [b] pos) (arx (tOp r ta tb)):=by
 refine ⟨λpins s σ H Q I h=>?_⟩
 refine wpAny_isTrue_Compare1 (thn (ha pins s σ H _ I h) λv s1 ⟨x,H1,I1,r1,q1⟩=>thn (hb pins s1 σ H1 _ I1 q1) λu s2 ⟨y,H2,I2,r2,q2⟩ =>
  thn (ho pins s2 σ H2 x y v u _ I2 r1 r2 q2) λc s3 ⟨z,H3,I3,r3,k,e,q3⟩=>?_) hm
 subst e
 cases r3
 exact wpAny_truthy_bool ⟨H3,I3,q3⟩
noncomputable def alD (r r':R2) (ta tb tc:TE):TE:=λσ H Q=>ta σ H λx H1=>tb σ H1 λy H2=>r x y H2 λz H3=>∃ k,z = .bl k /\
 (if k=true then tc σ H3 λw' H4=>r' y w' H4 Q else Q (.bl false) H3)
theorem aiy {op op':CmpOp} {r r':R2} (ho:OpR X (compareOp op) r) (ho':OpR X (compareOp op') r') (ha:PE X a ta) (hb:PE X b tb) (hc:PE X c tc)
  (hm:lastMarks [op,op'] [b,c]=false:=by with_unfolding_all rfl):PE X (.Compare a [op,op'] [b,c] pos) (alD r r' ta tb tc):=by
 refine ⟨λpins s σ H Q I h=>?_⟩
 refine Compare_chain (thn (ha pins s σ H _ I h) λv s1 ⟨x,H1,I1,r1,q1⟩=>chain_link (thn (hb pins s1 σ H1 _ I1 q1) λu s2 ⟨y,H2,I2,r2,q2⟩ =>
  thn (ho pins s2 σ H2 x y v u _ I2 r1 r2 q2) λd s3 ⟨z,H3,I3,r3,k,e,q3⟩=>?_)) hm
 subst e
 cases r3
 refine wpAny_truthy_bool ?_
 cases k with
 | false=>exact ite_ff ⟨.bl false,H3,I3,rfl,q3⟩
 | true=>exact ite_tt (chain_last (thn (hc pins s3 σ H3 _ I3 q3) λw' s4 ⟨z',H4,I4,r4,q4⟩=>ho' pins s4 σ H4 y z' u w' Q I4 r2 r4 q4))
theorem alE {op op':CmpOp} {r r':R2} (ho:OpR X (compareOp op) r) (ho':OpR X (compareOp op') r') (ha:PE X a ta) (hb:PE X b tb) (hc:PE X c tc)
  (hm:lastMarks [op,op'] [b,c]=false:=by with_unfolding_all rfl):PT X (.Compare a [op,op'] [b,c] pos) (arx (alD r r' ta tb tc)):=by
 refine ⟨λpins s σ H Q I h=>?_⟩
 refine isTrue_chain (thn (ha pins s σ H _ I h) λv s1 ⟨x,H1,I1,r1,q1⟩=>test_link (thn (hb pins s1 σ H1 _ I1 q1) λu s2 ⟨y,H2,I2,r2,q2⟩ =>
  thn (ho pins s2 σ H2 x y v u _ I2 r1 r2 q2) λd s3 ⟨z,H3,I3,r3,k,e,q3⟩=>?_)) hm
 subst e
 cases r3
 refine wpAny_truthy_bool ?_
 cases k with
 | false =>
  obtain ⟨k',e',q'⟩:=q3
  cases e'
  exact ite_ff ⟨H3,I3,q'⟩
 | true =>
  refine ite_tt (test_last (thn (hc pins s3 σ H3 _ I3 q3) λw' s4 ⟨z',H4,I4,r4,q4⟩=>thn (ho' pins s4 σ H4 y z' u w' _ I4 r2 r4 q4) λd' s5 ⟨z2,H5,I5,r5,k2,e2,q5⟩=>?_))
  subst e2
  cases r5
  exact wpAny_truthy_bool ⟨H5,I5,q5⟩
noncomputable def awq (K:PySem.W.Frag) (x:V) (H:Hp) (k:Bool):Prop :=
 match x with
 | .non=>k=false
 | .bl b=>k=b
 | .int i=>k=(i != 0)
 | .str y=>y.length<=sizeLine /\ k=((y.length:Int) != 0)
 | .byt y=>y.size<=sizeLine /\ k=((y.size:Int) != 0)
 | .ref p=>(∃ xs,SqL K H p xs /\ k = !xs.isEmpty) \/ (∃ xs,SqT K H p xs /\ k = !xs.isEmpty) \/ ∃ kvs,H p=some (.dK kvs) /\ k = !kvs.isEmpty
 | _=>False
theorem ami {κ : Type} {kvs:List (κ × V)} {vs:List (κ × Value)} (r:KV kvs vs):(!vs.isEmpty) = !kvs.isEmpty:=by
 cases r <;> rfl
theorem aia {xs:List V} {its:List Value} (r:Vals xs its):(!its.toArray.isEmpty) = !xs.isEmpty:=by
 cases r <;> simp
theorem ag4:(sizeLine:Nat)<2 ^ 63:=by rw [sizeLine_eq]; decide
theorem atY:azm X (λx H Q=>∃ k,awq X.K x H k /\ Q k H):=by
 intro pins s σ H x v Q I rx h
 obtain ⟨k,e,q⟩:=h
 have hl:=ag4
 have hs:sizeLine=16777216:=sizeLine_eq
 cases x with
 | non =>
  cases rx
  have e':k=false:=e
  subst e'
  exact truthy_none ⟨H,I,q⟩
 | bl b =>
  cases rx
  have e':k=b:=e
  subst e'
  exact wpAny_truthy_bool ⟨H,I,q⟩
 | int i =>
  obtain ⟨t,rfl⟩:=rx
  have e':k=(i != 0):=e
  subst e'
  exact PySem.P.truthy_int ⟨H,I,q⟩
 | str y =>
  obtain ⟨t,rfl⟩:=rx
  obtain ⟨hy,e'⟩:y.length<=sizeLine /\ k=((y.length:Int) != 0):=e
  subst e'
  exact PySem.P.truthy_str (by omega) ⟨H,I.tok _,q⟩
 | byt y =>
  obtain ⟨t,rfl⟩:=rx
  obtain ⟨hy,e'⟩:y.size<=sizeLine /\ k=((y.size:Int) != 0):=e
  subst e'
  exact PySem.W.truthy_bytes (by omega) ⟨H,I.tok _,q⟩
 | ref p =>
  cases rx
  have e':(∃ xs,SqL X.K H p xs /\ k = !xs.isEmpty) \/ (∃ xs,SqT X.K H p xs /\ k = !xs.isEmpty) \/ ∃ kvs,H p=some (.dK kvs) /\ k = !kvs.isEmpty:=e
  rcases e' with ⟨xs,hx,e'⟩ | ⟨xs,hx,e'⟩ | ⟨kvs,hx,e'⟩
  ·subst e'
   obtain ⟨its,r,pl,hz⟩:=I.list hx
   have hlen:=r.length
   exact wpAny_truthy_list pl.isList (by simp only [List.size_toArray]; omega) ⟨H,I.tok _,by rw [aia r]; exact q⟩
  ·subst e'
   obtain ⟨its,r,pl,hz⟩:=I.tuple hx
   have hlen:=r.length
   exact truthy_tuple pl (by simp only [List.size_toArray]; omega) ⟨H,I.tok _,by rw [aia r]; exact q⟩
  ·subst e'
   obtain ⟨hz,hS,vs,r,m⟩:kvs.length<=sizeLine /\ (p == sysModules)=false /\ ∃ vs,KV kvs vs /\ s.heap.DictOf (akk X.prog X.w) p vs:=I.hok p _ hx
   have hlen:kvs.length=vs.length:=Paired.length r
   exact wpAny_truthy_dict hS m (by omega) ⟨H,I.tok _,by rw [ami r]; exact q⟩
 | _=>exact (show False from e).elim
theorem abL (ha:PE X a ta) (he:∀ whole,isTrue a X.env whole=(do let v <-whole; standAt a.pos; holding [v] (truthy v))) :
  PT X a (λσ H Q=>ta σ H λx H'=>∃ k,awq X.K x H' k /\ Q k H'):=by
 refine ⟨λpins s σ H Q I h=>?_⟩
 exact isTrue_plain (thn (ha pins s σ H _ I h) λv s1 ⟨x,H1,I1,r1,q1⟩=>atY pins s1 σ H1 x v Q I1 r1 q1) (he _)
theorem amj:OpR X (binaryOp .Add) (λx y H Q=>∃ i j,x = .str i /\ y = .str j /\ i.length + j.length<=sizeLine /\ Q (.str (i ++ j)) H):=by
 intro pins s σ H x y v u Q I rx ry h
 obtain ⟨i,j,rfl,rfl,hz,q⟩:=h
 obtain ⟨t,rfl⟩:=rx
 obtain ⟨t',rfl⟩:=ry
 exact add_str (λt' tk=>⟨.str (i ++ j),H,I.tok _,⟨_,rfl⟩,q⟩) hz
theorem vals1 {x:V} {us:List Value} (r:Vals [x] us):∃ u,us = [u] /\ RelV x u:=by
 cases r with
 | cons r1 r2=>cases r2; exact ⟨_,rfl,r1⟩
theorem vals2 {x y:V} {us:List Value} (r:Vals [x,y] us):∃ u w',us = [u,w'] /\ RelV x u /\ RelV y w':=by
 cases r with
 | cons r1 r2 =>
  cases r2 with
  | cons r3 r4=>cases r4; exact ⟨_,_,rfl,r1,r3⟩
theorem apl:adC X (.builtin "abs") (λxs H Q=>∃ i,xs = [.int i] /\ Q (.int (if i<0 then -i else i)) H):=by
 intro pins s σ H xs us Q I r h
 obtain ⟨i,rfl,q⟩:=h
 obtain ⟨u,rfl,t,rfl⟩:=vals1 r
 exact call_abs_int λu tk=>⟨.int (if i<0 then -i else i),H,I.tok _,⟨_,rfl⟩,q⟩
theorem anG (hc:X.calm=true):adC X (.builtin "min") (λxs H Q=>∃ i j,xs = [.int i,.int j] /\ Q (.int (if j<i then j else i)) H):=by
 intro pins s σ H xs us Q I r h
 obtain ⟨i,j,rfl,q⟩:=h
 obtain ⟨u,w',rfl,⟨t,rfl⟩,⟨t',rfl⟩⟩:=vals2 r
 refine min_two_ints (I.ok.hd hc) λh' tk k=>⟨_,H,I.kept k,?_,q⟩
 by_cases hj:j<i
 ·rw [if_pos hj,if_pos hj]; exact ⟨_,rfl⟩
 ·rw [if_neg hj,if_neg hj]; exact ⟨_,rfl⟩
theorem anH:adC X (.type "int") (λxs H Q=>(∃ i,xs = [.int i] /\ Q (.int i) H) \/ ∃ k,xs = [.bl k] /\ Q (.int (if k then 1 else 0)) H):=by
 intro pins s σ H xs us Q I r h
 rcases h with ⟨i,rfl,q⟩ | ⟨k,rfl,q⟩
 ·obtain ⟨u,rfl,t,rfl⟩:=vals1 r
  exact call_int_int ⟨.int i,H,I,⟨_,rfl⟩,q⟩
 ·obtain ⟨u,rfl,r1⟩:=vals1 r
  cases r1
  exact call_int_bool ⟨.int (if k then 1 else 0),H,I.tok _,⟨_,rfl⟩,q⟩
end
end L2
namespace L2
open PySem PySem.Spec PyProof.Rows
section
variable {prog:Program} {w:World} {A:Around} {E:Value->Shared->Prop} {s:Shared} {K:PySem.W.Frag} {x dx C f:Addr} {mA:Str->Option Value} {name:Str} {v:Value}
end
section
variable {P:Program} {w:World} {H H':Hp} {h h':Heap} {a C dx:Addr} {fs fs':List (Str × V)}
end
section
variable {X:Cx} {pins:List (Addr × Obj)} {σ : St} {H:Hp} {s:Shared} {a C dx:Addr} {fs:List (Str × V)} {f:Str} {v:V} {A:Around} {E:Value->Shared->Prop}
end
section
variable {X:Cx} {o e value:Expr} {f:Str} {pos pos' tpos:Pos} {ta tv:TE}
end
section
variable {X:Cx} {pins:List (Addr × Obj)} {σ : St} {H:Hp} {s:Shared} {A:Around} {E:Value->Shared->Prop} {Q:Value->Shared->Prop} {c:Value} {b:Bool}
end
end L2
namespace L2
open PySem PySem.Spec PyProof.Rows
structure afT (k:Nat) (A:Around):Prop where
 hd:A.handled=none
 dp:A.depth + 3 * k + 5<recursionLimit
 un:A.units + 16 * k + 200<cLine
 gd:A.guards=some []:=by rfl
theorem afT.mono {j k:Nat} {A:Around} (r:afT k A) (h:j<=k):afT j A:=⟨r.hd,by have:=r.dp; omega,by have:=r.un; omega,r.gd⟩
theorem afT.deeper {k:Nat} {A:Around} (r:afT (k + 1) A) (env:Env):afT k (A.deeper env) :=
 ⟨r.hd,by have:=r.dp; show A.depth + 1 + 3 * k + 5<_; omega,by have:=r.un; show A.units + 3 + 16 * k + 200<_; omega,r.gd⟩
theorem afT.depth {k:Nat} {A:Around} (r:afT k A):A.depth<recursionLimit:=by have:=r.dp; omega
theorem afT.units {k:Nat} {A:Around} (r:afT k A):A.units + 64<cLine:=by have:=r.un; omega
noncomputable def anI:TA:=λ_ H Q=>Q [] H
noncomputable def ad6 (ta:TE) (tr:TA):TA:=λσ H Q=>ta σ H λx H1=>tr σ H1 λxs H2=>Q (x :: xs) H2
section
variable {X:Cx} {e:Expr} {es:List Expr} {te:TE} {t:TA} {pos:Pos}
theorem aai:PA X [] anI:=⟨λ_ _ _ _ H Q I h=>Calls.spliced_nil ⟨[],H,I,.nil,h⟩⟩
theorem acM (ha:PE X e te) (hr:PA X es t) (hs:starEach (e :: es) X.env=(false,eval e X.env) :: starEach es X.env:=by rfl):PA X (e :: es) (ad6 te t):=by
 refine ⟨λpos pins s σ H Q I h=>?_⟩
 rw [hs]
 show wpAny _ _ (spliced ((false,eval e X.env) :: backTo pos (starEach es X.env))) _ _ s
 refine Calls.spliced_cons (thn (ha pins s σ H _ I h) λu s1 ⟨x,H1,I1,r1,q1⟩=>?_)
 exact thn (hr pos pins s1 σ H1 _ I1 q1) λus s2 ⟨xs,H2,I2,r2,q2⟩=>⟨x :: xs,H2,I2,.cons r1 r2,q2⟩
noncomputable def ayH (t:TA):TE:=λσ H Q=>t σ H λxs H1=>xs.length<=sizeLine /\ ∀ p,H1 p=none->Q (.ref p) (upd H1 p (.tup xs))
noncomputable def ayI (t:TA):TE:=λσ H Q=>t σ H λxs H1=>xs.length<=sizeLine /\ ∀ p,H1 p=none->Q (.ref p) (upd H1 p (.lst xs))
theorem ac4 {x1} (h:PA X es t):PE X (.Tuple es x1 pos) (ayH t):=by
 refine ⟨λpins s σ H Q I hq=>?_⟩
 refine wpAny_Tuple_spliced (thn (h pos pins s σ H _ I hq) λus s1 ⟨xs,H1,I1,r,z,q⟩=>⟨by rw [<-r.length]; exact z,?_⟩)
 have hf:H1 s1.heap.objs.size=none:=I1.hok.fresh (Nat.le_refl _)
 refine ⟨.ref s1.heap.objs.size,upd H1 s1.heap.objs.size (.tup xs),I1.laid (t':=s1.toks) (λb u e=>Heap.get?_push_of_some _ e) (Nat.le_refl _) ?_,rfl,q _ hf⟩
 exact ⟨z,us,r,⟨_,Heap.get?_push_size _ rfl,rfl,_,rfl⟩⟩
theorem abA (h:PA X es t):PE X (.List es pos) (ayI t):=by
 refine ⟨λpins s σ H Q I hq=>?_⟩
 refine wpAny_List_spliced (thn (h pos pins s σ H _ I hq) λus s1 ⟨xs,H1,I1,r,z,q⟩=>⟨by rw [<-r.length]; exact z,?_⟩)
 have hf:H1 s1.heap.objs.size=none:=I1.hok.fresh (Nat.le_refl _)
 refine ⟨.ref s1.heap.objs.size,upd H1 s1.heap.objs.size (.lst xs),I1.laid (t':=s1.toks) (λb u e=>Heap.get?_push_of_some _ e) (Nat.le_refl _) ?_,rfl,q _ hf⟩
 exact ⟨z,us,0,r,Heap.get?_push_size _ rfl⟩
end
noncomputable abbrev Sp:=List V->Hp->VK->XK->Prop
noncomputable abbrev CXT:=List Env->Hp->Shared->XK->Value->Shared->Prop
structure awr (P:Program) (w:World) (K:PySem.W.Frag) (mg:Str->Option Value) (base:Heap) (A:Around) (outer:List Env) (s:Shared) (H:Hp):Prop where
 frames:A.frames=some outer
 mod:Mod K mg base
 bs:∀ b o,base.get? b=some o->s.heap.get? b=some o /\ H b=none
 bsz:base.objs.size<=s.heap.objs.size
 amf:s.heap.FunFrames base outer
 frf:∀ b ∈ frs outer,H b=none
 hok:HOk P w H s.heap
 bare:AllBare s.gens
noncomputable def CE (outer:List Env) (P:Program) (w:World) (H:Hp) (s:Shared) (Q:VK) (u:Value) (s':Shared):Prop :=
 ∃ v H',s'.os=s.os /\ AllBare s'.gens /\ Un (frs outer) [] H H' s.heap s'.heap /\ HOk P w H' s'.heap /\ RelV v u /\ Q v H'
noncomputable def CR (CX:CXT) (outer:List Env) (P:Program) (w:World) (H:Hp) (s:Shared) (Q:VK) (E:XK) (r:Result) (s':Shared):Prop :=
 match r with
 | .ok (.ret u)=>CE outer P w H s Q u s'
 | .ok _=>False
 | .error e=>CX outer H s E e s'
structure alF (P:Program) (w:World) (K:PySem.W.Frag) (mg:Str->Option Value) (base:Heap) (CX:CXT) (k:Nat) (f:Addr) (fd:FuncData) (ps:List Str) (sp:Sp):Prop where
 len:∀ vs H Q E,sp vs H Q E->vs.length=ps.length
 run:∀ (A:Around) (outer:List Env) (s:Shared) (H:Hp) (args:Args) (us:List Value) (vs:List V) (Q:VK) (E:XK),afT k A->awr P w K mg base A outer s H->BindsTo s fd args (ps.zip us)->Vals vs us->sp vs H Q E ->
  codeAny (model P w) A (.call (.ref f) args) (CR CX outer P w H s Q E) s
theorem alF.mono {P:Program} {w:World} {K:PySem.W.Frag} {mg:Str->Option Value} {base:Heap} {CX:CXT} {j k:Nat} {f:Addr} {fd:FuncData} {ps:List Str} {sp:Sp} (F:alF P w K mg base CX j f fd ps sp) (h:j<=k) :
  alF P w K mg base CX k f fd ps sp:=⟨F.len,λA outer s H args us vs Q E hr=>F.run A outer s H args us vs Q E (hr.mono h)⟩
theorem alF.imp {P:Program} {w:World} {K:PySem.W.Frag} {mg:Str->Option Value} {base:Heap} {CX:CXT} {k:Nat} {f:Addr} {fd:FuncData} {ps:List Str} {sp sp':Sp} (F:alF P w K mg base CX k f fd ps sp)
  (h:∀ vs H Q E,sp' vs H Q E->sp vs H Q E):alF P w K mg base CX k f fd ps sp' :=
 ⟨λvs H Q E q=>F.len vs H Q E (h _ _ _ _ q),λA outer s H args us vs Q E hr he hb hv hs=>F.run A outer s H args us vs Q E hr he hb hv (h _ _ _ _ hs)⟩
section
variable {X:Cx} {pins:List (Addr × Obj)} {σ : St} {H:Hp} {s s':Shared}
theorem Inv.env0 (I:Inv X pins σ H s):awr X.prog X.w X.K X.mg X.base X.A X.stack s H :=
 ⟨I.ok.frames,I.ok.mod,I.bs,Nat.le_trans I.ok.bsz I.sz,I.stack,I.afS,I.hok,I.bare⟩
theorem Inv.after {Q:VK} {u:Value} (I:Inv X pins σ H s) (h:CE X.stack X.prog X.w H s Q u s'):EP X pins σ Q u s':=by
 obtain ⟨v,H',os,bare,un,hok,r,q⟩:=h
 obtain ⟨hh,g,d,t,os'⟩:=s'
 obtain rfl:os'=s.os:=os
 exact ⟨v,H',I.call (h':=hh) (g':=g) (d':=d) (t':=t) (ch := []) un hok bare (λb z=>absurd z (by simp)),r,q⟩
end
noncomputable def ajj (sp:Sp) (dvs:List V) (E:XK) (t:TA):TE:=λσ H Q=>t σ H λvs H1=>sp (vs ++ dvs) H1 Q E
noncomputable def Binds (K:PySem.W.Frag) (fd:FuncData) (ps:List Str) (ds:List Value):Prop :=
 ∀ (s:Shared) (us:List Value),K.In s.heap->(us ++ ds).length=ps.length->BindsTo s fd ⟨us,[]⟩ (ps.zip (us ++ ds))
theorem Binds.all {K:PySem.W.Frag} {fd:FuncData} {ps:List Str} (h:∀ us:List Value,us.length=ps.length->bindArgs fd ⟨us,[]⟩=pure (ps.zip us)):Binds K fd ps []:=λs us _ hl=>by
 rw [List.append_nil] at hl ⊢
 exact .of_eq (h us hl)
noncomputable def Passes (CX:CXT) (X:Cx) (E:XK):Prop:=∀ (pins:List (Addr × Obj)) (σ : St) (H:Hp) (s:Shared) (e:Value) (s':Shared),Inv X pins σ H s->CX X.stack H s E e s'->X.xe e s'
section
variable {X:Cx} {CX:CXT} {k:Nat} {f C:Addr} {fd:FuncData} {ps:List Str} {sp:Sp} {dvs:List V} {ds:List Value} {E:XK} {x m:Str} {p pos apos:Pos} {e o:Expr} {es:List Expr} {ta:TE} {t:TA}
theorem atZ {pins:List (Addr × Obj)} {σ : St} {H:Hp} {s:Shared} {Q:VK} {us:List Value} {vs:List V} (F:alF X.prog X.w X.K X.mg X.base CX k f fd ps sp) (hr:afT k X.A) (hb:Binds X.K fd ps ds) (hd:Vals dvs ds) (hx:Passes CX X E)
  (I:Inv X pins σ H s) (r:Vals vs us) (h:sp (vs ++ dvs) H Q E):wpAny (model X.prog X.w) X.A (call (.ref f) us) (EP X pins σ Q) X.xe s:=by
 have r2:Vals (vs ++ dvs) (us ++ ds):=r.append hd
 have hl:(us ++ ds).length=ps.length:=by rw [<-r2.length]; exact F.len _ _ _ _ h
 refine wpAny_call (codeAny_mono (F.run X.A X.stack s H ⟨us,[]⟩ (us ++ ds) (vs ++ dvs) Q E hr I.env0 (hb s us I.kIn hl) r2 h) λr s' hq=>?_)
 cases r with
 | error e=>exact hx pins σ H s e s' I hq
 | ok fl =>
  cases fl with
  | ret u=>exact I.after hq
  | next=>exact False.elim hq
  | brk=>exact False.elim hq
  | cont=>exact False.elim hq
theorem arz (F:alF X.prog X.w X.K X.mg X.base CX k f fd ps sp) (hr:afT k X.A) (hg:Gl X x) (hm:X.mg x=some (.ref f)) (hk:PySem.W.keepIn X.K (.ref f)=true) (hb:Binds X.K fd ps ds) (hd:Vals dvs ds) (hx:Passes CX X E)
  (ha:PA X (e :: es) t) (hdb:(x == ("__debug__" : Str))=false:=by decide) (he:starEach (e :: es) X.env=(false,eval e X.env) :: starEach es X.env:=by rfl) (hpl:(backTo pos (starEach es X.env)).any (·.1)=false:=by rfl) :
  PE X (.Call (.Name x p) (e :: es) [] pos) (ajj sp dvs E t):=by
 refine ⟨λpins s σ H Q I h=>?_⟩
 refine wpAny_Call_Name_kw (ag1 I hg hm ?_ hdb)
 refine PySem.W.callWith_K (h₀ := X.base) I.ok.mod.kin hk (thn (ha pos pins s σ H _ I h) λus s1 ⟨vs,H1,I1,r,q⟩=>⟨I1.kIn,?_⟩) he hpl
 exact atZ F hr hb hd hx I1 r q
end
section
variable {X:Cx} {CX:CXT} {k:Nat} {f C:Addr} {fd:FuncData} {ps ks:List Str} {sp:Sp} {E:XK} {x m:Str} {p pos apos kpos:Pos} {e o:Expr} {es:List Expr} {kws:List Keyword} {te ta:TE} {t tk:TA} {nm:Option Str}
variable {g:List Value->List Value->List Value} {gV:List V->List V->List V}
end
structure aaE (N P:List Str) (sc:Scope):Prop where
 kind:sc.kind = .function
 co:sc.isCoroutine=false
 gen:sc.isGenerator=false
 nd:N.Nodup
 pre:N.take P.length=P
 par:∀ x ∈ P,sc.names.lookup x=some .local \/ sc.names.lookup x=some .cell
 at3:∀ y ∈ sc.names,y.2 ≠ .free
theorem ajk {kindOf:Str->Option NameKind} {x:Str}:∀ {binds:List (Str × Value)} {m:Str->Option Value},(∀ v,(x,v) ∉ binds)->bindL kindOf binds m x=m x
 | [],_,_=>rfl
 | (n,v) :: r,m,h=>by
  unfold bindL
  rw [ajk λw hw=>h w (List.mem_cons_of_mem _ hw)]
  split
  ·have:x ≠ n:=by rintro rfl; exact h v List.mem_cons_self
   simp [this]
  ·rfl
theorem ajl {kindOf:Str->Option NameKind} {x:Str}:∀ {binds:List (Str × Value)} {m:Str->Option Value},(∀ v,(x,v) ∉ binds)->bindC kindOf binds m x=m x
 | [],_,_=>rfl
 | (n,v) :: r,m,h=>by
  unfold bindC
  rw [ajl λw hw=>h w (List.mem_cons_of_mem _ hw)]
  split
  ·rfl
  ·have:x ≠ n:=by rintro rfl; exact h v List.mem_cons_self
   simp [this]
theorem ajm {kindOf:Str->Option NameKind} {x:Str} {v:Value}:∀ {P:List Str} {vs:List Value} {i:Nat} {m:Str->Option Value},P.Nodup->P[i]? = some x->vs[i]? = some v->kindOf x=some .local ->
  bindL kindOf (P.zip vs) m x=some v
 | [],_,_,_,_,h,_,_=>by simp at h
 | _ :: _,[],_,_,_,_,h,_=>by simp at h
 | p :: P,w :: vs,0,m,nd,h1,h2,hk=>by
  simp at h1 h2; subst h1; subst h2
  show bindL kindOf ((p,w) :: P.zip vs) m p=_
  unfold bindL
  rw [ajk λv hv=>(List.nodup_cons.mp nd).1 (List.of_mem_zip hv).1,if_pos hk]
  simp
 | p :: P,w :: vs,i + 1,m,nd,h1,h2,hk=>by
  show bindL kindOf ((p,w) :: P.zip vs) m x=_
  unfold bindL
  exact ajm (i:=i) (List.nodup_cons.mp nd).2 (by simpa using h1) (by simpa using h2) hk
theorem ajn {kindOf:Str->Option NameKind} {x:Str} {v:Value}:∀ {P:List Str} {vs:List Value} {i:Nat} {m:Str->Option Value},P.Nodup->P[i]? = some x->vs[i]? = some v->kindOf x ≠ some .local ->
  bindC kindOf (P.zip vs) m x=some v
 | [],_,_,_,_,h,_,_=>by simp at h
 | _ :: _,[],_,_,_,_,h,_=>by simp at h
 | p :: P,w :: vs,0,m,nd,h1,h2,hk=>by
  simp at h1 h2; subst h1; subst h2
  show bindC kindOf ((p,w) :: P.zip vs) m p=_
  unfold bindC
  rw [ajl λv hv=>(List.nodup_cons.mp nd).1 (List.of_mem_zip hv).1,if_neg hk]
  simp
 | p :: P,w :: vs,i + 1,m,nd,h1,h2,hk=>by
  show bindC kindOf ((p,w) :: P.zip vs) m x=_
  unfold bindC
  exact ajn (i:=i) (List.nodup_cons.mp nd).2 (by simpa using h1) (by simpa using h2) hk
noncomputable def start (N:List Str) (vs:List V):St:=vs.map some ++ List.replicate (N.length - vs.length) none
noncomputable def alG (CX:CXT) (P:Program) (w:World) (K:PySem.W.Frag) (mg:Str->Option Value) (base:Heap) (N:List Str) (qual:Str) (scope:Scope) (f:Addr) (cd:Value) (A:Around) (outer:List Env) (s:Shared) (H:Hp) (E:XK):Cx where
 prog:=P
 w:=w
 K:=K
 mg:=mg
 base:=base
 A:=A.deeper (envOfC qual scope s.heap.objs.size f cd)
 N:=N
 s₀ := s
 H₀ := H
 env:=envOfC qual scope s.heap.objs.size f cd
 outer:=outer
 stack:=envOfC qual scope s.heap.objs.size f cd :: outer
 ex := []
 calm:=true
 fn:=λ_=>true
 pn := []
 xe:=λe s'=>wpAny (model P w) (A.deeper (envOfC qual scope s.heap.objs.size f cd)) (leaving (envOfC qual scope s.heap.objs.size f cd) e) (λ_ s''=>CX outer H s E e s'') (λe' s''=>CX outer H s E e' s'') s'
theorem alH {sc:Scope} {n:Nat} {x:Str} (h:sc.names.lookup x=some .cell):∃ c,(cellsFrom n sc.names []).lookup x=some c:=by
 have q:=PySem.W.cellsFrom_some sc.names n [] (.inl h)
 exact Option.isSome_iff_exists.mp q
theorem anJ {CX:CXT} {P:Program} {w:World} {K:PySem.W.Frag} {mg:Str->Option Value} {base:Heap} {N ps:List Str} {qual:Str} {scope:Scope} {f:Addr} {cd:Value} {A:Around} {outer:List Env} {s s1:Shared} {H:Hp} {E:XK} {us:List Value} {vs:List V}
  (S:aaE N ps scope) (hd:A.handled=none) (e0:awr P w K mg base A outer s H) (hl:vs.length=ps.length) (r:Vals vs us)
  (x:InCallC s s.heap.objs.size (bindL (envOfC qual scope s.heap.objs.size f cd).kindOf (ps.zip us) λ_=>none) (cellsFrom (s.heap.objs.size + 1) scope.names []) (bindC (envOfC qual scope s.heap.objs.size f cd).kindOf (ps.zip us) λ_=>none) s1) :
  Inv (alG CX P w K mg base N qual scope f cd A outer s H E) [] (start N vs) H s1:=by
 have hpl:ps.length<=N.length:=by have:=congrArg List.length S.pre; rw [List.length_take] at this; omega
 obtain ⟨h1,tk,rfl,hk⟩:=x.done
 have noA:∀ b:Addr,b ∉ (alG CX P w K mg base N qual scope f cd A outer s H E).ex:=λb z=>absurd (show b ∈ ([]:List Addr) from z) (by simp)
 refine ⟨⟨e0.mod,S.kind,rfl,rfl,Nat.le_refl _,λy z c h1 h2=>?_,λy hy=>?_,λy c _ h=>?_,λ_=>hd,Around.frames_deeper e0.frames,.inr ⟨rfl,rfl⟩,λb z=>absurd z (noA b),e0.bs,e0.bsz,λb _ _=>noA b,λb z=>absurd z (noA b),e0.amf,e0.frf⟩,
  rfl,e0.bare,Un.kept hk,⟨_,x.toInCall.ns,λi y v h1 h2 h3=>?_⟩,λy c h=>⟨_,x.cell y c h⟩,e0.hok.fresh (Nat.le_refl _),λy c h=>?_,λp hp=>absurd (show p ∈ ([]:List (Addr × Obj)) from hp) (by simp),e0.hok.kept hk,?_⟩
 ·exact name_of_addr x.apart (PySem.mem_of_lookup h1) (PySem.mem_of_lookup h2)
 ·have hy:scope.names.lookup y=some .cell \/ scope.names.lookup y=some .free:=hy
  rcases hy with hy | hy
  ·exact alH hy
  ·exact absurd rfl (S.at3 _ (PySem.mem_of_lookup hy))
 ·exact Nat.le_of_lt (x.above y c (PySem.mem_of_lookup h))
 ·have hi:i<vs.length:=by
   unfold start at h2
   by_cases hi:i<vs.length
   ·exact hi
   ·rw [List.getElem?_append_right (by simpa using hi)] at h2
    rw [List.getElem?_replicate] at h2
    split at h2 <;> cases h2
  have ha:vs[i]? = some v:=by
   unfold start at h2
   rw [List.getElem?_append_left (by simpa using hi),List.getElem?_map] at h2
   cases e:vs[i]? with
   | none=>rw [e] at h2; cases h2
   | some a=>rw [e] at h2; cases h2; rfl
  obtain ⟨u,hu,rv⟩:=r.get ha
  have hp:ps[i]? = some y:=by
   rw [<-S.pre,List.getElem?_take_of_lt (by omega)]; exact h1
  have ndP:ps.Nodup:=by rw [<-S.pre]; exact S.nd.sublist (List.take_sublist _ _)
  refine ⟨u,rv,?_⟩
  rcases S.par y (List.mem_of_getElem? hp) with k | k
  ·exact .inl ⟨k,ajm ndP hp hu k⟩
  ·obtain ⟨c,e⟩:=alH (n:=s.heap.objs.size + 1) k
   refine .inr ⟨.inl k,c,e,?_⟩
   have q:=x.cell y c e
   rw [ajn ndP hp hu (by show scope.names.lookup y ≠ _; rw [k]; decide)] at q
   exact q
 ·exact e0.hok.fresh (Nat.le_of_lt (x.above y c (PySem.mem_of_lookup h)))
 ·unfold start
  show _=N.length
  rw [List.length_append,List.length_map,List.length_replicate]
  omega
theorem at4 {CX:CXT} {P:Program} {w:World} {K:PySem.W.Frag} {mg:Str->Option Value} {base:Heap} {k:Nat} {f:Addr} {name qual:Str} {params:Arguments} {body:List Stmt} {scope:Scope} {dV kV doc pm cdv ct oc:Value} {an od:Option Addr}
  {osl:Array (Option Value)} {N ps:List Str} {sp:Sp} (lk:K.lookup f=some ⟨oc,od,.func (PySem.W.fnOf name qual params body scope dV kV doc pm an cdv ct),osl⟩) (hcd:PySem.W.codeIn K cdv qual=true) (S:aaE N ps scope)
  (len:∀ vs H Q E,sp vs H Q E->vs.length=ps.length)
  (hbody:∀ (A:Around) (outer:List Env) (s:Shared) (H:Hp) (vs:List V) (Q:VK) (E:XK),afT k (A.deeper (envOfC qual scope s.heap.objs.size f cdv))->sp vs H Q E ->
   ∃ t,PSs (alG CX P w K mg base N qual scope f cdv A outer s H E) body t /\ t {nx:=λ_ H'=>Q .non H',rt:=Q } (start N vs) H) :
  alF P w K mg base CX (k + 1) f (PySem.W.fnOf name qual params body scope dV kV doc pm an cdv ct) ps sp:=by
 refine ⟨len,λA outer s H args us vs Q E hr e0 hb r hsp=>?_⟩
 have hl:=len _ _ _ _ hsp
 have KX:K.In s.heap:=e0.mod.kin.keeps λb o e=>(e0.bs b o e).1
 have lim:s.heap.NoLimit:=e0.mod.nolimit.keeps λb o e=>(e0.bs b o e).1
 have hkind:∀ y ∈ ps.zip us,scope.names.lookup y.1=some .local \/ (scope.names.lookup y.1=some .cell /\ ((cellsFrom (s.heap.objs.size + 1) scope.names []).lookup y.1).isSome=true):=λ⟨n,v⟩ hy=>by
  rcases S.par n (List.of_mem_zip hy).1 with q | q
  ·exact .inl q
  ·exact .inr ⟨q,PySem.W.cellsFrom_some _ _ _ (.inl q)⟩
 refine codeAny_call_function hr.depth (KX _ _ lk) rfl S.co S.gen rfl (PySem.W.codeRec_of KX hcd) (hb _ _ _ _ ?_)
 refine wpAny_newFunctionEnv_cells S.kind hkind λenv he s1 x=>?_
 subst he
 refine ⟨lim.keeps x.toInCall.keep,codeAny_func ?_⟩
 obtain ⟨t,ht,hq⟩:=hbody A outer s H vs Q E (hr.deeper _) hsp
 have I:Inv (alG CX P w K mg base N qual scope f cdv A outer s H E) [] (start N vs) H s1:=anJ S hr.hd e0 hl r x
 refine wpAny_mono (ht [] s1 (start N vs) H _ I hq) (λfl s' hs=>?_) λe s' hs=>hs
 have fin:∀ {σ':St} {H':Hp} {v:V} {u:Value},Inv (alG CX P w K mg base N qual scope f cdv A outer s H E) [] σ' H' s'->RelV v u->Q v H'->CE outer P w H s Q u s' :=
  λ{σ' H' v u} J rv q=>⟨v,H',J.os,J.bare,J.base,J.hok,rv,q⟩
 cases fl with
 | ret u =>
  obtain ⟨v,σ',H',J,rv,q⟩:=hs
  exact fin J rv q
 | next =>
  obtain ⟨σ',H',J,q⟩:=hs
  exact fin (v:=V.non) (u:=Value.none) J rfl q
 | brk =>
  obtain ⟨_,_,_,q⟩:=hs
  exact False.elim q
 | cont =>
  obtain ⟨_,_,_,q⟩:=hs
  exact False.elim q
end L2
namespace L2
open PySem PySem.Spec PyProof.Rows
section
variable {X:Cx} {x:Str} {p pos:Pos} {e:Expr} {es:List Expr} {t:TA} {id T:String} {r:List V->Hp->VK->Prop}
noncomputable def tCB (r:List V->Hp->VK->Prop) (t:TA):TE:=λσ H Q=>t σ H λvs H1=>r vs H1 Q
theorem agM (hc:adC X (.builtin id) r) (hg:Gl X x) (hm:X.mg x=none) (hv:bootBuiltins x=some (.builtin id)) (ha:PA X (e :: es) t) (hn:x ≠ "__name__" := by decide) (hdb:(x == ("__debug__" : Str))=false:=by decide)
  (he:starEach (e :: es) X.env=(false,eval e X.env) :: starEach es X.env:=by rfl) (hpl:(backTo pos (starEach es X.env)).any (·.1)=false:=by rfl):PE X (.Call (.Name x p) (e :: es) [] pos) (tCB r t):=by
 refine ⟨λpins s σ H Q I h=>?_⟩
 refine wpAny_Call_Name_kw (agk I hg hm hv ?_ hn hdb)
 exact PyProof.Rows.callWith_builtin1 (thn (ha pos pins s σ H _ I h) λus s1 ⟨vs,H1,I1,r1,q1⟩=>hc pins s1 σ H1 vs us Q I1 r1 q1) he hpl
theorem anK (hc:adC X (.type T) r) (hg:Gl X x) (hm:X.mg x=none) (hv:bootBuiltins x=some (.type T)) (ha:PA X (e :: es) t) (hn:x ≠ "__name__" := by decide) (hdb:(x == ("__debug__" : Str))=false:=by decide)
  (he:starEach (e :: es) X.env=(false,eval e X.env) :: starEach es X.env:=by rfl) (hpl:(backTo pos (starEach es X.env)).any (·.1)=false:=by rfl):PE X (.Call (.Name x p) (e :: es) [] pos) (tCB r t):=by
 refine ⟨λpins s σ H Q I h=>?_⟩
 refine wpAny_Call_Name_kw (agk I hg hm hv ?_ hn hdb)
 exact PyProof.Rows.callWith_type1 (thn (ha pos pins s σ H _ I h) λus s1 ⟨vs,H1,I1,r1,q1⟩=>hc pins s1 σ H1 vs us Q I1 r1 q1) he hpl
end
end L2
namespace HT
open PySem PyProof.Rows
noncomputable def lexLt:List Int->List Int->Bool
 | [],[]=>false
 | [],_ :: _=>true
 | _ :: _,[]=>false
 | x :: xs,y :: ys=>if x=y then lexLt xs ys else decide (x<y)
theorem amk (x y:Int) (xs ys:List Int):lexLt (x :: xs) (y :: ys)=if x=y then lexLt xs ys else decide (x<y):=rfl
theorem aiz:lexLt [] []=false:=rfl
theorem ahR (y:Int) (ys:List Int):lexLt [] (y :: ys)=true:=rfl
theorem ahS (x:Int) (xs:List Int):lexLt (x :: xs) []=false:=rfl
theorem apm (A:Around) (s:Shared) (a:Int) (t:Tok) (c:Int) (u:Tok):∃ e,SeqAt.EqAt A s (.int a t) (.int c u) e /\ (e=true↔a=c) :=
 ⟨(a == c),SeqAt.EqAt.int_int a t c u,by simp⟩
theorem apn (A:Around) (s:Shared) (a:Int) (t:Tok) (c:Int) (u:Tok) (prog:Program) (w:World) (E:Value->Shared->Prop) (Q:Value->Shared->Prop) (h:Q (.bool (decide (a<c))) s) :
  wpAny (model prog w) A (richCompare .Lt (.int a t) (.int c u)) Q E s :=
 (PyProof.Rows.lt_int h:wpAny (model prog w) A (compareOp .Lt (.int a t) (.int c u)) Q E s)
section
open PySem.SeqAt
open PySem.AutoSeq1 (wpAny_loadPart')
open PySem.MeetsSeq PySem.MeetsSeq2 PySem.MeetsSeq3
theorem aiA (l b:Addr) (items items2:Array Value) (n n2:Nat) (dd dd2:Option Addr) (sl sl2:Array (Option Value)) (ns ms:List Int) (hi:IntsAre items.toList ns) (hj:IntsAre items2.toList ms) :
  Meets (Builtin.«tuple.__lt__» ⟨[.ref l,.ref b],[]⟩)
   (λ_ R s=>s.heap.get? l=some {cls := .type "tuple",dict:=dd,data := .seq items n,slots:=sl }∧s.heap.get? b=some {cls := .type "tuple",dict:=dd2,data := .seq items2 n2,slots:=sl2 } ∧
    R (.ok (.ret (.bool (lexLt ns ms)))) s) :=
 .of_wp λprog w A R s h=>by
  obtain ⟨hp,g,d,tk,os⟩:=s; obtain ⟨hl,hb,h⟩:=h
  have f2:=AutoSeq1.sub_tuple_tuple
  have z1:items.size=ns.length:=by rw [<-hi.length]; simp
  have z2:items2.size=ms.length:=by rw [<-hj.length]; simp
  wp_walk using wpAny_loadPart' hl,wpAny_loadPart' hb,wpAny_forIn_list _ (λrest b s'=>b.1=none /\ s'=⟨hp,g,d,tk,os⟩ /\ ∃ (vs ws:List Value) (ns' ms':List Int),rest=vs.zip ws /\
   IntsAre vs ns' /\ IntsAre ws ms' /\ ns'.length + items2.size=ms'.length + items.size /\ R (.ok (.ret (.bool (lexLt ns' ms')))) ⟨hp,g,d,tk,os⟩) _
  case turn =>
   rintro ⟨y,x⟩ rest b s' ⟨hb',rfl,vs,ws,ns',ms',hz,hvi,hwi,hlen,hR⟩
   cases hvi with
   | nil=>rw [List.zip_nil_left] at hz; cases hz
   | cons a t azn =>
    cases hwi with
    | nil=>rw [List.zip_nil_right] at hz; cases hz
    | cons c u azo =>
     rw [List.zip_cons_cons] at hz
     injection hz with hyx hrest
     injection hyx with hy hx
     subst hy hx
     rw [amk] at hR
     simp only [List.length_cons] at hlen
     obtain ⟨e,he,hiff⟩:=apm A.in1 ⟨hp,g,d,tk,os⟩ a t c u
     refine wpAny_bind (he prog w _ _ ?_)
     cases e with
     | true =>
      rw [if_pos (hiff.mp rfl)] at hR
      wp_walk
      exact ⟨rfl,rfl,_,_,_,_,hrest,azn,azo,by omega,hR⟩
     | false =>
      rw [if_neg (λq=>absurd (hiff.mpr q) Bool.false_ne_true)] at hR
      have hri:=apn A.in1 ⟨hp,g,d,tk,os⟩ a t c u prog w
      wp_walk using hri
      exact ⟨_,rfl,by simpa using hR⟩
  case fin =>
   rintro ⟨b1,b2⟩ s' ⟨hb',rfl,vs,ws,ns',ms',hz,hvi,hwi,hlen,hR⟩
   simp only at hb'
   subst hb'
   have hv:lexLt ns' ms'=decide (items.size<items2.size):=by
    cases hvi with
    | nil =>
     cases hwi with
     | nil =>
      simp only [List.length_nil] at hlen
      rw [aiz]
      exact (decide_eq_false (by omega)).symm
     | cons c u hw =>
      simp only [List.length_nil,List.length_cons] at hlen
      rw [ahR]
      exact (decide_eq_true (by omega)).symm
    | cons a t hv =>
     cases hwi with
     | nil =>
      simp only [List.length_nil,List.length_cons] at hlen
      rw [ahS]
      exact (decide_eq_false (by omega)).symm
     | cons c u hw =>
      rw [List.zip_cons_cons] at hz
      cases hz
   rw [hv] at hR
   wp_walk
   exact ⟨_,rfl,by simpa [Builtin.Tuple.tupleCompareSizes] using hR⟩
  case h =>
   exact ⟨rfl,rfl,items.toList,items2.toList,ns,ms,rfl,hi,hj,by omega,h⟩
end
section
variable {prog:Program} {w:World} {A:Around} {E:Value->Shared->Prop} {s:Shared}
theorem aml {l b:Addr} {items items2:Array Value} {ns ms:List Int} {Q:Value->Shared->Prop} (hl:IsTup s.heap l items) (hb:IsTup s.heap b items2) (hi:IntsAre items.toList ns) (hj:IntsAre items2.toList ms)
  (hu:A.units<cLine) (h:Q (.bool (lexLt ns ms)) s):wpAny (model prog w) A (compareOp .Lt (.ref l) (.ref b)) Q E s:=by
 obtain ⟨⟨cls,dd,data,sl⟩,ho,hc,n,hd⟩:=id hl
 obtain ⟨⟨cls2,dd2,data2,sl2⟩,ho2,hc2,n2,hd2⟩:=id hb
 simp only at hc hd hc2 hd2
 subst hc hd hc2 hd2
 exact richCompare_meets_room (op := .Lt) ⟨_,ho,rfl⟩ ⟨_,ho2,rfl⟩ PySem.F.slot_tuple_lt PySem.F.entry_tuple_lt (PySem.F.args_tuple_lt_2 _ _) (aiA l b items items2 n n2 dd dd2 sl sl2 ns ms hi hj)
  ⟨ho,ho2,show Value.bool (lexLt ns ms) ≠ Value.notImplemented /\ Q (.bool (lexLt ns ms)) s from ⟨(λx=>nomatch x),h⟩⟩ hu
theorem arA {t b:Addr} {vs ws:List Value} {Q:Value->Shared->Prop} (ht:IsTup s.heap t vs.toArray) (hb:IsTup s.heap b ws.toArray) (hv:vs ≠ [])
  (h1:ws = []->Q (.ref t) s) (h2:ws ≠ []->Q (.ref s.heap.objs.size) {s with heap:=s.heap.push {cls := .type "tuple",data := .seq (vs ++ ws).toArray } })
  (hsz:vs.length + ws.length<=sizeLine):wpAny (model prog w) A (binaryOp .Add (.ref t) (.ref b)) Q E s:=by
 obtain ⟨⟨cls,dd,data,sl⟩,ho,hc,n,hd⟩:=id ht
 obtain ⟨⟨cls2,dd2,data2,sl2⟩,ho2,hc2,n2,hd2⟩:=id hb
 simp only at hc hd hc2 hd2
 subst hc hd hc2 hd2
 have e:vs.toArray ++ ws.toArray=(vs ++ ws).toArray:=by simp
 by_cases hw:ws = []
 ·exact concat_meets ⟨_,ho,rfl⟩ ⟨_,ho2,rfl⟩ noFill_tuple_add seq_tuple_add PySem.F.slot_tuple_add PySem.F.entry_tuple_add (PySem.F.args_tuple_add_2 _ _)
   (tuple_addW1 t b vs.toArray ws.toArray n n2 dd dd2 sl sl2 (by simpa using hv) (by simp [hw])) ⟨ho,ho2,h1 hw⟩
 ·refine concat_meets ⟨_,ho,rfl⟩ ⟨_,ho2,rfl⟩ noFill_tuple_add seq_tuple_add PySem.F.slot_tuple_add PySem.F.entry_tuple_add (PySem.F.args_tuple_add_2 _ _)
   (tuple_addW2 t b vs.toArray ws.toArray n n2 dd dd2 sl sl2 (by simpa using hv) (by simpa using hw) (by rw [List.size_toArray,List.size_toArray]; exact hsz)) ⟨ho,ho2,?_⟩
  rw [e]
  exact h2 hw
noncomputable def sIx (n d:Nat):Option Int->Nat
 | none=>d
 | some v=>if v<0 then (v + (n:Int)).toNat else min v.toNat n
theorem at5 (n d:Nat) (hd:d<=n) (o:Option Int):sIx n d o<=n:=by
 cases o with
 | none=>exact hd
 | some v =>
  show (if v<0 then (v + (n:Int)).toNat else min v.toNat n)<=n
  by_cases hv:v<0
  ·rw [if_pos hv]; omega
  ·rw [if_neg hv]; exact Nat.min_le_right _ _
theorem anL (v:Int) (n d:Nat):(if v<0 then max (v + (n:Int)) 0 else min v (n:Int))=((sIx n d (some v):Nat):Int):=by
 show (if v<0 then max (v + (n:Int)) 0 else min v (n:Int))=(((if v<0 then (v + (n:Int)).toNat else min v.toNat n):Nat):Int)
 by_cases hv:v<0
 ·simp only [if_pos hv]; omega
 ·simp only [if_neg hv]; omega
theorem amm (lo hi:Option Int) (n:Nat):Builtin.Slice.sliceAdjust lo hi 1 (n:Int)=(((sIx n 0 lo:Nat):Int),((sIx n n hi:Nat):Int)):=by
 have h1:¬ ((1:Int)<0):=by omega
 unfold Builtin.Slice.sliceAdjust
 simp only [h1,if_false]
 refine Prod.ext ?_ ?_
 ·cases lo with
  | none=>rfl
  | some v=>exact anL v n 0
 ·cases hi with
  | none=>rfl
  | some v=>exact anL v n n
theorem amn (i j:Nat):Builtin.Slice.slicePlaces (i:Int) (j:Int) 1=j - i:=by
 unfold Builtin.Slice.slicePlaces
 have h1:(1:Int) > 0:=by omega
 simp only [h1,if_true,Int.ediv_one]
 split <;> omega
theorem aib {v:Value} {o:Option Int} {Q:Option Int->Shared->Prop} (p:IsPart v o) (h:Q o s):wpAny (model prog w) A (Builtin.Slice.slicePartIndex v) Q E s:=by
 cases p with
 | none=>exact slicePart_none h
 | int i t=>exact slicePart_int h
theorem agw {sl:Addr} {vl vu:Value} {lo hi:Option Int} {n:Nat} {Q:Int × Int × Nat->Shared->Prop} (hs:s.heap.IsSliceOf sl vl vu .none) (pl:IsPart vl lo) (pu:IsPart vu hi)
  (h:Q (((sIx n 0 lo:Nat):Int),1,sIx n n hi - sIx n 0 lo) s):wpAny (model prog w) A (Builtin.Slice.sliceApplied (.ref sl) (pure (n:Int))) Q E s:=by
 obtain ⟨os,hos,hcs,hds⟩:=id hs
 unfold Builtin.Slice.sliceApplied Builtin.Slice.sliceFields
 refine wpAny_bind (wpAny_bind (wpAny_field hos hds (x:=vl) rfl (wpAny_bind (wpAny_field hos hds (x:=vu) rfl (wpAny_bind (wpAny_field hos hds (x := .none) rfl (wpAny_pure ?_)))))))
 refine wpAny_bind (slicePart_none ?_)
 show wpAny _ _ (if ((1:Int) == 0)=true then _ else _) _ _ s
 rw [if_neg (by decide)]
 refine wpAny_bind (aib pl (wpAny_bind (aib pu (wpAny_bind (wpAny_pure ?_)))))
 show wpAny _ _ (match Builtin.Slice.sliceAdjust lo hi 1 (n:Int) with | (lo,hi)=>pure (lo,(1:Int),Builtin.Slice.slicePlaces lo hi 1)) _ _ s
 rw [amm lo hi n]
 show wpAny _ _ (pure (((sIx n 0 lo:Nat):Int),(1:Int),Builtin.Slice.slicePlaces ((sIx n 0 lo:Nat):Int) ((sIx n n hi:Nat):Int) 1)) _ _ s
 rw [amn]
 exact wpAny_pure h
theorem apo (xs:Array Value) (i k:Nat):((List.range k).filterMap λ(m:Nat)=>xs[((i:Int) + (m:Int) * 1).toNat]?).toArray=((xs.toList.drop i).take k).toArray:=by
 have e:(λ(m:Nat)=>xs[((i:Int) + (m:Int) * 1).toNat]?)=λm=>xs[i + m]? := by
  funext m
  have:((i:Int) + (m:Int) * 1).toNat=i + m:=by omega
  rw [this]
 rw [e]
 have:=pick_run xs i k
 rw [List.filterMap_map] at this
 have e2:((λx=>xs[x]?) ∘ λx=>i + x)=λm=>xs[i + m]? := rfl
 rw [e2] at this
 rw [this]
theorem afU {t sl:Addr} {items:Array Value} {vl vu:Value} {lo hi:Option Int} {Q:Value->Shared->Prop} (ht:IsTup s.heap t items) (hs:s.heap.IsSliceOf sl vl vu .none) (pl:IsPart vl lo) (pu:IsPart vu hi)
  (hw:¬ (sIx items.size 0 lo=0 /\ sIx items.size items.size hi=items.size))
  (h:Q (.ref s.heap.objs.size) {s with heap:=s.heap.push {cls := .type "tuple",data := .seq ((items.toList.drop (sIx items.size 0 lo)).take (sIx items.size items.size hi - sIx items.size 0 lo)).toArray } })
  (hsz:items.size<=sizeLine):wpAny (model prog w) A (getItem (.ref t) (.ref sl)) Q E s:=by
 have apq:sizeOk (.seq ((items.toList.drop (sIx items.size 0 lo)).take (sIx items.size items.size hi - sIx items.size 0 lo)).toArray):=by
  show ((items.toList.drop (sIx items.size 0 lo)).take (sIx items.size items.size hi - sIx items.size 0 lo)).toArray.size<=sizeLine
  rw [List.size_toArray,List.length_take,List.length_drop,Array.length_toList]
  omega
 have hj:sIx items.size items.size hi<=items.size:=at5 _ _ (Nat.le_refl _) hi
 obtain ⟨os,hos,hcs,hds⟩:=id hs
 have hTs:s.TypeIs (.ref sl) "slice" := ⟨os,hos,hcs⟩
 unfold getItem
 try with_reducible refine wpAny_holding ?_
 first | refine wpAny_bind (wpAny_pure ?_) | skip
 refine wpAny_bind (wpAny_sequenceKey ht.typeIs (by decide) ?_)
 refine wpAny_bind (wpAny_callSpecial?_slot (name:=Str.ofString "__getitem__") ht.typeIs PyProof.Rows.slot_tuple_getitem
  (wpAny_call_entry PyProof.Rows.slot_tuple_getitem ht.typeIs entry_tuple_getitem ?_ (args_tuple_getitem _ _)))
 show wpAny _ _ (Builtin.Tuple.tupleItemsOf (.ref t) >>= _) _ _ s
 refine wpAny_bind (tupleItemsOf_ ht ?_)
 refine wpAny_bind (wpAny_typeOf hTs ?_)
 rw [if_pos (by decide)]
 refine wpAny_bind (agw hs pl pu ?_)
 have hno:¬ ((((sIx items.size 0 lo:Nat):Int) == 0 && (1:Int) == 1 && (sIx items.size items.size hi - sIx items.size 0 lo) == items.size)=true):=by
  intro q
  rw [Bool.and_eq_true,Bool.and_eq_true] at q
  have q1:((sIx items.size 0 lo:Nat):Int)=0:=eq_of_beq q.1.1
  have q2:sIx items.size items.size hi - sIx items.size 0 lo=items.size:=eq_of_beq q.2
  exact hw ⟨by omega,by omega⟩
 show wpAny _ _ (if (((sIx items.size 0 lo:Nat):Int) == 0 && (1:Int) == 1 && (sIx items.size items.size hi - sIx items.size 0 lo) == items.size)=true then _ else _) _ _ s
 rw [if_neg hno,apo]
 first
  | exact wpAny_bind (m:=Builtin.Tuple.tupleExact _) (wpAny_newObj_type (wpAny_pure ⟨_,rfl,wpAny_pure h⟩) apq)
  | exact wpAny_bind (m:=Builtin.Tuple.tupleExact _) (wpAny_newObj_type (wpAny_bind (wpAny_pure (wpAny_pure ⟨_,rfl,wpAny_pure h⟩))) apq)
  | exact wpAny_bind (wpAny_bind (m:=Builtin.Tuple.tupleExact _) (wpAny_newObj_type (wpAny_pure (wpAny_pure ⟨_,rfl,wpAny_pure h⟩)) apq))
  | exact wpAny_bind (wpAny_bind (m:=Builtin.Tuple.tupleExact _) (wpAny_newObj_type (wpAny_pure ⟨_,rfl,wpAny_pure h⟩) apq))
end
end HT
namespace L2
open PySem PySem.Spec PyProof.Rows
noncomputable abbrev TO:=St->Hp->(Option Int->Hp->Prop)->Prop
noncomputable def PO (X:Cx) (e:Option Expr) (t:TO):Prop :=
 ∀ (pins:List (Addr × Obj)) (s:Shared) (σ : St) (H:Hp) (Q:Option Int->Hp->Prop),Inv X pins σ H s->t σ H Q ->
  wpAny (model X.prog X.w) X.A (evalPart e X.env) (λu s'=>∃ o H',Inv X pins σ H' s' /\ IsPart u o /\ Q o H') X.xe s
noncomputable def anM:TO:=λ_ H Q=>Q none H
noncomputable def at6 (t:TE):TO:=λσ H Q=>t σ H λx H1=>∃ i,x = .int i /\ Q (some i) H1
theorem intsAre_of {ns:List Int}:∀ {us:List Value},Vals (ns.map V.int) us->IntsAre us ns:=by
 induction ns with
 | nil=>intro us r; rw [List.map_nil] at r; cases r; exact .nil
 | cons n ns ih =>
  intro us r
  rw [List.map_cons] at r
  cases r with
  | cons r1 r2 =>
   obtain ⟨t,e⟩:=r1
   subst e
   exact .cons n t (ih r2)
section
variable {X:Cx} {e:Expr} {te:TE} {lo hi:Option Expr} {tl th:TO} {pos p2:Pos}
theorem ab3:PO X none anM:=by
 intro pins s σ H Q I h
 rw [evalPart_none]
 exact wpAny_pure ⟨none,H,I,.none,h⟩
theorem ab4 (h:PE X e te):PO X (some e) (at6 te):=by
 intro pins s σ H Q I hw
 rw [evalPart_some]
 refine thn (h pins s σ H _ I hw) λu s1 ⟨x,H1,I1,r1,q1⟩=>?_
 obtain ⟨i,rfl,q⟩:=q1
 obtain ⟨t,rfl⟩:=r1
 exact ⟨some i,H1,I1,.int i t,q⟩
noncomputable def SlR (X:Cx) (r:V->Option Int->Option Int->Hp->VK->Prop):Prop :=
 ∀ (pins:List (Addr × Obj)) (s:Shared) (σ : St) (H:Hp) (x:V) (v vl vu:Value) (lo hi:Option Int) (sl:Addr) (Q:VK),Inv X pins σ H s->RelV x v->s.heap.IsSliceOf sl vl vu .none->IsPart vl lo->IsPart vu hi->r x lo hi H Q ->
  ∃ T id,typeLookup (.type T) "__getitem__" = pure (some (.builtin id)) /\ s.TypeIs v T /\ wpAny (model X.prog X.w) X.A (getItem v (.ref sl)) (EP X pins σ Q) X.xe s
theorem SlR.or {r r':V->Option Int->Option Int->Hp->VK->Prop} (h:SlR X r) (h':SlR X r'):SlR X (λx lo hi H Q=>r x lo hi H Q \/ r' x lo hi H Q):=by
 intro pins s σ H x v vl vu lo hi sl Q I rx hs pl pu q
 rcases q with q | q
 ·exact h pins s σ H x v vl vu lo hi sl Q I rx hs pl pu q
 ·exact h' pins s σ H x v vl vu lo hi sl Q I rx hs pl pu q
noncomputable def tSl (r:V->Option Int->Option Int->Hp->VK->Prop) (te:TE) (tl th:TO):TE:=λσ H Q=>te σ H λx H1=>tl σ H1 λl H2=>th σ H2 λu H3=>r x l u H3 Q
theorem abt {r:V->Option Int->Option Int->Hp->VK->Prop} (hr:SlR X r) (he:PE X e te) (hl:PO X lo tl) (hu:PO X hi th):PE X (.Subscript e (.Slice lo hi none p2) pos) (tSl r te tl th):=by
 refine ⟨λpins s σ H Q I h=>?_⟩
 refine Subscript_ (thn (he pins s σ H _ I h) λv s1 ⟨x,H1,I1,r1,q1⟩=>?_)
 refine wpAny_Slice (thn (hl pins s1 σ H1 _ I1 q1) λvl s2 ⟨l,H2,I2,pl,q2⟩=>thn (hu pins s2 σ H2 _ I2 q2) λvu s3 ⟨u,H3,I3,pu,q3⟩=>?_)
 rw [evalPart_none]
 refine wpAny_pure ?_
 have I4:Inv X pins σ H3 {s3 with heap:=s3.heap.push {cls := .type "slice",data := .fields #[vl,vu,.none] } }:=I3.kept (t':=s3.toks) λb ob q=>Heap.get?_push_of_some _ q
 obtain ⟨T,id,hT,ht,hg⟩:=hr pins {s3 with heap:=s3.heap.push {cls := .type "slice",data := .fields #[vl,vu,.none] } } σ H3 x v vl vu l u s3.heap.objs.size Q I4 r1 (Heap.IsSliceOf.new ..) pl pu q3
 show wpAny (model X.prog X.w) X.A (subscriptTail e (.Slice lo hi none p2) v (.ref s3.heap.objs.size)) (EP X pins σ Q) X.xe {s3 with heap:=s3.heap.push {cls := .type "slice",data := .fields #[vl,vu,.none] } }
 exact tail_any (ops := [.ref s3.heap.objs.size,v]) ht hT hg (by with_unfolding_all rfl)
noncomputable def aqM (xs:List V) (lo hi:Option Int):List V:=(xs.drop (HT.sIx xs.length 0 lo)).take (HT.sIx xs.length xs.length hi - HT.sIx xs.length 0 lo)
theorem ag5 (xs:List V) (lo hi:Option Int):(aqM xs lo hi).length<=xs.length:=by
 unfold aqM
 rw [List.length_take,List.length_drop]
 omega
noncomputable def ayJ (K:PySem.W.Frag):V->Option Int->Option Int->Hp->VK->Prop:=λx lo hi H Q=>∃ a xs,x = .ref a /\ SqT K H a xs /\
 ¬ (HT.sIx xs.length 0 lo=0 /\ HT.sIx xs.length xs.length hi=xs.length) /\ ∀ p,H p=none->Q (.ref p) (upd H p (.tup (aqM xs lo hi)))
theorem at7:SlR X (ayJ X.K):=by
 intro pins s σ H x v vl vu lo hi sl Q I rx hs pl pu h
 obtain ⟨a,xs,rfl,hx,hw,q⟩:=h
 cases rx
 obtain ⟨its,r,ht,hz⟩:=I.tuple hx
 have hlen:its.toArray.size=xs.length:=by rw [List.size_toArray]; exact r.length.symm
 refine ⟨"tuple",_,PyProof.Rows.slot_tuple_getitem.lookup,ht.typeIs,?_⟩
 refine HT.afU ht hs pl pu (by rw [hlen]; exact hw) ?_ (by rw [hlen]; exact hz)
 rw [hlen]
 refine ⟨.ref s.heap.objs.size,_,I.laid (t':=s.toks) (o := .tup (aqM xs lo hi)) (λb ob q=>Heap.get?_push_of_some _ q) (Nat.le_refl _) ?_,rfl,q _ (I.hok.fresh (Nat.le_refl _))⟩
 exact ⟨Nat.le_trans (ag5 xs lo hi) hz,_,(r.drop (HT.sIx xs.length 0 lo)).take (HT.sIx xs.length xs.length hi - HT.sIx xs.length 0 lo),IsTup.new _ _⟩
noncomputable def ayK (K:PySem.W.Frag):R2:=λx y H Q=>∃ a b ns ms,x = .ref a /\ y = .ref b /\ SqT K H a (ns.map V.int) /\ SqT K H b (ms.map V.int) /\ Q (.bl (HT.lexLt ns ms)) H
theorem at8 (hu:X.A.units<cLine):OpR X (compareOp .Lt) (ayK X.K):=by
 intro pins s σ H x y v u Q I rx ry h
 obtain ⟨a,b,ns,ms,rfl,rfl,ha,hb,q⟩:=h
 cases rx
 cases ry
 obtain ⟨its,r1,p1,_⟩:=I.tuple ha
 obtain ⟨its2,r2,p2,_⟩:=I.tuple hb
 have i1:IntsAre its.toArray.toList ns:=intsAre_of r1
 have i2:IntsAre its2.toArray.toList ms:=intsAre_of r2
 exact HT.aml p1 p2 i1 i2 hu ⟨.bl (HT.lexLt ns ms),H,I,rfl,q⟩
noncomputable def at9 (K:PySem.W.Frag):R2:=λx y H Q=>∃ a b xs ys,x = .ref a /\ y = .ref b /\ SqT K H a xs /\ SqT K H b ys /\ xs ≠ [] /\ xs.length + ys.length<=sizeLine /\
 (ys = []->Q (.ref a) H) /\ (ys ≠ []->∀ p,H p=none->Q (.ref p) (upd H p (.tup (xs ++ ys))))
theorem Vals.akm {xs:List V} {us:List Value} (r:Vals xs us):us = []↔xs = []:=by
 cases r with
 | nil=>simp
 | cons _ _=>simp
theorem arB:OpR X (binaryOp .Add) (at9 X.K):=by
 intro pins s σ H x y v u Q I rx ry h
 obtain ⟨a,b,xs,ys,rfl,rfl,ha,hb,hx,hz,q1,q2⟩:=h
 cases rx
 cases ry
 obtain ⟨its,r1,p1,_⟩:=I.tuple ha
 obtain ⟨its2,r2,p2,_⟩:=I.tuple hb
 refine HT.arA p1 p2 (λz=>hx (r1.akm.mp z)) (λz=>⟨.ref a,H,I,rfl,q1 (r2.akm.mp z)⟩) (λz=>?_) (by rw [<-r1.length,<-r2.length]; exact hz)
 refine ⟨.ref s.heap.objs.size,_,I.laid (t':=s.toks) (o := .tup (xs ++ ys)) (λb ob q=>Heap.get?_push_of_some _ q) (Nat.le_refl _) ?_,rfl,q2 (λw=>z (r2.akm.mpr w)) _ (I.hok.fresh (Nat.le_refl _))⟩
 exact ⟨by rw [List.length_append]; exact hz,_,r1.append r2,IsTup.new _ _⟩
end
end L2
namespace L2
open PySem PySem.Spec PyProof.Rows
noncomputable def ixN (n:Nat) (i:Int):Option Nat:=if 0<=i then (if i<n then some i.toNat else none) else if -(n:Int)<=i then some (i + n).toNat else none
noncomputable def atI {α : Type} (xs:List α) (i:Int):Option α := (ixN xs.length i).bind λj=>xs[j]?
theorem anN {n:Nat} {i:Int} {j:Nat} (h:ixN n i=some j):seqIndex? i n=some j /\ j<n /\ -(n:Int)<=i /\ i<n:=by
 unfold ixN at h
 by_cases h0:0<=i
 ·rw [if_pos h0] at h
  by_cases h1:i<n
  ·rw [if_pos h1] at h
   have e:i.toNat=j:=Option.some.inj h
   exact ⟨by rw [seqIndex_of h0 h1,e],by omega,by omega,h1⟩
  ·rw [if_neg h1] at h; cases h
 ·rw [if_neg h0] at h
  by_cases h1 : -(n:Int)<=i
  ·rw [if_pos h1] at h
   have e:(i + n).toNat=j:=Option.some.inj h
   exact ⟨by rw [seqIndex_neg (by omega) h1,e],by omega,h1,by omega⟩
  ·rw [if_neg h1] at h; cases h
theorem akn {α : Type} {xs:List α} {i:Int} {v : α} (h:atI xs i=some v):∃ j,seqIndex? i xs.length=some j /\ xs[j]? = some v /\ j<xs.length /\ -(xs.length:Int)<=i /\ i<xs.length:=by
 unfold atI at h
 cases e:ixN xs.length i with
 | none=>rw [e] at h; cases h
 | some j =>
  rw [e] at h
  obtain ⟨h1,h2,h3,h4⟩:=anN e
  exact ⟨j,h1,h,h2,h3,h4⟩
noncomputable def arC (b:Expr):Prop:=∀ o i,subscripted b false o i=operate [o,i] (getItem o i)
noncomputable def IxR (X:Cx) (r:R2):Prop :=
 ∀ (value slice:Expr) (pins:List (Addr × Obj)) (s:Shared) (σ : St) (H:Hp) (x y:V) (v u:Value) (Q:VK),Inv X pins σ H s->RelV x v->RelV y u->r x y H Q ->
  subscripted slice false v u=operate [v,u] (getItem v u)->wpAny (model X.prog X.w) X.A (subscriptTail value slice v u) (EP X pins σ Q) X.xe s
noncomputable def MtR (X:Cx) (id:String) (r:V->List V->Hp->VK->Prop):Prop :=
 ∀ (pins:List (Addr × Obj)) (s:Shared) (σ : St) (H:Hp) (x:V) (xs:List V) (v:Value) (us:List Value) (Q:VK),Inv X pins σ H s->RelV x v->Vals xs us->r x xs H Q ->
  wpAny (model X.prog X.w) X.A (call (.builtin id) (v :: us)) (EP X pins σ Q) X.xe s
section
variable {X:Cx} {a b:Expr} {ta tb:TE} {pos:Pos}
theorem IxR.or {r r':R2} (h:IxR X r) (h':IxR X r'):IxR X (λx y H Q=>r x y H Q \/ r' x y H Q):=by
 intro value slice pins s σ H x y v u Q I rx ry q hs
 rcases q with q | q
 ·exact h value slice pins s σ H x y v u Q I rx ry q hs
 ·exact h' value slice pins s σ H x y v u Q I rx ry q hs
theorem abk {r:R2} (hr:IxR X r) (ha:PE X a ta) (hb:PE X b tb) (hs:arC b):PE X (.Subscript a b pos) (tOp r ta tb):=by
 refine ⟨λpins s σ H Q I h=>?_⟩
 exact Subscript_ (awP ha hb I h λv u s2 x y H2 I2 rx ry q=>hr a b pins s2 σ H2 x y v u Q I2 rx ry q (hs _ _))
noncomputable def ayL (K:PySem.W.Frag):R2:=λx y H Q=>∃ p xs i v,x = .ref p /\ y = .int i /\ SqL K H p xs /\ atI xs i=some v /\ Q v H
noncomputable def ayM (K:PySem.W.Frag):R2:=λx y H Q=>∃ p xs i v,x = .ref p /\ y = .int i /\ SqT K H p xs /\ atI xs i=some v /\ Q v H
noncomputable def ayN:R2:=λx y H Q=>∃ z i c,x = .str z /\ y = .int i /\ z.length<=sizeLine /\ atI z.cps.toList i=some c /\ Q (.str ⟨#[c]⟩) H
theorem arD:IxR X (ayL X.K):=by
 intro value slice pins s σ H x y v u Q I rx ry h hs
 obtain ⟨p,xs,i,z,rfl,rfl,hq,he,q⟩:=h
 cases rx
 obtain ⟨t,rfl⟩:=ry
 obtain ⟨its,r,pl,hz⟩:=I.list hq
 obtain ⟨j,h1,h2,h3,h4,h5⟩:=akn he
 obtain ⟨w,ew,rw'⟩:=r.get h2
 have hl:=r.length
 have hn:=ag4
 have fin:EP X pins σ Q w s:=⟨z,H,I,rw',q⟩
 by_cases h0:0<=i
 ·have hj:i.toNat=j:=by
   rw [seqIndex_of h0 h5] at h1
   exact Option.some.inj h1
  exact item_listR pl.isList h0 (by omega) (by rw [hj]; simpa using ew) fin hs
 ·have hj:(i + (its.toArray.size:Int)).toNat=j:=by
   rw [seqIndex_neg (by omega) h4] at h1
   rw [List.size_toArray,<-hl]
   exact Option.some.inj h1
  exact subscriptTail_builtinR (x:=w) pl.isList.typeIs slot_list_getitem.lookup
   (wpAny_getItem_list_neg (Q:=λr s'=>r=w /\ EP X pins σ Q r s') pl.isList (by omega) (by rw [List.size_toArray] <;> omega) (by omega) (by rw [hj]; simpa using ew) ⟨rfl,fin⟩) hs
theorem aua:IxR X (ayM X.K):=by
 intro value slice pins s σ H x y v u Q I rx ry h hs
 obtain ⟨p,xs,i,z,rfl,rfl,hq,he,q⟩:=h
 cases rx
 obtain ⟨t,rfl⟩:=ry
 obtain ⟨its,r,pl,hz⟩:=I.tuple hq
 obtain ⟨j,h1,h2,h3,h4,h5⟩:=akn he
 obtain ⟨w,ew,rw'⟩:=r.get h2
 have hl:=r.length
 have hn:=ag4
 have fin:EP X pins σ Q w s:=⟨z,H,I,rw',q⟩
 exact subscriptTail_builtinR (x:=w) pl.typeIs slot_tuple_getitem.lookup
  (getItem_tuple (j:=j) (Q:=λr s'=>r=w /\ EP X pins σ Q r s') pl (by omega) (by omega) (by rw [List.size_toArray,<-hl]; exact h1) (by simpa using ew) ⟨rfl,fin⟩) hs
theorem aub:IxR X ayN:=by
 intro value slice pins s σ H x y v u Q I rx ry h hs
 obtain ⟨z,i,c,rfl,rfl,hz,he,q⟩:=h
 obtain ⟨t,rfl⟩:=rx
 obtain ⟨t',rfl⟩:=ry
 obtain ⟨j,h1,h2,h3,h4,h5⟩:=akn he
 have hl:z.cps.toList.length=z.length:=by simp [Str.length]
 rw [hl] at h1 h4 h5
 have hn:=ag4
 exact tail_any (typeIs_str s z t) slot_str_getitem.lookup (getItem_str (c:=c) (by
  have e1:decide (i < -(2 ^ 63:Int))=false:=decide_eq_false (by omega)
  have e2:decide (i >= 2 ^ 63)=false:=decide_eq_false (by omega)
  rw [e1,e2,Bool.or_false]) (by rw [h1]; simpa using h2) ⟨.str ⟨#[c]⟩,H,I.tok _,⟨_,rfl⟩,q⟩) hs
noncomputable def rIx (K:PySem.W.Frag):R2:=λx y H Q=>ayL K x y H Q \/ ayM K x y H Q \/ ayN x y H Q
theorem aaV:IxR X (rIx X.K):=arD.or (aua.or aub)
theorem amo (its:List Value) (n j:Nat) (u:Value):Obj.mapSeq (·.setIfInBounds j u) {cls := .type "list",data := .seq its.toArray n }={cls := .type "list",data := .seq (its.set j u).toArray n }:=by
 simp [Obj.mapSeq]
theorem Inv.lst {pins:List (Addr × Obj)} {σ : St} {H:Hp} {s:Shared} {p:Addr} {xs:List V} (I:Inv X pins σ H s) (h:H p=some (.lst xs)) :
  ∃ (its:List Value) (n:Nat),Vals xs its /\ s.heap.get? p=some {cls := .type "list",data := .seq its.toArray n } /\ xs.length<=sizeLine:=by
 obtain ⟨z,its,n,r,e⟩:=I.hok p _ h
 exact ⟨its,n,r,e,z⟩
theorem Inv.auc {pins:List (Addr × Obj)} {σ : St} {H:Hp} {s:Shared} {p:Addr} {xs ys:List V} {its its':List Value} {n n':Nat} {f:Obj->Obj} (I:Inv X pins σ H s) (h:H p=some (.lst xs))
  (ho:s.heap.get? p=some {cls := .type "list",data := .seq its.toArray n }) (hf:f {cls := .type "list",data := .seq its.toArray n }={cls := .type "list",data := .seq its'.toArray n' }) (r:Vals ys its') (hz:ys.length<=sizeLine) (t:Nat) :
  Inv X pins σ (upd H p (.lst ys)) {s with heap:=s.heap.update p f,toks:=t }:=by
 have e:(s.heap.update p f).get? p=some {cls := .type "list",data := .seq its'.toArray n' }:=by
  rw [Heap.get?_update_self f ho (by rw [hf] <;> rfl),hf]
 refine I.write (x:=p) (e:=p) (by rw [h]; trivial) (.inl rfl) (λb u hb q=>(Heap.get?_update_other _ _ (Ne.symm hb)).trans q) ⟨_,e⟩ ?_
 exact ⟨hz,its',n',r,e⟩
noncomputable def aud:V->V->V->Hp->(Hp->Prop)->Prop:=λo i v H Q=>∃ p xs k j,o = .ref p /\ i = .int k /\ H p=some (.lst xs) /\ ixN xs.length k=some j /\ Q (upd H p (.lst (xs.set j v)))
theorem set_list:ayB X aud:=by
 intro pins s σ H o i v ov iv u Q I ro ri rv h
 obtain ⟨p,xs,k,j,rfl,rfl,hp,hj,q⟩:=h
 cases ro
 obtain ⟨t,rfl⟩:=ri
 obtain ⟨its,n,r,ho,hz⟩:=I.lst hp
 obtain ⟨h1,h2,h3,h4⟩:=anN hj
 have hl:=r.length
 have hn:=ag4
 have I':Inv X pins σ (upd H p (.lst (xs.set j v))) {s with heap:=s.heap.update p (Obj.mapSeq (·.setIfInBounds j u)) } :=
  I.auc hp ho (amo its n j u) (r.set rv j) (by rw [List.length_set]; exact hz) s.toks
 by_cases h0:0<=k
 ·have hk:k.toNat=j:=by
   rw [seqIndex_of h0 h4] at h1
   exact Option.some.inj h1
  exact PySem.W.ki_setAt ho h0 (by omega) (by rw [List.size_toArray,<-hl]; exact h4) (by rw [hk]; exact ⟨_,I',q⟩)
 ·have hk:(k + (its.toArray.size:Int)).toNat=j:=by
   rw [seqIndex_neg (by omega) h3] at h1
   rw [List.size_toArray,<-hl]
   exact Option.some.inj h1
  exact PySem.W.ki_setBack ho (by omega) (by rw [List.size_toArray,<-hl]; exact h3) (by omega) (by rw [hk]; exact ⟨_,I',q⟩)
theorem ajo (lo hi:Option Int) (n:Nat):(sliceBounds lo hi none n).1=((HT.sIx n 0 lo:Nat):Int) /\ (sliceBounds lo hi none n).2.1=((HT.sIx n n hi:Nat):Int) /\ (sliceBounds lo hi none n).2.2=1:=by
 refine ⟨?_,?_,rfl⟩
 ·cases lo with
  | none=>simp [sliceBounds,HT.sIx]
  | some i =>
   simp only [sliceBounds,HT.sIx,Option.getD_none,show (1:Int) > 0 by decide,if_true]
   by_cases h:i<0
   ·simp only [h,if_true] <;> omega
   ·simp only [h,if_false] <;> omega
 ·cases hi with
  | none=>simp [sliceBounds,HT.sIx]
  | some i =>
   simp only [sliceBounds,HT.sIx,Option.getD_none,show (1:Int) > 0 by decide,if_true]
   by_cases h:i<0
   ·simp only [h,if_true] <;> omega
   ·simp only [h,if_false] <;> omega
theorem aiB (its:List Value) (lo hi:Option Int):slicePick its.toArray lo hi none=((its.drop (HT.sIx its.length 0 lo)).take (HT.sIx its.length its.length hi - HT.sIx its.length 0 lo)).toArray:=by
 obtain ⟨h1,h2,h3⟩:=ajo lo hi its.toArray.size
 unfold slicePick
 rw [h1,h2,h3]
 simp only [sliceRange_one,pick_run,List.size_toArray] <;> rfl
noncomputable def ayO (K:PySem.W.Frag):V->Option Int->Option Int->Hp->VK->Prop:=λx lo hi H Q=>∃ a xs,x = .ref a /\ SqL K H a xs /\ ∀ p,H p=none->Q (.ref p) (upd H p (.lst (aqM xs lo hi)))
theorem arE:SlR X (ayO X.K):=by
 intro pins s σ H x v vl vu lo hi sl Q I rx hs pl pu h
 obtain ⟨a,xs,rfl,hx,q⟩:=h
 cases rx
 obtain ⟨its,r,ht,hz⟩:=I.list hx
 have hlen:=r.length
 refine ⟨"list",_,slot_list_getitem.lookup,ht.isList.typeIs,?_⟩
 refine wpAny_getItem_list_slice ht.isList hs pl pu .none (by simp) ?_ (by rw [List.size_toArray] <;> omega)
 rw [aiB,<-hlen]
 refine ⟨.ref s.heap.objs.size,_,I.laid (t':=s.toks) (o := .lst (aqM xs lo hi)) (λb ob q=>Heap.get?_push_of_some _ q) (Nat.le_refl _) ?_,rfl,q _ (I.hok.fresh (Nat.le_refl _))⟩
 exact ⟨Nat.le_trans (ag5 xs lo hi) hz,_,0,(r.drop (HT.sIx xs.length 0 lo)).take (HT.sIx xs.length xs.length hi - HT.sIx xs.length 0 lo),Heap.get?_push_size _ rfl⟩
theorem ajp:adC X (.builtin "len") (λxs H Q=>∃ p ys,xs = [.ref p] /\ (SqL X.K H p ys \/ SqT X.K H p ys) /\ Q (.int ys.length) H):=by
 intro pins s σ H xs us Q I r h
 obtain ⟨p,ys,rfl,hq,q⟩:=h
 obtain ⟨u,rfl,rx⟩:=vals1 r
 cases rx
 have hn:=ag4
 rcases hq with hq | hq
 ·obtain ⟨its,r',pl,hz⟩:=I.list hq
  have hlen:=r'.length
  exact Calls.call_len_list pl.isList (by simp only [List.size_toArray] <;> omega) ⟨.int ys.length,H,I.tok _,⟨s.toks + 1,by rw [List.size_toArray,hlen]⟩,q⟩
 ·obtain ⟨its,r',pl,hz⟩:=I.tuple hq
  have hlen:=r'.length
  exact len_tuple pl (by simp only [List.size_toArray] <;> omega) ⟨.int ys.length,H,I.tok _,⟨s.toks + 1,by rw [List.size_toArray,hlen]⟩,q⟩
theorem ajq:adC X (.builtin "len") (λxs H Q=>∃ z,xs = [.str z] /\ z.length<=sizeLine /\ Q (.int z.length) H):=by
 intro pins s σ H xs us Q I r h
 obtain ⟨z,rfl,hz,q⟩:=h
 obtain ⟨u,rfl,t,rfl⟩:=vals1 r
 have hn:=ag4
 exact len_str (by omega) ⟨.int z.length,H,I.tok _,⟨_,rfl⟩,q⟩
theorem adC.or {f:Value} {r r':List V->Hp->VK->Prop} (h:adC X f r) (h':adC X f r'):adC X f (λxs H Q=>r xs H Q \/ r' xs H Q):=by
 intro pins s σ H xs us Q I rs q
 rcases q with q | q
 ·exact h pins s σ H xs us Q I rs q
 ·exact h' pins s σ H xs us Q I rs q
theorem ad7:adC X (.type "tuple") (λxs H Q=>∃ p ys,xs = [.ref p] /\ ((SqL X.K H p ys /\ ∀ l,H l=none->Q (.ref l) (upd H l (.tup ys))) \/ (SqT X.K H p ys /\ Q (.ref p) H))):=by
 intro pins s σ H xs us Q I r h
 obtain ⟨p,ys,rfl,h⟩:=h
 obtain ⟨u,rfl,rx⟩:=vals1 r
 cases rx
 rcases h with ⟨hq,q⟩ | ⟨hq,q⟩
 ·obtain ⟨its,r',pl,hz⟩:=I.list hq
  have hlen:=r'.length
  refine call_tuple_list pl.isList (λh' kp=>?_) (by simp only [List.size_toArray] <;> omega)
  have I1:Inv X pins σ H {s with heap:=h' }:=I.kept (t':=s.toks) kp
  have I2:Inv X pins σ (upd H h'.objs.size (.tup ys)) {s with heap:=h'.push {cls := .type "tuple",data := .seq its.toArray } } :=
   I1.laid (t':=s.toks) (λb o e=>Heap.get?_push_of_some _ e) (Nat.le_refl _) (show ae9 X.prog X.w _ _ _ (.tup ys) from ⟨hz,its,r',IsTup.new _ _⟩)
  exact ⟨.ref h'.objs.size,_,I2,rfl,q _ (I1.hok.fresh (Nat.le_refl _))⟩
 ·obtain ⟨its,r',pl,hz⟩:=I.tuple hq
  exact call_tuple_same pl ⟨.ref p,H,I,rfl,q⟩
noncomputable def tyV (K:PySem.W.Frag) (T:String) (x:V) (H:Hp):Prop:=match x with
 | .str _=>T = "str"
 | .int _=>T = "int"
 | .ref p=>(T = "list" ∧ ∃ xs,SqL K H p xs)∨(T = "tuple" ∧ ∃ o,K.lookup p=some o∧o.cls = .type "tuple" ∧ o.dict=none) ∨
   (T = "dict" ∧ ((∃ kvs,H p=some (.dK kvs))∨∃ kvs,H p=some (.dT kvs)))∨(T = "set" ∧ ∃ S n,H p=some (.set S n))
 | _=>False
theorem aue {pins:List (Addr × Obj)} {σ : St} {H:Hp} {s:Shared} {T:String} {x:V} {v:Value} (I:Inv X pins σ H s) (r:RelV x v) (ty:tyV X.K T x H) :
  s.TypeIs v T /\ ∀ a,v = .ref a->∃ ob,s.heap.get? a=some ob /\ ob.dict=none:=by
 cases x with
 | str z =>
  obtain ⟨t,rfl⟩:=r
  cases (show T = "str" from ty)
  exact ⟨typeIs_str s z t,λ_ e=>nomatch e⟩
 | int i =>
  obtain ⟨t,rfl⟩:=r
  cases (show T = "int" from ty)
  exact ⟨typeIs_int s i t,λ_ e=>nomatch e⟩
 | ref p =>
  cases r
  rcases ty with ⟨rfl,xs,hq⟩ | ⟨rfl,o,hk,hc,hd⟩ | ⟨rfl,hk⟩ | ⟨rfl,S,n,hk⟩
  ·obtain ⟨its,_,pl,_⟩:=I.list hq
   refine ⟨pl.isList.typeIs,λa e=>?_⟩
   cases e
   obtain ⟨o,n,e,c,hd,_⟩:=pl
   exact ⟨o,e,hd⟩
  ·refine ⟨⟨o,I.kIn p o hk,hc⟩,λa e=>?_⟩
   cases e
   exact ⟨o,I.kIn _ o hk,hd⟩
  ·have z:∃ o,s.heap.get? p=some o /\ o.ExactDict:=by
    rcases hk with ⟨kvs,hk⟩ | ⟨kvs,hk⟩
    ·obtain ⟨_,_,_,_,o,_,_,e,ex,_⟩:=I.hok p _ hk
     exact ⟨o,e,ex⟩
    ·obtain ⟨_,_,_,_,o,_,_,e,ex,_⟩:=I.hok p _ hk
     exact ⟨o,e,ex⟩
   obtain ⟨o,e,ex⟩:=z
   refine ⟨⟨o,e,ex.1⟩,λa e2=>?_⟩
   cases e2
   exact ⟨o,e,ex.2.1⟩
  ·obtain ⟨o,_,_,_,e,ex,_⟩:=I.hok p _ hk
   refine ⟨⟨o,e,ex.1⟩,λa e2=>?_⟩
   cases e2
   exact ⟨o,e,ex.2.1⟩
 | _=>exact False.elim ty
noncomputable def tBM (K:PySem.W.Frag) (T:String) (r:V->List V->Hp->VK->Prop) (to:TE) (t:TA):TE:=λσ H Q=>to σ H λx H1=>tyV K T x H1 /\ t σ H1 λxs H2=>r x xs H2 Q
variable {o e:Expr} {es:List Expr} {to:TE} {t:TA} {name:Str} {apos cpos:Pos} {T id:String} {r:V->List V->Hp->VK->Prop}
theorem apr (pa:PlainAttrs T) (slot:Slot T name id) (hty:typeOf (.builtin id)=pure (.type "method_descriptor")) (hm:MtR X id r) (ho:PE X o to) (ha:PA X (e :: es) t)
  (hbase:attributeBase o name X.env (eval o X.env)=eval o X.env:=by rfl)
  (hfew:((backTo cpos (starEach (e :: es) X.env)).all (λx => !x.1) && (backToKw cpos (keywordEach [] X.env)).all (λx=>x.1.isSome)
   && decide ((e :: es).length + ([]:List Keyword).length + (if ([]:List Keyword).isEmpty then 0 else 1)<30))=true:=by rfl)
  (hline:(apos.endLine == cpos.line)=true:=by rfl) (hs:starEach (e :: es) X.env=(false,eval e X.env) :: starEach es X.env:=by rfl) (hplain:(backTo cpos (starEach es X.env)).any (·.1)=false:=by rfl) :
  PE X (.Call (.Attribute o name apos) (e :: es) [] cpos) (tBM X.K T r to t):=by
 refine ⟨λpins s σ H Q I h=>?_⟩
 refine wpAny_Call_method_late hbase hfew hline rfl (thn (ho pins s σ H _ I h) λv s1 ⟨x,H1,I1,r1,ty,q1⟩=>?_)
 obtain ⟨h1,h2⟩:=aue I1 r1 ty
 refine ⟨T,id,pa,slot,hty,h1,h2,?_⟩
 have hA:=ha cpos pins s1 σ H1 _ I1 q1
 rw [hs] at hA ⊢
 refine Calls.callWith_builtin (by show (false || (backTo cpos (starEach es X.env)).any (·.1))=false; rw [hplain] <;> rfl) (Calls.evalArgs_plain ?_)
 exact thn hA λus s2 ⟨vs,H2,I2,r2,q2⟩=>hm pins s2 σ H2 x vs v us Q I2 r1 r2 q2
end
end L2
namespace L2
open PySem PySem.Spec PyProof.Rows
noncomputable def MtM (X:Cx) (id:String) (r:V->List V->Hp->VK->Prop):Prop :=
 ∀ (pins:List (Addr × Obj)) (s:Shared) (σ : St) (H:Hp) (x:V) (xs:List V) (v:Value) (us:List Value) (Q:VK),Inv X pins σ H s->RelV x v->Vals xs us->r x xs H Q ->
  wpAny (model X.prog X.w) X.A (call (.builtin id) (v :: us)) (EP X pins σ Q) X.xe s
theorem Vals.one:∀ {x:V} {us:List Value},Vals [x] us->∃ u,us = [u] /\ RelV x u
 | _,_,.cons r .nil=>⟨_,rfl,r⟩
theorem Vals.rep {xs:List V} {us:List Value} (h:Vals xs us):∀ k:Nat,Vals (List.replicate k xs).flatten (List.replicate k us).flatten
 | 0 => .nil
 | k + 1=>by
  rw [List.replicate_succ,List.replicate_succ,List.flatten_cons,List.flatten_cons]
  exact Vals.append h (Vals.rep h k)
theorem foldl_rep (its:List Value):∀ (k:Nat) (acc:List Value),
  List.foldl (λx1 x2=>x1 ++ x2) acc.toArray (List.replicate k its.toArray)=(acc ++ (List.replicate k its).flatten).toArray
 | 0,acc=>by simp
 | k + 1,acc=>by
  have e:acc.toArray ++ its.toArray=(acc ++ its).toArray:=by simp
  have e2:(acc ++ its) ++ (List.replicate k its).flatten=acc ++ (List.replicate (k + 1) its).flatten:=by
   rw [List.replicate_succ,List.flatten_cons,List.append_assoc]
  rw [<-e2,<-foldl_rep its k (acc ++ its),<-e,List.replicate_succ,List.foldl_cons]
section
variable {X:Cx} {pins:List (Addr × Obj)} {σ : St} {H:Hp} {s:Shared} {l b:Addr} {xs ys zs:List V}
theorem Inv.azp {its its':List Value} {n:Nat} {f:Array Value->Array Value} {t':Nat} (I:Inv X pins σ H s) (hH:H l=some (.lst xs))
  (e:s.heap.get? l=some {cls := .type "list",data := .seq its.toArray n }) (hf:f its.toArray=its'.toArray) (hv:Vals ys its') (hz:ys.length<=sizeLine) :
  Inv X pins σ (upd H l (.lst ys)) {s with heap:=s.heap.update l (Obj.mapSeq f),toks:=t' }:=by
 have q:=PySem.IsL.update e f
 rw [hf] at q
 refine I.write (x:=l) (e:=l) (by rw [hH]; exact trivial) (.inl rfl) (λb' u hb hu=>(Heap.get?_update_other s.heap (Obj.mapSeq f) (Ne.symm hb)).trans hu) ⟨_,q⟩ ?_
 exact ⟨hz,its',_,hv,q⟩
theorem Inv.awT {its:List Value} {t':Nat} (I:Inv X pins σ H s) (hv:Vals ys its) (hz:ys.length<=sizeLine) :
  Inv X pins σ (upd H s.heap.objs.size (.lst ys)) {s with heap:=s.heap.push {cls := .type "list",data := .seq its.toArray },toks:=t' } :=
 I.laid (λ_ _ q=>Heap.get?_push_of_some _ q) (Nat.le_refl _) ⟨hz,its,0,hv,Heap.get?_push_size _ rfl⟩
theorem Inv.fresh (I:Inv X pins σ H s):H s.heap.objs.size=none:=I.hok.fresh (Nat.le_refl _)
theorem Inv.azq (I:Inv X pins σ H s) (hH:H l=some (.lst xs)):xs.length<=sizeLine /\ ∃ (its:List Value) (n:Nat),Vals xs its /\ xs.length=its.length /\ s.heap.get? l=some {cls := .type "list",data := .seq its.toArray n }:=by
 obtain ⟨z,its,n,r,e⟩:=I.hok l _ hH
 exact ⟨z,its,n,r,r.length,e⟩
theorem aps {n:Nat} (h:n<=sizeLine):Builtin.List.listTooLong n=false:=by
 unfold Builtin.List.listTooLong
 exact decide_eq_false (by omega)
end
section
variable {X:Cx}
noncomputable def ako:V->List V->Hp->VK->Prop:=λx vs H Q=>∃ l xs y,x = .ref l /\ vs = [y] /\ H l=some (.lst xs) /\ xs.length<sizeLine /\ Q .non (upd H l (.lst (xs ++ [y])))
theorem aeA:MtM X "list.append" ako:=by
 intro pins s σ H x vs v us Q I rx rv h
 obtain ⟨l,xs,y,rfl,rfl,hH,hz,q⟩:=h
 cases rx
 obtain ⟨u,rfl,ru⟩:=rv.one
 obtain ⟨z,its,n,r,hl,e⟩:=I.azq hH
 refine call_meets F.slot_list_append ⟨_,e,rfl⟩ F.entry_list_append (F.args_list_append_2 _ _) (PySem.list_append l its.toArray n u (by rw [List.size_toArray]; omega)) ⟨e,?_⟩
 refine ⟨.non,_,I.azp (its':=its ++ [u]) hH e (by simp) (r.append (.cons ru .nil)) ?_,rfl,q⟩
 rw [List.length_append,List.length_singleton]
 omega
theorem len_rep {α : Type} (xs:List α) (k:Nat):(List.replicate k xs).flatten.length=k * xs.length:=by
 induction k with
 | zero=>simp
 | succ k ih=>rw [List.replicate_succ,List.flatten_cons,List.length_append,ih,Nat.succ_mul,Nat.add_comm]
end
section
variable {prog:Program} {w:World} {A:Around} {E:Value->Shared->Prop} {s:Shared}
end
section
variable {X:Cx}
end
end L2
namespace Att
open PySem PySem.W PySem.Calls PyProof.Rows
theorem ag6 {P:Params} {h:Heap}:∀ (ns:List Int) (vs:List Value),WellAll P h vs (ns.map WData.int)->IntsAre vs ns:=by
 intro ns
 induction ns with
 | nil =>
  intro vs w
  rw [List.map_nil] at w
  cases w
  exact .nil
 | cons n ns ih =>
  intro vs w
  rw [List.map_cons] at w
  cases w with
  | cons a b =>
   cases a
   exact .cons _ _ (ih _ b)
theorem anO {l:OpenLaw} {n:Nat} (hn:l.most=some n) {P:Params} {h:Heap} {args:List WData} {vals:List Value}
  (hpre:l.row.toRowW.claim.pre args=true) (hwl:WellAll P h vals args) :
  ∃ a vs ns,vals = [Value.ref a] /\ args = [WData.list (ns.map WData.int)] /\ h.get? a=some {cls := .type "list",data := .seq vs.toArray } /\ IntsAre vs ns /\ ns.length<=n:=by
 have hsh:WShape.hasAll [] args [.list .int]=true:=(pre_splitW hpre).1
 have hc:l.pre.holds [] {args:=args }=true:=(pre_splitW hpre).2
 obtain ⟨d,r,rfl,h1,h2⟩:=hasAllW_cons hsh
 obtain rfl:=hasAllW_nil h2
 obtain ⟨xs,rfl,h3⟩:=hasW_list h1
 obtain ⟨ns,rfl⟩:=items_int h3
 have hlen:ns.length<=n:=by
  unfold OpenLaw.pre at hc
  have h4:(WTm.not (.lt (.lit (.int (n:Int))) (.len (.arg 0)))).holds [] {args := [.list (ns.map .int)] }=true:=by
   have h4:=(holds_andW hc).1
   rw [hn] at h4
   exact h4
  have h5:=condW_of h4 (w_not (w_lt w_lit (w_len_list (w_arg rfl))))
  rw [List.length_map] at h5
  refine Nat.le_of_not_lt λq=>?_
  have q':(n:Int)<((ns.length:Nat):Int):=by omega
  first
   | (rw [decide_eq_true q'] at h5; exact absurd h5 (by decide))
   | (simp at h5; omega)
 cases hwl with
 | cons w1 w2 =>
  cases w2
  cases w1 with
  | list ho hall=>exact ⟨_,_,ns,rfl,rfl,ho,ag6 ns _ hall,hlen⟩
theorem anP (l:OpenLaw) (args:List WData):l.row.toRowW.claim.post args (.bool true) args=true :=
 postW_of (r:=l.row.toRowW) (X:=(true == true))
  (show WShape.has [] (.bool true) .bool=true by first | rfl | decide | simp [WShape.has,WShape.arms,WShape.armsAll])
  (show (WTm.eq .res (.lit (.bool true))).value [] {args:=args,res:=some (.bool true),after:=args }=some (.bool (true == true)) from w_eq_bool (w_res rfl) w_lit) rfl
theorem akp {l:OpenLaw} {n:Nat} {q:Program} {loose:List Str} {XP:(Str->Option Value)->Heap->Prop} {YP:World->Heap->Prop} {d:DefRec}
  (hn:l.most=some n) (hdf:d.params.defaults = [])
  (call:∀ (w:World) (s₀ s₁ : Shared) (mg mb:Str->Option Value) (fa:Addr) (o:Obj) (pm cd doc:Value) (a:Addr) (vs:List Value) (ns:List Int),
   Ground q loose [] XP w s₀ mg mb s₁.heap->YP w s₁.heap ->
   s₁.heap.get? fa=some o->o.data = .func (docDef d.name d.params d.body d.scope pm cd doc)->s₁.heap.CodeRec cd d.name->mg d.name=some (.ref fa) ->
   s₁.heap.get? a=some {cls := .type "list",data := .seq vs.toArray }->IntsAre vs ns->ns.length<=n->s₁.gens = #[] ->
   codeAny (model l.prog w) callerA (.call (.ref fa) ⟨[.ref a],[]⟩) (λr s'=>r = .ok (.ret (.bool true)) /\ OldK s₁.heap s'.heap /\ s'.os=s₁.os /\ AllBare s'.gens) s₁) :
  WalkO q loose XP YP l.row.toRowW d [] (λf vs=>PySem.call f vs):=by
 intro w s₀ s₁ mg mb G Y fa o pm cd doc dV kV ho hd hcd hD hmg hg args vals as hpre hlay hrd hwl hlo
 obtain rfl:dV = .none:=Dflts.none hD hdf
 obtain rfl:kV = .none:=Dflts.noKw hD
 obtain ⟨a,vs,ns,rfl,rfl,hobj,hints,hlen⟩:=anO hn hpre hwl
 refine enter_call (codeAny_mono (call w s₀ s₁ mg mb fa o pm cd doc a vs ns G Y ho (fd_plain hd) hcd hmg hobj hints hlen hg) λr s' hq=>?_)
 obtain ⟨rfl,h2,h3,h4⟩:=hq
 exact ⟨.inl ⟨.bool true,.bool true,[],rfl,λ_=>rfl,.bool true,anP l _,λ_=>⟨List.Pairwise.nil,λ_ hm=>(nomatch hm)⟩⟩,h2,h3,h4⟩
section
variable {prog:Program} {w:World} {A:Around} {E:Value->Shared->Prop} {s:Shared} {K:Frag}
end
end Att
namespace L2
open PySem PySem.Spec PyProof.Rows
theorem ajr:∀ {vs:List Value} {ns:List Int},IntsAre vs ns->Vals (ns.map V.int) vs
 | _,_,.nil => .nil
 | _,_,.cons n t h => .cons ⟨t,rfl⟩ (ajr h)
end L2
namespace L2
open PySem PySem.Spec PyProof.Rows
end L2
namespace L2
open PySem PySem.Spec PyProof.Rows
noncomputable def adl (s:Stmt):Arguments:=match s with
 | .FunctionDef _ a _ _ _ _ _ _ _ _=>a
 | _=>{posonlyargs := [],args := [],vararg:=none,kwonlyargs := [],kw_defaults := [],kwarg:=none,defaults := [] }
noncomputable def acf (s:Stmt):List Stmt:=match s with
 | .FunctionDef _ _ b _ _ _ _ _ _ _=>b
 | _ => []
noncomputable def aan (s:Stmt):Scope:=match s with
 | .FunctionDef _ _ _ _ _ _ sc _ _ _=>sc
 | _=>{kind := .function,names := [],isGenerator:=false,isCoroutine:=false }
noncomputable abbrev E0:XK:=λ_ _ _=>False
structure Fun (K:PySem.W.Frag) (x qual:Str) (st:Stmt) (f:Addr) (fd:FuncData):Prop where
 ex:∃ (oc:Value) (od:Option Addr) (kV doc pm:Value) (an:Option Addr) (cdv ct:Value) (osl:Array (Option Value)),
  fd=PySem.W.fnOf x qual (adl st) (acf st) (aan st) .none kV doc pm an cdv ct /\ K.lookup f=some ⟨oc,od,.func fd,osl⟩ /\ PySem.W.codeIn K cdv qual=true
 kp:PySem.W.keepIn K (.ref f)=true
section
variable {P:Program} {w:World} {K:PySem.W.Frag} {mg:Str->Option Value} {base:Heap}
theorem Fun.binds {x qual:Str} {st:Stmt} {f:Addr} {fd:FuncData} {ps:List Str} (F:Fun K x qual st f fd)
  (h:∀ (kV doc pm:Value) (an:Option Addr) (cdv ct:Value) (us:List Value),us.length=ps.length->bindArgs (PySem.W.fnOf x qual (adl st) (acf st) (aan st) .none kV doc pm an cdv ct) ⟨us,[]⟩=pure (ps.zip us)):Binds K fd ps []:=by
 obtain ⟨oc,od,kV,doc,pm,an,cdv,ct,osl,rfl,lk,hcd⟩:=F.ex
 exact .all (h kV doc pm an cdv ct)
theorem aqN {x qual:Str} {st:Stmt} {f:Addr} {oc:Value} {od an:Option Addr} {osl:Array (Option Value)} {kV doc pm cdv ct:Value} (l:K.lookup f=some ⟨oc,od,.func (PySem.W.fnOf x qual (adl st) (acf st) (aan st) .none kV doc pm an cdv ct),osl⟩)
  (c:PySem.W.codeIn K cdv qual=true) (k:PySem.W.keepIn K (.ref f)=true):Fun K x qual st f (PySem.W.fnOf x qual (adl st) (acf st) (aan st) .none kV doc pm an cdv ct):=⟨⟨oc,od,kV,doc,pm,an,cdv,ct,osl,rfl,l,c⟩,k⟩
end
theorem ag7 {n:Nat} (h:n<=1000):n<sizeLine:=Nat.lt_of_le_of_lt h (by decide)
section
variable {X:Cx}
end
noncomputable def Same (H H':Hp):Prop:=∀ b o,H b=some o->H' b=some o
theorem Same.refl (H:Hp):Same H H:=λ_ _ h=>h
theorem Same.trans {H H1 H2:Hp} (a:Same H H1) (b:Same H1 H2):Same H H2:=λc o h=>b c o (a c o h)
theorem Same.free {H H':Hp} (e:Same H H') {l:Addr} (h:H' l=Option.none):H l=Option.none:=by
 cases q:H l with
 | none=>rfl
 | some o =>
  rw [e l o q] at h
  cases h
theorem Same.seq {K:PySem.W.Frag} {H H':Hp} {a:Addr} {xs:List V} (e:Same H H') (h:SqL K H a xs):SqL K H' a xs:=by
 rcases h with (h | ⟨o,h⟩) | h
 ·exact .inl (.inl (e _ _ h))
 ·exact .inl (.inr ⟨o,e _ _ h⟩)
 ·exact .inr h
end L2
end
section
namespace L2
open PySem PySem.Spec PyProof.Rows
section
variable {prog:Program} {w:World} {A:Around} {R:Result->Shared->Prop} {s:Shared}
theorem akq {elt target iter:Expr} {scope:Scope} {pos:Pos} {it acc:Value} {env:Env} (I:Nat->Shared->Prop)
  (turn:∀ n s,I n s->wpAny (model prog w) A (pyNext it) (λr s₁ => match r with
   | none=>R (.ok .next) s₁
   | some v=>wpAny (model prog w) A (letOwnedTupleGo target it v) (λ_ s₁'=>wpAny (model prog w) A (assign target env v) (λ_ s₂ => wpAny (model prog w) A (eval elt env) (λx s₃ =>
     wpAny (model prog w) A (call (.builtin "list.append") [acc,x]) (λ_ s₄ => ∃ m,m<n /\ I m s₄) (λ_ _=>False) s₃) (λ_ _=>False) s₂) (λ_ _=>False) s₁') (λ_ _=>False) s₁) (λ_ _=>False) s)
  (n:Nat) (h:I n s) :
  codeAny (model prog w) A (.compLoop (.ListComp elt [⟨target,iter,[],0⟩] scope pos) 0 it acc env) R s:=by
 refine codeAny_loop rfl I (λn s hI=>?_) n h
 show wpAny _ _ ((compTurn (.ListComp elt [⟨target,iter,[],0⟩] scope pos) 0 it acc env).onRaise (λx=>do noteFrame x env; theTreesLotGoes x)) _ _ s
 refine wpAny_noted (wpAny_noRaise ?_)
 rw [compTurn_list1]
 refine wpAny_bind (wpAny_standAt (wpAny_bind (wpAny_mono (turn n s hI) (λr s₁ h₁ => ?_) λ_ _ h'=>h')))
 cases r with
 | none=>exact wpAny_pure h₁
 | some v =>
  refine wpAny_bind (wpAny_mono h₁ (λ_ s₁' h₁'=>?_) λ_ _ h'=>h')
  exact wpAny_bind (wpAny_mono h₁' (λ_ s₂ h₂ => wpAny_bind (wpAny_bind (wpAny_mono h₂ (λx s₃ h₃ => wpAny_bind (wpAny_mono h₃
   (λ_ s₄ h₄ => wpAny_pure (wpAny_pure ⟨rfl,h₄⟩)) λ_ _ h'=>h')) λ_ _ h'=>h'))) λ_ _ h'=>h')
end
noncomputable def aaH (cells:List (Str × Addr)):List (Str × NameKind)->List (Str × Addr)->List (Str × Addr)
 | [],acc=>acc
 | (n,k) :: r,acc=>if k = .free then (match cells.lookup n with | some a=>aaH cells r ((n,a) :: acc) | none=>aaH cells r acc) else aaH cells r acc
theorem abW {cells:List (Str × Addr)} {x:Str} {c:Addr}:∀ {names:List (Str × NameKind)} {acc:List (Str × Addr)},(aaH cells names acc).lookup x=some c->acc.lookup x=some c \/ cells.lookup x=some c
 | [],acc,h => .inl h
 | (n,k) :: r,acc,h=>by
  unfold aaH at h
  split at h
  ·split at h
   ·rename_i a ha
    rcases abW h with q | q
    ·by_cases e:x=n
     ·subst e
      rw [List.lookup_cons,beq_self_eq_true] at q
      cases q
      exact .inr ha
     ·rw [List.lookup_cons,beq_false_of_ne e] at q
      exact .inl q
    ·exact .inr q
   ·exact abW h
  ·exact abW h
theorem abI {cells:List (Str × Addr)} {x:Str}:∀ {names:List (Str × NameKind)} {acc:List (Str × Addr)},((acc.lookup x).isSome=true \/ ((x,NameKind.free) ∈ names /\ (cells.lookup x).isSome=true))->((aaH cells names acc).lookup x).isSome=true
 | [],acc,h=>by
  rcases h with h | ⟨h,_⟩
  ·exact h
  ·cases h
 | (n,k) :: r,acc,h=>by
  have up:∀ a,(acc.lookup x).isSome=true->(List.lookup x ((n,a) :: acc)).isSome=true:=λa q=>by
   rw [List.lookup_cons]
   split
   ·rfl
   ·exact q
  unfold aaH
  split
  ·rename_i hk
   split
   ·rename_i a ha
    refine abI ?_
    rcases h with h | ⟨h,hc⟩
    ·exact .inl (up a h)
    ·rcases List.mem_cons.mp h with e | e
     ·cases e
      refine .inl ?_
      rw [List.lookup_cons,beq_self_eq_true]
      rfl
     ·exact .inr ⟨e,hc⟩
   ·rename_i hn
    refine abI ?_
    rcases h with h | ⟨h,hc⟩
    ·exact .inl h
    ·rcases List.mem_cons.mp h with e | e
     ·cases e
      rw [hn] at hc; cases hc
     ·exact .inr ⟨e,hc⟩
  ·rename_i hk
   refine abI ?_
   rcases h with h | ⟨h,hc⟩
   ·exact .inl h
   ·rcases List.mem_cons.mp h with e | e
    ·cases e; exact absurd rfl hk
    ·exact .inr ⟨e,hc⟩
theorem afV {scope:Scope} {env:Env} (h:∀ y ∈ scope.names,y.2 = .free->(env.cells.lookup y.1).isSome=true):closureFor scope env=pure (aaH env.cells scope.names []):=by
 unfold closureFor
 suffices q:∀ (names:List (Str × NameKind)) (acc:List (Str × Addr)),(∀ y ∈ names,y.2 = .free->(env.cells.lookup y.1).isSome=true) ->
   (forIn names acc λx r=>do
    match x with
    | (name,kind)=>if (kind == NameKind.free)=true then do let a <-cellOf env name; pure (ForInStep.yield ((name,a) :: r)) else pure (ForInStep.yield r):Sem _)=pure (aaH env.cells names acc) by
  have z:=q scope.names [] h
  exact (congrArg (λm=>m >>= λcs=>pure cs) z)
 intro names
 induction names with
 | nil=>intro acc _; rfl
 | cons y r ih =>
  intro acc hy
  obtain ⟨n,k⟩:=y
  rw [List.forIn_cons]
  unfold aaH
  by_cases hk:k = .free
  ·subst hk
   rw [if_pos rfl]
   have q:=hy (n,.free) List.mem_cons_self rfl
   cases e:env.cells.lookup n with
   | none=>rw [e] at q; cases q
   | some a =>
    have ec:cellOf env n=pure a:=by unfold cellOf; rw [e]
    simp only [ec]
    exact ih _ λz hz=>hy z (List.mem_cons_of_mem _ hz)
  ·rw [if_neg hk]
   have hb:(k == NameKind.free)=false:=by simpa using hk
   simp only [hb]
   exact ih _ λz hz=>hy z (List.mem_cons_of_mem _ hz)
theorem adn {env:Env}:∀ {names:List (Str × NameKind)} {x:Str},names.lookup x=some .free ->
  (names.map λ(n,k)=>if (k == NameKind.free && env.scope.kind == .function && env.kindOf n == some .cell) then (n,NameKind.cell) else (n,k)).lookup x=some .cell \/
  (names.map λ(n,k)=>if (k == NameKind.free && env.scope.kind == .function && env.kindOf n == some .cell) then (n,NameKind.cell) else (n,k)).lookup x=some .free
 | [],_,h=>by simp at h
 | (n,k) :: r,x,h=>by
  have ih:=@adn env r x
  rw [List.map_cons]
  dsimp only
  cases hx:x == n with
  | true =>
   simp only [List.lookup_cons,hx] at h
   cases h
   by_cases hc:(NameKind.free == NameKind.free && env.scope.kind == .function && env.kindOf n == some .cell)=true
   ·rw [if_pos hc]; simp [List.lookup_cons,hx]
   ·rw [if_neg hc]; simp [List.lookup_cons,hx]
  | false =>
   simp only [List.lookup_cons,hx] at h
   by_cases hc:(k == NameKind.free && env.scope.kind == .function && env.kindOf n == some .cell)=true
   ·rw [if_pos hc]; simp only [List.lookup_cons,hx]; exact ih h
   ·rw [if_neg hc]; simp only [List.lookup_cons,hx]; exact ih h
theorem ago {env:Env}:∀ {names:List (Str × NameKind)} {x:Str},
  ((names.map λ(n,k)=>if (k == NameKind.free && env.scope.kind == .function && env.kindOf n == some .cell) then (n,NameKind.cell) else (n,k)).lookup x=some .cell \/
  (names.map λ(n,k)=>if (k == NameKind.free && env.scope.kind == .function && env.kindOf n == some .cell) then (n,NameKind.cell) else (n,k)).lookup x=some .free)->names.lookup x=some .cell \/ names.lookup x=some .free
 | [],_,h=>by simp at h
 | (n,k) :: r,x,h=>by
  have ih:=@ago env r x
  rw [List.map_cons] at h
  dsimp only at h
  cases hx:x == n with
  | true =>
   by_cases hcc:(k == NameKind.free && env.scope.kind == .function && env.kindOf n == some .cell)=true
   ·have hk:k = .free:=by
     simp only [Bool.and_eq_true,beq_iff_eq] at hcc
     exact hcc.1.1
    subst hk
    exact .inr (by simp only [List.lookup_cons,hx])
   ·rw [if_neg hcc] at h
    simp only [List.lookup_cons,hx] at h ⊢
    exact h
  | false =>
   have q:=ih (by
    by_cases hcc:(k == NameKind.free && env.scope.kind == .function && env.kindOf n == some .cell)=true
    ·rw [if_pos hcc] at h; simp only [List.lookup_cons,hx] at h; exact h
    ·rw [if_neg hcc] at h; simp only [List.lookup_cons,hx] at h; exact h)
   simp only [List.lookup_cons,hx]
   exact q
theorem abB:∀ (names:List (Str × NameKind)) (n:Nat) (acc:List (Str × Addr)),cellsFrom n names acc=cellsFrom n names [] ++ acc
 | [],_,_=>rfl
 | (x,k) :: r,n,acc=>by
  unfold cellsFrom
  split
  ·rw [abB r (n + 1) ((x,n) :: acc),abB r (n + 1) [(x,n)],List.append_assoc]
   rfl
  ·exact abB r n acc
theorem adP:∀ (names:List (Str × NameKind)) (n:Nat) {x:Str} {c:Addr},(x,c) ∈ cellsFrom n names []->(x,NameKind.cell) ∈ names
 | [],_,_,_,h=>by cases h
 | (y,k) :: r,n,x,c,h=>by
  unfold cellsFrom at h
  split at h
  ·rename_i hk
   have hk:k = .cell:=by simpa using hk
   rw [abB] at h
   rcases List.mem_append.mp h with z | z
   ·exact List.mem_cons_of_mem _ (adP r _ z)
   ·have z:=List.mem_singleton.mp z
    cases z
    rw [hk]
    exact List.mem_cons_self
  ·exact List.mem_cons_of_mem _ (adP r _ h)
theorem adV (x:Str):∀ (a b:List (Str × Addr)),(a ++ b).lookup x=(match a.lookup x with | some c=>some c | none=>b.lookup x)
 | [],_=>rfl
 | (y,c) :: r,b=>by
  have ih:=adV x r b
  rw [List.cons_append,List.lookup_cons,List.lookup_cons]
  cases h:x == y with
  | true=>rfl
  | false=>exact ih
theorem agx {M:Model} {A:Around} {E:Value->Shared->Prop} {s:Shared} {scope:Scope} {globals:Addr} {cl:List (Str × Addr)} {qual:Str} {env:Env} {Q:Env->Shared->Prop}
  (hQ:∀ h',h'.Ns s.heap.objs.size (λ_=>none)->(∀ b o,s.heap.get? b=some o->h'.get? b=some o)->CellsOk h' (s.heap.objs.size + 1) (cellsFrom (s.heap.objs.size + 1) scope.names []) ->
   Q {scope:=scope,locals:=s.heap.objs.size,globals:=globals,cells:=cellsFrom (s.heap.objs.size + 1) scope.names cl,qual:=qual,func:=none,code:=env.code,frame:=env.frame,builtins:=env.builtins } {s with heap:=h',toks:=s.toks + ([]:List (Str × Value)).length }) :
  wpAny M A (newFunctionEnv scope globals cl [] qual none .none (some env)) Q E s:=by
 simp only [newFunctionEnv,Option.isSome_some,if_true]
 refine wpAny_bind (wpAny_alloc ?_)
 refine wpAny_bind (wpAny_layCells _ (λname kind cells=>by cases hkc:kind == NameKind.cell <;> simp [hkc]) _ _ _ _ ?_)
 have ok:=cellsFrom_ok scope.names (s.heap.push {cls := .type "dict",data := .dict #[] }) (s.heap.objs.size + 1) [] ⟨λ_ _ hm=>(nomatch hm),List.Pairwise.nil⟩ (by rw [Heap.size_push]; exact Nat.le_refl _)
 rw [Heap.size_push] at ok
 rw [show ({s with heap:=s.heap.push {cls := .type "dict",data := .dict #[] } }:Shared).heap.objs.size=s.heap.objs.size + 1 from Heap.size_push ..]
 rw [List.forIn_nil]
 exact wpAny_bind (wpAny_pure (wpAny_pure (hQ _ ((Heap.Ns.new s.heap (.type "dict")).keeps (pushCells_keeps _ _)) (λb o e=>pushCells_keeps _ _ b o (Heap.get?_push_of_some _ e)) ok)))
structure ajs (sc:Scope) (No N:List Str) (src:List (Option Nat)) (scope:Scope):Prop where
 kind:scope.kind = .function
 cells:∀ y ∈ scope.names,y.2 = .cell->scope.names.lookup y.1=some .cell
 names:∀ y ∈ scope.names,y.2 = .local->scope.names.lookup y.1=some .local
 free:∀ y ∈ scope.names,y.2 = .free->sc.names.lookup y.1=some .cell \/ sc.names.lookup y.1=some .free
 len:src.length=N.length
 up:∀ p ∈ N.zip src,∀ j ∈ p.2,No[j]? = some p.1 /\ scope.names.lookup p.1=some .free
noncomputable def agy (src:List (Option Nat)) (σ : St):St:=src.map λo=>o.bind λj=>(σ[j]?).join
noncomputable def adW (X:Cx) (N:List Str) (scope:Scope) (C:Addr) (s:Shared) (H:Hp) (ex:List Addr):Cx where
 prog:=X.prog
 w:=X.w
 K:=X.K
 mg:=X.mg
 base:=X.base
 A:=X.A
 N:=N
 s₀ := s
 H₀ := H
 env:=compEnvC scope (cellsFrom (C + 1) scope.names (aaH X.env.cells scope.names [])) C X.env
 outer:=X.stack
 stack:=X.stack
 ex:=ex
 fn:=λx=>scope.names.lookup x == some .cell
 calm:=X.calm
 pn := []
 xe:=λ_ _=>False
noncomputable def QAt (Q:VK) (D:Addr) (H:Hp):Prop:=Q (.ref D) H
noncomputable def amq (wi:TI) (g:TG) (src:List (Option Nat)) (te:TE):TE:=λσ H Q=>wi σ H λJ H1=>∀ D,H1 D=none ->
 ∃ W:Nat->Nat->St->Hp->Prop,(∃ m,W 0 m (agy src σ) (upd H1 D (.lst []))) /\ ∀ i m σ' H',W i m σ' H' ->
  (J.stop i H' /\ QAt Q D H') \/ (J.go i H' /\ ∀ x H'',J.yld i H' x H''->g x σ' H'' λσ2 H2=>te σ2 H2 λv H3=>∃ xs,H3 D=some (.lst xs) /\ xs.length<sizeLine /\ ∃ m',m'<m /\ W (i + 1) m' σ2 (upd H3 D (.lst (xs ++ [v]))))
section
variable {X:Cx} {elt tg iter:Expr} {scope sc:Scope} {pos:Pos} {No N:List Str} {src:List (Option Nat)} {wi:TI} {g:TG} {te:TE}
theorem amr {pins:List (Addr × Obj)} {σ : St} {H:Hp} {s:Shared} {h₁ : Heap} {fp:List Addr} {tk:Nat} (hsc:X.env.scope=sc) (hNo:X.N=No) (S:ajs sc No N src scope) (I:Inv X pins σ H s)
  (hf:∀ b ∈ fp,afr X pins H b) (hlt:∀ b ∈ fp,b<s.heap.objs.size)
  (hns:h₁.Ns s.heap.objs.size (λ_=>none)) (old:∀ b o,s.heap.get? b=some o->h₁.get? b=some o) (ck:CellsOk h₁ (s.heap.objs.size + 1) (cellsFrom (s.heap.objs.size + 1) scope.names [])) :
  Inv (adW X N scope s.heap.objs.size s H fp) [] (agy src σ) H {s with heap:=h₁,toks:=tk }:=by
 subst hsc
 subst hNo
 have afW:∀ x c,(cellsFrom (s.heap.objs.size + 1) scope.names (aaH X.env.cells scope.names [])).lookup x=some c->(cellsFrom (s.heap.objs.size + 1) scope.names []).lookup x=some c \/ X.env.cells.lookup x=some c:=λx c h=>by
  rw [abB,adV] at h
  split at h
  ·rename_i e
   exact .inl (e.trans h)
  ·rcases abW h with q | q
   ·simp at q
   ·exact .inr q
 have big:∀ x c,(cellsFrom (s.heap.objs.size + 1) scope.names []).lookup x=some c->s.heap.objs.size + 1<=c:=λx c h=>(ck.empty x c (PySem.mem_of_lookup h)).2
 have ltc:∀ x c,X.env.cells.lookup x=some c->c<s.heap.objs.size:=λx c e=>by
  obtain ⟨v,q⟩:=I.cell x c e
  exact q.lt
 have aCJ:∀ b ∈ frs X.stack,b<s.heap.objs.size:=λb hb=>by
  obtain ⟨_,o,ho,_⟩:=I.stack.mem hb
  exact Heap.lt_size ho
 refine ⟨⟨I.ok.mod,S.kind,I.ok.glob,I.ok.blt,Nat.le_refl _,λx y c h1 h2=>?_,λx hx=>?_,λx c hfn h=>?_,I.ok.hd,I.ok.frames,.inl rfl,λb hb=>⟨Nat.ne_of_lt (hlt b hb),λx c e=>?_⟩,
   I.bs,Nat.le_trans I.ok.bsz I.sz,λb o e hb=>?_,λb hb hb'=>?_,I.stack,I.afS⟩,
  rfl,I.bare,Un.kept old,⟨_,hns,λi x v h1 h2 h3=>?_⟩,λx c e=>?_,I.hok.fresh (Nat.le_refl _),λx c e=>?_,λp hp=>absurd (show p ∈ ([]:List (Addr × Obj)) from hp) (by simp),I.hok.kept old,?_⟩
 ·rcases afW _ _ h1 with z1 | z1
  ·rcases afW _ _ h2 with z2 | z2
   ·exact name_of_addr ck.apart (PySem.mem_of_lookup z1) (PySem.mem_of_lookup z2)
   ·exact absurd (Nat.le_trans (big _ _ z1) (Nat.le_of_lt (ltc _ _ z2))) (Nat.not_succ_le_self _)
  ·rcases afW _ _ h2 with z2 | z2
   ·exact absurd (Nat.le_trans (big _ _ z2) (Nat.le_of_lt (ltc _ _ z1))) (Nat.not_succ_le_self _)
   ·exact I.ok.inj x y c z1 z2
 ·-- every cell or free name has its cell
  rcases ago hx with m | m
  ·exact Option.isSome_iff_exists.mp (PySem.W.cellsFrom_some _ _ _ (.inl m))
  ·have m:=PySem.mem_of_lookup m
   have q:=abI (cells:=X.env.cells) (acc := []) (.inr ⟨m,by
    obtain ⟨c,e⟩:=I.ok.has x (S.free _ m rfl)
    rw [e]; rfl⟩)
   exact Option.isSome_iff_exists.mp (PySem.W.cellsFrom_some _ _ _ (.inr q))
 ·have hfn:scope.names.lookup x=some .cell:=by
   have z:(scope.names.lookup x == some .cell)=true:=hfn
   simpa using z
  obtain ⟨c',e'⟩:=Option.isSome_iff_exists.mp (PySem.W.cellsFrom_some _ (s.heap.objs.size + 1) [] (.inl hfn))
  have h:(cellsFrom (s.heap.objs.size + 1) scope.names (aaH X.env.cells scope.names [])).lookup x=some c:=h
  rw [abB,adV,e'] at h
  cases h
  exact Nat.le_of_succ_le (big _ _ e')
 ·rcases afW _ _ e with z | z
  ·exact λy=>absurd (Nat.le_trans (big _ _ z) (y ▸ Nat.le_of_lt (hlt b hb))) (Nat.not_succ_le_self _)
  ·exact (hf b hb).2.2.2.2.1 x c z
 ·obtain ⟨f0,f1,f2,f3,f4,f5⟩:=hf b hb
  rcases f3 with z | z
  ·exact I.ok.akl b o e z
  ·have q:=Heap.lt_size (I.ok.bs b o e).1
   exact absurd q (Nat.not_lt.mpr z)
 ·obtain ⟨f0,f1,f2,_⟩:=hf b hb
  rcases List.mem_cons.mp (I.alz b hb') with z | z
  ·exact f1 z
  ·exact f2 z
 ·have hi:i<src.length:=by
   unfold agy at h2
   have:=(List.getElem?_eq_some_iff.mp h2).1
   simpa using this
  have h2':((src[i]).bind λj=>(σ[j]?).join)=some v:=by
   unfold agy at h2
   rw [List.getElem?_map,List.getElem?_eq_getElem hi] at h2
   exact Option.some.inj h2
  cases es:src[i] with
  | none=>rw [es] at h2'; cases h2'
  | some j =>
   rw [es] at h2'
   have hj : σ[j]? = some (some v):=by
    have z:(σ[j]?).join=some v:=h2'
    cases q : σ[j]? with
    | none=>rw [q] at z; cases z
    | some o=>rw [q] at z; have z':o=some v:=z; rw [z']
   have hz:(x,some j) ∈ N.zip src:=by
    refine List.mem_of_getElem? (i:=i) ?_
    rw [List.getElem?_zip_eq_some]
    exact ⟨h1,by rw [List.getElem?_eq_getElem hi,es]⟩
   obtain ⟨u1,u2⟩:=S.up _ hz j rfl
   have m:(x,NameKind.free) ∈ scope.names:=PySem.mem_of_lookup u2
   have kx:=S.free _ m rfl
   obtain ⟨m0,hn0,hl0⟩:=id I.loc
   obtain ⟨u,r,lk⟩:=hl0 j x v u1 hj (kx.elim (λz => .inr (.inl z)) λz => .inr (.inr z))
   refine ⟨u,r,?_⟩
   rcases lk with ⟨k,_⟩ | ⟨_,c,e,ic⟩
   ·have k':X.env.scope.names.lookup x=some .local:=k
    rcases kx with z | z
    ·rw [z] at k'; cases k'
    ·rw [z] at k'; cases k'
   ·refine .inr ⟨adn u2,c,?_,?_⟩
    ·have q:=abI (cells:=X.env.cells) (acc := []) (.inr ⟨m,by rw [e]; rfl⟩)
     obtain ⟨c',e'⟩:=Option.isSome_iff_exists.mp q
     have e2:X.env.cells.lookup x=some c':=by
      rcases abW e' with q | q
      ·simp at q
      ·exact q
     rw [e] at e2; cases e2
     show (cellsFrom (s.heap.objs.size + 1) scope.names (aaH X.env.cells scope.names [])).lookup x=some c
     rw [abB,adV]
     split
     ·rename_i c2 z
      have y:=S.cells _ (adP _ _ (PySem.mem_of_lookup z)) rfl
      rw [u2] at y; cases y
     ·exact e'
    ·obtain ⟨o,ho,hd⟩:=ic
     exact ⟨o,old _ _ ho,hd⟩
 ·rcases afW _ _ e with z | z
  ·exact ⟨_,(ck.empty x c (PySem.mem_of_lookup z)).1⟩
  ·obtain ⟨v,o,ho,hd⟩:=I.cell x c z
   exact ⟨v,o,old _ _ ho,hd⟩
 ·rcases afW _ _ e with z | z
  ·exact I.hok.fresh (Nat.le_of_succ_le (big _ _ z))
  ·exact I.afo x c z
 ·unfold agy
  rw [List.length_map]
  exact S.len
theorem alI {pins:List (Addr × Obj)} {σ : St} {H:Hp} {s:Shared} {Q:VK} {RR:Value->Addr->Result->Shared->Prop} (hsc:X.env.scope=sc) (hNo:X.N=No) (S:ajs sc No N src scope) (hc:X.calm=true)
  (hi:PI X tg iter wi) (hg:∀ C s H ex,PG (adW X N scope C s H ex) tg g) (he:∀ C s H ex,PE (adW X N scope C s H ex) elt te) (I:Inv X pins σ H s) (h:amq wi g src te σ H Q)
  (hRR:∀ D C H' s' m,Inv X pins σ H' s'->H' C=none->C ≠ X.env.locals->X.s₀.heap.objs.size<=C->(∀ x c,X.env.cells.lookup x=some c->c ≠ C)->(∀ p ∈ X.pn ++ pins,p.1 ≠ C)->s'.heap.Ns C m->Q (.ref D) H'->RR (.ref D) C (.ok .next) s') :
  wpAny (model X.prog X.w) X.A (eval iter X.env) (λx s₁ => wpAny (model X.prog X.w) X.A (pyIter x) (λit s₂ => wpAny (model X.prog X.w) X.A (newList []) (λacc s₃ =>
   wpAny (model X.prog X.w) X.A (newFunctionEnv scope X.env.globals (aaH X.env.cells scope.names []) [] X.env.qual none .none (some X.env)) (λcenv s₄ =>
    codeAny (model X.prog X.w) X.A (.compStart (.ListComp elt [⟨tg,iter,[],0⟩] scope pos) 0 it acc {cenv with scope:=relabel scope X.env }) (RR acc cenv.locals) s₄) X.xe s₃) X.xe s₂) X.xe s₁) X.xe s:=by
 refine thn (hi pins s σ H _ I h) λv s1 h1=>thn h1 λitv s2 h2=>?_
 obtain ⟨it,fp,tn,J,H2,e,I2,T,st2,f2,hW⟩:=h2
 subst e
 have hD0:H2 s2.heap.objs.size=none:=I2.hok.fresh (Nat.le_refl _)
 obtain ⟨W,⟨m0,w0⟩,turn⟩:=hW s2.heap.objs.size hD0
 have ayP:∀ b ∈ fp,b<s2.heap.objs.size:=λb hb=>by
  obtain ⟨o,e,_⟩:=T.obj 0 _ st2 b hb
  exact Heap.lt_size e
 refine wpAny_newObj_type ?_
 have I3:Inv X pins σ (upd H2 s2.heap.objs.size (.lst [])) {s2 with heap:=s2.heap.push {cls := .type "list",dict:=none,data := .seq ([]:List Value).toArray } }:=I2.awT (t':=s2.toks) (ys := []) .nil (Nat.zero_le _)
 have f3:∀ b ∈ fp,afr X pins (upd H2 s2.heap.objs.size (.lst [])) b:=λb hb=>by
  obtain ⟨q,r⟩:=f2 b hb
  exact ⟨by rw [aaF (Nat.ne_of_lt (ayP b hb))]; exact q,r⟩
 have st3:tn 0 (s2.heap.push {cls := .type "list",dict:=none,data := .seq ([]:List Value).toArray }):=T.keep _ _ _ st2 λb hb o e=>Heap.get?_push_of_some _ e
 have lt3:∀ b ∈ fp,b<(s2.heap.push {cls := .type "list",dict:=none,data := .seq ([]:List Value).toArray }).objs.size:=λb hb=>by
  rw [Heap.size_push]; exact Nat.lt_succ_of_lt (ayP b hb)
 generalize hD:s2.heap.objs.size=D at *
 generalize hh3:s2.heap.push {cls := .type "list",dict:=none,data := .seq ([]:List Value).toArray }=h3 at *
 generalize hH3:upd H2 D (.lst [])=H3 at *
 refine agx λh₁ hns old ck=>?_
 dsimp only at hns old ck ⊢
 have I4:Inv (adW X N scope h3.objs.size {s2 with heap:=h3 } H3 fp) [] (agy src σ) H3 {s2 with heap:=h₁,toks:=s2.toks + ([]:List (Str × Value)).length }:=amr (s:={s2 with heap:=h3 }) hsc hNo S I3 f3 lt3 hns old ck
 have st4:tn 0 h₁ := T.keep _ _ _ st3 λb hb o e=>old b o e
 have loop:codeAny (model X.prog X.w) X.A (.compLoop (.ListComp elt [⟨tg,iter,[],0⟩] scope pos) 0 (.ref it) (.ref D) (compEnvC scope (cellsFrom (h3.objs.size + 1) scope.names (aaH X.env.cells scope.names [])) h3.objs.size X.env)) (RR (.ref D) h3.objs.size) {s2 with heap:=h₁,toks:=s2.toks + ([]:List (Str × Value)).length }:=by
  have stat:∀ {H':Hp},(∀ b ∈ fp,H' b=none)->∀ b ∈ fp,afr (adW X N scope h3.objs.size {s2 with heap:=h3 } H3 fp) [] H' b:=λhn b hb=>by
   obtain ⟨g0,g1,g2,g3,g4,g5⟩:=f3 b hb
   refine ⟨hn b hb,Nat.ne_of_lt (lt3 b hb),λz=>?_,.inl hb,λx c e=>?_,λp hp=>absurd (show p ∈ ([]:List (Addr × Obj)) from hp) (by simp)⟩
   ·rcases List.mem_cons.mp (I3.alz b z) with z | z
    ·exact g1 z
    ·exact g2 z
   ·have e:(cellsFrom (h3.objs.size + 1) scope.names (aaH X.env.cells scope.names [])).lookup x=some c:=e
    rw [abB,adV] at e
    split at e
    ·rename_i z
     cases e
     exact λy=>absurd (Nat.le_trans (ck.empty x c (PySem.mem_of_lookup z)).2 (y ▸ Nat.le_of_lt (lt3 b hb))) (Nat.not_succ_le_self _)
    ·rcases abW e with q | q
     ·simp at q
     ·exact g4 x c q
  refine akq (λn s'=>∃ i σ' H',Inv (adW X N scope h3.objs.size {s2 with heap:=h3 } H3 fp) [] σ' H' s' /\ tn i s'.heap /\ (∀ b ∈ fp,H' b=none) /\ W i n σ' H') ?_ m0 ⟨0,agy src σ,H3,I4,st4,λb hb=>(f3 b hb).1,w0⟩
  rintro n s5 ⟨i,σ5,H5,I5,st5,fr5,w5⟩
  rcases turn i n σ5 H5 w5 with ⟨stop,qn⟩ | ⟨go,step⟩
  ·refine thn (T.done (adW X N scope h3.objs.size {s2 with heap:=h3 } H3 fp) rfl rfl rfl hc i [] s5 σ5 H5 (λ_ _=>False) I5 (stat fr5) st5 stop) λr s6 ⟨hr,I6⟩=>?_
   subst hr
   obtain ⟨mC,hnC,_⟩:=id I6.loc
   have I7:Inv X pins σ H5 s6:=I3.call' (ch:=fp) I6.os I6.base I6.hok I6.bare λb hb=>by
    obtain ⟨g0,g1,g2,g3,g4,g5⟩:=f3 b hb
    exact ⟨g3,g1,g4,g5⟩
   refine hRR D h3.objs.size H5 s6 mC I7 I6.free (Nat.ne_of_gt I3.lt) I3.sz (λx c e z=>?_) (λp hp z=>?_) hnC qn
   ·obtain ⟨v,q⟩:=I3.cell x c e
    exact absurd q.lt (by rw [z]; exact Nat.lt_irrefl _)
   ·exact absurd (Heap.lt_size (I3.pin p hp).1) (by rw [z]; exact Nat.lt_irrefl _)
  ·refine thn (T.item (adW X N scope h3.objs.size {s2 with heap:=h3 } H3 fp) rfl rfl rfl hc i [] s5 σ5 H5 (λ_ _=>False) I5 (stat fr5) st5 go) λr s6 ⟨u,hr,h6⟩=>?_
   subst hr
   refine thn h6 λ_ s7 ⟨x,H7,I7,r7,y7,st7,fr7⟩=>?_
   have I7':=I7.pinned (stat fr7) (T.obj _ _ st7)
   refine thn (hg _ _ _ _ _ s7 σ5 H7 x u _ I7' r7 (step x H7 y7)) λ_ s8 ⟨σ8,H8,I8,q8⟩=>?_
   refine thn (he _ _ _ _ _ s8 σ8 H8 _ I8 q8) λyv s9 ⟨y,H9,I9,r9,q9⟩=>?_
   obtain ⟨xs,e9,l9,m',hm,w9⟩:=q9
   refine thn (aeA (X:=adW X N scope h3.objs.size {s2 with heap:=h3 } H3 fp) _ s9 σ8 H9 (.ref D) [y] (.ref D) [yv] (λ_ H'=>W (i + 1) m' σ8 H') I9 rfl (.cons r9 .nil) ⟨D,xs,y,rfl,rfl,e9,l9,w9⟩) λ_ s10 ⟨_,H10,I10,_,q10⟩=>?_
   refine ⟨m',hm,i + 1,σ8,H10,I10.agL (pins := []),T.keep _ _ _ st7 λb hb o e=>(I10.pin (b,o) (List.mem_append_right _ (List.mem_append_right _ (aeQ hb e)))).1,λb hb=>?_,q10⟩
   obtain ⟨o,e,d⟩:=T.obj _ _ st7 b hb
   exact (I10.pin (b,o) (List.mem_append_right _ (List.mem_append_right _ (aeQ hb e)))).2.1
 exact codeAny_compStart_list loop (T.self _ _ _ _ _ st4 loop)
theorem ado (hsc:X.env.scope=sc) (hNo:X.N=No) (S:ajs sc No N src scope) (hc:X.calm=true)
  (hi:PI X tg iter wi) (hg:∀ C s H ex,PG (adW X N scope C s H ex) tg g) (he:∀ C s H ex,PE (adW X N scope C s H ex) elt te)
  (hs:∀ x,foldedSetIterable iter X.env x=pure x:=by intro _; rfl):PE X (.ListComp elt [⟨tg,iter,[],0⟩] scope pos) (amq wi g src te):=by
 refine ⟨λpins s σ H Q I h=>?_⟩
 rw [eval_ListComp]
 have hcl:closureFor scope X.env=pure (aaH X.env.cells scope.names []):=afV λy hy e=>by
  have k:=S.free y hy e
  rw [<-hsc] at k
  obtain ⟨c,q⟩:=I.ok.has y.1 k
  rw [q]; rfl
 refine wpAny_comprehension_free (use:=none) rfl hs hcl S.kind S.names (alI (RR:=λacc C=>compPost (model X.prog X.w) X.A X.xe none (EP X pins σ Q) acc C) hsc hNo S hc hi hg he I h ?_)
 intro D C H' s' m I' n1 n2 n3 n4 n5 hn q
 refine ⟨m,hn,λh' hs'=>⟨.ref D,H',?_,rfl,q⟩⟩
 exact I'.turned (t':=s'.toks) (λb o hb e=>(hs'.2 b hb).trans e) n1 (Ne.symm (Ne.symm n2)) (.inr n3) n4 n5
theorem aic {i:Nat} {y:Str} {py spos:Pos} (hN:X.N.Nodup) (hyi:X.N[i]? = some y) (hy:Loc X.env.scope y) (hsc:X.env.scope=sc) (hNo:X.N=No) (S:ajs sc No N src scope) (hc:X.calm=true)
  (hi:PI X tg iter wi) (hg:∀ C s H ex,PG (adW X N scope C s H ex) tg g) (he:∀ C s H ex,PE (adW X N scope C s H ex) elt te)
  (hsw:swapsWith (.ListComp elt [⟨tg,iter,[],0⟩] scope pos) (some (.Name y py)) spos.line X.env=pure true:=by rfl) (hs:∀ x,foldedSetIterable iter X.env x=pure x:=by intro _; rfl)
  (hf:X.fn y=true \/ X.env.scope.names.lookup y=some .local:=by first | exact .inl rfl | exact .inr rfl | assumption) :
  PS X (.Assign [.Name y py] (.ListComp elt [⟨tg,iter,[],0⟩] scope pos) spos) (aqH (amq wi g src te) (adB i)):=by
 refine ⟨λpins s σ H D I h=>?_⟩
 rw [exec_Assign_Name_used _ _ _ _ hsw]
 have hcl:closureFor scope X.env=pure (aaH X.env.cells scope.names []):=afV λy hy e=>by
  have k:=S.free y hy e
  rw [<-hsc] at k
  obtain ⟨c,q⟩:=I.ok.has y.1 k
  rw [q]; rfl
 refine wpAny_bind (wpAny_standAt (wpAny_bind ?_))
 show wpAny _ X.A (do let _ <-comprehension (.ListComp elt [⟨tg,iter,[],0⟩] scope pos) scope X.env _ (newList []) false (eval iter X.env) (some (assign (.Name y py) X.env))) _ _ s
 refine wpAny_bind (wpAny_mono (wpAny_comprehension_free (use:=some (assign (.Name y py) X.env)) (Q:=λ_ s'=>SP X pins D .next s') rfl hs hcl S.kind S.names
  (alI (Q:=λv H'=>D.nx (σ.set i (some v)) H') (RR:=λacc C=>compPost (model X.prog X.w) X.A X.xe (some (assign (.Name y py) X.env)) (λ_ s'=>SP X pins D .next s') acc C) hsc hNo S hc hi hg he I h ?_)) (λ_ s' hq=>wpAny_pure (wpAny_pure hq)) λ_ _ e=>e)
 intro Da C H' s' m I' n1 n2 n3 n4 n5 hn q
 show wpAny _ X.A (assign (.Name y py) X.env (.ref Da)) _ _ _
 refine wpAny_assign_Name (ajf I' hN hyi hy (v := .ref Da) rfl (λs2 I2 hsame=>?_) hf)
 obtain ⟨a,hsb,ha⟩:=hsame
 have hCa:C ≠ a:=by
  rcases ha with z | z
  ·rw [z]; exact n2
  ·exact λe=>n4 y a z e.symm
 refine ⟨m,hn.sameBut hsb hCa,λh' hs'=>⟨σ.set i (some (.ref Da)),H',?_,q⟩⟩
 exact I2.turned (t':=s2.toks) (λb o hb e=>(hs'.2 b hb).trans e) n1 n2 (.inr n3) n4 n5
end
section
variable {K:PySem.W.Frag} {g:TG} {te:TE} {Q:VK}
end
end L2
end
section
namespace L2
open PySem PySem.Spec PyProof.Rows
noncomputable def aws (e C:Addr) (h:Heap):Prop:=∃ o vs,h.get? e=some o /\ o.cls = .ref C /\ o.data = .fields vs
noncomputable def exO (e C:Addr):HO := .ext (aws e C)
noncomputable def acv:List Str := ["NoBottom", "NoBook", "NoList", "NoRule", "NoCount", "NoLooks", "NoThings", "NotSure", "NoSlack", "NoThing", "NoWorth", "TooMany", "NoText", "NoLine"]
inductive Tr where
 | non | bl (b:Bool) | int (i:Int) | str (x:Str) | tup (ts:List Tr) | lst (ts:List Tr) | exn (c:Str)
mutual
inductive Rep (K:PySem.W.Frag) (H:Hp):V->Tr->Prop
 | non:Rep K H .non .non
 | bl (b:Bool):Rep K H (.bl b) (.bl b)
 | int (i:Int):Rep K H (.int i) (.int i)
 | str (x:Str):Rep K H (.str x) (.str x)
 | tup {a:Addr} {xs:List V} {ts:List Tr} (h:SqT K H a xs) (r:abd K H xs ts):Rep K H (.ref a) (.tup ts)
 | lst {a:Addr} {xs:List V} {ts:List Tr} (h:SqL K H a xs) (r:abd K H xs ts):Rep K H (.ref a) (.lst ts)
 | exn {a C:Addr} {c:Str} (h:H a=some (exO a C)) (m:c ∈ acv) (n:PySem.W.nsIn K mainGlobals c=some (some (.ref C))):Rep K H (.ref a) (.exn c)
inductive abd (K:PySem.W.Frag) (H:Hp):List V->List Tr->Prop
 | nil:abd K H [] []
 | cons {x:V} {t:Tr} {xs:List V} {ts:List Tr} (h:Rep K H x t) (r:abd K H xs ts):abd K H (x :: xs) (t :: ts)
end
theorem Same.atw {K:PySem.W.Frag} {H H':Hp} {a:Addr} {xs:List V} (e:Same H H') (h:SqT K H a xs):SqT K H' a xs:=by
 rcases h with (h | ⟨o,h⟩) | h
 ·exact .inl (.inl (e _ _ h))
 ·exact .inl (.inr ⟨o,e _ _ h⟩)
 ·exact .inr h
mutual
theorem Rep.mono {K:PySem.W.Frag} {H H':Hp} (e:Same H H'):∀ {v:V} {t:Tr},Rep K H v t->Rep K H' v t
 | _,_,.non => .non
 | _,_,.bl b => .bl b
 | _,_,.int i => .int i
 | _,_,.str x => .str x
 | _,_,.tup h r => .tup (e.atw h) (abd.mono e r)
 | _,_,.lst h r => .lst (e.seq h) (abd.mono e r)
 | _,_,.exn h m n => .exn (e _ _ h) m n
theorem abd.mono {K:PySem.W.Frag} {H H':Hp} (e:Same H H'):∀ {v:List V} {t:List Tr},abd K H v t->abd K H' v t
 | _,_,.nil => .nil
 | _,_,.cons h r => .cons (Rep.mono e h) (abd.mono e r)
end
theorem abd.length {K:PySem.W.Frag} {H:Hp}:∀ {v:List V} {t:List Tr},abd K H v t->v.length=t.length
 | _,_,.nil=>rfl
 | _,_,.cons _ r=>by rw [List.length_cons,List.length_cons,abd.length r]
theorem abd.get {K:PySem.W.Frag} {H:Hp}:∀ {v:List V} {t:List Tr} {i:Nat} {x:V},abd K H v t->v[i]? = some x->∃ u,t[i]? = some u /\ Rep K H x u
 | _,_,_,_,.nil,e=>by simp at e
 | _,_,0,_,.cons h _,e=>by
  simp at e
  subst e
  exact ⟨_,rfl,h⟩
 | _,_,i + 1,x,.cons _ r,e=>by
  obtain ⟨u,h1,h2⟩:=abd.get (i:=i) (x:=x) r (by simpa using e)
  exact ⟨u,by simpa using h1,h2⟩
theorem abd.app {K:PySem.W.Frag} {H:Hp}:∀ {v w:List V} {t u:List Tr},abd K H v t->abd K H w u->abd K H (v ++ w) (t ++ u)
 | _,_,_,_,.nil,s=>s
 | _,_,_,_,.cons h r,s => .cons h (abd.app r s)
theorem abd.take {K:PySem.W.Frag} {H:Hp}:∀ {v:List V} {t:List Tr} (n:Nat),abd K H v t->abd K H (v.take n) (t.take n)
 | _,_,0,_=>by rw [List.take_zero,List.take_zero]; exact .nil
 | _,_,n + 1,.nil=>by simpa using abd.nil
 | _,_,n + 1,.cons h r=>by
  rw [List.take_succ_cons,List.take_succ_cons]
  exact .cons h (abd.take n r)
theorem abd.drop {K:PySem.W.Frag} {H:Hp}:∀ {v:List V} {t:List Tr} (n:Nat),abd K H v t->abd K H (v.drop n) (t.drop n)
 | _,_,0,r=>by rw [List.drop_zero,List.drop_zero]; exact r
 | _,_,n + 1,.nil=>by simpa using abd.nil
 | _,_,n + 1,.cons h r=>by
  rw [List.drop_succ_cons,List.drop_succ_cons]
  exact abd.drop n r
mutual
noncomputable def dep:Tr->Nat
 | .tup ts=>deps ts + 1
 | .lst ts=>deps ts + 1
 | .exn _=>100
 | _=>0
noncomputable def deps:List Tr->Nat
 | []=>0
 | t :: r=>max (dep t) (deps r)
end
mutual
noncomputable def eqT:Tr->Tr->Bool
 | .non,.non=>true
 | .bl a,.bl b=>a == b
 | .bl a,.int b=>(if a then 1 else 0) == b
 | .int a,.bl b=>a == (if b then 1 else 0)
 | .int a,.int b=>a == b
 | .str a,.str b=>a == b
 | .tup a,.tup b=>apd a b
 | .lst a,.lst b=>apd a b
 | .exn a,.exn b=>a == b
 | _,_=>false
noncomputable def apd:List Tr->List Tr->Bool
 | [],[]=>true
 | a :: x,b :: y=>eqT a b && apd x y
 | _,_=>false
end
mutual
theorem agN:∀ t:Tr,eqT t t=true
 | .non=>rfl
 | .bl b=>by unfold eqT; exact beq_self_eq_true b
 | .int i=>by unfold eqT; exact beq_self_eq_true i
 | .str x=>by unfold eqT; exact beq_self_eq_true x
 | .tup ts=>by unfold eqT; exact ag8 ts
 | .lst ts=>by unfold eqT; exact ag8 ts
 | .exn c=>by unfold eqT; exact beq_self_eq_true c
theorem ag8:∀ ts:List Tr,apd ts ts=true
 | []=>rfl
 | t :: r=>by unfold apd; rw [agN t,ag8 r]; rfl
end
theorem afs:∀ {a b:List Tr},a.length ≠ b.length->apd a b=false
 | [],[],h=>absurd rfl h
 | [],_ :: _,_=>rfl
 | _ :: _,[],_=>rfl
 | x :: a,y :: b,h=>by
  unfold apd
  rw [afs (a:=a) (b:=b) (by simpa using h),Bool.and_false]
noncomputable def atE (a b:List Tr) (j:Nat):Bool:=match a[j]?,b[j]? with
 | some x,some y=>eqT x y
 | _,_=>true
theorem ag9:∀ {a b:List Tr},a.length=b.length->(List.range a.length).all (atE a b)=apd a b
 | [],[],_=>rfl
 | [],_ :: _,h=>by cases h
 | _ :: _,[],h=>by cases h
 | x :: a,y :: b,h=>by
  have ih:=ag9 (a:=a) (b:=b) (by simpa using h)
  rw [List.length_cons,List.range_succ_eq_map,List.all_cons,List.all_map]
  unfold apd
  rw [<-ih]
  rfl
section
variable {X:Cx} {pins:List (Addr × Obj)} {σ : St} {H:Hp} {s:Shared}
theorem Inv.arF (I:Inv X pins σ H s) {a C:Addr} {its:Array Value} (h:H a=some (exO a C)) (p:IsTup s.heap a its):False:=by
 obtain ⟨o,_,e1,e2,_⟩:=(I.hok a _ h).1
 obtain ⟨o',e1',e2',_⟩:=p
 rw [e1] at e1'
 cases e1'
 rw [e2] at e2'
 cases e2'
theorem Inv.arG (I:Inv X pins σ H s) {a C:Addr} {its:Array Value} (h:H a=some (exO a C)) (p:PlainL s.heap a its):False:=by
 obtain ⟨o,_,e1,e2,_⟩:=(I.hok a _ h).1
 obtain ⟨o',_,e1',e2',_⟩:=p
 rw [e1] at e1'
 cases e1'
 rw [e2] at e2'
 cases e2'
mutual
theorem Rep.inj (I:Inv X pins σ H s):∀ {v:V} {t u:Tr},dep t<=99->Rep X.K H v t->Rep X.K H v u->t=u
 | _,_,_,_,.non,.non=>rfl
 | _,_,_,_,.bl _,.bl _=>rfl
 | _,_,_,_,.int _,.int _=>rfl
 | _,_,_,_,.str _,.str _=>rfl
 | _,_,_,d,.tup h r,.tup h' r'=>by
  have e:=I.ajh h h'
  subst e
  rw [abd.inj I (by unfold dep at d; omega) r r']
 | _,_,_,d,.lst h r,.lst h' r'=>by
  have e:=I.afq h h'
  subst e
  rw [abd.inj I (by unfold dep at d; omega) r r']
 | _,_,_,_,.tup h r,.lst h' r'=>by
  obtain ⟨_,_,p,_⟩:=I.tuple h
  obtain ⟨_,_,p',_⟩:=I.list h'
  exact absurd rfl (SeqAt.ne_of_list_tuple p'.isList p)
 | _,_,_,_,.lst h r,.tup h' r'=>by
  obtain ⟨_,_,p,_⟩:=I.tuple h'
  obtain ⟨_,_,p',_⟩:=I.list h
  exact absurd rfl (SeqAt.ne_of_list_tuple p'.isList p)
 | _,_,_,d,.exn h _ n,_=>by unfold dep at d; omega
 | _,_,_,_,.tup h r,.exn h' _ _=>by
  obtain ⟨_,_,p,_⟩:=I.tuple h
  exact (I.arF h' p).elim
 | _,_,_,_,.lst h r,.exn h' _ _=>by
  obtain ⟨_,_,p,_⟩:=I.list h
  exact (I.arG h' p).elim
theorem abd.inj (I:Inv X pins σ H s):∀ {v:List V} {t u:List Tr},deps t<=99->abd X.K H v t->abd X.K H v u->t=u
 | _,_,_,_,.nil,.nil=>rfl
 | _,_,_,d,.cons h r,.cons h' r'=>by
  unfold deps at d
  rw [Rep.inj I (by omega) h h',abd.inj I (by omega) r r']
end
theorem in1_units (A:Around):A.in1.units<=A.units + 1:=by
 show A.units + 1<=_
 omega
theorem agO {xs:List V} {its:List Value} {j:Nat} (r:Vals xs its) (h:j<its.toArray.size):∃ x,xs[j]? = some x /\ RelV x its.toArray[j]:=by
 have h':j<its.length:=by simpa using h
 have hx:j<xs.length:=by rw [r.length]; exact h'
 obtain ⟨u,h1,h2⟩:=r.get (List.getElem?_eq_getElem hx)
 refine ⟨xs[j],List.getElem?_eq_getElem hx,?_⟩
 have e:u=its.toArray[j]:=by
  rw [List.getElem?_eq_getElem h'] at h1
  have:=Option.some.inj h1
  simpa using this.symm
 rw [<-e]; exact h2
theorem alJ {a b:List Tr} {j:Nat} {x y:Tr} (h1:a[j]? = some x) (h2:b[j]? = some y):atE a b j=eqT x y:=by
 unfold atE
 rw [h1,h2]
theorem aeB:∀ {ts:List Tr} {j:Nat} {t:Tr},ts[j]? = some t->dep t<=deps ts
 | [],_,_,h=>by simp at h
 | x :: r,0,t,h=>by
  simp at h
  subst h
  unfold deps
  exact Nat.le_max_left _ _
 | x :: r,j + 1,t,h=>by
  have:=aeB (ts:=r) (j:=j) (t:=t) (by simpa using h)
  unfold deps
  exact Nat.le_trans this (Nat.le_max_right _ _)
theorem aha (I:Inv X pins σ H s) (A:Around) (t u:Tr) (x y:V) (xv yv:Value) (hu:A.units + 0<cLine) (hd:dep t<=0) (du:dep u<=99) (rx:Rep X.K H x t) (ry:Rep X.K H y u) (vx:RelV x xv) (vy:RelV y yv) :
  SeqAt.RcAt A s xv yv (eqT t u) /\ SeqAt.EqAt A s xv yv (eqT t u):=by
 have hu0:A.units<cLine:=by omega
 cases rx with
 | tup h r=>unfold dep at hd; omega
 | lst h r=>unfold dep at hd; omega
 | exn h m n=>unfold dep at hd; omega
 | non =>
  cases vx
  cases ry with
  | non=>cases vy; unfold eqT; exact ⟨SeqAt.RcAt.none_none,.same _⟩
  | bl b2=>cases vy; unfold eqT; exact ⟨SeqAt.RcAt.none_bool _,SeqAt.EqAt.none_bool _⟩
  | int i2=>obtain ⟨_,rfl⟩:=vy; unfold eqT; exact ⟨SeqAt.RcAt.none_int _ _,SeqAt.EqAt.none_int _ _⟩
  | str z2=>obtain ⟨_,rfl⟩:=vy; unfold eqT; exact ⟨SeqAt.RcAt.none_str _ _,SeqAt.EqAt.none_str _ _⟩
  | tup h r=>cases vy; obtain ⟨_,_,p,_⟩:=I.tuple h; unfold eqT; exact ⟨SeqAt.RcAt.none_tuple p hu0,SeqAt.EqAt.none_tuple p hu0⟩
  | lst h r=>cases vy; obtain ⟨_,_,p,_⟩:=I.list h; unfold eqT; exact ⟨SeqAt.RcAt.none_list p.isList hu0,SeqAt.EqAt.none_list p.isList hu0⟩
  | exn h m n=>unfold dep at du; omega
 | bl b =>
  cases vx
  cases ry with
  | non=>cases vy; unfold eqT; exact ⟨SeqAt.RcAt.bool_none _,SeqAt.EqAt.bool_none _⟩
  | bl b2=>cases vy; unfold eqT; exact ⟨SeqAt.RcAt.bool_bool _ _,SeqAt.EqAt.bool_bool _ _⟩
  | int i2=>obtain ⟨_,rfl⟩:=vy; unfold eqT; exact ⟨SeqAt.RcAt.bool_int _ _ _,SeqAt.EqAt.bool_int _ _ _⟩
  | str z2=>obtain ⟨_,rfl⟩:=vy; unfold eqT; exact ⟨SeqAt.RcAt.bool_str _ _ _,SeqAt.EqAt.bool_str _ _ _⟩
  | tup h r=>cases vy; obtain ⟨_,_,p,_⟩:=I.tuple h; unfold eqT; exact ⟨SeqAt.RcAt.bool_tuple _ p hu0,SeqAt.EqAt.bool_tuple _ p hu0⟩
  | lst h r=>cases vy; obtain ⟨_,_,p,_⟩:=I.list h; unfold eqT; exact ⟨SeqAt.RcAt.bool_list _ p.isList hu0,SeqAt.EqAt.bool_list _ p.isList hu0⟩
  | exn h m n=>unfold dep at du; omega
 | int i =>
  obtain ⟨_,rfl⟩:=vx
  cases ry with
  | non=>cases vy; unfold eqT; exact ⟨SeqAt.RcAt.int_none _ _,SeqAt.EqAt.int_none _ _⟩
  | bl b2=>cases vy; unfold eqT; exact ⟨SeqAt.RcAt.int_bool _ _ _,SeqAt.EqAt.int_bool _ _ _⟩
  | int i2=>obtain ⟨_,rfl⟩:=vy; unfold eqT; exact ⟨SeqAt.RcAt.int_int _ _ _ _,SeqAt.EqAt.int_int _ _ _ _⟩
  | str z2=>obtain ⟨_,rfl⟩:=vy; unfold eqT; exact ⟨SeqAt.RcAt.int_str _ _ _ _,SeqAt.EqAt.int_str _ _ _ _⟩
  | tup h r=>cases vy; obtain ⟨_,_,p,_⟩:=I.tuple h; unfold eqT; exact ⟨SeqAt.RcAt.int_tuple _ _ p hu0,SeqAt.EqAt.int_tuple _ _ p hu0⟩
  | lst h r=>cases vy; obtain ⟨_,_,p,_⟩:=I.list h; unfold eqT; exact ⟨SeqAt.RcAt.int_list _ _ p.isList hu0,SeqAt.EqAt.int_list _ _ p.isList hu0⟩
  | exn h m n=>unfold dep at du; omega
 | str z =>
  obtain ⟨_,rfl⟩:=vx
  cases ry with
  | non=>cases vy; unfold eqT; exact ⟨SeqAt.RcAt.str_none _ _,SeqAt.EqAt.str_none _ _⟩
  | bl b2=>cases vy; unfold eqT; exact ⟨SeqAt.RcAt.str_bool _ _ _,SeqAt.EqAt.str_bool _ _ _⟩
  | int i2=>obtain ⟨_,rfl⟩:=vy; unfold eqT; exact ⟨SeqAt.RcAt.str_int _ _ _ _,SeqAt.EqAt.str_int _ _ _ _⟩
  | str z2=>obtain ⟨_,rfl⟩:=vy; unfold eqT; exact ⟨SeqAt.RcAt.str_str _ _ _ _,SeqAt.EqAt.str_str _ _ _ _⟩
  | tup h r=>cases vy; obtain ⟨_,_,p,_⟩:=I.tuple h; unfold eqT; exact ⟨SeqAt.RcAt.str_tuple _ _ p hu0,SeqAt.EqAt.str_tuple _ _ p hu0⟩
  | lst h r=>cases vy; obtain ⟨_,_,p,_⟩:=I.list h; unfold eqT; exact ⟨SeqAt.RcAt.str_list _ _ p.isList hu0,SeqAt.EqAt.str_list _ _ p.isList hu0⟩
  | exn h m n=>unfold dep at du; omega
theorem akr (I:Inv X pins σ H s):∀ (n:Nat) (A:Around) (t u:Tr) (x y:V) (xv yv:Value),A.units + n<cLine->dep t<=n->dep t<=99->dep u<=99->Rep X.K H x t->Rep X.K H y u->RelV x xv->RelV y yv ->
  SeqAt.RcAt A s xv yv (eqT t u) /\ SeqAt.EqAt A s xv yv (eqT t u):=by
 intro n
 induction n with
 | zero=>exact λA t u x y xv yv hu hd _ du rx ry vx vy=>aha I A t u x y xv yv hu hd du rx ry vx vy
 | succ n ih =>
  intro A t u x y xv yv hu hd dt9 du rx ry vx vy
  have hu0:A.units<cLine:=by omega
  have hu1:A.in1.units + n<cLine:=by
   have:=in1_units A
   omega
  have he:∀ {xs ys:List V} {ts us:List Tr} {its its2:List Value},Vals xs its->Vals ys its2->abd X.K H xs ts->abd X.K H ys us->deps ts<=n->deps ts<=99->deps us<=99->∀ j (h1:j<its.toArray.size) (h2:j<its2.toArray.size),SeqAt.EqAt A.in1 s its.toArray[j] its2.toArray[j] (atE ts us j):=by
   intro xs ys ts us its its2 r1 r2 q1 q2 hde hd9 hu9 j h1 h2
   obtain ⟨a,ea,ra⟩:=agO r1 h1
   obtain ⟨b,eb,rb⟩:=agO r2 h2
   obtain ⟨ta,eta,qa⟩:=q1.get ea
   obtain ⟨tb,etb,qb⟩:=q2.get eb
   rw [alJ eta etb]
   exact (ih A.in1 ta tb a b _ _ hu1 (Nat.le_trans (aeB eta) hde) (Nat.le_trans (aeB eta) hd9) (Nat.le_trans (aeB etb) hu9) qa qb ra rb).2
  have dt:∀ {ts:List Tr},dep (.tup ts)<=n + 1->deps ts<=n:=λ{ts} h=>by unfold dep at h; omega
  have dl:∀ {ts:List Tr},dep (.lst ts)<=n + 1->deps ts<=n:=λ{ts} h=>by unfold dep at h; omega
  have nt:∀ {ts:List Tr},dep (.tup ts)<=99->deps ts<=99:=λ{ts} h=>by unfold dep at h; omega
  have nl:∀ {ts:List Tr},dep (.lst ts)<=99->deps ts<=99:=λ{ts} h=>by unfold dep at h; omega
  have refs:∀ {a b:Addr} {t u:Tr} {k:Bool},dep t<=99->Rep X.K H (.ref a) t->Rep X.K H (.ref b) u->k=eqT t u->SeqAt.RcAt A s (.ref a) (.ref b) k->SeqAt.EqAt A s (.ref a) (.ref b) k:=λ{a b t u k} d9 r1 r2 ek h=>by
   by_cases e:a=b
   ·subst e
    have:=Rep.inj I d9 r1 r2
    subst this
    rw [ek,agN]
    exact .same _
   ·exact .of_refs e h
  cases rx with
  | @tup a1 xs1 ts h r =>
   cases vx
   obtain ⟨its,rv,p,_⟩:=I.tuple h
   cases ry with
   | @tup a2 xs2 us h' r' =>
    cases vy
    obtain ⟨its2,rv2,p2,_⟩:=I.tuple h'
    have R:=SeqAt.RcAt.tuples p p2 hu0 (he rv rv2 r r' (dt hd) (nt dt9) (nt du))
    have el:its.toArray.size=ts.length:=by simpa using (rv.length.symm.trans r.length)
    have el2:its2.toArray.size=us.length:=by simpa using (rv2.length.symm.trans r'.length)
    rw [el,el2] at R
    have eb:((List.range (min ts.length us.length)).all (atE ts us) && ts.length == us.length)=eqT (.tup ts) (.tup us):=by
     unfold eqT
     by_cases e:ts.length=us.length
     ·rw [e,Nat.min_self,<-e,ag9 e,beq_self_eq_true,Bool.and_true]
     ·rw [beq_false_of_ne e,Bool.and_false,afs e]
    rw [eb] at R
    exact ⟨R,refs dt9 (.tup h r) (.tup h' r') rfl R⟩
   | lst h' r' =>
    cases vy
    obtain ⟨_,_,p2,_⟩:=I.list h'
    unfold eqT
    exact ⟨SeqAt.RcAt.tuple_list p p2.isList hu0,.tuple_list p p2.isList hu0⟩
   | exn h' m n=>unfold dep at du; omega
   | non=>cases vy; unfold eqT; exact ⟨SeqAt.RcAt.tuple_none p hu0,.tuple_none p hu0⟩
   | bl b=>cases vy; unfold eqT; exact ⟨SeqAt.RcAt.tuple_bool _ p hu0,.tuple_bool _ p hu0⟩
   | int i=>obtain ⟨_,rfl⟩:=vy; unfold eqT; exact ⟨SeqAt.RcAt.tuple_int _ _ p hu0,.tuple_int _ _ p hu0⟩
   | str z=>obtain ⟨_,rfl⟩:=vy; unfold eqT; exact ⟨SeqAt.RcAt.tuple_str _ _ p hu0,.tuple_str _ _ p hu0⟩
  | @lst a1 xs1 ts h r =>
   cases vx
   obtain ⟨its,rv,p,_⟩:=I.list h
   cases ry with
   | @lst a2 xs2 us h' r' =>
    cases vy
    obtain ⟨its2,rv2,p2,_⟩:=I.list h'
    have el:its.toArray.size=ts.length:=by simpa using (rv.length.symm.trans r.length)
    have el2:its2.toArray.size=us.length:=by simpa using (rv2.length.symm.trans r'.length)
    by_cases e:ts.length=us.length
    ·have R:=SeqAt.RcAt.lists p.isList p2.isList (by rw [el,el2,e]) hu0 (he rv rv2 r r' (dl hd) (nl dt9) (nl du))
     rw [el,ag9 e] at R
     have eb:apd ts us=eqT (.lst ts) (.lst us):=by unfold eqT; rfl
     rw [eb] at R
     exact ⟨R,refs dt9 (.lst h r) (.lst h' r') rfl R⟩
    ·have R:SeqAt.RcAt A s _ _ false:=SeqAt.RcAt.lists_lengths p.isList p2.isList (by rw [el,el2]; simpa using e) hu0
     have eb:false=eqT (.lst ts) (.lst us):=by unfold eqT; rw [afs e]
     rw [eb] at R
     exact ⟨R,refs dt9 (.lst h r) (.lst h' r') rfl R⟩
   | tup h' r' =>
    cases vy
    obtain ⟨_,_,p2,_⟩:=I.tuple h'
    unfold eqT
    exact ⟨SeqAt.RcAt.list_tuple p.isList p2 hu0,.list_tuple p.isList p2 hu0⟩
   | exn h' m n=>unfold dep at du; omega
   | non=>cases vy; unfold eqT; exact ⟨SeqAt.RcAt.list_none p.isList hu0,.list_none p.isList hu0⟩
   | bl b=>cases vy; unfold eqT; exact ⟨SeqAt.RcAt.list_bool _ p.isList hu0,.list_bool _ p.isList hu0⟩
   | int i=>obtain ⟨_,rfl⟩:=vy; unfold eqT; exact ⟨SeqAt.RcAt.list_int _ _ p.isList hu0,.list_int _ _ p.isList hu0⟩
   | str z=>obtain ⟨_,rfl⟩:=vy; unfold eqT; exact ⟨SeqAt.RcAt.list_str _ _ p.isList hu0,.list_str _ _ p.isList hu0⟩
  | exn h m n=>unfold dep at dt9; omega
  | non=>exact aha I A _ _ _ _ _ _ (by omega) (by unfold dep; omega) du .non ry vx vy
  | bl b=>exact aha I A _ _ _ _ _ _ (by omega) (by unfold dep; omega) du (.bl b) ry vx vy
  | int i=>exact aha I A _ _ _ _ _ _ (by omega) (by unfold dep; omega) du (.int i) ry vx vy
  | str z=>exact aha I A _ _ _ _ _ _ (by omega) (by unfold dep; omega) du (.str z) ry vx vy
end
end L2
end
section
namespace L2
open PySem PySem.Spec PyProof.Rows
section
variable {X:Cx} {a b:Expr} {ta tb:TE} {pos:Pos}
noncomputable def awU (K:PySem.W.Frag):R2:=λx y H Q=>∃ t u,Rep K H x t /\ Rep K H y u /\ dep t<=40 /\ dep u<=40 /\ Q (.bl (eqT t u)) H
theorem acS (hu:X.A.units + 64<cLine):OpR X (compareOp .Eq) (awU X.K):=by
 intro pins s σ H x y v u Q I rx ry h
 obtain ⟨t,t',q1,q2,hd,hd2,q⟩:=h
 exact (akr I 40 X.A t t' x y v u (by omega) hd (by omega) (by omega) q1 q2 rx ry).1 _ _ _ _ ⟨.bl _,H,I,rfl,q⟩
noncomputable def awV (t:Tr) (ts:List Tr):Bool:=ts.any λu=>eqT u t
noncomputable def awW (K:PySem.W.Frag):R2:=λx y H Q=>∃ t ts p xs,Rep K H x t /\ y = .ref p /\ (SqL K H p xs \/ SqT K H p xs) /\ abd K H xs ts /\ deps ts<=40 /\ dep t<=40 /\ Q (.bl (awV t ts)) H
theorem ajt {xs:List V} {its:List Value} {ts:List Tr} {K:PySem.W.Frag} {H:Hp} (f:Tr->Bool) (e:Value->Bool) (r:Vals xs its) (q:abd K H xs ts) (h:∀ x v t,x ∈ xs->RelV x v->Rep K H x t->t ∈ ts->e v=f t):its.any e=ts.any f:=by
 induction r generalizing ts with
 | nil=>cases q; rfl
 | cons r1 r2 ih =>
  cases q with
  | cons q1 q2 =>
   rw [List.any_cons,List.any_cons,h _ _ _ List.mem_cons_self r1 q1 List.mem_cons_self,ih q2 λx v t hx hr hq ht=>h x v t (List.mem_cons_of_mem _ hx) hr hq (List.mem_cons_of_mem _ ht)]
theorem anQ:∀ {ts:List Tr} {t:Tr},t ∈ ts->dep t<=deps ts:=λ{ts t} h=>by
 obtain ⟨i,hi,e⟩:=List.mem_iff_getElem.mp h
 exact aeB (j:=i) (by rw [List.getElem?_eq_getElem hi,e])
open Classical in
theorem auf (hu:X.A.units + 64<cLine):OpR X (compareOp .In) (awW X.K):=by
 intro pins s σ H x y v u Q I rx ry h
 obtain ⟨t,ts,p,xs,q1,rfl,hq,qs,hd,hd2,q⟩:=h
 cases ry
 have hu1:X.A.in1.units + 40<cLine:=by
  have:=in1_units X.A
  omega
 -- what == tells of an item,by the item itself
 let e:Value->Bool:=λw'=>if h:∃ z tz,z ∈ xs /\ RelV z w' /\ Rep X.K H z tz /\ tz ∈ ts then eqT (Classical.choose (Classical.choose_spec h)) t else false
 have ee:∀ z w' tz,z ∈ xs->RelV z w'->Rep X.K H z tz->tz ∈ ts->e w'=eqT tz t:=λz w' tz h1 h2 h3 h4=>by
  have hx:∃ z tz,z ∈ xs /\ RelV z w' /\ Rep X.K H z tz /\ tz ∈ ts:=⟨z,tz,h1,h2,h3,h4⟩
  show (if h:_ then _ else _)=_
  rw [dif_pos hx]
  have sp:=Classical.choose_spec (Classical.choose_spec hx)
  have key:∀ z z' t1 t2,RelV z w'->RelV z' w'->dep t1<=99->Rep X.K H z t1->Rep X.K H z' t2->t1=t2:=λz z' t1 t2 a1 a2 d9 a3 a4=>by
   obtain rfl:=RelV.inj a1 a2
   exact Rep.inj I d9 a3 a4
  rw [key _ _ _ _ sp.2.1 h2 (by have:=anQ sp.2.2.2; omega) sp.2.2.1 h3]
 have mem:∀ {its:List Value},Vals xs its->∀ w' ∈ its,SeqAt.EqAt X.A.in1 s w' v (e w'):=by
  intro its r w' hw
  obtain ⟨j,hj,ej⟩:=List.mem_iff_getElem.mp hw
  have hjx:j<xs.length:=by rw [r.length]; exact hj
  obtain ⟨u',h1,h2⟩:=r.get (List.getElem?_eq_getElem hjx)
  rw [List.getElem?_eq_getElem hj,ej] at h1
  cases h1
  obtain ⟨tz,h3,h4⟩:=qs.get (List.getElem?_eq_getElem hjx)
  have hm:=List.mem_of_getElem? h3
  rw [ee _ _ tz (List.getElem_mem hjx) h2 h4 hm]
  exact (akr I 40 X.A.in1 tz t _ x _ v hu1 (Nat.le_trans (anQ hm) hd) (by have:=anQ hm; omega) (by omega) h4 q1 h2 rx).2
 rcases hq with hq | hq
 ·obtain ⟨its,r,pl,hz⟩:=I.list hq
  refine SeqAt.in_listAt e pl.isList (λw hw=>mem r w (by simpa using hw)) ⟨.bl _,H,I,rfl,?_⟩
  rw [show its.toArray.any e=its.any e by simp,ajt (λz=>eqT z t) e r qs λz w' tz h1 h2 h3 h4=>ee z w' tz h1 h2 h3 h4]
  exact q
 ·obtain ⟨its,r,pl,hz⟩:=I.tuple hq
  refine SeqAt.in_tupleAt e pl (λw hw=>mem r w (by simpa using hw)) ⟨.bl _,H,I,rfl,?_⟩
  rw [show its.toArray.any e=its.any e by simp,ajt (λz=>eqT z t) e r qs λz w' tz h1 h2 h3 h4=>ee z w' tz h1 h2 h3 h4]
  exact q
inductive Ty where | int | bool | str | tuple | list
noncomputable def Ty.name:Ty->String
 | .int => "int" | .bool => "bool" | .str => "str" | .tuple => "tuple" | .list => "list"
noncomputable def ac7:Tr->Ty->Bool
 | .bl _,.bool=>true | .bl _,.int=>true | .int _,.int=>true | .str _,.str=>true | .tup _,.tuple=>true | .lst _,.list=>true
 | _,_=>false
noncomputable def awt (K:PySem.W.Frag):List V->Hp->VK->Prop:=λxs H Q=>∃ v t c,xs = [v,.ty (Ty.name c)] /\ Rep K H v t /\ Q (.bl (ac7 t c)) H
noncomputable def XOk (K:PySem.W.Frag):Prop:=∀ c ∈ acv,∀ C,PySem.W.nsIn K mainGlobals c=some (some (.ref C))->(∀ a,PySem.W.KitX K (.ref a) (.ref C) (aws a C)) /\ ∀ y:Ty,PySem.W.kitOne K (.ref C) (.type y.name)=some false
theorem apt (hX:XOk X.K):adC X (.builtin "isinstance") (awt X.K):=by
 intro pins s σ H xs us Q I r h
 obtain ⟨v,t,c,rfl,q1,q⟩:=h
 obtain ⟨u,w',rfl,ru,rw'⟩:=vals2 r
 obtain rfl:w'=Value.type (Ty.name c):=rw'
 have fin:∀ tk,EP X pins σ Q (.bool (ac7 t c)) {s with toks:=tk }:=λtk=>⟨.bl _,H,I.tok tk,rfl,q⟩
 cases q1 with
 | non=>cases ru; cases c <;> exact PySem.W.kia_one PySem.W.kitx_none I.kIn True.intro (by kernel_rfl) (λz=>nomatch z) fin
 | bl y=>cases ru; cases c <;> exact PySem.W.kia_one PySem.W.kitx_bool I.kIn True.intro (by kernel_rfl) (λz=>nomatch z) fin
 | int i=>obtain ⟨_,rfl⟩:=ru; cases c <;> exact PySem.W.kia_one PySem.W.kitx_int I.kIn True.intro (by kernel_rfl) (λz=>nomatch z) fin
 | str y=>obtain ⟨_,rfl⟩:=ru; cases c <;> exact PySem.W.kia_one PySem.W.kitx_str I.kIn True.intro (by kernel_rfl) (λz=>nomatch z) fin
 | tup h r =>
  cases ru
  obtain ⟨_,_,⟨o,h1,h2,_⟩,_⟩:=I.tuple h
  cases c <;> exact PySem.W.kia_one PySem.W.kitx_tuple I.kIn ⟨o,h1,h2⟩ (by kernel_rfl) (λz=>nomatch z) fin
 | lst h r =>
  cases ru
  obtain ⟨_,_,p,_⟩:=I.list h
  obtain ⟨o,h1,h2,_⟩:=p.isList
  cases c <;> exact PySem.W.kia_one PySem.W.kitx_list I.kIn ⟨o,h1,h2⟩ (by kernel_rfl) (λz=>nomatch z) fin
 | exn h m n =>
  cases ru
  obtain ⟨z1,z2⟩:=hX _ m _ n
  exact PySem.W.kia_one (z1 _) I.kIn (I.hok _ _ h).1 (z2 c) (λz=>nomatch z) fin
noncomputable def awX (K:PySem.W.Frag):List V->Hp->VK->Prop:=λxs H Q=>∃ (p:Addr) (bs:List Bool),xs = [.ref p] /\ SqL K H p (bs.map V.bl) /\ Q (.bl (bs.all id)) H
theorem agP (hc:X.calm=true):adC X (.builtin "all") (awX X.K):=by
 intro pins s σ H xs us Q I r h
 obtain ⟨p,bs,rfl,hq,q⟩:=h
 obtain ⟨u,rfl,ru⟩:=vals1 r
 cases ru
 obtain ⟨its,rv,pl,hz⟩:=I.list hq
 refine call_all_walk (wpAny_pyIter_list pl.isList ?_)
 obtain ⟨ol,hol,hol'⟩:=id pl.isList
 have hlt:p<s.heap.objs.size:=Heap.lt_size hol
 have hlen:its.toArray.size=bs.length:=by simpa using rv.length.symm
 have at_:∀ (i:Nat) (v:Value),its.toArray[i]? = some v->∃ k,bs[i]? = some k /\ v=Value.bool k:=λi v e=>by
  have e':its[i]? = some v:=by simpa using e
  have hi:i<its.length:=(List.getElem?_eq_some_iff.mp e').1
  have hb:i<(bs.map V.bl).length:=by rw [rv.length]; exact hi
  obtain ⟨u',h1,h2⟩:=rv.get (List.getElem?_eq_getElem hb)
  rw [e'] at h1
  cases h1
  have hb':i<bs.length:=by simpa using hb
  refine ⟨bs[i],List.getElem?_eq_getElem hb',?_⟩
  rw [List.getElem_map] at h2
  exact h2
 refine ⟨s.heap.objs.size,_,_,_,_,_,λi=>bs.getD i true,rfl,Walks.list (A:=X.A.in1) (I.ok.hd hc) s.heap.objs.size p (Nat.ne_of_lt hlt) its.toArray,⟨⟨_,Heap.get?_push_size _ rfl,rfl,rfl⟩,⟨ol,Heap.get?_push_of_some _ hol,hol'⟩⟩,?_,?_⟩
 ·intro i v s' Q' E' hP hQ'
  obtain ⟨k,h1,rfl⟩:=at_ i v hP
  have:bs.getD i true=k:=by rw [List.getD_eq_getElem?_getD,h1]; rfl
  dsimp only at hQ'
  rw [this] at hQ'
  exact wpAny_truthy_bool hQ'
 ·intro h' tk hk
  have I1:Inv X pins σ H {s with heap:=h',toks:=tk }:=I.kept λb o e=>hk b o (by
   have:=Heap.lt_size e
   simp
   exact Nat.ne_of_lt this) (Heap.get?_push_of_some _ e)
  refine ⟨.bl _,H,I1,rfl,?_⟩
  have eq:(List.range its.toArray.size).all (λi=>bs.getD i true)=bs.all id:=by
   rw [hlen]
   clear q hq rv at_ hlen hz
   induction bs with
   | nil=>rfl
   | cons b r ih =>
    rw [List.length_cons,List.range_succ_eq_map,List.all_cons,List.all_map,List.all_cons]
    exact congrArg (b && ·) ih
  rw [eq]
  exact q
end
end L2
end
section
namespace L2
open PySem PySem.Spec PyProof.Rows
noncomputable def At (K:PySem.W.Frag) (mg:Str->Option Value) (x:Str) (st:Stmt):Prop:=∃ f fd,Fun K x x st f fd /\ mg x=some (.ref f)
section
variable {X:Cx} {k:Nat} {x:Str} {ps:List Str} {sp:Sp} {p q pos:Pos} {e:Expr} {es:List Expr} {te:TE} {t:TA}
theorem auh (hX:XOk X.K) (c:Ty) (he:PE X e te) (h1:X.mg "isinstance" = none) (h2:X.mg x=none) (hb:bootBuiltins x=some (.type c.name):=by decide +kernel) (hg1:Gl X "isinstance" := by rfl) (hg2:Gl X x:=by rfl) (hn:x ≠ "__name__" := by decide) (hd:(x == ("__debug__" : Str))=false:=by decide)
  (hs:starEach (e :: [.Name x q]) X.env=(false,eval e X.env) :: starEach [.Name x q] X.env:=by rfl):PE X (.Call (.Name "isinstance" p) [e,.Name x q] [] pos) (tCB (awt X.K) (ad6 te (ad6 (tC (.ty c.name)) anI))) :=
 agM (apt hX) hg1 h1 PyProof.Rows.boot_isinstance (acM he (acM (anA hg2 h2 hb rfl hn hd) aai) hs) (he:=hs)
end
end L2
end
section
namespace L2
open PySem PySem.Spec PyProof.Rows
noncomputable def off (a:Addr) (H:Hp):Hp:=λb=>if b=a then none else H b
theorem off_ne {a b:Addr} {H:Hp} (h:b ≠ a):off a H b=H b:=if_neg h
theorem aeR {a b:Addr} {H:Hp} {o:HO} (h:off a H b=some o):b ≠ a /\ H b=some o:=by
 unfold off at h
 split at h
 ·cases h
 ·rename_i e; exact ⟨e,h⟩
structure Pj (Pr:Hp->Hp) (H0:Hp):Prop where
 mono:∀ {H H':Hp},Same H H'->Same (Pr H) (Pr H')
 sub:∀ H,Same (Pr H) H
 new:∀ {H:Hp} {r:Addr} {o:HO},Same H0 H->H r=none->Pr (upd H r o) r=some o
theorem Pj.id (H0:Hp):Pj (λH=>H) H0:=⟨λs=>s,λH=>Same.refl H,λ_ _=>aa9⟩
theorem Pj.le {Pr:Hp->Hp} {H0 H1:Hp} (p:Pj Pr H0) (s:Same H0 H1):Pj Pr H1:=⟨p.mono,p.sub,λs' h=>p.new (s.trans s') h⟩
theorem aaW {H:Hp} {p:Addr} (h:H p=none) (o:HO):Same H (upd H p o):=λb u q=>by rw [aaF (abh q h)]; exact q
section
variable (K:PySem.W.Frag) (Pr:Hp->Hp) (σ : St) (H0:Hp)
end
section
variable {K:PySem.W.Frag} {Pr:Hp->Hp} {σ : St} {H0:Hp} {te tb:TE} {ta:TA} {T:Tr} {Ts Us:List Tr}
end
end L2
end
section
namespace L2
open PySem PySem.Spec PyProof.Rows
noncomputable def notStar:Expr->Bool
 | .Starred _ _=>false
 | _=>true
theorem acX {e:Expr} {es:List Expr} {env:Env} (h:notStar e=true):starEach (e :: es) env=(false,eval e env) :: starEach es env:=by
 cases e <;> first | rfl | (unfold notStar at h; cases h)
noncomputable def tEv (K:PySem.W.Frag) (T:Tr):TE:=λ_ H Q=>∀ v H',Same H H'->(∀ Pr,Pj Pr H->Rep K (Pr H') v T)->Q v H'
noncomputable def atx (K:PySem.W.Frag) (Ts:List Tr):TA:=λ_ H Q=>∀ vs H',Same H H'->(∀ Pr,Pj Pr H->abd K (Pr H') vs Ts)->Q vs H'
noncomputable def awu (K:PySem.W.Frag) (Ts:List Tr):TE:=λ_ H Q=>∀ a xs H1,Same H H1->H1 a=none->(∀ Pr,Pj Pr H->abd K (Pr H1) xs Ts)->xs.length=Ts.length->Q (.ref a) (upd H1 a (.lst xs))
theorem PE.imp {X:Cx} {e:Expr} {t u:TE} (h:PE X e t) (i:∀ σ H Q,u σ H Q->t σ H Q):PE X e u:=⟨λpins s σ H Q I q=>h pins s σ H Q I (i σ H Q q)⟩
theorem PA.imp {X:Cx} {e:List Expr} {t u:TA} (h:PA X e t) (i:∀ σ H Q,u σ H Q->t σ H Q):PA X e u:=⟨λpos pins s σ H Q I q=>h pos pins s σ H Q I (i σ H Q q)⟩
section
variable {X:Cx} {e:Expr} {es:List Expr} {T:Tr} {Ts:List Tr} {pos:Pos} {k:Nat}
end
end L2
end
section
namespace L2
open PySem PySem.Spec PyProof.Rows
mutual
noncomputable def pd:Tr->PyData
 | .non => .none
 | .bl b => .bool b
 | .int i => .int i
 | .str x => .str x
 | .tup ts => .tuple (pds ts)
 | .lst ts => .list (pds ts)
 | .exn _ => .none
noncomputable def pds:List Tr->List PyData
 | [] => []
 | t :: r=>pd t :: pds r
end
section
variable {X:Cx} {pins:List (Addr × Obj)} {σ : St} {H:Hp} {s:Shared}
end
end L2
end
section
namespace L2
open PySem PySem.Spec PyProof.Rows
noncomputable def ayQ:V->Option Int->Option Int->Hp->VK->Prop:=λx lo hi H Q=>∃ z,x = .str z /\ z.length<=sizeLine /\ Q (.str (Txt.slice z lo hi)) H
theorem aui {X:Cx}:SlR X ayQ:=by
 intro pins s σ H x v vl vu lo hi sl Q I rx hs pl pu h
 obtain ⟨z,rfl,hz,q⟩:=h
 obtain ⟨t,rfl⟩:=rx
 obtain ⟨o,h1,h2,h3⟩:=hs
 have fin:∀ (t':Tok) (k:Nat),EP X pins σ Q (.str (Txt.slice z lo hi) t') {s with toks:=k }:=λt' k=>⟨.str _,H,I.tok k,⟨_,rfl⟩,q⟩
 have hl:=Nat.le_trans (Txt.slice_le z lo hi) hz
 refine ⟨"str",_,F.slot_str_getitem.lookup,typeIs_str _ _ _,?_⟩
 cases pl with
 | none =>
  cases pu with
  | none=>exact wpAny_getItem_str_slice (l:=none) (u:=none) (st:=none) ⟨o,h1,h2,h3⟩ rfl (post_val_or_str ⟨hl,λt' k=>fin t' k⟩)
  | int j uj=>exact wpAny_getItem_str_slice (l:=none) (u:=some (j,uj)) (st:=none) ⟨o,h1,h2,h3⟩ rfl (post_val_or_str ⟨hl,λt' k=>fin t' k⟩)
 | int i ui =>
  cases pu with
  | none=>exact wpAny_getItem_str_slice (l:=some (i,ui)) (u:=none) (st:=none) ⟨o,h1,h2,h3⟩ rfl (post_val_or_str ⟨hl,λt' k=>fin t' k⟩)
  | int j uj=>exact wpAny_getItem_str_slice (l:=some (i,ui)) (u:=some (j,uj)) (st:=none) ⟨o,h1,h2,h3⟩ rfl (post_val_or_str ⟨hl,λt' k=>fin t' k⟩)
noncomputable def nw (H H':Hp):Hp:=λb=>match H b with
 | none=>H' b
 | some _=>none
end L2
end
section
namespace L2
open PySem PySem.Spec PyProof.Rows
noncomputable def CXF (P:Program) (w:World):CXT:=λouter H s E e s'=>∃ ea cls a0 H' B,e = .ref ea /\ E cls none H' /\ s'.os=s.os /\ AllBare s'.gens /\ Un (frs outer) [] H H' s.heap s'.heap /\ HOk P w H' B /\
 Heap.FlyingW B outer ea cls a0 s'.heap /\ ∀ b o,s.heap.get? b=some o->b ∉ frs outer->∃ o',B.get? b=some o'
theorem apu {env:Env} {outer:List Env} {L b:Addr} (hf:env.frame=some L) (h:b ∈ frs (env :: outer)):b=L \/ b ∈ frs outer:=by
 unfold frs at h
 rw [List.filterMap_cons_some hf] at h
 exact List.mem_cons.mp h
theorem arH {env:Env} {outer:List Env} {b:Addr} (h:b ∈ frs outer):b ∈ frs (env :: outer):=by
 obtain ⟨e,he,q⟩:=List.mem_filterMap.mp h
 exact List.mem_filterMap.mpr ⟨e,List.mem_cons_of_mem _ he,q⟩
theorem apv {P:Program} {w:World} {H:Hp} {h:Heap} {l:List Addr} (x:HOk P w H h) (fr:∀ b ∈ l,H b=none):HOk P w H (PySem.W.hideAll h l):=λa o e =>
 (x a o e).stay (λb u hb q=>PySem.W.hideAll_get _ q λhm=>by
  rcases hb with rfl | hb
  ·rw [fr _ hm] at e; cases e
  ·rw [fr _ hm] at hb; cases hb) (λ_ q=>q) λ_ _ q=>q
section
variable {P:Program} {w:World} {K:PySem.W.Frag} {mg:Str->Option Value} {base:Heap} {N:List Str} {qual:Str} {scope:Scope} {f:Addr} {cd:Value} {A:Around} {outer:List Env} {s:Shared} {H:Hp} {E:XK} {CX:CXT}
theorem Un.left {pins:List (Addr × Obj)} {σ : St} {H1 H2:Hp} {s1:Shared} {h2 h3 B:Heap} (I:Inv (alG CX P w K mg base N qual scope f cd A outer s H E) pins σ H1 s1)
  (u:Un (frs (envOfC qual scope s.heap.objs.size f cd :: outer)) [] H1 H2 s1.heap h2) (st:B.StaysIn h2) (kb:∀ b o,s1.heap.get? b=some o->b ∉ frs (envOfC qual scope s.heap.objs.size f cd :: outer)->∃ o',B.get? b=some o')
  (fl:B.StaysIn h3) (sl:h2.UpToSlots h3):Un (frs outer) [] H H2 s.heap h3 /\ ∀ b o,s.heap.get? b=some o->b ∉ frs outer->∃ o',B.get? b=some o':=by
 have ub:=I.base
 have hf:(envOfC qual scope s.heap.objs.size f cd).frame=some s.heap.objs.size:=by
  rcases I.ok.stk with z | z
  ·exact absurd (congrArg List.length z) (by show outer.length + 1 ≠ outer.length; omega)
  ·exact z.2
 have no:∀ b o,s.heap.get? b=some o->b ∉ frs outer->b ∉ frs (envOfC qual scope s.heap.objs.size f cd :: outer):=λb o e n z=>by
  rcases apu hf z with rfl | z
  ·exact absurd (Heap.lt_size e) (Nat.lt_irrefl _)
  ·exact n z
 have nx:∀ b:Addr,b ∉ ([]:List Addr):=λb z=>nomatch z
 have inB:∀ b o,s.heap.get? b=some o->b ∉ frs outer->∃ o',B.get? b=some o':=λb o e n=>by
  obtain ⟨o1,e1⟩:=ub.there b o e (nx b)
  exact kb b o1 e1 (no b o e n)
 have slots:∀ b o,s.heap.get? b=some o->H b=none->b ∈ frs outer->∃ sl,h3.get? b=some {o with slots:=sl }:=λb o e n z=>by
  obtain ⟨sl1,e1⟩:=ub.slot b o e n z (nx b)
  obtain ⟨sl2,e2⟩:=u.slot b _ e1 (ub.free b o e n (nx b)) (arH z) (nx b)
  obtain ⟨_,o',e',nf⟩:=I.ok.amf.mem z
  have e'':s.heap.get? b=some o':=e'
  rw [e] at e''
  cases e''
  obtain ⟨sl3,e3⟩:=sl b _ e2 nf
  exact ⟨sl3,e3⟩
 refine ⟨⟨λb o e n z _=>?_,λb o e n z _=>slots b o e n z,λb o e n _=>?_,λb o e _=>?_,λb xs q=>u.tups b xs (ub.tups b xs q),λb o q z=>u.alx b o q (ub.alx b o q z),λb ps q=>?_⟩,inB⟩
 ·have e1:=ub.keep b o e n z (nx b)
  have e2:=u.keep b o e1 (ub.free b o e n (nx b)) (no b o e z) (nx b)
  obtain ⟨o',e3⟩:=inB b o e z
  have e4:=st b o' e3
  rw [e2] at e4
  cases e4
  exact fl b o e3
 ·obtain ⟨o1,e1⟩:=ub.there b o e (nx b)
  exact u.free b o1 e1 (ub.free b o e n (nx b)) (nx b)
 ·by_cases z:b ∈ frs outer
  ·obtain ⟨sl,e1⟩:=slots b o e (I.ok.frf b z) z
   exact ⟨_,e1⟩
  ·obtain ⟨o',e1⟩:=inB b o e z
   exact ⟨o',fl b o' e1⟩
 ·obtain ⟨m1,e1⟩:=ub.aly b ps q
  obtain ⟨m2,e2⟩:=u.aly b _ e1
  exact ⟨m1 ++ m2,by rw [e2,Array.append_assoc]⟩
end
noncomputable def Raises (X:Cx) (E:XK):Prop:=∀ (pins:List (Addr × Obj)) (σ : St) (H:Hp) (s:Shared) (h':Heap) (e C:Addr) (us:List Value),Inv X pins σ H s->Heap.MadeExcOf s.heap h' e (.ref C) us->E (.ref C) none H->X.xe (.ref e) {s with heap:=h' }
theorem aft {P:Program} {w:World} {K:PySem.W.Frag} {mg:Str->Option Value} {base:Heap} {N:List Str} {qual:Str} {scope:Scope} {f:Addr} {cd:Value} {A:Around} {outer:List Env} {s:Shared} {H:Hp} {E:XK} :
  Raises (alG (CXF P w) P w K mg base N qual scope f cd A outer s H E) E:=by
 intro pins σ H1 s1 h' e C us I hx q
 have hs:=I.stack
 have hf:(envOfC qual scope s.heap.objs.size f cd).frame=some s.heap.objs.size:=by
  rcases I.ok.stk with z | z
  ·exact absurd (congrArg List.length z) (by show outer.length + 1 ≠ outer.length; omega)
  ·exact z.2
 have hin:∀ env ∈ (envOfC qual scope s.heap.objs.size f cd :: outer),∀ a,env.frame=some a->a ∈ frs (envOfC qual scope s.heap.objs.size f cd :: outer):=λenv he b hb=>List.mem_filterMap.mpr ⟨env,he,hb⟩
 have stB:(PySem.W.hideAll s1.heap (frs (envOfC qual scope s.heap.objs.size f cd :: outer))).StaysIn s1.heap:=λb o z=>PySem.W.of_hideAll _ z
 have stH:(PySem.W.hideAll s1.heap (frs (envOfC qual scope s.heap.objs.size f cd :: outer))).StaysIn h':=λb o z=>hx.keeps b o (stB b o z)
 refine wpAny_leaves_madeW (base:=PySem.W.hideAll s1.heap (frs (envOfC qual scope s.heap.objs.size f cd :: outer))) (h:=s1.heap) I.ok.frames hf stB (PySem.W.funFrames_hide hs hin) hx λh'' t fl _ _ sl=>?_
 obtain ⟨un,ib⟩:=Un.left (B:=PySem.W.hideAll s1.heap (frs (envOfC qual scope s.heap.objs.size f cd :: outer))) I (Un.kept (h':=h') hx.keeps) stH (λb o z n=>⟨o,PySem.W.hideAll_get _ z n⟩) fl.1 sl
 exact ⟨e,.ref C,.ref t,H1,_,rfl,q,I.os,I.bare,un,apv I.hok I.afS,fl,ib⟩
theorem aat {P:Program} {w:World} {K:PySem.W.Frag} {mg:Str->Option Value} {base:Heap} {N:List Str} {qual:Str} {scope:Scope} {f:Addr} {cd:Value} {A:Around} {outer:List Env} {s:Shared} {H:Hp} {E:XK} :
  Passes (CXF P w) (alG (CXF P w) P w K mg base N qual scope f cd A outer s H E) E:=by
 intro pins σ H1 s1 e s' I h
 obtain ⟨ea,cls,a0,H2,B,rfl,q,os,bare,un,hok,fl,kb⟩:=h
 have hf:(envOfC qual scope s.heap.objs.size f cd).frame=some s.heap.objs.size:=by
  rcases I.ok.stk with z | z
  ·exact absurd (congrArg List.length z) (by show outer.length + 1 ≠ outer.length; omega)
  ·exact z.2
 refine wpAny_leaves_onW (base:=B) I.ok.frames hf fl λh'' fl' sl=>?_
 obtain ⟨un',ib⟩:=Un.left (B:=B) I un fl.1 kb fl'.1 sl
 exact ⟨ea,cls,a0,H2,B,rfl,q,os.trans I.os,bare,un',hok,fl',ib⟩
noncomputable def aqO (E:XK) (C:Addr) (te:TE):TS:=λ_ σ H=>te σ H λv H1 => [v].length=1 /\ E (.ref C) none H1
theorem agQ {X:Cx} {E:XK} {x:Str} {C:Addr} {B newId initId:String} {bm:List Value} {np cpos pos:Pos} {e:Expr} {te:TE} (R:Raises X E) (O:OwnCls x C bm newId X.mg X.base) (FB:ExcBaseFacts B newId initId bm) (hc:X.calm=true) (ha:PE X e te)
  (hg:Gl X x:=by rfl) (hd:(x == ("__debug__" : Str))=false:=by decide) (hs:starEach [e] X.env = [(false,eval e X.env)]:=by rfl) :
  PS X (.Raise (some (.Call (.Name x np) [e] [] cpos)) none pos) (aqO E C te):=by
 refine ⟨λpins s σ H D I h=>?_⟩
 obtain ⟨tl,N,nm,q,bs,hdct,sn,sub,ab,col,dd,k0,k1,k2,k3,k5,mN,hC,hN,hni,T⟩:=O.obj
 refine wpAny_Raise_call_subT (C:=C) (nm:=nm) (q:=q) (N:=N) (bs:=bs) (bm:=tl) (hdct:=hdct) (sn:=sn) (sub:=sub) (ab:=ab) (col:=col) (dd:=dd) (k0:=k0) (k1:=k1) (k2:=k2) (k3:=k3) (k5:=k5)
  FB (mN:=mN) (T.hasType FB.hasBase) (I.ok.hd hc) (by rw [hs]; rfl) hni (ag1 I hg O.bound ⟨rfl,?_⟩ hd)
 have ga:PA X [e] (ad6 te anI):=acM ha aai (by rw [hs]; rfl)
 have z:=ga cpos pins s σ H (λvs H1=>vs.length=1 /\ E (.ref C) none H1) I (by
  show te σ H λv H1=>_
  exact h)
 rw [hs] at z ⊢
 refine Calls.evalArgs_plain (wpAny_mono z (λus s₂ h₂ => ?_) λ_ _ y=>y)
 obtain ⟨vs,H2,I2,rv,hl,hE⟩:=h₂
 refine ⟨rfl,?_,I2.bk _ _ hC,hN.keeps I2.bk,T.keeps I2.bk,λh' e' hm=>R pins σ H2 s₂ h' e' C us I2 hm hE⟩
 rw [<-rv.length,hl]
 decide
end L2
end
section
namespace L2
open PySem PySem.Spec PyProof.Rows
noncomputable def XP (X:Cx) (pins:List (Addr × Obj)) (EX:St->XK) (e:Value) (s':Shared):Prop:=∃ σ H s,Inv X pins σ H s /\ CXF X.prog X.w X.stack H s (EX σ) e s'
noncomputable abbrev TX:=Ends->(St->XK)->St->Hp->Prop
noncomputable abbrev TEX:=(St->XK)->TE
noncomputable def PX (X:Cx) (st:Stmt) (t:TX):Prop :=
 ∀ (pins:List (Addr × Obj)) (s:Shared) (σ : St) (H:Hp) (D:Ends) (EX:St->XK),Inv X pins σ H s->t D EX σ H->wpAny (model X.prog X.w) X.A (exec st X.env) (SP X pins D) (XP X pins EX) s
noncomputable def PXs (X:Cx) (st:List Stmt) (t:TX):Prop :=
 ∀ (pins:List (Addr × Obj)) (s:Shared) (σ : St) (H:Hp) (D:Ends) (EX:St->XK),Inv X pins σ H s->t D EX σ H->wpAny (model X.prog X.w) X.A (execs st X.env) (SP X pins D) (XP X pins EX) s
noncomputable def PEX (X:Cx) (e:Expr) (t:TEX):Prop :=
 ∀ (pins:List (Addr × Obj)) (s:Shared) (σ : St) (H:Hp) (Q:VK) (EX:St->XK),Inv X pins σ H s->t EX σ H Q->wpAny (model X.prog X.w) X.A (eval e X.env) (EP X pins σ Q) (XP X pins EX) s
section
variable {X:Cx} {k:Nat} {f:Addr} {fd:FuncData} {x:Str} {ps:List Str} {sp:Sp} {p pos:Pos} {e:Expr} {es:List Expr} {te:TEX} {t:TA} {st:Stmt} {rest:List Stmt} {a b:TX}
theorem aks (h1:PX X st a):PXs X [st] a:=by
 intro pins s σ H D EX I h
 refine wpAny_execs_cons (wpAny_mono (h1 pins s σ H D EX I h) (λf s1 q=>?_) λ_ _ z=>z)
 cases f with
 | next=>exact wpAny_execs_nil q
 | ret u=>exact q
 | brk=>exact q
 | cont=>exact q
theorem awY {c:Expr} {l r:List Stmt} {tc:TT} (hc:PT X.nox c tc) (ha:PXs X l a) (hb:PXs X r b):PX X (.If c l r pos) (λD EX σ H=>tc σ H λd H1=>if d=true then a D EX σ H1 else b D EX σ H1):=by
 intro pins s σ H D EX I h
 refine wpAny_If (wpAny_mono (hc pins s σ H _ (I.wish _) h) (λd s1 ⟨H1,I1,q1⟩=>?_) λ_ _ z=>False.elim z)
 cases d with
 | true=>exact ha pins s1 σ H1 D EX I1.aez (by simpa using q1)
 | false=>exact hb pins s1 σ H1 D EX I1.aez (by simpa using q1)
noncomputable def anR (sp:Sp) (t:TA):TEX:=λEX σ H Q=>t σ H λvs H1=>sp vs H1 Q (EX σ)
theorem apw (F:alF X.prog X.w X.K X.mg X.base (CXF X.prog X.w) k f fd ps sp) (hr:afT k X.A) (hm:X.mg x=some (.ref f)) (hk:PySem.W.keepIn X.K (.ref f)=true) (hb:Binds X.K fd ps []) (ha:PA X.nox (e :: es) t) (hg:Gl X x:=by rfl)
  (hdb:(x == ("__debug__" : Str))=false:=by decide) (he:starEach (e :: es) X.env=(false,eval e X.env) :: starEach es X.env:=by rfl) (hpl:(backTo pos (starEach es X.env)).any (·.1)=false:=by rfl) :
  PEX X (.Call (.Name x p) (e :: es) [] pos) (anR sp t):=by
 intro pins s σ H Q EX I h
 refine wpAny_Call_Name_kw (ag1 I hg hm ?_ hdb)
 refine PySem.W.callWith_K (h₀ := X.base) I.ok.mod.kin hk (wpAny_mono (ha pos pins s σ H _ (I.wish _) h) (λus s1 ⟨vs,H1,I1',r,q⟩=>?_) λ_ _ z=>False.elim z) he hpl
 have I1:=I1'.aez
 refine ⟨I1.kIn,?_⟩
 have hl:(us ++ []).length=ps.length:=by rw [List.append_nil,<-r.length]; exact F.len _ _ _ _ q
 have hb':=hb s1 us I1.kIn hl
 rw [List.append_nil] at hb'
 refine wpAny_call (codeAny_mono (F.run X.A X.stack s1 H1 ⟨us,[]⟩ us vs Q (EX σ) hr I1.env0 hb' r q) λr s' hq=>?_)
 cases r with
 | error e=>exact ⟨σ,H1,s1,I1,hq⟩
 | ok fl =>
  cases fl with
  | ret u=>exact I1.after hq
  | next=>exact False.elim hq
  | brk=>exact False.elim hq
  | cont=>exact False.elim hq
end
end L2
end
section
namespace L2
open PySem PySem.Spec PyProof.Rows
theorem ae9.here {P:Program} {w:World} {H:Hp} {h:Heap} {a:Addr} {o:HO} (x:ae9 P w H h a o):∃ u,h.get? a=some u:=by
 cases o with
 | lst xs=>obtain ⟨_,_,_,_,e⟩:=x; exact ⟨_,e⟩
 | tup xs=>obtain ⟨_,_,_,_,e,_⟩:=x; exact ⟨_,e⟩
 | dK kvs=>obtain ⟨_,_,_,_,o,_,_,e,_⟩:=x; exact ⟨_,e⟩
 | dT kvs=>obtain ⟨_,_,_,_,o,_,_,e,_⟩:=x; exact ⟨_,e⟩
 | set S n=>obtain ⟨o,_,_,_,e,_⟩:=x; exact ⟨_,e⟩
 | ins C dx fs=>obtain ⟨_,_,_,e,_⟩:=x; exact ⟨_,e⟩
 | own y=>exact x
 | xd fs=>obtain ⟨_,⟨_,_,_,e,_⟩,_⟩:=x; exact ⟨_,e⟩
 | rng lo hi=>obtain ⟨_,_,_,e⟩:=x; exact ⟨_,e⟩
 | frz ob u=>obtain ⟨e,_⟩:=x; exact ⟨_,e⟩
 | tbl ps=>exact ⟨_,(show h.get? a=some _ from x)⟩
 | met f y=>exact ⟨_,(show h.get? a=some _ from x)⟩
 | ext φ => exact x.2.1
theorem Un.flown {fs:List Addr} {H1 H2:Hp} {h0 h1 h6 B:Heap} (un:Un fs [] H1 H2 h0 h1) (kb:∀ b o,h0.get? b=some o->b ∉ fs->∃ o',B.get? b=some o') (st1:B.StaysIn h1) (st6:B.StaysIn h6) (sl:h1.UpToSlots h6)
  (nf:∀ b ∈ fs,∀ o,h0.get? b=some o->∀ vs,o.data ≠ .fields vs) (fr:∀ b ∈ fs,H1 b=none):Un fs [] H1 H2 h0 h6:=by
 have slots:∀ b o,h0.get? b=some o->H1 b=none->b ∈ fs->∃ sl,h6.get? b=some {o with slots:=sl }:=λb o e n z=>by
  obtain ⟨s1,e1⟩:=un.slot b o e n z (λz=>nomatch z)
  obtain ⟨s2,e2⟩:=sl b _ e1 (nf b z o e)
  exact ⟨s2,e2⟩
 refine ⟨λb o e n z _=>?_,λb o e n z _=>slots b o e n z,un.free,λb o e _=>?_,un.tups,un.alx,un.aly⟩
 ·have e1:=un.keep b o e n z (λz=>nomatch z)
  obtain ⟨o',e2⟩:=kb b o e z
  have e3:=st1 b o' e2
  rw [e1] at e3
  cases e3
  exact st6 b o e2
 ·by_cases z:b ∈ fs
  ·obtain ⟨s1,e1⟩:=slots b o e (fr b z) z
   exact ⟨_,e1⟩
  ·obtain ⟨o',e1⟩:=kb b o e z
   exact ⟨o',st6 b o' e1⟩
section
variable {X:Cx} {pins:List (Addr × Obj)} {σ : St} {H1 H2:Hp} {s0 s1:Shared} {B h6:Heap} {ea:Addr} {cls a0:Value}
theorem Inv.flown (I:Inv X pins σ H1 s0) (un:Un (frs X.stack) [] H1 H2 s0.heap s1.heap) (os:s1.os=s0.os) (bare:AllBare s1.gens) (hok:HOk X.prog X.w H2 B) (fl:Heap.FlyingW B X.stack ea cls a0 s1.heap)
  (kb:∀ b o,s0.heap.get? b=some o->b ∉ frs X.stack->∃ o',B.get? b=some o') (fl6:Heap.FlyingW B X.stack ea cls a0 h6) (sl:s1.heap.UpToSlots h6) :
  H2 ea=none /\ Inv X pins σ H2 {s1 with heap:=h6 } /\ ∀ C,cls = .ref C->Inv X pins σ (upd H2 ea (exO ea C)) {s1 with heap:=h6 }:=by
 have nf:∀ b ∈ frs X.stack,∀ o,s0.heap.get? b=some o->∀ vs,o.data ≠ .fields vs:=λb hb o e=>by
  obtain ⟨_,o',e',q⟩:=I.stack.mem hb
  rw [e] at e'
  cases e'
  exact q
 have u6:=un.flown kb fl.1 fl6.1 sl nf I.afS
 have k6:HOk X.prog X.w H2 h6:=hok.kept fl6.1
 have fe:H2 ea=none:=by
  cases q:H2 ea with
  | none=>rfl
  | some u =>
   obtain ⟨o,e⟩:=(hok ea u q).here
   rw [fl.2.1] at e
   cases e
 have ne0:s0.heap.get? ea=none:=by
  cases q:s0.heap.get? ea with
  | none=>rfl
  | some o =>
   by_cases z:ea ∈ frs X.stack
   ·obtain ⟨sl1,e1⟩:=un.slot ea o q (I.afS ea z) z (λz=>nomatch z)
    obtain ⟨oe,vs,e2,_,d,_⟩:=fl.first
    rw [e1] at e2
    cases e2
    exact absurd d (nf ea z o q vs)
   ·obtain ⟨o',e1⟩:=kb ea o q z
    rw [fl.2.1] at e1
    cases e1
 refine ⟨fe,I.call' (s':={s1 with heap:=h6 }) (ch := []) os u6 k6 bare (λb z=>nomatch z),λC hC=>?_⟩
 obtain ⟨oe,vs,e2,c2,d2,_⟩:=fl6.first
 have nee:∀ b o,s0.heap.get? b=some o->b ≠ ea:=λb o e z=>by rw [z,ne0] at e; cases e
 have neH:∀ b o,H2 b=some o->b ≠ ea:=λb o e z=>by rw [z,fe] at e; cases e
 refine I.call' (s':={s1 with heap:=h6 }) (H':=upd H2 ea (exO ea C)) (ch := []) os ⟨u6.keep,u6.slot,λb o e n hx=>?_,u6.there,λb xs e=>?_,λb o u e=>?_,λb ps e=>?_⟩ (λb u e=>?_) bare (λb z=>nomatch z)
 ·rw [aaF (nee b o e)]
  exact u6.free b o e n hx
 ·have:=u6.tups b xs e
  rw [aaF (neH b _ this)]
  exact this
 ·have:=u6.alx b o u e
  rw [aaF (neH b _ this)]
  exact this
 ·obtain ⟨m,q⟩:=u6.aly b ps e
  exact ⟨m,by rw [aaF (neH b _ q)]; exact q⟩
 ·by_cases z:b=ea
  ·subst z
   rw [aa9] at e
   cases e
   exact ⟨⟨oe,vs,e2,c2.trans hC,d2⟩,⟨oe,e2⟩,λh1 h2 ⟨o,ws,q1,q2,q3⟩ k=>⟨o,ws,k o q1,q2,q3⟩⟩
  ·rw [aaF z] at e
   exact (k6 b u e).stay (λ_ _ _ q=>q) (λc q=>by rw [aaF (neH c _ q)]; exact q) λc xs q=>by rw [aaF (neH c _ q)]; exact q
end
theorem alK {X:Cx} {pins:List (Addr × Obj)} {σ : St} {H:Hp} {s:Shared} {M:Model} {A:Around} {E:Value->Shared->Prop} {j:Nat} {n:Str} {pos:Pos} {Q:Unit->Shared->Prop} (I:Inv X pins σ H s) (hN:X.N.Nodup) (hj:X.N[j]? = some n) (hl:X.env.kindOf n=some .local)
  (h:∀ s',Inv X pins (σ.set j none) H s'->Q () s'):wpAny M A (do bindName X.env n .none; unbindBehindTheSuite X.env n pos) Q E s:=by
 obtain ⟨m,hn,hv⟩:=id I.loc
 refine wpAny_nameGoes_keeps hl hn (by rw [I.ok.kind]; rfl) λh' v hn' hs=>?_
 have neL:∀ b o,X.s₀.heap.get? b=some o->b ≠ X.env.locals:=λb o e=>Nat.ne_of_lt (Nat.lt_of_lt_of_le (Heap.lt_size e) I.ok.above)
 refine h _ ⟨I.ok,I.os,I.bare,⟨λb o e n hb hx=>(hs.2 b (neL b o e)).trans (I.base.keep b o e n hb hx),λb o e n hb hx=>?_,I.base.free,λb o e hx=>?_,I.base.tups,I.base.alx,I.base.aly⟩,
  ⟨_,hn',λi y v' e1 e2 e3=>?_⟩,λy c e=>?_,I.free,I.afo,λp hp=>?_,λb o e=>?_,by rw [List.length_set]; exact I.len⟩
 ·obtain ⟨sl,e1⟩:=I.base.slot b o e n hb hx
  exact ⟨sl,(hs.2 b (neL b o e)).trans e1⟩
 ·obtain ⟨o',e1⟩:=I.base.there b o e hx
  exact ⟨o',(hs.2 b (neL b o e)).trans e1⟩
 ·by_cases hi:i=j
  ·subst hi
   rw [List.getElem?_set] at e2
   split at e2
   ·split at e2 <;> cases e2
   ·rename_i z; exact absurd rfl z
  ·rw [List.getElem?_set_ne (Ne.symm hi)] at e2
   obtain ⟨u',r',q⟩:=hv i y v' e1 e2 e3
   refine ⟨u',r',?_⟩
   rcases q with ⟨k,e⟩ | ⟨k,c,e,z⟩
   ·refine .inl ⟨k,?_⟩
    have:y ≠ n:=λe=>hi (aix hN e1 (e ▸ hj))
    simp [this,e]
   ·exact .inr ⟨k,c,e,z.sameBut hs (I.cne y c e)⟩
 ·obtain ⟨w',z⟩:=I.cell y c e
  exact ⟨w',z.sameBut hs (I.cne y c e)⟩
 ·obtain ⟨e,n,ne,nf,d⟩:=I.pin p hp
  exact ⟨(hs.2 p.1 ne).trans e,n,ne,nf,d⟩
 ·refine (I.hok b o e).stay (λc u hc q=>(hs.2 c ?_).trans q) (λ_ q=>q) λ_ _ q=>q
  rintro rfl
  rcases hc with rfl | hc
  ·rw [I.free] at e; cases e
  ·rw [I.free] at hc; cases hc
end L2
end
section
namespace L2
open PySem PySem.Spec PyProof.Rows
noncomputable abbrev Cx.caught (X:Cx) (e:Value):Cx:={X with A:=X.A.mark (some e),calm:=false,xe:=λ_ _=>False }
section
variable {X:Cx} {pins:List (Addr × Obj)} {σ : St} {H:Hp} {s:Shared} {e:Value}
theorem Inv.caught (I:Inv X pins σ H s) (e:Value):Inv (X.caught e) pins σ H s :=
 ⟨⟨I.ok.mod,I.ok.kind,I.ok.glob,I.ok.blt,I.ok.above,I.ok.inj,I.ok.has,I.ok.cab,(λz=>nomatch z),I.ok.frames,I.ok.stk,I.ok.exf,I.ok.bs,I.ok.bsz,I.ok.akl,I.ok.atL,I.ok.amf,I.ok.frf⟩,I.os,I.bare,I.base,I.loc,I.cell,I.free,I.afo,I.pin,I.hok,I.len⟩
theorem Inv.uncaught (ok:X.Ok) (I:Inv (X.caught e) pins σ H s):Inv X pins σ H s:=⟨ok,I.os,I.bare,I.base,I.loc,I.cell,I.free,I.afo,I.pin,I.hok,I.len⟩
theorem SP.uncaught {D:Ends} {f:Flow} {s':Shared} (ok:X.Ok) (h:SP (X.caught e) pins D f s'):SP X pins D f s':=by
 cases f with
 | next=>obtain ⟨σ',H',I,q⟩:=h; exact ⟨σ',H',I.uncaught ok,q⟩
 | brk=>obtain ⟨σ',H',I,q⟩:=h; exact ⟨σ',H',I.uncaught ok,q⟩
 | cont=>obtain ⟨σ',H',I,q⟩:=h; exact ⟨σ',H',I.uncaught ok,q⟩
 | ret u=>obtain ⟨v,σ',H',I,r,q⟩:=h; exact ⟨v,σ',H',I.uncaught ok,r,q⟩
end
noncomputable def goes (j:Nat) (D:Ends):Ends where
 nx:=λσ H=>D.nx (σ.set j none) H
 rt:=D.rt
 bk:=λσ H=>D.bk (σ.set j none) H
 ct:=λσ H=>D.ct (σ.set j none) H
noncomputable def exK (K:PySem.W.Frag) (cH:Addr) (j:Nat) (ts:TS) (D:Ends):St->XK:=λσ cls _ H=>∃ C,cls = .ref C /\ PySem.W.exmOne K (.ref C) (.ref cH)=some true /\ ∀ ea,H ea=none->ts (goes j D) (σ.set j (some (.ref ea))) (upd H ea (exO ea C))
noncomputable def ayR (K:PySem.W.Frag) (cH:Addr) (j:Nat) (tb:TX) (ts:TS):TS:=λD σ H=>tb D (exK K cH j ts D) σ H
theorem auj {X:Cx} {body:List Stmt} {tb:TX} {hn n:Str} {hp hpos pos:Pos} {b₀ : Stmt} {suite:List Stmt} {ts:TS} {cH:Addr} {j:Nat} (hst:X.stack=X.env :: X.outer) (hN:X.N.Nodup) (hj:X.N[j]? = some n) (hloc:X.env.kindOf n=some .local)
  (hb:PXs X body tb) (hm:X.mg hn=some (.ref cH)) (hsu:∀ e,PSs (X.caught e) (b₀ :: suite) ts) (hg:Gl X hn:=by rfl) (hd:(hn == ("__debug__" : Str))=false:=by decide) :
  PS X (.Try body [.ExceptHandler (some (.Name hn hp)) (some n) (b₀ :: suite) hpos] [] [] pos) (ayR X.K cH j tb ts):=by
 refine ⟨λpins s σ H D I h=>?_⟩
 refine wpAny_Try_except (wpAny_mono (hb pins s σ H D (exK X.K cH j ts D) I h) (λf s1 q=>?_) λe s1 hx=>?_)
 ·cases f with
  | next=>exact wpAny_execs_nil q
  | ret u=>exact q
  | brk=>exact q
  | cont=>exact q
 obtain ⟨σ1,H1,s0,I1,ea,cls,a0,H2,B,rfl,⟨C,rfl,hit,q⟩,os,bare,un,hok,fl,kb⟩:=hx
 have hf:X.env.frame=some X.env.locals:=by
  rcases I1.ok.stk with z | z
  ·rw [hst] at z
   exact absurd (congrArg List.length z) (by simp)
  ·exact z.2
 have hfr:X.A.frames=some (X.env :: X.outer):=by rw [<-hst]; exact I1.ok.frames
 rw [hst] at fl
 refine wpAny_looks_onW (base:=B) hfr hf fl λh4 held sl4=>?_
 refine wpAny_landsW held λh5 fl5 sl5=>?_
 have fl':=fl
 rw [<-hst] at fl'
 have ayS:=fl5
 rw [<-hst] at ayS
 obtain ⟨fe,I5,_⟩:=I1.flown un os bare hok fl' kb ayS (sl4.trans sl5)
 refine wpAny_handleBy_cons (codeAny_handlers_test (A:=X.A.mark (some (.ref ea))) ?_) (by intro z; cases z)
 refine ag1 (X:=X.caught (.ref ea)) (I5.caught (.ref ea)) hg hm ?_ hd
 have lt:PySem.W.Looks (model X.prog X.w) h5 (typeOf (.ref ea)) (.ref C):=by
  obtain ⟨ob,hob,hc⟩:=fl5.there
  rw [<-hc]
  exact (PySem.W.Looks.ld hob).andThen .now
 refine PySem.W.exm_one I5.kIn lt hit _ _ _ _ (λb o z=>z) ?_
 refine codeAny_handlers_suite_as ?_
 refine lands_againW fl5 λh6 fl6 sl6=>?_
 have ayT:=fl6
 rw [<-hst] at ayT
 obtain ⟨_,_,I6⟩:=I1.flown un os bare hok fl' kb ayT ((sl4.trans sl5).trans sl6)
 refine afp (X:=X.caught (.ref ea)) (i:=j) (v := .ref ea) ((I6 C rfl).caught (.ref ea)) hN hj (.inl hloc) rfl (λs7 I7=>?_) (.inr hloc)
 refine wpAny_mono (hsu (.ref ea) pins s7 _ _ (goes j D) I7 (q ea fe)) (λf s8 h8=>?_) λ_ _ z=>False.elim z
 have h8':=h8.uncaught I1.ok
 cases f with
 | next =>
  obtain ⟨σ',H',I',q'⟩:=h8'
  exact alK I' hN hj hloc λs9 I9=>⟨_,_,I9,q'⟩
 | brk =>
  obtain ⟨σ',H',I',q'⟩:=h8'
  exact alK I' hN hj hloc λs9 I9=>⟨_,_,I9,q'⟩
 | cont =>
  obtain ⟨σ',H',I',q'⟩:=h8'
  exact alK I' hN hj hloc λs9 I9=>⟨_,_,I9,q'⟩
 | ret u =>
  obtain ⟨v,σ',H',I',r,q'⟩:=h8'
  exact alK I' hN hj hloc λs9 I9=>⟨v,_,_,I9,r,q'⟩
end L2
end
section
namespace L2
open PySem PySem.Spec PyProof.Rows PySem.W PySem.Builtin PySem.Builtin.ObjectAttr PySem.Builtin.Getset_descriptor
structure anS (K:Frag) (C:Addr):Prop where
 ga:findIn K (.ref C) "__getattribute__" = some (some (.builtin "BaseException.__getattribute__"))
 gn:findIn K (.ref C) "__getattr__" = some none
 cl:findIn K (.ref C) "__class__" = some (some (.builtin "object.__class__"))
 ob:mroIn K C (.type "object")=some true
 be:mroIn K C (.type "BaseException")=some true
 is:(clsIn K C).isSome=true
section
variable {prog:Program} {w:World} {A:Around} {E:Value->Shared->Prop} {h:Heap} {g:Array GenState} {d:Drawn} {t:Nat} {os:OsState} {a C:Addr} {o:Obj} {K:Frag}
theorem arI {R:Result->Shared->Prop} (X:K.In h) (Z:anS K C) (hx:h.get? a=some o) (hc:o.cls = .ref C) (hq:R (.ok (.ret (.ref C))) ⟨h,g,d,t,os⟩) :
  codeAny (model prog w) A (.call (.builtin "getset_descriptor.__get__") ⟨[.builtin "object.__class__",.ref a,.ref C],[]⟩) R ⟨h,g,d,t,os⟩:=by
 have ty:Looks (model prog w) h (typeOf (.ref a)) (.ref C):=hc ▸ (Looks.ld hx).andThen .now
 have ms:=looks_mroIn (M:=model prog w) X Z.ob
 refine codeAny_call_builtin KF.slot_gs.plain KF.entry_gs (KF.slot_gs.check _ _ _ _ _ _ _ _ KF.type_class (KF.args_gs _ _ _) ?_)
 unfold Builtin.«getset_descriptor.__get__»
 unfold Builtin.Getset_descriptor.descrGet
 rw [dga_obj]
 refine wpAny_bind (wpAny_pure ?_)
 unfold Builtin.Getset_descriptor.descrGetter
 unfold Builtin.Getset_descriptor.descrCheckInstance
 unfold Builtin.Getset_descriptor.descrNameAndClass
 unfold isInstance
 simp only [KF.owner_class]
 repeat lk
 refine ⟨Code.quiet_builtin _ (by decide +kernel),codeAny_builtin KF.entry_class ?_⟩
 unfold Builtin.«object.__class__»
 unfold shownTypeOf
 repeat lk
 all_goals first | exact hq | assumption
theorem anT {tk:Tok} {Q:Fin->Shared->Prop} (X:K.In h) (Z:anS K C) (hx:h.get? a=some o) (hc:o.cls = .ref C) (hq:Q (.done (.ret (.ref C))) ⟨h,g,d,t,os⟩) :
  wpAny (model prog w) A (Builtin.«object.__getattribute__» ⟨[.ref a,.str "__class__" tk],[]⟩) Q E ⟨h,g,d,t,os⟩:=by
 have hT5:(⟨h,g,d,t,os⟩:Shared).TypeIs (.builtin "object.__class__") "getset_descriptor" := KF.type_class
 have f6:=F.slot_gs_get.lookup
 have f7:=F.slot_gs_set.lookup
 have lc:=λA (Q:Option Value->Shared->Prop) E (q:Q (some (.builtin "object.__class__")) ⟨h,g,d,t,os⟩)=>looks_findIn (M:=model prog w) X Z.cl A Q E ⟨h,g,d,t,os⟩ (λ_ _ z=>z) q
 repeat (any_goals (first | assumption | (with_reducible refine wpAny_loadPart_at hx ?_; rw [hc]) | with_reducible refine lc _ _ _ ?_ | wp_step))
 refine arI X Z hx hc ?_
 repeat (any_goals (first | assumption | wp_step))
theorem anU {nameV:Value} {Q:Unit->Shared->Prop} (X:K.In h) (Z:anS K C) (hx:h.get? a=some o) (hc:o.cls = .ref C) (hq:Q () ⟨h,g,d,t,os⟩) :
  wpAny (model prog w) A (checkBuiltinCall "BaseException.__getattribute__" ⟨[.ref a,nameV],[]⟩) Q E ⟨h,g,d,t,os⟩:=by
 have b1:builtinKind "BaseException.__getattribute__" = some .slot:=by decide +kernel
 have b2:splitId "BaseException.__getattribute__" = some ("BaseException", "__getattribute__"):=by decide +kernel
 have ha:=F.args_bexc_ga (.ref a) nameV
 have lc:=λA (Q:Bool->Shared->Prop) E (q:Q true ⟨h,g,d,t,os⟩)=>looks_mroIn (M:=model prog w) X Z.be A Q E ⟨h,g,d,t,os⟩ (λ_ _ z=>z) q
 simp only [checkBuiltinCall,b1,b2]
 refine wpAny_bind ?_
 unfold isInstance
 repeat (first | (with_reducible refine wpAny_loadPart_at hx ?_; rw [hc]) | with_reducible refine lc _ _ _ ?_ | wp_step)
 exact hq
theorem apx {tk:Tok} {R:Result->Shared->Prop} (X:K.In h) (Z:anS K C) (hx:h.get? a=some o) (hc:o.cls = .ref C) (hq:R (.ok (.ret (.ref C))) ⟨h,g,d,t,os⟩) :
  codeAny (model prog w) A (.call (.builtin "BaseException.__getattribute__") ⟨[.ref a,.str "__class__" tk],[]⟩) R ⟨h,g,d,t,os⟩ :=
 codeAny_call_builtin PySem.F.attr_ValueError.ga.plain F.entry_bexc_ga (anU X Z hx hc (anT X Z hx hc hq))
theorem auk {tk:Tok} {Q:Value->Shared->Prop} (X:K.In h) (Z:anS K C) (hx:h.get? a=some o) (hc:o.cls = .ref C) (hq:Q (.ref C) ⟨h,g,d,t,os⟩) :
  wpAny (model prog w) A (getAttrBy (.ref a) (.str "__class__" tk) false) Q E ⟨h,g,d,t,os⟩:=by
 have f3:=PySem.F.attr_ValueError.ga.bind (.ref a)
 have hx2:(Value.builtin "BaseException.__getattribute__" == Value.builtin "object.__getattribute__")=false:=by decide +kernel
 have hx1:(onTheHeap (Value.ref C) && Value.builtin "BaseException.__getattribute__" == Value.builtin "object.__getattribute__")=false:=by rw [hx2]; rfl
 have l1:=λA (Q:Option Value->Shared->Prop) E (q:Q (some (.builtin "BaseException.__getattribute__")) ⟨h,g,d,t,os⟩)=>looks_findIn (M:=model prog w) X Z.ga A Q E ⟨h,g,d,t,os⟩ (λ_ _ z=>z) q
 have l2:=λA (Q:Option Value->Shared->Prop) E (q:Q none ⟨h,g,d,t,os⟩)=>looks_findIn (M:=model prog w) X Z.gn A Q E ⟨h,g,d,t,os⟩ (λ_ _ z=>z) q
 repeat (any_goals (first | assumption | (with_reducible refine wpAny_loadPart_at hx ?_; rw [hc]) | with_reducible refine l1 _ _ _ ?_ | with_reducible refine l2 _ _ _ ?_ | wp_step))
 refine apx X Z hx hc ?_
 repeat (any_goals (first | assumption | wp_step))
theorem apy {Q:Option Value->Shared->Prop} (X:K.In h) (Z:anS K C) (hx:h.get? a=some o) (hc:o.cls = .ref C) (hq:Q (some (.ref C)) ⟨h,g,d,t + 1,os⟩) :
  wpAny (model prog w) A (getAttr? (.ref a) "__class__") Q E ⟨h,g,d,t,os⟩:=by
 unfold getAttr? getAttrBy?
 repeat (any_goals (first | assumption | with_reducible apply auk X Z hx hc | wp_step))
theorem alL (Z:anS K C):KitX K (.ref a) (.ref C) (aws a C) where
 ty:=λ_ _ _ ⟨o,_,h1,h2,_⟩=>h2 ▸ (Looks.ld h1).andThen .now
 it:=λ_ _ X _=>by
  obtain ⟨cd,e⟩:=Option.isSome_iff_exists.mp Z.is
  unfold clsIn at e
  split at e
  ·rename_i ho
   intro A' Q' E' s' k q
   unfold isType loadHead
   exact wpAny_bind (wpAny_loadPart (k _ _ (X _ _ ho)) (wpAny_pure q))
  ·cases e
 ne:=λh tp dd its n sl X htp=>by
  obtain ⟨cd,e⟩:=Option.isSome_iff_exists.mp Z.is
  refine Bool.eq_false_iff.mpr λq=>?_
  have q':C=tp:=Value.ref.inj (beq_iff_eq.mp q)
  subst q'
  unfold clsIn at e
  split at e
  ·rename_i ho
   have z:=(X _ _ ho).symm.trans htp
   cases z
  ·cases e
 ca:=λ{_ _ _ _ _ s} X p k=>by
  obtain ⟨h,g,d,t,os⟩:=s
  obtain ⟨o,_,h1,h2,_⟩:=p
  exact apy X Z h1 h2 k
end
section
variable {X:Cx}
noncomputable def azr (K:Frag):List V->Hp->VK->Prop:=λxs H Q=>∃ (ea C:Addr) (d:Value) (dv:V) (b:Bool),xs = [.ref ea,dv] /\ H ea=some (exO ea C) /\ anS K C /\ (∀ u,RelV dv u->u=d) /\ kitOne K (.ref C) d=some b /\ Q (.bl b) H
theorem alM:adC X (.builtin "isinstance") (azr X.K):=by
 intro pins s σ H xs us Q I r h
 obtain ⟨ea,C,d,dv,b,rfl,he,Z,hd,hk,q⟩:=h
 obtain ⟨u,w',rfl,ru,rw'⟩:=vals2 r
 cases ru
 cases hd w' rw'
 have p:aws ea C s.heap:=(I.hok ea _ he).1
 exact kia_one (alL Z) I.kIn p hk (λz=>nomatch z) λtk=>⟨.bl b,H,I.tok tk,rfl,q⟩
noncomputable def azs (K:Frag):List V->Hp->VK->Prop:=λxs H Q=>∃ (d:Value) (dv:V) (b:Bool),xs = [.non,dv] /\ (∀ u,RelV dv u->u=d) /\ kitOne K (.type "NoneType") d=some b /\ Q (.bl b) H
theorem alN:adC X (.builtin "isinstance") (azs X.K):=by
 intro pins s σ H xs us Q I r h
 obtain ⟨d,dv,b,rfl,hd,hk,q⟩:=h
 obtain ⟨u,w',rfl,ru,rw'⟩:=vals2 r
 cases ru
 cases hd w' rw'
 exact kia_one kitx_none I.kIn True.intro hk (λz=>nomatch z) λtk=>⟨.bl b,H,I.tok tk,rfl,q⟩
end
end L2
end
section
namespace L2
open PySem
theorem anV (a b:Int):a=b * a.fdiv b + a.fmod b:=by
 have:=Int.mul_fdiv_add_fmod a b
 omega
theorem ams (a b:Int) (h:b ≠ 0):(a.fmod b).natAbs<b.natAbs:=by
 have h1:=Int.emod_nonneg a h
 have h2:=Int.emod_lt a h
 rw [Int.fmod_eq_emod]
 split
 ·omega
 ·rename_i hn
  have hb:¬ 0<=b:=λz=>hn (.inl z)
  have hd:¬ b∣a:=λz=>hn (.inr z)
  have h3:a % b ≠ 0:=λz=>hd (Int.dvd_of_emod_eq_zero z)
  omega
theorem alO (a b:Int):Int.gcd b (a.fmod b)=Int.gcd a b:=by
 have e:=anV a b
 apply Nat.dvd_antisymm
 ·refine Int.dvd_gcd ?_ ?_
  ·have h1:(Int.gcd b (a.fmod b):Int)∣b:=Int.gcd_dvd_left ..
   have h2:(Int.gcd b (a.fmod b):Int)∣a.fmod b:=Int.gcd_dvd_right ..
   have h3:=Int.dvd_add (Int.dvd_mul_of_dvd_left (c:=a.fdiv b) h1) h2
   rw [<-e] at h3
   exact h3
  ·exact Int.gcd_dvd_left ..
 ·refine Int.dvd_gcd ?_ ?_
  ·exact Int.gcd_dvd_right ..
  ·have h1:(Int.gcd a b:Int)∣a:=Int.gcd_dvd_left ..
   have h2:(Int.gcd a b:Int)∣b:=Int.gcd_dvd_right ..
   have e2:a.fmod b=a - b * a.fdiv b:=by omega
   rw [e2]
   exact Int.dvd_sub h1 (Int.dvd_mul_of_dvd_left h2)
theorem arJ (a:Int):(if a<0 then -a else a)=((Int.gcd a 0:Nat):Int):=by
 rw [Int.gcd_zero_right]
 split <;> omega
theorem afu {a b:Int} (hb:0<b):0<((Int.gcd a b:Nat):Int) /\ ((Int.gcd a b:Nat):Int)<=b /\ 1<=b / (Int.gcd a b:Nat) /\ Int.gcd (a / (Int.gcd a b:Nat)) (b / (Int.gcd a b:Nat))=1 /\ (0<=a->0<=a / (Int.gcd a b:Nat)) /\
  a=(a / (Int.gcd a b:Nat)) * (Int.gcd a b:Nat) /\ b=(b / (Int.gcd a b:Nat)) * (Int.gcd a b:Nat):=by
 have hg:0<Int.gcd a b:=Int.gcd_pos_of_ne_zero_right a (by omega)
 have hgi:0<((Int.gcd a b:Nat):Int):=by omega
 have d1:(Int.gcd a b:Int)∣a:=Int.gcd_dvd_left ..
 have d2:(Int.gcd a b:Int)∣b:=Int.gcd_dvd_right ..
 have e1:=Int.ediv_mul_cancel d1
 have e2:=Int.ediv_mul_cancel d2
 refine ⟨hgi,Int.le_of_dvd hb d2,?_,Int.gcd_ediv_gcd_ediv_gcd hg,λh=>Int.ediv_nonneg h (by omega),e1.symm,e2.symm⟩
 have:0<b / (Int.gcd a b:Nat):=Int.ediv_pos_of_pos_of_dvd hb (by omega) d2
 omega
end L2
end
section
namespace L2
open PySem PySem.Spec PyProof.Rows
section
variable {X:Cx}
end
end L2
end
section
namespace L2
open PySem PySem.Spec PyProof.Rows PySem.W
theorem alP {K:Frag} {h:Heap} {mg:Str->Option Value} {x:Str} {C:Addr} {bmB:List Value} {newId:String} (X:K.In h) (G:h.Ns mainGlobals mg) (e:nsIn K mainGlobals x=some (some (.ref C))) (q:excIn K C bmB newId=true):OwnCls x C bmB newId mg h:=by
 constructor
 ·exact mg_of X G e
 unfold excIn at q
 split at q
 case h_2=>cases q
 rename_i dd cd sl lk
 split at q
 case h_2=>cases q
 rename_i c0 bm y0 y1 y2 y3 nid y5 hm hl
 rw [Bool.and_eq_true,Bool.and_eq_true,Bool.and_eq_true,Bool.and_eq_true,Bool.and_eq_true] at q
 obtain ⟨⟨⟨⟨⟨q1,q2⟩,q3⟩,q4⟩,q5⟩,q6⟩:=q
 have r1:=beq_iff_eq.mp q1
 have r2:=beq_iff_eq.mp q2
 have r6:=beq_iff_eq.mp q6
 have r3:cd.hasDel=false:=by simpa using q3
 subst r1 r2
 have hsl:sl = #[y0,y1,y2,y3,some (.builtin nid),y5]:=by
  cases sl with
  | mk l=>exact congrArg Array.mk hl
 subst hsl
 cases cd with
 | mk nm bs mro ns qn hd sn sub ab col del =>
  dsimp only at hm r3 q5 r6
  subst hm r3
  exact ⟨bm,ns,nm,qn,bs,hd,sn,sub,ab,col,dd,y0,y1,y2,y3,y5,_,X _ _ lk,.of_isNs (isNs_of_in X q5),nsMap_none_of_in X q5 r6,tail_of_in X q4⟩
section
variable {P:Program} {w:World} {K:Frag} {mg:Str->Option Value} {base:Heap}
theorem Fun.okX {x qual:Str} {st:Stmt} {f:Addr} {fd:FuncData} {N ps:List Str} {k:Nat} {sp:Sp} (F:Fun K x qual st f fd) (S:aaE N ps (aan st)) (len:∀ vs H Q E,sp vs H Q E->vs.length=ps.length)
  (hbody:∀ (cdv:Value) (A:Around) (outer:List Env) (s:Shared) (H:Hp) (vs:List V) (Q:VK) (E:XK),afT k (A.deeper (envOfC qual (aan st) s.heap.objs.size f cdv))->sp vs H Q E ->
   ∃ t,PSs (alG (CXF P w) P w K mg base N qual (aan st) f cdv A outer s H E) (acf st) t /\ t {nx:=λ_ H'=>Q .non H',rt:=Q } (start N vs) H):alF P w K mg base (CXF P w) (k + 1) f fd ps sp:=by
 obtain ⟨oc,od,kV,doc,pm,an,cdv,ct,osl,rfl,lk,hcd⟩:=F.ex
 exact at4 lk hcd S len λA outer s H vs Q E hr h=>hbody cdv A outer s H vs Q E hr h
noncomputable def DfX (P:Program) (w:World) (K:Frag) (mg:Str->Option Value) (base:Heap) (k:Nat) (x:Str) (ps:List Str) (sp:Sp):Prop :=
 ∃ f fd,alF P w K mg base (CXF P w) k f fd ps sp /\ Binds K fd ps [] /\ keepIn K (.ref f)=true /\ mg x=some (.ref f)
theorem DfX.mono {j k:Nat} {x:Str} {ps:List Str} {sp:Sp} (D:DfX P w K mg base j x ps sp) (h:j<=k):DfX P w K mg base k x ps sp:=by
 obtain ⟨f,fd,h1,h2⟩:=D
 exact ⟨f,fd,h1.mono h,h2⟩
theorem At.dfx {k:Nat} {x:Str} {st:Stmt} {N ps:List Str} {sp:Sp} (a:At K mg x st) (S:aaE N ps (aan st))
  (hb:∀ (kV doc pm:Value) (an:Option Addr) (cdv ct:Value) (us:List Value),us.length=ps.length->bindArgs (fnOf x x (adl st) (acf st) (aan st) .none kV doc pm an cdv ct) ⟨us,[]⟩=pure (ps.zip us))
  (len:∀ vs H Q E,sp vs H Q E->vs.length=ps.length)
  (hbody:∀ (f:Addr) (cdv:Value) (A:Around) (outer:List Env) (s:Shared) (H:Hp) (vs:List V) (Q:VK) (E:XK),afT k (A.deeper (envOfC x (aan st) s.heap.objs.size f cdv))->sp vs H Q E ->
   ∃ t,PSs (alG (CXF P w) P w K mg base N x (aan st) f cdv A outer s H E) (acf st) t /\ t {nx:=λ_ H'=>Q .non H',rt:=Q } (start N vs) H):DfX P w K mg base (k + 1) x ps sp:=by
 obtain ⟨f,fd,F,m⟩:=a
 exact ⟨f,fd,F.okX S len λcdv A outer s H vs Q E hr h=>hbody f cdv A outer s H vs Q E hr h,F.binds hb,F.kp,m⟩
end
section
variable {X:Cx} {k:Nat} {x:Str} {ps:List Str} {sp:Sp} {p pos:Pos} {e:Expr} {es:List Expr} {t:TA}
theorem acT {P:Program} {w:World}:Passes (CXF P w) X E0:=λ_ _ _ _ _ _ _ h=>by
 obtain ⟨_,_,_,_,_,_,q,_⟩:=h
 exact q.elim
theorem aju (D:DfX X.prog X.w X.K X.mg X.base k x ps sp) (hr:afT k X.A) (ha:PA X.nox (e :: es) t) (hg:Gl X x:=by rfl) (hdb:(x == ("__debug__" : Str))=false:=by decide)
  (he:starEach (e :: es) X.env=(false,eval e X.env) :: starEach es X.env:=by rfl) (hpl:(backTo pos (starEach es X.env)).any (·.1)=false:=by rfl):PEX X (.Call (.Name x p) (e :: es) [] pos) (anR sp t):=by
 obtain ⟨f,fd,h1,h2,h3,h4⟩:=D
 exact apw h1 hr h4 h3 h2 ha hg hdb he hpl
end
end L2
end
section
namespace L2
open PySem PySem.Spec PyProof.Rows
noncomputable def Itz (K:PySem.W.Frag) (l1 l2:Addr):It where
 go:=λi H=>∃ xs ys x y,SqL K H l1 xs /\ SqL K H l2 ys /\ xs[i]? = some x /\ ys[i]? = some y
 yld:=λi H v H'=>∃ T x y,v = .ref T /\ H T=none /\ H'=upd H T (.tup [x,y]) /\ ∀ xs ys,SqL K H l1 xs->SqL K H l2 ys->xs[i]? = some x /\ ys[i]? = some y
 stop:=λi H=>∃ xs ys,SqL K H l1 xs /\ SqL K H l2 ys /\ i=min xs.length ys.length
noncomputable def awZ (l1 l2 z TI TO i1 i2:Addr) (i:Nat) (h:Heap):Prop:=IsZip h z TI TO .none /\ IsPair h TI (.ref i1) (.ref i2) /\ (∃ a b,IsPair h TO a b) /\ h.IsListIter i1 l1 i /\ h.IsListIter i2 l2 i
section
variable {P:Program} {w:World} {K:PySem.W.Frag}
theorem Inv.aul {X:Cx} {pins:List (Addr × Obj)} {σ : St} {H:Hp} {s:Shared} {h':Heap} {tk:Nat} {fp:List Addr} {T:Addr} {xs:List V} {its:List Value} (I:Inv X pins σ H s) (hf:∀ b ∈ fp,afr X pins H b) (k:∀ b o,b ∉ fp->s.heap.get? b=some o->h'.get? b=some o)
  (th:∀ b ∈ fp,∃ o,h'.get? b=some o) (hT:s.heap.objs.size<=T) (ht:IsTup h' T its.toArray) (rv:Vals xs its) (hz:xs.length<=sizeLine):Inv X pins σ (upd H T (.tup xs)) {s with heap:=h',toks:=tk }:=by
 have fT:H T=none:=I.hok.fresh hT
 have neT:∀ b o,s.heap.get? b=some o->b ≠ T:=λb o e z=>by rw [z] at e; exact absurd (Heap.lt_size e) (Nat.not_lt.mpr hT)
 have neH:∀ b o,H b=some o->b ≠ T:=λb o e z=>by rw [z,fT] at e; cases e
 refine I.step (g':=s.gens) (d':=s.drawn) (ch:=fp) (λb hb=>?_) (λb o _ _ hc e _=>k b o hc e) (λb o _ _ hc e _=>⟨o.slots,k b o hc e⟩) (λb o _ e n=>by rw [aaF (neT b o e)]; exact n) (λb o hc e=>⟨o,k b o hc e⟩)
  (λb ys e=>by rw [aaF (neH b _ e)]; exact e) (λb o u e=>by rw [aaF (neH b _ e)]; exact e) (λb ps e=>⟨#[],by rw [aaF (neH b _ e)]; simpa using e⟩) (λm hm=>?_) (λb u e=>?_) I.bare
 ·obtain ⟨f0,f1,f2,f3,f4,f5⟩:=hf b hb
  exact ⟨f3,f1,f4,f5⟩
 ·obtain ⟨o,es,ep,ho,r⟩:=hm
  exact ⟨o,es,ep,k _ o (λz=>(hf _ z).2.1 rfl) ho,r⟩
 ·by_cases z:b=T
  ·subst z
   rw [aa9] at e
   cases e
   exact ⟨hz,its,rv,ht⟩
  ·rw [aaF z] at e
   refine (I.hok b u e).stay (λc o hc q=>k c o (λzc=>?_) q) (λc q=>by rw [aaF (neH c _ q)]; exact q) λc ys q=>by rw [aaF (neH c _ q)]; exact q
   have:=(hf c zc).1
   rcases hc with rfl | hc
   ·rw [this] at e; cases e
   ·rw [this] at hc; cases hc
theorem Inv.anW {X:Cx} {pins:List (Addr × Obj)} {σ : St} {H:Hp} {s:Shared} {h':Heap} {tk:Nat} {fp:List Addr} (I:Inv X pins σ H s) (hf:∀ b ∈ fp,afr X pins H b) (k:∀ b o,b ∉ fp->s.heap.get? b=some o->h'.get? b=some o):Inv X pins σ H {s with heap:=h',toks:=tk }:=by
 refine I.step (g':=s.gens) (d':=s.drawn) (ch:=fp) (λb hb=>?_) (λb o _ _ hc e _=>k b o hc e) (λb o _ _ hc e _=>⟨o.slots,k b o hc e⟩) (λb o _ e n=>n) (λb o hc e=>⟨o,k b o hc e⟩)
  (λb ys e=>e) (λb o u e=>e) (λb ps e=>⟨#[],by simpa using e⟩) (λm hm=>?_) (λb u e=>?_) I.bare
 ·obtain ⟨f0,f1,f2,f3,f4,f5⟩:=hf b hb
  exact ⟨f3,f1,f4,f5⟩
 ·obtain ⟨o,es,ep,ho,r⟩:=hm
  exact ⟨o,es,ep,k _ o (λz=>(hf _ z).2.1 rfl) ho,r⟩
 ·refine (I.hok b u e).stay (λc o hc q=>k c o (λzc=>?_) q) (λc q=>q) λc ys q=>q
  have:=(hf c zc).1
  rcases hc with rfl | hc
  ·rw [this] at e; cases e
  ·rw [this] at hc; cases hc
theorem apz {elts:List Expr} {k:Nat} {pos:Pos} (l1 l2 z TI TO i1 i2:Addr) (D:ZipApart z TI TO i1 i2 l1 l2):Turn P w K (.Tuple elts k pos) (Itz K l1 l2) [z,TI,TO,i1,i2] z (awZ l1 l2 z TI TO i1 i2) where
 mem:=by simp
 obj:=λi h st b hb=>by
  obtain ⟨hz,hTI,⟨a,c,hTO⟩,⟨o1,e1,_,d1⟩,⟨o2,e2,_,d2⟩⟩:=st
  have hb':b=z \/ b=TI \/ b=TO \/ b=i1 \/ b=i2:=by simpa using hb
  rcases hb' with rfl | rfl | rfl | rfl | rfl
  ·exact ⟨_,hz,λv q=>nomatch q⟩
  ·exact ⟨_,hTI,λv q=>nomatch q⟩
  ·exact ⟨_,hTO,λv q=>nomatch q⟩
  ·exact ⟨o1,e1,λv q=>by rw [d1] at q; cases q⟩
  ·exact ⟨o2,e2,λv q=>by rw [d2] at q; cases q⟩
 keep:=λi h h' st kp=>by
  obtain ⟨hz,hTI,⟨a,c,hTO⟩,h1,h2⟩:=st
  exact ⟨kp z (by simp) _ hz,kp TI (by simp) _ hTI,⟨a,c,kp TO (by simp) _ hTO⟩,h1.at λo e=>kp i1 (by simp) o e,h2.at λo e=>kp i2 (by simp) o e⟩
 item:=by
  intro X hP hw hK hc i pins s σ H E I hf st hg
  subst hP hw hK
  obtain ⟨xs,ys,x,y,q1,q2,hx,hy⟩:=hg
  obtain ⟨akt,rv1,p1,_⟩:=I.list q1
  obtain ⟨its2,rv2,p2,_⟩:=I.list q2
  obtain ⟨u,hu,ru⟩:=rv1.get hx
  obtain ⟨v,hv,rv⟩:=rv2.get hy
  have W:=WalksT.zip2 (prog:=X.prog) (w:=X.w) (A:=X.A) (I.ok.hd hc) z TI TO i1 i2 l1 l2 D akt.toArray its2.toArray
  have lt1:i<akt.length:=(List.getElem?_eq_some_iff.mp hu).1
  have lt2:i<its2.length:=(List.getElem?_eq_some_iff.mp hv).1
  refine W.item i s _ E (by simp; omega) ⟨st.1,st.2.1,st.2.2.1,st.2.2.2.1,st.2.2.2.2,p1.isList,p2.isList⟩ λT vals h' tk hp hT ht mid kk=>?_
  obtain ⟨u',v',e1,e2,rfl⟩:=hp
  have eu:u'=u:=by
   have:akt[i]? = some u':=by simpa using e1
   rw [hu] at this; cases this; rfl
  have ev:v'=v:=by
   have:its2[i]? = some v':=by simpa using e2
   rw [hv] at this; cases this; rfl
  subst eu ev
  refine ⟨.ref T,rfl,?_⟩
  refine W.go elts k pos i T _ _ E mid λh'' st' kk'=>?_
  have nT:=W.apart i T _ mid
  have ob:=(λb hb=>(by
   obtain ⟨hz,hTI,⟨a,c,hTO⟩,⟨o1,e1,_,d1⟩,⟨o2,e2,_,d2⟩⟩:=st
   have hb':b=z \/ b=TI \/ b=TO \/ b=i1 \/ b=i2:=by simpa using hb
   rcases hb' with rfl | rfl | rfl | rfl | rfl
   ·exact Heap.lt_size hz
   ·exact Heap.lt_size hTI
   ·exact Heap.lt_size hTO
   ·exact Heap.lt_size e1
   ·exact Heap.lt_size e2:b<s.heap.objs.size):∀ b ∈ [z,TI,TO,i1,i2],b<s.heap.objs.size)
  have nTf:T ∉ [z,TI,TO,i1,i2]:=λm=>absurd (ob T m) (Nat.not_lt.mpr hT)
  have sub:∀ b,b ∉ [z,TI,TO,i1,i2]->b ∉ [z,TO,i1,i2]:=λb n m=>n (by simp at m ⊢; rcases m with rfl | rfl | rfl | rfl <;> simp)
  have aw0:IsTup h'' T #[u',v']:=by
   obtain ⟨o,e,r⟩:=ht
   exact ⟨o,kk' T o nT e,r⟩
  have th:∀ b ∈ [z,TI,TO,i1,i2],∃ o,h''.get? b=some o:=λb hb=>by
   obtain ⟨hz,hTI,⟨a,c,hTO⟩,⟨o1,e1,_,d1⟩,⟨o2,e2,_,d2⟩,_⟩:=st'
   have hb':b=z \/ b=TI \/ b=TO \/ b=i1 \/ b=i2:=by simpa using hb
   rcases hb' with rfl | rfl | rfl | rfl | rfl
   ·exact ⟨_,hz⟩
   ·exact ⟨_,hTI⟩
   ·exact ⟨_,hTO⟩
   ·exact ⟨_,e1⟩
   ·exact ⟨_,e2⟩
  have I':Inv X pins σ (upd H T (.tup [x,y])) {s with heap:=h'',toks:=tk }:=I.aul (its := [u',v']) hf (λb o n e=>kk' b o (sub b n) (kk b o (sub b n) e)) th hT aw0 (.cons ru (.cons rv .nil)) (by show 2<=sizeLine; decide)
  refine ⟨.ref T,_,I',rfl,⟨T,x,y,rfl,I.hok.fresh hT,rfl,λxs' ys' a1 a2=>?_⟩,⟨st'.1,st'.2.1,st'.2.2.1,st'.2.2.2.1,st'.2.2.2.2.1⟩,λb hb=>?_⟩
  ·rw [I.afq a1 q1,I.afq a2 q2]
   exact ⟨hx,hy⟩
  ·have nb:b ≠ T:=by
    intro e0
    rw [e0] at hb
    exact nTf hb
   rw [aaF nb]
   exact (hf b hb).1
 done:=by
  intro X hP hw hK hc i pins s σ H E I hf st hg
  subst hP hw hK
  obtain ⟨xs,ys,q1,q2,e⟩:=hg
  obtain ⟨akt,rv1,p1,_⟩:=I.list q1
  obtain ⟨its2,rv2,p2,_⟩:=I.list q2
  have W:=WalksT.zip2 (prog:=X.prog) (w:=X.w) (A:=X.A) (I.ok.hd hc) z TI TO i1 i2 l1 l2 D akt.toArray its2.toArray
  have ei:i=min akt.toArray.size its2.toArray.size:=by simp [e,rv1.length,rv2.length]
  subst ei
  have sub:∀ b,b ∉ [z,TI,TO,i1,i2]->b ∉ [z,TO,i1,i2]:=λb n m=>n (by simp at m ⊢; rcases m with rfl | rfl | rfl | rfl <;> simp)
  exact W.done s _ E ⟨st.1,st.2.1,st.2.2.1,st.2.2.2.1,st.2.2.2.2,p1.isList,p2.isList⟩ λh' tk kk=>⟨rfl,I.anW hf λb o n e=>kk b o (sub b n) e⟩
 self:=λA i s Q E st h=>wpAny_pyIter_zip st.1 h
end
section
variable {X:Cx}
noncomputable def ayU (K:PySem.W.Frag) (ta:TA):TI:=λσ H R=>ta σ H λvs H1=>∃ l1 l2,vs = [.ref l1,.ref l2] /\ (∃ xs,SqL K H1 l1 xs) /\ (∃ ys,SqL K H1 l2 ys) /\ R (Itz K l1 l2) H1
theorem aum {elts:List Expr} {k:Nat} {tpos:Pos} {a b:Expr} {ta:TA} {p pos:Pos} (hm:X.mg "zip" = none) (ha:PA X [a,b] ta) (hg:Gl X "zip" := by rfl) (hs:starEach [a,b] X.env = [(false,eval a X.env),(false,eval b X.env)]:=by rfl) (hs2:starEach [b] X.env = [(false,eval b X.env)]:=by rfl) :
  PI X (.Tuple elts k tpos) (.Call (.Name "zip" p) [a,b] [] pos) (ayU X.K ta):=by
 intro pins s σ H R I h
 refine Call_ (agk I hg hm (show bootBuiltins "zip" = some (.type "zip") by decide +kernel) (PyProof.Rows.callWith_type1 (thn (ha pos pins s σ H _ I h) λus s1 ⟨vs,H1,I1,r1,q1⟩=>?_) (by rw [hs,hs2]) (by rw [hs2]; rfl)))
 obtain ⟨l1,l2,e,⟨xs,h1⟩,⟨ys,h2⟩,q⟩:=q1
 subst e
 cases r1 with
 | cons r rr =>
  cases rr with
  | cons r' rr =>
   cases rr
   cases r
   cases r'
   obtain ⟨akt,rv1,p1,_⟩:=I1.list h1
   obtain ⟨its2,rv2,p2,_⟩:=I1.list h2
   obtain ⟨o1,e1,_⟩:=p1.isList
   obtain ⟨o2,e2,_⟩:=p2.isList
   refine call_zip_2 p1.isList p2.isList λh' hz hTI hTO hi1 hi2 hsz hk=>?_
   refine wpAny_pyIter_zip hz ?_
   refine ⟨_,[_,_,_,_,_],_,_,H1,rfl,I1.kept (t':=s1.toks) hk,apz l1 l2 _ _ _ _ _ (PySem.W.ktu_apart _ _ _ (Heap.lt_size e1) (Heap.lt_size e2)),⟨hz,hTI,⟨_,_,hTO⟩,hi1,hi2⟩,λc hc=>?_,q⟩
   have hc':c=s1.heap.objs.size + 4 \/ c=s1.heap.objs.size + 2 \/ c=s1.heap.objs.size + 3 \/ c=s1.heap.objs.size \/ c=s1.heap.objs.size + 1:=by simpa using hc
   have hge:s1.heap.objs.size<=c:=by rcases hc' with rfl | rfl | rfl | rfl | rfl <;> omega
   exact I1.apc hge (I1.hok.fresh hge)
end
end L2
end
section
namespace L2
open PySem
end L2
end
section
namespace L2
open PySem PySem.Spec PyProof.Rows
section
variable {X:Cx} {e:Expr} {te:TE} {th:TO} {pos p2:Pos}
end
end L2
end
section
namespace L2
open PySem PySem.Spec PyProof.Rows
section
variable {X:Cx}
end
section
variable {X:Cx} {tg:Expr}
end
end L2
end
section
namespace L2
open PySem PySem.Spec PyProof.Rows
section
variable {X:Cx}
end
end L2
end
section
namespace L2
open PySem PySem.Spec PyProof.Rows
inductive Rs (α : Type) where
 | bad | ex (c:Str) | ok (a : α)
noncomputable def Rs.bind {α β : Type}:Rs α -> (α -> Rs β)->Rs β
 | .bad,_ => .bad
 | .ex c,_ => .ex c
 | .ok a,f=>f a
noncomputable instance:Monad Rs where
 pure := .ok
 bind:=Rs.bind
noncomputable def Rs.post {α : Type} (r:Rs α) (EX:Str->Prop) (P : α -> Prop):Prop:=match r with
 | .bad=>False
 | .ex c=>EX c
 | .ok a=>P a
theorem Rs.aaf {α β : Type} {r:Rs α} {f : α -> Rs β} {EX:Str->Prop} {P : β -> Prop} (h:(r.bind f).post EX P):r.post EX λa=>(f a).post EX P:=by
 cases r <;> exact h
theorem Rs.aal {α : Type} {r:Rs α} {EX:Str->Prop} {P P' : α -> Prop} (h:r.post EX P) (i:∀ a,P a->P' a):r.post EX P':=by
 cases r with
 | bad=>exact h
 | ex c=>exact h
 | ok a=>exact i a h
open Classical in
noncomputable def abb (W:Addr->Prop) (H:Hp):Hp:=λb=>if W b then none else H b
theorem aiC {W:Addr->Prop} {H:Hp} {b:Addr} (h:W b):abb W H b=none:=if_pos h
theorem aa1 {W:Addr->Prop} {H:Hp} {b:Addr} (h:¬ W b):abb W H b=H b:=if_neg h
theorem abC {W:Addr->Prop} {H:Hp} {b:Addr} {o:HO} (h:abb W H b=some o):¬ W b /\ H b=some o:=by
 by_cases w:W b
 ·rw [aiC w] at h; cases h
 ·rw [aa1 w] at h; exact ⟨w,h⟩
theorem abo (W:Addr->Prop) (H:Hp):Same (abb W H) H:=λ_ _ h=>(abC h).2
theorem acG {W W':Addr->Prop} {H H':Hp} (hw:∀ b o,H b=some o->W' b->W b) (s:∀ b o,¬ W b->H b=some o->H' b=some o):Same (abb W H) (abb W' H'):=λb o h=>by
 obtain ⟨n,e⟩:=abC h
 rw [aa1 λw=>n (hw b o e w)]
 exact s b o n e
theorem adJ {W:Addr->Prop} {H:Hp} {a:Addr} {o:HO} (h:W a):abb W (upd H a o)=abb W H:=by
 funext b
 by_cases w:W b
 ·rw [aiC w,aiC w]
 ·rw [aa1 w,aa1 w]
  exact aaF λe=>w (e ▸ h)
inductive Sl where
 | un | sh (t:Tr) | ow (ts:List Tr) | rf (ts:List Tr) | dp (ts:List Tr)
noncomputable abbrev En:=List Sl
inductive Rv where
 | v (T:Tr) (fr:Bool) | s (i:Nat)
noncomputable abbrev EF:=En->Rs (Rv × En)
structure Tx where
 K:PySem.W.Frag
 Z:Addr->Prop
 R:Addr->Prop
 H0:Hp
 B:Hp
 EX:Str->Prop
noncomputable def Mu (ρ : En) (i:Nat):Prop:=∃ ts,ρ[i]? = some (Sl.ow ts) \/ ρ[i]? = some (Sl.rf ts)
noncomputable def aw1:Tr->Bool
 | .lst _=>true
 | _=>false
inductive DR (K:PySem.W.Frag) (G H:Hp):List V->List Tr->List Addr->Prop
 | nil:DR K G H [] [] []
 | cl {x:V} {u:Tr} {xs:List V} {ts:List Tr} {bs:List Addr} (n:aw1 u=false) (h:Rep K G x u) (r:DR K G H xs ts bs):DR K G H (x :: xs) (u :: ts) bs
 | rw {b:Addr} {ys:List V} {us:List Tr} {xs:List V} {ts:List Tr} {bs:List Addr} (h:H b=some (.lst ys)) (q:abd K G ys us) (r:DR K G H xs ts bs):DR K G H (.ref b :: xs) (.lst us :: ts) (b :: bs)
noncomputable def aqP (t:Tx) (W:Addr->Prop) (H:Hp) (a:Addr) (xs:List V) (ts:List Tr) (fp:List Addr):Prop :=
 ∃ bs,fp=a :: bs /\ fp.Nodup /\ (∀ b ∈ fp,W b /\ t.H0 b=none) /\ H a=some (.lst xs) /\ DR t.K (abb W H) H xs ts bs
theorem DR.move {K:PySem.W.Frag} {G G' H H':Hp} (m:Same G G'):∀ {xs:List V} {ts:List Tr} {bs:List Addr},DR K G H xs ts bs->(∀ b o,b ∈ bs->H b=some o->H' b=some o)->DR K G' H' xs ts bs
 | _,_,_,.nil,_ => .nil
 | _,_,_,.cl n h r,k => .cl n (h.mono m) (DR.move m r k)
 | _,_,_,.rw h q r,k => .rw (k _ _ (List.mem_cons_self ..) h) (q.mono m) (DR.move m r λb o hb=>k b o (List.mem_cons_of_mem _ hb))
theorem aqP.move {t t':Tx} {W W':Addr->Prop} {H H':Hp} {a:Addr} {xs:List V} {ts:List Tr} {fp:List Addr} (d:aqP t W H a xs ts fp) (hK:t'.K=t.K) (h0:t'.H0=t.H0) (m:Same (abb W H) (abb W' H')) (w:∀ b ∈ fp,W' b) (k:∀ b o,b ∈ fp->H b=some o->H' b=some o):aqP t' W' H' a xs ts fp:=by
 obtain ⟨bs,e,nd,ww,ha,r⟩:=d
 refine ⟨bs,e,nd,λb hb=>⟨w b hb,by rw [h0]; exact (ww b hb).2⟩,k a _ (by rw [e]; exact List.mem_cons_self ..) ha,?_⟩
 rw [hK]
 exact r.move m λb o hb=>k b o (by rw [e]; exact List.mem_cons_of_mem _ hb)
noncomputable def Lt (H:Hp) (b:Addr):Prop:=(∃ xs,H b=some (.lst xs)) \/ ∃ ps,H b=some (.tbl ps)
theorem Lt.ne {H:Hp} {b:Addr} (h:Lt H b):H b ≠ none:=by
 rcases h with ⟨_,h⟩ | ⟨_,h⟩ <;> (rw [h]; intro z; cases z)
theorem Lt.grow {H H':Hp} {b:Addr} (h:Lt H b) (s:∀ b o,H b=some o->H' b=some o):Lt H' b:=by
 rcases h with ⟨_,h⟩ | ⟨_,h⟩
 ·exact .inl ⟨_,s _ _ h⟩
 ·exact .inr ⟨_,s _ _ h⟩
noncomputable def abu:List Str := ["falling_places", "order_of_bounds"]
noncomputable def Tb (K:PySem.W.Frag) (b:Addr):Prop:=∃ x ∈ abu,∃ c,PySem.W.tabIn K x=some (c,b)
noncomputable def aqQ (o:Obj) (q:Str):Prop:=∃ vs t,o.data = .fields vs /\ vs[1]? = some (.str q t)
noncomputable def aiD (x:Str):Str:=x ++ (".<locals>." : Str) ++ ("<lambda>" : Str)
noncomputable def awv (H:Hp) (q:Str) (ps:Array Value):Prop:=TriplesOk ps.toList /\ ∀ pos v,codeAmong pos ps.toList=some v->∃ c o,v = .ref c /\ H c=some (.frz o (.own 0)) /\ aqQ o q
noncomputable def TbS (K:PySem.W.Frag) (H:Hp):Prop:=∀ x ∈ abu,∀ c b,PySem.W.tabIn K x=some (c,b)->∃ ps,H b=some (.tbl ps) /\ awv H (aiD x) ps
theorem TbS.tbl {K:PySem.W.Frag} {H:Hp} (h:TbS K H) {b:Addr} (t:Tb K b):∃ ps,H b=some (.tbl ps):=by
 obtain ⟨x,hx,c,e⟩:=t
 obtain ⟨ps,q,_⟩:=h x hx c b e
 exact ⟨ps,q⟩
theorem TbS.ne {K:PySem.W.Frag} {H:Hp} (h:TbS K H) {a b:Addr} {xs:List V} (t:Tb K b) (e:H a=some (.lst xs)):b ≠ a:=λz=>by
 obtain ⟨ps,q⟩:=h.tbl t
 rw [z,e] at q
 cases q
theorem TbS.fr {K:PySem.W.Frag} {H H':Hp} (h:TbS K H) (s:∀ b o,(∀ xs,o ≠ .lst xs)->H b=some o->H' b=some o):TbS K H':=λx hx c b e=>by
 obtain ⟨ps,q,t1,t2⟩:=h x hx c b e
 refine ⟨ps,s _ _ (λ_ z=>by cases z) q,t1,λpos v k=>?_⟩
 obtain ⟨c,o,e1,e2,e3⟩:=t2 pos v k
 exact ⟨c,o,e1,s _ _ (λ_ z=>by cases z) e2,e3⟩
theorem TbS.same {K:PySem.W.Frag} {H H':Hp} (h:TbS K H) (s:Same H H'):TbS K H':=h.fr λb o _=>s b o
theorem TbS.upd {K:PySem.W.Frag} {H:Hp} (h:TbS K H) {a:Addr} {xs:List V} {o:HO} (e:H a=some (.lst xs)):TbS K (L2.upd H a o):=h.fr λb u n q=>by
 rw [aaF]
 ·exact q
 ·rintro rfl
  rw [e] at q
  cases q
  exact n _ rfl
structure anY (t:Tx) (W:Addr->Prop) (H:Hp):Prop where
 ok:TbS t.K H
 w:∀ b,Tb t.K b->W b
 r:∀ b,Tb t.K b->t.R b
 B:∀ b,Tb t.K b->t.B b=none
theorem anY.same {t:Tx} {W:Addr->Prop} {H H':Hp} (f:anY t W H) (s:Same H H'):anY t W H':=⟨f.ok.same s,f.w,f.r,f.B⟩
theorem anY.wid {t:Tx} {W W':Addr->Prop} {H:Hp} (f:anY t W H) (h:∀ b,W b->W' b):anY t W' H:=⟨f.ok,λb z=>h b (f.w b z),f.r,f.B⟩
theorem anY.cut {t:Tx} {W:Addr->Prop} {H:Hp} (f:anY t W H) {D:Addr->Prop} (h:∀ b,D b->∃ xs,H b=some (.lst xs)):anY t (λb=>W b /\ ¬ D b) H:=⟨f.ok,λb z=>⟨f.w b z,λd=>by
 obtain ⟨xs,e⟩:=h b d
 exact f.ok.ne z e rfl⟩,f.r,f.B⟩
structure EOF (t:Tx) (W:Addr->Prop) (ρ : En) (σ : St) (H:Hp) (F:Nat->List Addr):Prop where
 len : ρ.length = σ.length
 zw:∀ b,t.Z b->W b
 z0:∀ b,t.Z b->t.H0 b ≠ none
 wl:∀ b,W b->Lt H b
 f0:∀ b o,t.H0 b=some o->¬ t.R b->H b=some o
 n0:∀ b,H b=none->t.H0 b=none
 sh:∀ (i:Nat) (u:Tr),ρ[i]? = some (.sh u)->∃ v,σ[i]? = some (some v) /\ Rep t.K (abb W H) v u
 ow:∀ (i:Nat) (ts:List Tr),ρ[i]? = some (Sl.ow ts)->∃ a xs,σ[i]? = some (some (V.ref a)) /\ W a /\ t.H0 a=none /\ H a=some (.lst xs) /\ abd t.K (abb W H) xs ts
 rf:∀ (i:Nat) (ts:List Tr),ρ[i]? = some (Sl.rf ts)->∃ a xs,σ[i]? = some (some (V.ref a)) /\ W a /\ t.R a /\ H a=some (.lst xs) /\ abd t.K (abb W H) xs ts
 dis:∀ (i j:Nat) (a:Addr),Mu ρ i->Mu ρ j -> σ[i]? = some (some (V.ref a)) -> σ[j]? = some (some (V.ref a))->i=j
 pn:∀ b o,t.B b=some o->H b=some o
 pd:∀ (i:Nat) (a:Addr),Mu ρ i -> σ[i]? = some (some (V.ref a))->t.B a=none
 dp:∀ (i:Nat) (ts:List Tr),ρ[i]? = some (Sl.dp ts)->∃ a xs,σ[i]? = some (some (V.ref a)) /\ aqP t W H a xs ts (F i)
 dd:∀ (i j:Nat) (ts us:List Tr),i ≠ j -> ρ[i]? = some (Sl.dp ts) -> ρ[j]? = some (Sl.dp us)->∀ b ∈ F i,b ∉ F j
 dm:∀ (i j:Nat) (ts:List Tr) (c:Addr),ρ[i]? = some (Sl.dp ts)->Mu ρ j -> σ[j]? = some (some (V.ref c))->c ∉ F i
 db:∀ (i:Nat) (ts:List Tr),ρ[i]? = some (Sl.dp ts)->∀ b ∈ F i,t.B b=none
 tab:anY t W H
noncomputable def EOk (t:Tx) (W:Addr->Prop) (ρ : En) (σ : St) (H:Hp):Prop:=∃ F,EOF t W ρ σ H F
noncomputable def EOh (t:Tx) (W:Addr->Prop) (a:Addr) (ρ : En) (σ : St) (H:Hp):Prop:=∃ F,EOF t (λb=>W b \/ b=a) ρ σ H F /\ ∀ (i:Nat) (ts:List Tr),ρ[i]? = some (Sl.dp ts)->a ∉ F i
theorem EOh.ok {t:Tx} {W:Addr->Prop} {a:Addr} {ρ : En} {σ : St} {H:Hp} (e:EOh t W a ρ σ H):EOk t (λb=>W b \/ b=a) ρ σ H:=e.elim λF e=>⟨F,e.1⟩
section
variable {t:Tx} {W:Addr->Prop} {ρ : En} {σ : St} {H:Hp}
theorem EOk.len (e:EOk t W ρ σ H) : ρ.length = σ.length:=e.elim λ_ e=>e.len
theorem EOk.zw (e:EOk t W ρ σ H):∀ b,t.Z b->W b:=e.elim λ_ e=>e.zw
theorem EOk.z0 (e:EOk t W ρ σ H):∀ b,t.Z b->t.H0 b ≠ none:=e.elim λ_ e=>e.z0
theorem EOk.wl (e:EOk t W ρ σ H):∀ b,W b->Lt H b:=e.elim λ_ e=>e.wl
theorem EOk.tab (e:EOk t W ρ σ H):anY t W H:=e.elim λ_ e=>e.tab
theorem EOk.f0 (e:EOk t W ρ σ H):∀ b o,t.H0 b=some o->¬ t.R b->H b=some o:=e.elim λ_ e=>e.f0
theorem EOk.n0 (e:EOk t W ρ σ H):∀ b,H b=none->t.H0 b=none:=e.elim λ_ e=>e.n0
theorem EOk.sh (e:EOk t W ρ σ H):∀ (i:Nat) (u:Tr),ρ[i]? = some (.sh u)->∃ v,σ[i]? = some (some v) /\ Rep t.K (abb W H) v u:=e.elim λ_ e=>e.sh
theorem EOk.ow (e:EOk t W ρ σ H):∀ (i:Nat) (ts:List Tr),ρ[i]? = some (Sl.ow ts)->∃ a xs,σ[i]? = some (some (V.ref a)) /\ W a /\ t.H0 a=none /\ H a=some (.lst xs) /\ abd t.K (abb W H) xs ts:=e.elim λ_ e=>e.ow
theorem EOk.rf (e:EOk t W ρ σ H):∀ (i:Nat) (ts:List Tr),ρ[i]? = some (Sl.rf ts)->∃ a xs,σ[i]? = some (some (V.ref a)) /\ W a /\ t.R a /\ H a=some (.lst xs) /\ abd t.K (abb W H) xs ts:=e.elim λ_ e=>e.rf
theorem EOk.dis (e:EOk t W ρ σ H):∀ (i j:Nat) (a:Addr),Mu ρ i->Mu ρ j -> σ[i]? = some (some (V.ref a)) -> σ[j]? = some (some (V.ref a))->i=j:=e.elim λ_ e=>e.dis
theorem EOk.pn (e:EOk t W ρ σ H):∀ b o,t.B b=some o->H b=some o:=e.elim λ_ e=>e.pn
theorem EOk.pd (e:EOk t W ρ σ H):∀ (i:Nat) (a:Addr),Mu ρ i -> σ[i]? = some (some (V.ref a))->t.B a=none:=e.elim λ_ e=>e.pd
end
structure Stp (W:Addr->Prop) (H H':Hp):Prop where
 keep:∀ b o,¬ W b->H b=some o->H' b=some o
 dom:∀ b,H' b=none->H b=none
theorem Stp.refl (W:Addr->Prop) (H:Hp):Stp W H H:=⟨λ_ _ _ h=>h,λ_ h=>h⟩
theorem Stp.trans {W:Addr->Prop} {H H1 H2:Hp} (a:Stp W H H1) (b:Stp W H1 H2):Stp W H H2:=⟨λc o n h=>b.keep c o n (a.keep c o n h),λc h=>a.dom c (b.dom c h)⟩
theorem Stp.of {W:Addr->Prop} {H H':Hp} (s:Same H H'):Stp W H H':=⟨λb o _ h=>s b o h,λ_ h=>s.free h⟩
theorem Stp.off {W:Addr->Prop} {H H':Hp} (s:Stp W H H'):Same (abb W H) (abb W H'):=acG (λ_ _ _ h=>h) s.keep
theorem EOk.grow {t:Tx} {W:Addr->Prop} {ρ : En} {σ : St} {H H':Hp} (e:EOk t W ρ σ H) (s:Same H H'):EOk t W ρ σ H':=by
 have m:Same (abb W H) (abb W H'):=(Stp.of s).off
 obtain ⟨F,e⟩:=e
 refine ⟨F,e.len,e.zw,e.z0,λb w=>?_,λb o h n=>s b o (e.f0 b o h n),λb h=>e.n0 b (s.free h),λi u h=>?_,λi ts h=>?_,λi ts h=>?_,e.dis,λb o h=>s b o (e.pn b o h),e.pd,λi ts h=>?_,e.dd,e.dm,e.db,e.tab.same s⟩
 ·exact (e.wl b w).grow s
 ·obtain ⟨v,h1,h2⟩:=e.sh i u h
  exact ⟨v,h1,h2.mono m⟩
 ·obtain ⟨a,xs,h1,h2,h3,h4,h5⟩:=e.ow i ts h
  exact ⟨a,xs,h1,h2,h3,s _ _ h4,h5.mono m⟩
 ·obtain ⟨a,xs,h1,h2,h3,h4,h5⟩:=e.rf i ts h
  exact ⟨a,xs,h1,h2,h3,s _ _ h4,h5.mono m⟩
 ·obtain ⟨a,xs,h1,d⟩:=e.dp i ts h
  exact ⟨a,xs,h1,d.move rfl rfl m (λb hb=>by obtain ⟨_,_,_,ww,_⟩:=d; exact (ww b hb).1) λb o _ q=>s b o q⟩
noncomputable def VOk (K:PySem.W.Frag) (W:Addr->Prop) (σ : St) (H H':Hp) (v:V):Rv->Prop
 | .v T false=>Rep K (abb W H') v T
 | .v T true=>∃ a xs ts,v = .ref a /\ T = .lst ts /\ H a=none /\ H' a=some (.lst xs) /\ abd K (off a (abb W H')) xs ts
 | .s i => σ[i]? = some (some v)
theorem aiE (a:Addr) (H:Hp):Same (off a H) H:=λ_ _ h=>(aeR h).2
theorem VOk.step {K:PySem.W.Frag} {W:Addr->Prop} {σ : St} {H H' H'':Hp} {v:V} {r:Rv} (hw:∀ b,W b->H b ≠ none) (h:VOk K W σ H H' v r) (s:Stp W H' H''):VOk K W σ H H'' v r:=by
 cases r with
 | s i=>exact h
 | v T fr =>
  cases fr with
  | false=>exact Rep.mono s.off h
  | true =>
   obtain ⟨a,xs,ts,rfl,rfl,e1,e2,r⟩:=h
   refine ⟨a,xs,ts,rfl,rfl,e1,s.keep a _ (λw=>hw a w e1) e2,r.mono λb o q=>?_⟩
   obtain ⟨n,q⟩:=aeR q
   rw [off_ne n]
   exact s.off b o q
theorem VOk.back {K:PySem.W.Frag} {W:Addr->Prop} {σ : St} {G H H':Hp} {v:V} {r:Rv} (h:VOk K W σ H H' v r) (d:∀ b,H b=none->G b=none):VOk K W σ G H' v r:=by
 cases r with
 | s i=>exact h
 | v T fr =>
  cases fr with
  | false=>exact h
  | true =>
   obtain ⟨a,xs,ts,e0,e1,e2,r⟩:=h
   exact ⟨a,xs,ts,e0,e1,d _ e2,r⟩
theorem VOk.rep {K:PySem.W.Frag} {W:Addr->Prop} {σ : St} {H H':Hp} {v:V} {T:Tr} {fr:Bool} (hw:∀ b,W b->H b ≠ none) (h:VOk K W σ H H' v (.v T fr)):Rep K (abb W H') v T:=by
 cases fr with
 | false=>exact h
 | true =>
  obtain ⟨a,xs,ts,rfl,rfl,e1,e2,r⟩:=h
  refine .lst (SqL.of ?_) (r.mono (aiE _ _))
  rw [aa1 λw=>hw a w e1]
  exact e2
noncomputable def Rp (K:PySem.W.Frag) (W:Addr->Prop) (H:Hp) (v:V) (T:Tr):Prop :=
 Rep K (abb W H) v T \/ ∃ a xs ts,v = .ref a /\ T = .lst ts /\ H a=some (.lst xs) /\ abd K (abb W H) xs ts
theorem Rp.rep {K:PySem.W.Frag} {W:Addr->Prop} {H:Hp} {v:V} {T:Tr} (h:Rp K W H v T):Rep K H v T:=by
 rcases h with h | ⟨a,xs,ts,rfl,rfl,e,r⟩
 ·exact h.mono (abo _ _)
 ·exact .lst (SqL.of e) (r.mono (abo _ _))
theorem Rp.lst {K:PySem.W.Frag} {W:Addr->Prop} {H:Hp} {v:V} {ts:List Tr} (h:Rp K W H v (.lst ts)):∃ a xs,v = .ref a /\ SqL K H a xs /\ abd K (abb W H) xs ts:=by
 rcases h with h | ⟨a,xs,us,rfl,e0,e,r⟩
 ·cases h with
  | lst h r=>exact ⟨_,_,rfl,(abo _ _).seq h,r⟩
 ·cases e0
  exact ⟨a,xs,rfl,SqL.of e,r⟩
theorem Rp.tup {K:PySem.W.Frag} {W:Addr->Prop} {H:Hp} {v:V} {ts:List Tr} (h:Rp K W H v (.tup ts)):∃ a xs,v = .ref a /\ SqT K H a xs /\ abd K (abb W H) xs ts:=by
 rcases h with h | ⟨a,xs,us,rfl,e0,e,r⟩
 ·cases h with
  | tup h r=>exact ⟨_,_,rfl,(abo _ _).atw h,r⟩
 ·cases e0
theorem Rp.int {K:PySem.W.Frag} {W:Addr->Prop} {H:Hp} {v:V} {i:Int} (h:Rp K W H v (.int i)):v = .int i:=by
 cases h.rep; rfl
theorem Rp.bl {K:PySem.W.Frag} {W:Addr->Prop} {H:Hp} {v:V} {i:Bool} (h:Rp K W H v (.bl i)):v = .bl i:=by
 cases h.rep; rfl
theorem Rp.str {K:PySem.W.Frag} {W:Addr->Prop} {H:Hp} {v:V} {i:Str} (h:Rp K W H v (.str i)):v = .str i:=by
 cases h.rep; rfl
theorem Rp.non {K:PySem.W.Frag} {W:Addr->Prop} {H:Hp} {v:V} (h:Rp K W H v .non):v = .non:=by
 cases h.rep; rfl
noncomputable def dr (ρ : En):Rv->Rs Tr
 | .v T _ => .ok T
 | .s i=>match ρ[i]? with
  | some (Sl.ow ts) => .ok (.lst ts)
  | some (Sl.rf ts) => .ok (.lst ts)
  | _ => .bad
theorem aeZ {t:Tx} {W:Addr->Prop} {ρ : En} {σ : St} {H H':Hp} {v:V} {r:Rv} {T:Tr} (e:EOk t W ρ σ H') (hw:∀ b,W b->H b ≠ none) (h:VOk t.K W σ H H' v r) (q:dr ρ r = .ok T):Rp t.K W H' v T:=by
 cases r with
 | v U fr =>
  cases q
  exact .inl (h.rep hw)
 | s i =>
  have h : σ[i]? = some (some v):=h
  dsimp only [dr] at q
  split at q
  ·rename_i ts e1
   cases q
   obtain ⟨a,xs,h1,h2,h3,h4,h5⟩:=e.ow i ts e1
   rw [h] at h1
   cases h1
   exact .inr ⟨a,xs,ts,rfl,rfl,h4,h5⟩
  ·rename_i ts e1
   cases q
   obtain ⟨a,xs,h1,h2,h3,h4,h5⟩:=e.rf i ts e1
   rw [h] at h1
   cases h1
   exact .inr ⟨a,xs,ts,rfl,rfl,h4,h5⟩
  ·cases q
theorem EOk.wn {t:Tx} {W:Addr->Prop} {ρ : En} {σ : St} {H:Hp} (e:EOk t W ρ σ H):∀ b,W b->H b ≠ none:=λb w=>by
 exact (e.wl b w).ne
theorem EOk.hide {t:Tx} {W:Addr->Prop} {ρ : En} {σ : St} {H H':Hp} {a:Addr} {xs:List V} (e:EOk t W ρ σ H) (s:Same H H') (n:H a=none) (q:H' a=some (.lst xs)):EOh t W a ρ σ H':=by
 have m:Same (abb W H) (abb (λb=>W b \/ b=a) H'):=λb o h=>by
  obtain ⟨w,h⟩:=abC h
  rw [aa1]
  ·exact s b o h
  ·rintro (z | rfl)
   ·exact w z
   ·rw [n] at h; cases h
 have na:∀ b,W b->b ≠ a:=λb w z=>by subst z; exact e.wn b w n
 obtain ⟨F,e⟩:=e
 refine ⟨F,⟨e.len,λb z => .inl (e.zw b z),e.z0,λb w=>?_,λb o h nr=>s b o (e.f0 b o h nr),λb h=>e.n0 b (s.free h),λi u h=>?_,λi ts h=>?_,λi ts h=>?_,e.dis,λb o h=>s b o (e.pn b o h),e.pd,λi ts h=>?_,e.dd,e.dm,e.db,(e.tab.same s).wid λb w => .inl w⟩,λi ts h z=>?_⟩
 ·rcases w with w | rfl
  ·exact (e.wl b w).grow s
  ·exact .inl ⟨xs,q⟩
 ·obtain ⟨v,h1,h2⟩:=e.sh i u h
  exact ⟨v,h1,h2.mono m⟩
 ·obtain ⟨c,ys,h1,h2,h3,h4,h5⟩:=e.ow i ts h
  exact ⟨c,ys,h1,.inl h2,h3,s _ _ h4,h5.mono m⟩
 ·obtain ⟨c,ys,h1,h2,h3,h4,h5⟩:=e.rf i ts h
  exact ⟨c,ys,h1,.inl h2,h3,s _ _ h4,h5.mono m⟩
 ·obtain ⟨c,ys,h1,d⟩:=e.dp i ts h
  exact ⟨c,ys,h1,d.move rfl rfl m (λb hb=>by obtain ⟨_,_,_,ww,_⟩:=d; exact .inl (ww b hb).1) λb o _ q=>s b o q⟩
 ·obtain ⟨c,ys,h1,bs,_,_,ww,_⟩:=e.dp i ts h
  exact na a (ww a z).1 rfl
noncomputable def VOE (t:Tx) (W:Addr->Prop) (ρ : En) (σ : St) (H H':Hp) (v:V) (r:Rv):Prop:=VOk t.K W σ H H' v r /\ ∀ T a,r = .v T true->v = .ref a->EOh t W a ρ σ H'
theorem VOE.of {t:Tx} {W:Addr->Prop} {ρ : En} {σ σ':St} {H H':Hp} {v:V} {T:Tr} {fr:Bool} (e:EOk t W ρ σ H) (s:Same H H') (h:VOk t.K W σ' H H' v (.v T fr)):VOE t W ρ σ H H' v (.v T fr):=by
 refine ⟨by cases fr <;> exact h,λU a z ev=>?_⟩
 cases z
 obtain ⟨b,xs,ts,rfl,_,n,q,_⟩:=h
 cases ev
 exact e.hide s n q
theorem VOE.low {t:Tx} {W:Addr->Prop} {ρ : En} {σ : St} {H H':Hp} {v:V} {T:Tr} (h:Rep t.K (abb W H') v T):VOE t W ρ σ H H' v (.v T false):=⟨h,λ_ _ z=>by cases z⟩
theorem VOE.back {t:Tx} {W:Addr->Prop} {ρ : En} {σ : St} {G H H':Hp} {v:V} {r:Rv} (h:VOE t W ρ σ H H' v r) (d:∀ b,H b=none->G b=none):VOE t W ρ σ G H' v r:=⟨h.1.back d,h.2⟩
noncomputable def SE (t:Tx) (te:TE) (f:EF):Prop:=∀ W ρ σ H Q,EOk t W ρ σ H->(f ρ).post t.EX (λp=>∀ v H',EOk t W p.2 σ H'->Stp W H H'->VOE t W p.2 σ H H' v p.1->Q v H')->te σ H Q
noncomputable abbrev BF:=En->Rs (Bool × En)
noncomputable def ST (t:Tx) (te:TT) (f:BF):Prop:=∀ W ρ σ H Q,EOk t W ρ σ H->(f ρ).post t.EX (λp=>∀ H',EOk t W p.2 σ H'->Stp W H H'->Q p.1 H')->te σ H Q
noncomputable abbrev AF:=En->Rs (List Rv × En)
inductive ahO (K:PySem.W.Frag) (W:Addr->Prop) (σ : St) (H H':Hp):List V->List Rv->Prop
 | nil:ahO K W σ H H' [] []
 | cons {v:V} {r:Rv} {vs:List V} {rs:List Rv} (h:VOk K W σ H H' v r) (q:ahO K W σ H H' vs rs):ahO K W σ H H' (v :: vs) (r :: rs)
noncomputable def SA (t:Tx) (te:TA) (f:AF):Prop:=∀ W ρ σ H Q,EOk t W ρ σ H->(f ρ).post t.EX (λp=>∀ vs H',EOk t W p.2 σ H'->Stp W H H'->ahO t.K W σ H H' vs p.1->Q vs H')->te σ H Q
section
variable {t:Tx}
noncomputable def aag (i:Nat):EF:=λρ => match ρ[i]? with
 | some (.sh T) => .ok (.v T false,ρ)
 | some (.ow _) => .ok (.s i,ρ)
 | some (.rf _) => .ok (.s i,ρ)
 | _ => .bad
theorem aae (i:Nat):SE t (aph i) (aag i):=λW ρ σ H Q e h=>by
 unfold aag at h
 split at h
 ·rename_i T q
  obtain ⟨v,h1,h2⟩:=e.sh i T q
  exact ⟨v,h1,h v H e (Stp.refl _ _) (.low h2)⟩
 ·rename_i ts q
  obtain ⟨a,xs,h1,_⟩:=e.ow i ts q
  exact ⟨_,h1,h _ H e (Stp.refl _ _) ⟨h1,λ_ _ z=>by cases z⟩⟩
 ·rename_i ts q
  obtain ⟨a,xs,h1,_⟩:=e.rf i ts q
  exact ⟨_,h1,h _ H e (Stp.refl _ _) ⟨h1,λ_ _ z=>by cases z⟩⟩
 ·exact h.elim
noncomputable def eC (T:Tr):EF:=λρ => .ok (.v T false,ρ)
theorem aun {v:V} {T:Tr} (h:∀ H,Rep t.K H v T):SE t (tC v) (eC T):=λW ρ σ H Q e q=>q v H e (Stp.refl _ _) (.low (h _))
theorem aao (i:Int):SE t (tC (.int i)) (eC (.int i)):=aun λ_ => .int i
theorem ahb (i:Bool):SE t (tC (.bl i)) (eC (.bl i)):=aun λ_ => .bl i
theorem acp (i:Str):SE t (tC (.str i)) (eC (.str i)):=aun λ_ => .str i
theorem ajv:SE t (tC .non) (eC .non):=aun λ_ => .non
noncomputable abbrev G2:=Tr->Tr->Rs (Tr × Bool)
noncomputable def OpT (K:PySem.W.Frag) (r:R2) (g:G2):Prop:=∀ W x y a b H Q,(∀ b,W b->Lt H b)->Rp K W H x a->Rp K W H y b ->
 (g a b).post (λ_=>False) (λp=>∀ v H',Same H H'->VOk K W [] H H' v (.v p.1 p.2)->Q v H')->r x y H Q
noncomputable def eOp (g:G2) (fa fb:EF):EF:=λρ => (fa ρ).bind λp=>(fb p.2).bind λq=>(dr q.2 p.1).bind λa=>(dr q.2 q.1).bind λb=>(g a b).bind λz => .ok (.v z.1 z.2,q.2)
theorem akl {α : Type} {r:Rs α} {EX:Str->Prop} {P : α -> Prop} (h:r.post EX P) (n:∀ c,r ≠ .ex c):r.post (λ_=>False) P:=by
 cases r with
 | bad=>exact h
 | ex c=>exact (n c rfl).elim
 | ok a=>exact h
theorem acH (ρ : En) (r:Rv) (c:Str):dr ρ r ≠ .ex c:=by
 cases r with
 | v T fr=>intro z; cases z
 | s i =>
  dsimp only [dr]
  split <;> (intro z; cases z)
theorem afv {r:R2} {g:G2} {ta tb:TE} {fa fb:EF} (o:OpT t.K r g) (ng:∀ a b c,g a b ≠ .ex c) (ha:SE t ta fa) (hb:SE t tb fb):SE t (tOp r ta tb) (eOp g fa fb):=λW ρ σ H Q e h=>by
 refine ha W ρ σ H _ e (Rs.aal (Rs.aaf h) λp h x H1 e1 s1 v1=>?_)
 refine hb W p.2 σ H1 _ e1 (Rs.aal (Rs.aaf h) λq h y H2 e2 s2 v2=>?_)
 have h:=Rs.aaf h
 cases k1:dr q.2 p.1 with
 | bad=>rw [k1] at h; exact h.elim
 | ex c=>exact (acH _ _ _ k1).elim
 | ok a =>
  rw [k1] at h
  have h:((dr q.2 q.1).bind _).post _ _:=h
  have h:=Rs.aaf h
  cases k2:dr q.2 q.1 with
  | bad=>rw [k2] at h; exact h.elim
  | ex c=>exact (acH _ _ _ k2).elim
  | ok b =>
   rw [k2] at h
   have h:((g a b).bind _).post _ _:=h
   have r1:=aeZ e2 e.wn (v1.1.step e.wn s2) k1
   have r2:=aeZ e2 e1.wn v2.1 k2
   refine o W x y a b H2 Q e2.wl r1 r2 (Rs.aal (akl (Rs.aaf h) (ng a b)) λz h v H3 s3 v3=>?_)
   have st:Stp W H H3:=(s1.trans s2).trans (Stp.of s3)
   exact h v H3 (e2.grow s3) st ((VOE.of e2 s3 v3).back λb q=>(s1.trans s2).dom b q)
inductive Atm:V->Tr->Prop
 | non:Atm .non .non
 | bl (b:Bool):Atm (.bl b) (.bl b)
 | int (b:Int):Atm (.int b) (.int b)
 | str (b:Str):Atm (.str b) (.str b)
theorem Atm.rep {K:PySem.W.Frag} {H:Hp} {v:V} {T:Tr} (h:Atm v T):Rep K H v T:=by
 cases h <;> constructor
end
end L2
end
section
namespace L2
open PySem PySem.Spec PyProof.Rows
section
variable {X:Cx}
noncomputable def aw2 (K:PySem.W.Frag):R2:=λx y H Q=>∃ t u,Rep K H x t /\ Rep K H y u /\ dep t<=40 /\ dep u<=40 /\ Q (.bl (!eqT t u)) H
theorem alQ (hu:X.A.units + 64<cLine):OpR X (compareOp .NotEq) (aw2 X.K):=by
 intro pins s σ H x y v u Q I vx vy h
 obtain ⟨t,t',rx,ry,hd,du,q⟩:=h
 have hu0:X.A.units<cLine:=by omega
 have hu1:X.A.in1.units + 40<cLine:=by
  have:=in1_units X.A
  omega
 have fin:SeqAt.RcNeAt X.A s v u (!eqT t t')->wpAny (model X.prog X.w) X.A (compareOp .NotEq v u) (EP X pins σ Q) X.xe s:=λh=>h _ _ _ _ ⟨.bl _,H,I,rfl,q⟩
 have items:∀ {xs ys:List V} {ts us:List Tr} {its its2:List Value},Vals xs its->Vals ys its2->abd X.K H xs ts->abd X.K H ys us->deps ts<=40->deps us<=40->∀ j (h1:j<its.toArray.size) (h2:j<its2.toArray.size),SeqAt.EqAt X.A.in1 s its.toArray[j] its2.toArray[j] (atE ts us j):=by
  intro xs ys ts us its its2 r1 r2 q1 q2 hde hu9 j h1 h2
  obtain ⟨a,ea,ra⟩:=agO r1 h1
  obtain ⟨b,eb,rb⟩:=agO r2 h2
  obtain ⟨ta,eta,qa⟩:=q1.get ea
  obtain ⟨tb,etb,qb⟩:=q2.get eb
  rw [alJ eta etb]
  exact (akr I 40 X.A.in1 ta tb a b _ _ hu1 (Nat.le_trans (aeB eta) hde) (by have:=aeB eta; omega) (by have:=aeB etb; omega) qa qb ra rb).2
 cases rx with
 | exn h m n=>unfold dep at hd; omega
 | non =>
  cases vx
  cases ry with
  | non=>cases vy; unfold eqT at fin; exact fin .none_none
  | bl b2=>cases vy; unfold eqT at fin; exact fin (.none_bool _)
  | int i2=>obtain ⟨_,rfl⟩:=vy; unfold eqT at fin; exact fin (.none_int _ _)
  | str z2=>obtain ⟨_,rfl⟩:=vy; unfold eqT at fin; exact fin (.none_str _ _)
  | tup h r=>cases vy; obtain ⟨_,_,p,_⟩:=I.tuple h; unfold eqT at fin; exact fin (.none_tuple p hu0)
  | lst h r=>cases vy; obtain ⟨_,_,p,_⟩:=I.list h; unfold eqT at fin; exact fin (.none_list p.isList hu0)
  | exn h m n=>unfold dep at du; omega
 | bl b =>
  cases vx
  cases ry with
  | non=>cases vy; unfold eqT at fin; exact fin (.bool_none _)
  | bl b2=>cases vy; unfold eqT at fin; exact fin (.bool_bool _ _)
  | int i2=>obtain ⟨_,rfl⟩:=vy; unfold eqT at fin; exact fin (.bool_int _ _ _)
  | str z2=>obtain ⟨_,rfl⟩:=vy; unfold eqT at fin; exact fin (.bool_str _ _ _)
  | tup h r=>cases vy; obtain ⟨_,_,p,_⟩:=I.tuple h; unfold eqT at fin; exact fin (.bool_tuple _ p hu0)
  | lst h r=>cases vy; obtain ⟨_,_,p,_⟩:=I.list h; unfold eqT at fin; exact fin (.bool_list _ p.isList hu0)
  | exn h m n=>unfold dep at du; omega
 | int i =>
  obtain ⟨_,rfl⟩:=vx
  cases ry with
  | non=>cases vy; unfold eqT at fin; exact fin (.int_none _ _)
  | bl b2=>cases vy; unfold eqT at fin; exact fin (.int_bool _ _ _)
  | int i2=>obtain ⟨_,rfl⟩:=vy; unfold eqT at fin; exact fin (.int_int _ _ _ _)
  | str z2=>obtain ⟨_,rfl⟩:=vy; unfold eqT at fin; exact fin (.int_str _ _ _ _)
  | tup h r=>cases vy; obtain ⟨_,_,p,_⟩:=I.tuple h; unfold eqT at fin; exact fin (.int_tuple _ _ p hu0)
  | lst h r=>cases vy; obtain ⟨_,_,p,_⟩:=I.list h; unfold eqT at fin; exact fin (.int_list _ _ p.isList hu0)
  | exn h m n=>unfold dep at du; omega
 | str z =>
  obtain ⟨_,rfl⟩:=vx
  cases ry with
  | non=>cases vy; unfold eqT at fin; exact fin (.str_none _ _)
  | bl b2=>cases vy; unfold eqT at fin; exact fin (.str_bool _ _ _)
  | int i2=>obtain ⟨_,rfl⟩:=vy; unfold eqT at fin; exact fin (.str_int _ _ _ _)
  | str z2=>obtain ⟨_,rfl⟩:=vy; unfold eqT at fin; exact fin (.str_str _ _ _ _)
  | tup h r=>cases vy; obtain ⟨_,_,p,_⟩:=I.tuple h; unfold eqT at fin; exact fin (.str_tuple _ _ p hu0)
  | lst h r=>cases vy; obtain ⟨_,_,p,_⟩:=I.list h; unfold eqT at fin; exact fin (.str_list _ _ p.isList hu0)
  | exn h m n=>unfold dep at du; omega
 | @tup a1 xs1 ts h1 r1 =>
  cases vx
  obtain ⟨its,rv,p,_⟩:=I.tuple h1
  have hd':deps ts<=40:=by unfold dep at hd; omega
  cases ry with
  | non=>cases vy; unfold eqT at fin; exact fin (.tuple_none p hu0)
  | bl b2=>cases vy; unfold eqT at fin; exact fin (.tuple_bool _ p hu0)
  | int i2=>obtain ⟨_,rfl⟩:=vy; unfold eqT at fin; exact fin (.tuple_int _ _ p hu0)
  | str z2=>obtain ⟨_,rfl⟩:=vy; unfold eqT at fin; exact fin (.tuple_str _ _ p hu0)
  | lst h r=>cases vy; obtain ⟨_,_,p2,_⟩:=I.list h; unfold eqT at fin; exact fin (.tuple_list p p2.isList hu0)
  | exn h m n=>unfold dep at du; omega
  | @tup a2 xs2 us h2 r2 =>
   cases vy
   obtain ⟨its2,rv2,p2,_⟩:=I.tuple h2
   have R:=SeqAt.RcNeAt.tuples (A:=X.A) (e:=atE ts us) p p2 (by omega) λj k1 k2=>items rv rv2 r1 r2 hd' (by unfold dep at du; omega) j k1 k2
   have el:its.toArray.size=ts.length:=by simpa using (rv.length.symm.trans r1.length)
   have el2:its2.toArray.size=us.length:=by simpa using (rv2.length.symm.trans r2.length)
   rw [el,el2] at R
   have eb:((List.range (min ts.length us.length)).all (atE ts us) && ts.length == us.length)=eqT (.tup ts) (.tup us):=by
    unfold eqT
    by_cases e:ts.length=us.length
    ·rw [e,Nat.min_self,<-e,ag9 e,beq_self_eq_true,Bool.and_true]
    ·rw [beq_false_of_ne e,Bool.and_false,afs e]
   rw [eb] at R
   exact fin R
 | @lst a1 xs1 ts h1 r1 =>
  cases vx
  obtain ⟨its,rv,p,_⟩:=I.list h1
  have hd':deps ts<=40:=by unfold dep at hd; omega
  cases ry with
  | non=>cases vy; unfold eqT at fin; exact fin (.list_none p.isList hu0)
  | bl b2=>cases vy; unfold eqT at fin; exact fin (.list_bool _ p.isList hu0)
  | int i2=>obtain ⟨_,rfl⟩:=vy; unfold eqT at fin; exact fin (.list_int _ _ p.isList hu0)
  | str z2=>obtain ⟨_,rfl⟩:=vy; unfold eqT at fin; exact fin (.list_str _ _ p.isList hu0)
  | exn h m n=>unfold dep at du; omega
  | tup h r=>cases vy; obtain ⟨_,_,p2,_⟩:=I.tuple h; unfold eqT at fin; exact fin (.list_tuple p.isList p2 hu0)
  | @lst a2 xs2 us h2 r2 =>
   cases vy
   obtain ⟨its2,rv2,p2,_⟩:=I.list h2
   have el:its.toArray.size=ts.length:=by simpa using (rv.length.symm.trans r1.length)
   have el2:its2.toArray.size=us.length:=by simpa using (rv2.length.symm.trans r2.length)
   by_cases e:ts.length=us.length
   ·have R:=SeqAt.RcNeAt.lists (A:=X.A) (e:=atE ts us) p.isList p2.isList (by omega) (by omega) λj k1 k2=>items rv rv2 r1 r2 hd' (by unfold dep at du; omega) j k1 k2
    rw [el] at R
    rw [ag9 e] at R
    unfold eqT at fin
    exact fin R
   ·have R:=SeqAt.RcNeAt.lists_lengths (A:=X.A) p.isList p2.isList (by rw [el,el2]; simpa using e) (by omega)
    unfold eqT at fin
    rw [afs e] at fin
    exact fin R
end
open Classical in
noncomputable def noL (o:Obj):Obj:=if o.cls = .type "list" ∧ ¬ (∃ its n,o={cls := .type "list",data := .seq its n }) then {cls := .none,data := .fields #[] } else o
noncomputable def nlK (K:PySem.W.Frag):PySem.W.Frag:=K.map λp=>(p.1,noL p.2)
theorem abp:∀ (K:PySem.W.Frag) (a:Addr),(nlK K).lookup a=(K.lookup a).map noL
 | [],a=>rfl
 | (c,q) :: r,a=>by
  show ((c,noL q) :: nlK r).lookup a=_
  rw [List.lookup_cons,List.lookup_cons]
  cases a == c with
  | true=>rfl
  | false=>exact abp r a
theorem arK {K:PySem.W.Frag} {a:Addr} {o:Obj} (h:(nlK K).lookup a=some o) (c:o.cls = .type "tuple"):K.lookup a=some o:=by
 rw [abp] at h
 cases e:K.lookup a with
 | none=>rw [e] at h; cases h
 | some q =>
  rw [e] at h
  have h:noL q=o:=Option.some.inj h
  unfold noL at h
  split at h
  ·subst h; cases c
  ·rw [h]
theorem arL {K:PySem.W.Frag} {a:Addr} {o:Obj} (h:(nlK K).lookup a=some o) (c:o.cls = .type "list"):K.lookup a=some o∧∃ its n,o={cls := .type "list",data := .seq its n }:=by
 rw [abp] at h
 cases e:K.lookup a with
 | none=>rw [e] at h; cases h
 | some q =>
  rw [e] at h
  have h:noL q=o:=Option.some.inj h
  unfold noL at h
  split at h
  ·subst h; cases c
  ·rename_i n
   subst h
   refine ⟨rfl,?_⟩
   by_cases z:∃ its n,q={cls := .type "list",data := .seq its n }
   ·exact z
   ·exact (n ⟨c,z⟩).elim
theorem auo {K:PySem.W.Frag} {a:Addr} {o:Obj} (h:K.lookup a=some o) (c:o.cls = .type "tuple"):(nlK K).lookup a=some o:=by
 rw [abp,h]
 show some (noL o)=some o
 unfold noL
 rw [if_neg (by rintro ⟨z,_⟩; rw [c] at z; injection z with z; exact absurd z (by decide))]
theorem SqT.toK {K:PySem.W.Frag} {H:Hp} {a:Addr} {xs:List V} (h:SqT (nlK K) H a xs):SqT K H a xs:=by
 rcases h with h | ⟨o,its,n,e,c,r⟩
 ·exact .inl h
 ·exact .inr ⟨o,its,n,arK e c,c,r⟩
noncomputable def SqX (K:PySem.W.Frag) (H:Hp) (a:Addr) (xs:List V):Prop:=Rd H a (.lst xs) \/ ∃ (its:Array Value) (n:Nat),K.lookup a=some {cls := .type "list",data := .seq its n } /\ its.size<=sizeLine /\ Vals xs its.toList
theorem SqL.rdX {K:PySem.W.Frag} {H:Hp} {a:Addr} {xs:List V} (h:SqL (nlK K) H a xs):SqX K H a xs:=by
 rcases h with h | ⟨o,its,n,e,c,_,d,r⟩
 ·exact .inl h
 ·obtain ⟨e2,its',n',rfl⟩:=arL e c
  have d:Data.seq its' n' = .seq its n:=d
  injection d with d1 d2
  subst d1 d2
  exact .inr ⟨its',n',e2,r⟩
theorem SqX.toK {K:PySem.W.Frag} {H:Hp} {a:Addr} {xs:List V} (h:SqX K H a xs):SqL K H a xs:=by
 rcases h with h | ⟨its,n,e,r⟩
 ·exact .inl h
 ·exact .inr ⟨_,its,n,e,rfl,rfl,rfl,r⟩
theorem SqX.toN {K:PySem.W.Frag} {H:Hp} {a:Addr} {xs:List V} (h:SqX K H a xs):SqL (nlK K) H a xs:=by
 rcases h with h | ⟨its,n,e,r⟩
 ·exact .inl h
 ·refine .inr ⟨{cls := .type "list",data := .seq its n },its,n,?_,rfl,rfl,rfl,r⟩
  rw [abp,e]
  show some (noL _)=_
  unfold noL
  rw [if_neg λz=>z.2 ⟨its,n,rfl⟩]
theorem SqL.toK {K:PySem.W.Frag} {H:Hp} {a:Addr} {xs:List V} (h:SqL (nlK K) H a xs):SqL K H a xs:=h.rdX.toK
theorem apA {K:PySem.W.Frag} {N:Addr} {c:Str} {v:Value} (h:PySem.W.nsIn (nlK K) N c=some (some v)):PySem.W.nsIn K N c=some (some v):=by
 unfold PySem.W.nsIn at h ⊢
 rw [abp] at h
 cases e:K.lookup N with
 | none=>rw [e] at h; cases h
 | some q =>
  rw [e] at h
  by_cases z:q.cls = .type "list" ∧ ¬ (∃ its n,q={cls := .type "list",data := .seq its n })
  ·have:noL q={cls := .none,data := .fields #[] }:=by unfold noL; rw [if_pos z]
   rw [show (some q).map noL=some (noL q) from rfl,this] at h
   cases h
  ·have:noL q=q:=by unfold noL; rw [if_neg z]
   rw [show (some q).map noL=some (noL q) from rfl,this] at h
   exact h
theorem arM {K:PySem.W.Frag} {N:Addr} {c:Str} {v:Value} (m:∀ o,K.lookup N=some o->o.cls ≠ .type "list") (h:PySem.W.nsIn K N c=some (some v)):PySem.W.nsIn (nlK K) N c=some (some v):=by
 unfold PySem.W.nsIn at h ⊢
 rw [abp]
 cases e:K.lookup N with
 | none=>rw [e] at h; cases h
 | some q =>
  rw [e] at h
  have:noL q=q:=by unfold noL; rw [if_neg λz=>m q e z.1]
  rw [show (some q).map noL=some (noL q) from rfl,this]
  exact h
mutual
theorem Rep.toK {K:PySem.W.Frag} {H:Hp}:∀ {v:V} {t:Tr},Rep (nlK K) H v t->Rep K H v t
 | _,_,.non => .non
 | _,_,.bl b => .bl b
 | _,_,.int i => .int i
 | _,_,.str x => .str x
 | _,_,.tup h r => .tup h.toK (abd.toK r)
 | _,_,.lst h r => .lst h.toK (abd.toK r)
 | _,_,.exn h m n => .exn h m (apA n)
theorem abd.toK {K:PySem.W.Frag} {H:Hp}:∀ {v:List V} {t:List Tr},abd (nlK K) H v t->abd K H v t
 | _,_,.nil => .nil
 | _,_,.cons h r => .cons (Rep.toK h) (abd.toK r)
end
section
variable {X:Cx}
theorem Inv.rdL {pins:List (Addr × Obj)} {σ : St} {H:Hp} {s:Shared} {l:Addr} {xs:List V} (I:Inv X pins σ H s) (hH:SqX X.K H l xs):xs.length<=sizeLine /\ ∃ (its:List Value) (n:Nat),Vals xs its /\ xs.length=its.length /\ s.heap.get? l=some {cls := .type "list",data := .seq its.toArray n }:=by
 rcases hH with hH | ⟨its,n,e,z,r⟩
 ·obtain ⟨z,its,n,r,e⟩:=hH.ok I.hok
  exact ⟨z,its,n,r,r.length,e⟩
 ·have l':xs.length=its.size:=r.length.trans Array.length_toList
  exact ⟨by rw [l']; exact z,its.toList,n,r,r.length,I.kIn _ _ e⟩
noncomputable def aup (K:PySem.W.Frag):R2:=λx y H Q=>∃ l b xs zs,x = .ref l /\ y = .ref b /\ SqX K H l xs /\ SqX K H b zs /\ xs.length + zs.length<=sizeLine /\ ∀ p,H p=none->Q (.ref p) (upd H p (.lst (xs ++ zs)))
theorem arN:OpR X (binaryOp .Add) (aup X.K):=by
 intro pins s σ H x y v u Q I rx ry h
 obtain ⟨l,b,xs,zs,rfl,rfl,hH,hB,hz,q⟩:=h
 cases rx
 cases ry
 obtain ⟨z,its,n,r,hl,e⟩:=I.rdL hH
 obtain ⟨z2,its2,n2,r2,hl2,e2⟩:=I.rdL hB
 refine PySem.P.add_list e e2 ?_ (by rw [List.size_toArray,List.size_toArray]; omega)
 have ea:its.toArray ++ its2.toArray=(its ++ its2).toArray:=by simp
 rw [ea]
 exact ⟨.ref _,_,I.awT (t':=s.toks) (r.append r2) (by rw [List.length_append]; omega),rfl,q _ I.fresh⟩
end
end L2
end
section
namespace L2
open PySem PySem.Spec PyProof.Rows
noncomputable def auq (K:PySem.W.Frag):R2:=λx y H Q=>∃ l k xs,x = .ref l /\ y = .int k /\ SqX K H l xs /\ -(2 ^ 63)<=k /\ k<2 ^ 63 /\ xs.length * k.toNat<=sizeLine /\ ∀ p,H p=none->Q (.ref p) (upd H p (.lst (List.replicate k.toNat xs).flatten))
theorem arO {X:Cx}:OpR X (binaryOp .Mult) (auq X.K):=by
 intro pins s σ H x y v u Q I rx ry h
 obtain ⟨l,k,xs,rfl,rfl,hH,h1,h2,hz,q⟩:=h
 cases rx
 obtain ⟨t,rfl⟩:=ry
 obtain ⟨z,its,n,r,hl,e⟩:=I.rdL hH
 have hlen:its.toArray.size * k.toNat<=sizeLine:=by rw [List.size_toArray,<-hl]; exact hz
 have hcap:¬ its.toArray.size * k.toNat > (2 ^ 63 - 1) / 8:=by
  have:(sizeLine:Nat)<=(2 ^ 63 - 1) / 8:=by decide
  omega
 have hfit:¬ (!Builtin.List.listFitsIndex k)=true:=by
  rw [fitsIndex_both h1 h2]
  exact Bool.false_ne_true
 have aw3:¬ Builtin.List.listTooLong (its.toArray.size * k.toNat)=true:=by
  rw [aps hlen]
  exact Bool.false_ne_true
 have hnew:List.foldl (λx1 x2=>x1 ++ x2) #[] (List.replicate (if its.toArray.isEmpty=true then 0 else k.toNat) its.toArray)=(List.replicate k.toNat its).flatten.toArray:=by
  have f0:∀ m:Nat,List.foldl (λx1 x2=>x1 ++ x2) #[] (List.replicate m its.toArray)=(List.replicate m its).flatten.toArray:=λm=>by
   have:=foldl_rep its m []
   rw [List.nil_append] at this
   exact this
  rw [f0]
  cases its with
  | nil=>simp
  | cons a r'=>rw [if_neg (by simp)]
 refine wpAny_binaryOp_repeat_ref (T := "list") (U := "int") (by decide) ⟨_,e,rfl⟩ (λs'=>typeIs_int s' k t) noFill_list_mul F.fills_int_mul F.slot_int_rmul repeat_list F.slot_int_index.lookup
  (call_meets F.slot_int_rmul (typeIs_int s k t) F.entry_int_rmul (F.args_int_rmul_2 _ _) (int___rmul___int_list k t l its.toArray n)
   ⟨e,rfl,⟨_,e,rfl⟩,call_meets F.slot_list_mul ⟨_,e,rfl⟩ F.entry_list_mul (F.args_list_mul_2 _ _) (AutoListH.list___mul___list_int_3 l its.toArray n k t hfit hcap aw3) ⟨e,?_⟩⟩)
 rw [hnew]
 exact ⟨.ref _,_,I.awT (t':=s.toks) (r.rep k.toNat) (by rw [len_rep,Nat.mul_comm]; exact hz),rfl,q _ I.fresh⟩
end L2
end
section
namespace L2
open PySem PySem.Spec PyProof.Rows
section
variable {K:PySem.W.Frag} {W:Addr->Prop} {σ : St} {H:Hp} {p:Addr} {xs:List V} {ts:List Tr}
theorem agR {o:HO} (hp:H p=none):Same (abb W H) (off p (abb W (upd H p o))):=λb u q=>by
 obtain ⟨n,e⟩:=abC q
 have ne:b ≠ p:=abh e hp
 rw [off_ne ne,aa1 n,aaF ne]
 exact e
theorem VOk.new (hp:H p=none) (r:abd K (abb W H) xs ts):VOk K W σ H (upd H p (.lst xs)) (.ref p) (.v (.lst ts) true) :=
 ⟨p,xs,ts,rfl,rfl,hp,aa9,r.mono (agR hp)⟩
theorem VOk.newT (hw:∀ b,W b->Lt H b) (hp:H p=none) (r:abd K (abb W H) xs ts):VOk K W σ H (upd H p (.tup xs)) (.ref p) (.v (.tup ts) false):=by
 have nw:¬ W p:=λw=>by
  exact (hw p w).ne hp
 refine .tup (SqT.of ?_) (r.mono λb u q=>(aeR (agR (o := .tup xs) hp b u q)).2)
 rw [aa1 nw]
 exact aa9
theorem VOk.atm {H':Hp} {v:V} {T:Tr} (h:Atm v T):VOk K W σ H H' v (.v T false):=h.rep
theorem abd.apB {H:Hp}:∀ {v:List V} {t:List Tr} {i:Nat} {u:Tr},abd K H v t->t[i]? = some u->∃ x,v[i]? = some x /\ Rep K H x u
 | _,_,_,_,.nil,e=>by simp at e
 | _,_,0,_,.cons h _,e=>by
  simp at e
  subst e
  exact ⟨_,rfl,h⟩
 | _,_,i + 1,x,.cons _ r,e=>by
  obtain ⟨u,h1,h2⟩:=abd.apB (i:=i) (u:=x) r (by simpa using e)
  exact ⟨u,by simpa using h1,h2⟩
theorem abd.atI (r:abd K H xs ts) {i:Int} {t:Tr} (h:atI ts i=some t):∃ x,L2.atI xs i=some x /\ Rep K H x t:=by
 unfold L2.atI at h ⊢
 rw [r.length]
 cases e:ixN ts.length i with
 | none=>rw [e] at h; cases h
 | some j =>
  rw [e] at h
  exact r.apB h
theorem Rp.ayV {v:V} (h:Rp K W H v (.tup ts)):Rep K (abb W H) v (.tup ts):=by
 rcases h with h | ⟨a,xs,us,rfl,e0,e,r⟩
 ·exact h
 ·cases e0
theorem big {n:Nat} (h:n<=100000):n<=sizeLine:=Nat.le_trans h (by decide)
end
section
variable {K:PySem.W.Frag}
noncomputable def gI (p:Int->Int->Int):G2
 | .int i,.int j => .ok (.int (p i j),false)
 | _,_ => .bad
theorem azt {p:Int->Int->Int}:OpT K (rI0 λi j => .int (p i j)) (gI p):=λW x y a b H Q hw rx ry h=>by
 cases a <;> try exact h.elim
 cases b <;> try exact h.elim
 rw [rx.int,ry.int]
 exact ⟨_,_,rfl,rfl,h _ H (Same.refl _) (.atm (.int _))⟩
noncomputable def gIC (c:Int->Int->Bool) (p:Int->Int->Int):G2
 | .int i,.int j=>if c i j=true then .ok (.int (p i j),false) else .bad
 | _,_ => .bad
theorem arP {C:Int->Int->Prop} {c:Int->Int->Bool} {p:Int->Int->Int} (hc:∀ i j,c i j=true->C i j):OpT K (rI C λi j => .int (p i j)) (gIC c p):=λW x y a b H Q hw rx ry h=>by
 cases a <;> try exact h.elim
 cases b <;> try exact h.elim
 rw [rx.int,ry.int]
 dsimp only [gIC] at h
 split at h
 ·rename_i e
  exact ⟨_,_,rfl,rfl,hc _ _ e,h _ H (Same.refl _) (.atm (.int _))⟩
 ·exact h.elim
noncomputable def gB (p:Int->Int->Bool):G2
 | .int i,.int j => .ok (.bl (p i j),false)
 | _,_ => .bad
theorem aw4 {p:Int->Int->Bool}:OpT K (rI0 λi j => .bl (p i j)) (gB p):=λW x y a b H Q hw rx ry h=>by
 cases a <;> try exact h.elim
 cases b <;> try exact h.elim
 rw [rx.int,ry.int]
 exact ⟨_,_,rfl,rfl,h _ H (Same.refl _) (.atm (.bl _))⟩
noncomputable def gEq:G2:=λt u=>if dep t<=40 /\ dep u<=40 then .ok (.bl (eqT t u),false) else .bad
theorem aw5:OpT (nlK K) (awU K) gEq:=λW x y a b H Q hw rx ry h=>by
 unfold gEq at h
 split at h
 ·rename_i e
  exact ⟨a,b,rx.rep.toK,ry.rep.toK,e.1,e.2,h _ H (Same.refl _) (.atm (.bl _))⟩
 ·exact h.elim
noncomputable def gNe:G2:=λt u=>if dep t<=40 /\ dep u<=40 then .ok (.bl (!eqT t u),false) else .bad
theorem aw6:OpT (nlK K) (aw2 K) gNe:=λW x y a b H Q hw rx ry h=>by
 unfold gNe at h
 split at h
 ·rename_i e
  exact ⟨a,b,rx.rep.toK,ry.rep.toK,e.1,e.2,h _ H (Same.refl _) (.atm (.bl _))⟩
 ·exact h.elim
noncomputable def gIn (f:Bool->Bool):G2:=λt u=>match u with
 | .lst us=>if deps us<=40 /\ dep t<=40 then .ok (.bl (f (awV t us)),false) else .bad
 | .tup us=>if deps us<=40 /\ dep t<=40 then .ok (.bl (f (awV t us)),false) else .bad
 | _ => .bad
theorem aw7:OpT (nlK K) (awW K) (gIn id):=λW x y a b H Q hw rx ry h=>by
 cases b <;> try exact h.elim
 ·rename_i us
  dsimp only [gIn] at h
  split at h
  ·rename_i e
   obtain ⟨p,xs,rfl,q,r⟩:=ry.tup
   exact ⟨a,us,p,xs,rx.rep.toK,rfl,.inr q.toK,(r.mono (abo _ _)).toK,e.1,e.2,h _ H (Same.refl _) (.atm (.bl _))⟩
  ·exact h.elim
 ·rename_i us
  dsimp only [gIn] at h
  split at h
  ·rename_i e
   obtain ⟨p,xs,rfl,q,r⟩:=ry.lst
   exact ⟨a,us,p,xs,rx.rep.toK,rfl,.inl q.toK,(r.mono (abo _ _)).toK,e.1,e.2,h _ H (Same.refl _) (.atm (.bl _))⟩
  ·exact h.elim
noncomputable def isN:Tr->Bool
 | .non=>true
 | _=>false
noncomputable def gIs (f:Bool->Bool):G2:=λt u=>match u with
 | .non => .ok (.bl (f (isN t)),false)
 | _ => .bad
theorem aur {H:Hp} {x:V} {t:Tr} (h:Rep K H x t):decide (x = .non)=isN t:=by
 cases h <;> rfl
theorem aus:OpT K (λx y H Q=>y = .non /\ Q (.bl (decide (x = .non))) H) (gIs id):=λW x y a b H Q hw rx ry h=>by
 cases b <;> try exact h.elim
 rw [ry.non,aur rx.rep]
 exact ⟨rfl,h _ H (Same.refl _) (.atm (.bl _))⟩
noncomputable def arQ (K:PySem.W.Frag):R2:=λx y H Q=>(rI0 λi j => .int (i + j)) x y H Q \/ aup K x y H Q \/ (∃ i j,x = .str i /\ y = .str j /\ i.length + j.length<=sizeLine /\ Q (.str (i ++ j)) H) \/ at9 K x y H Q
theorem aaB {X:Cx}:OpR X (binaryOp .Add) (arQ X.K):=OpR.or aqL (OpR.or arN (OpR.or amj arB))
noncomputable def aaT:G2
 | .int i,.int j => .ok (.int (i + j),false)
 | .lst a,.lst b=>if a.length + b.length<=100000 then .ok (.lst (a ++ b),true) else .bad
 | .str a,.str b=>if a.length + b.length<=100000 then .ok (.str (a ++ b),false) else .bad
 | .tup a,.tup b=>if 0<a.length /\ a.length + b.length<=100000 then .ok (.tup (a ++ b),false) else .bad
 | _,_ => .bad
theorem aut:OpT (nlK K) (arQ K) aaT:=λW x y a b H Q hw rx ry h=>by
 cases a <;> cases b <;> try exact h.elim
 ·rw [rx.int,ry.int]
  exact .inl ⟨_,_,rfl,rfl,h _ H (Same.refl _) (.atm (.int _))⟩
 ·rename_i i j
  rw [rx.str,ry.str]
  dsimp only [aaT] at h
  split at h
  ·rename_i e
   exact .inr (.inr (.inl ⟨i,j,rfl,rfl,big e,h _ H (Same.refl _) (.atm (.str _))⟩))
  ·exact h.elim
 ·rename_i us ws
  dsimp only [aaT] at h
  split at h
  ·rename_i e
   have rt:=rx.ayV
   obtain ⟨p,xs,rfl,q,r⟩:=rx.tup
   obtain ⟨p',ys,rfl,q',r'⟩:=ry.tup
   have l1:=r.length
   have l2:=r'.length
   refine .inr (.inr (.inr ⟨p,p',xs,ys,rfl,rfl,q.toK,q'.toK,?_,by rw [l1,l2]; exact big e.2,λz=>h _ H (Same.refl _) ?_,λ_ z hz=>h _ _ (aaW hz _) (.newT hw hz (r.app r'))⟩))
   ·rintro rfl
    have e1:=e.1
    rw [<-l1] at e1
    cases e1
   ·subst z
    cases r'
    rw [List.append_nil]
    exact rt
  ·exact h.elim
 ·rename_i us ws
  dsimp only [aaT] at h
  split at h
  ·rename_i e
   obtain ⟨p,xs,rfl,q,r⟩:=rx.lst
   obtain ⟨p',ys,rfl,q',r'⟩:=ry.lst
   refine .inr (.inl ⟨p,p',xs,ys,rfl,rfl,q.rdX,q'.rdX,by rw [r.length,r'.length]; exact big e,λz hz=>h _ _ (aaW hz _) (.new hz (r.app r'))⟩)
  ·exact h.elim
end
end L2
end
section
namespace L2
open PySem PySem.Spec PyProof.Rows
noncomputable def fit (i:Int):Bool:=decide (i.natAbs.log2<1048575)
theorem alR {i:Int} (h:fit i=true):Builtin.Int.intBits i<=2 ^ 20:=by
 have h:=of_decide_eq_true h
 unfold Builtin.Int.intBits
 have e:(2:Nat) ^ 20=1048576:=by decide
 split
 ·decide
 ·omega
noncomputable def tiny (i:Int):Bool:=decide (-18446744073709551616<i) && decide (i<18446744073709551616)
noncomputable def ahT (i j:Int):Bool:=(fit i && fit j) || tiny i || tiny j
noncomputable def apC (i j:Int):Prop:=ahT i j=true
theorem apC.ok {i j:Int} (h:apC i j):IntMulOk i j:=by
 unfold apC ahT at h
 rw [Bool.or_eq_true,Bool.or_eq_true,Bool.and_eq_true] at h
 have e:(2:Int) ^ 64=18446744073709551616:=by decide
 have tn:∀ {k:Int},tiny k=true -> -(2 ^ 64)<k /\ k<2 ^ 64:=λ{k} h=>by
  unfold tiny at h
  rw [Bool.and_eq_true] at h
  have h1:=of_decide_eq_true h.1
  have h2:=of_decide_eq_true h.2
  omega
 rcases h with (⟨h1,h2⟩ | h) | h
 ·exact .of_bits (alR h1) (alR h2)
 ·exact .of_left (intBits_le_64 (tn h).1 (tn h).2)
 ·exact .of_right (intBits_le_64 (tn h).1 (tn h).2)
noncomputable def arR (K:PySem.W.Frag):R2:=λx y H Q=>(rI apC λi j => .int (i * j)) x y H Q \/ auq K x y H Q
theorem acI {X:Cx}:OpR X (binaryOp .Mult) (arR X.K):=OpR.or (opI λ_ _ _ _ _ _ _ hc q=>mul_int q hc.ok) arO
noncomputable def ab5:G2
 | .int i,.int j=>if ahT i j=true then .ok (.int (i * j),false) else .bad
 | .lst a,.int k=>if (-1000<=k /\ k<=1000) /\ a.length<=100 then .ok (.lst (List.replicate k.toNat a).flatten,true) else .bad
 | _,_ => .bad
noncomputable def amt (_ j:Int):Bool:=decide (j ≠ 0) && decide (j.natAbs.log2<9000)
noncomputable def apD (i j:Int):Prop:=amt i j=true
theorem ad8 {X:Cx}:OpR X (binaryOp .FloorDiv) (rI apD λi j => .int (i.fdiv j)):=opI λi j _ _ _ _ _ hc q=>by
 unfold apD amt at hc
 rw [Bool.and_eq_true] at hc
 exact floordiv_int (of_decide_eq_true hc.1) q (.inl (PyProof.noPylong_of_log2 (of_decide_eq_true hc.2)))
noncomputable def acL:G2:=gIC amt Int.fdiv
noncomputable def acK:G2:=gIC (λ_ j=>decide (j ≠ 0)) Int.fmod
noncomputable def auu (i j:Int):Bool:=decide (0<=j) && decide (j<=1000) && tiny i
noncomputable def acC:G2:=gIC auu λi j=>i ^ j.toNat
noncomputable def acw:G2:=gI λi j=>i - j
section
variable {K:PySem.W.Frag}
theorem abd.rep {H:Hp} {xs:List V} {ts:List Tr} (r:abd K H xs ts):∀ n,abd K H (List.replicate n xs).flatten (List.replicate n ts).flatten
 | 0 => .nil
 | n + 1=>by
  rw [List.replicate_succ,List.replicate_succ,List.flatten_cons,List.flatten_cons]
  exact r.app (abd.rep r n)
theorem auv:OpT (nlK K) (arR K) ab5:=λW x y a b H Q hw rx ry h=>by
 cases a <;> cases b <;> try exact h.elim
 ·rw [rx.int,ry.int]
  dsimp only [ab5] at h
  split at h
  ·rename_i e
   exact .inl ⟨_,_,rfl,rfl,e,h _ H (Same.refl _) (.atm (.int _))⟩
  ·exact h.elim
 ·rename_i us k
  rw [ry.int]
  dsimp only [ab5] at h
  split at h
  ·rename_i e
   obtain ⟨p,xs,rfl,q,r⟩:=rx.lst
   by_cases k0:0<=k
   ·refine .inr ⟨p,k,xs,rfl,rfl,q.rdX,by omega,by omega,?_,λz hz=>h _ _ (aaW hz _) (.new hz (r.rep _))⟩
    rw [r.length]
    refine Nat.le_trans (Nat.mul_le_mul e.2 (show k.toNat<=1000 by omega)) (by decide)
   ·have e0:k.toNat=0:=by omega
    by_cases k1 : -(2 ^ 63)<=k
    ·refine .inr ⟨p,k,xs,rfl,rfl,q.rdX,k1,by omega,?_,λz hz=>h _ _ (aaW hz _) (.new hz (r.rep _))⟩
     rw [e0,Nat.mul_zero]
     exact Nat.zero_le _
    ·omega
  ·exact h.elim
theorem auw:OpT K (rI apD λi j => .int (i.fdiv j)) acL:=arP λ_ _ h=>h
theorem auy:OpT K (rI (λ_ j=>j ≠ 0) λi j => .int (i.fmod j)) acK:=arP λ_ _ h=>of_decide_eq_true h
theorem auz:OpT K (rI awQ λi j => .int (i ^ j.toNat)) acC:=arP λi j h=>by
 unfold auu tiny at h
 rw [Bool.and_eq_true,Bool.and_eq_true,Bool.and_eq_true] at h
 have h1:=of_decide_eq_true h.1.1
 have h2:=of_decide_eq_true h.1.2
 have h3:=of_decide_eq_true h.2.1
 have h4:=of_decide_eq_true h.2.2
 have e:(2:Nat) ^ 64=18446744073709551616:=by decide
 exact ⟨h1,by omega,by omega⟩
theorem auA:OpT K (rI0 λi j => .int (i - j)) acw:=azt
noncomputable def gGt:G2:=gB λi j=>decide (j<i)
noncomputable def gLe:G2:=gB λi j=>decide (i<=j)
noncomputable def gGe:G2:=gB λi j=>decide (j<=i)
theorem aw8:OpT K (rI0 λi j => .bl (decide (j<i))) gGt:=aw4
theorem ahU:OpT K (rI0 λi j => .bl (decide (i<=j))) gLe:=aw4
theorem aw9:OpT K (rI0 λi j => .bl (decide (j<=i))) gGe:=aw4
noncomputable def intsOf:List Tr->Option (List Int)
 | []=>some []
 | .int i :: r=>(intsOf r).map (i :: ·)
 | _ :: _=>none
theorem ints_of {H:Hp}:∀ {ts:List Tr} {ns:List Int} {xs:List V},intsOf ts=some ns->abd K H xs ts->xs=ns.map V.int
 | [],ns,xs,h,r=>by cases h; cases r; rfl
 | .int i :: q,ns,xs,h,r=>by
  unfold intsOf at h
  cases e:intsOf q with
  | none=>rw [e] at h; cases h
  | some ms =>
   rw [e] at h
   cases h
   cases r with
   | cons h1 r1 =>
    cases h1
    rw [ints_of e r1]
    rfl
 | .non :: q,ns,xs,h,r=>by cases h
 | .bl _ :: q,ns,xs,h,r=>by cases h
 | .str _ :: q,ns,xs,h,r=>by cases h
 | .tup _ :: q,ns,xs,h,r=>by cases h
 | .lst _ :: q,ns,xs,h,r=>by cases h
noncomputable def axa (K:PySem.W.Frag):R2:=λx y H Q=>(rI0 λi j => .bl (decide (i<j))) x y H Q \/ ayK K x y H Q
theorem ajw {X:Cx} (hu:X.A.units + 64<cLine):OpR X (compareOp .Lt) (axa X.K):=OpR.or awR (at8 (by omega))
noncomputable def gLt:G2
 | .int i,.int j => .ok (.bl (decide (i<j)),false)
 | .tup a,.tup b=>match intsOf a,intsOf b with
  | some ns,some ms => .ok (.bl (HT.lexLt ns ms),false)
  | _,_ => .bad
 | _,_ => .bad
theorem axb:OpT (nlK K) (axa K) gLt:=λW x y a b H Q hw rx ry h=>by
 cases a <;> cases b <;> try exact h.elim
 ·rw [rx.int,ry.int]
  exact .inl ⟨_,_,rfl,rfl,h _ H (Same.refl _) (.atm (.bl _))⟩
 ·rename_i us ws
  dsimp only [gLt] at h
  split at h
  ·rename_i ns ms e1 e2
   obtain ⟨p,xs,rfl,q,r⟩:=rx.tup
   obtain ⟨p',ys,rfl,q',r'⟩:=ry.tup
   have z1:=ints_of e1 r
   have z2:=ints_of e2 r'
   subst z1 z2
   exact .inr ⟨p,p',ns,ms,rfl,rfl,q.toK,q'.toK,h _ H (Same.refl _) (.atm (.bl _))⟩
  ·exact h.elim
noncomputable def gIx:G2
 | .lst ts,.int i=>match atI ts i with
  | some t => .ok (t,false)
  | none => .bad
 | .tup ts,.int i=>match atI ts i with
  | some t => .ok (t,false)
  | none => .bad
 | .str z,.int i=>if z.length<=100000 then (match atI z.cps.toList i with
  | some c => .ok (.str ⟨#[c]⟩,false)
  | none => .bad) else .bad
 | _,_ => .bad
theorem auB:OpT (nlK K) (rIx K) gIx:=λW x y a b H Q hw rx ry h=>by
 cases a <;> cases b <;> try exact h.elim
 ·rename_i z i
  rw [rx.str,ry.int]
  dsimp only [gIx] at h
  split at h
  ·rename_i e
   split at h
   ·rename_i c ec
    exact .inr (.inr ⟨z,i,c,rfl,rfl,big e,ec,h _ H (Same.refl _) (.atm (.str _))⟩)
   ·exact h.elim
  ·exact h.elim
 ·rename_i ts i
  rw [ry.int]
  dsimp only [gIx] at h
  split at h
  ·rename_i t et
   obtain ⟨p,xs,rfl,q,r⟩:=rx.tup
   obtain ⟨v,ev,rv⟩:=r.atI et
   exact .inr (.inl ⟨p,xs,i,v,rfl,rfl,q.toK,ev,h _ H (Same.refl _) rv⟩)
  ·exact h.elim
 ·rename_i ts i
  rw [ry.int]
  dsimp only [gIx] at h
  split at h
  ·rename_i t et
   obtain ⟨p,xs,rfl,q,r⟩:=rx.lst
   obtain ⟨v,ev,rv⟩:=r.atI et
   exact .inl ⟨p,xs,i,v,rfl,rfl,q.toK,ev,h _ H (Same.refl _) rv⟩
  ·exact h.elim
end
end L2
end
section
namespace L2
open PySem PySem.Spec PyProof.Rows
section
variable {K:PySem.W.Frag} {W:Addr->Prop} {σ : St}
theorem ahO.step {H H' H'':Hp} (hw:∀ b,W b->H b ≠ none) (s:Stp W H' H''):∀ {vs:List V} {rs:List Rv},ahO K W σ H H' vs rs->ahO K W σ H H'' vs rs
 | _,_,.nil => .nil
 | _,_,.cons h q => .cons (h.step hw s) (ahO.step hw s q)
theorem ahO.back {G H H':Hp} (d:∀ b,H b=none->G b=none):∀ {vs:List V} {rs:List Rv},ahO K W σ H H' vs rs->ahO K W σ G H' vs rs
 | _,_,.nil => .nil
 | _,_,.cons h q => .cons (h.back d) (ahO.back d q)
inductive Rps (K:PySem.W.Frag) (W:Addr->Prop) (H:Hp):List V->List Tr->Prop
 | nil:Rps K W H [] []
 | cons {v:V} {t:Tr} {vs:List V} {ts:List Tr} (h:Rp K W H v t) (q:Rps K W H vs ts):Rps K W H (v :: vs) (t :: ts)
noncomputable def drs (ρ : En):List Rv->Rs (List Tr)
 | [] => .ok []
 | r :: rs=>(dr ρ r).bind λt=>(drs ρ rs).bind λts => .ok (t :: ts)
theorem afX (ρ : En):∀ (rs:List Rv) (c:Str),drs ρ rs ≠ .ex c
 | [],c=>by intro z; cases z
 | r :: rs,c=>by
  unfold drs
  cases e:dr ρ r with
  | bad=>intro z; cases z
  | ex d=>exact (acH _ _ _ e).elim
  | ok t =>
   show (drs ρ rs).bind _ ≠ _
   cases e2:drs ρ rs with
   | bad=>intro z; cases z
   | ex d=>exact (afX ρ rs d e2).elim
   | ok ts=>intro z; cases z
theorem aa0 {α β : Type} {r:Rs α} {f : α -> Rs β} {b : β} (h:r.bind f = .ok b):∃ a,r = .ok a /\ f a = .ok b:=by
 cases r with
 | bad=>cases h
 | ex c=>cases h
 | ok a=>exact ⟨a,rfl,h⟩
theorem ajx {t:Tx} {ρ : En} {H H':Hp} (e:EOk t W ρ σ H') (hw:∀ b,W b->H b ≠ none):∀ {vs:List V} {rs:List Rv} {ts:List Tr},ahO t.K W σ H H' vs rs->drs ρ rs = .ok ts->Rps t.K W H' vs ts
 | _,_,_,.nil,q=>by cases q; exact .nil
 | _,_,_,.cons h r,q=>by
  unfold drs at q
  obtain ⟨a,q1,q⟩:=aa0 q
  obtain ⟨as,q2,q⟩:=aa0 q
  cases q
  exact .cons (aeZ e hw h q1) (ajx e hw r q2)
noncomputable def cls:List Rv->Rs (List Tr)
 | [] => .ok []
 | .v t _ :: rs=>(cls rs).bind λts => .ok (t :: ts)
 | .s _ :: _ => .bad
theorem afY:∀ (rs:List Rv) (c:Str),cls rs ≠ .ex c
 | [],c=>by intro z; cases z
 | .v t fr :: rs,c=>by
  unfold cls
  cases e2:cls rs with
  | bad=>intro z; cases z
  | ex d=>exact (afY rs d e2).elim
  | ok ts=>intro z; cases z
 | .s i :: rs,c=>by intro z; cases z
theorem aie {H H':Hp} (hw:∀ b,W b->H b ≠ none):∀ {vs:List V} {rs:List Rv} {ts:List Tr},ahO K W σ H H' vs rs->cls rs = .ok ts->abd K (abb W H') vs ts
 | _,_,_,.nil,q=>by cases q; exact .nil
 | _,.v t fr :: _,_,.cons h r,q=>by
  unfold cls at q
  obtain ⟨as,q2,q⟩:=aa0 q
  cases q
  exact .cons (h.rep hw) (aie hw r q2)
 | _,.s i :: _,_,.cons h r,q=>by cases q
end
section
variable {t:Tx}
noncomputable def aar:AF:=λρ => .ok ([],ρ)
noncomputable def aad (f:EF) (g:AF):AF:=λρ => (f ρ).bind λp=>(g p.2).bind λq => .ok (p.1 :: q.1,q.2)
theorem aak:SA t anI aar:=λW ρ σ H Q e h=>h [] H e (Stp.refl _ _) .nil
theorem aac {te:TE} {ta:TA} {f:EF} {g:AF} (h1:SE t te f) (h2:SA t ta g):SA t (ad6 te ta) (aad f g):=λW ρ σ H Q e h=>by
 refine h1 W ρ σ H _ e (Rs.aal (Rs.aaf h) λp h v H1 e1 s1 v1=>?_)
 refine h2 W p.2 σ H1 _ e1 (Rs.aal (Rs.aaf h) λq h vs H2 e2 s2 v2=>?_)
 exact h (v :: vs) H2 e2 (s1.trans s2) (.cons (v1.1.step e.wn s2) (ahO.back s1.dom v2))
noncomputable def acU (g:AF):EF:=λρ => (g ρ).bind λp=>(cls p.1).bind λts=>if ts.length<=1000 then .ok (.v (.lst ts) true,p.2) else .bad
noncomputable def afm (g:AF):EF:=λρ => (g ρ).bind λp=>(cls p.1).bind λts=>if ts.length<=1000 then .ok (.v (.tup ts) false,p.2) else .bad
theorem abY {α : Type} {r:Rs α} {EX:Str->Prop} {P : α -> Prop} (h:r.post EX P) (n:∀ c,r ≠ .ex c):∃ a,r = .ok a /\ P a:=by
 cases r with
 | bad=>exact h.elim
 | ex c=>exact (n c rfl).elim
 | ok a=>exact ⟨a,rfl,h⟩
theorem abK {ta:TA} {g:AF} (h1:SA t ta g):SE t (ayI ta) (acU g):=λW ρ σ H Q e h=>by
 refine h1 W ρ σ H _ e (Rs.aal (Rs.aaf h) λp h vs H1 e1 s1 v1=>?_)
 obtain ⟨ts,q,h⟩:=abY (Rs.aaf h) (afY _)
 have r:=aie e.wn v1 q
 split at h
 ·rename_i hl
  refine ⟨by rw [r.length]; exact Nat.le_trans hl (by decide),λz hz=>h _ _ (e1.grow (aaW hz _)) (s1.trans (Stp.of (aaW hz _))) ?_⟩
  exact (VOE.of (σ' := σ) e1 (aaW hz _) (VOk.new hz r)).back s1.dom
 ·exact h.elim
theorem adp {ta:TA} {g:AF} (h1:SA t ta g):SE t (ayH ta) (afm g):=λW ρ σ H Q e h=>by
 refine h1 W ρ σ H _ e (Rs.aal (Rs.aaf h) λp h vs H1 e1 s1 v1=>?_)
 obtain ⟨ts,q,h⟩:=abY (Rs.aaf h) (afY _)
 have r:=aie e.wn v1 q
 split at h
 ·rename_i hl
  refine ⟨by rw [r.length]; exact Nat.le_trans hl (by decide),λz hz=>h _ _ (e1.grow (aaW hz _)) (s1.trans (Stp.of (aaW hz _))) ?_⟩
  exact .low ((VOk.newT (σ := σ) (W:=W) e1.wl hz r))
 ·exact h.elim
noncomputable abbrev G1:=Tr->Rs (Tr × Bool)
noncomputable def UnT (K:PySem.W.Frag) (r:V->Hp->VK->Prop) (g:G1):Prop:=∀ W x a H Q,(∀ b,W b->Lt H b)->Rp K W H x a->(g a).post (λ_=>False) (λp=>∀ v H',Same H H'->VOk K W [] H H' v (.v p.1 p.2)->Q v H')->r x H Q
noncomputable def eUn (g:G1) (fa:EF):EF:=λρ => (fa ρ).bind λp=>(dr p.2 p.1).bind λa=>(g a).bind λz => .ok (.v z.1 z.2,p.2)
theorem axc {r:V->Hp->VK->Prop} {g:G1} {ta:TE} {fa:EF} (o:UnT t.K r g) (ng:∀ a c,g a ≠ .ex c) (ha:SE t ta fa):SE t (tUn r ta) (eUn g fa):=λW ρ σ H Q e h=>by
 refine ha W ρ σ H _ e (Rs.aal (Rs.aaf h) λp h x H1 e1 s1 v1=>?_)
 obtain ⟨a,k1,h⟩:=abY (Rs.aaf h) (acH _ _)
 refine o W x a H1 Q e1.wl (aeZ e1 e.wn v1.1 k1) (Rs.aal (akl (Rs.aaf h) (ng a)) λz h v H2 s2 v2=>?_)
 exact h v H2 (e1.grow s2) (s1.trans (Stp.of s2)) ((VOE.of e1 s2 v2).back s1.dom)
noncomputable def amu:G1
 | .int i => .ok (.int (-i),false)
 | _ => .bad
theorem aqR {K:PySem.W.Frag}:UnT K (rU λi => .int (-i)) amu:=λW x a H Q hw rx h=>by
 cases a <;> try exact h.elim
 rw [rx.int]
 exact ⟨_,rfl,h _ H (Same.refl _) (.atm (.int _))⟩
noncomputable def bOf:Tr->Rs Bool
 | .bl b => .ok b
 | _ => .bad
theorem aku (a:Tr) (c:Str):bOf a ≠ .ex c:=by cases a <;> (intro z; cases z)
noncomputable def abv (fa:EF):BF:=λρ => (fa ρ).bind λp=>(dr p.2 p.1).bind λa=>(bOf a).bind λb => .ok (b,p.2)
theorem auC {K:PySem.W.Frag} {W:Addr->Prop} {H:Hp} {v:V} {a:Tr} {b:Bool} (h:Rp K W H v a) (q:bOf a = .ok b):v = .bl b:=by
 cases a <;> cases q
 exact h.bl
theorem abl {ta:TE} {fa:EF} (ha:SE t ta fa):ST t (arx ta) (abv fa):=λW ρ σ H Q e h=>by
 refine ha W ρ σ H _ e (Rs.aal (Rs.aaf h) λp h x H1 e1 s1 v1=>?_)
 obtain ⟨a,k1,h⟩:=abY (Rs.aaf h) (acH _ _)
 obtain ⟨b,k2,h⟩:=abY (Rs.aaf h) (aku _)
 exact ⟨b,auC (aeZ e1 e.wn v1.1 k1) k2,h H1 e1 s1⟩
noncomputable def tru:Tr->Rs Bool
 | .non => .ok false
 | .bl b => .ok b
 | .int i => .ok (i != 0)
 | .lst ts => .ok (!ts.isEmpty)
 | .tup ts => .ok (!ts.isEmpty)
 | .str x=>if x.length<=100000 then .ok ((x.length:Int) != 0) else .bad
 | .exn _ => .bad
theorem arS (a:Tr) (c:Str):tru a ≠ .ex c:=by
 cases a <;> try (intro z; cases z; done)
 dsimp only [tru]
 split <;> (intro z; cases z)
theorem ahc {α β : Type} {a:List α} {b:List β} (h:a.length=b.length):a.isEmpty=b.isEmpty:=by
 cases a <;> cases b <;> first | rfl | cases h
theorem auD {K:PySem.W.Frag} {W:Addr->Prop} {H:Hp} {v:V} {a:Tr} {b:Bool} (h:Rp (nlK K) W H v a) (q:tru a = .ok b):awq K v H b:=by
 cases a with
 | non=>cases q; rw [h.non]; rfl
 | bl i=>cases q; rw [h.bl]; rfl
 | int i=>cases q; rw [h.int]; rfl
 | str i =>
  dsimp only [tru] at q
  split at q
  ·rename_i e
   cases q
   rw [h.str]
   exact ⟨big e,rfl⟩
  ·cases q
 | tup ts =>
  cases q
  obtain ⟨p,xs,rfl,q,r⟩:=h.tup
  exact .inr (.inl ⟨xs,q.toK,by rw [ahc r.length]⟩)
 | lst ts =>
  cases q
  obtain ⟨p,xs,rfl,q,r⟩:=h.lst
  exact .inl ⟨xs,q.toK,by rw [ahc r.length]⟩
 | exn c=>cases q
noncomputable def ahd (fa:EF):BF:=λρ => (fa ρ).bind λp=>(dr p.2 p.1).bind λa=>(tru a).bind λb => .ok (b,p.2)
noncomputable def azu (K:PySem.W.Frag) (ta:TE):TT:=λσ H Q=>ta σ H λx H'=>∃ k,awq K x H' k /\ Q k H'
theorem ac5 {K:PySem.W.Frag} (hK:t.K=nlK K) {ta:TE} {fa:EF} (ha:SE t ta fa):ST t (azu K ta) (ahd fa):=λW ρ σ H Q e h=>by
 refine ha W ρ σ H _ e (Rs.aal (Rs.aaf h) λp h x H1 e1 s1 v1=>?_)
 obtain ⟨a,k1,h⟩:=abY (Rs.aaf h) (acH _ _)
 obtain ⟨b,k2,h⟩:=abY (Rs.aaf h) (arS _)
 have r:=aeZ e1 e.wn v1.1 k1
 rw [hK] at r
 exact ⟨b,auD r k2,h H1 e1 s1⟩
noncomputable def azv (f g:BF):BF:=λρ => (f ρ).bind λp=>if p.1=true then g p.2 else .ok (false,p.2)
noncomputable def bOr (f g:BF):BF:=λρ => (f ρ).bind λp=>if p.1=true then .ok (true,p.2) else g p.2
noncomputable def ajc (f:BF):BF:=λρ => (f ρ).bind λp => .ok (!p.1,p.2)
theorem anZ {ta tb:TT} {f g:BF} (ha:ST t ta f) (hb:ST t tb g):ST t (tOr ta tb) (bOr f g):=λW ρ σ H Q e h=>by
 refine ha W ρ σ H _ e (Rs.aal (Rs.aaf h) λp h H1 e1 s1=>?_)
 split at h
 ·rename_i c
  exact if_pos c ▸ h H1 e1 s1
 ·rename_i c
  refine if_neg c ▸ hb W p.2 σ H1 _ e1 (Rs.aal h λq h H2 e2 s2=>h H2 e2 (s1.trans s2))
theorem adK {ta:TT} {f:BF} (ha:ST t ta f):ST t (ayx ta) (ajc f):=λW ρ σ H Q e h =>
 ha W ρ σ H _ e (Rs.aal (Rs.aaf h) λp h H1 e1 s1=>h H1 e1 s1)
noncomputable def eB (b:Bool):Rv := .v (.bl b) false
noncomputable def an0 (f g:EF):EF:=λρ => (abv f ρ).bind λp=>if p.1=true then g p.2 else .ok (eB false,p.2)
noncomputable def eOr (f g:EF):EF:=λρ => (abv f ρ).bind λp=>if p.1=true then .ok (eB true,p.2) else g p.2
noncomputable def axd (f:EF):EF:=λρ => (abv f ρ).bind λp => .ok (eB (!p.1),p.2)
theorem agp {ta tb:TE} {f g:EF} (ha:SE t ta f) (hb:SE t tb g):SE t (atM ta tb) (an0 f g):=λW ρ σ H Q e h=>by
 refine abl ha W ρ σ H _ e (Rs.aal (Rs.aaf h) λp h H1 e1 s1=>?_)
 split at h
 ·rename_i c
  refine if_pos c ▸ hb W p.2 σ H1 _ e1 (Rs.aal h λq h v H2 e2 s2 v2=>h v H2 e2 (s1.trans s2) (v2.back s1.dom))
 ·rename_i c
  exact if_neg c ▸ h _ H1 e1 s1 (.low (.bl false))
theorem auE {ta:TE} {f:EF} (ha:SE t ta f):SE t (atN ta) (axd f):=λW ρ σ H Q e h =>
 abl ha W ρ σ H _ e (Rs.aal (Rs.aaf h) λp h H1 e1 s1=>h _ H1 e1 s1 (.low (.bl _)))
noncomputable def eIf (c:BF) (f g:EF):EF:=λρ => (c ρ).bind λp=>if p.1=true then f p.2 else g p.2
end
end L2
end
section
namespace L2
open PySem PySem.Spec PyProof.Rows
section
variable {t:Tx}
noncomputable def agq (g g':G2) (fa fb fc:EF):EF:=λρ => (fa ρ).bind λp=>(fb p.2).bind λq=>(dr q.2 p.1).bind λa=>(dr q.2 q.1).bind λb=>(g a b).bind λz=>(bOf z.1).bind λk =>
 if k=true then (fc q.2).bind λs=>(dr s.2 q.1).bind λb=>(dr s.2 s.1).bind λc=>(g' b c).bind λz => .ok (.v z.1 z.2,s.2) else .ok (eB false,q.2)
theorem apE {r r':R2} {g g':G2} {ta tb tc:TE} {fa fb fc:EF} (o:OpT t.K r g) (o':OpT t.K r' g') (ng:∀ a b c,g a b ≠ .ex c) (ng':∀ a b c,g' a b ≠ .ex c) (ha:SE t ta fa) (hb:SE t tb fb) (hc:SE t tc fc):SE t (alD r r' ta tb tc) (agq g g' fa fb fc):=λW ρ σ H Q e h=>by
 refine ha W ρ σ H _ e (Rs.aal (Rs.aaf h) λp h x H1 e1 s1 v1=>?_)
 refine hb W p.2 σ H1 _ e1 (Rs.aal (Rs.aaf h) λq h y H2 e2 s2 v2=>?_)
 obtain ⟨a,k1,h⟩:=abY (Rs.aaf h) (acH _ _)
 obtain ⟨b,k2,h⟩:=abY (Rs.aaf h) (acH _ _)
 refine o W x y a b H2 _ e2.wl (aeZ e2 e.wn (v1.1.step e.wn s2) k1) (aeZ e2 e1.wn v2.1 k2) (Rs.aal (akl (Rs.aaf h) (ng a b)) λz h v H3 s3 v3=>?_)
 obtain ⟨k,k3,h⟩:=abY (Rs.aaf h) (aku _)
 have e3:=e2.grow s3
 have b3:v = .bl k:=auC (.inl (VOk.rep (σ := []) e2.wn v3)) k3
 refine ⟨k,b3,?_⟩
 split at h
 ·rename_i c
  rw [if_pos c]
  refine hc W q.2 σ H3 _ e3 (Rs.aal (Rs.aaf h) λu h w H4 e4 s4 v4=>?_)
  obtain ⟨b',k4,h⟩:=abY (Rs.aaf h) (acH _ _)
  obtain ⟨c',k5,h⟩:=abY (Rs.aaf h) (acH _ _)
  refine o' W y w b' c' H4 _ e4.wl (aeZ e4 e1.wn ((v2.1.step e1.wn (Stp.of s3)).step e1.wn s4) k4) (aeZ e4 e3.wn v4.1 k5) (Rs.aal (akl (Rs.aaf h) (ng' b' c')) λz h v H5 s5 v5=>?_)
  have st:Stp W H H4:=(s1.trans (s2.trans (Stp.of s3))).trans s4
  exact h v H5 (e4.grow s5) (st.trans (Stp.of s5)) ((VOE.of e4 s5 v5).back st.dom)
 ·rename_i c
  rw [if_neg c]
  exact h _ H3 e3 ((s1.trans s2).trans (Stp.of s3)) (.low (.bl false))
noncomputable abbrev OF:=En->Rs (Option Int × En)
noncomputable def SO (t:Tx) (te:TO) (f:OF):Prop:=∀ W ρ σ H Q,EOk t W ρ σ H->(f ρ).post t.EX (λp=>∀ H',EOk t W p.2 σ H'->Stp W H H'->Q p.1 H')->te σ H Q
noncomputable def oNo:OF:=λρ => .ok (none,ρ)
theorem aew:SO t anM oNo:=λW ρ σ H Q e h=>h H e (Stp.refl _ _)
noncomputable def iOf:Tr->Rs Int
 | .int i => .ok i
 | _ => .bad
theorem an1 (a:Tr) (c:Str):iOf a ≠ .ex c:=by cases a <;> (intro z; cases z)
theorem aqS {K:PySem.W.Frag} {W:Addr->Prop} {H:Hp} {v:V} {a:Tr} {b:Int} (h:Rp K W H v a) (q:iOf a = .ok b):v = .int b:=by
 cases a <;> cases q
 exact h.int
noncomputable def ab9 (fa:EF):OF:=λρ => (fa ρ).bind λp=>(dr p.2 p.1).bind λa=>(iOf a).bind λb => .ok (some b,p.2)
theorem ab6 {ta:TE} {fa:EF} (ha:SE t ta fa):SO t (at6 ta) (ab9 fa):=λW ρ σ H Q e h=>by
 refine ha W ρ σ H _ e (Rs.aal (Rs.aaf h) λp h x H1 e1 s1 v1=>?_)
 obtain ⟨a,k1,h⟩:=abY (Rs.aaf h) (acH _ _)
 obtain ⟨b,k2,h⟩:=abY (Rs.aaf h) (an1 _)
 exact ⟨b,aqS (aeZ e1 e.wn v1.1 k1) k2,h H1 e1 s1⟩
noncomputable def cut {α : Type} (xs:List α) (lo hi:Option Int):List α := (xs.drop (HT.sIx xs.length 0 lo)).take (HT.sIx xs.length xs.length hi - HT.sIx xs.length 0 lo)
theorem abd.cut {K:PySem.W.Frag} {H:Hp} {xs:List V} {ts:List Tr} (r:abd K H xs ts) (lo hi:Option Int):abd K H (aqM xs lo hi) (L2.cut ts lo hi):=by
 unfold aqM L2.cut
 rw [r.length]
 exact (r.drop _).take _
noncomputable def ayW (K:PySem.W.Frag):V->Option Int->Option Int->Hp->VK->Prop:=λx lo hi H Q=>ayO K x lo hi H Q \/ ayJ K x lo hi H Q \/ ayQ x lo hi H Q
theorem ajd {X:Cx}:SlR X (ayW X.K):=SlR.or arE (SlR.or at7 aui)
noncomputable def gSl (lo hi:Option Int):G1
 | .lst ts => .ok (.lst (cut ts lo hi),true)
 | .tup ts=>if ¬ (HT.sIx ts.length 0 lo=0 /\ HT.sIx ts.length ts.length hi=ts.length) then .ok (.tup (cut ts lo hi),false) else .bad
 | .str z=>if z.length<=100000 then .ok (.str (Txt.slice z lo hi),false) else .bad
 | _ => .bad
theorem arT (lo hi:Option Int) (a:Tr) (c:Str):gSl lo hi a ≠ .ex c:=by
 cases a <;> dsimp only [gSl] <;> (try split) <;> (intro z; cases z)
noncomputable def eSl (fa:EF) (fl fh:OF):EF:=λρ => (fa ρ).bind λp=>(fl p.2).bind λl=>(fh l.2).bind λh=>(dr h.2 p.1).bind λa=>(gSl l.1 h.1 a).bind λz => .ok (.v z.1 z.2,h.2)
theorem aex {K:PySem.W.Frag} (hK:t.K=nlK K) {ta:TE} {tl th:TO} {fa:EF} {fl fh:OF} (ha:SE t ta fa) (hl:SO t tl fl) (hh:SO t th fh):SE t (tSl (ayW K) ta tl th) (eSl fa fl fh):=λW ρ σ H Q e h=>by
 refine ha W ρ σ H _ e (Rs.aal (Rs.aaf h) λp h x H1 e1 s1 v1=>?_)
 refine hl W p.2 σ H1 _ e1 (Rs.aal (Rs.aaf h) λl h H2 e2 s2=>?_)
 refine hh W l.2 σ H2 _ e2 (Rs.aal (Rs.aaf h) λu h H3 e3 s3=>?_)
 obtain ⟨a,k1,h⟩:=abY (Rs.aaf h) (acH _ _)
 obtain ⟨z,k2,h⟩:=abY (Rs.aaf h) (arT _ _ _)
 have st:Stp W H H3:=s1.trans (s2.trans s3)
 have rx:=aeZ e3 e.wn (v1.1.step e.wn (s2.trans s3)) k1
 rw [hK] at rx
 cases a with
 | exn c=>cases k2
 | lst ts =>
  cases k2
  obtain ⟨b,xs,rfl,q,r⟩:=rx.lst
  refine .inl ⟨b,xs,rfl,q.toK,λy hy=>h _ _ (e3.grow (aaW hy _)) (st.trans (Stp.of (aaW hy _))) ?_⟩
  rw [<-hK] at r
  exact (VOE.of (σ' := σ) e3 (aaW hy _) (VOk.new hy (r.cut _ _))).back st.dom
 | tup ts =>
  dsimp only [gSl] at k2
  split at k2
  ·rename_i c
   cases k2
   obtain ⟨b,xs,rfl,q,r⟩:=rx.tup
   refine .inr (.inl ⟨b,xs,rfl,q.toK,by rw [r.length]; exact c,λy hy=>h _ _ (e3.grow (aaW hy _)) (st.trans (Stp.of (aaW hy _))) ?_⟩)
   rw [<-hK] at r
   exact .low (VOk.newT (σ := σ) (W:=W) e3.wl hy (r.cut _ _))
  ·cases k2
 | str i =>
  dsimp only [gSl] at k2
  split at k2
  ·rename_i c
   cases k2
   rw [rx.str]
   exact .inr (.inr ⟨i,rfl,big c,h _ H3 e3 st (.low (.str _))⟩)
  ·cases k2
 | non=>cases k2
 | bl i=>cases k2
 | int i=>cases k2
noncomputable abbrev GN:=List Tr->Rs (Tr × Bool)
noncomputable def CbT (K:PySem.W.Frag) (r:List V->Hp->VK->Prop) (g:GN):Prop:=∀ W xs as H Q,(∀ b,W b->Lt H b)->Rps K W H xs as->(g as).post (λ_=>False) (λp=>∀ v H',Same H H'->VOk K W [] H H' v (.v p.1 p.2)->Q v H')->r xs H Q
noncomputable def eCB (g:GN) (fa:AF):EF:=λρ => (fa ρ).bind λp=>(drs p.2 p.1).bind λas=>(g as).bind λz => .ok (.v z.1 z.2,p.2)
theorem amv {r:List V->Hp->VK->Prop} {g:GN} {ta:TA} {fa:AF} (o:CbT t.K r g) (ng:∀ as c,g as ≠ .ex c) (ha:SA t ta fa):SE t (tCB r ta) (eCB g fa):=λW ρ σ H Q e h=>by
 refine ha W ρ σ H _ e (Rs.aal (Rs.aaf h) λp h xs H1 e1 s1 v1=>?_)
 obtain ⟨as,k1,h⟩:=abY (Rs.aaf h) (afX _ _)
 refine o W xs as H1 Q e1.wl (ajx e1 e.wn v1 k1) (Rs.aal (akl (Rs.aaf h) (ng as)) λz h v H2 s2 v2=>?_)
 exact h v H2 (e1.grow s2) (s1.trans (Stp.of s2)) ((VOE.of e1 s2 v2).back s1.dom)
noncomputable def g1 (g:G1):GN
 | [a]=>g a
 | _ => .bad
theorem ajy {g:G1} (h:∀ a c,g a ≠ .ex c) (as:List Tr) (c:Str):g1 g as ≠ .ex c:=by
 match as with
 | []=>intro z; cases z
 | [a]=>exact h a c
 | _ :: _ :: _=>intro z; cases z
theorem auF {K:PySem.W.Frag} {r:List V->Hp->VK->Prop} {g:G1} (h:UnT K (λx=>r [x]) g):CbT K r (g1 g):=λW xs as H Q hw rs q=>by
 cases rs with
 | nil=>exact q.elim
 | cons h1 r1 =>
  cases r1 with
  | nil=>exact h W _ _ H Q hw h1 q
  | cons _ _=>exact q.elim
noncomputable def g2 (g:G2):GN
 | [a,b]=>g a b
 | _ => .bad
theorem auG {g:G2} (h:∀ a b c,g a b ≠ .ex c) (as:List Tr) (c:Str):g2 g as ≠ .ex c:=by
 match as with
 | []=>intro z; cases z
 | [a]=>intro z; cases z
 | [a,b]=>exact h a b c
 | _ :: _ :: _ :: _=>intro z; cases z
theorem azw {K:PySem.W.Frag} {r:List V->Hp->VK->Prop} {g:G2} (h:OpT K (λx y=>r [x,y]) g):CbT K r (g2 g):=λW xs as H Q hw rs q=>by
 cases rs with
 | nil=>exact q.elim
 | cons h1 r1 =>
  cases r1 with
  | nil=>exact q.elim
  | cons h2 r2 =>
   cases r2 with
   | nil=>exact h W _ _ _ _ H Q hw h1 h2 q
   | cons _ _=>exact q.elim
end
section
variable {K:PySem.W.Frag}
noncomputable def arU (K:PySem.W.Frag):List V->Hp->VK->Prop:=λxs H Q=>(∃ p ys,xs = [.ref p] /\ (SqL K H p ys \/ SqT K H p ys) /\ Q (.int ys.length) H) \/ (∃ z,xs = [.str z] /\ z.length<=sizeLine /\ Q (.int z.length) H)
theorem abg {X:Cx}:adC X (.builtin "len") (arU X.K):=adC.or ajp ajq
noncomputable def abw:G1
 | .lst ts => .ok (.int ts.length,false)
 | .tup ts => .ok (.int ts.length,false)
 | .str z=>if z.length<=100000 then .ok (.int z.length,false) else .bad
 | _ => .bad
theorem auH:UnT (nlK K) (λx=>arU K [x]) abw:=λW x a H Q hw rx h=>by
 cases a <;> try exact h.elim
 ·rename_i z
  dsimp only [abw] at h
  split at h
  ·rename_i e
   rw [rx.str]
   exact .inr ⟨z,rfl,big e,h _ H (Same.refl _) (.atm (.int _))⟩
  ·exact h.elim
 ·obtain ⟨p,xs,rfl,q,r⟩:=rx.tup
  refine .inl ⟨p,xs,rfl,.inr q.toK,?_⟩
  rw [r.length]
  exact h _ H (Same.refl _) (.atm (.int _))
 ·obtain ⟨p,xs,rfl,q,r⟩:=rx.lst
  refine .inl ⟨p,xs,rfl,.inl q.toK,?_⟩
  rw [r.length]
  exact h _ H (Same.refl _) (.atm (.int _))
noncomputable def ady:G1
 | .int i => .ok (.int (if i<0 then -i else i),false)
 | _ => .bad
theorem auI:UnT K (λx H Q=>∃ i,[x] = [V.int i] /\ Q (.int (if i<0 then -i else i)) H) ady:=λW x a H Q hw rx h=>by
 cases a <;> try exact h.elim
 rw [rx.int]
 exact ⟨_,rfl,h _ H (Same.refl _) (.atm (.int _))⟩
noncomputable def aqT:G1
 | .int i => .ok (.int i,false)
 | .bl b => .ok (.int (if b then 1 else 0),false)
 | _ => .bad
theorem auJ:UnT K (λx H Q=>(∃ i,[x] = [V.int i] /\ Q (.int i) H) \/ ∃ k,[x] = [V.bl k] /\ Q (.int (if k then 1 else 0)) H) aqT:=λW x a H Q hw rx h=>by
 cases a <;> try exact h.elim
 ·rw [rx.bl]
  exact .inr ⟨_,rfl,h _ H (Same.refl _) (.atm (.int _))⟩
 ·rw [rx.int]
  exact .inl ⟨_,rfl,h _ H (Same.refl _) (.atm (.int _))⟩
noncomputable def abQ:G1
 | .lst ts => .ok (.lst ts,true)
 | .tup ts => .ok (.lst ts,true)
 | _ => .bad
noncomputable def aaU:G1
 | .lst ts => .ok (.tup ts,false)
 | .tup ts => .ok (.tup ts,false)
 | _ => .bad
theorem apF:UnT (nlK K) (λx H Q=>∃ p ys,[x] = [V.ref p] /\ ((SqL K H p ys /\ ∀ l,H l=none->Q (.ref l) (upd H l (.tup ys))) \/ (SqT K H p ys /\ Q (.ref p) H))) aaU:=λW x a H Q hw rx h=>by
 cases a <;> try exact h.elim
 ·have rt:=rx.ayV
  obtain ⟨p,xs,rfl,q,r⟩:=rx.tup
  exact ⟨p,xs,rfl,.inr ⟨q.toK,h _ H (Same.refl _) rt⟩⟩
 ·obtain ⟨p,xs,rfl,q,r⟩:=rx.lst
  exact ⟨p,xs,rfl,.inl ⟨q.toK,λz hz=>h _ _ (aaW hz _) (.newT hw hz r)⟩⟩
noncomputable def adq:G2
 | .int i,.int j => .ok (.int (if j<i then j else i),false)
 | _,_ => .bad
noncomputable def adX:G2
 | .int i,.int j => .ok (.int (if j > i then j else i),false)
 | _,_ => .bad
theorem auK:OpT K (λx y H Q=>∃ i j,[x,y] = [V.int i,V.int j] /\ Q (.int (if j<i then j else i)) H) adq:=λW x y a b H Q hw rx ry h=>by
 cases a <;> cases b <;> try exact h.elim
 rw [rx.int,ry.int]
 exact ⟨_,_,rfl,h _ H (Same.refl _) (.atm (.int _))⟩
noncomputable def aiF:List Tr->Option (List Bool)
 | []=>some []
 | .bl i :: r=>(aiF r).map (i :: ·)
 | _ :: _=>none
theorem aqU {H:Hp}:∀ {ts:List Tr} {ns:List Bool} {xs:List V},aiF ts=some ns->abd K H xs ts->xs=ns.map V.bl
 | [],ns,xs,h,r=>by cases h; cases r; rfl
 | .bl i :: q,ns,xs,h,r=>by
  unfold aiF at h
  cases e:aiF q with
  | none=>rw [e] at h; cases h
  | some ms =>
   rw [e] at h
   cases h
   cases r with
   | cons h1 r1 =>
    cases h1
    rw [aqU e r1]
    rfl
 | .non :: q,ns,xs,h,r=>by cases h
 | .int _ :: q,ns,xs,h,r=>by cases h
 | .str _ :: q,ns,xs,h,r=>by cases h
 | .tup _ :: q,ns,xs,h,r=>by cases h
 | .lst _ :: q,ns,xs,h,r=>by cases h
noncomputable def acF:G1
 | .lst ts=>match aiF ts with
  | some bs => .ok (.bl (bs.all id),false)
  | none => .bad
 | _ => .bad
theorem auL:UnT (nlK K) (λx=>awX K [x]) acF:=λW x a H Q hw rx h=>by
 cases a <;> try exact h.elim
 dsimp only [acF] at h
 split at h
 ·rename_i bs e
  obtain ⟨p,xs,rfl,q,r⟩:=rx.lst
  have z:=aqU e r
  subst z
  exact ⟨p,bs,rfl,q.toK,h _ H (Same.refl _) (.atm (.bl _))⟩
 ·exact h.elim
noncomputable def anq (c:Ty) (fa:EF):EF:=λρ => (fa ρ).bind λp=>(dr p.2 p.1).bind λa => .ok (eB (ac7 a c),p.2)
theorem ahe {t:Tx} (hK:t.K=nlK K) (c:Ty) {ta:TE} {fa:EF} (ha:SE t ta fa):SE t (tCB (awt K) (ad6 ta (ad6 (tC (.ty c.name)) anI))) (anq c fa):=λW ρ σ H Q e h=>by
 refine ha W ρ σ H _ e (Rs.aal (Rs.aaf h) λp h x H1 e1 s1 v1=>?_)
 obtain ⟨a,k1,h⟩:=abY (Rs.aaf h) (acH _ _)
 have r:=aeZ e1 e.wn v1.1 k1
 rw [hK] at r
 exact ⟨x,a,c,rfl,r.rep.toK,h _ H1 e1 s1 (.low (.bl _))⟩
end
end L2
end
section
namespace L2
open PySem PySem.Spec PyProof.Rows
inductive Fl where
 | nx | rt (T:Tr) (fr:Bool) | bk | ct
noncomputable abbrev SF:=En->Rs (Fl × En)
noncomputable def Nxt (W:Addr->Prop) (H:Hp) (W':Addr->Prop) (H':Hp):Prop:=∀ b o,¬ W b->H b=some o->¬ W' b /\ H' b=some o
theorem Nxt.refl (W:Addr->Prop) (H:Hp):Nxt W H W H:=λ_ _ n h=>⟨n,h⟩
theorem Nxt.trans {W W1 W2:Addr->Prop} {H H1 H2:Hp} (a:Nxt W H W1 H1) (b:Nxt W1 H1 W2 H2):Nxt W H W2 H2:=λc o n h=>by
 obtain ⟨n1,h1⟩:=a c o n h
 exact b c o n1 h1
theorem Stp.nxt {W:Addr->Prop} {H H':Hp} (s:Stp W H H'):Nxt W H W H':=λb o n h=>⟨n,s.keep b o n h⟩
theorem Nxt.same {W W':Addr->Prop} {H H':Hp} (a:Nxt W H W' H'):Same (abb W H) (abb W' H'):=λb o h=>by
 obtain ⟨n,h⟩:=abC h
 obtain ⟨n',h'⟩:=a b o n h
 rw [aa1 n']
 exact h'
noncomputable def VR (t:Tx) (H':Hp) (v:V) (T:Tr):Bool->Prop
 | false=>Rep t.K (abb t.Z H') v T
 | true=>∃ a xs ts,v = .ref a /\ T = .lst ts /\ t.H0 a=none /\ H' a=some (.lst xs) /\ abd t.K (off a (abb t.Z H')) xs ts
noncomputable def afZ (t:Tx) (W:Addr->Prop) (H:Hp) (D:Ends) (p:Fl × En):Prop:=match p.1 with
 | .nx=>∀ W' σ' H',EOk t W' p.2 σ' H'->Nxt W H W' H'->D.nx σ' H'
 | .rt T fr=>∀ v W' σ' H',EOk t W' p.2 σ' H'->VR t H' v T fr->D.rt v H'
 | .bk=>∀ W' σ' H',EOk t W' p.2 σ' H'->Nxt W H W' H'->D.bk σ' H'
 | .ct=>∀ W' σ' H',EOk t W' p.2 σ' H'->Nxt W H W' H'->D.ct σ' H'
noncomputable def SS (t:Tx) (ts:TS) (f:SF):Prop:=∀ W ρ σ H D,EOk t W ρ σ H->(f ρ).post t.EX (afZ t W H D)->ts D σ H
theorem afZ.back {t:Tx} {W W':Addr->Prop} {H H':Hp} {D:Ends} {p:Fl × En} (h:afZ t W H D p) (n:Nxt W H W' H'):afZ t W' H' D p:=by
 obtain ⟨fl,ρ⟩:=p
 cases fl with
 | nx=>exact λW2 σ2 H2 e m=>h W2 σ2 H2 e (n.trans m)
 | rt T fr=>exact h
 | bk=>exact λW2 σ2 H2 e m=>h W2 σ2 H2 e (n.trans m)
 | ct=>exact λW2 σ2 H2 e m=>h W2 σ2 H2 e (n.trans m)
section
variable {t:Tx}
noncomputable def adz:SF:=λρ => .ok (.nx,ρ)
theorem abr:SS t atP adz:=λW ρ σ H D e h=>h W σ H e (Nxt.refl _ _)
noncomputable def aaN (f g:SF):SF:=λρ => (f ρ).bind λp=>match p.1 with
 | .nx=>g p.2
 | fl => .ok (fl,p.2)
theorem aas {ta tb:TS} {f g:SF} (h1:SS t ta f) (h2:SS t tb g):SS t (ayy ta tb) (aaN f g):=λW ρ σ H D e h=>by
 refine h1 W ρ σ H _ e (Rs.aal (Rs.aaf h) λp h=>?_)
 obtain ⟨fl,ρ1⟩:=p
 cases fl with
 | nx=>exact λW1 σ1 H1 e1 n1=>h2 W1 ρ1 σ1 H1 D e1 (Rs.aal h λq h=>h.back n1)
 | rt T fr=>exact h
 | bk=>exact h
 | ct=>exact h
theorem get_set {α : Type} {l:List α} {i j:Nat} {a b : α} (h:(l.set i a)[j]? = some b):(j=i /\ b=a /\ i<l.length) \/ (j ≠ i /\ l[j]? = some b):=by
 by_cases e:i=j
 ·subst e
  rw [List.getElem?_set_self'] at h
  cases q:l[i]? with
  | none=>rw [q] at h; cases h
  | some c =>
   rw [q] at h
   cases h
   exact .inl ⟨rfl,rfl,(List.getElem?_eq_some_iff.mp q).1⟩
 ·rw [List.getElem?_set_ne e] at h
  exact .inr ⟨Ne.symm e,h⟩
theorem af0 {α : Type} {l:List α} {i:Nat} {a : α} (h:i<l.length):(l.set i a)[i]? = some a:=by
 rw [List.getElem?_set_self' ,List.getElem?_eq_getElem h]
 rfl
theorem EOk.alS {W:Addr->Prop} {ρ : En} {σ : St} {H:Hp} {i:Nat} {v:V} {T:Tr} (e:EOk t W ρ σ H) (r:Rep t.K (abb W H) v T):EOk t W (ρ.set i (.sh T)) (σ.set i (some v)) H:=by
 have mu:∀ j,Mu (ρ.set i (.sh T)) j->j ≠ i /\ Mu ρ j:=λj h=>by
  obtain ⟨ts,h | h⟩:=h <;> rcases get_set h with ⟨rfl,z,_⟩ | ⟨ne,h⟩
  ·cases z
  ·exact ⟨ne,ts,.inl h⟩
  ·cases z
  ·exact ⟨ne,ts,.inr h⟩
 have dpo:∀ j us,(ρ.set i (.sh T))[j]? = some (.dp us)->j ≠ i /\ ρ[j]? = some (.dp us):=λj us h=>by
  rcases get_set h with ⟨rfl,z,_⟩ | ⟨ne,h⟩
  ·cases z
  ·exact ⟨ne,h⟩
 obtain ⟨F,e⟩:=e
 refine ⟨F,by rw [List.length_set,List.length_set]; exact e.len,e.zw,e.z0,e.wl,e.f0,e.n0,λj u h=>?_,λj ts h=>?_,λj ts h=>?_,λj k a h1 h2 q1 q2=>?_,e.pn,λj a m q=>e.pd j a (mu j m).2 (by rw [List.getElem?_set_ne (Ne.symm (mu j m).1)] at q; exact q),
  λj us h=>?_,λj k us ws n h1 h2=>e.dd j k us ws n (dpo j us h1).2 (dpo k ws h2).2,λj k us c h1 m q=>e.dm j k us c (dpo j us h1).2 (mu k m).2 (by rw [List.getElem?_set_ne (Ne.symm (mu k m).1)] at q; exact q),λj us h=>e.db j us (dpo j us h).2,e.tab⟩
 ·rcases get_set h with ⟨rfl,z,l⟩ | ⟨ne,h⟩
  ·cases z
   exact ⟨v,af0 (by rw [<-e.len]; exact l),r⟩
  ·obtain ⟨w,h1,h2⟩:=e.sh j u h
   exact ⟨w,by rw [List.getElem?_set_ne (Ne.symm ne)]; exact h1,h2⟩
 ·rcases get_set h with ⟨rfl,z,l⟩ | ⟨ne,h⟩
  ·cases z
  ·obtain ⟨a,xs,h1,h2⟩:=e.ow j ts h
   exact ⟨a,xs,by rw [List.getElem?_set_ne (Ne.symm ne)]; exact h1,h2⟩
 ·rcases get_set h with ⟨rfl,z,l⟩ | ⟨ne,h⟩
  ·cases z
  ·obtain ⟨a,xs,h1,h2⟩:=e.rf j ts h
   exact ⟨a,xs,by rw [List.getElem?_set_ne (Ne.symm ne)]; exact h1,h2⟩
 ·obtain ⟨n1,m1⟩:=mu j h1
  obtain ⟨n2,m2⟩:=mu k h2
  rw [List.getElem?_set_ne (Ne.symm n1)] at q1
  rw [List.getElem?_set_ne (Ne.symm n2)] at q2
  exact e.dis j k a m1 m2 q1 q2
 ·obtain ⟨ne,h⟩:=dpo j us h
  obtain ⟨c,ys,h1,d⟩:=e.dp j us h
  exact ⟨c,ys,by rw [List.getElem?_set_ne (Ne.symm ne)]; exact h1,d⟩
theorem EOk.addr {W:Addr->Prop} {ρ : En} {σ : St} {H:Hp} {i:Nat} {a:Addr} (e:EOk t W ρ σ H) (m:Mu ρ i) (q : σ[i]? = some (some (.ref a))):W a:=by
 obtain ⟨ts,h | h⟩:=m
 ·obtain ⟨b,xs,h1,h2,_⟩:=e.ow i ts h
  rw [q] at h1
  cases h1
  exact h2
 ·obtain ⟨b,xs,h1,h2,_⟩:=e.rf i ts h
  rw [q] at h1
  cases h1
  exact h2
theorem EOk.auM {W:Addr->Prop} {ρ : En} {σ : St} {H:Hp} {i:Nat} {a:Addr} {xs:List V} {ts:List Tr} (e0:EOk t W ρ σ H) (nw:¬ W a) (e:EOh t W a ρ σ H) (h0:t.H0 a=none) (hB:t.B a=none) (ha:H a=some (.lst xs)) (r:abd t.K (off a (abb W H)) xs ts) :
  EOk t (λb=>W b \/ b=a) (ρ.set i (.ow ts)) (σ.set i (some (.ref a))) H:=by
 have mu:∀ j,Mu (ρ.set i (.ow ts)) j->j=i \/ (j ≠ i /\ Mu ρ j):=λj h=>by
  obtain ⟨ts,h | h⟩:=h <;> rcases get_set h with ⟨rfl,z,_⟩ | ⟨ne,h⟩
  ·exact .inl rfl
  ·exact .inr ⟨ne,ts,.inl h⟩
  ·exact .inl rfl
  ·exact .inr ⟨ne,ts,.inr h⟩
 have m:Same (off a (abb W H)) (abb (λb=>W b \/ b=a) H):=λb o q=>by
  obtain ⟨ne,q⟩:=aeR q
  obtain ⟨n,q⟩:=abC q
  rw [aa1]
  ·exact q
  ·rintro (z | z)
   ·exact n z
   ·exact ne z
 have dpo:∀ j us,(ρ.set i (.ow ts))[j]? = some (.dp us)->j ≠ i /\ ρ[j]? = some (.dp us):=λj us h=>by
  rcases get_set h with ⟨rfl,z,_⟩ | ⟨ne,h⟩
  ·cases z
  ·exact ⟨ne,h⟩
 obtain ⟨F,e,na⟩:=e
 refine ⟨F,by rw [List.length_set,List.length_set]; exact e.len,e.zw,e.z0,e.wl,e.f0,e.n0,λj u h=>?_,λj us h=>?_,λj us h=>?_,λj k c h1 h2 q1 q2=>?_,e.pn,λj c m q=>?_,
  λj us h=>?_,λj k us ws n h1 h2=>e.dd j k us ws n (dpo j us h1).2 (dpo k ws h2).2,λj k us c h1 m q=>?_,λj us h=>e.db j us (dpo j us h).2,e.tab⟩
 ·rcases get_set h with ⟨rfl,z,l⟩ | ⟨ne,h⟩
  ·cases z
  ·obtain ⟨w,h1,h2⟩:=e.sh j u h
   exact ⟨w,by rw [List.getElem?_set_ne (Ne.symm ne)]; exact h1,h2⟩
 ·rcases get_set h with ⟨rfl,z,l⟩ | ⟨ne,h⟩
  ·cases z
   exact ⟨a,xs,af0 (by rw [<-e.len]; exact l),.inr rfl,h0,ha,r.mono m⟩
  ·obtain ⟨c,ys,h1,h2⟩:=e.ow j us h
   exact ⟨c,ys,by rw [List.getElem?_set_ne (Ne.symm ne)]; exact h1,h2⟩
 ·rcases get_set h with ⟨rfl,z,l⟩ | ⟨ne,h⟩
  ·cases z
  ·obtain ⟨c,ys,h1,h2⟩:=e.rf j us h
   exact ⟨c,ys,by rw [List.getElem?_set_ne (Ne.symm ne)]; exact h1,h2⟩
 ·have old:∀ j,j ≠ i->Mu ρ j->(σ.set i (some (.ref a)))[j]? ≠ some (some (.ref a)):=λj ne m q=>by
   rw [List.getElem?_set_ne (Ne.symm ne)] at q
   exact nw (e0.addr m q)
  have self:∀ c,(σ.set i (some (V.ref a)))[i]? = some (some (.ref c))->c=a:=λc q=>by
   rcases get_set q with ⟨_,z,_⟩ | ⟨ne,_⟩
   ·cases z; rfl
   ·exact absurd rfl ne
  rcases mu j h1 with rfl | ⟨n1,m1⟩ <;> rcases mu k h2 with rfl | ⟨n2,m2⟩
  ·rfl
  ·have:=self c q1
   subst this
   exact (old k n2 m2 q2).elim
  ·have:=self c q2
   subst this
   exact (old j n1 m1 q1).elim
  ·rw [List.getElem?_set_ne (Ne.symm n1)] at q1
   rw [List.getElem?_set_ne (Ne.symm n2)] at q2
   exact e.dis j k c m1 m2 q1 q2
 ·rcases mu j m with rfl | ⟨n1,m1⟩
  ·rcases get_set q with ⟨_,z,_⟩ | ⟨ne,_⟩
   ·cases z; exact hB
   ·exact absurd rfl ne
  ·rw [List.getElem?_set_ne (Ne.symm n1)] at q
   exact e.pd j c m1 q
 ·obtain ⟨ne,h⟩:=dpo j us h
  obtain ⟨c,ys,h1,d⟩:=e.dp j us h
  exact ⟨c,ys,by rw [List.getElem?_set_ne (Ne.symm ne)]; exact h1,d⟩
 ·obtain ⟨nj,hj⟩:=dpo j us h1
  rcases mu k m with rfl | ⟨n2,m2⟩
  ·rcases get_set q with ⟨_,z,_⟩ | ⟨nk,_⟩
   ·cases z
    exact na j us hj
   ·exact absurd rfl nk
  ·rw [List.getElem?_set_ne (Ne.symm n2)] at q
   exact e.dm j k us c hj m2 q
theorem EOk.noB {W:Addr->Prop} {ρ : En} {σ : St} {H:Hp} {a:Addr} (e:EOk t W ρ σ H) (n:H a=none):t.B a=none:=by
 cases q:t.B a with
 | none=>rfl
 | some o=>rw [e.pn a o q] at n; cases n
noncomputable abbrev GF:=Tr->En->Rs En
noncomputable def SG (t:Tx) (g:TG) (f:GF) (js:List Nat):Prop:=∀ W ρ σ H v T Q,EOk t W ρ σ H->Rep t.K (abb W H) v T->(f T ρ).post (λ_=>False) (λρ'=>∀ σ',EOk t W ρ' σ' H->(∀ k,k ∉ js -> σ'[k]? = σ[k]?)->Q σ' H)->g v σ H Q
noncomputable def gN (i:Nat):GF:=λT ρ => .ok (ρ.set i (.sh T))
theorem aap (i:Nat):SG t (adB i) (gN i) [i]:=λW ρ σ H v T Q e r h=>h _ (e.alS r) λk n=>List.getElem?_set_ne (λz=>n (by rw [z]; exact List.mem_singleton.mpr rfl))
noncomputable abbrev GFs:=List Tr->En->Rs En
noncomputable def SGs (t:Tx) (g:TGs) (f:GFs) (js:List Nat):Prop:=∀ W ρ σ H vs Ts Q,EOk t W ρ σ H->abd t.K (abb W H) vs Ts->(f Ts ρ).post (λ_=>False) (λρ'=>∀ σ',EOk t W ρ' σ' H->(∀ k,k ∉ js -> σ'[k]? = σ[k]?)->Q σ' H)->g vs σ H Q
noncomputable def adD:GFs:=λTs ρ => match Ts with
 | [] => .ok ρ
 | _ => .bad
noncomputable def aa6 (f:GF) (g:GFs):GFs:=λTs ρ => match Ts with
 | T :: r=>(f T ρ).bind λρ'=>g r ρ'
 | [] => .bad
theorem afc:SGs t awN adD []:=λW ρ σ H vs Ts Q e r h=>by
 cases r with
 | nil=>exact ⟨rfl,h σ e λ_ _=>rfl⟩
 | cons _ _=>exact h.elim
theorem ab8 {g:TG} {u:TGs} {f:GF} {fs:GFs} {js ks:List Nat} (h1:SG t g f js) (h2:SGs t u fs ks):SGs t (apj g u) (aa6 f fs) (js ++ ks):=λW ρ σ H vs Ts Q e r h=>by
 cases r with
 | nil=>exact h.elim
 | @cons x T xs Ts r1 r2 =>
  refine ⟨x,xs,rfl,h1 W ρ σ H x T _ e r1 (Rs.aal (Rs.aaf h) λρ' h σ' e' n1=>?_)⟩
  refine h2 W ρ' σ' H xs Ts _ e' r2 (Rs.aal h λρ2 h σ2 e2 n2=>h σ2 e2 λk n=>?_)
  rw [List.mem_append,not_or] at n
  rw [n2 k n.2,n1 k n.1]
noncomputable def gT (n:Nat) (f:GFs):GF:=λT ρ => match T with
 | .tup Ts=>if Ts.length=n then f Ts ρ else .bad
 | _ => .bad
theorem ahf {K:PySem.W.Frag} (hK:t.K=nlK K) {n:Nat} {u:TGs} {fs:GFs} {js:List Nat} (h2:SGs t u fs js):SG t (awO K n u) (gT n fs) js:=λW ρ σ H v T Q e r h=>by
 cases T <;> try exact h.elim
 rename_i Ts
 dsimp only [gT] at h
 split at h
 ·rename_i c
  cases r with
  | @tup a xs _ q r =>
   have q':=(abo W H).atw q
   rw [hK] at q'
   exact ⟨a,xs,rfl,q'.toK,by rw [r.length]; exact c,h2 W ρ σ H xs Ts Q e r h⟩
 ·exact h.elim
noncomputable def abj (f:EF) (g:GF):SF:=λρ => (f ρ).bind λp=>match p.1 with
 | .v T _=>(g T p.2).bind λρ' => .ok (.nx,ρ')
 | .s _ => .bad
theorem aaK {te:TE} {g:TG} {f:EF} {gf:GF} {js:List Nat} (h1:SE t te f) (h2:SG t g gf js) (ng:∀ T ρ c,gf T ρ ≠ .ex c):SS t (aqH te g) (abj f gf):=λW ρ σ H D e h=>by
 refine h1 W ρ σ H _ e (Rs.aal (Rs.aaf h) λp h v H1 e1 s1 v1=>?_)
 obtain ⟨r,ρ1⟩:=p
 cases r with
 | s i=>exact h.elim
 | v T fr=>exact h2 W ρ1 σ H1 v T _ e1 (v1.1.rep e.wn) (Rs.aal (akl (Rs.aaf h) (ng T ρ1)) λρ' h σ' e' _=>h W σ' H1 e' s1.nxt)
noncomputable def anr (i:Nat) (f:EF):SF:=λρ => (f ρ).bind λp=>match p.1 with
 | .v (.lst ts) true => .ok (.nx,p.2.set i (.ow ts))
 | _ => .bad
theorem ajz {te:TE} {f:EF} (i:Nat) (h1:SE t te f):SS t (aqH te (adB i)) (anr i f):=λW ρ σ H D e h=>by
 refine h1 W ρ σ H _ e (Rs.aal (Rs.aaf h) λp h v H1 e1 s1 v1=>?_)
 obtain ⟨r,ρ1⟩:=p
 dsimp only at h
 split at h
 ·rename_i ts
  obtain ⟨⟨a,xs,us,rfl,z,n,q,rr⟩,he⟩:=v1
  cases z
  have nw:¬ W a:=λw=>e.wn a w n
  refine h _ _ H1 (e1.auM nw (he _ a rfl rfl) (e.n0 a n) (e.noB n) q rr) λb o nb hb=>⟨?_,s1.keep b o nb hb⟩
  rintro (z | rfl)
  ·exact nb z
  ·rw [n] at hb; cases hb
 ·exact h.elim
noncomputable def adQ (f:EF):SF:=λρ => (f ρ).bind λp => .ok (.nx,p.2)
theorem ad9 {te:TE} {f:EF} (h1:SE t te f):SS t (aro te) (adQ f):=λW ρ σ H D e h =>
 h1 W ρ σ H _ e (Rs.aal (Rs.aaf h) λp h v H1 e1 s1 v1=>h W σ H1 e1 s1.nxt)
noncomputable def abx (f:EF):SF:=λρ => (f ρ).bind λp=>match p.1 with
 | .v T fr => .ok (.rt T fr,p.2)
 | .s i=>match p.2[i]? with
  | some (.ow ts) => .ok (.rt (.lst ts) true,p.2)
  | _ => .bad
theorem alT {W:Addr->Prop} {ρ : En} {σ : St} {H:Hp} (e:EOk t W ρ σ H):Same (abb W H) (abb t.Z H):=acG (λb _ _ z=>e.zw b z) λ_ _ _ h=>h
theorem aaJ {te:TE} {f:EF} (h1:SE t te f):SS t (ayz te) (abx f):=λW ρ σ H D e h=>by
 refine h1 W ρ σ H _ e (Rs.aal (Rs.aaf h) λp h v H1 e1 s1 v1=>?_)
 obtain ⟨r,ρ1⟩:=p
 cases r with
 | v T fr =>
  refine h v W σ H1 e1 ?_
  cases fr with
  | false=>exact Rep.mono (alT e1) v1.1
  | true =>
   obtain ⟨a,xs,us,rfl,z,n,q,rr⟩:=v1.1
   refine ⟨a,xs,us,rfl,z,e.n0 a n,q,rr.mono λb o q=>?_⟩
   obtain ⟨ne,q⟩:=aeR q
   rw [off_ne ne]
   exact alT e1 b o q
 | s i =>
  dsimp only at h
  split at h
  ·rename_i ts q
   obtain ⟨a,xs,h1,h2,h3,h4,h5⟩:=e1.ow i ts q
   have ev : σ[i]? = some (some v):=v1.1
   rw [ev] at h1
   cases h1
   refine h _ W σ H1 e1 ⟨a,xs,ts,rfl,rfl,h3,h4,h5.mono λb o q=>?_⟩
   have ne:b ≠ a:=λz=>by subst z; rw [aiC h2] at q; cases q
   rw [off_ne ne]
   exact alT e1 b o q
  ·exact h.elim
noncomputable def sIf (c:BF) (f g:SF):SF:=λρ => (c ρ).bind λp=>if p.1=true then f p.2 else g p.2
theorem acA {tc:TT} {ta tb:TS} {c:BF} {f g:SF} (hc:ST t tc c) (ha:SS t ta f) (hb:SS t tb g):SS t (ayA tc ta tb) (sIf c f g):=λW ρ σ H D e h=>by
 refine hc W ρ σ H _ e (Rs.aal (Rs.aaf h) λp h H1 e1 s1=>?_)
 split at h
 ·rename_i d
  refine if_pos d ▸ ha W p.2 σ H1 D e1 (Rs.aal h λq h=>h.back s1.nxt)
 ·rename_i d
  refine if_neg d ▸ hb W p.2 σ H1 D e1 (Rs.aal h λq h=>h.back s1.nxt)
noncomputable def frz (i:Nat) (ρ : En):En:=match ρ[i]? with
 | some (.ow ts) => ρ.set i (.sh (.lst ts))
 | _ => ρ
end
end L2
end
section
namespace L2
open PySem PySem.Spec PyProof.Rows
section
variable {t:Tx}
theorem EOk.frz {W:Addr->Prop} {ρ : En} {σ : St} {H:Hp} (e:EOk t W ρ σ H) (i:Nat):∃ W',EOk t W' (L2.frz i ρ) σ H /\ Nxt W H W' H:=by
 unfold L2.frz
 split
 ·rename_i ts q
  obtain ⟨a,xs,h1,h2,h3,h4,h5⟩:=e.ow i ts q
  have m:Same (abb W H) (abb (λb=>W b /\ b ≠ a) H):=acG (λ_ _ _ z=>z.1) λ_ _ _ h=>h
  have mi:Mu ρ i:=⟨ts,.inl q⟩
  have mu:∀ j,Mu (ρ.set i (.sh (.lst ts))) j->j ≠ i /\ Mu ρ j:=λj h=>by
   obtain ⟨us,h | h⟩:=h <;> rcases get_set h with ⟨rfl,z,_⟩ | ⟨ne,h⟩
   ·cases z
   ·exact ⟨ne,us,.inl h⟩
   ·cases z
   ·exact ⟨ne,us,.inr h⟩
  have nea:∀ j c,j ≠ i->Mu ρ j -> σ[j]? = some (some (.ref c))->c ≠ a:=λj c ne mj qj z=>by
   subst z
   exact ne (e.dis j i c mj mi qj h1)
  have dpo:∀ (j:Nat) (us:List Tr),(ρ.set i (.sh (.lst ts)))[j]? = some (Sl.dp us) -> ρ[j]? = some (Sl.dp us):=λj us h=>by
   rcases get_set h with ⟨rfl,z,_⟩ | ⟨ne,h⟩
   ·cases z
   ·exact h
  obtain ⟨F,e⟩:=e
  refine ⟨λb=>W b /\ b ≠ a,⟨F,by rw [List.length_set]; exact e.len,λb z=>⟨e.zw b z,λy=>?_⟩,e.z0,λb w=>e.wl b w.1,e.f0,e.n0,λj u h=>?_,λj us h=>?_,λj us h=>?_,λj k c m1 m2 q1 q2=>e.dis j k c (mu j m1).2 (mu k m2).2 q1 q2,e.pn,λj c m q=>e.pd j c (mu j m).2 q,λj us h=>?_,λj k us ws n h1 h2=>e.dd j k us ws n (dpo j us h1) (dpo k ws h2),λj k us c h1 m q=>e.dm j k us c (dpo j us h1) (mu k m).2 q,λj us h=>e.db j us (dpo j us h),e.tab.cut (D:=λb=>b=a) (λb z=>⟨xs,by rw [z]; exact h4⟩)⟩,λb o n h=>⟨λz=>n z.1,h⟩⟩
  ·subst y
   exact e.z0 b z h3
  ·rcases get_set h with ⟨rfl,z,l⟩ | ⟨ne,h⟩
   ·cases z
    refine ⟨.ref a,h1,.lst (SqL.of ?_) (h5.mono m)⟩
    rw [aa1 λz=>z.2 rfl]
    exact h4
   ·obtain ⟨w,q1,q2⟩:=e.sh j u h
    exact ⟨w,q1,q2.mono m⟩
  ·rcases get_set h with ⟨rfl,z,l⟩ | ⟨ne,h⟩
   ·cases z
   ·obtain ⟨c,ys,q1,q2,q3,q4,q5⟩:=e.ow j us h
    exact ⟨c,ys,q1,⟨q2,nea j c ne ⟨us,.inl h⟩ q1⟩,q3,q4,q5.mono m⟩
  ·rcases get_set h with ⟨rfl,z,l⟩ | ⟨ne,h⟩
   ·cases z
   ·obtain ⟨c,ys,q1,q2,q3,q4,q5⟩:=e.rf j us h
    exact ⟨c,ys,q1,⟨q2,nea j c ne ⟨us,.inr h⟩ q1⟩,q3,q4,q5.mono m⟩
  ·obtain ⟨c,ys,q1,d⟩:=e.dp j us (dpo j us h)
   exact ⟨c,ys,q1,d.move rfl rfl m (λb hb=>⟨by obtain ⟨_,_,_,ww,_⟩:=d; exact (ww b hb).1,λz=>by subst z; exact e.dm j i us b (dpo j us h) mi h1 hb⟩) λ_ _ _ q=>q⟩
 ·exact ⟨W,e,Nxt.refl _ _⟩
noncomputable def aty (i:Nat) (f:SF):SF:=λρ => f (frz i ρ)
theorem aqV {ts:TS} {f:SF} (i:Nat) (h:SS t ts f):SS t ts (aty i f):=λW ρ σ H D e q=>by
 obtain ⟨W',e',n⟩:=e.frz i
 exact h W' _ σ H D e' (Rs.aal q λp q=>q.back n)
noncomputable def afw (c:BF) (b:SF):Nat->SF
 | 0=>λ_ => .bad
 | n + 1=>λρ => (c ρ).bind λp=>if p.1=true then (b p.2).bind λq=>(match q.1 with
  | .nx=>afw c b n q.2
  | .ct=>afw c b n q.2
  | .bk => .ok (.nx,q.2)
  | .rt T fr => .ok (.rt T fr,q.2)) else .ok (.nx,p.2)
noncomputable def aen (fu:En->Nat) (c:BF) (b:SF):SF:=λρ => afw c b (fu ρ) ρ
theorem alU {tc:TT} {tb:TS} {c:BF} {b:SF} (fu:En->Nat) (hc:ST t tc c) (hb:SS t tb b):SS t (aqK tc tb) (aen fu c b):=λW ρ σ H D e h=>by
 refine ⟨λm σ' H'=>∃ ρ' W',EOk t W' ρ' σ' H' /\ (afw c b m ρ').post t.EX (afZ t W' H' D),⟨fu ρ,ρ,W,e,h⟩,?_⟩
 rintro m σ1 H1 ⟨ρ1,W1,e1,h1⟩
 cases m with
 | zero=>exact h1.elim
 | succ n =>
  refine hc W1 ρ1 σ1 H1 _ e1 (Rs.aal (Rs.aaf h1) λp h H2 e2 s2=>?_)
  split at h
  ·rename_i d
   rw [if_pos d]
   refine ⟨λσ' H'=>∃ ρ' W',EOk t W' ρ' σ' H' /\ (afw c b n ρ').post t.EX (afZ t W' H' D),λσ' H' q=>⟨n,Nat.lt_succ_self n,q⟩,?_⟩
   refine hb W1 p.2 σ1 H2 _ e2 (Rs.aal (Rs.aaf h) λq h=>?_)
   obtain ⟨fl,ρ3⟩:=q
   cases fl with
   | nx=>exact λW3 σ3 H3 e3 n3=>⟨ρ3,W3,e3,Rs.aal h λr h=>h.back (s2.nxt.trans n3)⟩
   | ct=>exact λW3 σ3 H3 e3 n3=>⟨ρ3,W3,e3,Rs.aal h λr h=>h.back (s2.nxt.trans n3)⟩
   | bk=>exact λW3 σ3 H3 e3 n3=>h W3 σ3 H3 e3 (s2.nxt.trans n3)
   | rt T fr=>exact h
  ·rename_i d
   rw [if_neg d]
   exact h W1 σ1 H2 e2 s2.nxt
noncomputable def arV (K:PySem.W.Frag) (W:Addr->Prop) (H:Hp) (J:It) (us:List Tr):Prop:=∀ W' H',Same (abb W H) (abb W' H')->(∀ b,W' b->Lt H' b)->∀ i,(i=us.length->J.stop i H') /\ ∀ u,us[i]? = some u->J.go i H' /\ ∀ x H'',J.yld i H' x H''->Same H' H'' /\ Rep K (abb W' H'') x u
noncomputable abbrev IF:=En->Rs (List Tr × En)
noncomputable def SI (t:Tx) (wi:TI) (f:IF):Prop:=∀ W ρ σ H R,EOk t W ρ σ H->(f ρ).post t.EX (λp=>∀ J H',EOk t W p.2 σ H'->Stp W H H'->arV t.K W H' J p.1->R J H')->wi σ H R
noncomputable def acu (g:GF) (b:SF):List Tr->SF
 | []=>λρ => .ok (.nx,ρ)
 | u :: us=>λρ => (g u ρ).bind λρ1=>(b ρ1).bind λq=>(match q.1 with
  | .nx=>acu g b us q.2
  | .ct=>acu g b us q.2
  | .bk => .ok (.nx,q.2)
  | .rt T fr => .ok (.rt T fr,q.2))
noncomputable def afn (fi:IF) (g:GF) (b:SF):SF:=λρ => (fi ρ).bind λp=>acu g b p.1 p.2
theorem ae6 {wi:TI} {g:TG} {tb:TS} {fi:IF} {gf:GF} {b:SF} {js:List Nat} (hi:SI t wi fi) (hg:SG t g gf js) (ng:∀ T ρ c,gf T ρ ≠ .ex c) (hb:SS t tb b):SS t (ayF wi g tb) (afn fi gf b):=λW ρ σ H D e h=>by
 refine hi W ρ σ H _ e (Rs.aal (Rs.aaf h) λp h J H1 e1 s1 it=>?_)
 obtain ⟨us,ρ1⟩:=p
 dsimp only at h it e1
 refine ⟨λi m σ' H'=>m=us.length - i /\ i<=us.length /\ ∃ ρ' W',EOk t W' ρ' σ' H' /\ Nxt W H1 W' H' /\ (acu gf b (us.drop i) ρ').post t.EX (afZ t W' H' D),⟨us.length,by simp,Nat.zero_le _,ρ1,W,e1,Nxt.refl _ _,by rw [List.drop_zero]; exact Rs.aal h λr h=>h.back s1.nxt⟩,?_⟩
 rintro i m σ2 H2 ⟨rfl,hi,ρ2,W2,e2,n2,h2⟩
 have q:=it W2 H2 n2.same e2.wl i
 by_cases hlt:i<us.length
 ·rw [List.drop_eq_getElem_cons hlt] at h2
  obtain ⟨go,y⟩:=q.2 us[i] (by simp [hlt])
  refine .inr ⟨go,λσ' H'=>∃ ρ' W',EOk t W' ρ' σ' H' /\ Nxt W H1 W' H' /\ (acu gf b (us.drop (i + 1)) ρ').post t.EX (afZ t W' H' D),λσ' H' z=>⟨us.length - (i + 1),by omega,rfl,hlt,z⟩,λx H3 yl=>?_⟩
  obtain ⟨s3,r3⟩:=y x H3 yl
  have e3:=e2.grow s3
  have n3:Nxt W H1 W2 H3:=n2.trans (Stp.of s3).nxt
  refine hg W2 ρ2 σ2 H3 x us[i] _ e3 r3 (Rs.aal (akl (Rs.aaf h2) (ng _ _)) λρ4 h σ4 e4 _=>?_)
  refine hb W2 ρ4 σ4 H3 _ e4 (Rs.aal (Rs.aaf h) λr h=>?_)
  obtain ⟨fl,ρ5⟩:=r
  cases fl with
  | nx=>exact λW5 σ5 H5 e5 n5=>⟨ρ5,W5,e5,n3.trans n5,Rs.aal h λr h=>h.back ((Stp.of s3).nxt.trans n5)⟩
  | ct=>exact λW5 σ5 H5 e5 n5=>⟨ρ5,W5,e5,n3.trans n5,Rs.aal h λr h=>h.back ((Stp.of s3).nxt.trans n5)⟩
  | bk=>exact λW5 σ5 H5 e5 n5=>h W5 σ5 H5 e5 ((Stp.of s3).nxt.trans n5)
  | rt T fr=>exact h
 ·have z:i=us.length:=by omega
  subst z
  rw [List.drop_length] at h2
  exact .inl ⟨q.1 rfl,h2 W2 σ2 H2 e2 (Nxt.refl _ _)⟩
noncomputable def iSq (K:PySem.W.Frag) (tl:TE):TI:=λσ H R=>atR K tl σ H R \/ ayE K tl σ H R
theorem aeo {X:Cx} {tg l:Expr} {tl:TE} (hl:PE X l tl):PI X tg l (iSq X.K tl):=λpins s σ H R I h=>by
 rcases h with h | h
 ·exact aru hl pins s σ H R I h
 ·exact atU hl pins s σ H R I h
noncomputable def acV:Rv->Rs (List Tr × Bool)
 | .v (.lst ts) _ => .ok (ts,true)
 | .v (.tup ts) _ => .ok (ts,false)
 | _ => .bad
noncomputable def fSq (f:EF):IF:=λρ => (f ρ).bind λp=>(acV p.1).bind λz => .ok (z.1,p.2)
theorem arW {K:PySem.W.Frag} {W:Addr->Prop} {H:Hp} {a:Addr} {xs:List V} {us:List Tr} (q:SqL (nlK K) (abb W H) a xs) (r:abd (nlK K) (abb W H) xs us):arV (nlK K) W H (Itl K a) us:=λW' H' m hw i=>by
 have q':SqL K H' a xs:=((abo W' H').seq (m.seq q)).toK
 refine ⟨λz=>⟨xs,q',by rw [r.length]; omega⟩,λu hu=>?_⟩
 obtain ⟨x,hx,rx⟩:=r.apB hu
 refine ⟨⟨xs,x,q',hx⟩,λy H'' yl=>?_⟩
 obtain ⟨rfl,z⟩:=yl
 have:=z xs q'
 rw [hx] at this
 cases this
 exact ⟨Same.refl _,rx.mono m⟩
theorem auN {K:PySem.W.Frag} {W:Addr->Prop} {H:Hp} {a:Addr} {xs:List V} {us:List Tr} (q:SqT (nlK K) (abb W H) a xs) (r:abd (nlK K) (abb W H) xs us):arV (nlK K) W H (Itt K a) us:=λW' H' m hw i=>by
 have q':SqT K H' a xs:=((abo W' H').atw (m.atw q)).toK
 refine ⟨λz=>⟨xs,q',by rw [r.length]; omega⟩,λu hu=>?_⟩
 obtain ⟨x,hx,rx⟩:=r.apB hu
 refine ⟨⟨xs,x,q',hx⟩,λy H'' yl=>?_⟩
 obtain ⟨rfl,z⟩:=yl
 have:=z xs q'
 rw [hx] at this
 cases this
 exact ⟨Same.refl _,rx.mono m⟩
theorem aep {K:PySem.W.Frag} (hK:t.K=nlK K) {tl:TE} {f:EF} (h1:SE t tl f):SI t (iSq K tl) (fSq f):=λW ρ σ H R e h=>by
 have h:=Rs.aaf h
 have key:∀ b:Bool,(f ρ).post t.EX (λp=>∃ us,acV p.1 = .ok (us,b) /\ ∀ J H',EOk t W p.2 σ H'->Stp W H H'->arV t.K W H' J us->R J H')->iSq K tl σ H R:=λb h=>by
  cases b with
  | true =>
   refine .inl (h1 W ρ σ H _ e (Rs.aal h λp h v H1 e1 s1 v1=>?_))
   obtain ⟨us,q,h⟩:=h
   obtain ⟨r,ρ1⟩:=p
   cases r with
   | s i=>cases q
   | v T fr =>
    cases T <;> cases q
    have rr:=v1.1.rep e.wn
    cases rr with
    | @lst a xs _ q r =>
     refine ⟨a,rfl,⟨xs,?_⟩,h _ H1 e1 s1 ?_⟩
     ·rw [hK] at q
      exact ((abo _ _).seq q).toK
     ·rw [hK] at q r ⊢
      exact arW q r
  | false =>
   refine .inr (h1 W ρ σ H _ e (Rs.aal h λp h v H1 e1 s1 v1=>?_))
   obtain ⟨us,q,h⟩:=h
   obtain ⟨r,ρ1⟩:=p
   cases r with
   | s i=>cases q
   | v T fr =>
    cases T <;> cases q
    have rr:=v1.1.rep e.wn
    cases rr with
    | @tup a xs _ q r =>
     refine ⟨a,rfl,⟨xs,?_⟩,h _ H1 e1 s1 ?_⟩
     ·rw [hK] at q
      exact ((abo _ _).atw q).toK
     ·rw [hK] at q r ⊢
      exact auN q r
 cases k:f ρ with
 | bad=>rw [k] at h; exact h.elim
 | ex c =>
  refine key true ?_
  rw [k] at h ⊢
  exact h
 | ok p =>
  rw [k] at h
  have h:((acV p.1).bind _).post _ _:=h
  cases k2:acV p.1 with
  | bad=>rw [k2] at h; exact h.elim
  | ex c =>
   exfalso
   revert k2
   unfold acV
   split <;> (intro z; cases z)
  | ok z =>
   rw [k2] at h
   refine key z.2 ?_
   rw [k]
   exact ⟨z.1,k2,h⟩
noncomputable def upTo (lo:Int):Nat->List Tr
 | 0 => []
 | n + 1 => .int lo :: upTo (lo + 1) n
theorem apG (lo:Int):∀ n,(upTo lo n).length=n:=λn=>by
 induction n generalizing lo with
 | zero=>rfl
 | succ n ih=>rw [upTo,List.length_cons,ih]
theorem apH {lo:Int} {n i:Nat} {u:Tr} (h:(upTo lo n)[i]? = some u):i<n /\ u = .int (lo + i):=by
 induction n generalizing lo i with
 | zero=>simp [upTo] at h
 | succ n ih =>
  rw [upTo] at h
  cases i with
  | zero =>
   simp at h
   subst h
   exact ⟨Nat.zero_lt_succ _,by simp⟩
  | succ i =>
   obtain ⟨h1,h2⟩:=ih (lo:=lo + 1) (i:=i) (by simpa using h)
   refine ⟨Nat.succ_lt_succ h1,h2.trans ?_⟩
   congr 1
   omega
theorem apI {K:PySem.W.Frag} {W:Addr->Prop} {H:Hp} (lo:Int) (n:Nat):arV K W H (Itr lo n) (upTo lo n):=λW' H' m hw i=>by
 refine ⟨λz=>?_,λu hu=>?_⟩
 ·rw [apG] at z
  exact Nat.le_of_eq z.symm
 ·obtain ⟨h1,rfl⟩:=apH hu
  refine ⟨h1,λx H'' yl=>?_⟩
  obtain ⟨rfl,rfl⟩:=yl
  exact ⟨Same.refl _,.int _⟩
noncomputable def okR (i:Int):Bool:=decide (-1000000<=i) && decide (i<=1000000)
noncomputable def agS (fa:AF):IF:=λρ => (fa ρ).bind λp=>(drs p.2 p.1).bind λas=>match as with
 | [.int j]=>if okR j=true then .ok (upTo 0 j.toNat,p.2) else .bad
 | _ => .bad
theorem afx {ta:TA} {fa:AF} (ha:SA t ta fa):SI t (arv ta) (agS fa):=λW ρ σ H R e h=>by
 refine ha W ρ σ H _ e (Rs.aal (Rs.aaf h) λp h vs H1 e1 s1 v1=>?_)
 obtain ⟨as,k1,h⟩:=abY (Rs.aaf h) (afX _ _)
 have r:=ajx e1 e.wn v1 k1
 split at h
 ·rename_i j
  split at h
  ·rename_i c
   unfold okR at c
   rw [Bool.and_eq_true] at c
   have c1:=of_decide_eq_true c.1
   have c2:=of_decide_eq_true c.2
   cases r with
   | cons h1 r1 =>
    cases r1
    rw [h1.int]
    exact ⟨j,rfl,by omega,by omega,h _ H1 e1 s1 (apI 0 _)⟩
  ·exact h.elim
 ·exact h.elim
noncomputable def axe (fa:AF):IF:=λρ => (fa ρ).bind λp=>(drs p.2 p.1).bind λas=>match as with
 | [.int i,.int j]=>if okR i=true /\ okR j=true then .ok (upTo i (j - i).toNat,p.2) else .bad
 | _ => .bad
noncomputable def con (ρ : En) (i:Nat):Rs (List Tr):=match ρ[i]? with
 | some (.ow ts) => .ok ts
 | some (.rf ts) => .ok ts
 | _ => .bad
theorem ahg (ρ : En) (i:Nat) (c:Str):con ρ i ≠ .ex c:=by
 unfold con
 split <;> (intro z; cases z)
noncomputable def abn (i:Nat) (us:List Tr) (ρ : En):En:=match ρ[i]? with
 | some (.ow _) => ρ.set i (.ow us)
 | some (.rf _) => ρ.set i (.rf us)
 | _ => ρ
theorem EOk.con {W:Addr->Prop} {ρ : En} {σ : St} {H:Hp} {i:Nat} {ts:List Tr} (e:EOk t W ρ σ H) (q:con ρ i = .ok ts):Mu ρ i /\ ∃ a xs,σ[i]? = some (some (.ref a)) /\ W a /\ H a=some (.lst xs) /\ abd t.K (abb W H) xs ts /\ (∀ o,t.H0 a=some o->t.R a):=by
 unfold L2.con at q
 split at q
 ·rename_i us h
  cases q
  obtain ⟨a,xs,h1,h2,h3,h4,h5⟩:=e.ow i ts h
  exact ⟨⟨ts,.inl h⟩,a,xs,h1,h2,h4,h5,λo z=>by rw [h3] at z; cases z⟩
 ·rename_i us h
  cases q
  obtain ⟨a,xs,h1,h2,h3,h4,h5⟩:=e.rf i ts h
  exact ⟨⟨ts,.inr h⟩,a,xs,h1,h2,h4,h5,λo z=>h3⟩
 ·cases q
theorem af2 {ρ : En} {i j:Nat} {us:List Tr} (h:Mu (abn i us ρ) j):Mu ρ j:=by
 unfold abn at h
 split at h
 ·rename_i ws q
  obtain ⟨ts,h | h⟩:=h <;> rcases get_set h with ⟨rfl,z,_⟩ | ⟨ne,h⟩
  ·exact ⟨_,.inl q⟩
  ·exact ⟨_,.inl h⟩
  ·exact ⟨_,.inl q⟩
  ·exact ⟨_,.inr h⟩
 ·rename_i ws q
  obtain ⟨ts,h | h⟩:=h <;> rcases get_set h with ⟨rfl,z,_⟩ | ⟨ne,h⟩
  ·exact ⟨_,.inr q⟩
  ·exact ⟨_,.inl h⟩
  ·exact ⟨_,.inr q⟩
  ·exact ⟨_,.inr h⟩
 ·exact h
theorem aiG {ρ : En} {i:Nat} {us:List Tr}:(abn i us ρ).length = ρ.length:=by
 unfold abn
 split
 ·rw [List.length_set]
 ·rw [List.length_set]
 ·rfl
theorem aea {ρ : En} {i j:Nat} {us:List Tr} {s:Sl} (h:(abn i us ρ)[j]? = some s):(j ≠ i /\ ρ[j]? = some s) \/ (j=i /\ ((∃ ts,ρ[i]? = some (.ow ts) /\ s = .ow us) \/ (∃ ts,ρ[i]? = some (.rf ts) /\ s = .rf us) \/ (¬ Mu ρ i /\ ρ[i]? = some s))):=by
 unfold abn at h
 split at h
 ·rename_i ws q
  rcases get_set h with ⟨rfl,z,_⟩ | ⟨ne,h⟩
  ·exact .inr ⟨rfl,.inl ⟨ws,q,z⟩⟩
  ·exact .inl ⟨ne,h⟩
 ·rename_i ws q
  rcases get_set h with ⟨rfl,z,_⟩ | ⟨ne,h⟩
  ·exact .inr ⟨rfl,.inr (.inl ⟨ws,q,z⟩)⟩
  ·exact .inl ⟨ne,h⟩
 ·rename_i n1 n2
  by_cases e:j=i
  ·subst e
   refine .inr ⟨rfl,.inr (.inr ⟨?_,h⟩)⟩
   rintro ⟨ts,z | z⟩
   ·exact n1 ts z
   ·exact n2 ts z
  ·exact .inl ⟨e,h⟩
theorem aeC {ρ : En} {i j:Nat} {us ws:List Tr} (h:(abn i us ρ)[j]? = some (.dp ws)) : ρ[j]? = some (.dp ws):=by
 rcases aea h with ⟨_,h⟩ | ⟨rfl,⟨_,_,z⟩ | ⟨_,_,z⟩ | ⟨_,h⟩⟩
 ·exact h
 ·cases z
 ·cases z
 ·exact h
theorem DR.lst {K:PySem.W.Frag} {G H:Hp}:∀ {xs:List V} {ts:List Tr} {bs:List Addr},DR K G H xs ts bs->∀ b ∈ bs,∃ ys,H b=some (.lst ys)
 | _,_,_,.nil,_,h=>by cases h
 | _,_,_,.cl _ _ r,b,h=>DR.lst r b h
 | _,_,_,.rw q _ r,b,h=>by
  rcases List.mem_cons.mp h with rfl | h
  ·exact ⟨_,q⟩
  ·exact DR.lst r b h
theorem aqP.lst {t:Tx} {W:Addr->Prop} {H:Hp} {a:Addr} {xs:List V} {ts:List Tr} {fp:List Addr} (d:aqP t W H a xs ts fp):∀ b ∈ fp,∃ ys,H b=some (.lst ys):=λb hb=>by
 obtain ⟨bs,e,_,_,ha,r⟩:=d
 rw [e] at hb
 rcases List.mem_cons.mp hb with rfl | hb
 ·exact ⟨_,ha⟩
 ·exact r.lst b hb
theorem aqP.nt {t:Tx} {K:PySem.W.Frag} {W:Addr->Prop} {H:Hp} {a:Addr} {xs:List V} {ts:List Tr} {fp:List Addr} (d:aqP t W H a xs ts fp) (tb:TbS K H) {b:Addr} (z:Tb K b) (hb:b ∈ fp):False:=by
 obtain ⟨ys,e⟩:=d.lst b hb
 exact tb.ne z e rfl
theorem EOk.auO {W:Addr->Prop} {ρ : En} {σ : St} {H:Hp} {i:Nat} {a:Addr} (e:EOk t W ρ σ H) (m:Mu ρ i) (q : σ[i]? = some (some (.ref a))):∃ xs,H a=some (.lst xs):=by
 obtain ⟨ts,h | h⟩:=m
 ·obtain ⟨b,xs,h1,_,_,h4,_⟩:=e.ow i ts h
  rw [q] at h1
  cases h1
  exact ⟨xs,h4⟩
 ·obtain ⟨b,xs,h1,_,_,h4,_⟩:=e.rf i ts h
  rw [q] at h1
  cases h1
  exact ⟨xs,h4⟩
theorem EOF.move {W W':Addr->Prop} {ρ : En} {σ : St} {H H':Hp} {i:Nat} {a:Addr} {xs:List V} {us:List Tr} {F:Nat->List Addr} (e:EOF t W ρ σ H F) (mi:Mu ρ i) (hi : σ[i]? = some (some (.ref a))) (m:Same (abb W H) (abb W' H')) (sub:∀ b,W b->W' b) (wl:∀ b,W' b->Lt H' b)
  (tb:TbS t.K H') (fr:∀ b o,H b=some o->b ≠ a->¬ Tb t.K b->H' b=some o) (dom:∀ b,H' b=none->H b=none) (h0:∀ o,t.H0 a=some o->t.R a) (ha:H' a=some (.lst xs)) (r:abd t.K (abb W' H') xs us):EOF t W' (abn i us ρ) σ H' F:=by
 have ne:∀ j c,j ≠ i->Mu ρ j -> σ[j]? = some (some (.ref c))->c ≠ a:=λj c n mj q z=>by
  subst z
  exact n (e.dis j i c mj mi q hi)
 have nt:∀ {c:Addr} {ys:List V},H c=some (.lst ys)->¬ Tb t.K c:=λq z=>e.tab.ok.ne z q rfl
 refine ⟨by rw [aiG]; exact e.len,λb z=>sub b (e.zw b z),e.z0,wl,λb o h n=>?_,λb h=>e.n0 b (dom b h),λj u h=>?_,λj ts h=>?_,λj ts h=>?_,λj k c h1 h2=>e.dis j k c (af2 h1) (af2 h2),λb o h=>fr b o (e.pn b o h) (λz=>by subst z; rw [e.pd i b mi hi] at h; cases h) (λz=>by rw [e.tab.B b z] at h; cases h),λj c m q=>e.pd j c (af2 m) q,λj ws h=>?_,λj k ws zs n h1 h2=>e.dd j k ws zs n (aeC h1) (aeC h2),λj k ws c h1 m q=>e.dm j k ws c (aeC h1) (af2 m) q,λj ws h=>e.db j ws (aeC h),⟨tb,λb z=>sub b (e.tab.w b z),e.tab.r,e.tab.B⟩⟩
 ·refine fr b o (e.f0 b o h n) (λz=>?_) λz=>n (e.tab.r b z)
  subst z
  exact n (h0 o h)
 ·rcases aea h with ⟨n,h⟩ | ⟨rfl,⟨ts,q,z⟩ | ⟨ts,q,z⟩ | ⟨nm,h⟩⟩
  ·obtain ⟨w,h1,h2⟩:=e.sh j u h
   exact ⟨w,h1,h2.mono m⟩
  ·cases z
  ·cases z
  ·exact (nm mi).elim
 ·rcases aea h with ⟨n,h⟩ | ⟨rfl,⟨ts',q,z⟩ | ⟨ts',q,z⟩ | ⟨nm,h⟩⟩
  ·obtain ⟨c,ys,h1,h2,h3,h4,h5⟩:=e.ow j ts h
   exact ⟨c,ys,h1,sub c h2,h3,fr c _ h4 (ne j c n ⟨ts,.inl h⟩ h1) (nt h4),h5.mono m⟩
  ·cases z
   obtain ⟨c,ys,h1,h2,h3,h4,h5⟩:=e.ow j ts' q
   rw [hi] at h1
   cases h1
   exact ⟨a,xs,hi,sub a h2,h3,ha,r⟩
  ·cases z
  ·exact (nm mi).elim
 ·rcases aea h with ⟨n,h⟩ | ⟨rfl,⟨ts',q,z⟩ | ⟨ts',q,z⟩ | ⟨nm,h⟩⟩
  ·obtain ⟨c,ys,h1,h2,h3,h4,h5⟩:=e.rf j ts h
   exact ⟨c,ys,h1,sub c h2,h3,fr c _ h4 (ne j c n ⟨ts,.inr h⟩ h1) (nt h4),h5.mono m⟩
  ·cases z
  ·cases z
   obtain ⟨c,ys,h1,h2,h3,h4,h5⟩:=e.rf j ts' q
   rw [hi] at h1
   cases h1
   exact ⟨a,xs,hi,sub a h2,h3,ha,r⟩
  ·exact (nm mi).elim
 ·obtain ⟨c,ys,h1,d⟩:=e.dp j ws (aeC h)
  exact ⟨c,ys,h1,d.move rfl rfl m (λb hb=>sub b (by obtain ⟨_,_,_,ww,_⟩:=d; exact (ww b hb).1)) λb o hb q=>fr b o q (λz=>by subst z; exact e.dm j i ws b (aeC h) mi hi hb) λz=>d.nt e.tab.ok z hb⟩
theorem EOk.move {W W':Addr->Prop} {ρ : En} {σ : St} {H H':Hp} {i:Nat} {a:Addr} {xs:List V} {us:List Tr} (e:EOk t W ρ σ H) (mi:Mu ρ i) (hi : σ[i]? = some (some (.ref a))) (m:Same (abb W H) (abb W' H')) (sub:∀ b,W b->W' b) (wl:∀ b,W' b->Lt H' b)
  (tb:TbS t.K H') (fr:∀ b o,H b=some o->b ≠ a->¬ Tb t.K b->H' b=some o) (dom:∀ b,H' b=none->H b=none) (h0:∀ o,t.H0 a=some o->t.R a) (ha:H' a=some (.lst xs)) (r:abd t.K (abb W' H') xs us):EOk t W' (abn i us ρ) σ H':=by
 obtain ⟨F,e⟩:=e
 exact ⟨F,e.move mi hi m sub wl tb fr dom h0 ha r⟩
theorem EOk.put {W:Addr->Prop} {ρ : En} {σ : St} {H:Hp} {i:Nat} {a:Addr} {xs:List V} {us:List Tr} (e:EOk t W ρ σ H) (mi:Mu ρ i) (hi : σ[i]? = some (some (.ref a))) (h0:∀ o,t.H0 a=some o->t.R a) (r:abd t.K (abb W H) xs us):EOk t W (abn i us ρ) σ (upd H a (.lst xs)) /\ Stp W H (upd H a (.lst xs)):=by
 have w:=e.addr mi hi
 obtain ⟨zs,hz⟩:=e.auO mi hi
 refine ⟨e.move mi hi (by rw [adJ w]; exact Same.refl _) (λ_ h=>h) (λb z=>?_) (e.tab.ok.upd hz) (λb o h n _=>by rw [aaF n]; exact h) (λb h=>?_) h0 aa9 (by rw [adJ w]; exact r),⟨λb o n h=>?_,λb h=>?_⟩⟩
 ·by_cases q:b=a
  ·subst q; exact .inl ⟨xs,aa9⟩
  ·unfold Lt; rw [aaF q]; exact e.wl b z
 ·by_cases q:b=a
  ·subst q; rw [aa9] at h; cases h
  ·rw [aaF q] at h; exact h
 ·rw [aaF (λz=>n (by rw [z]; exact w))]; exact h
 ·by_cases q:b=a
  ·subst q; rw [aa9] at h; cases h
  ·rw [aaF q] at h; exact h
noncomputable abbrev GM:=List Tr->List Tr->Rs (List Tr × Tr)
noncomputable def MtT (r:V->List V->Hp->VK->Prop) (m:GM):Prop:=∀ (K:PySem.W.Frag) (G:Hp) a xs ts vs as H Q ts' T,H a=some (.lst xs)->abd K G xs ts->abd K G vs as->m ts as = .ok (ts',T)->(∀ xs' v,abd K G xs' ts'->Rep K G v T->Q v (upd H a (.lst xs')))->r (.ref a) vs H Q
noncomputable def eMt (i:Nat) (m:GM) (fa:AF):EF:=λρ => (con ρ i).bind λ_=>(fa ρ).bind λp=>(cls p.1).bind λas=>(con p.2 i).bind λts=>(m ts as).bind λz => .ok (.v z.2 false,abn i z.1 p.2)
theorem axf {K:PySem.W.Frag} {r:V->List V->Hp->VK->Prop} {m:GM} {ta:TA} {fa:AF} (i:Nat) (hm:MtT r m) (ng:∀ ts as c,m ts as ≠ .ex c) (ha:SA t ta fa):SE t (tBM K "list" r (aph i) ta) (eMt i m fa):=λW ρ σ H Q e h=>by
 obtain ⟨us,k0,h⟩:=abY (Rs.aaf h) (ahg _ _)
 obtain ⟨_,a,xs,hi,_,hx,_⟩:=e.con k0
 refine ⟨_,hi,.inl ⟨rfl,xs,SqL.of hx⟩,?_⟩
 refine ha W ρ σ H _ e (Rs.aal (Rs.aaf h) λp h vs H1 e1 s1 v1=>?_)
 obtain ⟨as,k1,h⟩:=abY (Rs.aaf h) (afY _)
 obtain ⟨ts,k2,h⟩:=abY (Rs.aaf h) (ahg _ _)
 obtain ⟨⟨ts',T⟩,k3,h⟩:=abY (Rs.aaf h) (ng _ _)
 obtain ⟨mi,a',ys,hi',w,hy,ry,h0⟩:=e1.con k2
 rw [hi] at hi'
 cases hi'
 refine hm t.K (abb W H1) a ys ts vs as H1 Q ts' T hy ry (aie e.wn v1 k1) k3 λxs' v r' rv=>?_
 obtain ⟨e2,s2⟩:=e1.put mi hi h0 r'
 refine h v _ e2 (s1.trans s2) (.low ?_)
 rw [adJ w]
 exact rv
noncomputable def azx (i:Nat) (m:GM):EF:=λρ => (con ρ i).bind λts=>(m ts []).bind λz => .ok (.v z.2 false,abn i z.1 ρ)
noncomputable def alV:GM:=λts as=>match as with
 | [T]=>if ts.length<=100000 then .ok (ts ++ [T],.non) else .bad
 | _ => .bad
theorem auP:MtT ako alV:=λK G a xs ts vs as H Q ts' T hx r ra q h=>by
 unfold alV at q
 split at q
 ·rename_i U
  split at q
  ·rename_i c
   cases q
   cases ra with
   | cons h1 r1 =>
    cases r1
    exact ⟨a,xs,_,rfl,rfl,hx,Nat.lt_of_le_of_lt (by rw [r.length]; exact c) (by decide),h _ _ (r.app (.cons h1 .nil)) .non⟩
  ·cases q
 ·cases q
theorem arX (ts as:List Tr) (c:Str):alV ts as ≠ .ex c:=by
 unfold alV
 split <;> (try split) <;> (intro z; cases z)
theorem abd.set {K:PySem.W.Frag} {H:Hp} {v:V} {T:Tr} (h:Rep K H v T):∀ {xs:List V} {ts:List Tr} (j:Nat),abd K H xs ts->abd K H (xs.set j v) (ts.set j T)
 | _,_,_,.nil => .nil
 | _,_,0,.cons _ r => .cons h r
 | _,_,j + 1,.cons h1 r => .cons h1 (abd.set h j r)
noncomputable def arY (i:Nat) (fk fe:EF):SF:=λρ => (fe ρ).bind λp=>(cls [p.1]).bind λTs=>(con p.2 i).bind λ_=>(fk p.2).bind λq=>(dr q.2 q.1).bind λkT=>(iOf kT).bind λk=>(con q.2 i).bind λts=>match Ts,ixN ts.length k with
 | [T],some j => .ok (.nx,abn i (ts.set j T) q.2)
 | _,_ => .bad
theorem arZ {te ti:TE} {fk fe:EF} (i:Nat) (he:SE t te fe) (hk:SE t ti fk):SS t (aqH te (ayC (aph i) ti aud)) (arY i fk fe):=λW ρ σ H D e h=>by
 refine he W ρ σ H _ e (Rs.aal (Rs.aaf h) λp h v H1 e1 s1 v1=>?_)
 obtain ⟨Ts,k1,h⟩:=abY (Rs.aaf h) (afY _)
 obtain ⟨us,k2,h⟩:=abY (Rs.aaf h) (ahg _ _)
 obtain ⟨_,a,xs,hi,_,hx,_⟩:=e1.con k2
 refine ⟨_,hi,hk W p.2 σ H1 _ e1 (Rs.aal (Rs.aaf h) λq h w H2 e2 s2 v2=>?_)⟩
 obtain ⟨kT,k3,h⟩:=abY (Rs.aaf h) (acH _ _)
 obtain ⟨k,k4,h⟩:=abY (Rs.aaf h) (an1 _)
 obtain ⟨ts,k5,h⟩:=abY (Rs.aaf h) (ahg _ _)
 obtain ⟨mi,a',ys,hi',wa,hy,ry,h0⟩:=e2.con k5
 rw [hi] at hi'
 cases hi'
 have kk:∃ T j,Ts = [T] /\ ixN ts.length k=some j /\ afZ t W H D (.nx,abn i (ts.set j T) q.2):=by
  cases Ts with
  | nil=>exact h.elim
  | cons T r =>
   cases r with
   | cons _ _=>exact h.elim
   | nil =>
    cases kj:ixN ts.length k with
    | none=>rw [kj] at h; exact h.elim
    | some j=>rw [kj] at h; exact ⟨T,j,rfl,rfl,h⟩
 obtain ⟨T,j,rfl,k6,h⟩:=kk
 ·have rv:Rep t.K (abb W H2) v T:=by
   have r1:=aie (vs := [v]) e.wn (.cons v1.1 .nil) k1
   cases r1 with
   | cons r1 _=>exact r1.mono s2.off
  obtain ⟨e3,s3⟩:=e2.put mi hi h0 (ry.set rv j)
  refine ⟨a,ys,k,j,rfl,aqS (aeZ e2 e1.wn v2.1 k3) k4,hy,by rw [ry.length]; exact k6,h W σ _ e3 ?_⟩
  exact ((s1.trans s2).trans s3).nxt
noncomputable def azy (i:Nat) (p:Int->Int->Int) (f:EF):SF:=λρ => match ρ[i]? with
 | some (.sh (.int x))=>(f ρ).bind λq=>(dr q.2 q.1).bind λyT=>(iOf yT).bind λy => .ok (.nx,q.2.set i (.sh (.int (p x y))))
 | _ => .bad
noncomputable def atz (i j:Nat) (fa:AF):SF:=λρ => (fa ρ).bind λp=>(cls p.1).bind λTs=>match Ts with
 | [T,U] => .ok (.nx,(p.2.set i (.sh T)).set j (.sh U))
 | _ => .bad
theorem aqW {ta:TA} {fa:AF} (i j:Nat) (ha:SA t ta fa):SS t (ayD i j ta) (atz i j fa):=λW ρ σ H D e h=>by
 refine ha W ρ σ H _ e (Rs.aal (Rs.aaf h) λp h vs H1 e1 s1 v1=>?_)
 obtain ⟨Ts,k1,h⟩:=abY (Rs.aaf h) (afY _)
 have r:=aie e.wn v1 k1
 split at h
 ·cases r with
  | cons h1 r1 =>
   cases r1 with
   | cons h2 r2 =>
    cases r2
    exact ⟨_,_,rfl,h W _ H1 ((e1.alS h1).alS h2) s1.nxt⟩
 ·exact h.elim
noncomputable def aif (c:Str) (f:EF):SF:=λρ => (f ρ).bind λ_ => .ex c
noncomputable def F0 (t:Tx) (H':Hp):Prop:=(∀ b o,t.H0 b=some o->¬ t.R b->H' b=some o) /\ TbS t.K H'
theorem agT {E:XK} {C:Addr} {te:TE} {f:EF} {c:Str} (hx:∀ H',F0 t H'->t.EX c->E (.ref C) none H') (he:SE t te f):SS t (aqO E C te) (aif c f):=λW ρ σ H D e h =>
 he W ρ σ H _ e (Rs.aal (Rs.aaf h) λp h v H1 e1 s1 v1=>⟨rfl,hx H1 ⟨e1.f0,e1.tab.ok⟩ h⟩)
end
end L2
end
section
namespace L2
open PySem PySem.Spec PyProof.Rows
mutual
noncomputable def ahV:Tr->Bool
 | .tup ts=>adE ts
 | .lst _=>false
 | _=>true
noncomputable def adE:List Tr->Bool
 | []=>true
 | t :: r=>ahV t && adE r
end
noncomputable def apJ (G G':Hp):Prop:=(∀ b xs,(G b=some (.tup xs)->G' b=some (.tup xs)) /\ ∀ o,G b=some (.frz o (.tup xs))->G' b=some (.frz o (.tup xs))) /\ ∀ b C,G b=some (exO b C)->G' b=some (exO b C)
mutual
theorem Rep.flat {K:PySem.W.Frag} {G G':Hp} (m:apJ G G'):∀ {v:V} {T:Tr},Rep K G v T->ahV T=true->Rep K G' v T
 | _,_,.non,_ => .non
 | _,_,.bl b,_ => .bl b
 | _,_,.int i,_ => .int i
 | _,_,.str x,_ => .str x
 | _,_,.tup h r,n=>by
  refine .tup ?_ (abd.flat m r (by unfold ahV at n; exact n))
  rcases h with (h | ⟨o,h⟩) | h
  ·exact .inl (.inl ((m.1 _ _).1 h))
  ·exact .inl (.inr ⟨o,(m.1 _ _).2 o h⟩)
  ·exact .inr h
 | _,_,.lst h r,n=>by unfold ahV at n; cases n
 | _,_,.exn h k n,_ => .exn (m.2 _ _ h) k n
theorem abd.flat {K:PySem.W.Frag} {G G':Hp} (m:apJ G G'):∀ {v:List V} {T:List Tr},abd K G v T->adE T=true->abd K G' v T
 | _,_,.nil,_ => .nil
 | _,_,.cons h r,n=>by
  unfold adE at n
  rw [Bool.and_eq_true] at n
  exact .cons (Rep.flat m h n.1) (abd.flat m r n.2)
end
theorem ahh {W W':Addr->Prop} {H:Hp} (wl:∀ b,W' b->Lt H b):apJ (abb W H) (abb W' H):=by
 have key:∀ b o,abb W H b=some o->(∀ ys,o ≠ .lst ys)->(∀ ys,o ≠ .tbl ys)->abb W' H b=some o:=λb o h n n'=>by
  obtain ⟨_,h⟩:=abC h
  rw [aa1]
  ·exact h
  ·intro w
   rcases wl b w with ⟨ys,e⟩ | ⟨ys,e⟩ <;> (rw [h] at e; cases e)
   ·exact n ys rfl
   ·exact n' ys rfl
 exact ⟨λb xs=>⟨λh=>key _ _ h (λys z=>by cases z) (λys z=>by cases z),λo h=>key _ _ h (λys z=>by cases z) (λys z=>by cases z)⟩,λb C h=>key _ _ h (λys z=>by cases z) (λys z=>by cases z)⟩
theorem amw {a:Addr} {W:Addr->Prop} {H:Hp} {xs:List V} (wl:∀ b,W b->Lt H b) (ha:H a=some (.lst xs)) (G:Hp) (hG:∀ b o,G b=some o->H b=some o):apJ G (off a (abb W H)):=by
 have key:∀ b o,G b=some o->(∀ ys,o ≠ .lst ys)->(∀ ys,o ≠ .tbl ys)->off a (abb W H) b=some o:=λb o h n n'=>by
  have h:=hG b o h
  rw [off_ne,aa1]
  ·exact h
  ·intro w
   rcases wl b w with ⟨ys,e⟩ | ⟨ys,e⟩ <;> (rw [h] at e; cases e)
   ·exact n ys rfl
   ·exact n' ys rfl
  ·rintro rfl
   rw [h] at ha
   cases ha
   exact n _ rfl
 exact ⟨λb xs=>⟨λh=>key _ _ h (λys z=>by cases z) (λys z=>by cases z),λo h=>key _ _ h (λys z=>by cases z) (λys z=>by cases z)⟩,λb C h=>key _ _ h (λys z=>by cases z) (λys z=>by cases z)⟩
noncomputable def VRt (K:PySem.W.Frag) (Z:Addr->Prop) (H H':Hp) (v:V) (T:Tr):Bool->Prop
 | false=>Rep K (abb Z H') v T
 | true=>∃ a xs ts,v = .ref a /\ T = .lst ts /\ H a=none /\ H' a=some (.lst xs) /\ abd K (off a (abb Z H')) xs ts
noncomputable def SmT (K:PySem.W.Frag) (H H':Hp):Prop:=(∀ b o,H b=some o->¬ Tb K b->H' b=some o) /\ TbS K H'
theorem SmT.dom {K:PySem.W.Frag} {H H':Hp} (s:SmT K H H'):∀ b,H' b=none->H b=none:=λb h=>by
 cases q:H b with
 | none=>rfl
 | some o =>
  by_cases z:Tb K b
  ·obtain ⟨ps,e⟩:=s.2.tbl z
   rw [h] at e
   cases e
  ·rw [s.1 b o q z] at h
   cases h
noncomputable def apK (G G':Hp):Prop:=∀ b o,(∀ ps,o ≠ .tbl ps)->G b=some o->G' b=some o
theorem Rd.agz {G G':Hp} (m:apK G G') {a:Addr} {u:HO} (n:∀ ps,u ≠ .tbl ps) (h:Rd G a u):Rd G' a u:=by
 rcases h with h | ⟨o,h⟩
 ·exact .inl (m _ _ n h)
 ·exact .inr ⟨o,m _ _ (λ_ z=>by cases z) h⟩
mutual
theorem Rep.agz {K:PySem.W.Frag} {G G':Hp} (m:apK G G'):∀ {v:V} {T:Tr},Rep K G v T->Rep K G' v T
 | _,_,.non => .non
 | _,_,.bl b => .bl b
 | _,_,.int i => .int i
 | _,_,.str x => .str x
 | _,_,.tup h r=>by
  refine .tup ?_ (abd.agz m r)
  rcases h with h | h
  ·exact .inl (Rd.agz m (λ_ z=>by cases z) h)
  ·exact .inr h
 | _,_,.lst h r=>by
  refine .lst ?_ (abd.agz m r)
  rcases h with h | h
  ·exact .inl (Rd.agz m (λ_ z=>by cases z) h)
  ·exact .inr h
 | _,_,.exn h k n => .exn (m _ _ (λ_ z=>by cases z) h) k n
theorem abd.agz {K:PySem.W.Frag} {G G':Hp} (m:apK G G'):∀ {v:List V} {T:List Tr},abd K G v T->abd K G' v T
 | _,_,.nil => .nil
 | _,_,.cons h r => .cons (Rep.agz m h) (abd.agz m r)
end
theorem agU {K:PySem.W.Frag} {Z:Addr->Prop} {H:Hp} (tb:TbS K H):apK (abb Z H) (abb (λb=>Z b \/ Tb K b) H):=λb o n h=>by
 obtain ⟨nz,h⟩:=abC h
 rw [aa1]
 ·exact h
 ·rintro (z | z)
  ·exact nz z
  ·obtain ⟨ps,e⟩:=tb.tbl z
   rw [h] at e
   cases e
   exact n _ rfl
theorem EOk.an2 {t:Tx} {W:Addr->Prop} {ρ : En} {σ : St} {H H':Hp} (e:EOk t W ρ σ H) (s:SmT t.K H H'):EOk t W ρ σ H' /\ Stp W H H':=by
 have st:Stp W H H':=⟨λb o n q=>s.1 b o q λz=>n (e.tab.w b z),s.dom⟩
 refine ⟨?_,st⟩
 have m:=st.off
 obtain ⟨F,e⟩:=e
 have ls:∀ {a:Addr} {xs:List V},H a=some (.lst xs)->H' a=some (.lst xs):=λq=>s.1 _ _ q λz=>e.tab.ok.ne z q rfl
 refine ⟨F,e.len,e.zw,e.z0,λb w=>?_,λb o h n=>s.1 b o (e.f0 b o h n) λz=>n (e.tab.r b z),λb h=>e.n0 b (s.dom b h),λi u h=>?_,λi ts h=>?_,λi ts h=>?_,e.dis,λb o h=>s.1 b o (e.pn b o h) λz=>(by rw [e.tab.B b z] at h; cases h),e.pd,λi ts h=>?_,e.dd,e.dm,e.db,⟨s.2,e.tab.w,e.tab.r,e.tab.B⟩⟩
 ·rcases e.wl b w with ⟨xs,q⟩ | ⟨ps,q⟩
  ·exact .inl ⟨xs,ls q⟩
  ·by_cases z:Tb t.K b
   ·exact .inr (s.2.tbl z)
   ·exact .inr ⟨ps,s.1 b _ q z⟩
 ·obtain ⟨v,h1,h2⟩:=e.sh i u h
  exact ⟨v,h1,h2.mono m⟩
 ·obtain ⟨a,xs,h1,h2,h3,h4,h5⟩:=e.ow i ts h
  exact ⟨a,xs,h1,h2,h3,ls h4,h5.mono m⟩
 ·obtain ⟨a,xs,h1,h2,h3,h4,h5⟩:=e.rf i ts h
  exact ⟨a,xs,h1,h2,h3,ls h4,h5.mono m⟩
 ·obtain ⟨a,xs,h1,d⟩:=e.dp i ts h
  exact ⟨a,xs,h1,d.move rfl rfl m (λb hb=>by obtain ⟨_,_,_,ww,_⟩:=d; exact (ww b hb).1) λb o hb q=>s.1 b o q λz=>d.nt e.tab.ok z hb⟩
theorem EOk.auQ {t:Tx} {W:Addr->Prop} {ρ : En} {σ : St} {H H':Hp} {a:Addr} {xs:List V} (e:EOk t W ρ σ H) (s:SmT t.K H H') (n:H a=none) (q:H' a=some (.lst xs)):EOh t W a ρ σ H':=by
 have na:∀ b,W b->b ≠ a:=λb w z=>by subst z; exact e.wn b w n
 obtain ⟨e',st⟩:=e.an2 s
 have m:Same (abb W H') (abb (λb=>W b \/ b=a) H')->True:=λ_=>trivial
 have mm:∀ {v:V} {T:Tr},Rep t.K (abb W H) v T->Rep t.K (abb (λb=>W b \/ b=a) H') v T:=λr=>r.mono λb o h=>by
  obtain ⟨w,h⟩:=abC h
  rw [aa1]
  ·exact st.keep b o w h
  ·rintro (z | rfl)
   ·exact w z
   ·rw [n] at h; cases h
 have mms:Same (abb W H) (abb (λb=>W b \/ b=a) H'):=λb o h=>by
  obtain ⟨w,h⟩:=abC h
  rw [aa1]
  ·exact st.keep b o w h
  ·rintro (z | rfl)
   ·exact w z
   ·rw [n] at h; cases h
 obtain ⟨F,e⟩:=e
 have ls:∀ {a:Addr} {xs:List V},H a=some (.lst xs)->H' a=some (.lst xs):=λq=>s.1 _ _ q λz=>e.tab.ok.ne z q rfl
 refine ⟨F,⟨e.len,λb z => .inl (e.zw b z),e.z0,λb w=>?_,e'.f0,e'.n0,λi u h=>?_,λi ts h=>?_,λi ts h=>?_,e.dis,e'.pn,e.pd,λi ts h=>?_,e.dd,e.dm,e.db,e'.tab.wid λb w => .inl w⟩,λi ts h z=>?_⟩
 ·rcases w with w | rfl
  ·exact e'.wl b w
  ·exact .inl ⟨xs,q⟩
 ·obtain ⟨v,h1,h2⟩:=e.sh i u h
  exact ⟨v,h1,mm h2⟩
 ·obtain ⟨c,ys,h1,h2,h3,h4,h5⟩:=e.ow i ts h
  exact ⟨c,ys,h1,.inl h2,h3,ls h4,h5.mono mms⟩
 ·obtain ⟨c,ys,h1,h2,h3,h4,h5⟩:=e.rf i ts h
  exact ⟨c,ys,h1,.inl h2,h3,ls h4,h5.mono mms⟩
 ·obtain ⟨c,ys,h1,d⟩:=e.dp i ts h
  exact ⟨c,ys,h1,d.move rfl rfl mms (λb hb=>by obtain ⟨_,_,_,ww,_⟩:=d; exact .inl (ww b hb).1) λb o hb q=>s.1 b o q λz=>d.nt e.tab.ok z hb⟩
 ·obtain ⟨c,ys,h1,bs,_,_,ww,_⟩:=e.dp i ts h
  exact na a (ww a z).1 rfl
noncomputable abbrev FP:=List Tr->Rs (Tr × Bool)
noncomputable def spP (K:PySem.W.Frag) (cl:Str->Addr) (n:Nat) (F:FP):Sp:=λvs H Q E=>∃ Z ts,vs.length=n /\ abd (nlK K) (abb Z H) vs ts /\ (∀ b,Z b->Lt H b) /\ TbS (nlK K) H /\
 (F ts).post (λc=>∀ H',SmT (nlK K) H H'->E (.ref (cl c)) none H') (λp=>∀ v H',SmT (nlK K) H H'->VRt (nlK K) Z H H' v p.1 p.2->Q v H')
noncomputable def aaz (nl:Nat) (ts:List Tr):En:=ts.map Sl.sh ++ List.replicate (nl - ts.length) Sl.un
noncomputable def fnP (nl:Nat) (b:SF):FP:=λts=>(b (aaz nl ts)).bind λq=>match q.1 with
 | .rt T fr => .ok (T,fr)
 | .nx => .ok (.non,false)
 | _ => .bad
theorem abM {nl:Nat} {ts:List Tr} {i:Nat} {s:Sl} (h:(aaz nl ts)[i]? = some s):(∃ u,ts[i]? = some u /\ s = .sh u) \/ s = .un:=by
 unfold aaz at h
 by_cases l:i<ts.length
 ·rw [List.getElem?_append_left (by simpa using l),List.getElem?_map] at h
  rw [List.getElem?_eq_getElem l] at h ⊢
  cases h
  exact .inl ⟨_,rfl,rfl⟩
 ·rw [List.getElem?_append_right (by simpa using Nat.le_of_not_lt l)] at h
  rw [List.getElem?_replicate] at h
  split at h
  ·cases h; exact .inr rfl
  ·cases h
theorem afy {N:List Str} {vs:List V} {i:Nat} {v:V} (h:vs[i]? = some v):(start N vs)[i]? = some (some v):=by
 unfold start
 have l:i<vs.length:=(List.getElem?_eq_some_iff.mp h).1
 rw [List.getElem?_append_left (by simpa using l),List.getElem?_map,h]
 rfl
section
variable {P:Program} {w:World} {K:PySem.W.Frag} {mg:Str->Option Value} {base:Heap}
theorem At.dfP {k:Nat} {x:Str} {st:Stmt} {N ps:List Str} {cl:Str->Addr} {b:SF} (a:At K mg x st) (S:aaE N ps (aan st)) (hn:ps.length<=N.length)
  (hb:∀ (kV doc pm:Value) (an:Option Addr) (cdv ct:Value) (us:List Value),us.length=ps.length->bindArgs (PySem.W.fnOf x x (adl st) (acf st) (aan st) .none kV doc pm an cdv ct) ⟨us,[]⟩=pure (ps.zip us))
  (hbody:∀ (f:Addr) (cdv:Value) (A:Around) (outer:List Env) (s:Shared) (H:Hp) (E:XK),afT k (A.deeper (envOfC x (aan st) s.heap.objs.size f cdv)) ->
   ∃ ts,PSs (alG (CXF P w) P w K mg base N x (aan st) f cdv A outer s H E) (acf st) ts /\ ∀ t:Tx,t.K=nlK K->(∀ c H',F0 t H'->t.EX c->E (.ref (cl c)) none H')->SS t ts b) :
  DfX P w K mg base (k + 1) x ps (spP K cl ps.length (fnP N.length b)):=by
 refine a.dfx S hb (λvs H Q E h=>?_) (λf cdv A outer s H vs Q E hr h=>?_)
 ·obtain ⟨_,_,h,_⟩:=h; exact h
 obtain ⟨Z,as,hl,r,zl,tb,h⟩:=h
 obtain ⟨ts,h1,h2⟩:=hbody f cdv A outer s H E hr
 refine ⟨ts,h1,?_⟩
 have sm:∀ (b:Addr) (W:Addr->Prop) ρ σ H',EOk ⟨nlK K,Z,Tb (nlK K),H,λ_=>none,λc=>∀ H',SmT (nlK K) H H'->E (.ref (cl c)) none H'⟩ W ρ σ H'->SmT (nlK K) H H':=λ_ W ρ σ H' e=>⟨λb o q n=>e.f0 b o q n,e.tab.ok⟩
 have r:=r.agz (agU tb)
 refine h2 ⟨nlK K,Z,Tb (nlK K),H,λ_=>none,λc=>∀ H',SmT (nlK K) H H'->E (.ref (cl c)) none H'⟩ rfl (λc H' f0 q=>q H' ⟨λb o z n=>f0.1 b o z n,f0.2⟩) (λb=>Z b \/ Tb (nlK K) b) (aaz N.length as) (start N vs) H _ ?_ (Rs.aal (Rs.aaf h) λq h=>?_)
 ·have la:=r.length
  have alW:∀ (i:Nat) (us:List Tr),(aaz N.length as)[i]? = some (.dp us)->False:=λi us q=>by
   rcases abM q with ⟨u',q1,z⟩ | z <;> cases z
  refine ⟨λ_ => [],?_,λ_ z => .inl z,λb z=>?_,λb z=>z.elim (zl b) (λz => .inr (tb.tbl z)),λb o q _=>q,λb q=>q,λi u q=>?_,λi us q=>?_,λi us q=>?_,λi j c m1 m2=>?_,λb o z=>(by cases z),λ_ _ _ _=>rfl,λi us q=>(alW i us q).elim,λi _ us _ _ q=>(alW i us q).elim,λi _ us _ q=>(alW i us q).elim,λi us q=>(alW i us q).elim,⟨tb,λ_ z => .inr z,λ_ z=>z,λ_ _=>rfl⟩⟩
  ·unfold aaz start
   simp only [List.length_append,List.length_map,List.length_replicate]
   omega
  ·exact (zl b z).ne
  ·rcases abM q with ⟨u',q1,z⟩ | z
   ·cases z
    obtain ⟨v,e1,e2⟩:=r.apB q1
    exact ⟨v,afy e1,e2⟩
   ·cases z
  ·rcases abM q with ⟨u',q1,z⟩ | z <;> cases z
  ·rcases abM q with ⟨u',q1,z⟩ | z <;> cases z
  ·obtain ⟨us,q | q⟩:=m1 <;> rcases abM q with ⟨u',q1,z⟩ | z <;> cases z
 ·obtain ⟨fl,ρ'⟩:=q
  cases fl with
  | nx=>exact λW' σ' H' e n=>h .non H' (sm 0 W' ρ' σ' H' e) .non
  | rt T fr =>
   refine λv W' σ' H' e n=>h v H' (sm 0 W' ρ' σ' H' e) ?_
   cases fr <;> exact n
  | bk=>exact h.elim
  | ct=>exact h.elim
end
section
variable {X:Cx} {k:Nat} {x:Str} {ps:List Str} {sp:Sp} {p pos:Pos} {e:Expr} {es:List Expr} {ta:TA} {E:XK}
theorem apL (D:DfX X.prog X.w X.K X.mg X.base k x ps sp) (hr:afT k X.A) (hx:Passes (CXF X.prog X.w) X E) (ha:PA X (e :: es) ta) (hg:Gl X x:=by rfl) (hdb:(x == ("__debug__" : Str))=false:=by decide)
  (he:starEach (e :: es) X.env=(false,eval e X.env) :: starEach es X.env:=by rfl) (hpl:(backTo pos (starEach es X.env)).any (·.1)=false:=by rfl):PE X (.Call (.Name x p) (e :: es) [] pos) (ajj sp [] E ta):=by
 obtain ⟨f,fd,h1,h2,h3,h4⟩:=D
 exact arz h1 hr hg h4 h3 h2 .nil hx ha hdb he hpl
end
section
variable {t:Tx} {K:PySem.W.Frag}
noncomputable def isS:Rv->Bool
 | .s _=>true
 | _=>false
noncomputable def adt (z:Tr × Bool):Bool:=ahV z.1 || (z.2 && (match z.1 with
 | .lst us=>adE us
 | _=>false))
theorem VRt.voe {W W0:Addr->Prop} {ρ : En} {σ : St} {H H':Hp} {v:V} {z:Tr × Bool} {Z:Addr->Prop} (wn:∀ b,W b->H b ≠ none) (wl:∀ b,W b->Lt H' b) (zs:(∀ b,W b->Z b) \/ adt z=true) (h:VRt t.K Z H H' v z.1 z.2)
  (ex:∀ a xs,H a=none->H' a=some (.lst xs)->EOh t W a ρ σ H'):VOE t W ρ σ H H' v (.v z.1 z.2):=by
 obtain ⟨T,fr⟩:=z
 cases fr with
 | false =>
  refine .low ?_
  rcases zs with zs | zs
  ·exact Rep.mono (acG (λb _ _ z=>zs b z) λ_ _ _ h=>h) h
  ·unfold adt at zs
   simp only [Bool.false_and,Bool.or_false] at zs
   exact Rep.flat (ahh wl) h zs
 | true =>
  obtain ⟨a,xs,ts,rfl,e1,n,q,r⟩:=h
  have e1:T = .lst ts:=e1
  subst e1
  refine ⟨⟨a,xs,ts,rfl,rfl,n,q,?_⟩,λU b z eb=>?_⟩
  ·rcases zs with zs | zs
   ·refine r.mono λb o q=>?_
    obtain ⟨ne,q⟩:=aeR q
    rw [off_ne ne]
    exact acG (λb _ _ z=>zs b z) (λ_ _ _ h=>h) b o q
   ·unfold adt at zs
    have zs:adE ts=true:=by
     rw [Bool.or_eq_true] at zs
     rcases zs with zs | zs
     ·unfold ahV at zs; cases zs
     ·exact zs
    exact r.flat (amw wl q _ λb o h=>abo _ _ b o (aiE _ _ b o h)) zs
  ·cases eb
   exact ex a xs n q
theorem ahO.length {W:Addr->Prop} {σ : St} {H H':Hp}:∀ {vs:List V} {rs:List Rv},ahO K W σ H H' vs rs->vs.length=rs.length
 | _,_,.nil=>rfl
 | _,_,.cons _ r=>by rw [List.length_cons,List.length_cons,ahO.length r]
theorem post_eq {α : Type} {r:Rs α} {a : α} {EX:Str->Prop} {P : α -> Prop} (h:r = .ok a) (q:P a):r.post EX P:=by
 rw [h]
 exact q
noncomputable def aax (F:FP) (fa:AF):EF:=λρ => (fa ρ).bind λp=>(drs p.2 p.1).bind λas=>(F as).bind λz=>if p.1.any isS=true /\ adt z=false then .bad else .ok (.v z.1 z.2,p.2)
theorem aiH {W:Addr->Prop} {σ : St} {ρ : En} {H H':Hp} (wn:∀ b,W b->H b ≠ none):∀ {vs:List V} {rs:List Rv} {as:List Tr},ahO t.K W σ H H' vs rs->drs ρ rs = .ok as->rs.any isS=false->abd t.K (abb W H') vs as
 | _,_,_,.nil,q,_=>by cases q; exact .nil
 | _,.v T fr :: _,_,.cons h r,q,n=>by
  unfold drs at q
  obtain ⟨a,q1,q⟩:=aa0 q
  obtain ⟨as,q2,q⟩:=aa0 q
  cases q
  cases q1
  exact .cons (h.rep wn) (aiH wn r q2 (by simpa [List.any_cons,isS] using n))
 | _,.s i :: _,_,.cons h r,q,n=>by simp [isS] at n
theorem Rps.reps {W:Addr->Prop} {H:Hp}:∀ {vs:List V} {as:List Tr},Rps K W H vs as->abd K (abb (λ_=>False) H) vs as
 | _,_,.nil => .nil
 | _,_,.cons h r => .cons (h.rep.mono λb o q=>by rw [aa1 id]; exact q) (Rps.reps r)
theorem alX (hK:t.K=nlK K) {cl:Str->Addr} {n:Nat} {F:FP} {E:XK} {ta:TA} {fa:AF} (hx:∀ c H',F0 t H'->t.EX c->E (.ref (cl c)) none H') (hn:∀ ρ p,fa ρ = .ok p->p.1.length=n) (ha:SA t ta fa):SE t (ajj (spP K cl n F) [] E ta) (aax F fa):=λW ρ σ H Q e h=>by
 have h:=Rs.aaf h
 cases ek:fa ρ with
 | bad=>rw [ek] at h; exact h.elim
 | ex c=>exact ha W ρ σ H _ e (by rw [ek] at h ⊢; exact h)
 | ok p =>
 have hl:=hn ρ p ek
 rw [ek] at h
 refine ha W ρ σ H _ e (post_eq ek ?_)
 intro vs H1 e1 s1 v1
 have h:((drs p.2 p.1).bind _).post _ _:=h
 obtain ⟨as,k1,h⟩:=abY (Rs.aaf h) (afX _ _)
 have r:=ajx e1 e.wn v1 k1
 have lv:vs.length=n:=v1.length.trans hl
 have fin:∀ Z:Addr->Prop,(∀ b,Z b->W b)->(∀ z,F as = .ok z->¬ (p.1.any isS=true /\ adt z=false)->(∀ b,W b->Z b) \/ adt z=true)->abd (nlK K) (abb Z H1) vs as->spP K cl n F (vs ++ []) H1 Q E:=λZ zw zs rr=>by
  rw [List.append_nil]
  refine ⟨Z,as,lv,rr,λb z=>e1.wl b (zw b z),by rw [<-hK]; exact e1.tab.ok,?_⟩
  have h:=Rs.aaf h
  cases ef:F as with
  | bad=>rw [ef] at h; exact h.elim
  | ex c =>
   rw [ef] at h
   exact λH' sm=>hx c H' ⟨λb o q nr=>sm.1 b o (e1.f0 b o q nr) λz=>nr (e1.tab.r b (by rw [hK]; exact z)),by rw [hK]; exact sm.2⟩ h
  | ok z =>
   rw [ef] at h
   have h:(if p.1.any isS=true /\ adt z=false then Rs.bad else .ok (.v z.1 z.2,p.2):Rs (Rv × En)).post _ _:=h
   split at h
   ·exact h.elim
   ·rename_i c
    intro v H' sm vr
    rw [<-hK] at vr sm
    obtain ⟨eg,sg⟩:=e1.an2 sm
    refine h v H' eg (s1.trans sg) (VOE.back (H:=H1) ?_ s1.dom)
    exact VRt.voe (W0:=W) e1.wn eg.wl (zs z ef c) vr λa xs na qa=>e1.auQ sm na qa
 by_cases an:p.1.any isS=true
 ·refine fin (λ_=>False) (λ_ z=>z.elim) (λz ez c => .inr ?_) ?_
  ·cases fz:adt z with
   | true=>rfl
   | false=>exact (c ⟨an,fz⟩).elim
  ·rw [<-hK]
   exact r.reps
 ·refine fin W (λ_ z=>z) (λz ez c => .inl λ_ z=>z) ?_
  rw [<-hK]
  exact aiH e.wn v1 k1 (by simpa using an)
end
end L2
end
section
namespace L2
open PySem PySem.Spec PyProof.Rows
noncomputable abbrev FR:=List Tr->Rs ((Tr × Bool) × List Tr)
noncomputable def spR (K:PySem.W.Frag) (n r:Nat) (F:FR):Sp:=λvs H Q E=>∃ (Z:Addr->Prop) (ts:List Tr) (a:Addr) (xs:List V) (us:List Tr),vs.length=n /\ ts.length=n /\ vs[r]? = some (.ref a) /\ ts[r]? = some (.lst us) /\ Z a /\ H a=some (.lst xs) /\ abd (nlK K) (abb Z H) xs us /\
 (∀ j v u,j ≠ r->vs[j]? = some v->ts[j]? = some u->Rep (nlK K) (abb Z H) v u) /\ (∀ b,Z b->Lt H b) /\ TbS (nlK K) H /\
 (F ts).post (λ_=>False) (λp=>∀ v H' ys,(∀ b o,H b=some o->b ≠ a->¬ Tb (nlK K) b->H' b=some o)->TbS (nlK K) H'->(∀ b,H' b=none->H b=none)->H' a=some (.lst ys)->abd (nlK K) (abb Z H') ys p.2->adE p.2=true->VRt (nlK K) Z H H' v p.1.1 p.1.2->Q v H')
noncomputable def abS {α : Type}:Rs α -> Rs α
 | .bad => .bad
 | .ex _ => .bad
 | .ok a => .ok a
theorem afz {α : Type} {r:Rs α} {EX:Str->Prop} {P : α -> Prop} (h:(abS r).post EX P):r.post (λ_=>False) P:=by
 cases r <;> exact h
theorem alY {α : Type} (r:Rs α) (c:Str):abS r ≠ .ex c:=by
 cases r <;> (intro z; cases z)
theorem alZ {α β : Type} {r:Rs α} {f : α -> Rs β} (h1:∀ c,r ≠ .ex c) (h2:∀ a c,f a ≠ .ex c) (c:Str):r.bind f ≠ .ex c:=by
 cases r with
 | bad=>intro z; cases z
 | ex d=>exact (h1 d rfl).elim
 | ok a=>exact h2 a c
noncomputable def fnR (nl r:Nat) (b:SF):FR:=λts=>match ts[r]? with
 | some (.lst us)=>(abS (b ((aaz nl ts).set r (.rf us)))).bind λq=>(match q.2[r]? with
  | some (.rf ws)=>if adE ws=true then (match q.1 with
   | .rt T fr => .ok ((T,fr),ws)
   | .nx => .ok ((.non,false),ws)
   | _ => .bad) else .bad
  | _ => .bad)
 | _ => .bad
theorem ar0 (nl r:Nat) (b:SF) (as:List Tr) (c:Str):fnR nl r b as ≠ .ex c:=by
 unfold fnR
 split
 ·refine alZ (alY _) (λq c=>?_) c
  split
  ·split
   ·split <;> (intro z; cases z)
   ·intro z; cases z
  ·intro z; cases z
 ·intro z; cases z
section
variable {P:Program} {w:World} {K:PySem.W.Frag} {mg:Str->Option Value} {base:Heap}
theorem At.dfR {k:Nat} {x:Str} {st:Stmt} {N ps:List Str} {cl:Str->Addr} {b:SF} (r:Nat) (a:At K mg x st) (S:aaE N ps (aan st)) (hn:ps.length<=N.length)
  (hb:∀ (kV doc pm:Value) (an:Option Addr) (cdv ct:Value) (us:List Value),us.length=ps.length->bindArgs (PySem.W.fnOf x x (adl st) (acf st) (aan st) .none kV doc pm an cdv ct) ⟨us,[]⟩=pure (ps.zip us))
  (hbody:∀ (f:Addr) (cdv:Value) (A:Around) (outer:List Env) (s:Shared) (H:Hp) (E:XK),afT k (A.deeper (envOfC x (aan st) s.heap.objs.size f cdv)) ->
   ∃ ts,PSs (alG (CXF P w) P w K mg base N x (aan st) f cdv A outer s H E) (acf st) ts /\ ∀ t:Tx,t.K=nlK K->(∀ c H',F0 t H'->t.EX c->E (.ref (cl c)) none H')->SS t ts b) :
  DfX P w K mg base (k + 1) x ps (spR K ps.length r (fnR N.length r b)):=by
 refine a.dfx S hb (λvs H Q E h=>?_) (λf cdv A outer s H vs Q E hr h=>?_)
 ·obtain ⟨_,_,_,_,_,h,_⟩:=h; exact h
 obtain ⟨Z,as,ad,xs,us,hl,hl2,hv,ht,hz,hx,rx,ra,zl,tb,h⟩:=h
 have rx:=rx.agz (agU tb)
 have ra:∀ j v u,j ≠ r->vs[j]? = some v->as[j]? = some u->Rep (nlK K) (abb (λb=>Z b \/ Tb (nlK K) b) H) v u:=λj v u n q1 q2=>(ra j v u n q1 q2).agz (agU tb)
 obtain ⟨ts,h1,h2⟩:=hbody f cdv A outer s H E hr
 refine ⟨ts,h1,?_⟩
 unfold fnR at h
 rw [ht] at h
 have h:((abS (b ((aaz N.length as).set r (.rf us)))).bind _).post _ _:=h
 refine h2 ⟨nlK K,Z,λb=>b=ad \/ Tb (nlK K) b,H,λ_=>none,λ_=>False⟩ rfl (λc H' f0 q=>q.elim) (λb=>Z b \/ Tb (nlK K) b) ((aaz N.length as).set r (.rf us)) (start N vs) H _ ?_ (Rs.aal (afz (Rs.aaf h)) λq h=>?_)
 ·have lr:r<as.length:=(List.getElem?_eq_some_iff.mp ht).1
  have mu:∀ j,Mu ((aaz N.length as).set r (.rf us)) j->j=r:=λj m=>by
   obtain ⟨ws,q | q⟩:=m <;> rcases get_set q with ⟨rfl,_,_⟩ | ⟨ne,q⟩
   ·rfl
   ·rcases abM q with ⟨u',q1,z⟩ | z <;> cases z
   ·rfl
   ·rcases abM q with ⟨u',q1,z⟩ | z <;> cases z
  have alW:∀ (i:Nat) (ws:List Tr),((aaz N.length as).set r (.rf us))[i]? = some (.dp ws)->False:=λi ws q=>by
   rcases get_set q with ⟨rfl,z,_⟩ | ⟨ne,q⟩
   ·cases z
   ·rcases abM q with ⟨u',q1,z⟩ | z <;> cases z
  refine ⟨λ_ => [],?_,λ_ z => .inl z,λb z=>?_,λb z=>z.elim (zl b) (λz => .inr (tb.tbl z)),λb o q _=>q,λb q=>q,λi u q=>?_,λi ws q=>?_,λi ws q=>?_,λi j c m1 m2 _ _=>(mu i m1).trans (mu j m2).symm,λb o z=>(by cases z),λ_ _ _ _=>rfl,λi us q=>(alW i us q).elim,λi _ us _ _ q=>(alW i us q).elim,λi _ us _ q=>(alW i us q).elim,λi us q=>(alW i us q).elim,⟨tb,λ_ z => .inr z,λ_ z => .inr z,λ_ _=>rfl⟩⟩
  ·unfold aaz start
   simp only [List.length_append,List.length_map,List.length_replicate,List.length_set]
   omega
  ·exact (zl b z).ne
  ·rcases get_set q with ⟨rfl,z,_⟩ | ⟨ne,q⟩
   ·cases z
   ·rcases abM q with ⟨u',q1,z⟩ | z
    ·cases z
     have lj:i<vs.length:=by
      rw [hl,<-hl2]
      exact (List.getElem?_eq_some_iff.mp q1).1
     exact ⟨vs[i],afy (List.getElem?_eq_getElem lj),ra i _ _ ne (List.getElem?_eq_getElem lj) q1⟩
    ·cases z
  ·rcases get_set q with ⟨rfl,z,_⟩ | ⟨ne,q⟩
   ·cases z
   ·rcases abM q with ⟨u',q1,z⟩ | z <;> cases z
  ·rcases get_set q with ⟨rfl,z,_⟩ | ⟨ne,q⟩
   ·cases z
    exact ⟨ad,xs,afy hv,.inl hz,.inl rfl,hx,rx⟩
   ·rcases abM q with ⟨u',q1,z⟩ | z <;> cases z
 ·obtain ⟨fl,ρ'⟩:=q
  dsimp only at h
  split at h
  ·rename_i ws q
   split at h
   ·rename_i fl'
    have key:∀ W' σ' H',EOk ⟨nlK K,Z,λb=>b=ad \/ Tb (nlK K) b,H,λ_=>none,λ_=>False⟩ W' ρ' σ' H'->(∀ b o,H b=some o->b ≠ ad->¬ Tb (nlK K) b->H' b=some o) /\ TbS (nlK K) H' /\ (∀ b,H' b=none->H b=none) /\ ∃ ys,H' ad=some (.lst ys) /\ abd (nlK K) (abb Z H') ys ws:=λW' σ' H' e=>by
     obtain ⟨c,ys,q1,q2,q3,q4,q5⟩:=e.rf r ws q
     have q3:c=ad:=q3.elim id λz=>(e.tab.ok.ne z q4 rfl).elim
     subst q3
     exact ⟨λb o z n n'=>e.f0 b o z λy=>y.elim n n',e.tab.ok,e.n0,ys,q4,q5.mono (alT e)⟩
    cases fl with
    | nx =>
     intro W' σ' H' e n
     obtain ⟨k1,k1b,k2,ys,k3,k4⟩:=key W' σ' H' e
     exact h .non H' ys k1 k1b k2 k3 k4 fl' .non
    | rt T fr =>
     intro v W' σ' H' e n
     obtain ⟨k1,k1b,k2,ys,k3,k4⟩:=key W' σ' H' e
     refine h v H' ys k1 k1b k2 k3 k4 fl' ?_
     cases fr <;> exact n
    | bk=>exact h.elim
    | ct=>exact h.elim
   ·exact h.elim
  ·exact h.elim
end
section
variable {t:Tx} {K:PySem.W.Frag}
theorem ahO.get {W:Addr->Prop} {σ : St} {H H':Hp}:∀ {vs:List V} {rs:List Rv} {j:Nat} {v:V} {r:Rv},ahO K W σ H H' vs rs->vs[j]? = some v->rs[j]? = some r->VOk K W σ H H' v r
 | _,_,_,_,_,.nil,e,_=>by simp at e
 | _,_,0,_,_,.cons h _,e,q=>by simp at e q; subst e q; exact h
 | _,_,j + 1,_,_,.cons _ t,e,q=>ahO.get (j:=j) t (by simpa using e) (by simpa using q)
theorem akv {ρ : En}:∀ {rs:List Rv} {as:List Tr} {j:Nat} {u:Tr},drs ρ rs = .ok as->as[j]? = some u->∃ r,rs[j]? = some r /\ dr ρ r = .ok u
 | [],_,_,_,h,e=>by cases h; simp at e
 | r :: rs,as,j,u,h,e=>by
  unfold drs at h
  obtain ⟨a,q1,h⟩:=aa0 h
  obtain ⟨bs,q2,h⟩:=aa0 h
  cases h
  cases j with
  | zero=>simp at e; subst e; exact ⟨r,rfl,q1⟩
  | succ j =>
   obtain ⟨r',k1,k2⟩:=akv (j:=j) q2 (by simpa using e)
   exact ⟨r',by simpa using k1,k2⟩
theorem an3 {ρ : En}:∀ {rs:List Rv} {as:List Tr},drs ρ rs = .ok as->as.length=rs.length
 | [],_,h=>by cases h; rfl
 | r :: rs,as,h=>by
  unfold drs at h
  obtain ⟨a,q1,h⟩:=aa0 h
  obtain ⟨bs,q2,h⟩:=aa0 h
  cases h
  rw [List.length_cons,List.length_cons,an3 q2]
theorem aqX {ρ : En}:∀ {rs:List Rv} {as:List Tr} {j:Nat} {r:Rv},drs ρ rs = .ok as->rs[j]? = some r->∃ u,as[j]? = some u /\ dr ρ r = .ok u
 | [],_,_,_,h,e=>by simp at e
 | r :: rs,as,j,u,h,e=>by
  unfold drs at h
  obtain ⟨a,q1,h⟩:=aa0 h
  obtain ⟨bs,q2,h⟩:=aa0 h
  cases h
  cases j with
  | zero=>simp at e; subst e; exact ⟨a,rfl,q1⟩
  | succ j =>
   obtain ⟨r',k1,k2⟩:=aqX (j:=j) q2 (by simpa using e)
   exact ⟨r',by simpa using k1,k2⟩
noncomputable def others (r i:Nat) (rs:List Rv):Bool:=(rs.eraseIdx r).all λx=>match x with
 | .s j=>j != i
 | _=>true
noncomputable def aaL (r:Nat) (F:FR) (fa:AF):EF:=λρ => (fa ρ).bind λp=>match p.1[r]? with
 | some (.s i)=>if others r i p.1=true then ((con p.2 i).bind λ_=>(drs p.2 p.1).bind λas=>(F as).bind λz=>if (p.1.eraseIdx r).any isS=true /\ adt z.1=false then .bad else .ok (.v z.1.1 z.1.2,abn i z.2 p.2)) else .bad
 | _ => .bad
theorem ajA {α : Type} {l:List α} {r j:Nat} {x : α} (n:j ≠ r) (h:l[j]? = some x):x ∈ l.eraseIdx r:=by
 rw [List.mem_eraseIdx_iff_getElem?]
 exact ⟨j,n,h⟩
theorem apM (hK:t.K=nlK K) {n r:Nat} {F:FR} {E:XK} {ta:TA} {fa:AF} (nF:∀ as c,F as ≠ .ex c) (hn:∀ ρ p,fa ρ = .ok p->p.1.length=n) (ha:SA t ta fa):SE t (ajj (spR K n r F) [] E ta) (aaL r F fa):=λW ρ σ H Q e h=>by
 have h:=Rs.aaf h
 cases ek:fa ρ with
 | bad=>rw [ek] at h; exact h.elim
 | ex c=>exact ha W ρ σ H _ e (by rw [ek] at h ⊢; exact h)
 | ok p =>
 have hl:=hn ρ p ek
 rw [ek] at h
 refine ha W ρ σ H _ e (post_eq ek ?_)
 intro vs H1 e1 s1 v1
 have h:(match p.1[r]? with
  | some (.s i)=>if others r i p.1=true then ((con p.2 i).bind λ_=>(drs p.2 p.1).bind λas=>(F as).bind λz=>if (p.1.eraseIdx r).any isS=true /\ adt z.1=false then .bad else .ok (.v z.1.1 z.1.2,abn i z.2 p.2)) else .bad
  | _ => .bad:Rs (Rv × En)).post _ _:=h
 split at h
 ·rename_i i er
  split at h
  ·rename_i ho
   obtain ⟨us,k0,h⟩:=abY (Rs.aaf h) (ahg _ _)
   obtain ⟨as,k1,h⟩:=abY (Rs.aaf h) (afX _ _)
   obtain ⟨z,k2,h⟩:=abY (Rs.aaf h) (nF _)
   obtain ⟨mi,a,xs,hi,wa,hx,rx,h0⟩:=e1.con k0
   have lr:r<vs.length:=by rw [v1.length]; exact (List.getElem?_eq_some_iff.mp er).1
   have hvr:vs[r]? = some (.ref a):=by
    have q:=v1.get (List.getElem?_eq_getElem lr) er
    have q : σ[i]? = some (some vs[r]):=q
    rw [hi] at q
    rw [List.getElem?_eq_getElem lr,Option.some.inj (Option.some.inj q)]
   have hur:as[r]? = some (.lst us):=by
    obtain ⟨u,q1,q2⟩:=aqX k1 er
    rw [q1]
    unfold L2.con at k0
    dsimp only [dr] at q2
    split at k0 <;> rename_i q3
    ·rw [q3] at q2; cases q2; cases k0; rfl
    ·rw [q3] at q2; cases q2; cases k0; rfl
    ·cases k0
   split at h
   ·exact h.elim
   ·rename_i c
    have fin:∀ Z:Addr->Prop,Z a->(∀ b,Z b->W b)->((∀ b,W b->Z b) \/ adt z.1=true)->(∀ j v u,j ≠ r->vs[j]? = some v->as[j]? = some u->Rep (nlK K) (abb Z H1) v u)->spR K n r F (vs ++ []) H1 Q E:=λZ za zw zs rr=>by
     rw [List.append_nil]
     refine ⟨Z,as,a,xs,us,v1.length.trans hl,(an3 k1).trans hl,hvr,hur,za,hx,?_,rr,λb z=>e1.wl b (zw b z),by rw [<-hK]; exact e1.tab.ok,?_⟩
     ·rw [<-hK]
      exact rx.mono (acG (λb _ _ z=>zw b z) λ_ _ _ h=>h)
     rw [k2]
     intro v H' ys fr tb dm hy ry fl vr
     rw [<-hK] at ry vr fr tb
     have kp:∀ b o,¬ W b->H1 b=some o->H' b=some o:=λb o nw q=>fr b o q (λz=>by subst z; exact nw wa) λz=>nw (e1.tab.w b z)
     have wl':∀ b,W b->Lt H' b:=λb wb=>by
      by_cases q:b=a
      ·subst q; exact .inl ⟨ys,hy⟩
      ·by_cases z:Tb t.K b
       ·exact .inr (tb.tbl z)
       ·rcases e1.wl b wb with ⟨zs,q2⟩ | ⟨zs,q2⟩
        ·exact .inl ⟨zs,fr b _ q2 q z⟩
        ·exact .inr ⟨zs,fr b _ q2 q z⟩
     have st:Stp W H1 H':=⟨kp,dm⟩
     have e2:EOk t W (abn i z.2 p.2) σ H':=e1.move mi hi st.off (λ_ h=>h) wl' tb fr dm h0 hy (ry.flat (ahh wl') fl)
     refine h v H' e2 (s1.trans st) (VOE.back (H:=H1) ?_ s1.dom)
     refine VRt.voe (W0:=W) (z:=z.1) e1.wn wl' zs vr λb zs nb qb=>?_
     have wl2:∀ c,(W c \/ c=b)->Lt H' c:=λc wc=>by
      rcases wc with wc | rfl
      ·exact wl' c wc
      ·exact .inl ⟨zs,qb⟩
     obtain ⟨F,e1F⟩:=id e1
     refine ⟨F,e1F.move mi hi (λc o q=>?_) (λ_ h => .inl h) wl2 tb fr dm h0 hy (ry.flat (ahh wl2) fl),λj us hj zj=>?_⟩
     rotate_left
     ·obtain ⟨c,ys,h1,bs,_,_,ww,_⟩:=e1F.dp j us (aeC hj)
      exact e1.wn b (ww b zj).1 nb
     obtain ⟨nc,q⟩:=abC q
     rw [aa1]
     ·exact kp c o nc q
     ·rintro (z | rfl)
      ·exact nc z
      ·rw [nb] at q; cases q
    by_cases an:(p.1.eraseIdx r).any isS=true
    ·refine fin (λb=>b=a) rfl (λb z=>by subst z; exact wa) (.inr ?_) λj v u nj qv qu=>?_
     ·cases fz:adt z.1 with
      | true=>rfl
      | false=>exact (c ⟨an,fz⟩).elim
     ·obtain ⟨x,q1,q2⟩:=akv k1 qu
      have ok:=v1.get qv q1
      rw [<-hK]
      cases x with
      | v T fr =>
       cases q2
       exact (ok.rep e.wn).mono (acG (λb _ _ z=>by subst z; exact wa) λ_ _ _ h=>h)
      | s j' =>
       have nj':j' ≠ i:=by
        have:=List.all_eq_true.mp ho _ (ajA nj q1)
        simpa using this
       have ok : σ[j']? = some (some v):=ok
       have q2:dr p.2 (.s j') = .ok u:=q2
       have q3:∃ ws,L2.con p.2 j' = .ok ws /\ u = .lst ws:=by
        dsimp only [dr] at q2
        unfold L2.con
        split at q2 <;> rename_i q3
        ·cases q2; (try rw [q3]); exact ⟨_,rfl,rfl⟩
        ·cases q2; (try rw [q3]); exact ⟨_,rfl,rfl⟩
        ·cases q2
       obtain ⟨ws,q3,rfl⟩:=q3
       obtain ⟨mj,a',zs,hj,wj,hz,rz,_⟩:=e1.con q3
       rw [ok] at hj
       cases hj
       have na:a' ≠ a:=λy=>by
        subst y
        exact nj' (e1.dis j' i a' mj mi ok hi)
       refine .lst (SqL.of ?_) (rz.mono (acG (λb _ _ z=>by subst z; exact wa) λ_ _ _ h=>h))
       rw [aa1 (W:=λb=>b=a) na]
       exact hz
    ·refine fin W wa (λ_ z=>z) (.inl λ_ z=>z) λj v u nj qv qu=>?_
     obtain ⟨x,q1,q2⟩:=akv k1 qu
     have ok:=v1.get qv q1
     rw [<-hK]
     cases x with
     | v T fr=>cases q2; exact ok.rep e.wn
     | s j' =>
      refine (an ?_).elim
      exact List.any_eq_true.mpr ⟨_,ajA nj q1,rfl⟩
  ·exact h.elim
 ·exact h.elim
end
end L2
end
section
namespace L2
open PySem PySem.Spec PyProof.Rows
section
variable {prog:Program} {w:World} {A:Around} {R:Result->Shared->Prop} {s:Shared}
end
noncomputable def an4 (wi:TI) (g:TG) (src:List (Option Nat)) (tc:TT) (te:TE):TE:=λσ H Q=>wi σ H λJ H1=>∀ D,H1 D=none ->
 ∃ W:Nat->Nat->St->Hp->Prop,(∃ m,W 0 m (agy src σ) (upd H1 D (.lst []))) /\ ∀ i m σ' H',W i m σ' H' ->
  (J.stop i H' /\ QAt Q D H') \/ (J.go i H' /\ ∀ x H'',J.yld i H' x H''->g x σ' H'' λσ2 H2=>tc σ2 H2 λb H2'=>if b=true then te σ2 H2' λv H3=>∃ xs,H3 D=some (.lst xs) /\ xs.length<sizeLine /\ ∃ m',m'<m /\ W (i + 1) m' σ2 (upd H3 D (.lst (xs ++ [v]))) else ∃ m',m'<m /\ W (i + 1) m' σ2 H2')
section
variable {X:Cx} {elt tg iter cnd:Expr} {scope sc:Scope} {pos:Pos} {No N:List Str} {src:List (Option Nat)} {wi:TI} {g:TG} {te:TE} {tc:TT}
end
end L2
end
section
namespace L2
open PySem PySem.Spec PyProof.Rows
noncomputable def ac8:Sl->Sl
 | .dp _ => .un
 | s=>s
noncomputable def acD (src:List (Option Nat)) (ρ : En):En:=src.map λo=>match o with
 | some j=>ac8 ((ρ[j]?).getD .un)
 | none => .un
noncomputable def abT:List (Option Nat)->En->En->En
 | some j :: src,.ow ts :: ρi,ρ => abT src ρi (abn j ts ρ)
 | some j :: src,.rf ts :: ρi,ρ => abT src ρi (abn j ts ρ)
 | _ :: src,_ :: ρi,ρ => abT src ρi ρ
 | _,_,ρ => ρ
noncomputable def acW:Option Sl->Bool
 | some (.ow _)=>true
 | some (.rf _)=>true
 | _=>false
noncomputable def acE:List (Option Nat)->En->En->Bool
 | some j :: src,s :: ρi,ρ => (!acW ρ[j]? || acW (some s)) && acE src ρi ρ
 | none :: src,_ :: ρi,ρ => acE src ρi ρ
 | [],_,_=>true
 | _,[],_=>false
theorem al0 {ρ : En} {i:Nat}:acW ρ[i]? = true↔Mu ρ i:=by
 constructor
 ·intro h
  unfold acW at h
  split at h <;> rename_i q
  ·exact ⟨_,.inl q⟩
  ·exact ⟨_,.inr q⟩
  ·cases h
 ·rintro ⟨ts,h | h⟩ <;> rw [h] <;> rfl
theorem aiI:∀ {src:List (Option Nat)} {ρi ρ : En} {k j:Nat},acE src ρi ρ = true->src[k]? = some (some j)->Mu ρ j->Mu ρi k
 | [],_,_,_,_,_,h,_=>by simp at h
 | some j' :: src,s :: ρi,ρ,k,j,h,hk,m=>by
  unfold acE at h
  rw [Bool.and_eq_true] at h
  cases k with
  | zero =>
   simp at hk
   subst hk
   have h1:=h.1
   rw [al0.mpr m] at h1
   have h1:acW (some s)=true:=by simpa using h1
   cases s with
   | un=>cases h1
   | sh _=>cases h1
   | dp _=>cases h1
   | ow ts=>exact ⟨ts,.inl rfl⟩
   | rf ts=>exact ⟨ts,.inr rfl⟩
  | succ k =>
   obtain ⟨ts,q⟩:=aiI (k:=k) h.2 (by simpa using hk) m
   exact ⟨ts,by simpa using q⟩
 | none :: src,s :: ρi,ρ,k,j,h,hk,m=>by
  unfold acE at h
  cases k with
  | zero=>simp at hk
  | succ k =>
   obtain ⟨ts,q⟩:=aiI (k:=k) h (by simpa using hk) m
   exact ⟨ts,by simpa using q⟩
 | some j' :: src,[],ρ,k,j,h,hk,m=>by unfold acE at h; cases h
 | none :: src,[],ρ,k,j,h,hk,m=>by unfold acE at h; cases h
noncomputable def Inj (src:List (Option Nat)):Prop:=∀ (k k' j:Nat),src[k]? = some (some j)->src[k']? = some (some j)->k=k'
theorem adY {src:List (Option Nat)} (h:(src.filterMap id).Nodup):Inj src:=by
 induction src with
 | nil=>intro k k' j h1; simp at h1
 | cons o src ih =>
  have tail:Inj src:=by
   cases o with
   | none=>exact ih (by simpa using h)
   | some j=>exact ih (by simpa using (List.nodup_cons.mp (by simpa using h)).2)
  intro k k' j h1 h2
  have no:∀ {m:Nat},o=some j->src[m]? = some (some j)->False:=λ{m} e q=>by
   subst e
   have n:=(List.nodup_cons.mp (show (j :: src.filterMap id).Nodup by simpa using h)).1
   exact n (List.mem_filterMap.mpr ⟨some j,List.mem_of_getElem? q,rfl⟩)
  cases k with
  | zero =>
   have e1:o=some j:=by simpa using h1
   cases k' with
   | zero=>rfl
   | succ k'=>exact (no e1 (by simpa using h2)).elim
  | succ k =>
   cases k' with
   | zero=>exact (no (by simpa using h2) (by simpa using h1)).elim
   | succ k'=>rw [tail k k' j (by simpa using h1) (by simpa using h2)]
theorem an5 {ρ : En} {i j:Nat} {ts:List Tr} (h:j ≠ i):(abn i ts ρ)[j]? = ρ[j]? := by
 unfold abn
 split
 ·exact List.getElem?_set_ne (Ne.symm h)
 ·exact List.getElem?_set_ne (Ne.symm h)
 ·rfl
theorem ar3 {ρ ρ':En} {i:Nat} {ts:List Tr} (h : ρ[i]? = ρ'[i]?):(abn i ts ρ)[i]? = (abn i ts ρ')[i]? := by
 unfold abn
 rw [h]
 cases q : ρ'[i]? with
 | none=>dsimp only; rw [h,q]
 | some s =>
  have l':i < ρ'.length:=(List.getElem?_eq_some_iff.mp q).1
  have l:i < ρ.length:=(List.getElem?_eq_some_iff.mp (h.trans q)).1
  cases s with
  | un=>dsimp only; rw [h,q]
  | sh _=>dsimp only; rw [h,q]
  | dp _=>dsimp only; rw [h,q]
  | ow _=>dsimp only; rw [af0 l,af0 l']
  | rf _=>dsimp only; rw [af0 l,af0 l']
theorem ahi:∀ (src:List (Option Nat)) (ρi ρ : En),(abT src ρi ρ).length = ρ.length
 | [],ρi,ρ => by unfold abT; rfl
 | o :: src,[],ρ => by cases o <;> (unfold abT; rfl)
 | none :: src,s :: ρi,ρ => by unfold abT; exact ahi src ρi ρ
 | some j :: src,.un :: ρi,ρ => by unfold abT; exact ahi src ρi ρ
 | some j :: src,.sh _ :: ρi,ρ => by unfold abT; exact ahi src ρi ρ
 | some j :: src,.dp _ :: ρi,ρ => by unfold abT; exact ahi src ρi ρ
 | some j :: src,.ow ts :: ρi,ρ => by unfold abT; rw [ahi src ρi,aiG]
 | some j :: src,.rf ts :: ρi,ρ => by unfold abT; rw [ahi src ρi,aiG]
theorem ahj:∀ {src:List (Option Nat)} {ρi ρ : En} {j:Nat} {s:Sl},Inj src->(abT src ρi ρ)[j]? = some s ->
  (∃ (k:Nat) (ts:List Tr),src[k]? = some (some j) /\ (ρi[k]? = some (.ow ts) \/ ρi[k]? = some (.rf ts)) /\ (abn j ts ρ)[j]? = some s) \/ ((∀ k:Nat,src[k]? = some (some j)->¬ Mu ρi k) /\ ρ[j]? = some s)
 | [],ρi,ρ,j,s,_,h=>by
  unfold abT at h
  exact .inr ⟨λk q=>by simp at q,h⟩
 | o :: src,[],ρ,j,s,_,h=>by
  have h : ρ[j]? = some s:=by cases o <;> (unfold abT at h; exact h)
  refine .inr ⟨λk _ m=>?_,h⟩
  obtain ⟨_,q | q⟩:=m <;> simp at q
 | o :: src,x :: ρi,ρ,j,s,I,h=>by
  have It:Inj src:=λk k' j h1 h2=>by
   have:=I (k + 1) (k' + 1) j (by simpa using h1) (by simpa using h2)
   omega
  have keep:(o=none \/ acW (some x)=false)->(abT src ρi ρ)[j]? = some s->(∃ (k:Nat) (ts:List Tr),(o :: src)[k]? = some (some j) /\ ((x :: ρi)[k]? = some (.ow ts) \/ (x :: ρi)[k]? = some (.rf ts)) /\ (abn j ts ρ)[j]? = some s) \/ ((∀ k:Nat,(o :: src)[k]? = some (some j)->¬ Mu (x :: ρi) k) /\ ρ[j]? = some s):=λc h=>by
   rcases ahj It h with ⟨k,ts,q1,q2,q3⟩ | ⟨n,q⟩
   ·exact .inl ⟨k + 1,ts,by simpa using q1,by simpa using q2,q3⟩
   ·refine .inr ⟨λk qk m=>?_,q⟩
    cases k with
    | zero =>
     rcases c with c | c
     ·subst c; simp at qk
     ·rw [<-al0] at m
      have m:acW (some x)=true:=m
      rw [c] at m
      cases m
    | succ k =>
     obtain ⟨ts,m⟩:=m
     exact n k (by simpa using qk) ⟨ts,by simpa using m⟩
  have put:∀ (i:Nat) (ts:List Tr),o=some i->(x = .ow ts \/ x = .rf ts)->(abT src ρi (abn i ts ρ))[j]? = some s->(∃ (k:Nat) (ts:List Tr),(o :: src)[k]? = some (some j) /\ ((x :: ρi)[k]? = some (.ow ts) \/ (x :: ρi)[k]? = some (.rf ts)) /\ (abn j ts ρ)[j]? = some s) \/ ((∀ k:Nat,(o :: src)[k]? = some (some j)->¬ Mu (x :: ρi) k) /\ ρ[j]? = some s):=λi ts eo ex h=>by
   rcases ahj It h with ⟨k,us,q1,q2,q3⟩ | ⟨n,q⟩
   ·have ne:j ≠ i:=λz=>by
     subst z
     have:=I 0 (k + 1) j (by simpa using eo) (by simpa using q1)
     omega
    refine .inl ⟨k + 1,us,by simpa using q1,by simpa using q2,?_⟩
    rw [<-ar3 (an5 ne)]
    exact q3
   ·by_cases e:j=i
    ·subst e
     refine .inl ⟨0,ts,by simpa using eo,?_,q⟩
     rcases ex with rfl | rfl
     ·exact .inl rfl
     ·exact .inr rfl
    ·rw [an5 e] at q
     refine .inr ⟨λk qk m=>?_,q⟩
     cases k with
     | zero =>
      rw [eo] at qk
      simp at qk
      exact e qk.symm
     | succ k =>
      obtain ⟨ts,m⟩:=m
      exact n k (by simpa using qk) ⟨ts,by simpa using m⟩
  cases o with
  | none=>unfold abT at h; exact keep (.inl rfl) h
  | some i =>
   cases x with
   | un=>unfold abT at h; exact keep (.inr rfl) h
   | sh _=>unfold abT at h; exact keep (.inr rfl) h
   | dp _=>unfold abT at h; exact keep (.inr rfl) h
   | ow ts=>unfold abT at h; exact put i ts rfl (.inl rfl) h
   | rf ts=>unfold abT at h; exact put i ts rfl (.inr rfl) h
theorem ajB {src:List (Option Nat)} {ρ : En} {k:Nat} {s:Sl} (h:(acD src ρ)[k]? = some s) (n:s ≠ .un):∃ j,src[k]? = some (some j) /\ ρ[j]? = some s:=by
 unfold acD at h
 rw [List.getElem?_map] at h
 cases q:src[k]? with
 | none=>rw [q] at h; cases h
 | some o =>
  rw [q] at h
  cases o with
  | none=>cases h; exact (n rfl).elim
  | some j =>
   refine ⟨j,rfl,?_⟩
   have h:ac8 ((ρ[j]?).getD .un)=s:=Option.some.inj h
   cases z : ρ[j]? with
   | none=>rw [z] at h; exact (n h.symm).elim
   | some s' =>
    rw [z] at h
    have h:ac8 s'=s:=h
    cases s' <;> first | exact congrArg some h | exact (n h.symm).elim
theorem apO {src:List (Option Nat)} {ρ : En} {k:Nat} {ts:List Tr} (h:(acD src ρ)[k]? = some (.dp ts)):False:=by
 unfold acD at h
 rw [List.getElem?_map] at h
 cases q:src[k]? with
 | none=>rw [q] at h; cases h
 | some o =>
  rw [q] at h
  cases o with
  | none=>cases h
  | some j =>
   have h:ac8 ((ρ[j]?).getD .un) = .dp ts:=Option.some.inj h
   cases z:(ρ[j]?).getD Sl.un <;> rw [z] at h <;> cases h
theorem amx {src:List (Option Nat)} {ρi ρ : En} {j:Nat} {ts:List Tr} (I:Inj src) (h:(abT src ρi ρ)[j]? = some (.dp ts)) : ρ[j]? = some (.dp ts):=by
 rcases ahj I h with ⟨k,us,_,_,q⟩ | ⟨_,q⟩
 ·exact aeC q
 ·exact q
theorem aiJ {src:List (Option Nat)} {σ : St} {k j:Nat} (h:src[k]? = some (some j)):(agy src σ)[k]? = some ((σ[j]?).join):=by
 unfold agy
 rw [List.getElem?_map,h]
 rfl
end L2
end
section
namespace L2
open PySem PySem.Spec PyProof.Rows
noncomputable def OU (src:List (Option Nat)) (ρ : En) (σ : St) (F:Nat->List Addr) (b:Addr):Prop:=(∃ j:Nat,Mu ρ j /\ σ[j]? = some (some (.ref b)) /\ ∀ k:Nat,src[k]? ≠ some (some j)) \/ ∃ (j:Nat) (ts:List Tr),ρ[j]? = some (.dp ts) /\ b ∈ F j
open Classical in
noncomputable def tB' (t:Tx) (src:List (Option Nat)) (ρ : En) (σ : St) (F:Nat->List Addr) (H1:Hp) (D:Addr) (xs:List V):Tx:=⟨t.K,t.Z,t.R,t.H0,λb=>if b=D then some (.lst xs) else if OU src ρ σ F b then H1 b else t.B b,λ_=>False⟩
section
variable {t:Tx} {src:List (Option Nat)} {ρ1:En} {σ : St} {F:Nat->List Addr} {H1:Hp} {D:Addr} {W:Addr->Prop}
theorem B_D {xs:List V}:(tB' t src ρ1 σ F H1 D xs).B D=some (.lst xs):=if_pos rfl
theorem aqY {xs:List V} {b:Addr} (h1:b ≠ D) (h2:¬ OU src ρ1 σ F b):(tB' t src ρ1 σ F H1 D xs).B b=t.B b:=by
 unfold tB'
 dsimp only
 rw [if_neg h1,if_neg h2]
theorem ar4 {xs:List V} {b:Addr} (h1:b ≠ D) (h2:OU src ρ1 σ F b):(tB' t src ρ1 σ F H1 D xs).B b=H1 b:=by
 unfold tB'
 dsimp only
 rw [if_neg h1,if_pos h2]
theorem ar5 {k:Nat} (h:Mu (acD src ρ1) k):∃ j,src[k]? = some (some j) /\ Mu ρ1 j:=by
 obtain ⟨ts,q | q⟩:=h
 ·obtain ⟨j,h1,h2⟩:=ajB q (by intro z; cases z)
  exact ⟨j,h1,ts,.inl h2⟩
 ·obtain ⟨j,h1,h2⟩:=ajB q (by intro z; cases z)
  exact ⟨j,h1,ts,.inr h2⟩
theorem aiK {k j:Nat} {v:V} (h:src[k]? = some (some j)) (q:(agy src σ)[k]? = some (some v)) : σ[j]? = some (some v):=by
 rw [aiJ h] at q
 have q:=Option.some.inj q
 cases z : σ[j]? with
 | none=>rw [z] at q; cases q
 | some o =>
  rw [z] at q
  have q:o=some v:=q
  rw [q]
theorem agV {k j:Nat} {v:V} (h:src[k]? = some (some j)) (q : σ[j]? = some (some v)):(agy src σ)[k]? = some (some v):=by
 rw [aiJ h,q]
 rfl
theorem OU.tab {b:Addr} (e1F:EOF t W ρ1 σ H1 F) (z:Tb t.K b):¬ OU src ρ1 σ F b:=by
 rintro (⟨j,m,q,_⟩ | ⟨j,ts,d',y⟩)
 ·obtain ⟨xs,h⟩:=EOk.auO ⟨F,e1F⟩ m q
  exact e1F.tab.ok.ne z h rfl
 ·obtain ⟨a,xs,_,d⟩:=e1F.dp j ts d'
  exact d.nt e1F.tab.ok z y
theorem axg {xs:List V} {b:Addr} (e1F:EOF t W ρ1 σ H1 F) (hD:H1 D=none) (z:Tb t.K b):(tB' t src ρ1 σ F H1 D xs).B b=none:=by
 have nD:b ≠ D:=λy=>by
  obtain ⟨ps,h⟩:=e1F.tab.ok.tbl z
  rw [y,hD] at h
  cases h
 rw [aqY nD (OU.tab e1F z)]
 exact e1F.tab.B b z
theorem EOF.enter (I:Inj src) (e1F:EOF t W ρ1 σ H1 F) (hD:H1 D=none):EOk (tB' t src ρ1 σ F H1 D []) (λb=>W b \/ b=D) (acD src ρ1) (agy src σ) (upd H1 D (.lst [])):=by
 have e1:EOk t W ρ1 σ H1:=⟨F,e1F⟩
 have e2:=(e1.hide (aaW hD (.lst [])) hD aa9).ok
 have tf:=e2.tab
 refine ⟨λ_ => [],?_,e2.zw,e2.z0,e2.wl,e2.f0,e2.n0,λk u h=>?_,λk ts h=>?_,λk ts h=>?_,λk k' a m1 m2 q1 q2=>?_,λb o h=>?_,λk a m q=>?_,λk ts h=>(apO h).elim,λk _ ts _ _ h=>(apO h).elim,λk _ ts _ h=>(apO h).elim,λk ts h=>(apO h).elim,⟨tf.ok,tf.w,tf.r,λb z=>axg e1F hD z⟩⟩
 ·unfold acD agy
  rw [List.length_map,List.length_map]
 ·obtain ⟨j,h1,h2⟩:=ajB h (by intro z; cases z)
  obtain ⟨v,q1,q2⟩:=e2.sh j u h2
  exact ⟨v,agV h1 q1,q2⟩
 ·obtain ⟨j,h1,h2⟩:=ajB h (by intro z; cases z)
  obtain ⟨a,xs,q1,q2⟩:=e2.ow j ts h2
  exact ⟨a,xs,agV h1 q1,q2⟩
 ·obtain ⟨j,h1,h2⟩:=ajB h (by intro z; cases z)
  obtain ⟨a,xs,q1,q2⟩:=e2.rf j ts h2
  exact ⟨a,xs,agV h1 q1,q2⟩
 ·obtain ⟨j,h1,n1⟩:=ar5 m1
  obtain ⟨j',h2,n2⟩:=ar5 m2
  have:=e2.dis j j' a n1 n2 (aiK h1 q1) (aiK h2 q2)
  subst this
  exact I k k' j h1 h2
 ·by_cases h1:b=D
  ·subst h1
   rw [B_D] at h
   rw [aa9]
   exact h
  ·by_cases h2:OU src ρ1 σ F b
   ·rw [ar4 h1 h2] at h
    rw [aaF h1]
    exact h
   ·rw [aqY h1 h2] at h
    exact e2.pn b o h
 ·obtain ⟨j,h1,n1⟩:=ar5 m
  have q:=aiK h1 q
  have wa:=e1.addr n1 q
  have nD:a ≠ D:=λz=>by subst z; exact e1.wn a wa hD
  have nO:¬ OU src ρ1 σ F a:=by
   rintro (⟨j',m',q',u'⟩ | ⟨j',ts,d',z⟩)
   ·have:=e1.dis j j' a n1 m' q q'
    subst this
    exact u' k h1
   ·exact e1F.dm j' j ts a d' n1 q z
  rw [aqY nD nO]
  exact e1.pd j a n1 q
theorem EOk.axh {xs ys:List V} {ρ : En} {τ : St} {H:Hp} {W':Addr->Prop} (e:EOk (tB' t src ρ1 σ F H1 D xs) W' ρ τ H) (w:W' D) (h0:t.H0 D=none):EOk (tB' t src ρ1 σ F H1 D ys) W' ρ τ (upd H D (.lst ys)):=by
 have ne:∀ i a,Mu ρ i -> τ[i]? = some (some (.ref a))->a ≠ D:=λi a m q z=>by
  subst z
  have:=e.pd i a m q
  rw [B_D] at this
  cases this
 obtain ⟨F',e⟩:=e
 have neD:∀ i ts,ρ[i]? = some (Sl.dp ts)->∀ b ∈ F' i,b ≠ D:=λi ts h b hb z=>by
  subst z
  have:=e.db i ts h b hb
  rw [B_D] at this
  cases this
 refine ⟨F',e.len,e.zw,e.z0,λb z=>?_,λb o h n=>?_,λb h=>?_,λi u h=>?_,λi ts h=>?_,λi ts h=>?_,e.dis,λb o h=>?_,λi a m q=>?_,λi ts h=>?_,e.dd,e.dm,λi ts h b hb=>?_,⟨e.tab.ok.upd (e.pn D _ B_D),e.tab.w,e.tab.r,λb z=>?_⟩⟩
 ·by_cases q:b=D
  ·subst q; exact .inl ⟨ys,aa9⟩
  ·unfold Lt; rw [aaF q]; exact e.wl b z
 ·rw [aaF]
  ·exact e.f0 b o h n
  ·rintro rfl
   have h:t.H0 b=some o:=h
   rw [h0] at h
   cases h
 ·by_cases q:b=D
  ·subst q; exact h0
  ·rw [aaF q] at h; exact e.n0 b h
 ·rw [adJ w]
  exact e.sh i u h
 ·obtain ⟨a,zs,q1,q2,q3,q4,q5⟩:=e.ow i ts h
  rw [adJ w]
  exact ⟨a,zs,q1,q2,q3,by rw [aaF (ne i a ⟨ts,.inl h⟩ q1)]; exact q4,q5⟩
 ·obtain ⟨a,zs,q1,q2,q3,q4,q5⟩:=e.rf i ts h
  rw [adJ w]
  exact ⟨a,zs,q1,q2,q3,by rw [aaF (ne i a ⟨ts,.inr h⟩ q1)]; exact q4,q5⟩
 ·by_cases h1:b=D
  ·subst h1
   rw [B_D] at h
   rw [aa9]
   exact h
  ·rw [aaF h1]
   refine e.pn b o ?_
   by_cases h2:OU src ρ1 σ F b
   ·rw [ar4 h1 h2] at h ⊢; exact h
   ·rw [aqY h1 h2] at h ⊢; exact h
 ·have nD:=ne i a m q
  have z:=e.pd i a m q
  by_cases h2:OU src ρ1 σ F a
  ·rw [ar4 nD h2] at z ⊢; exact z
  ·rw [aqY nD h2] at z ⊢; exact z
 ·obtain ⟨a,zs,q1,d⟩:=e.dp i ts h
  exact ⟨a,zs,q1,d.move rfl rfl (by rw [adJ w]; exact Same.refl _) (λb hb=>by obtain ⟨_,_,_,ww,_⟩:=d; exact (ww b hb).1) λb o hb q=>by rw [aaF (neD i ts h b hb)]; exact q⟩
 ·have nD:=neD i ts h b hb
  have z:=e.db i ts h b hb
  by_cases h2:OU src ρ1 σ F b
  ·rw [ar4 nD h2] at z ⊢; exact z
  ·rw [aqY nD h2] at z ⊢; exact z
 ·have y:=e.tab.B b z
  have nD:b ≠ D:=λq=>by
   subst q
   rw [B_D] at y
   cases y
  by_cases h2:OU src ρ1 σ F b
  ·rw [ar4 nD h2] at y ⊢; exact y
  ·rw [aqY nD h2] at y ⊢; exact y
theorem EOF.leave {xs:List V} {ρ : En} {τ : St} {H:Hp} {Wx:Addr->Prop} {js:List Nat} (I:Inj src) (e1F:EOF t W ρ1 σ H1 F) (hD:H1 D=none) (e:EOk (tB' t src ρ1 σ F H1 D xs) (λb=>W b \/ b=D) ρ τ H) (nx:∀ b o,¬ W b->H1 b=some o->H b=some o)
  (hj:∀ k j:Nat,src[k]? = some (some j)->k ∉ js) (ag:∀ k,k ∉ js -> τ[k]? = (agy src σ)[k]?) (so:acE src ρ ρ1=true) (w1:∀ b,W b->Wx b) (w2:∀ b,Wx b->W b \/ b=D):EOF t Wx (abT src ρ ρ1) σ H F:=by
 have e1:EOk t W ρ1 σ H1:=⟨F,e1F⟩
 have m1:Same (abb W H1) (abb Wx H):=λb o h=>by
  obtain ⟨n,h⟩:=abC h
  rw [aa1]
  ·exact nx b o n h
  ·intro z
   rcases w2 b z with z | rfl
   ·exact n z
   ·rw [hD] at h; cases h
 have m2:Same (abb (λb=>W b \/ b=D) H) (abb Wx H):=acG (λb _ _ z=>w2 b z) λ_ _ _ h=>h
 have muo:∀ j,Mu (abT src ρ ρ1) j->Mu ρ1 j:=λj m=>by
  obtain ⟨ts,m | m⟩:=m <;> rcases ahj I m with ⟨k,us,q1,q2,q3⟩ | ⟨n,q⟩
  ·exact af2 ⟨ts,.inl q3⟩
  ·exact ⟨ts,.inl q⟩
  ·exact af2 ⟨ts,.inr q3⟩
  ·exact ⟨ts,.inr q⟩
 have inner:∀ (k j:Nat) (ts:List Tr) (a:Addr),src[k]? = some (some j)->(ρ[k]? = some (.ow ts) \/ ρ[k]? = some (.rf ts)) -> σ[j]? = some (some (.ref a))->∃ ys,H a=some (.lst ys) /\ abd t.K (abb Wx H) ys ts:=λk j ts a q1 q2 q3=>by
  have z:=ag k (hj k j q1)
  rw [agV q1 q3] at z
  rcases q2 with q2 | q2
  ·obtain ⟨c,ys,h1,h2,h3,h4,h5⟩:=e.ow k ts q2
   rw [z] at h1
   cases h1
   exact ⟨ys,h4,h5.mono m2⟩
  ·obtain ⟨c,ys,h1,h2,h3,h4,h5⟩:=e.rf k ts q2
   rw [z] at h1
   cases h1
   exact ⟨ys,h4,h5.mono m2⟩
 have outer:∀ (j:Nat) (a:Addr) (ys:List V),Mu ρ1 j->(∀ k,src[k]? = some (some j)->¬ Mu ρ k) -> σ[j]? = some (some (.ref a))->H1 a=some (.lst ys)->H a=some (.lst ys):=λj a ys m n q h=>by
  have wa:=e1.addr m q
  have nD:a ≠ D:=λz=>by subst z; exact e1.wn a wa hD
  refine e.pn a _ ?_
  rw [ar4 nD (.inl ⟨j,m,q,λk z=>n k z (aiI so z m)⟩)]
  exact h
 refine ⟨by rw [ahi]; exact e1.len,λb z=>w1 b (e1.zw b z),e1.z0,λb z=>e.wl b (w2 b z),e.f0,e.n0,λj u h=>?_,λj ts h=>?_,λj ts h=>?_,λj k a n1 n2=>e1.dis j k a (muo j n1) (muo k n2),λb o h=>?_,λj a m=>e1.pd j a (muo j m),λj ts h=>?_,λj k ts us n h1 h2=>e1F.dd j k ts us n (amx I h1) (amx I h2),λj k ts c h1 m q=>e1F.dm j k ts c (amx I h1) (muo k m) q,λj ts h=>e1F.db j ts (amx I h),⟨e.tab.ok,λb z=>w1 b (e1.tab.w b z),e1.tab.r,e1.tab.B⟩⟩
 ·have h' : ρ1[j]? = some (.sh u):=by
   rcases ahj I h with ⟨k,us,q1,q2,q3⟩ | ⟨n,q⟩
   ·rcases aea q3 with ⟨ne,_⟩ | ⟨_,⟨_,_,z⟩ | ⟨_,_,z⟩ | ⟨_,q⟩⟩
    ·exact (ne rfl).elim
    ·cases z
    ·cases z
    ·exact q
   ·exact q
  obtain ⟨v,q1,q2⟩:=e1.sh j u h'
  exact ⟨v,q1,q2.mono m1⟩
 ·rcases ahj I h with ⟨k,us,q1,q2,q3⟩ | ⟨n,q⟩
  ·rcases aea q3 with ⟨ne,_⟩ | ⟨_,⟨ts0,q0,z⟩ | ⟨_,_,z⟩ | ⟨nm,q⟩⟩
   ·exact (ne rfl).elim
   ·cases z
    obtain ⟨a,ys,h1,h2,h3,h4,h5⟩:=e1.ow j ts0 q0
    obtain ⟨zs,k1,k2⟩:=inner k j ts a q1 q2 h1
    exact ⟨a,zs,h1,w1 a h2,h3,k1,k2⟩
   ·cases z
   ·exact (nm ⟨ts,.inl q⟩).elim
  ·obtain ⟨a,ys,h1,h2,h3,h4,h5⟩:=e1.ow j ts q
   exact ⟨a,ys,h1,w1 a h2,h3,outer j a ys ⟨ts,.inl q⟩ n h1 h4,h5.mono m1⟩
 ·rcases ahj I h with ⟨k,us,q1,q2,q3⟩ | ⟨n,q⟩
  ·rcases aea q3 with ⟨ne,_⟩ | ⟨_,⟨_,_,z⟩ | ⟨ts0,q0,z⟩ | ⟨nm,q⟩⟩
   ·exact (ne rfl).elim
   ·cases z
   ·cases z
    obtain ⟨a,ys,h1,h2,h3,h4,h5⟩:=e1.rf j ts0 q0
    obtain ⟨zs,k1,k2⟩:=inner k j ts a q1 q2 h1
    exact ⟨a,zs,h1,w1 a h2,h3,k1,k2⟩
   ·exact (nm ⟨ts,.inr q⟩).elim
  ·obtain ⟨a,ys,h1,h2,h3,h4,h5⟩:=e1.rf j ts q
   exact ⟨a,ys,h1,w1 a h2,h3,outer j a ys ⟨ts,.inr q⟩ n h1 h4,h5.mono m1⟩
 ·have nD:b ≠ D:=λz=>by
   subst z
   rw [e1.noB hD] at h
   cases h
  have nO:¬ OU src ρ1 σ F b:=by
   rintro (⟨j,m,q,_⟩ | ⟨j,ts,d',z⟩)
   ·rw [e1.pd j b m q] at h
    cases h
   ·rw [e1F.db j ts d' b z] at h
    cases h
  refine e.pn b o ?_
  rw [aqY nD nO]
  exact h
 ·have hd:=amx I h
  obtain ⟨a,ys,q1,d⟩:=e1F.dp j ts hd
  have ww:∀ b ∈ F j,W b:=λb hb=>by obtain ⟨_,_,_,ww,_⟩:=d; exact (ww b hb).1
  refine ⟨a,ys,q1,d.move rfl rfl m1 (λb hb=>w1 b (ww b hb)) λb o hb q=>?_⟩
  have nD:b ≠ D:=λz=>by subst z; exact e1.wn b (ww b hb) hD
  refine e.pn b o ?_
  rw [ar4 nD (.inr ⟨j,ts,hd,hb⟩)]
  exact q
end
noncomputable def clV:Rv->Rs Tr
 | .v T _ => .ok T
 | .s _ => .bad
theorem ar6 (r:Rv) (c:Str):clV r ≠ .ex c:=by cases r <;> (intro z; cases z)
noncomputable def afd (g:GF) (c:BF) (f:EF):List Tr->En->Rs (List Tr × En)
 | [],ρ => .ok ([],ρ)
 | u :: us,ρ => (g u ρ).bind λρ1=>(c ρ1).bind λb=>if b.1=true then (f b.2).bind λp=>(clV p.1).bind λT=>(afd g c f us p.2).bind λz => .ok (T :: z.1,z.2) else afd g c f us b.2
noncomputable def acd (src:List (Option Nat)) (fi:IF) (g:GF) (c:BF) (f:EF):EF:=λρ => (fi ρ).bind λp=>if p.1.length<=100000 then (abS (afd g c f p.1 (acD src p.2))).bind λz=>if acE src z.2 p.2=true then .ok (.v (.lst z.1) true,abT src z.2 p.2) else .bad else .bad
theorem apP {t:Tx} {wi:TI} {g:TG} {src:List (Option Nat)} {tc:TT} {te:TE} {fi:IF} {gf:GF} {c:BF} {f:EF} {js:List Nat} (hi:SI t wi fi) (I:Inj src) (hj:∀ k j:Nat,src[k]? = some (some j)->k ∉ js) (ng:∀ T ρ c,gf T ρ ≠ .ex c)
  (hg:∀ t':Tx,t'.K=t.K->(∀ c,¬ t'.EX c)->SG t' g gf js) (hc:∀ t':Tx,t'.K=t.K->(∀ c,¬ t'.EX c)->ST t' tc c) (he:∀ t':Tx,t'.K=t.K->(∀ c,¬ t'.EX c)->SE t' te f):SE t (an4 wi g src tc te) (acd src fi gf c f):=λW ρ σ H Q e h=>by
 refine hi W ρ σ H _ e (Rs.aal (Rs.aaf h) λp h J H1 e1 s1 it=>?_)
 obtain ⟨us,ρ1⟩:=p
 dsimp only at h it e1
 split at h
 case isFalse=>exact h.elim
 rename_i hlen
 intro D hD
 have h:=afz (Rs.aaf h)
 obtain ⟨F,e1F⟩:=id e1
 have wD:∀ b,W b->b ≠ D:=λb w z=>by subst z; exact e1.wn b w hD
 have h0D:t.H0 D=none:=e1.n0 D hD
 refine ⟨λi m τ H'=>m=us.length - i /\ i<=us.length /\ ∃ ρ' xs acc,EOk (tB' t src ρ1 σ F H1 D xs) (λb=>W b \/ b=D) ρ' τ H' /\ abd t.K (abb (λb=>W b \/ b=D) H') xs acc /\ xs.length<=i /\ (∀ b o,¬ W b->H1 b=some o->H' b=some o) /\ (∀ k,k ∉ js -> τ[k]? = (agy src σ)[k]?) /\
   (afd gf c f (us.drop i) ρ').post (λ_=>False) (λz=>(if acE src z.2 ρ1=true then .ok (.v (.lst (acc ++ z.1)) true,abT src z.2 ρ1) else .bad:Rs (Rv × En)).post t.EX (λp=>∀ v H',EOk t W p.2 σ H'->Stp W H H'->VOE t W p.2 σ H H' v p.1->Q v H')),?_,?_⟩
 ·refine ⟨us.length,by simp,Nat.zero_le _,acD src ρ1,[],[],e1F.enter I hD,.nil,Nat.le_refl _,λb o _ q=>?_,λ_ _=>rfl,?_⟩
  ·rw [aaF (abh q hD)]; exact q
  ·rw [List.drop_zero]; exact h
 ·rintro i m τ H2 ⟨rfl,hi,ρ2,xs,acc,e2,r2,l2,n2,a2,h2⟩
  have sm:Same (abb W H1) (abb (λb=>W b \/ b=D) H2):=λb o q=>by
   obtain ⟨nw,q⟩:=abC q
   rw [aa1]
   ·exact n2 b o nw q
   ·rintro (z | rfl)
    ·exact nw z
    ·rw [hD] at q; cases q
  have q:=it _ H2 sm e2.wl i
  by_cases hlt:i<us.length
  ·rw [List.drop_eq_getElem_cons hlt] at h2
   obtain ⟨go,y⟩:=q.2 us[i] (by simp [hlt])
   refine .inr ⟨go,λx H3 yl=>?_⟩
   obtain ⟨s3,r3⟩:=y x H3 yl
   have e3:=e2.grow s3
   refine hg (tB' t src ρ1 σ F H1 D xs) rfl (λ_=>id) _ ρ2 τ H3 x us[i] _ e3 r3 (Rs.aal (akl (Rs.aaf h2) (ng _ _)) λρ4 h σ4 e4 a4=>?_)
   refine hc (tB' t src ρ1 σ F H1 D xs) rfl (λ_=>id) _ ρ4 σ4 H3 _ e4 (Rs.aal (Rs.aaf h) λb h H5 e5 s5=>?_)
   have st5:Stp (λb=>W b \/ b=D) H2 H5:=(Stp.of s3).trans s5
   have n5:∀ b o,¬ W b->H1 b=some o->H5 b=some o:=λb o nw qb=>by
    have nD:b ≠ D:=abh qb hD
    refine st5.keep b o ?_ (n2 b o nw qb)
    rintro (z | z)
    ·exact nw z
    ·exact nD z
   have a5:∀ k,k ∉ js -> σ4[k]? = (agy src σ)[k]? := λk nk=>(a4 k nk).trans (a2 k nk)
   split at h
   ·rename_i cb
    rw [if_pos cb]
    refine he (tB' t src ρ1 σ F H1 D xs) rfl (λ_=>id) _ b.2 σ4 H5 _ e5 (Rs.aal (Rs.aaf h) λp h v H6 e6 s6 v6=>?_)
    obtain ⟨T,kT,h⟩:=abY (Rs.aaf h) (ar6 _)
    have rv:Rep t.K (abb (λb=>W b \/ b=D) H6) v T:=by
     obtain ⟨r,ρ7⟩:=p
     cases r with
     | s i=>cases kT
     | v U fr =>
      cases kT
      exact VOk.rep (K:=t.K) e5.wn v6.1
    refine ⟨xs,e6.pn D _ B_D,Nat.lt_of_le_of_lt (show xs.length<=100000 by omega) (by decide),us.length - (i + 1),by omega,rfl,hlt,p.2,xs ++ [v],acc ++ [T],e6.axh (.inr rfl) h0D,?_,by rw [List.length_append]; simp; omega,λb o nw q=>?_,a5,?_⟩
    ·rw [adJ (.inr rfl)]
     exact (r2.mono (st5.trans s6).off).app (.cons rv .nil)
    ·have nD:b ≠ D:=abh q hD
     rw [aaF nD]
     refine s6.keep b o ?_ (n5 b o nw q)
     rintro (z | z)
     ·exact nw z
     ·exact nD z
    ·refine Rs.aal (Rs.aaf h) λz h=>?_
     rw [List.append_assoc]
     exact h
   ·rename_i cb
    rw [if_neg cb]
    exact ⟨us.length - (i + 1),by omega,rfl,hlt,b.2,xs,acc,e5,r2.mono st5.off,by omega,n5,a5,h⟩
  ·have z:i=us.length:=by omega
   subst z
   rw [List.drop_length] at h2
   have h2:(if acE src ρ2 ρ1=true then .ok (.v (.lst (acc ++ [])) true,abT src ρ2 ρ1) else .bad:Rs (Rv × En)).post t.EX _:=h2
   refine .inl ⟨q.1 rfl,?_⟩
   split at h2
   ·rename_i so
    rw [List.append_nil] at h2
    have hxs:H2 D=some (.lst xs):=e2.pn D _ B_D
    have eW:EOk t W (abT src ρ2 ρ1) σ H2:=⟨F,e1F.leave (Wx:=W) I hD e2 n2 hj a2 so (λ_ w=>w) λ_ w => .inl w⟩
    have eD:EOh t W D (abT src ρ2 ρ1) σ H2:=⟨F,e1F.leave (Wx:=λb=>W b \/ b=D) I hD e2 n2 hj a2 so (λ_ w => .inl w) λ_ w=>w,λi ts hi z=>by
     obtain ⟨c,ys,_,bs,_,_,ww,_⟩:=e1F.dp i ts (amx I hi)
     exact wD D (ww D z).1 rfl⟩
    have st:Stp W H1 H2:=⟨n2,λb q=>by
     cases z:H1 b with
     | none=>rfl
     | some o =>
      by_cases w:W b
      ·exact ((e2.wl b (.inl w)).ne q).elim
      ·rw [n2 b o w z] at q
       cases q⟩
    refine h2 (.ref D) H2 eW (s1.trans st) ⟨⟨D,xs,acc,rfl,rfl,s1.dom D hD,hxs,r2.mono λb o q=>?_⟩,λU a _ ea=>?_⟩
    ·obtain ⟨nb,q⟩:=abC q
     rw [off_ne λz=>nb (.inr z),aa1 λz=>nb (.inl z)]
     exact q
    ·cases ea
     exact eD
   ·exact h2.elim
noncomputable def aey:BF:=λρ => .ok (true,ρ)
theorem apQ {wi:TI} {g:TG} {src:List (Option Nat)} {te:TE}:amq wi g src te=an4 wi g src (λ_ H Q=>Q true H) te:=by
 funext σ H Q
 simp only [amq,an4,if_true]
theorem acN {t:Tx} {wi:TI} {g:TG} {src:List (Option Nat)} {te:TE} {fi:IF} {gf:GF} {f:EF} {js:List Nat} (hi:SI t wi fi) (I:Inj src) (hj:∀ k j:Nat,src[k]? = some (some j)->k ∉ js) (ng:∀ T ρ c,gf T ρ ≠ .ex c)
  (hg:∀ t':Tx,t'.K=t.K->(∀ c,¬ t'.EX c)->SG t' g gf js) (he:∀ t':Tx,t'.K=t.K->(∀ c,¬ t'.EX c)->SE t' te f):SE t (amq wi g src te) (acd src fi gf aey f):=by
 rw [apQ]
 exact apP hi I hj ng hg (λt' _ _ W ρ σ H Q e h=>h H e (Stp.refl _ _)) he
end L2
end
section
namespace L2
open PySem PySem.Spec PyProof.Rows
theorem PS.nox {X:Cx} {st:Stmt} {t:TS} (h:PS X.nox st t):PS X st t:=⟨λpins s σ H D I hw =>
 wpAny_mono (h pins s σ H D (I.wish _) hw) (λ_ _ q=>q.aez) λ_ _ z=>False.elim z⟩
theorem EOk.ex {t:Tx} {EX:Str->Prop} {W:Addr->Prop} {ρ : En} {σ : St} {H:Hp} (e:EOk t W ρ σ H):EOk {t with EX:=EX } W ρ σ H:=e.elim λF e=>⟨F,e.len,e.zw,e.z0,e.wl,e.f0,e.n0,e.sh,e.ow,e.rf,e.dis,e.pn,e.pd,e.dp,e.dd,e.dm,e.db,⟨e.tab.ok,e.tab.w,e.tab.r,e.tab.B⟩⟩
theorem EOk.aww {t:Tx} {EX:Str->Prop} {W:Addr->Prop} {ρ : En} {σ : St} {H:Hp} (e:EOk {t with EX:=EX } W ρ σ H):EOk t W ρ σ H:=e.elim λF e=>⟨F,e.len,e.zw,e.z0,e.wl,e.f0,e.n0,e.sh,e.ow,e.rf,e.dis,e.pn,e.pd,e.dp,e.dd,e.dm,e.db,⟨e.tab.ok,e.tab.w,e.tab.r,e.tab.B⟩⟩
noncomputable def adZ (f:SF):SF:=λρ => abS (f ρ)
theorem ae7 {t:Tx} {ts:TS} {f:SF} (h:∀ t':Tx,t'.K=t.K->(∀ c,¬ t'.EX c)->SS t' ts f):SS t ts (adZ f):=λW ρ σ H D e q=>by
 refine h {t with EX:=λ_=>False } rfl (λ_=>id) W ρ σ H D e.ex (Rs.aal (afz q) λp q=>?_)
 obtain ⟨fl,ρ'⟩:=p
 cases fl with
 | nx=>exact λW' σ' H' e' n=>q W' σ' H' e'.aww n
 | rt T fr =>
  refine λv W' σ' H' e' n=>q v W' σ' H' e'.aww ?_
  cases fr <;> exact n
 | bk=>exact λW' σ' H' e' n=>q W' σ' H' e'.aww n
 | ct=>exact λW' σ' H' e' n=>q W' σ' H' e'.aww n
theorem azz {p:Int->Int->Int} (a b:Tr) (c:Str):gI p a b ≠ .ex c:=by
 cases a <;> cases b <;> (intro z; cases z)
theorem ar7 {q:Int->Int->Bool} {p:Int->Int->Int} (a b:Tr) (c:Str):gIC q p a b ≠ .ex c:=by
 cases a <;> cases b <;> first | (intro z; cases z; done) | (dsimp only [gIC]; split <;> (intro z; cases z))
theorem axi {p:Int->Int->Bool} (a b:Tr) (c:Str):gB p a b ≠ .ex c:=by
 cases a <;> cases b <;> (intro z; cases z)
theorem auR (a b:Tr) (c:Str):gEq a b ≠ .ex c:=by unfold gEq; split <;> (intro z; cases z)
theorem axj (a b:Tr) (c:Str):gNe a b ≠ .ex c:=by unfold gNe; split <;> (intro z; cases z)
theorem axk {f:Bool->Bool} (a b:Tr) (c:Str):gIn f a b ≠ .ex c:=by
 cases b <;> first | (intro z; cases z; done) | (dsimp only [gIn]; split <;> (intro z; cases z))
theorem axl {f:Bool->Bool} (a b:Tr) (c:Str):gIs f a b ≠ .ex c:=by
 cases b <;> (intro z; cases z)
theorem auS (a b:Tr) (c:Str):aaT a b ≠ .ex c:=by
 cases a <;> cases b <;> first | (intro z; cases z; done) | (dsimp only [aaT]; split <;> (intro z; cases z))
theorem auT (a b:Tr) (c:Str):ab5 a b ≠ .ex c:=by
 cases a <;> cases b <;> first | (intro z; cases z; done) | (dsimp only [ab5]; split <;> (intro z; cases z))
theorem auU (a b:Tr) (c:Str):acL a b ≠ .ex c:=ar7 a b c
theorem auV (a b:Tr) (c:Str):acK a b ≠ .ex c:=ar7 a b c
theorem auW (a b:Tr) (c:Str):acC a b ≠ .ex c:=ar7 a b c
theorem auX (a b:Tr) (c:Str):acw a b ≠ .ex c:=azz a b c
theorem axm (a b:Tr) (c:Str):gGt a b ≠ .ex c:=axi a b c
theorem ahW (a b:Tr) (c:Str):gLe a b ≠ .ex c:=axi a b c
theorem axn (a b:Tr) (c:Str):gGe a b ≠ .ex c:=axi a b c
theorem axo (a b:Tr) (c:Str):gLt a b ≠ .ex c:=by
 cases a <;> cases b <;> first | (intro z; cases z; done) | (dsimp only [gLt]; split <;> (intro z; cases z))
theorem axp (a b:Tr) (c:Str):gIx a b ≠ .ex c:=by
 cases a <;> cases b <;> first | (intro z; cases z; done) | (dsimp only [gIx]; split <;> first | (intro z; cases z; done) | (split <;> (intro z; cases z)))
theorem auY (a:Tr) (c:Str):amu a ≠ .ex c:=by cases a <;> (intro z; cases z)
theorem auZ (a:Tr) (c:Str):abw a ≠ .ex c:=by
 cases a <;> first | (intro z; cases z; done) | (dsimp only [abw]; split <;> (intro z; cases z))
theorem au0 (a:Tr) (c:Str):ady a ≠ .ex c:=by cases a <;> (intro z; cases z)
theorem au1 (a:Tr) (c:Str):aqT a ≠ .ex c:=by cases a <;> (intro z; cases z)
theorem apR (a:Tr) (c:Str):aaU a ≠ .ex c:=by cases a <;> (intro z; cases z)
theorem au2 (a b:Tr) (c:Str):adq a b ≠ .ex c:=by cases a <;> cases b <;> (intro z; cases z)
theorem au3 (a:Tr) (c:Str):acF a ≠ .ex c:=by
 cases a <;> first | (intro z; cases z; done) | (dsimp only [acF]; split <;> (intro z; cases z))
theorem abD {i:Nat} (T:Tr) (ρ : En) (c:Str):gN i T ρ ≠ .ex c:=by intro z; cases z
theorem ahk (Ts:List Tr) (ρ : En) (c:Str):adD Ts ρ ≠ .ex c:=by cases Ts <;> (intro z; cases z)
theorem afA {f:GF} {g:GFs} (h1:∀ T ρ c,f T ρ ≠ .ex c) (h2:∀ T ρ c,g T ρ ≠ .ex c) (Ts:List Tr) (ρ : En) (c:Str):aa6 f g Ts ρ ≠ .ex c:=by
 cases Ts with
 | nil=>intro z; cases z
 | cons T r=>exact alZ (h1 T ρ) (λρ'=>h2 r ρ') c
theorem ar8 {n:Nat} {f:GFs} (h:∀ T ρ c,f T ρ ≠ .ex c) (T:Tr) (ρ : En) (c:Str):gT n f T ρ ≠ .ex c:=by
 cases T <;> first | (intro z; cases z; done) | (dsimp only [gT]; split <;> first | exact h _ _ _ | (intro z; cases z))
noncomputable def atA (f:AF) (n:Nat):Prop:=∀ ρ p,f ρ = .ok p->p.1.length=n
theorem aay:atA aar 0:=λρ p h=>by cases h; rfl
theorem aah {f:EF} {g:AF} {n:Nat} (h:atA g n):atA (aad f g) (n + 1):=λρ p q=>by
 unfold aad at q
 obtain ⟨a,q1,q⟩:=aa0 q
 obtain ⟨b,q2,q⟩:=aa0 q
 cases q
 rw [List.length_cons,h _ _ q2]
noncomputable def Gk (K:PySem.W.Frag) (mg:Str->Option Value) (x:Str) (v:V) (T:Tr):Prop:=∃ u,mg x=some u /\ RelV v u /\ ∀ H,Rep (nlK K) H v T
theorem axq {X:Cx} {x:Str} {v:V} {T:Tr} {pos:Pos} (h:Gk X.K X.mg x v T) (hg:Gl X x:=by rfl) (hd:(x == ("__debug__" : Str))=false:=by decide):PE X (.Name x pos) (tC v):=by
 obtain ⟨u,h1,h2,_⟩:=h
 exact anz hg h1 h2 hd
theorem ar9 {t:Tx} {K:PySem.W.Frag} {mg:Str->Option Value} {x:Str} {v:V} {T:Tr} (hK:t.K=nlK K) (h:Gk K mg x v T):SE t (tC v) (eC T):=by
 obtain ⟨u,_,_,h⟩:=h
 exact aun λH=>by rw [hK]; exact h H
end L2
end
section
namespace L2
open PySem PySem.Spec PyProof.Rows
section
variable {t:Tx} {K:PySem.W.Frag} {ta tb tc:TE} {fa fb fc:EF}
theorem abm (hK:t.K=nlK K) (ha:SE t ta fa) (hb:SE t tb fb):SE t (tOp (arQ K) ta tb) (eOp aaT fa fb):=afv (by rw [hK]; exact aut) auS ha hb
theorem akx (hK:t.K=nlK K) (ha:SE t ta fa) (hb:SE t tb fb):SE t (tOp (rI0 λi j => .int (i - j)) ta tb) (eOp acw fa fb):=afv (by rw [hK]; exact auA) auX ha hb
theorem afB (hK:t.K=nlK K) (ha:SE t ta fa) (hb:SE t tb fb):SE t (tOp (arR K) ta tb) (eOp ab5 fa fb):=afv (by rw [hK]; exact auv (K:=K)) auT ha hb
theorem aky (hK:t.K=nlK K) (ha:SE t ta fa) (hb:SE t tb fb):SE t (tOp (rI apD λi j => .int (i.fdiv j)) ta tb) (eOp acL fa fb):=afv (by rw [hK]; exact auw) auU ha hb
theorem akz (hK:t.K=nlK K) (ha:SE t ta fa) (hb:SE t tb fb):SE t (tOp (rI (λ_ j=>j ≠ 0) λi j => .int (i.fmod j)) ta tb) (eOp acK fa fb):=afv (by rw [hK]; exact auy) auV ha hb
theorem akA (hK:t.K=nlK K) (ha:SE t ta fa) (hb:SE t tb fb):SE t (tOp (rI awQ λi j => .int (i ^ j.toNat)) ta tb) (eOp acC fa fb):=afv (by rw [hK]; exact auz) auW ha hb
theorem x_eq (hK:t.K=nlK K) (ha:SE t ta fa) (hb:SE t tb fb):SE t (tOp (awU K) ta tb) (eOp gEq fa fb):=afv (by rw [hK]; exact aw5) auR ha hb
theorem awx (hK:t.K=nlK K) (ha:SE t ta fa) (hb:SE t tb fb):SE t (tOp (aw2 K) ta tb) (eOp gNe fa fb):=afv (by rw [hK]; exact aw6) axj ha hb
theorem azA (hK:t.K=nlK K) (ha:SE t ta fa) (hb:SE t tb fb):SE t (tOp (awW K) ta tb) (eOp (gIn id) fa fb):=afv (by rw [hK]; exact aw7) axk ha hb
theorem azB (hK:t.K=nlK K) (ha:SE t ta fa) (hb:SE t tb fb):SE t (tOp (λx y H Q=>y = .non /\ Q (.bl (decide (x = .non))) H) ta tb) (eOp (gIs id) fa fb):=afv (by rw [hK]; exact aus) axl ha hb
theorem x_lt (hK:t.K=nlK K) (ha:SE t ta fa) (hb:SE t tb fb):SE t (tOp (axa K) ta tb) (eOp gLt fa fb):=afv (by rw [hK]; exact axb) axo ha hb
theorem azC (hK:t.K=nlK K) (ha:SE t ta fa) (hb:SE t tb fb):SE t (tOp (rI0 λi j => .bl (decide (j<i))) ta tb) (eOp gGt fa fb):=afv (by rw [hK]; exact aw8) axm ha hb
theorem x_ge (hK:t.K=nlK K) (ha:SE t ta fa) (hb:SE t tb fb):SE t (tOp (rI0 λi j => .bl (decide (j<=i))) ta tb) (eOp gGe fa fb):=afv (by rw [hK]; exact aw9) axn ha hb
theorem acY (hK:t.K=nlK K) (ha:SE t ta fa) (hb:SE t tb fb):SE t (tOp (rIx K) ta tb) (eOp gIx fa fb):=afv (by rw [hK]; exact auB) axp ha hb
theorem ahl (hK:t.K=nlK K) {r r':R2} {g g':G2} (o:OpT (nlK K) r g) (o':OpT (nlK K) r' g') (n:∀ a b c,g a b ≠ .ex c) (n':∀ a b c,g' a b ≠ .ex c) (ha:SE t ta fa) (hb:SE t tb fb) (hc:SE t tc fc):SE t (alD r r' ta tb tc) (agq g g' fa fb fc):=apE (by rw [hK]; exact o) (by rw [hK]; exact o') n n' ha hb hc
theorem asa (ha:SE t ta fa):SE t (tUn (rU λi => .int (-i)) ta) (eUn amu fa):=axc aqR auY ha
variable {tl:TA} {fl:AF}
theorem x_len (hK:t.K=nlK K) (ha:SA t tl fl):SE t (tCB (arU K) tl) (eCB (g1 abw) fl):=amv (by rw [hK]; exact auF auH) (ajy auZ) ha
theorem axr (hK:t.K=nlK K) (ha:SA t tl fl):SE t (tCB (λxs H Q=>∃ i,xs = [.int i] /\ Q (.int (if i<0 then -i else i)) H) tl) (eCB (g1 ady) fl):=amv (by rw [hK]; exact auF auI) (ajy au0) ha
theorem axt (hK:t.K=nlK K) (ha:SA t tl fl):SE t (tCB (λxs H Q=>(∃ i,xs = [.int i] /\ Q (.int i) H) \/ ∃ k,xs = [.bl k] /\ Q (.int (if k then 1 else 0)) H) tl) (eCB (g1 aqT) fl):=amv (by rw [hK]; exact auF auJ) (ajy au1) ha
theorem akB (hK:t.K=nlK K) (ha:SA t tl fl):SE t (tCB (λxs H Q=>∃ p ys,xs = [.ref p] /\ ((SqL K H p ys /\ ∀ l,H l=none->Q (.ref l) (upd H l (.tup ys))) \/ (SqT K H p ys /\ Q (.ref p) H))) tl) (eCB (g1 aaU) fl):=amv (by rw [hK]; exact auF apF) (ajy apR) ha
theorem apS (hK:t.K=nlK K) (ha:SA t tl fl):SE t (tCB (awX K) tl) (eCB (g1 acF) fl):=amv (by rw [hK]; exact auF auL) (ajy au3) ha
theorem axu (hK:t.K=nlK K) (ha:SA t tl fl):SE t (tCB (λxs H Q=>∃ i j,xs = [.int i,.int j] /\ Q (.int (if j<i then j else i)) H) tl) (eCB (g2 adq) fl):=amv (by rw [hK]; exact azw auK) (auG au2) ha
theorem aa5 (hK:t.K=nlK K) {cl:Str->Addr} {n:Nat} {F:FP} {E:XK} (hx:∀ c H',F0 t H'->t.EX c->E (.ref (cl c)) none H') (hn:atA fl n) (ha:SA t tl fl):SE t (ajj (spP K cl n F) [] E tl) (aax F fl):=alX hK hx hn ha
theorem acn (hK:t.K=nlK K) {cl:Str->Addr} {n:Nat} {F:FP} {E:XK} (hx:∀ c,¬ t.EX c) (hn:atA fl n) (ha:SA t tl fl):SE t (ajj (spP K cl n F) [] E tl) (aax F fl):=alX hK (λc H' _ q=>(hx c q).elim) hn ha
theorem abe (hK:t.K=nlK K) {n r nl:Nat} {b:SF} {E:XK} (hn:atA fl n) (ha:SA t tl fl):SE t (ajj (spR K n r (fnR nl r b)) [] E tl) (aaL r (fnR nl r b) fl):=apM hK (ar0 nl r b) hn ha
theorem apT {te:TE} {f:EF} (i:Nat) (h:SE t te f):SE t (tBM K "list" ako (aph i) (ad6 te anI)) (eMt i alV (aad f aar)):=axf i auP arX (aac h aak)
end
end L2
end
section
namespace L2
open PySem PySem.Spec PyProof.Rows
noncomputable def fuI (i:Nat) (ρ : En):Nat:=match ρ[i]? with
 | some (.sh (.int n))=>n.natAbs + 1
 | _=>0
theorem ad0 {src:List (Option Nat)} {js:List Nat} (h:js.all (λk=>(src[k]?).join.isNone)=true):∀ k j:Nat,src[k]? = some (some j)->k ∉ js:=λk j q m=>by
 have:=List.all_eq_true.mp h k m
 rw [q] at this
 cases this
abbrev bmV:List Value := [.type "ValueError",.type "Exception",.type "BaseException",.type "object"]
noncomputable def ayX:G1
 | .lst ts => .ok (.lst ts.reverse,true)
 | _ => .bad
noncomputable def azD (fa:EF):EF:=λρ => (fa ρ).bind λp=>(dr p.2 p.1).bind λa=>(ayX a).bind λz => .ok (.v z.1 z.2,p.2)
end L2
end
section
namespace L2
open PySem PySem.Spec PyProof.Rows
noncomputable def asb (i:Int):TE:=λ_ H Q=>Q (.int i) H
noncomputable def kI:Const->Option Int
 | .int i=>some i
 | _=>none
noncomputable def bI (o:Operator) (i j:Int):Option Int:=match o with
 | .Sub=>some (i - j)
 | .Add=>some (i + j)
 | .Pow=>if 0<=j /\ j<=100 /\ i.natAbs<=1000 then some (i ^ j.toNat) else none
 | _=>none
noncomputable def uI (o:UnaryOp) (i:Int):Option Int:=match o with
 | .USub=>some (-i)
 | _=>none
noncomputable def cI:Expr->Option Int
 | .Constant c _ _=>kI c
 | .UnaryOp o e _=>(cI e).bind (uI o)
 | .BinOp a o b _=>(cI a).bind λi=>(cI b).bind λj=>bI o i j
 | _=>none
theorem axv {X:Cx} {c:Const} {k:Nat} {p:Pos} {i:Int} (h:kI c=some i):PE X (.Constant c k p) (asb i):=by
 cases c <;> first | (cases h; exact aam) | cases h
theorem axw {X:Cx} {o:UnaryOp} {e:Expr} {p:Pos} {i k:Int} (h:uI o i=some k) (he:PE X e (asb i)):PE X (.UnaryOp o e p) (asb k):=by
 cases o <;> first | (cases h; exact (anF aji he).imp λσ H Q q=>⟨i,rfl,q⟩) | cases h
theorem axx {X:Cx} {o:Operator} {a b:Expr} {p:Pos} {i j k:Int} (h:bI o i j=some k) (ha:PE X a (asb i)) (hb:PE X b (asb j)):PE X (.BinOp a o b p) (asb k):=by
 cases o <;> try cases h
 ·exact (aaG aqL ha hb).imp λσ H Q q=>⟨i,j,rfl,rfl,q⟩
 ·exact (aaG agm ha hb).imp λσ H Q q=>⟨i,j,rfl,rfl,q⟩
 ·dsimp only [bI] at h
  split at h
  ·rename_i c
   cases h
   have z:(2:Nat) ^ 64=18446744073709551616:=by decide
   exact (aaG agn ha hb).imp λσ H Q q=>⟨i,j,rfl,rfl,⟨c.1,by omega,by omega⟩,q⟩
  ·cases h
theorem apU {X:Cx} (e:Expr) (k:Int) (h:cI e=some k):PE X e (asb k):=by
 cases e with
 | Constant c _ _=>exact axv h
 | UnaryOp o a _ =>
  have h:(cI a).bind (uI o)=some k:=h
  cases e1:cI a with
  | none=>rw [e1] at h; cases h
  | some i=>rw [e1] at h; exact axw h (apU a i e1)
 | BinOp a o b _ =>
  have h:((cI a).bind λi=>(cI b).bind λj=>bI o i j)=some k:=h
  cases e1:cI a with
  | none=>rw [e1] at h; cases h
  | some i =>
   cases e2:cI b with
   | none=>rw [e1,e2] at h; cases h
   | some j=>rw [e1,e2] at h; exact axx h (apU a i e1) (apU b j e2)
 | _=>cases h
noncomputable def kT:Const->Option Tr
 | .none=>some .non
 | .bool b=>some (.bl b)
 | .str x=>some (.str x)
 | .int i=>some (.int i)
 | _=>none
mutual
noncomputable def cT:Expr->Option Tr
 | .Constant c _ _=>kT c
 | .Tuple es _ _=>(cTs es).map .tup
 | .List es _=>(cTs es).map .lst
 | .UnaryOp o a p=>(cI (.UnaryOp o a p)).map .int
 | .BinOp a o b p=>(cI (.BinOp a o b p)).map .int
 | _=>none
noncomputable def cTs:List Expr->Option (List Tr)
 | []=>some []
 | e :: r=>match cT e,cTs r with
  | some T,some Ts=>if Ts.length<1000 then some (T :: Ts) else none
  | _,_=>none
end
theorem aiL:∀ {es:List Expr} {Ts:List Tr},cTs es=some Ts->Ts.length<=1000
 | [],Ts,h=>by
  unfold cTs at h
  cases h
  decide
 | e :: r,Ts,h=>by
  unfold cTs at h
  split at h
  ·split at h
   ·cases h
    rename_i h1
    rw [List.length_cons]
    omega
   ·cases h
  ·cases h
section
variable {X:Cx} {e:Expr} {es:List Expr} {T:Tr} {Ts:List Tr} {pos:Pos} {k:Nat} {G:PySem.W.Frag}
theorem apV:PA X [] (atx G []):=aai.imp λσ H Q q=>q [] H (Same.refl _) λ_ _ => .nil
theorem an6 (h:PE X e (tEv G T)) (r:PA X es (atx G Ts)) (hs:starEach (e :: es) X.env=(false,eval e X.env) :: starEach es X.env):PA X (e :: es) (atx G (T :: Ts)) :=
 (acM h r hs).imp λσ H Q q v H1 s1 rv vs H2 s2 rs=>q (v :: vs) H2 (s1.trans s2) λPr p => .cons ((rv Pr p).mono (p.mono s2)) (rs Pr (p.le s1))
theorem al1 (h:PA X es (atx G Ts)) (hl:Ts.length<=1000):PE X (.Tuple es k pos) (tEv G (.tup Ts)) :=
 (ac4 h).imp λσ H Q q vs H1 s1 rs=>by
  by_cases hv:vs.length<=sizeLine
  ·exact ⟨hv,λa ha=>q (.ref a) _ (s1.trans (aaW ha _)) λPr p => .tup (SqT.of ((p.le s1).new (Same.refl _) ha)) ((rs Pr p).mono (p.mono (aaW ha _)))⟩
  ·exact absurd (Nat.le_of_lt (ag7 (by rw [(rs _ (Pj.id H)).length]; exact hl))) hv
theorem ajC (h:PA X es (atx G Ts)) (hl:Ts.length<=1000):PE X (.List es pos) (awu G Ts) :=
 (abA h).imp λσ H Q q vs H1 s1 rs=>by
  have e:=(rs _ (Pj.id H)).length
  exact ⟨Nat.le_of_lt (ag7 (by rw [e]; exact hl)),λa ha=>q a vs H1 s1 ha rs e⟩
theorem apW (h:PE X e (awu G Ts)):PE X e (tEv G (.lst Ts)) :=
 h.imp λσ H Q q a xs H1 s1 ha rs _=>q (.ref a) _ (s1.trans (aaW ha _)) λPr p => .lst (SqL.of ((p.le s1).new (Same.refl _) ha)) ((rs Pr p).mono (p.mono (aaW ha _)))
theorem aqZ (h:(cI e).map Tr.int=some T):PE X e (tEv G T):=by
 cases e1:cI e with
 | none=>rw [e1] at h; cases h
 | some i =>
  rw [e1] at h; cases h
  exact (apU e i e1).imp λσ H Q q=>q _ H (Same.refl _) λ_ _ => .int i
end
theorem asd {e:Expr} {es:List Expr} {env:Env} {T:Tr} (h:cT e=some T):starEach (e :: es) env=(false,eval e env) :: starEach es env:=by
 cases e <;> first | rfl | (unfold cT at h; cases h)
theorem axy {X:Cx} {G:PySem.W.Frag} {c:Const} {k:Nat} {p:Pos} {T:Tr} (h:kT c=some T):PE X (.Constant c k p) (tEv G T):=by
 cases c <;> try cases h
 ·exact ah9.imp λσ H Q q=>q _ H (Same.refl _) λ_ _ => .non
 ·exact agv.imp λσ H Q q=>q _ H (Same.refl _) λ_ _ => .bl _
 ·exact aam.imp λσ H Q q=>q _ H (Same.refl _) λ_ _ => .int _
 ·exact ace.imp λσ H Q q=>q _ H (Same.refl _) λ_ _ => .str _
mutual
theorem axz {X:Cx} {G:PySem.W.Frag} (e:Expr) (T:Tr) (h:cT e=some T):PE X e (tEv G T):=by
 cases e with
 | Constant c _ _=>exact axy (by unfold cT at h; exact h)
 | Tuple es _ _ =>
  unfold cT at h
  cases e:cTs es with
  | none=>rw [e] at h; cases h
  | some Ts =>
   rw [e] at h
   cases h
   exact al1 (an7 es Ts e) (aiL e)
 | List es _ =>
  unfold cT at h
  cases e:cTs es with
  | none=>rw [e] at h; cases h
  | some Ts =>
   rw [e] at h
   cases h
   exact apW (ajC (an7 es Ts e) (aiL e))
 | UnaryOp o a p=>exact aqZ (by unfold cT at h; exact h)
 | BinOp a o b p=>exact aqZ (by unfold cT at h; exact h)
 | _=>unfold cT at h; cases h
theorem an7 {X:Cx} {G:PySem.W.Frag}:∀ (es:List Expr) (Ts:List Tr),cTs es=some Ts->PA X es (atx G Ts)
 | [],Ts,h=>by
  unfold cTs at h; cases h
  exact apV
 | e :: r,Ts,h=>by
  unfold cTs at h
  cases e1:cT e with
  | none=>rw [e1] at h; cases h
  | some T =>
   cases e2:cTs r with
   | none=>rw [e1,e2] at h; cases h
   | some Us =>
    rw [e1,e2] at h
    dsimp only at h
    split at h
    ·cases h
     exact an6 (axz e T e1) (an7 r Us e2) (asd e1)
    ·cases h
end
theorem ahm {X:Cx} {G:PySem.W.Frag} {es:List Expr} {pos:Pos} {Ts:List Tr} (h:cTs es=some Ts):PE X (.List es pos) (awu G Ts):=ajC (an7 es Ts h) (aiL h)
theorem acZ {X:Cx} {G:PySem.W.Frag} {es:List Expr} {k:Nat} {pos:Pos} {Ts:List Tr} (h:cTs es=some Ts):PE X (.Tuple es k pos) (tEv G (.tup Ts)):=al1 (an7 es Ts h) (aiL h)
end L2
end
section
namespace L2
open PySem PySem.Spec PyProof.Rows
theorem Pj.abb {W:Addr->Prop} {H:Hp} (hw:∀ b,W b->H b ≠ none):Pj (L2.abb W) H where
 mono:=λs=>(Stp.of s).off
 sub:=λH=>abo W H
 new:=λ{H' r o} s h=>by
  rw [aa1 λw=>hw r w (s.free h)]
  exact aa9
noncomputable def eCL (Ts:List Tr):EF:=λρ => .ok (.v (.lst Ts) true,ρ)
theorem agA {t:Tx} {K:PySem.W.Frag} (hK:t.K=nlK K) {T:Tr}:SE t (tEv (nlK K) T) (eC T):=λW ρ σ H Q e h=>λv H' s r=>by
 rw [<-hK] at r
 exact h v H' (e.grow s) (Stp.of s) (.low (r _ (Pj.abb e.wn)))
theorem ahn {t:Tx} {K:PySem.W.Frag} (hK:t.K=nlK K) {Ts:List Tr}:SE t (awu (nlK K) Ts) (eCL Ts):=λW ρ σ H Q e h=>λa xs H1 s ha r _=>by
 rw [<-hK] at r
 have e1:=e.grow s
 exact h _ _ (e1.grow (aaW ha _)) ((Stp.of s).trans (Stp.of (aaW ha _))) ((VOE.of (σ' := σ) e1 (aaW ha _) (VOk.new ha (r _ (Pj.abb e.wn)))).back λb q=>s.free q)
end L2
end
section
namespace L2
open PySem PySem.Spec PyProof.Rows
noncomputable def aho:Expr->Bool
 | .ListComp .. => false
 | .SetComp .. => false
 | .DictComp .. => false
 | _=>true
theorem aiM {e:Expr} {t:Option Expr} {l:Nat} {env:Env} (h:aho e=true):swapsWith e t l env=pure false:=by
 cases e <;> first | rfl | (unfold aho at h; cases h)
section
variable {X:Cx} {x:Str} {e:Expr} {es:List Expr} {te:TE} {ta:TA} {pos pos' p:Pos} {k:Nat} {ps:List Str} {sp:Sp} {E:XK}
theorem pvL (i:Nat) (hN:X.N[i]? = some x:=by kernel_rfl) (hv:X.env.scope.names.lookup x=some .local:=by kernel_rfl) (hd:(x == ("__debug__" : Str))=false:=by kernel_rfl) (hc:(x == ("__classdict__" : Str))=false:=by kernel_rfl):PE X (.Name x pos) (aph i):=anx hN (.inl hv) hd hc
theorem pvC (i:Nat) (hN:X.N[i]? = some x:=by kernel_rfl) (hv:X.env.scope.names.lookup x=some .cell:=by kernel_rfl) (hd:(x == ("__debug__" : Str))=false:=by kernel_rfl) (hc:(x == ("__classdict__" : Str))=false:=by kernel_rfl):PE X (.Name x pos) (aph i):=anx hN (.inr (.inl hv)) hd hc
theorem pvF (i:Nat) (hN:X.N[i]? = some x:=by kernel_rfl) (hv:X.env.scope.names.lookup x=some .free:=by kernel_rfl) (hd:(x == ("__debug__" : Str))=false:=by kernel_rfl) (hc:(x == ("__classdict__" : Str))=false:=by kernel_rfl):PE X (.Name x pos) (aph i):=anx hN (.inr (.inr hv)) hd hc
theorem psL (i:Nat) (hN:X.N.Nodup) (he:PE X e te) (hi:X.N[i]? = some x:=by kernel_rfl) (hx:X.env.scope.names.lookup x=some .local:=by kernel_rfl) (h:aho e=true:=by kernel_rfl):PS X (.Assign [.Name x pos'] e pos) (aqH te (adB i)):=aqI hN hi (.inl hx) he (aiM h) (.inr hx)
theorem psC (i:Nat) (hN:X.N.Nodup) (hf:X.fn x=true) (he:PE X e te) (hi:X.N[i]? = some x:=by kernel_rfl) (hx:X.env.scope.names.lookup x=some .cell:=by kernel_rfl) (h:aho e=true:=by kernel_rfl):PS X (.Assign [.Name x pos'] e pos) (aqH te (adB i)):=aqI hN hi (.inr hx) he (aiM h) (.inl hf)
theorem psE (he:PE X e te) (h:aho e=true:=by kernel_rfl):PS X (.Expr e pos) (aro te):=arp he (aiM h)
theorem pgL (i:Nat) (hN:X.N.Nodup) (hi:X.N[i]? = some x:=by kernel_rfl) (hx:X.env.scope.names.lookup x=some .local:=by kernel_rfl):PG X (.Name x pos) (adB i):=arq hN hi (.inl hx) (.inr hx)
theorem pcF (D:DfX X.prog X.w X.K X.mg X.base k x ps sp) (hr:afT k X.A) (hx:Passes (CXF X.prog X.w) X E) (ha:PA X (e :: es) ta) (hg:X.env.kindOf x=some .globalImplicit:=by kernel_rfl) (hdb:(x == ("__debug__" : Str))=false:=by kernel_rfl)
  (he:notStar e=true:=by kernel_rfl) (hpl:(backTo pos (starEach es X.env)).any (·.1)=false:=by kernel_rfl):PE X (.Call (.Name x p) (e :: es) [] pos) (ajj sp [] E ta):=apL D hr hx ha hg hdb (acX he) hpl
theorem pcB {r:List V->Hp->VK->Prop} {id:String} (hc:adC X (.builtin id) r) (hm:X.mg x=none) (ha:PA X (e :: es) ta) (hv:bootBuiltins x=some (.builtin id):=by decide +kernel) (hg:X.env.kindOf x=some .globalImplicit:=by kernel_rfl) (hn:x ≠ "__name__" := by decide +kernel) (hdb:(x == ("__debug__" : Str))=false:=by kernel_rfl)
  (he:notStar e=true:=by kernel_rfl) (hpl:(backTo pos (starEach es X.env)).any (·.1)=false:=by kernel_rfl):PE X (.Call (.Name x p) (e :: es) [] pos) (tCB r ta):=agM hc hg hm hv ha hn hdb (acX he) hpl
theorem awy {r:List V->Hp->VK->Prop} {T:String} (hc:adC X (.type T) r) (hm:X.mg x=none) (ha:PA X (e :: es) ta) (hv:bootBuiltins x=some (.type T):=by decide +kernel) (hg:X.env.kindOf x=some .globalImplicit:=by kernel_rfl) (hn:x ≠ "__name__" := by decide +kernel) (hdb:(x == ("__debug__" : Str))=false:=by kernel_rfl)
  (he:notStar e=true:=by kernel_rfl) (hpl:(backTo pos (starEach es X.env)).any (·.1)=false:=by kernel_rfl):PE X (.Call (.Name x p) (e :: es) [] pos) (tCB r ta):=anK hc hg hm hv ha hn hdb (acX he) hpl
theorem pcI (hX:XOk X.K) (c:Ty) {q:Pos} (he:PE X e te) (h1:X.mg "isinstance" = none) (h2:X.mg x=none) (hb:bootBuiltins x=some (.type c.name):=by decide +kernel) (hg1:X.env.kindOf "isinstance" = some .globalImplicit:=by kernel_rfl) (hg2:X.env.kindOf x=some .globalImplicit:=by kernel_rfl) (hn:x ≠ "__name__" := by decide +kernel) (hd:(x == ("__debug__" : Str))=false:=by kernel_rfl)
  (hs:notStar e=true:=by kernel_rfl):PE X (.Call (.Name "isinstance" p) [e,.Name x q] [] pos) (tCB (awt X.K) (ad6 te (ad6 (tC (.ty c.name)) anI))):=auh hX c he h1 h2 hb hg1 hg2 hn hd (acX hs)
theorem paK {t:TA} (ha:PE X e te) (hr:PA X es t) (h:notStar e=true:=by kernel_rfl):PA X (e :: es) (ad6 te t):=acM ha hr (acX h)
theorem pGk {v:V} {T:Tr} (h:Gk X.K X.mg x v T) (hg:X.env.kindOf x=some .globalImplicit:=by kernel_rfl) (hd:(x == ("__debug__" : Str))=false:=by kernel_rfl):PE X (.Name x pos) (tC v):=axq h hg hd
theorem piR {a tg:Expr} (hm:X.mg "range" = none) (ha:PA X [a] ta) (hg:X.env.kindOf "range" = some .globalImplicit:=by kernel_rfl) (hs:notStar a=true:=by kernel_rfl):PI X tg (.Call (.Name "range" p) [a] [] pos) (arv ta):=anD hg hm ha (acX hs)
end
end L2
end
section
namespace L2
open PySem PySem.Spec PyProof.Rows
section
variable {t:Tx} {W:Addr->Prop} {ρ : En} {σ : St} {H:Hp}
noncomputable def ac0 (ρ : En) (i:Nat):Rs (List Tr):=match ρ[i]? with
 | some (.dp ts) => .ok ts
 | _ => .bad
end
end L2
end
section
namespace L2
open PySem PySem.Spec PyProof.Rows
noncomputable abbrev QF:=En->Rs Tr
section
variable {t:Tx} {K:PySem.W.Frag}
noncomputable def azE (i:Nat):QF:=λρ => match ρ[i]? with
 | some (.sh T) => .ok T
 | _ => .bad
noncomputable def qC (T:Tr):QF:=λ_ => .ok T
noncomputable def ixT (ts:List Tr) (k:Tr):Rs (Nat × Tr):=match k with
 | .int i=>(match ixN ts.length i with
  | some j=>(match ts[j]? with
   | some u => .ok (j,u)
   | none => .bad)
  | none => .bad)
 | _ => .bad
noncomputable def azF (i:Nat) (fk fj:QF):QF:=λρ => (ac0 ρ i).bind λts=>(fk ρ).bind λk=>(ixT ts k).bind λz=>match z.2 with
 | .lst us=>(fj ρ).bind λj=>(ixT us j).bind λy => .ok y.2
 | _ => .bad
noncomputable def azG (i:Nat) (fk:QF) (m:GM) (fa:QF):SF:=λρ => (ac0 ρ i).bind λts=>(abS (fk ρ)).bind λk=>(ixT ts k).bind λz=>match z.2 with
 | .lst us=>(abS (fa ρ)).bind λT=>(m us [T]).bind λy => .ok (.nx,ρ.set i (.dp (ts.set z.1 (.lst y.1))))
 | _ => .bad
noncomputable def axA (i:Nat) (fk fj:QF) (fe:EF):SF:=λρ => (fe ρ).bind λp=>(clV p.1).bind λT=>(ac0 p.2 i).bind λts=>(abS (fk p.2)).bind λk=>(ixT ts k).bind λz=>match z.2 with
 | .lst us=>(abS (fj p.2)).bind λj=>(ixT us j).bind λy => .ok (.nx,p.2.set i (.dp (ts.set z.1 (.lst (us.set y.1 T)))))
 | _ => .bad
noncomputable def dow (i:Nat) (ρ : En):En:=match ρ[i]? with
 | some (.dp ts) => ρ.set i (.ow ts)
 | _ => ρ
noncomputable def azH (i:Nat) (f:SF):SF:=λρ => f (dow i ρ)
end
end L2
end
section
namespace L2
open PySem PySem.Spec PyProof.Rows
section
variable {t:Tx} {src:List (Option Nat)} {ρ1:En} {σ : St} {F:Nat->List Addr} {H1 P:Hp} {D:Addr} {W:Addr->Prop}
end
end L2
end
section
namespace L2
open PySem PySem.Spec PyProof.Rows
noncomputable def adA:Rv->Rs Tr
 | .v (.lst us) true => .ok (.lst us)
 | _ => .bad
noncomputable def apY (g:GF) (c:BF) (f:EF):List Tr->En->Rs (List Tr × En)
 | [],ρ => .ok ([],ρ)
 | u :: us,ρ => (g u ρ).bind λρ1=>(c ρ1).bind λb=>if b.1=true then (f b.2).bind λp=>(adA p.1).bind λT=>(apY g c f us p.2).bind λz => .ok (T :: z.1,z.2) else apY g c f us b.2
noncomputable def au4 (i:Nat) (src:List (Option Nat)) (fi:IF) (g:GF) (c:BF) (f:EF):SF:=λρ => (fi ρ).bind λp=>if p.1.length<=100000 then (abS (apY g c f p.1 (acD src p.2))).bind λz=>if acE src z.2 p.2=true then .ok (.nx,(abT src z.2 p.2).set i (.dp z.1)) else .bad else .bad
end L2
end
section
namespace L2
open PySem PySem.Spec PyProof.Rows
variable {t:Tx}
noncomputable def aq0 (us vs:List Tr):List Tr:=(us.zip vs).map λp => .tup [p.1,p.2]
theorem au5 {K:PySem.W.Frag} {W:Addr->Prop} {H:Hp} {a b:Addr} {xs ys:List V} {us vs:List Tr} (q1:SqL (nlK K) (abb W H) a xs) (r1:abd (nlK K) (abb W H) xs us) (q2:SqL (nlK K) (abb W H) b ys) (r2:abd (nlK K) (abb W H) ys vs):arV (nlK K) W H (Itz K a b) (aq0 us vs):=λW' H' m hw i=>by
 have q1':SqL K H' a xs:=((abo W' H').seq (m.seq q1)).toK
 have q2':SqL K H' b ys:=((abo W' H').seq (m.seq q2)).toK
 refine ⟨λz=>⟨xs,ys,q1',q2',by rw [r1.length,r2.length,z]; simp [aq0]⟩,λu hu=>?_⟩
 unfold aq0 at hu
 rw [List.getElem?_map] at hu
 obtain ⟨p,hp,rfl⟩:=Option.map_eq_some_iff.mp hu
 obtain ⟨h1,h2⟩:=List.getElem?_zip_eq_some.mp hp
 obtain ⟨x,hx,rx⟩:=r1.apB h1
 obtain ⟨y,hy,ry⟩:=r2.apB h2
 refine ⟨⟨xs,ys,x,y,q1',q2',hx,hy⟩,λv H'' yl=>?_⟩
 obtain ⟨T,x',y',rfl,fT,rfl,z⟩:=yl
 obtain ⟨z1,z2⟩:=z xs ys q1' q2'
 rw [hx] at z1
 rw [hy] at z2
 cases z1
 cases z2
 have nW:¬ W' T:=λw=>(hw T w).ne fT
 have sm:Same H' (upd H' T (.tup [x,y])):=aaW fT _
 have so:Same (abb W' H') (abb W' (upd H' T (.tup [x,y]))):=λb u q=>(agR (o := .tup [x,y]) fT b u q |> λz=>(aiE _ _ b u z))
 refine ⟨sm,.tup (xs := [x,y]) (.inl (.inl ?_)) (.cons ((rx.mono m).mono so) (.cons ((ry.mono m).mono so) .nil))⟩
 unfold abb
 rw [if_neg nW,aa9]
noncomputable def au6 (fa:AF):IF:=λρ => (fa ρ).bind λp=>match p.1 with
 | [.v (.lst us) _,.v (.lst vs) _] => .ok (aq0 us vs,p.2)
 | _ => .bad
theorem au7 {K:PySem.W.Frag} (hK:t.K=nlK K) {ta:TA} {fa:AF} (ha:SA t ta fa):SI t (ayU K ta) (au6 fa):=λW ρ σ H R e h=>by
 refine ha W ρ σ H _ e (Rs.aal (Rs.aaf h) λp h vs H1 e1 s1 v1=>?_)
 split at h
 ·rename_i us _ ws _ ep
  rw [ep] at v1
  cases v1 with
  | cons h1 r1 =>
   cases r1 with
   | cons h2 r2 =>
    cases r2
    have h1:=h1.rep e.wn
    have h2:=h2.rep e.wn
    rw [hK] at h1 h2
    cases h1 with
    | lst q1 p1 =>
     cases h2 with
     | lst q2 p2 =>
      refine ⟨_,_,rfl,⟨_,((abo _ _).seq q1).toK⟩,⟨_,((abo _ _).seq q2).toK⟩,h _ H1 e1 s1 ?_⟩
      rw [hK]
      exact au5 q1 p1 q2 p2
 ·exact h.elim
end L2
end
section
namespace L2
open PySem PySem.Spec PyProof.Rows
section
variable {K:PySem.W.Frag}
end
end L2
end
section
namespace L2
open PySem PySem.Spec PyProof.Rows
section
variable {kf:Value->Int × Int}
noncomputable def q1 (kf:Value->Int × Int) (xs:Array Keyed) (i:Nat):Int:=match xs[i]? with | some p=>(kf p.1).1 | none=>0
noncomputable def q2 (kf:Value->Int × Int) (xs:Array Keyed) (i:Nat):Int:=match xs[i]? with | some p=>(kf p.1).2 | none=>0
noncomputable def qr (xs:Array Keyed) (i:Nat):Int:=match xs[i]? with | some p=>numOf p.2 | none=>0
noncomputable def Kl (kf:Value->Int × Int) (xs:Array Keyed) (i j:Nat):Prop:=q1 kf xs i<q1 kf xs j \/ (q1 kf xs i=q1 kf xs j /\ q2 kf xs i<q2 kf xs j)
noncomputable instance {kf:Value->Int × Int} {xs:Array Keyed} {i j:Nat}:Decidable (Kl kf xs i j):=by unfold Kl; infer_instance
noncomputable def Ke (kf:Value->Int × Int) (xs:Array Keyed) (i j:Nat):Prop:=q1 kf xs i=q1 kf xs j /\ q2 kf xs i=q2 kf xs j
noncomputable def Lq (kf:Value->Int × Int) (xs:Array Keyed) (i j:Nat):Prop:=Kl kf xs i j \/ (Ke kf xs i j /\ qr xs i<qr xs j)
noncomputable def Sta (kf:Value->Int × Int) (xs:Array Keyed) (m:Nat):Prop:=∀ i j,i<j->j<m->Lq kf xs i j
noncomputable def Dsc (kf:Value->Int × Int) (xs:Array Keyed) (m:Nat):Prop:=∀ i j,i<j->j<m->Lq kf xs j i
noncomputable def Des (kf:Value->Int × Int) (xs:Array Keyed) (m q:Nat):Prop:=(∀ i j,i<j->j<m->i<q->Lq kf xs j i /\ (q<=j->Kl kf xs j i)) /\ ∀ i j,q<=i->i<j->j<m->Ke kf xs i j /\ qr xs i<qr xs j
noncomputable def Pre (N:Nat) (xs:Array Keyed) (m:Nat):Prop:=(∀ k:Nat,k<m->qr xs k<m) /\ ∀ k:Nat,m<=k->k<N->qr xs k=k
theorem apZ {xs ys:Array Keyed} {i j:Nat} (h:xs[i]? = ys[j]?):qr xs i=qr ys j:=by unfold qr; rw [h]
theorem awz {xs ys:Array Keyed} {i j:Nat} (h:xs[i]? = ys[j]?):q1 kf xs i=q1 kf ys j:=by unfold q1; rw [h]
theorem awA {xs ys:Array Keyed} {i j:Nat} (h:xs[i]? = ys[j]?):q2 kf xs i=q2 kf ys j:=by unfold q2; rw [h]
theorem mir {xs:Array Keyed} {i j:Nat} (hj:j<=xs.size) (k:Nat):(i<=k /\ k<j /\ (mirror xs i j ((j - i) / 2))[k]? = xs[i + j - 1 - k]?) \/ (¬ (i<=k /\ k<j) /\ (mirror xs i j ((j - i) / 2))[k]? = xs[k]?):=by
 have e:=getElem?_mirror_all (i:=i) hj k
 by_cases h:i<=k /\ k<j
 ·rw [if_pos h] at e; exact .inl ⟨h.1,h.2,e⟩
 ·rw [if_neg h] at e; exact .inr ⟨h,e⟩
theorem ap0 {xs ys:Array Keyed} {i j i' j':Nat} (h1:xs[i]? = ys[i']?) (h2:xs[j]? = ys[j']?):Lq kf xs i j↔Lq kf ys i' j':=by
 unfold Lq Kl Ke; rw [apZ h1,apZ h2,awz h1,awz h2,awA h1,awA h2]
theorem awB {xs ys:Array Keyed} {i j i' j':Nat} (h1:xs[i]? = ys[i']?) (h2:xs[j]? = ys[j']?):Kl kf xs i j↔Kl kf ys i' j':=by
 unfold Kl; rw [awz h1,awz h2,awA h1,awA h2]
theorem Kl.tr {xs:Array Keyed} {i j k:Nat} (a:Kl kf xs i j) (b:Kl kf xs j k):Kl kf xs i k:=by
 unfold Kl at *
 generalize q1 kf xs i=a1,q2 kf xs i=a2,q1 kf xs j=b1,q2 kf xs j=b2,q1 kf xs k=c1,q2 kf xs k=c2 at *
 omega
theorem Kl.no {xs:Array Keyed} {i j:Nat} (a:¬ Kl kf xs i j) (b:¬ Kl kf xs j i):Ke kf xs i j:=by
 unfold Kl at *
 unfold Ke
 generalize q1 kf xs i=a1,q2 kf xs i=a2,q1 kf xs j=b1,q2 kf xs j=b2 at *
 omega
theorem Ke.s {xs:Array Keyed} {i j:Nat} (a:Ke kf xs i j):Ke kf xs j i:=⟨a.1.symm,a.2.symm⟩
theorem Ke.t {xs:Array Keyed} {i j k:Nat} (a:Ke kf xs i j) (b:Ke kf xs j k):Ke kf xs i k:=⟨a.1.trans b.1,a.2.trans b.2⟩
theorem Ke.l {xs:Array Keyed} {i j k:Nat} (a:Ke kf xs i j) (b:Kl kf xs j k):Kl kf xs i k:=by
 unfold Kl at *
 rw [a.1,a.2]
 exact b
theorem Ke.r {xs:Array Keyed} {i j k:Nat} (a:Kl kf xs i j) (b:Ke kf xs j k):Kl kf xs i k:=by
 unfold Kl at *
 rw [<-b.1,<-b.2]
 exact a
theorem Kl.tq {xs:Array Keyed} {i j k:Nat} (a:Kl kf xs i j) (b:Lq kf xs j k):Kl kf xs i k:=b.elim a.tr λz=>Ke.r a z.1
theorem Kl.qt {xs:Array Keyed} {i j k:Nat} (a:Lq kf xs i j) (b:Kl kf xs j k):Kl kf xs i k:=a.elim (λz=>z.tr b) λz=>z.1.l b
theorem Lq.mk {xs:Array Keyed} {i j:Nat} (a:¬ Kl kf xs j i) (b:qr xs i<qr xs j):Lq kf xs i j:=by
 by_cases h:Kl kf xs i j
 ·exact .inl h
 ·exact .inr ⟨Kl.no h a,b⟩
theorem Pre.mir {N:Nat} {xs:Array Keyed} {m i j:Nat} (h:Pre N xs m) (hj:j<=xs.size) (hm:j<=m):Pre N (mirror xs i j ((j - i) / 2)) m:=by
 refine ⟨λk hk=>?_,λk hk hN=>?_⟩
 ·rcases L2.mir hj k with ⟨a,b,e⟩ | ⟨n,e⟩
  ·rw [apZ e]; exact h.1 _ (by omega)
  ·rw [apZ e]; exact h.1 _ hk
 ·rcases L2.mir hj k with ⟨a,b,e⟩ | ⟨n,e⟩
  ·omega
  ·rw [apZ e]; exact h.2 _ hk hN
theorem Dsc.turn {xs:Array Keyed} {m:Nat} (h:Dsc kf xs m) (hm:m<=xs.size):Sta kf (mirror xs 0 m ((m - 0) / 2)) m:=λi j hij hj=>by
 rcases mir (i:=0) hm i with ⟨_,_,e1⟩ | ⟨n,_⟩
 ·rcases mir (i:=0) hm j with ⟨_,_,e2⟩ | ⟨n,_⟩
  ·rw [ap0 e1 e2]; exact h _ _ (by omega) (by omega)
  ·omega
 ·omega
theorem Des.turn {xs:Array Keyed} {m q:Nat} (h:Des kf xs m q) (hm:m<=xs.size) (hq:q<m):Dsc kf (mirror xs q m ((m - q) / 2)) m:=λi j hij hj=>by
 rcases mir (i:=q) hm i with ⟨a,b,e1⟩ | ⟨n,e1⟩ <;> rcases mir (i:=q) hm j with ⟨a',b',e2⟩ | ⟨n',e2⟩
 ·rw [ap0 e2 e1]
  have z:=h.2 (q + m - 1 - j) (q + m - 1 - i) (by omega) (by omega) (by omega)
  exact .inr z
 ·omega
 ·rw [ap0 e2 e1]
  exact (h.1 i (q + m - 1 - j) (by omega) (by omega) (by omega)).1
 ·rw [ap0 e2 e1]
  exact (h.1 i j hij hj (by omega)).1
theorem Des.one {xs:Array Keyed} {m q:Nat} (h:Des kf xs m q) (hq:m<=q + 1):Dsc kf xs m:=λi j hij hj=>(h.1 i j hij hj (by omega)).1
end
section
variable {prog:Program} {w:World} {A:Around} {E:Value->Shared->Prop} {s:Shared} {N:Nat} {kd:SortKind} {kf:Value->Int × Int}
structure SB (a₀ : Array Keyed) (kd:SortKind) (st:SortSt):Prop where
 pm:(arrOf st).Perm a₀
 kn:kindOf st=kd
 fl:failedOf st=none
 pd:pendingOf st = #[]
theorem SB.sz {a₀ : Array Keyed} {st:SortSt} (h:SB a₀ kd st):(arrOf st).size=a₀.size:=h.pm.size_eq
theorem SB.put {a₀ : Array Keyed} {st:SortSt} (h:SB a₀ kd st) {xs:Array Keyed} (p:xs.Perm (arrOf st)):SB a₀ kd (setArr st xs):=⟨p.trans h.pm,h.kn,h.fl,h.pd⟩
noncomputable def Asks (prog:Program) (w:World) (A:Around) (E:Value->Shared->Prop) (s:Shared) (a₀ : Array Keyed) (kd:SortKind) (kf:Value->Int × Int):Prop :=
 ∀ (st:SortSt) (i j:Nat) (Q:Option Bool->SortSt->Prop),SB a₀ kd st->i<a₀.size->j<a₀.size->Q (some (decide (Kl kf (arrOf st) i j))) st->wpS (model prog w) A E s (ltAt' i j) Q st
variable {a₀ : Array Keyed} (ask:Asks prog w A E s a₀ kd kf)
include ask
theorem aq1 {st:SortSt} {a n:Nat} {Q:AscSt->SortSt->Prop} (hn:n<=a₀.size) (ha:1<=a) (han:a<=n) (B:SB a₀ kd st) (p:Pre a₀.size (arrOf st) a) (h0:Sta kf (arrOf st) a)
  (h:∀ m,a<=m->m<=n->Sta kf (arrOf st) m->Pre a₀.size (arrOf st) m->(m=n \/ (m<n /\ Kl kf (arrOf st) m (m - 1)))->Q (none,m) st):wpS (model prog w) A E s (ascLoop a n) Q st:=by
 unfold ascLoop
 have up:∀ x,a<=x->x<=n->Pre a₀.size (arrOf st) x:=λx h1 h2=>⟨λk hk=>by
  by_cases z:k<a
  ·have:=p.1 k z; omega
  ·rw [p.2 k (by omega) (by omega)]; omega,λk h3 h4=>p.2 k (by omega) h4⟩
 refine wpS_forRange (I:=λx c t=>t=st /\ c=(none,x) /\ x<=n /\ Sta kf (arrOf st) x) ?_ ?_ ⟨rfl,rfl,han,h0⟩
 ·rintro x c t h1 h2 ⟨rfl,rfl,_,hs⟩
  refine wpS_bind (ask _ _ _ _ B (by omega) (by omega) ?_)
  by_cases l:Kl kf (arrOf t) x (x - 1)
  ·rw [decide_eq_true l]
   exact wpS_pure (h x h1 (by omega) hs (up x h1 (by omega)) (.inr ⟨h2,l⟩))
  ·rw [decide_eq_false l]
   refine wpS_pure ⟨rfl,rfl,h2,λi j hij hj=>?_⟩
   by_cases z:j<x
   ·exact hs i j hij z
   ·have ej:j=x:=by omega
    subst ej
    have r1:=(up j h1 (by omega)).1 i hij
    have r2:=(up j h1 (by omega)).2 j (Nat.le_refl _) (by omega)
    by_cases z:i=j - 1
    ·subst z
     exact Lq.mk l (by rw [r2]; exact r1)
    ·have y:=hs i (j - 1) (by omega) (by omega)
     exact Lq.mk (λz=>l (z.tq y)) (by rw [r2]; exact r1)
 ·rintro c t ⟨rfl,rfl,_,hs⟩
  rw [show max a n=n by omega] at hs ⊢
  exact h n han (Nat.le_refl _) hs (up n han (Nat.le_refl _)) (.inl rfl)
theorem an8 {st:SortSt} {m n:Nat} {Q:Option Nat->SortSt->Prop} (hn:n<=a₀.size) (h1:1<=m) (hm:m<=n) (B:SB a₀ kd st) (p:Pre a₀.size (arrOf st) m) (d:Dsc kf (arrOf st) m)
  (h:∀ m t,SB a₀ kd t->1<=m->m<=n->Sta kf (arrOf t) m->Pre a₀.size (arrOf t) m->Q (some m) t):wpS (model prog w) A E s (tail3 m n) Q st:=by
 unfold tail3
 have z:m<=(arrOf st).size:=by rw [B.sz]; omega
 refine wpS_bind (wpS_reverse ?_)
 have B':SB a₀ kd (setArr st (mirror (arrOf st) 0 m ((m - 0) / 2))):=B.put (mirror_perm _ _ _ _)
 exact wpS_bind (aq1 ask hn h1 hm B' (p.mir z (Nat.le_refl _)) (d.turn z) λk k1 k2 k3 k4 _=>wpS_pure (h k _ B' (by omega) k2 k3 k4))
theorem ase {st:SortSt} {m n:Nat} {Q:DescSt->SortSt->Prop} (hn:n<=a₀.size) (h1:1<=m) (hm:m<=n) (B:SB a₀ kd st) (p:Pre a₀.size (arrOf st) m) (d:Des kf (arrOf st) m (m - 1))
  (h:∀ x e t,SB a₀ kd t->m<=x->x<=n->e + 1<=x->Des kf (arrOf t) x (x - (e + 1))->Pre a₀.size (arrOf t) x->Q (none,x,e) t):wpS (model prog w) A E s (descLoop m n) Q st:=by
 unfold descLoop
 refine wpS_forRange (I:=λx c t=>∃ e,c=(none,x,e) /\ SB a₀ kd t /\ x<=n /\ e + 1<=x /\ Des kf (arrOf t) x (x - (e + 1)) /\ Pre a₀.size (arrOf t) x) ?_ ?_ ⟨0,rfl,B,hm,by omega,d,p⟩
 ·rintro x c t k1 k2 ⟨e,rfl,B',_,ke,d',p'⟩
  dsimp only
  have z:x<=(arrOf t).size:=by rw [B'.sz]; omega
  have pu:∀ ys:Array Keyed,Pre a₀.size ys x->Pre a₀.size ys (x + 1):=λys q=>⟨λk hk=>by
   by_cases y:k<x
   ·have:=q.1 k y; omega
   ·rw [q.2 k (by omega) (by omega)]; omega,λk h3 h4=>q.2 k (by omega) h4⟩
  refine wpS_bind (ask _ _ _ _ B' (by omega) (by omega) ?_)
  by_cases l:Kl kf (arrOf t) x (x - 1)
  ·rw [decide_eq_true l]
   have next:∀ ys:Array Keyed,Dsc kf ys x->(∀ i,i<x->Kl kf ys x i)->Des kf ys (x + 1) x:=λys y1 y2=>⟨λi j hij hj hi=>by
    by_cases y:j<x
    ·exact ⟨y1 i j hij y,λz=>by omega⟩
    ·have:j=x:=by omega
     subst this
     exact ⟨.inl (y2 i hi),λ_=>y2 i hi⟩,λi j h1 h2 h3=>by omega⟩
   have low:∀ i,i<x->Kl kf (arrOf t) x i:=λi hi=>by
    by_cases y:i=x - 1
    ·rw [y]; exact l
    ·by_cases y2:i<x - (e + 1)
     ·exact l.tq (d'.1 i (x - 1) (by omega) (by omega) y2).1
     ·exact Ke.r l (d'.2 i (x - 1) (by omega) (by omega) (by omega)).1.s
   show wpS _ _ _ _ (if e > 0 then _ else _) _ _
   by_cases g:e > 0
   ·rw [if_pos g]
    refine wpS_bind (wpS_reverse (wpS_pure ⟨0,rfl,B'.put (mirror_perm _ _ _ _),k2,by omega,?_,pu _ (p'.mir z (Nat.le_refl _))⟩))
    rw [show x + 1 - (0 + 1)=x by omega]
    refine next _ (d'.turn z (by omega)) λi hi=>?_
    rcases mir (i:=x - (e + 1)) z x with ⟨_,b,_⟩ | ⟨_,e1⟩
    ·omega
    ·rcases mir (i:=x - (e + 1)) z i with ⟨_,_,e2⟩ | ⟨_,e2⟩
     ·rw [awB e1 e2]; exact low _ (by omega)
     ·rw [awB e1 e2]; exact low _ hi
   ·rw [if_neg g]
    refine wpS_pure ⟨0,rfl,B',k2,by omega,?_,pu _ p'⟩
    rw [show x + 1 - (0 + 1)=x by omega]
    exact next _ (d'.one (by omega)) low
  ·rw [decide_eq_false l]
   show wpS _ _ _ _ (ltAt' (x - 1) x >>= _) _ _
   refine wpS_bind (ask _ _ _ _ B' (by omega) (by omega) ?_)
   by_cases g:Kl kf (arrOf t) (x - 1) x
   ·rw [decide_eq_true g]
    exact wpS_pure (h x e t B' k1 (by omega) ke d' p')
   ·rw [decide_eq_false g]
    have eq:Ke kf (arrOf t) (x - 1) x:=Kl.no g l
    refine wpS_pure ⟨e + 1,rfl,B',k2,by omega,?_,pu _ p'⟩
    rw [show x + 1 - (e + 1 + 1)=x - (e + 1) by omega]
    refine ⟨λi j hij hj hi=>?_,λi j hi hij hj=>?_⟩
    ·by_cases y:j<x
     ·exact d'.1 i j hij y hi
     ·have:j=x:=by omega
      subst this
      have y:=(d'.1 i (j - 1) (by omega) (by omega) hi).2 (by omega)
      have y':Kl kf (arrOf t) j i:=eq.s.l y
      exact ⟨.inl y',λ_=>y'⟩
    ·by_cases y:j<x
     ·exact d'.2 i j hi hij y
     ·have:j=x:=by omega
      subst this
      have r1:=p'.1 i hij
      have r2:=p'.2 j (Nat.le_refl _) (by omega)
      refine ⟨?_,by omega⟩
      by_cases y:i=j - 1
      ·rw [y]; exact eq
      ·exact (d'.2 i (j - 1) hi (by omega) (by omega)).1.t eq
 ·rintro c t ⟨e,rfl,B',_,ke,d',p'⟩
  rw [show max m n=n by omega] at ke d' p' ⊢
  exact h n e t B' hm (Nat.le_refl _) ke d' p'
theorem al2 {st:SortSt} {m n:Nat} {Q:Option Nat->SortSt->Prop} (hn:n<=a₀.size) (hm:m + 1<=n) (B:SB a₀ kd st) (p:Pre a₀.size (arrOf st) (m + 1)) (d:Des kf (arrOf st) (m + 1) m)
  (h:∀ m t,SB a₀ kd t->1<=m->m<=n->Sta kf (arrOf t) m->Pre a₀.size (arrOf t) m->Q (some m) t):wpS (model prog w) A E s (descPart m n) Q st:=by
 unfold descPart
 refine wpS_bind (wpS_lift (wpAny_rule ⟨rfl,?_⟩))
 refine wpS_bind (ase ask hn (by omega) hm B p (by rw [show m + 1 - 1=m by omega]; exact d) λx e t B' k1 k2 ke d' p'=>?_)
 have z:x<=(arrOf t).size:=by rw [B'.sz]; omega
 show wpS _ _ _ _ (if e > 0 then (reverseSlice' (x - (e + 1)) x >>= λ_=>tail3 x n) else tail3 x n) _ _
 by_cases g:e > 0
 ·rw [if_pos g]
  exact wpS_bind (wpS_reverse (an8 ask hn (by omega) k2 (B'.put (mirror_perm _ _ _ _)) (p'.mir z (Nat.le_refl _)) (d'.turn z (by omega)) h))
 ·rw [if_neg g]
  exact an8 ask hn (by omega) k2 B' p' (d'.one (by omega)) h
theorem ap1 {st:SortSt} {n:Nat} {Q:Option Nat->SortSt->Prop} (hn:n<=a₀.size) (h1:1<=n) (B:SB a₀ kd st) (p:Pre a₀.size (arrOf st) 0)
  (h:∀ m t,SB a₀ kd t->1<=m->m<=n->Sta kf (arrOf t) m->Pre a₀.size (arrOf t) m->Q (some m) t):wpS (model prog w) A E s (countRun' 0 n) Q st:=by
 rw [countRun0_eq]
 have p1:Pre a₀.size (arrOf st) 1:=⟨λk hk=>by rw [p.2 k (by omega) (by omega)]; omega,λk h3 h4=>p.2 k (by omega) h4⟩
 refine wpS_bind (aq1 ask hn (Nat.le_refl 1) h1 B p1 (λi j _ _=>by omega) λm m1 m2 hs hp ho=>?_)
 show wpS _ _ _ _ (if (m == n)=true then _ else _) _ _
 by_cases e:m=n
 ·rw [if_pos (by simpa using e)]
  exact wpS_pure (h m st B m1 m2 hs hp)
 ·rw [if_neg (by simpa using e)]
  obtain ⟨ml,l⟩:=ho.resolve_left e
  have pn:∀ ys:Array Keyed,Pre a₀.size ys m->Pre a₀.size ys (m + 1):=λys q=>⟨λk hk=>by
   by_cases y:k<m
   ·have:=q.1 k y; omega
   ·rw [q.2 k (by omega) (by omega)]; omega,λk h3 h4=>q.2 k (by omega) h4⟩
  by_cases g:m > 1
  ·rw [if_pos g]
   refine wpS_bind (ask _ _ _ _ B (by omega) (by omega) ?_)
   by_cases r:Kl kf (arrOf st) 0 (m - 1)
   ·rw [decide_eq_true r]
    exact wpS_pure (h m st B m1 m2 hs hp)
   ·rw [decide_eq_false r]
    have z:m<=(arrOf st).size:=by rw [B.sz]; omega
    have all:∀ i j,i<j->j<m->Ke kf (arrOf st) i j /\ qr (arrOf st) i<qr (arrOf st) j:=λi j hij hj=>by
     have a1:=hs i j hij hj
     have a2:i=0 \/ Lq kf (arrOf st) 0 i:=by
      by_cases y:i=0
      ·exact .inl y
      ·exact .inr (hs 0 i (by omega) (by omega))
     have a3:j=m - 1 \/ Lq kf (arrOf st) j (m - 1):=by
      by_cases y:j=m - 1
      ·exact .inl y
      ·exact .inr (hs j (m - 1) (by omega) (by omega))
     rcases a1 with k1 | k1
     ·have k2:Kl kf (arrOf st) 0 j:=by
       rcases a2 with y | y
       ·rw [y] at k1; exact k1
       ·exact Kl.qt y k1
      refine absurd ?_ r
      rcases a3 with y | y
      ·rw [y] at k2; exact k2
      ·exact k2.tq y
     ·exact k1
    have ds:Des kf (arrOf st) m 0:=⟨λi j _ _ hi=>by omega,λi j _ hij hj=>all i j hij hj⟩
    show wpS _ _ _ _ (reverseSlice' 0 m >>= λ_=>descPart m n) _ _
    refine wpS_bind (wpS_reverse (al2 ask hn (by omega) (B.put (mirror_perm _ _ _ _)) (pn _ (hp.mir z (Nat.le_refl _))) ?_ h))
    have dd:=ds.turn z (by omega)
    have low:∀ i,i<m->Kl kf (arrOf st) m i:=λi hi=>by
     by_cases y:i=m - 1
     ·rw [y]; exact l
     ·exact Ke.r l (all i (m - 1) (by omega) (by omega)).1.s
    have ayY:∀ i,i<m->Kl kf (mirror (arrOf st) 0 m ((m - 0) / 2)) m i:=λi hi=>by
     rcases mir (i:=0) z m with ⟨_,b,_⟩ | ⟨_,e1⟩
     ·omega
     ·rcases mir (i:=0) z i with ⟨_,_,e2⟩ | ⟨_,e2⟩
      ·rw [awB e1 e2]; exact low _ (by omega)
      ·rw [awB e1 e2]; exact low _ hi
    refine ⟨λi j hij hj hi=>?_,λi j _ _ _=>by omega⟩
    by_cases y:j<m
    ·exact ⟨dd i j hij y,λz=>by omega⟩
    ·have:j=m:=by omega
     subst this
     exact ⟨.inl (ayY i hi),λ_=>ayY i hi⟩
  ·rw [if_neg g]
   have e1:m=1:=by omega
   subst e1
   refine al2 ask hn (by omega) B (pn _ hp) ⟨λi j hij hj hi=>?_,λi j _ _ _=>by omega⟩ h
   have i0:i=0:=by omega
   have j1:j=1:=by omega
   subst i0 j1
   exact ⟨.inl l,λ_=>l⟩
theorem au8 {st:SortSt} {n ok:Nat} {Q:Bool->SortSt->Prop} (hn:n<=a₀.size) (h1:1<=ok) (hok:ok<=n) (B:SB a₀ kd st) (p:Pre a₀.size (arrOf st) ok) (d:Sta kf (arrOf st) ok)
  (h:∀ t,SB a₀ kd t->Sta kf (arrOf t) n->Q true t):wpS (model prog w) A E s (binarySort' 0 n ok) Q st:=by
 rw [binarySort'_eq]
 simp only [Nat.zero_add]
 refine wpS_bind (wpS_mono (wpS_forRange (I:=λk c t=>c=(none,()) /\ SB a₀ kd t /\ k<=n /\ Sta kf (arrOf t) k /\ Pre a₀.size (arrOf t) k) (Q:=λc t=>c=(none,()) /\ SB a₀ kd t /\ Sta kf (arrOf t) n) ?_ ?_ ?_) ?_)
 ·rintro k c t k1 k2 ⟨rfl,B',_,d',p'⟩
  have hk:k<a₀.size:=by omega
  have rk:=p'.2 k (Nat.le_refl _) hk
  refine wpS_bind (wpS_mono (wpS_forRange (I:=λx c u=>u=t /\ ∃ l r,c=(none,l,r) /\ l<=r /\ r<=k /\ r - l<=k - x /\ (∀ i,i<l->¬ Kl kf (arrOf t) k i) /\ ∀ i,r<=i->i<k->Kl kf (arrOf t) k i)
   (Q:=λc u=>u=t /\ ∃ l r,c=(none,l,r) /\ l<=k /\ (∀ i,i<l->¬ Kl kf (arrOf t) k i) /\ ∀ i,l<=i->i<k->Kl kf (arrOf t) k i) ?_ ?_ ?_) ?_)
  ·rintro x c u _ hx ⟨rfl,l,r,rfl,g1,g2,g3,lo,hi⟩
   dsimp only
   by_cases g:l >= r
   ·rw [if_pos g]
    have:l=r:=by omega
    subst this
    exact wpS_pure ⟨rfl,l,l,rfl,g2,lo,hi⟩
   ·rw [if_neg g]
    refine wpS_bind (ask _ _ _ _ B' hk (by omega) ?_)
    by_cases le:Kl kf (arrOf u) k ((l + r) / 2)
    ·rw [decide_eq_true le]
     refine wpS_pure ⟨rfl,l,(l + r) / 2,rfl,by omega,by omega,by omega,lo,λi h1 h2=>?_⟩
     by_cases y:i=(l + r) / 2
     ·rw [y]; exact le
     ·exact le.tq (d' ((l + r) / 2) i (by omega) h2)
    ·rw [decide_eq_false le]
     refine wpS_pure ⟨rfl,(l + r) / 2 + 1,r,rfl,by omega,by omega,by omega,λi h1=>?_,hi⟩
     by_cases y:i=(l + r) / 2
     ·rw [y]; exact le
     ·exact λz=>le (z.tq (d' i ((l + r) / 2) (by omega) (by omega)))
  ·rintro c u ⟨rfl,l,r,rfl,g1,g2,g3,lo,hi⟩
   have:l=r:=by omega
   subst this
   exact ⟨rfl,l,l,rfl,g2,lo,hi⟩
  ·exact ⟨rfl,0,k,rfl,by omega,by omega,by omega,λi hi=>by omega,λi g1 g2=>by omega⟩
  ·rintro c u ⟨rfl,l,r,rfl,lk,lo,hi⟩
   show wpS _ _ _ _ (moveDown' k l >>= λ_=>pure (ForInStep.yield (none,()))) _ _
   rw [moveDown'_eq]
   refine wpS_bind (wpS_modify (wpS_pure ⟨rfl,B'.put (bubble_perm _ _ _),k2,?_,?_⟩))
   all_goals
    have ks:k<(arrOf u).size:=by rw [B'.sz]; exact hk
    have bb:=getElem?_bubble ks (k - l) (by omega)
    rw [show k - (k - l)=l by omega] at bb
    have b1:(bubble (arrOf u) k (k - l))[l]? = (arrOf u)[k]? := by rw [bb,if_pos rfl]
    have b2:∀ i,l<i->i<=k->(bubble (arrOf u) k (k - l))[i]? = (arrOf u)[i - 1]? := λi g1 g2=>by rw [bb,if_neg (by omega),if_pos ⟨g1,g2⟩]
    have b3:∀ i,i<l->(bubble (arrOf u) k (k - l))[i]? = (arrOf u)[i]? := λi g1=>by rw [bb,if_neg (by omega),if_neg (by omega)]
    have b4:∀ i,k<i->(bubble (arrOf u) k (k - l))[i]? = (arrOf u)[i]? := λi g1=>by rw [bb,if_neg (by omega),if_neg (by omega)]
   ·intro i j hij hj
    show Lq kf (bubble (arrOf u) k (k - l)) i j
    rcases Nat.lt_trichotomy i l with y | y | y <;> rcases Nat.lt_trichotomy j l with y' | y' | y'
    ·rw [ap0 (b3 i y) (b3 j y')]; exact d' i j hij (by omega)
    ·subst y'
     rw [ap0 (b3 i y) b1]
     exact Lq.mk (lo i y) (by rw [rk]; exact p'.1 i (by omega))
    ·rw [ap0 (b3 i y) (b2 j y' (by omega))]; exact d' i (j - 1) (by omega) (by omega)
    ·omega
    ·omega
    ·subst y
     rw [ap0 b1 (b2 j y' (by omega))]
     exact .inl (hi _ (by omega) (by omega))
    ·omega
    ·omega
    ·rw [ap0 (b2 i y (by omega)) (b2 j y' (by omega))]; exact d' _ _ (by omega) (by omega)
   ·refine ⟨λi hi'=>?_,λi g1 g2=>?_⟩
    ·show qr (bubble (arrOf u) k (k - l)) i<_
     rcases Nat.lt_trichotomy i l with y | y | y
     ·rw [apZ (b3 i y)]; have:=p'.1 i (by omega); omega
     ·subst y; rw [apZ b1,rk]; omega
     ·rw [apZ (b2 i y (by omega))]; have:=p'.1 (i - 1) (by omega); omega
    ·show qr (bubble (arrOf u) k (k - l)) i=_
     rw [apZ (b4 i (by omega))]
     exact p'.2 i (by omega) g2
 ·rintro c t ⟨rfl,B',kn,d',p'⟩
  refine ⟨rfl,B',?_⟩
  rwa [show max (max ok 1) n=n by omega] at d'
 ·rw [show max ok 1=ok by omega]
  exact ⟨rfl,B,hok,d,p⟩
 ·rintro c t ⟨rfl,B',d'⟩
  exact wpS_pure (h t B' d')
theorem asf {st:SortSt} {Q:Unit->SortSt->Prop} (B:SB a₀ kd st) (h2:2<=a₀.size) (h64:a₀.size<64) (p:Pre a₀.size (arrOf st) 0)
  (h:∀ t,(arrOf t).Perm a₀ -> failedOf t=none->Sta kf (arrOf t) a₀.size->Q () t):wpS (model prog w) A E s sortRuns' Q st:=by
 rw [sortRuns'_eq]
 refine wpS_bind (wpS_get ?_)
 have mr:minRun' (arrOf st).size (arrOf st).size 0=a₀.size:=by
  rw [B.sz]
  obtain ⟨f,hf⟩:∃ f,a₀.size=f + 1:=⟨a₀.size - 1,by omega⟩
  have:minRun' (f + 1) (f + 1) 0=f + 1:=by rw [minRun'_succ,if_pos (by omega)]
  rw [hf]; exact this
 dsimp only
 rw [mr,B.sz]
 have fin:∀ t,SB a₀ kd t->Sta kf (arrOf t) a₀.size->(arrOf (setPending t ((pendingOf t).push (0,a₀.size,0)))).Perm a₀ /\ failedOf (setPending t ((pendingOf t).push (0,a₀.size,0)))=none /\ pendingOf (setPending t ((pendingOf t).push (0,a₀.size,0))) = #[(0,a₀.size,0)] /\ Sta kf (arrOf (setPending t ((pendingOf t).push (0,a₀.size,0)))) a₀.size :=
  λt B' d'=>⟨B'.pm,B'.fl,by show (pendingOf t).push _=_; rw [B'.pd]; rfl,d'⟩
 refine wpS_bind (wpS_mono (wpS_forRange (I:=λx c t=>(x=0 /\ c=(none,0) /\ SB a₀ kd t /\ Pre a₀.size (arrOf t) 0) \/ (1<=x /\ c=(none,a₀.size) /\ (arrOf t).Perm a₀ /\ failedOf t=none /\ pendingOf t = #[(0,a₀.size,0)] /\ Sta kf (arrOf t) a₀.size))
  (Q:=λc t=>c=(none,a₀.size) /\ (arrOf t).Perm a₀ /\ failedOf t=none /\ pendingOf t = #[(0,a₀.size,0)] /\ Sta kf (arrOf t) a₀.size) ?_ ?_ (.inl ⟨rfl,rfl,B,p⟩)) ?_)
 ·rintro x c t _ hx (⟨rfl,rfl,B',p'⟩ | ⟨hx1,rfl,D⟩)
  ·show wpS _ _ _ _ (if 0 >= a₀.size then _ else _) _ _
   rw [if_neg (by omega)]
   simp only [Nat.sub_zero,Nat.min_self,Nat.zero_add]
   refine wpS_bind (ap1 ask (Nat.le_refl _) (by omega) B' p' λm u B2 m1 m2 d2 p2=>?_)
   show wpS _ _ _ _ (if m<a₀.size then _ else _) _ _
   by_cases g:m<a₀.size
   ·rw [if_pos g]
    refine wpS_bind (wpS_lift (wpAny_rule ⟨rfl,?_⟩))
    refine wpS_bind (au8 ask (Nat.le_refl _) m1 m2 B2 p2 d2 λv B3 d3=>?_)
    simp only [Bool.not_true,Bool.false_eq_true,if_false]
    refine wpS_bind (wpS_get ?_)
    rw [show (pendingOf v).back? = none by rw [B3.pd]; rfl]
    exact wpS_bind (wpS_modify (wpS_pure (.inr ⟨by omega,rfl,fin v B3 d3⟩)))
   ·rw [if_neg g]
    have e:m=a₀.size:=by omega
    subst e
    refine wpS_bind (wpS_get ?_)
    rw [show (pendingOf u).back? = none by rw [B2.pd]; rfl]
    exact wpS_bind (wpS_modify (wpS_pure (.inr ⟨by omega,rfl,fin u B2 d2⟩)))
  ·show wpS _ _ _ _ (if a₀.size >= a₀.size then _ else _) _ _
   rw [if_pos (Nat.le_refl _)]
   exact wpS_pure ⟨rfl,D⟩
 ·rintro c t (⟨hx,_,_⟩ | ⟨_,hc,D⟩)
  ·omega
  ·exact ⟨hc,D⟩
 ·rintro c t ⟨rfl,D⟩
  refine wpS_bind (wpS_mono (wpS_forRange (I:=λ_ c u=>u=t /\ c=(none,())) (Q:=λc u=>u=t /\ c=(none,())) ?_ (λ_ _ z=>z) ⟨rfl,rfl⟩) ?_)
  ·rintro x c u _ _ ⟨rfl,rfl⟩
   refine wpS_bind (wpS_get ?_)
   rw [if_pos (by rw [D.2.2.1]; exact Nat.le_refl 1)]
   exact wpS_pure ⟨rfl,rfl⟩
  ·rintro c u ⟨rfl,rfl⟩
   exact wpS_pure (h _ D.1 D.2.1 D.2.2.2)
end
end L2
end
section
namespace L2
open PySem PySem.Spec PyProof.Rows PySem.W
section
variable {X:Cx} {pins:List (Addr × Obj)} {σ : St} {H:Hp} {s:Shared}
theorem Inv.track {a:Addr} {xs:List V} {its:List Value} {n:Nat} (I:Inv X pins σ H s) (f:afr X pins H a) (e:s.heap.get? a=some {cls := .type "list",data := .seq its.toArray n }) (r:Vals xs its) (hz:xs.length<=sizeLine):Inv X pins σ (upd H a (.lst xs)) s:=by
 obtain ⟨f0,f1,f2,f3,f4,f5⟩:=f
 have ok:HOk X.prog X.w (upd H a (.lst xs)) s.heap:=λb u q=>by
  by_cases hb:b=a
  ·subst hb; rw [aa9] at q; cases q; exact ⟨hz,its,n,r,e⟩
  ·rw [aaF hb] at q
   exact (I.hok b u q).stay (λc v _ z=>z) (λc z=>by rw [aaF (abh z f0)]; exact z) λc ys z=>by rw [aaF (abh z f0)]; exact z
 exact I.step (h':=s.heap) (g':=s.gens) (t':=s.toks) (d':=s.drawn) (ch := [a]) (λb hb=>by
   have:b=a:=by simpa using hb
   subst this
   exact ⟨f3,f1,f4,f5⟩) (λb o _ _ _ q _=>q) (λb o _ _ _ q _=>⟨o.slots,q⟩) (λb o hb _ q=>by rw [aaF (by simpa using hb)]; exact q) (λb o _ q=>⟨o,q⟩)
  (λb ys q=>by rw [aaF (abh q f0)]; exact q) (λb o u q=>by rw [aaF (abh q f0)]; exact q) (λb ps q=>⟨#[],by rw [aaF (abh q f0),q]; simp⟩) (λm q=>q) ok I.bare
theorem Inv.sub {ahP:List (Addr × Obj)} (I:Inv X pins σ H s) (h:∀ p ∈ ahP,p ∈ pins):Inv X ahP σ H s:=I.aiw λp hp=>I.pin p (List.mem_append_right _ (h p hp))
theorem Inv.ash {a:Addr} {o:Obj} (I:Inv X pins σ H s) (f:afr X pins H a) (e:s.heap.get? a=some o) (d:∀ v,o.data ≠ .cell v):Inv X ((a,o) :: pins) σ H s:=I.aiw λp hp=>by
 rcases List.mem_cons.mp hp with rfl | hp
 ·exact ⟨e,f.1,f.2.1,f.2.2.1,d⟩
 ·exact I.pin p (List.mem_append_right _ hp)
theorem afr.ash {a b:Addr} {o:Obj} (f:afr X pins H b) (n:a ≠ b):afr X ((a,o) :: pins) H b:=⟨f.1,f.2.1,f.2.2.1,f.2.2.2.1,f.2.2.2.2.1,λp hp=>by
 rcases List.mem_append.mp hp with hp | hp
 ·exact f.2.2.2.2.2 p (List.mem_append_left _ hp)
 ·rcases List.mem_cons.mp hp with rfl | hp
  ·exact n
  ·exact f.2.2.2.2.2 p (List.mem_append_right _ hp)⟩
theorem Inv.wr {a:Addr} {g:Array Value->Array Value} {t':Nat} (I:Inv X pins σ H s) (f:afr X pins H a):Inv X pins σ H {s with heap:=s.heap.update a (Obj.mapSeq g),toks:=t' }:=by
 obtain ⟨f0,f1,f2,f3,f4,f5⟩:=f
 exact I.turned (it:=a) (λb o hb e=>((Heap.SameBut.update s.heap a _).2 b hb).trans e) f0 f1 f3 f4 f5
end
noncomputable def Srt (n:Nat) (kz:Nat->Int × Int) (ys:List Nat):Prop:=ys.Perm (List.range n) /\ ys.Pairwise λi j=>((kz i).1<(kz j).1 \/ ((kz i).1=(kz j).1 /\ (kz i).2<(kz j).2)) \/ (((kz i).1=(kz j).1 /\ (kz i).2=(kz j).2) /\ i<j)
structure akC (X:Cx) (Kv:Hp->Value->Int × Int->Prop) (kd:SortKind):Prop where
 kind:∀ (H:Hp) (keys:Array Value) (kz:Nat->Int × Int),2<=keys.size->(∀ i v,keys[i]? = some v->Kv H v (kz i))->∀ {pins σ s Q E},Inv X pins σ H s->Q kd s->wpAny (model X.prog X.w) X.A.in1.in1 (keyKind' keys) Q E s
 ask:∀ {pins σ H s} {E:Value->Shared->Prop} (a₀ : Array Keyed) (kf:Value->Int × Int),Inv X pins σ H s->(∀ p,p ∈ a₀.toList->Kv H p.1 (kf p.1))->Asks X.prog X.w X.A.in1.in1 E s a₀ kd kf
section
variable {X:Cx}
theorem au9:akC X (λ_ v k=>∃ t,v = .int k.1 t /\ k.2=0) oneType' where
 kind:=λH keys kz h2 hk pins σ s Q E I q=>by
  have hi:IntsAre keys.toList (keys.toList.map numOf):=by
   refine intsAre_map _ λv hv=>?_
   obtain ⟨i,hi,e⟩:=List.getElem_of_mem hv
   obtain ⟨t,z,_⟩:=hk i v (by rw [<-e]; simp [Array.getElem?_eq_getElem (show i<keys.size by simpa using hi)])
   exact ⟨_,t,z⟩
  rw [ksk_kind hi h2]
  exact wpAny_pure q
 ask:=λa₀ kf I h st i j Q B hi hj q=>by
  have h0:IntKeys a₀ := λp hp=>by
   obtain ⟨t,z,_⟩:=h p hp
   exact ⟨_,t,z⟩
  have B':SBase a₀ st:=⟨B.pm,B.kn,B.fl,B.pd⟩
  have at_:∀ i,i<a₀.size->q1 kf (arrOf st) i=K (arrOf st) i /\ q2 kf (arrOf st) i=0:=λi hi=>by
   obtain ⟨t,p,e⟩:=B'.at h0 hi
   have hi':i<(arrOf st).size:=by rw [B.sz]; exact hi
   have hm:(arrOf st)[i] ∈ a₀.toList:=(Array.perm_iff_toList_perm.mp B.pm).mem_iff.mp (by simp)
   obtain ⟨t',z,z2⟩:=h _ hm
   have e':(arrOf st)[i]? = some (arrOf st)[i]:=getElem?_pos _ i hi'
   have e2:(arrOf st)[i]=(Value.int (K (arrOf st) i) t,p):=by rw [e'] at e; exact Option.some.inj e
   rw [e2] at z z2
   unfold q1 q2
   rw [e]
   refine ⟨?_,z2⟩
   have z:Value.int (K (arrOf st) i) t=Value.int (kf (Value.int (K (arrOf st) i) t)).1 t':=z
   injection z with z
   exact z.symm
  refine wpS_ltK B' h0 hi hj ?_
  have:decide (Kl kf (arrOf st) i j)=decide (K (arrOf st) i<K (arrOf st) j):=by
   rw [decide_eq_decide]
   unfold Kl
   rw [(at_ i hi).1,(at_ j hj).1,(at_ i hi).2,(at_ j hj).2]
   omega
  rw [this] at q
  exact q
end
section
variable {X:Cx} {pins:List (Addr × Obj)} {σ : St} {H:Hp} {s:Shared} {Kv:Hp->Value->Int × Int->Prop} {kd:SortKind} {a kS:Addr} {n:Nat} {kz:Nat->Int × Int} {vs:List Value}
theorem an9 {e1:Nat} {keys:Array Value} {e:Nat} {st:SortSt} {P:PySem.Fin->Shared->Prop} {E:Value->Shared->Prop} (I:Inv X pins σ H s) (fk:afr X pins H kS) (fa:afr X pins H a) (ne:kS ≠ a) (hk:s.heap.get? kS=some (seqObj "list" keys e)) (ha:s.heap.get? a=some (seqObj "list" #[] e1)) (hks:keys.size<=64) (hst:(arrOf st).size<=64) (fl:failedOf st=none)
  (h:∀ s' c,Inv X pins σ H s'->s'.heap.get? a=some (seqObj "list" ((arrOf st).map (·.2)) c)->P (.done (.ret .none)) s'):wpAny (model X.prog X.w) X.A.in1.in1 (ksk_tail a false e1 (.ref kS) st) P E s:=by
 unfold ksk_tail
 refine wpAny_bind (listUpdate_at hk rfl ?_ (by rw [sizeLine_eq]; omega) (Nat.zero_le _))
 refine wpAny_bind (wpAny_letGo ?_)
 have I1:=I.wr (g:=λ_ => #[]) (t':=s.toks) fk
 have ha1:(s.heap.update kS (Obj.mapSeq λ_=>(#[]:Array Value))).get? a=some (seqObj "list" #[] e1):=((Heap.SameBut.update s.heap kS _).2 a (Ne.symm ne)).trans ha
 refine wpAny_bind (seqEpoch_at ha1 rfl ?_)
 refine wpAny_bind (listUpdate_at ha1 rfl ?_ (Nat.zero_le _) (by simp only [Bool.false_eq_true,if_false,Array.size_map]; rw [sizeLine_eq]; omega))
 rw [fl]
 simp only [bne_self_eq_false,Bool.false_eq_true,if_false]
 exact wpAny_pure (h _ _ (I1.wr (t':=s.toks) fa) (get?_update_seq ha1 _))
theorem ava {e1:Nat} {keys:Array Value} {e:Nat} {P:PySem.Fin->Shared->Prop} {E:Value->Shared->Prop} (T:akC X Kv kd) (I:Inv X pins σ H s) (fk:afr X pins H kS) (fa:afr X pins H a) (ne:kS ≠ a) (hk:s.heap.get? kS=some (seqObj "list" keys e)) (ha:s.heap.get? a=some (seqObj "list" #[] e1))
  (hv:∀ (i:Nat) (v:Value),vs[i]? = some v->∃ t,v=Value.int i t) (hl:vs.length=n) (hkn:keys.size=n) (h64:n<64) (hK:∀ i v,keys[i]? = some v->Kv H v (kz i)) (inj:∀ v k k',Kv H v k->Kv H v k'->k=k')
  (h:∀ s' c out,Inv X pins σ H s'->s'.heap.get? a=some (seqObj "list" out c)->(∃ ys,Srt n kz ys /\ Vals (ys.map λi:Nat=>V.int i) out.toList)->P (.done (.ret .none)) s'):wpAny (model X.prog X.w) X.A.in1.in1 (ksk_end a false vs.toArray e1 (.ref kS) keys) P E s:=by
 have zsz:(keys.zip vs.toArray).size=n:=by rw [Array.size_zip,hkn,List.size_toArray,hl,Nat.min_self]
 have zat:∀ i,i<n->∃ v t,(keys.zip vs.toArray)[i]? = some (v,.int i t) /\ Kv H v (kz i):=λi hi=>by
  obtain ⟨t,e2⟩:=hv i vs[i] (by simp [hl,hi])
  have e1:keys[i]? = some keys[i]:=getElem?_pos _ _ (by omega)
  refine ⟨keys[i],t,?_,hK i _ e1⟩
  rw [<-Array.getElem?_toList,ksk_zip,List.getElem?_zip_eq_some]
  refine ⟨by simp [Array.getElem?_toList,e1],?_⟩
  show vs[i]? = some (Value.int i t)
  rw [List.getElem?_eq_getElem (by omega),e2]
 -- what the sorted array says
 have fin:∀ (kf:Value->Int × Int) (xs:Array Keyed),(∀ (i:Nat) v t,(keys.zip vs.toArray)[i]? = some (v,Value.int i t)->kf v=kz i)->xs.Perm (keys.zip vs.toArray)->Sta kf xs n->∃ ys,Srt n kz ys /\ Vals (ys.map λi:Nat=>V.int i) (xs.map (·.2)).toList:=λkf xs hkf hp hs=>by
  have hpl:=Array.perm_iff_toList_perm.mp hp
  have mem:∀ p ∈ xs.toList,∃ i t,i<n /\ p.2 = .int (i:Nat) t /\ kf p.1=kz i:=λp hp'=>by
   obtain ⟨i,hi,e⟩:=List.getElem_of_mem (hpl.mem_iff.mp hp')
   have hi':i<n:=by rw [Array.length_toList,zsz] at hi; exact hi
   obtain ⟨v,t,e1,_⟩:=zat i hi'
   have e2:(keys.zip vs.toArray)[i]? = some p:=by rw [<-Array.getElem?_toList,List.getElem?_eq_getElem hi,e]
   rw [e1] at e2
   cases e2
   exact ⟨i,t,hi',rfl,hkf i v t e1⟩
  refine ⟨xs.toList.map λp=>(numOf p.2).toNat,⟨?_,?_⟩,?_⟩
  ·have h1:=hpl.map λp:Keyed=>(numOf p.2).toNat
   refine h1.trans (List.Perm.of_eq ?_)
   refine List.ext_getElem? λi=>?_
   by_cases hi:i<n
   ·obtain ⟨v,t,e1,_⟩:=zat i hi
    rw [List.getElem?_map,Array.getElem?_toList,e1,List.getElem?_range hi]
    simp [numOf]
   ·rw [List.getElem?_eq_none (by simp [zsz]; omega),List.getElem?_eq_none (by simp; omega)]
  ·rw [List.pairwise_map,List.pairwise_iff_getElem]
   intro i j hi hj hij
   have sz:xs.size=n:=by rw [hp.size_eq,zsz]
   have hi':i<xs.size:=by simpa using hi
   have hj':j<xs.size:=by simpa using hj
   have z:=hs i j hij (by omega)
   obtain ⟨a1,t1,_,b1,c1⟩:=mem _ (List.getElem_mem hi)
   obtain ⟨a2,t2,_,b2,c2⟩:=mem _ (List.getElem_mem hj)
   have x1:xs[i]? = some xs.toList[i]:=by rw [<-Array.getElem?_toList,List.getElem?_eq_getElem hi]
   have x2:xs[j]? = some xs.toList[j]:=by rw [<-Array.getElem?_toList,List.getElem?_eq_getElem hj]
   unfold Lq Kl Ke q1 q2 qr at z
   rw [x1,x2] at z
   dsimp only at z
   rw [b1,b2,c1,c2] at z
   rw [b1,b2]
   simp only [numOf,Int.toNat_natCast] at z ⊢
   omega
  ·rw [Array.toList_map,List.map_map]
   have go:∀ l:List Keyed,(∀ p ∈ l,∃ i t,i<n /\ p.2 = .int (i:Nat) t /\ kf p.1=kz i)->Vals (l.map ((λi:Nat=>V.int i) ∘ λp:Keyed=>(numOf p.2).toNat)) (l.map (·.2)):=λl=>by
    induction l with
    | nil=>intro _; exact .nil
    | cons p r ih =>
     intro hm
     refine .cons ?_ (ih λq hq=>hm q (List.mem_cons_of_mem _ hq))
     obtain ⟨i,t,_,e,_⟩:=hm p (List.mem_cons_self ..)
     exact ⟨t,by simp [e,numOf]⟩
   exact go _ mem
 -- a function of the keys
 obtain ⟨kf,hkf⟩:∃ kf:Value->Int × Int,∀ v k,Kv H v k->kf v=k:=by
  classical
  refine ⟨λv=>if q:∃ k,Kv H v k then q.choose else (0,0),λv k hk=>?_⟩
  have q:∃ k,Kv H v k:=⟨k,hk⟩
  dsimp only
  rw [dif_pos q]
  exact inj v _ _ q.choose_spec hk
 have ayZ:∀ (i:Nat) v t,(keys.zip vs.toArray)[i]? = some (v,Value.int i t)->kf v=kz i:=λi v t e=>by
  have hi:i<n:=by
   have:=(Array.getElem?_eq_some_iff.mp e).1
   omega
  obtain ⟨v',t',e1,q⟩:=zat i hi
  rw [e1] at e
  cases e
  exact hkf _ _ q
 unfold ksk_end
 simp only [Bool.false_eq_true,if_false]
 rw [List.size_toArray,hl]
 by_cases h2:n<2
 ·rw [if_pos h2,if_pos h2]
  refine wpAny_bind (wpAny_pure ?_)
  rw [StateT.run_pure]
  refine wpAny_bind (wpAny_pure ?_)
  refine an9 (st:=SortSt.mk' general' (keys.zip vs.toArray) #[] 7 none) I fk fa ne hk ha (by omega) (by show (keys.zip vs.toArray).size<=64; omega) rfl λs' c I' e'=>h s' c _ I' e' (fin kf _ ayZ (Array.Perm.refl _) λi j hij hj=>by omega)
 ·rw [if_neg h2,if_neg h2]
  refine wpAny_bind (T.kind H keys kz (by omega) hK I ?_)
  have ask:=T.ask (E:=E) (s:=s) (keys.zip vs.toArray) kf I (λp hp=>by
   obtain ⟨i,hi,e⟩:=List.getElem_of_mem hp
   have hi':i<n:=by rw [Array.length_toList,zsz] at hi; exact hi
   obtain ⟨v,t,e1,q⟩:=zat i hi'
   have e2:(keys.zip vs.toArray)[i]? = some p:=by rw [<-Array.getElem?_toList,List.getElem?_eq_getElem hi,e]
   rw [e1] at e2
   cases e2
   rw [hkf _ _ q]
   exact q)
  have B:SB (keys.zip vs.toArray) kd (SortSt.mk' kd (keys.zip vs.toArray) #[] 7 none):=⟨Array.Perm.refl _,rfl,rfl,rfl⟩
  have p0:Pre (keys.zip vs.toArray).size (arrOf (SortSt.mk' kd (keys.zip vs.toArray) #[] 7 none)) 0:=⟨λk hk=>by omega,λk _ hk=>by
   obtain ⟨v,t,e1,_⟩:=zat k (by omega)
   show qr (keys.zip vs.toArray) k=k
   unfold qr
   rw [e1]
   rfl⟩
  refine wpAny_bind (wpAny_mono (asf (Q:=λ_ t=>(arrOf t).Perm (keys.zip vs.toArray) /\ failedOf t=none /\ Sta kf (arrOf t) (keys.zip vs.toArray).size) ask B (by omega) (by omega) p0 λt a1 a2 a3=>⟨a1,a2,a3⟩) ?_ λ_ _ z=>z)
  rintro ⟨⟨⟩,t⟩ s' ⟨rfl,hp,hf,hs⟩
  rw [zsz] at hs
  exact an9 I fk fa ne hk ha (by omega) (by rw [hp.size_eq,zsz]; omega) hf λs' c I' e'=>h s' c _ I' e' (fin kf _ ayZ hp hs)
end
end L2
end
section
namespace L2
open PySem PySem.Spec PyProof.Rows PySem.W
section
variable {X:Cx} {pins:List (Addr × Obj)} {σ : St} {H:Hp} {s:Shared} {Kv:Hp->Value->Int × Int->Prop} {kd:SortKind} {n:Nat} {kz:Nat->Int × Int} {vs:List Value} {f:Value}
theorem afr.up {H':Hp} {b:Addr} (h:afr X pins H b) (e:H' b=none):afr X pins H' b:=⟨e,h.2⟩
noncomputable def asi (X:Cx) (pins:List (Addr × Obj)) (σ : St) (H:Hp) (Kv:Hp->Value->Int × Int->Prop) (n:Nat) (kz:Nat->Int × Int) (f:Value):Prop :=
 ∀ (ahP:List (Addr × Obj)) (i:Nat) (t:Tok) (s':Shared) (H':Hp),i<n->(∀ p ∈ pins,p ∈ ahP)->Same H H'->Inv X ahP σ H' s' ->
  wpAny (model X.prog X.w) X.A.in1.in1 (call f [.int i t]) (λv s''=>∃ H'',Same H' H'' /\ Kv H'' v (kz i) /\ Inv X ahP σ H'' s'') (λ_ _=>False) s'
theorem asj {a kS:Addr} {e1:Nat} {P:PySem.Fin->Shared->Prop} {E:Value->Shared->Prop} (T:akC X Kv kd) (mono:∀ {H H':Hp} {v k},Same H H'->Kv H v k->Kv H' v k) (inj:∀ (H:Hp) v k k',Kv H v k->Kv H v k'->k=k')
  (I:Inv X pins σ H s) (fk:afr X pins H kS) (fa:afr X pins H a) (ne:kS ≠ a) (hk:s.heap.get? kS=some (seqObj "list" #[] 0)) (ha:s.heap.get? a=some (seqObj "list" #[] e1))
  (hv:∀ (i:Nat) (v:Value),vs[i]? = some v->∃ t,v=Value.int i t) (hl:vs.length=n) (h64:n<64) (key:asi X pins σ H Kv n kz f)
  (h:∀ s' c out H',Same H H'->H' a=none->Inv X pins σ H' s'->s'.heap.get? a=some (seqObj "list" out c)->(∃ ys,Srt n kz ys /\ Vals (ys.map λi:Nat=>V.int i) out.toList)->P (.done (.ret .none)) s') :
  wpAny (model X.prog X.w) X.A.in1.in1 (ksk_rest a f false vs.toArray e1 (.ref kS)) P E s:=by
 unfold ksk_rest
 refine wpAny_bind (wpAny_rule ?_)
 rw [<-Array.forIn_toList]
 simp only [List.toList_toArray]
 refine wpAny_bind (ksk_fold (λi s'=>∃ H' kA e,Same H H'∧H' kS=none∧H' a=none∧Inv X pins σ H' s'∧s'.heap.get? kS=some (seqObj "list" kA e)∧s'.heap.get? a=some (seqObj "list" #[] e1)∧kA.size=i∧∀ (j:Nat) v,kA[j]? = some v→Kv H' v (kz j)) vs 0 s
  ⟨H,#[],0,Same.refl _,fk.1,fa.1,I,hk,ha,rfl,λj v z=>by simp at z⟩ ?_ ?_)
 ·rintro j x s' hx ⟨H',kA,e,sm,nk,na,I',hk',ha',sz,hK⟩
  rw [Nat.zero_add] at sz ⊢
  have hj:j<vs.length:=(List.getElem?_eq_some_iff.mp hx).1
  obtain ⟨t,rfl⟩:=hv j x hx
  have fk':=fk.up nk
  have fa':=fa.up na
  have I2:Inv X ((kS,seqObj "list" kA e) :: (a,seqObj "list" #[] e1) :: pins) σ H' s':=(I'.ash fa' ha' (λv z=>by cases z)).ash (fk'.ash (Ne.symm ne)) hk' (λv z=>by cases z)
  refine wpAny_bind (wpAny_attempt (wpAny_mono (key _ j t s' H' (by omega) (λp hp=>List.mem_cons_of_mem _ (List.mem_cons_of_mem _ hp)) sm I2) (λv s'' he=>?_) λ_ _ z=>z.elim))
  obtain ⟨H'',sm2,kv,I3⟩:=he
  have p1:=I3.pin (kS,seqObj "list" kA e) (List.mem_append_right _ (List.mem_cons_self ..))
  have p2:=I3.pin (a,seqObj "list" #[] e1) (List.mem_append_right _ (List.mem_cons_of_mem _ (List.mem_cons_self ..)))
  have I4:Inv X pins σ H'' s'':=I3.sub λp hp=>List.mem_cons_of_mem _ (List.mem_cons_of_mem _ hp)
  show wpAny _ _ (Builtin.List.listUpdate (.ref kS) (·.push v) >>= λ_=>pure (ForInStep.yield PUnit.unit)) _ _ _
  refine wpAny_bind (listUpdate_at p1.1 rfl ?_ (by rw [sizeLine_eq]; omega) (Nat.le_trans (Nat.le_of_eq (Array.size_push ..)) (by rw [sizeLine_eq]; omega)))
  refine wpAny_pure ⟨rfl,H'',kA.push v,_,sm.trans sm2,p1.2.1,p2.2.1,I4.wr (t':=s''.toks) (fk.up p1.2.1),get?_update_seq p1.1 _,((Heap.SameBut.update s''.heap kS _).2 a (Ne.symm ne)).trans p2.1,by rw [Array.size_push,sz],λi u q=>?_⟩
  rw [Array.getElem?_push] at q
  split at q
  ·rename_i z
   cases q
   rw [z,sz]
   exact kv
  ·exact mono sm2 (hK i u q)
 ·rintro s' ⟨H',kA,e,sm,nk,na,I',hk',ha',sz,hK⟩
  refine wpAny_bind (listItems_at hk' rfl ?_)
  exact ava T I' (fk.up nk) (fa.up na) ne hk' ha' hv hl (by omega) h64 hK (inj H') λs'' c out I'' e'' q=>h s'' c out H' sm na I'' e'' q
theorem asl {a:Addr} {c0:Nat} {P:PySem.Fin->Shared->Prop} {E:Value->Shared->Prop} (T:akC X Kv kd) (mono:∀ {H H':Hp} {v k},Same H H'->Kv H v k->Kv H' v k) (inj:∀ (H:Hp) v k k',Kv H v k->Kv H v k'->k=k')
  (I:Inv X pins σ H s) (fa:afr X pins H a) (ha:s.heap.get? a=some (seqObj "list" vs.toArray c0))
  (hv:∀ (i:Nat) (v:Value),vs[i]? = some v->∃ t,v=Value.int i t) (hl:vs.length=n) (h64:n<64) (key:asi X pins σ H Kv n kz f)
  (h:∀ s' c out H',Same H H'->H' a=none->Inv X pins σ H' s'->s'.heap.get? a=some (seqObj "list" out c)->(∃ ys,Srt n kz ys /\ Vals (ys.map λi:Nat=>V.int i) out.toList)->P (.done (.ret .none)) s') :
  wpAny (model X.prog X.w) X.A.in1.in1 (ksk_tree a f false) P E s:=by
 unfold ksk_tree
 refine wpAny_bind (listItems_at ha rfl ?_)
 refine wpAny_bind (listUpdate_at ha rfl ?_ (by rw [List.size_toArray,sizeLine_eq]; omega) (Nat.zero_le _))
 have I1:=I.wr (g:=λ_ => #[]) (t':=s.toks) fa
 obtain ⟨e1,ha1⟩:∃ e1,(s.heap.update a (Obj.mapSeq λ_=>(#[]:Array Value))).get? a=some (seqObj "list" #[] e1):=⟨_,get?_update_seq ha _⟩
 refine wpAny_bind (seqEpoch_at ha1 rfl ?_)
 refine wpAny_bind (wpAny_newTuple ?_ (by show vs.toArray.toList.length<=_; rw [List.toList_toArray,sizeLine_eq]; omega))
 refine wpAny_bind (wpAny_newList ?_ (Nat.zero_le _))
 have I2:Inv X pins σ H {s with heap:=(s.heap.update a (Obj.mapSeq λ_=>(#[]:Array Value))).push {cls := .type "tuple",data := .seq vs.toArray.toList.toArray } }:=I1.kept (t':=s.toks) λb o e=>Heap.get?_push_of_some _ e
 have I3:Inv X pins σ H {s with heap:=((s.heap.update a (Obj.mapSeq λ_=>(#[]:Array Value))).push {cls := .type "tuple",data := .seq vs.toArray.toList.toArray }).push {cls := .type "list",data := .seq ([]:List Value).toArray } }:=I2.kept (t':=s.toks) λb o e=>Heap.get?_push_of_some _ e
 have lt:a<((s.heap.update a (Obj.mapSeq λ_=>(#[]:Array Value))).push {cls := .type "tuple",data := .seq vs.toArray.toList.toArray }).objs.size:=by
  rw [size_push',Heap.size_update]
  exact Nat.lt_succ_of_lt (Heap.lt_size ha)
 refine wpAny_holding ?_
 exact asj T mono inj I3 (I2.apc (Nat.le_refl _) (I2.hok.fresh (Nat.le_refl _))) fa (Nat.ne_of_gt lt) (Heap.get?_push_size _ rfl) (Heap.get?_push_of_some _ (Heap.get?_push_of_some _ ha1)) hv hl h64 key h
theorem akD {A:Around} {r:Addr} {n:Nat} {t u v:Tok} {Q:List Value->Shared->Prop} {E:Value->Shared->Prop} {P:Program} {w:World} (hh:A.handled=none) (hr:IsRange s.heap r 0 n 1 t u v) (hn:n<=1000)
  (h:∀ h' tk (vs:List Value),(∀ b o,s.heap.get? b=some o->h'.get? b=some o)->vs.length=n->(∀ (i:Nat) (v:Value),vs[i]? = some v->∃ t,v=Value.int i t)->Q vs {s with heap:=h',toks:=tk }) :
  wpAny (model P w) A (collect (.ref r)) Q E s:=by
 unfold collect
 refine wpAny_bind (wpAny_runValue (codeAny_builtin F.entry_proto_collect ?_))
 rw [Around.under_plainId F.plain_proto_collect _]
 show wpAny _ A.in1 (newList [] >>= λl=>again (.builtin "list.__iadd__" ⟨[l,.ref r],[]⟩)) _ _ s
 refine wpAny_bind (wpAny_newList ?_ (Nat.zero_le _))
 refine wpAny_pure ⟨plainId_quiet F.plain_list_iadd _,codeAny_builtin F.entry_list_iadd ?_⟩
 rw [Around.under_plainId F.plain_list_iadd _]
 have sz1:Builtin.Range.rangeSize 0 (n:Int) 1=n:=by rw [rangeSize_one]; split <;> omega
 have keep:∀ b o,s.heap.get? b=some o->(s.heap.push {cls := .type "list",data := .seq ([]:List Value).toArray }).get? b=some o:=λb o e=>Heap.get?_push_of_some _ e
 show wpAny _ A.in1 (Builtin.List.listExtendWith (.ref s.heap.objs.size) (.ref r) (.ref s.heap.objs.size)) _ _ {s with heap:=s.heap.push {cls := .type "list",data := .seq ([]:List Value).toArray } }
 refine wpAny_extend_range (A:=A) (R:=λr s'=>match r with
  | Except.ok (Flow.ret v)=>wpAny (model P w) A (match v with
   | Value.ref a=>do
    let __do_lift <-load a
    match __do_lift.data with
     | Data.seq xs epoch=>pure xs.toList
     | x=>unsupported "internal:collect"
   | x=>unsupported "internal:collect") Q E s'
  | Except.ok a=>False
  | Except.error e=>E e s') (s:={s with heap:=s.heap.push {cls := .type "list",data := .seq ([]:List Value).toArray } }) hh (keep _ _ hr) (small_one (by omega) (by omega) (by omega) (by omega)) sz1 (by omega) s.heap.objs.size (.ref s.heap.objs.size) 0 (Heap.get?_push_size _ rfl) λh' tk acc c hk hS hi=>?_
 show wpAny _ A (load s.heap.objs.size >>= _) _ _ _
 refine wpAny_bind (wpAny_load hS ?_)
 refine wpAny_pure (h h' tk acc.toList (λb o e=>hk b o (Nat.ne_of_lt (Heap.lt_size e)) (keep b o e)) (by rw [Array.length_toList]; exact hi.1) λi v e=>?_)
 rw [Array.getElem?_toList] at e
 obtain ⟨t,z⟩:=hi.2 i v e
 exact ⟨t,by rw [z]; simp⟩
theorem aoa {r:Addr} {t u v:Tok} {q:Addr} {Q:Value->Shared->Prop} {E:Value->Shared->Prop} (T:akC X Kv kd) (mono:∀ {H H':Hp} {v k},Same H H'->Kv H v k->Kv H' v k) (inj:∀ (H:Hp) v k k',Kv H v k->Kv H v k'->k=k')
  (I:Inv X pins σ H s) (hh:X.A.handled=none) (hr:IsRange s.heap r 0 n 1 t u v) (h64:n<64) (key:asi X pins σ H Kv n kz (.ref q))
  (h:∀ s' D ys H',Same H H'->H' D=none->Inv X pins σ (upd H' D (.lst (ys.map λi:Nat=>V.int i))) s'->Srt n kz ys->Q (.ref D) s') :
  wpAny (model X.prog X.w) X.A (call (.builtin "sorted") [.ref r] [(Str.ofString "key",.ref q)]) Q E s:=by
 refine call_function_entry_kw kind_sorted plain_sorted entry_sorted (ksk_s1 _ _) ?_
 unfold Builtin.«sorted»
 refine wpAny_bind (m:=checkCount "sorted" 1 1 _) (wpAny_pure ?_)
 refine wpAny_bind (akD (A:=X.A.in1) hh hr (by omega) λh1 tk vs keep hl hv=>?_)
 have I1:Inv X pins σ H {s with heap:=h1,toks:=tk }:=I.kept keep
 refine wpAny_bind (wpAny_newList ?_ (by rw [sizeLine_eq]; omega))
 have I2:Inv X pins σ H {s with heap:=h1.push {cls := .type "list",data := .seq vs.toArray },toks:=tk }:=I1.kept (t':=tk) λb o e=>Heap.get?_push_of_some _ e
 have ha:(h1.push {cls := .type "list",data := .seq vs.toArray }).get? h1.objs.size=some (seqObj "list" vs.toArray 0):=Heap.get?_push_size _ rfl
 refine wpAny_bind (wpAny_holding (wpAny_call_entry_kw slot_list_sort ⟨_,ha,rfl⟩ entry_list_sort ?_ (ksk_l1 _ _)))
 show wpAny (model X.prog X.w) X.A.in1.in1 (Builtin.«list.sort» ⟨[.ref h1.objs.size],[(Str.ofString "key",.ref q)]⟩) _ _ _
 rw [ksk_t1]
 have fa:afr X pins H h1.objs.size:=I1.apc (Nat.le_refl _) (I1.hok.fresh (Nat.le_refl _))
 refine asl T mono inj I2 fa ha hv hl h64 key λs' c out H' sm na I' e' ⟨ys,hs,hv'⟩=>⟨_,rfl,?_⟩
 refine wpAny_pure ⟨_,rfl,h s' _ ys H' sm na (I'.track (its:=out.toList) (n:=c) (fa.up na) e' hv' ?_) hs⟩
 have:=hs.1.length_eq
 rw [List.length_map,this,List.length_range,sizeLine_eq]
 omega
end
end L2
end
section
namespace L2
open PySem PySem.Spec PyProof.Rows PySem.W
noncomputable def asn (X:Cx) (A:Around) (N:List Str) (qual:Str) (scope:Scope) (f:Addr) (cd:Value) (s:Shared) (H:Hp):Cx where
 prog:=X.prog
 w:=X.w
 K:=X.K
 mg:=X.mg
 base:=X.base
 A:=A.deeper (envX qual scope s.heap.objs.size f cd (aaH X.env.cells scope.names []))
 N:=N
 s₀ := s
 H₀ := H
 env:=envX qual scope s.heap.objs.size f cd (aaH X.env.cells scope.names [])
 outer:=X.stack
 stack:=envX qual scope s.heap.objs.size f cd (aaH X.env.cells scope.names []) :: X.stack
 ex := []
 fn:=λ_=>false
 calm:=true
 pn := []
 xe:=λ_ _=>False
structure ap2 (sc:Scope) (No:List Str) (x:Str) (Ns:List Str) (src:List (Option Nat)) (scope:Scope):Prop where
 c:ajs sc No (x :: Ns) (none :: src) scope
 aq2:∀ y ∈ scope.names,y.2 ≠ .cell
 par:scope.names.lookup x=some .local
 co:scope.isCoroutine=false
 gen:scope.isGenerator=false
section
variable {X:Cx} {pins:List (Addr × Obj)} {σ : St} {H:Hp} {s:Shared} {sc scope:Scope} {No Ns:List Str} {src:List (Option Nat)} {x qual:Str}
theorem aob {A:Around} {f:Addr} {cd:Value} {h₁ : Heap} {tk:Nat} {v:V} {u:Value} (hsc:X.env.scope=sc) (hNo:X.N=No) (S:ap2 sc No x Ns src scope) (hfr:A.frames=some X.stack) (hhd:A.handled=none) (I:Inv X pins σ H s) (rv:RelV v u)
  (hns:h₁.Ns s.heap.objs.size (λy=>([(x,u)]:List (Str × Value)).reverse.lookup y)) (old:∀ b o,s.heap.get? b=some o->h₁.get? b=some o) :
  Inv (asn X A (x :: Ns) qual scope f cd s H) [] (some v :: agy src σ) H {s with heap:=h₁,toks:=tk }:=by
 subst hsc
 subst hNo
 have ahp:∀ x c,(aaH X.env.cells scope.names []).lookup x=some c->X.env.cells.lookup x=some c:=λx c h=>by
  rcases abW h with q | q
  ·simp at q
  ·exact q
 refine ⟨⟨I.ok.mod,S.c.kind,rfl,rfl,Nat.le_refl _,λx y c h1 h2=>I.ok.inj x y c (ahp _ _ h1) (ahp _ _ h2),λy hy=>?_,λx c h=>(Bool.false_ne_true h).elim,λ_=>hhd,Around.frames_deeper hfr,.inr ⟨rfl,rfl⟩,λb hb=>absurd (show b ∈ ([]:List Addr) from hb) (by simp),
   I.bs,Nat.le_trans I.ok.bsz I.sz,λb o e=>by intro hb; exact absurd (show b ∈ ([]:List Addr) from hb) (by simp),λb hb=>absurd (show b ∈ ([]:List Addr) from hb) (by simp),I.stack,I.afS⟩,
  rfl,I.bare,Un.kept old,⟨_,hns,λi y w' h1 h2 h3=>?_⟩,λy c e=>?_,I.hok.fresh (Nat.le_refl _),λy c e=>I.afo y c (ahp y c e),λp hp=>absurd (show p ∈ ([]:List (Addr × Obj)) from hp) (by simp),I.hok.kept old,?_⟩
 ·have hy:scope.names.lookup y=some .cell \/ scope.names.lookup y=some .free:=hy
  have m:(y,NameKind.free) ∈ scope.names:=by
   rcases hy with z | z
   ·exact absurd rfl (S.aq2 _ (PySem.mem_of_lookup z))
   ·exact PySem.mem_of_lookup z
  have q:=abI (cells:=X.env.cells) (acc := []) (.inr ⟨m,by
   obtain ⟨c,e⟩:=I.ok.has y (S.c.free _ m rfl)
   rw [e]; rfl⟩)
  exact Option.isSome_iff_exists.mp q
 ·cases i with
  | zero =>
   have h1:some x=some y:=h1
   cases h1
   have h2:some (some v)=some (some w'):=h2
   cases h2
   exact ⟨u,rv,.inl ⟨S.par,by show ([(x,u)]:List (Str × Value)).reverse.lookup x=some u; simp⟩⟩
  | succ i =>
   have h1:Ns[i]? = some y:=h1
   have h2:(agy src σ)[i]? = some (some w'):=h2
   have hi:i<src.length:=by
    unfold agy at h2
    have:=(List.getElem?_eq_some_iff.mp h2).1
    simpa using this
   have h2':((src[i]).bind λj=>(σ[j]?).join)=some w':=by
    unfold agy at h2
    rw [List.getElem?_map,List.getElem?_eq_getElem hi] at h2
    exact Option.some.inj h2
   cases es:src[i] with
   | none=>rw [es] at h2'; cases h2'
   | some j =>
    rw [es] at h2'
    have hj : σ[j]? = some (some w'):=by
     have z:(σ[j]?).join=some w':=h2'
     cases q : σ[j]? with
     | none=>rw [q] at z; cases z
     | some o=>rw [q] at z; have z':o=some w':=z; rw [z']
    have hz:(y,some j) ∈ (x :: Ns).zip (none :: src):=by
     refine List.mem_of_getElem? (i:=i + 1) ?_
     rw [List.getElem?_zip_eq_some]
     exact ⟨by simpa using h1,by simp [List.getElem?_eq_getElem hi,es]⟩
    obtain ⟨u1,u2⟩:=S.c.up _ hz j rfl
    have m:(y,NameKind.free) ∈ scope.names:=PySem.mem_of_lookup u2
    have kx:=S.c.free _ m rfl
    obtain ⟨m0,hn0,hl0⟩:=id I.loc
    obtain ⟨u',r,lk⟩:=hl0 j y w' u1 hj (kx.elim (λz => .inr (.inl z)) λz => .inr (.inr z))
    refine ⟨u',r,?_⟩
    rcases lk with ⟨k,_⟩ | ⟨_,c,e,ic⟩
    ·have k':X.env.scope.names.lookup y=some .local:=k
     rcases kx with z | z <;> (rw [z] at k'; cases k')
    ·refine .inr ⟨.inr u2,c,?_,?_⟩
     ·have q:=abI (cells:=X.env.cells) (acc := []) (.inr ⟨m,by rw [e]; rfl⟩)
      obtain ⟨c',e'⟩:=Option.isSome_iff_exists.mp q
      have e2:=ahp y c' e'
      rw [e] at e2; cases e2
      exact e'
     ·obtain ⟨o,ho,hd⟩:=ic
      exact ⟨o,old _ _ ho,hd⟩
 ·obtain ⟨v,o,ho,hd⟩:=I.cell y c (ahp y c e)
  exact ⟨v,o,old _ _ ho,hd⟩
 ·have:=S.c.len
  show _=(x :: Ns).length
  rw [List.length_cons] at this ⊢
  rw [List.length_cons]
  unfold agy
  rw [List.length_map]
  exact this
theorem ap3 {A:Around} {f c':Addr} {params:Arguments} {body:Expr} {pm ctv:Value} {v:V} {u:Value} {te:TE} {Q:VK} {E:Value->Shared->Prop} (hsc:X.env.scope=sc) (hNo:X.N=No) (S:ap2 sc No x Ns src scope) (hfr:A.frames=some X.stack) (hhd:A.handled=none) (hroom:A.depth<recursionLimit)
  (I:Inv X pins σ H s) (ho:s.heap.get? f=some (kla_obj "<lambda>" qual params body scope (aaH X.env.cells scope.names []) pm c' ctv)) (hcd:s.heap.CodeRec (.ref c') qual) (rv:RelV v u)
  (hbind:bindArgs (kla_fn "<lambda>" qual params body scope (aaH X.env.cells scope.names []) pm (.ref c') ctv) ⟨[u],[]⟩=pure [(x,u)])
  (he:∀ s H,PE (asn X A (x :: Ns) qual scope f (.ref c') s H) body te) (hq:te (some v :: agy src σ) H Q):wpAny (model X.prog X.w) A (call (.ref f) [u]) (EP X pins σ Q) E s:=by
 refine wpAny_call (kla_callFunE hroom ho rfl S.co S.gen rfl hcd ?_)
 rw [hbind]
 refine wpAny_pure (wpAny_newFunctionEnv S.aq2 (λy hy=>?_) (λh₁ hns hsb=>⟨I.nolimit.fresh _ hsb,?_⟩) S.c.kind)
 ·have:y=(x,u):=by simpa using hy
  subst this
  exact S.par
 have old:∀ b o,s.heap.get? b=some o->h₁.get? b=some o:=λb o e=>hsb.extBut b o (Nat.ne_of_lt (Heap.lt_size e)) (Heap.get?_push_of_some _ e)
 have J:=aob (A:=A) (f:=f) (cd := .ref c') (qual:=qual) (tk:=s.toks + [(x,u)].length) hsc hNo S hfr hhd I rv hns old
 show codeAny _ _ (.expr body (envX qual scope s.heap.objs.size f (.ref c') (aaH X.env.cells scope.names []))) _ _
 refine kla_codeExpr (wpAny_mono (he s H [] _ _ H Q J hq) (λw' s' hw=>?_) λ_ _ z=>z.elim)
 obtain ⟨v',H',J',r',q'⟩:=hw
 exact ⟨v',H',I.call' (ch := []) J'.os J'.base J'.hok J'.bare (λb hb=>absurd hb (by simp)),r',q'⟩
end
end L2
end
section
namespace L2
open PySem PySem.Spec PyProof.Rows PySem.W
noncomputable def ap4 (mg:Str→Option Value) (base:Heap):Prop:=∃ bm ob,mg "__builtins__" = some (.ref bm)∧bm ≠ builtinsNs∧bm ≠ mainGlobals∧base.get? bm=some ob∧ob.cls = .type "module" ∧ ob.dict=some builtinsNs∧ob.data = .plain
theorem ajD {a b:Int} {t u:Tok} {c:Value}:∀ {l:List Value},TriplesOk l->TriplesOk (l ++ [.int a t,.int b u,c])
 | [],_=>trivial
 | .int _ _ :: .int _ _ :: _ :: r,h=>ajD (l:=r) h
theorem aii {a b:Int} {t u:Tok} {c v:Value} {pos:Pos}:∀ {l:List Value},TriplesOk l->codeAmong pos (l ++ [.int a t,.int b u,c])=some v->codeAmong pos l=some v \/ v=c
 | [],_,h=>by
  have h:(if _ then some c else none)=some v:=h
  split at h
  ·cases h; exact .inr rfl
  ·cases h
 | .int x _ :: .int y _ :: z :: r,o,h=>by
  have h:(if (x == pos.line && y == pos.col)=true then some z else codeAmong pos (r ++ [.int a t,.int b u,c]))=some v:=h
  show (if (x == pos.line && y == pos.col)=true then some z else codeAmong pos r)=some v \/ _
  split at h
  ·rename_i q
   rw [if_pos q]
   exact .inl h
  ·rename_i q
   rw [if_neg q]
   exact aii (l:=r) o h
section
variable {X:Cx} {pins:List (Addr × Obj)} {σ : St} {H:Hp} {s:Shared} {sc scope:Scope} {No Ns:List Str} {src:List (Option Nat)} {x:Str}
structure awC (P:Addr) (q:Str) (H H':Hp):Prop where
 kp:∀ b o,H b=some o->b ≠ P->H' b=some o
 tb:∃ ps,H' P=some (.tbl ps) /\ awv H' q ps
theorem ap5 {A:Around} {c P:Addr} {ps:Array Value} {params:Arguments} {body:Expr} {pos:Pos} {Q:Value->Shared->Prop} {E:Value->Shared->Prop} (hsc:X.env.scope=sc) (S:ap2 sc No x Ns src scope) (hcode:X.env.code = .ref c) (C:CodeHd X.base c P) (B:ap4 X.mg X.base)
  (hdef:defaultsOf params X.env=([],[])) (I:Inv X pins σ H s) (hP:H P=some (.tbl ps)) (ok:awv H (X.env.qual ++ ("<lambda>" : Str)) ps)
  (h:∀ f c' ctv pm H' s' oc,awC P (X.env.qual ++ ("<lambda>" : Str)) H H'→Inv X ((f,kla_obj "<lambda>" (X.env.qual ++ ("<lambda>" : Str)) params body scope (aaH X.env.cells scope.names []) pm c' ctv) :: pins) σ H' s'→H' c'=some (.frz oc (.own 0))→aqQ oc (X.env.qual ++ ("<lambda>" : Str))→Q (.ref f) s') :
  wpAny (model X.prog X.w) A (eval (.Lambda params body scope pos) X.env) Q E s:=by
 have hcl:closureFor scope X.env=pure (aaH X.env.cells scope.names []):=afV λy hy e=>by
  have k:=S.c.free y hy e
  rw [<-hsc] at k
  obtain ⟨c,q⟩:=I.ok.has y.1 k
  rw [q]; rfl
 have oP:s.heap.get? P=some (tabObj ps):=I.hok P _ hP
 have nP:mainGlobals ≠ P:=λz=>by
  obtain ⟨o,es,ep,e,hd,_⟩:=I.ok.mod.glob
  have:=(I.bs _ _ e).2
  rw [z,hP] at this
  cases this
 have hg:s.heap.Ns mainGlobals X.mg:=let ⟨o,es,ep,e,r⟩:=I.ok.mod.glob; ⟨o,es,ep,I.bk _ _ e,r⟩
 have hB:s.heap.BuiltinsAt X.mg P:=by
  obtain ⟨bm,ob,b1,b2,b3,b4,b5,b6,b7⟩:=B
  refine ⟨bm,ob,b1,b2,b3,λz=>?_,I.bk _ _ b4,b5,b6,b7⟩
  have:=(I.bs _ _ b4).2
  rw [z,hP] at this
  cases this
 have C':CodeHd s.heap c P:=C.keeps I.bk
 refine kla_eval hdef ?_
 cases hf:codeAmong pos ps.toList with
 | some cv =>
  obtain ⟨c',oc,rfl,e1,e2⟩:=ok.2 pos cv hf
  refine kla_makeFunctionHit (mg:=X.mg) hcl I.ok.glob hg hcode C' oP ok.1 hf hB λctv h' tk keep hsz=>?_
  have I1:Inv X pins σ H {s with heap:=h',toks:=tk }:=I.kept keep
  have I2:Inv X pins σ H {s with heap:=h'.push (kla_obj "<lambda>" (X.env.qual ++ ("<lambda>" : Str)) params body scope (aaH X.env.cells scope.names []) ((X.mg "__name__").getD .none) c' ctv),toks:=tk }:=I1.kept (t':=tk) λb o e=>Heap.get?_push_of_some _ e
  refine h _ c' ctv _ H _ oc ⟨λ_ _ q _=>q,ps,hP,ok⟩ (I2.ash (I1.apc (Nat.le_refl _) (I1.hok.fresh (Nat.le_refl _))) (Heap.get?_push_size _ rfl) (λv z=>by cases z)) e1 e2
 | none =>
  refine kla_makeFunction (mg:=X.mg) hcl I.ok.glob hg hcode C' oP ok.1 hf nP hB λc' ctv h' tk ext hge hlt hrec htb=>?_
  obtain ⟨c2,oc,vs,t,e2,hoc,hd,hv⟩:=hrec
  cases e2
  have nc:H c'=none:=I.hok.fresh hge
  have cP:c' ≠ P:=λz=>by rw [z,hP] at nc; cases nc
  have ne:∀ b u,H b=some u->b ≠ c':=λb u q=>abh q nc
  have up:∀ b u,H b=some u->b ≠ P->(upd (upd H P (.tbl (ps ++ #[rawInt pos.line,rawInt pos.col,.ref c']))) c' (.frz oc (.own 0))) b=some u:=λb u q z=>by rw [aaF (ne b u q),aaF z]; exact q
  have upP:(upd (upd H P (.tbl (ps ++ #[rawInt pos.line,rawInt pos.col,.ref c']))) c' (.frz oc (.own 0))) P=some (.tbl (ps ++ #[rawInt pos.line,rawInt pos.col,.ref c'])):=by rw [aaF (Ne.symm cP)]; exact aa9
  have keep:∀ b o,b ≠ P->s.heap.get? b=some o->h'.get? b=some o:=λb o z e=>ext b o z e
  have hok:HOk X.prog X.w (upd (upd H P (.tbl (ps ++ #[rawInt pos.line,rawInt pos.col,.ref c']))) c' (.frz oc (.own 0))) h':=λb u q=>by
   by_cases z1:b=c'
   ·subst z1
    rw [aa9] at q
    cases q
    exact ⟨hoc,oc,hoc⟩
   ·by_cases z2:b=P
    ·subst z2
     rw [upP] at q
     cases q
     exact htb
    ·rw [aaF z1,aaF z2] at q
     refine (I.hok b u q).stay (λd v hd' e=>keep d v ?_ e) (λd z=>up d _ z ?_) λd ys z=>up d _ z ?_
     ·rcases hd' with rfl | hd'
      ·exact z2
      ·rintro rfl
       rw [hP] at hd'
       cases hd'
     ·rintro rfl
      rw [hP] at z
      cases z
     ·rintro rfl
      rw [hP] at z
      cases z
  have atv:∀ b,H b=none->b ≠ P:=λb n z=>by rw [z,hP] at n; cases n
  have I1:Inv X pins σ (upd (upd H P (.tbl (ps ++ #[rawInt pos.line,rawInt pos.col,.ref c']))) c' (.frz oc (.own 0))) {s with heap:=h',toks:=tk } :=
   I.step (h':=h') (g':=s.gens) (d':=s.drawn) (t':=tk) (ch := []) (λ_ z=>nomatch z) (λb o _ _ _ e n=>keep b o (atv b n) e) (λb o _ _ _ e n=>⟨o.slots,keep b o (atv b n) e⟩)
    (λb o _ e n=>by
     rw [aaF (λz=>by rw [z] at e; exact absurd (Heap.lt_size e) (Nat.not_lt.mpr hge)),aaF (atv b n)]; exact n)
    (λb o _ e=>by
     by_cases z:b=P
     ·subst z; exact ⟨_,htb⟩
     ·exact ⟨o,keep b o z e⟩)
    (λb ys q=>up b _ q (by rintro rfl; rw [hP] at q; cases q)) (λb o u q=>up b _ q (by rintro rfl; rw [hP] at q; cases q))
    (λb qs q=>by
     by_cases z:b=P
     ·subst z
      rw [hP] at q
      cases q
      exact ⟨_,upP⟩
     ·exact ⟨#[],by rw [up b _ q z]; simp⟩)
    (λm q=>q.extBut ext (atv _ I.free)) hok I.bare
  have I2:=I1.kept (t':=tk) (h':=h'.push (kla_obj "<lambda>" (X.env.qual ++ ("<lambda>" : Str)) params body scope (aaH X.env.cells scope.names []) ((X.mg "__name__").getD .none) c' ctv)) λb o e=>Heap.get?_push_of_some _ e
  refine h _ c' ctv _ _ _ oc ⟨up,_,upP,?_,λpos' v q=>?_⟩ (I2.ash (I1.apc (Nat.le_refl _) (I1.hok.fresh (Nat.le_refl _))) (Heap.get?_push_size _ rfl) (λv z=>by cases z)) aa9 ⟨vs,t,hd,hv⟩
  ·have:(ps ++ #[rawInt pos.line,rawInt pos.col,.ref c']).toList=ps.toList ++ [rawInt pos.line,rawInt pos.col,.ref c']:=by simp
   rw [this]
   exact ajD ok.1
  ·have:(ps ++ #[rawInt pos.line,rawInt pos.col,.ref c']).toList=ps.toList ++ [rawInt pos.line,rawInt pos.col,.ref c']:=by simp
   rw [this] at q
   rcases aii ok.1 q with q | q
   ·obtain ⟨d,o,z1,z2,z3⟩:=ok.2 pos' v q
    exact ⟨d,o,z1,up d _ z2 (by rintro rfl; rw [hP] at z2; cases z2),z3⟩
   ·exact ⟨c',oc,q,aa9,vs,t,hd,hv⟩
end
end L2
end
section
namespace L2
open PySem PySem.Spec PyProof.Rows PySem.W
noncomputable abbrev KW:=Hp->V->Int × Int->Prop
noncomputable def kwI:KW:=λ_ v k=>v = .int k.1 /\ k.2=0
noncomputable def aoc (Kw:KW) (P:Addr) (q:Str) (src:List (Option Nat)) (ta:TA) (te:TE):TE:=λσ H Q=>ta σ H λvs H1=>∃ (n:Nat) (kz:Nat->Int × Int),vs = [.int n] /\ n<64 /\ (∃ ps,H1 P=some (.tbl ps) /\ awv H1 q ps) /\ ∀ H2,awC P q H1 H2 ->
 (∀ (i:Nat),i<n->∀ H3,Same H2 H3->te (some (.int i) :: agy src σ) H3 λv H4=>Kw H4 v (kz i) /\ Same H3 H4) /\ ∀ D (ys:List Nat) H3,Same H2 H3->H3 D=none->Srt n kz ys->Q (.ref D) (upd H3 D (.lst (ys.map λi:Nat=>V.int i)))
section
variable {X:Cx} {sc scope:Scope} {No Ns:List Str} {src:List (Option Nat)} {x:Str} {Kw:KW} {kd:SortKind}
theorem ap6 {k:Nat} {c P:Addr} {e:Expr} {params:Arguments} {body:Expr} {p p2 pos pos2 azI kp:Pos} {ta:TA} {te:TE} (T:akC X (λH u k=>∃ v,RelV v u /\ Kw H v k) kd) (mono:∀ {H H':Hp} {v k},Same H H'->Kw H v k->Kw H' v k) (inj:∀ (H:Hp) u k k',(∃ v,RelV v u /\ Kw H v k)->(∃ v,RelV v u /\ Kw H v k')->k=k')
  (hr:afT k X.A) (h1:X.mg "sorted" = none) (h2:X.mg "range" = none) (hsc:X.env.scope=sc) (hNo:X.N=No) (S:ap2 sc No x Ns src scope) (hcode:X.env.code = .ref c) (C:CodeHd X.base c P) (B:ap4 X.mg X.base) (hdef:defaultsOf params X.env=([],[]))
  (ha:PA X [e] ta) (hbind:∀ (pm cd ctv u:Value),bindArgs (kla_fn "<lambda>" (X.env.qual ++ ("<lambda>" : Str)) params body scope (aaH X.env.cells scope.names []) pm cd ctv) ⟨[u],[]⟩=pure [(x,u)])
  (he:∀ A f cd s H,PE (asn X A (x :: Ns) (X.env.qual ++ ("<lambda>" : Str)) scope f cd s H) body te)
  (hg:X.env.kindOf "sorted" = some .globalImplicit:=by kernel_rfl) (hg2:X.env.kindOf "range" = some .globalImplicit:=by kernel_rfl) (hs:notStar e=true:=by kernel_rfl) :
  PE X (.Call (.Name "sorted" p) [.Call (.Name "range" p2) [e] [] pos2] [⟨some (Str.ofString "key"),.Lambda params body scope azI,kp⟩] pos) (aoc Kw P (X.env.qual ++ ("<lambda>" : Str)) src ta te):=by
 refine ⟨λpins s σ H Q I h=>?_⟩
 refine wpAny_Call_Name_kw (agk I hg h1 (by decide +kernel:bootBuiltins "sorted" = some (.builtin "sorted")) ?_ (by decide +kernel) (by kernel_rfl))
 refine callWith_kw (Calls.spliced_cons (wpAny_Call_Name_kw (agk I hg2 h2 boot_range (PyProof.Rows.callWith_type1 (thn (ha pos2 pins s σ H _ I h) λus s1 ⟨vs,H1,I1,r1,q1⟩=>?_) (acX hs) rfl) (by decide +kernel) (by kernel_rfl))))
 obtain ⟨n,kz,rfl,h64,⟨ps,hP,ok⟩,hq⟩:=q1
 obtain ⟨u1,rfl,t1,rfl⟩:=vals1 r1
 refine call_range_1 ?_
 have rfp:afr X pins H1 s1.heap.objs.size:=I1.apc (Nat.le_refl _) (I1.hok.fresh (Nat.le_refl _))
 have I2:Inv X pins σ H1 {s1 with heap:=s1.heap.push {cls := .type "range",data := .fields #[.int 0 s1.toks,.int n t1,.int 1 (s1.toks + 1)] },toks:=s1.toks + 1 + 1 }:=I1.kept λb o e=>Heap.get?_push_of_some _ e
 have I3:=I2.ash rfp (Heap.get?_push_size _ rfl) (λv z=>by cases z)
 refine Calls.spliced_nil ?_
 refine kws_cons (ap5 hsc S hcode C B hdef I3 hP ok λf c' ctv pm H2 s2 oc lh I4 e1 e2=>?_)
 refine kws_nil ?_
 have pr:=I4.pin _ (List.mem_append_right _ (List.mem_cons_of_mem _ (List.mem_cons_self ..)))
 obtain ⟨key,fin⟩:=hq H2 lh
 show wpAny _ _ (call (.builtin "sorted") [.ref s1.heap.objs.size] [(Str.ofString "key",.ref f)]) _ _ _
 refine aoa T (λ{H H' u k} sm ⟨v,a1,a2⟩=>⟨v,a1,mono sm a2⟩) inj I4 hr.hd pr.1 h64 (λahP i t s' H' hi sub sm I'=>?_) λs' D ys H3 sm nD I' hs'=>⟨.ref D,_,I'.sub λp hp=>List.mem_cons_of_mem _ (List.mem_cons_of_mem _ hp),rfl,fin D ys H3 sm nD hs'⟩
 have pf:=I'.pin _ (List.mem_append_right _ (sub _ (List.mem_cons_self ..)))
 have hcd:s'.heap.CodeRec (.ref c') (X.env.qual ++ ("<lambda>" : Str)):=by
  obtain ⟨vs,t,a1,a2⟩:=e2
  exact ⟨c',oc,vs,t,rfl,(I'.hok c' _ (sm _ _ e1)).1,a1,a2⟩
 refine thn (ap3 (A:=X.A.in1.in1) (v := .int i) (te:=te) (Q:=λv H4=>Kw H4 v (kz i) /\ Same H' H4) hsc hNo S I.ok.frames hr.hd hr.depth I' pf.1 hcd ⟨t,rfl⟩ (hbind _ _ _ _) (λs H=>he _ _ _ _ _) (key i hi H' sm)) λu s'' ⟨v,H4,I'',rv,q1,q2⟩=>⟨H4,q2,⟨v,rv,q1⟩,I''⟩
theorem avb:akC X (λH u k=>∃ v,RelV v u /\ kwI H v k) oneType' where
 kind:=λH keys kz h2 hk pins σ s Q E I q=>au9.kind H keys kz h2 (λi v e=>by
  obtain ⟨w,r,rfl,z⟩:=hk i v e
  obtain ⟨t,rfl⟩:=r
  exact ⟨t,rfl,z⟩) I q
 ask:=λa₀ kf I h=>au9.ask a₀ kf I λp hp=>by
  obtain ⟨w,r,z1,z⟩:=h p hp
  subst z1
  obtain ⟨t,r⟩:=r
  exact ⟨t,r,z⟩
theorem aso (H:Hp) (u:Value) (k k':Int × Int) (h:∃ v,RelV v u /\ kwI H v k) (h':∃ v,RelV v u /\ kwI H v k'):k=k':=by
 obtain ⟨v,r,rfl,z⟩:=h
 obtain ⟨v',r',rfl,z'⟩:=h'
 obtain ⟨t,rfl⟩:=r
 obtain ⟨t',r'⟩:=r'
 injection r' with r' _
 exact Prod.ext r' (z.trans z'.symm)
end
end L2
end
section
namespace L2
open PySem PySem.Spec PyProof.Rows PySem.W
noncomputable def bfr (kz:Nat->Int × Int) (i j:Nat):Prop:=((kz i).1<(kz j).1 \/ ((kz i).1=(kz j).1 /\ (kz i).2<(kz j).2)) \/ (((kz i).1=(kz j).1 /\ (kz i).2=(kz j).2) /\ i<j)
noncomputable instance {kz:Nat->Int × Int} {i j:Nat}:Decidable (bfr kz i j):=by unfold bfr; infer_instance
noncomputable def ap7 (kz:Nat->Int × Int) (i:Nat):List Nat->List Nat
 | [] => [i]
 | j :: r=>if bfr kz i j then i :: j :: r else j :: ap7 kz i r
noncomputable def aod (n:Nat) (kz:Nat->Int × Int):List Nat:=(List.range n).foldr (ap7 kz) []
theorem ahq (kz:Nat->Int × Int) (i:Nat):∀ l,(ap7 kz i l).Perm (i :: l)
 | [] => .refl _
 | j :: r=>by
  unfold ap7
  split
  ·exact .refl _
  ·exact ((ahq kz i r).cons j).trans (.swap i j r)
theorem aoe (kz:Nat->Int × Int) (i:Nat):∀ l,(∀ j ∈ l,i ≠ j)->l.Pairwise (bfr kz)->(ap7 kz i l).Pairwise (bfr kz)
 | [],_,_=>by simp [ap7]
 | j :: r,hn,hp=>by
  have hp':=List.pairwise_cons.mp hp
  unfold ap7
  split
  ·rename_i b
   refine List.pairwise_cons.mpr ⟨λk hk=>?_,hp⟩
   rcases List.mem_cons.mp hk with rfl | hk
   ·exact b
   ·have:=hp'.1 k hk
    unfold bfr at b this ⊢
    omega
  ·rename_i b
   refine List.pairwise_cons.mpr ⟨λk hk=>?_,aoe kz i r (λk hk=>hn k (List.mem_cons_of_mem _ hk)) hp'.2⟩
   rcases List.mem_cons.mp ((ahq kz i r).mem_iff.mp hk) with rfl | hk
   ·have:=hn j (List.mem_cons_self ..)
    unfold bfr at b ⊢
    omega
   ·exact hp'.1 k hk
theorem ajE (kz:Nat->Int × Int):∀ l:List Nat,l.Nodup->(l.foldr (ap7 kz) []).Perm l /\ (l.foldr (ap7 kz) []).Pairwise (bfr kz)
 | [],_=>⟨.refl _,.nil⟩
 | i :: r,nd=>by
  have nd':=List.nodup_cons.mp nd
  obtain ⟨h1,h2⟩:=ajE kz r nd'.2
  exact ⟨(ahq kz i _).trans (h1.cons i),aoe kz i _ (λj hj z=>nd'.1 (by rw [z]; exact h1.mem_iff.mp hj)) h2⟩
theorem ajF (n:Nat) (kz:Nat->Int × Int):Srt n kz (aod n kz):=ajE kz _ List.nodup_range
theorem aof {R:Nat->Nat->Prop} (as:∀ a b,R a b->¬ R b a):∀ {l m:List Nat},l.Perm m->l.Pairwise R->m.Pairwise R->l=m
 | [],m,p,_,_=>by rw [List.nil_perm.mp p]
 | a :: l,[],p,_,_=>by simpa using p.length_eq
 | a :: l,b :: m,p,h1,h2=>by
  have h1':=List.pairwise_cons.mp h1
  have h2':=List.pairwise_cons.mp h2
  have e:a=b:=by
   rcases List.mem_cons.mp (p.mem_iff.mp (List.mem_cons_self ..)) with z | z
   ·exact z
   ·rcases List.mem_cons.mp (p.mem_iff.mpr (List.mem_cons_self (a:=b))) with y | y
    ·exact y.symm
    ·exact (as _ _ (h1'.1 b y) (h2'.1 a z)).elim
  subst e
  rw [aof as p.cons_inv h1'.2 h2'.2]
theorem Srt.eq {n:Nat} {kz:Nat->Int × Int} {ys:List Nat} (h:Srt n kz ys):ys=aod n kz:=by
 have g:=ajF n kz
 refine aof (R:=bfr kz) (λa b h1 h2=>?_) (h.1.trans g.1.symm) h.2 g.2
 unfold bfr at h1 h2
 omega
noncomputable abbrev RF:=List (Option Tr)->Rs Tr
noncomputable def QS (K:PySem.W.Frag) (te:TE) (f:RF):Prop:=∀ (W:Addr->Prop) (σ : St) (H:Hp) (Q:VK) (ts:List (Option Tr)) (T:Tr),(∀ b,W b->Lt H b)->(∀ (i:Nat) U,ts[i]? = some (some U)->∃ v,σ[i]? = some (some v) /\ Rp K W H v U)->f ts = .ok T ->
 (∀ v H',Same H H'->Rp K W H' v T->Q v H')->te σ H Q
theorem Rp.up {K:PySem.W.Frag} {W:Addr->Prop} {H H':Hp} {v:V} {T:Tr} (h:Rp K W H v T) (s:Same H H'):Rp K W H' v T:=by
 have m:Same (abb W H) (abb W H'):=(Stp.of s).off
 rcases h with h | ⟨a,xs,ts,e1,e2,e,r⟩
 ·exact .inl (h.mono m)
 ·exact .inr ⟨a,xs,ts,e1,e2,s _ _ e,r.mono m⟩
section
variable {K:PySem.W.Frag} {ta tb:TE} {fa fb:RF}
noncomputable def ap8 (i:Nat):RF:=λts=>match ts[i]? with
 | some (some U) => .ok U
 | _ => .bad
theorem aq3 (i:Nat):QS K (aph i) (ap8 i):=λW σ H Q ts T hw h e q=>by
 unfold ap8 at e
 split at e
 ·rename_i U z
  cases e
  obtain ⟨v,h1,h2⟩:=h i _ z
  exact ⟨v,h1,q v H (Same.refl _) h2⟩
 ·cases e
noncomputable def rOp (g:G2) (fa fb:RF):RF:=λts=>(fa ts).bind λa=>(fb ts).bind λb=>(g a b).bind λz => .ok z.1
theorem axB {r:R2} {g:G2} (o:OpT K r g) (ha:QS K ta fa) (hb:QS K tb fb):QS K (tOp r ta tb) (rOp g fa fb):=λW σ H Q ts T hw h e q=>by
 unfold rOp at e
 obtain ⟨a,e1,e⟩:=aa0 e
 obtain ⟨b,e2,e⟩:=aa0 e
 obtain ⟨z,e3,e⟩:=aa0 e
 cases e
 refine ha W σ H _ ts a hw h e1 λx H1 s1 r1=>?_
 refine hb W σ H1 _ ts b (λb w=>(hw b w).grow s1) (λi U z=>let ⟨v,h1,h2⟩:=h i U z; ⟨v,h1,h2.up s1⟩) e2 λy H2 s2 r2=>?_
 refine o W x y a b H2 Q (λb w=>(hw b w).grow (s1.trans s2)) (r1.up s2) r2 ?_
 rw [e3]
 intro v H3 s3 v3
 refine q v H3 ((s1.trans s2).trans s3) (.inl ?_)
 exact VOk.rep (λb w=>((hw b w).grow (s1.trans s2)).ne) v3
noncomputable def rUn (g:G1) (fa:RF):RF:=λts=>(fa ts).bind λa=>(g a).bind λz => .ok z.1
theorem axC {r:V->Hp->VK->Prop} {g:G1} (o:UnT K r g) (ha:QS K ta fa):QS K (tUn r ta) (rUn g fa):=λW σ H Q ts T hw h e q=>by
 unfold rUn at e
 obtain ⟨a,e1,e⟩:=aa0 e
 obtain ⟨z,e3,e⟩:=aa0 e
 cases e
 refine ha W σ H _ ts a hw h e1 λx H1 s1 r1=>?_
 refine o W x a H1 Q (λb w=>(hw b w).grow s1) r1 ?_
 rw [e3]
 intro v H3 s3 v3
 refine q v H3 (s1.trans s3) (.inl ?_)
 exact VOk.rep (λb w=>((hw b w).grow s1).ne) v3
end
noncomputable def slT (ρ : En) (j:Nat):Option Tr:=match ρ[j]? with
 | some (.sh T)=>some T
 | some (.ow ts)=>some (.lst ts)
 | some (.rf ts)=>some (.lst ts)
 | _=>none
noncomputable def aog (src:List (Option Nat)) (ρ : En):List (Option Tr):=src.map λo=>o.bind (slT ρ)
noncomputable def avc:Tr->Option (Int × Int)
 | .int i=>some (i,0)
 | _=>none
noncomputable def akE (kt:Tr->Option (Int × Int)) (fb:RF) (ts:List (Option Tr)):List Nat->Rs (List (Int × Int))
 | [] => .ok []
 | i :: r=>(fb (some (Tr.int i) :: ts)).bind λT=>match kt T with
  | some k=>(akE kt fb ts r).bind λks => .ok (k :: ks)
  | none => .bad
theorem ajG {kt:Tr->Option (Int × Int)} {fb:RF} {ts:List (Option Tr)}:∀ {l:List Nat} {ks:List (Int × Int)},akE kt fb ts l = .ok ks->ks.length=l.length /\ ∀ (j i:Nat),l[j]? = some i->∃ T k,fb (some (Tr.int i) :: ts) = .ok T /\ kt T=some k /\ ks[j]? = some k
 | [],ks,h=>by cases h; exact ⟨rfl,λj i z=>by simp at z⟩
 | a :: l,ks,h=>by
  unfold akE at h
  obtain ⟨T,e1,h⟩:=aa0 h
  split at h
  ·rename_i k e2
   obtain ⟨ks',e3,h⟩:=aa0 h
   cases h
   obtain ⟨h1,h2⟩:=ajG e3
   refine ⟨by simp [h1],λj i z=>?_⟩
   cases j with
   | zero=>simp at z; subst z; exact ⟨T,k,e1,e2,by simp⟩
   | succ j=>simpa using h2 j i (by simpa using z)
  ·cases h
noncomputable def al3 (kt:Tr->Option (Int × Int)) (src:List (Option Nat)) (fa:AF) (fb:RF):EF:=λρ => (fa ρ).bind λp=>match p.1 with
 | [.v (.int n) _]=>if 0<=n /\ n<64 then (abS (akE kt fb (aog src p.2) (List.range n.toNat))).bind λks => .ok (.v (.lst ((aod n.toNat λi=>ks.getD i (0,0)).map λi:Nat=>Tr.int i)) true,p.2) else .bad
 | _ => .bad
theorem al4 {K:PySem.W.Frag} {H:Hp}:∀ l:List Nat,abd K H (l.map λi:Nat=>V.int i) (l.map λi:Nat=>Tr.int i)
 | [] => .nil
 | n :: l => .cons (.int n) (al4 l)
theorem avd {t:Tx} {W:Addr->Prop} {ρ : En} {σ : St} {H:Hp} {j:Nat} {U:Tr} (e:EOk t W ρ σ H) (h:slT ρ j=some U):∃ v,σ[j]? = some (some v) /\ Rp t.K W H v U:=by
 unfold slT at h
 split at h
 ·rename_i T q
  cases h
  obtain ⟨v,h1,h2⟩:=e.sh j _ q
  exact ⟨v,h1,.inl h2⟩
 ·rename_i ts q
  cases h
  obtain ⟨a,xs,h1,_,_,h4,h5⟩:=e.ow j _ q
  exact ⟨_,h1,.inr ⟨a,xs,ts,rfl,rfl,h4,h5⟩⟩
 ·rename_i ts q
  cases h
  obtain ⟨a,xs,h1,_,_,h4,h5⟩:=e.rf j _ q
  exact ⟨_,h1,.inr ⟨a,xs,ts,rfl,rfl,h4,h5⟩⟩
 ·cases h
theorem awC.smt {K:PySem.W.Frag} {P c:Addr} {x:Str} {H H':Hp} (tb:TbS K H) (hx:x ∈ abu) (ht:tabIn K x=some (c,P)) (hu:∀ x' ∈ abu,∀ c',tabIn K x'=some (c',P)->x'=x) (l:awC P (aiD x) H H'):SmT K H H':=by
 refine ⟨λb o q n=>l.kp b o q λz=>n ?_,λx' hx' c' b e=>?_⟩
 ·subst z
  exact ⟨x,hx,c,ht⟩
 ·by_cases z:b=P
  ·subst z
   have:=hu x' hx' c' e
   subst this
   exact l.tb
  ·obtain ⟨ps,q,t1,t2⟩:=tb x' hx' c' b e
   refine ⟨ps,l.kp _ _ q z,t1,λpos v k=>?_⟩
   obtain ⟨d,o,e1,e2,e3⟩:=t2 pos v k
   refine ⟨d,o,e1,l.kp _ _ e2 ?_,e3⟩
   rintro rfl
   obtain ⟨qs,y,_⟩:=tb x hx c d ht
   rw [y] at e2
   cases e2
theorem ap9 {t:Tx} {Kw:KW} {kt:Tr->Option (Int × Int)} {c P:Addr} {x:Str} {src:List (Option Nat)} {ta:TA} {fa:AF} {te:TE} {fb:RF} (hx:x ∈ abu) (ht:tabIn t.K x=some (c,P)) (hu:∀ x' ∈ abu,∀ c',tabIn t.K x'=some (c',P)->x'=x)
  (hkt:∀ (W:Addr->Prop) (H:Hp) v T k,Rp t.K W H v T->kt T=some k->Kw H v k) (ha:SA t ta fa) (hb:QS t.K te fb):SE t (aoc Kw P (aiD x) src ta te) (al3 kt src fa fb):=λW ρ σ H Q e h=>by
 refine ha W ρ σ H _ e (Rs.aal (Rs.aaf h) λp h vs H1 e1 s1 v1=>?_)
 obtain ⟨rs,ρ1⟩:=p
 dsimp only at h e1 v1
 split at h
 case h_2=>exact h.elim
 rename_i n fr
 split at h
 case isFalse=>exact h.elim
 rename_i hn
 have ev:vs = [.int n]:=by
  cases v1 with
  | cons h1 r1 =>
   cases r1
   cases fr with
   | false =>
    have h1:Rep _ _ _ (Tr.int n):=h1
    cases h1
    rfl
   | true =>
    obtain ⟨_,_,_,_,z,_⟩:=h1
    cases z
 obtain ⟨ks,k1,h⟩:=abY (Rs.aaf h) (alY _)
 have un:∀ {α : Type} {x:Rs α} {a : α},abS x = .ok a->x = .ok a:=λ{α x a} z=>by cases x <;> first | exact z | cases z
 obtain ⟨kl,kg⟩:=ajG (un k1)
 have nn:((n.toNat:Nat):Int)=n:=by omega
 refine ⟨n.toNat,λi=>ks.getD i (0,0),by rw [ev,nn],by omega,e1.tab.ok x hx c P ht,λH2 lh=>?_⟩
 obtain ⟨e2,s2⟩:=e1.an2 (lh.smt e1.tab.ok hx ht hu)
 refine ⟨λi hi H3 s3=>?_,λD ys H3 s3 nD hs=>?_⟩
 ·obtain ⟨T,k,f1,f2,f3⟩:=kg i i (List.getElem?_range hi)
  have e3:=e2.grow s3
  refine hb W _ H3 _ _ T e3.wl (λj U z=>?_) f1 λv H4 s4 r4=>⟨hkt W H4 v T _ r4 ?_,s4⟩
  ·cases j with
   | zero=>simp at z; subst z; exact ⟨.int i,by simp,.inl (.int i)⟩
   | succ j =>
    have z:(aog src ρ1)[j]? = some (some U):=z
    unfold aog at z
    rw [List.getElem?_map] at z
    cases eq:src[j]? with
    | none=>rw [eq] at z; cases z
    | some o =>
     rw [eq] at z
     have z:o.bind (slT ρ1)=some U:=Option.some.inj z
     cases o with
     | none=>cases z
     | some l =>
      obtain ⟨v,h1,h2⟩:=avd e3 (show slT ρ1 l=some U from z)
      refine ⟨v,?_,h2⟩
      show (agy src σ)[j]? = some (some v)
      rw [aiJ eq,h1]
      rfl
  ·rw [f2]
   show some k=some (ks.getD i (0,0))
   rw [List.getD_eq_getElem?_getD,f3]
   rfl
 ·have e3:=e2.grow s3
  have hs':=hs.eq
  have st:Stp W H1 H3:=s2.trans (Stp.of s3)
  refine h (.ref D) _ (e3.grow (aaW nD _)) ((s1.trans st).trans (Stp.of (aaW nD _))) (VOE.back (H:=H3) (VOE.of (σ' := σ) e3 (aaW nD _) (VOk.new nD ?_)) λb q=>(s1.trans st).dom b q)
  rw [hs']
  exact al4 _
theorem ave (K:PySem.W.Frag) (W:Addr->Prop) (H:Hp) (v:V) (T:Tr) (k:Int × Int) (r:Rp K W H v T) (e:avc T=some k):kwI H v k:=by
 unfold avc at e
 split at e
 ·cases e
  exact ⟨r.int,rfl⟩
 ·cases e
end L2
end
section
namespace L2
open PySem PySem.Spec PyProof.Rows PySem.W
noncomputable def AtL (K:PySem.W.Frag) (mg:Str->Option Value) (x:Str) (st:Stmt) (c:Addr):Prop:=∃ f fd,Fun K x x st f fd /\ mg x=some (.ref f) /\ fd.code = .ref c
section
variable {P:Program} {w:World} {K:PySem.W.Frag} {mg:Str->Option Value} {base:Heap}
theorem AtL.azJ {c:Addr} {k:Nat} {x:Str} {st:Stmt} {N ps:List Str} {sp:Sp} (a:AtL K mg x st c) (S:aaE N ps (aan st))
  (hb:∀ (kV doc pm:Value) (an:Option Addr) (cdv ct:Value) (us:List Value),us.length=ps.length->bindArgs (fnOf x x (adl st) (acf st) (aan st) .none kV doc pm an cdv ct) ⟨us,[]⟩=pure (ps.zip us))
  (len:∀ vs H Q E,sp vs H Q E->vs.length=ps.length)
  (hbody:∀ (f:Addr) (A:Around) (outer:List Env) (s:Shared) (H:Hp) (vs:List V) (Q:VK) (E:XK),afT k (A.deeper (envOfC x (aan st) s.heap.objs.size f (.ref c)))->sp vs H Q E ->
   ∃ t,PSs (alG (CXF P w) P w K mg base N x (aan st) f (.ref c) A outer s H E) (acf st) t /\ t {nx:=λ_ H'=>Q .non H',rt:=Q } (start N vs) H):DfX P w K mg base (k + 1) x ps sp:=by
 obtain ⟨f,fd,F,m,hc⟩:=a
 refine ⟨f,fd,?_,F.binds hb,F.kp,m⟩
 obtain ⟨oc,od,kV,doc,pm,an,cdv,ct,osl,rfl,lk,hcd⟩:=F.ex
 have hc:cdv = .ref c:=hc
 subst hc
 exact at4 lk hcd S len λA outer s H vs Q E hr h=>hbody f A outer s H vs Q E hr h
theorem AtL.azK {c:Addr} {k:Nat} {x:Str} {st:Stmt} {N ps:List Str} {cl:Str->Addr} {b:SF} (a:AtL K mg x st c) (S:aaE N ps (aan st)) (hn:ps.length<=N.length)
  (hb:∀ (kV doc pm:Value) (an:Option Addr) (cdv ct:Value) (us:List Value),us.length=ps.length->bindArgs (PySem.W.fnOf x x (adl st) (acf st) (aan st) .none kV doc pm an cdv ct) ⟨us,[]⟩=pure (ps.zip us))
  (hbody:∀ (f:Addr) (A:Around) (outer:List Env) (s:Shared) (H:Hp) (E:XK),afT k (A.deeper (envOfC x (aan st) s.heap.objs.size f (.ref c))) ->
   ∃ ts,PSs (alG (CXF P w) P w K mg base N x (aan st) f (.ref c) A outer s H E) (acf st) ts /\ ∀ t:Tx,t.K=nlK K->(∀ c H',F0 t H'->t.EX c->E (.ref (cl c)) none H')->SS t ts b) :
  DfX P w K mg base (k + 1) x ps (spP K cl ps.length (fnP N.length b)):=by
 refine a.azJ S hb (λvs H Q E h=>?_) (λf A outer s H vs Q E hr h=>?_)
 ·obtain ⟨_,_,h,_⟩:=h; exact h
 obtain ⟨Z,as,hl,r,zl,tb,h⟩:=h
 obtain ⟨ts,h1,h2⟩:=hbody f A outer s H E hr
 refine ⟨ts,h1,?_⟩
 have sm:∀ (b:Addr) (W:Addr->Prop) ρ σ H',EOk ⟨nlK K,Z,Tb (nlK K),H,λ_=>none,λc=>∀ H',SmT (nlK K) H H'->E (.ref (cl c)) none H'⟩ W ρ σ H'->SmT (nlK K) H H':=λ_ W ρ σ H' e=>⟨λb o q n=>e.f0 b o q n,e.tab.ok⟩
 have r:=r.agz (agU tb)
 refine h2 ⟨nlK K,Z,Tb (nlK K),H,λ_=>none,λc=>∀ H',SmT (nlK K) H H'->E (.ref (cl c)) none H'⟩ rfl (λc H' f0 q=>q H' ⟨λb o z n=>f0.1 b o z n,f0.2⟩) (λb=>Z b \/ Tb (nlK K) b) (aaz N.length as) (start N vs) H _ ?_ (Rs.aal (Rs.aaf h) λq h=>?_)
 ·have la:=r.length
  have alW:∀ (i:Nat) (us:List Tr),(aaz N.length as)[i]? = some (.dp us)->False:=λi us q=>by
   rcases abM q with ⟨u',q1,z⟩ | z <;> cases z
  refine ⟨λ_ => [],?_,λ_ z => .inl z,λb z=>?_,λb z=>z.elim (zl b) (λz => .inr (tb.tbl z)),λb o q _=>q,λb q=>q,λi u q=>?_,λi us q=>?_,λi us q=>?_,λi j c m1 m2=>?_,λb o z=>(by cases z),λ_ _ _ _=>rfl,λi us q=>(alW i us q).elim,λi _ us _ _ q=>(alW i us q).elim,λi _ us _ q=>(alW i us q).elim,λi us q=>(alW i us q).elim,⟨tb,λ_ z => .inr z,λ_ z=>z,λ_ _=>rfl⟩⟩
  ·unfold aaz start
   simp only [List.length_append,List.length_map,List.length_replicate]
   omega
  ·exact (zl b z).ne
  ·rcases abM q with ⟨u',q1,z⟩ | z
   ·cases z
    obtain ⟨v,e1,e2⟩:=r.apB q1
    exact ⟨v,afy e1,e2⟩
   ·cases z
  ·rcases abM q with ⟨u',q1,z⟩ | z <;> cases z
  ·rcases abM q with ⟨u',q1,z⟩ | z <;> cases z
  ·obtain ⟨us,q | q⟩:=m1 <;> rcases abM q with ⟨u',q1,z⟩ | z <;> cases z
 ·obtain ⟨fl,ρ'⟩:=q
  cases fl with
  | nx=>exact λW' σ' H' e n=>h .non H' (sm 0 W' ρ' σ' H' e) .non
  | rt T fr =>
   refine λv W' σ' H' e n=>h v H' (sm 0 W' ρ' σ' H' e) ?_
   cases fr <;> exact n
  | bk=>exact h.elim
  | ct=>exact h.elim
end
noncomputable def avf (K:PySem.W.Frag) (x:Str):Option (Addr × Addr):=match K.lookup mainGlobals with
 | some o=>if o.cls == .type "list" then none else (match nsIn K mainGlobals x with
  | some (some (.ref f))=>(match K.lookup f with
   | some o=>if o.cls == .type "list" then none else (match o.data with
    | .func fd=>(match fd.code with
     | .ref c=>(match K.lookup c with
      | some o=>if o.cls == .type "list" then none else tabIn K x
      | _=>none)
     | _=>none)
    | _=>none)
   | _=>none)
  | _=>none)
 | _=>none
theorem aiN {o:Obj} (h:(o.cls == .type "list")=false):noL o=o:=by
 unfold noL
 rw [if_neg]
 rintro ⟨z,_⟩
 rw [z] at h
 exact absurd h (by decide +kernel)
theorem asp {K:PySem.W.Frag} {x:Str} {o:Obj} (h:K.lookup mainGlobals=some o) (n:(o.cls == .type "list")=false):nsIn (nlK K) mainGlobals x=nsIn K mainGlobals x:=by
 have e:(nlK K).lookup mainGlobals=K.lookup mainGlobals:=by
  rw [abp,h]
  show some (noL o)=some o
  rw [aiN n]
 unfold nsIn
 rw [e]
theorem aoh {K:PySem.W.Frag} {x:Str} {z:Addr × Addr} (h:avf K x=some z):tabIn K x=some z /\ tabIn (nlK K) x=some z:=by
 unfold avf at h
 split at h
 ·rename_i o1 h1
  split at h
  ·cases h
  ·rename_i n1
   split at h
   ·rename_i f hf
    split at h
    ·rename_i o2 h2
     split at h
     ·cases h
     ·rename_i n2
      split at h
      ·rename_i fd hd
       split at h
       ·rename_i c hc
        split at h
        ·rename_i o3 h3
         split at h
         ·cases h
         ·rename_i n3
          refine ⟨h,?_⟩
          rw [<-h]
          unfold tabIn
          rw [asp h1 (by simpa using n1),hf]
          dsimp only
          rw [abp,h2]
          dsimp only [Option.map]
          rw [aiN (by simpa using n2)]
          obtain ⟨a1,a2,a3,a4⟩:=o2
          dsimp only at hd
          subst hd
          dsimp only
          rw [hc]
          dsimp only
          rw [abp,h3]
          dsimp only [Option.map]
          rw [aiN (by simpa using n3)]
        ·cases h
       ·cases h
      ·cases h
    ·cases h
   ·cases h
 ·cases h
theorem aoi {o:Obj} {d:Data} (h:(noL o).data=d) (n:d ≠ .fields #[]):noL o=o:=by
 unfold noL at h ⊢
 split at h
 ·exact (n h.symm).elim
 ·rename_i q
  rw [if_neg q]
theorem al5 {K:PySem.W.Frag} {x:Str} {z:Addr × Addr} (h:tabIn (nlK K) x=some z):tabIn K x=some z:=by
 unfold tabIn at h
 split at h
 ·rename_i f hf
  have g1:nsIn K mainGlobals x=some (some (.ref f)):=by
   unfold nsIn at hf
   rw [abp] at hf
   cases e:K.lookup mainGlobals with
   | none=>rw [e] at hf; cases hf
   | some o =>
    rw [e] at hf
    unfold nsIn
    rw [e]
    have q:noL o=o:=by
     dsimp only [Option.map] at hf
     split at hf
     ·rename_i a b es ep c eq
      have eq:noL o=⟨a,b,.dict es ep,c⟩:=Option.some.inj eq
      exact aoi (d := .dict es ep) (by rw [eq]) (by intro z; cases z)
     ·cases hf
    dsimp only [Option.map] at hf
    rw [q] at hf
    exact hf
  split at h
  ·rename_i a b fd osl hfo
   have g2:K.lookup f=some ⟨a,b,.func fd,osl⟩:=by
    rw [abp] at hfo
    cases e:K.lookup f with
    | none=>rw [e] at hfo; cases hfo
    | some o =>
     rw [e] at hfo
     have eq:noL o=⟨a,b,.func fd,osl⟩:=Option.some.inj hfo
     rw [aoi (d := .func fd) (by rw [eq]) (by intro z; cases z)] at eq
     rw [eq]
   split at h
   ·rename_i c hc
    split at h
    ·rename_i a' b' vs ay0 hco
     split at h
     ·rename_i Pp hv
      cases h
      have g3:K.lookup c=some ⟨a',b',.fields vs,ay0⟩:=by
       rw [abp] at hco
       cases e:K.lookup c with
       | none=>rw [e] at hco; cases hco
       | some o =>
        rw [e] at hco
        have eq:noL o=⟨a',b',.fields vs,ay0⟩:=Option.some.inj hco
        rw [aoi (d := .fields vs) (by rw [eq]) (by intro z; injection z with z; subst z; simp at hv)] at eq
        rw [eq]
      unfold tabIn
      rw [g1]
      dsimp only
      rw [g2]
      dsimp only
      rw [hc]
      dsimp only
      rw [g3]
      dsimp only
      rw [hv]
     ·cases h
    ·cases h
   ·cases h
  ·cases h
 ·cases h
structure aqa (K:PySem.W.Frag) (mg:Str->Option Value) (base:Heap) (x:Str) (c P:Addr):Prop where
 nm:x ∈ abu
 hd:CodeHd base c P
 bm:ap4 mg base
 tab:tabIn (nlK K) x=some (c,P)
 un:∀ x' ∈ abu,∀ c',tabIn (nlK K) x'=some (c',P)->x'=x
theorem asq {t:Tx} {K:PySem.W.Frag} {mg:Str->Option Value} {base:Heap} {x:Str} {c P:Addr} {src:List (Option Nat)} {ta:TA} {fa:AF} {te:TE} {fb:RF} (L:aqa K mg base x c P) (hK:t.K=nlK K) (ha:SA t ta fa) (hb:QS (nlK K) te fb):SE t (aoc kwI P (aiD x) src ta te) (al3 avc src fa fb) :=
 ap9 (c:=c) L.nm (by rw [hK]; exact L.tab) (by rw [hK]; exact L.un) (ave _) ha (by rw [hK]; exact hb)
theorem asr {K:PySem.W.Frag} {x:Str} {f c P:Addr} {o1:Obj} {oc:Value} {od:Option Addr} {fd:FuncData} {sl:Array (Option Value)} {cc:Value} {cd:Option Addr} {vs:Array Value} {cs:Array (Option Value)} (a:nsIn K mainGlobals x=some (some (.ref f))) (l1:K.lookup mainGlobals=some o1) (n1:(o1.cls == .type "list")=false)
  (l2:K.lookup f=some ⟨oc,od,.func fd,sl⟩) (n2:(oc == .type "list")=false) (hc:fd.code = .ref c) (l3:K.lookup c=some ⟨cc,cd,.fields vs,cs⟩) (n3:(cc == .type "list")=false) (hv:vs[11]? = some (.ref P)):avf K x=some (c,P):=by
 unfold avf
 rw [l1]
 dsimp only
 rw [if_neg (by rw [n1]; exact Bool.false_ne_true),a]
 dsimp only
 rw [l2]
 dsimp only
 rw [if_neg (by rw [n2]; exact Bool.false_ne_true),hc]
 dsimp only
 rw [l3]
 dsimp only
 rw [if_neg (by rw [n3]; exact Bool.false_ne_true)]
 unfold tabIn
 rw [a]
 dsimp only
 rw [l2]
 dsimp only
 rw [hc]
 dsimp only
 rw [l3]
 dsimp only
 rw [hv]
theorem al6 {K:PySem.W.Frag} {x:Str} (a:nsIn K mainGlobals x=some none):tabIn K x=none:=by
 unfold tabIn
 rw [a]
theorem aqb {K:PySem.W.Frag} {mg:Str->Option Value} {base:Heap} {x:Str} {c P:Addr} (nm:x ∈ abu) (hc:∀ x ∈ abu,∀ c b,tabIn K x=some (c,b)->CodeHd base c b) (bm:ap4 mg base) (q:avf K x=some (c,P)) (ho:∀ x' ∈ abu,x'=x \/ ∀ c',tabIn K x' ≠ some (c',P)):aqa K mg base x c P :=
 ⟨nm,hc x nm c P (aoh q).1,bm,(aoh q).2,λx' hx' c' e=>(ho x' hx').elim id λz=>(z c' (al5 e)).elim⟩
end L2
end
section
namespace L2
open PySem PySem.Spec PyProof.Rows PySem.W
section
variable {X:Cx}
end
noncomputable def eLR (fa:AF):EF:=λρ => (fa ρ).bind λp=>match p.1 with
 | [.v (.int n) _]=>if 0<=n /\ n<=1000 then .ok (.v (.lst ((List.range n.toNat).map λi:Nat=>Tr.int i)) true,p.2) else .bad
 | _ => .bad
end L2
end
section
namespace L2
open PySem PySem.Spec PyProof.Rows
section
variable {t:Tx} {K:PySem.W.Frag}
noncomputable def asu (F:FR) (fa:EF):EF:=λρ => (fa ρ).bind λp=>match p.1 with
 | .v (.lst us) true=>(F [.lst us]).bind λz => .ok (.v z.1.1 z.1.2,p.2)
 | _ => .bad
end
end L2
end
section
namespace L2
open PySem PySem.Spec PyProof.Rows
section
variable {X:Cx}
end
end L2
end
section
namespace L2
open PySem PySem.Spec PyProof.Rows
noncomputable def Ite (K:PySem.W.Frag) (l:Addr):It where
 go:=λi H=>∃ xs x,SqL K H l xs /\ xs[i]? = some x
 yld:=λi H v H'=>∃ (T:Addr) (x:V),v = .ref T /\ H T=none /\ H'=upd H T (.tup [.int (i:Int),x]) /\ ∀ xs,SqL K H l xs->xs[i]? = some x
 stop:=λi H=>∃ xs,SqL K H l xs /\ i=xs.length
noncomputable def azL (l e it:Addr) (i:Nat) (h:Heap):Prop:=(∃ old,IsEnum h e it i old) /\ h.IsListIter it l i
section
variable {P:Program} {w:World} {K:PySem.W.Frag}
theorem aoj {elts:List Expr} {k:Nat} {pos:Pos} (l e it:Addr) (hei:e ≠ it) (hle:l ≠ e) (hli:l ≠ it):Turn P w K (.Tuple elts k pos) (Ite K l) [e,it] e (azL l e it) where
 mem:=by simp
 obj:=λi h st b hb=>by
  obtain ⟨⟨old,he⟩,⟨o1,e1,_,d1⟩⟩:=st
  have hb':b=e \/ b=it:=by simpa using hb
  rcases hb' with rfl | rfl
  ·exact ⟨_,he,λv q=>nomatch q⟩
  ·exact ⟨o1,e1,λv q=>by rw [d1] at q; cases q⟩
 keep:=λi h h' st kp=>by
  obtain ⟨⟨old,he⟩,h1⟩:=st
  exact ⟨⟨old,kp e (by simp) _ he⟩,h1.at λo q=>kp it (by simp) o q⟩
 item:=by
  intro X hP hw hK hc i pins s σ H E I hf st hg
  subst hP hw hK
  obtain ⟨xs,x,q1,hx⟩:=hg
  obtain ⟨akt,rv1,p1,_⟩:=I.list q1
  obtain ⟨u,hu,ru⟩:=rv1.get hx
  have W:=WalksT.enumerate (prog:=X.prog) (w:=X.w) (A:=X.A) (I.ok.hd hc) e it l hei hle hli akt.toArray
  have lt1:i<akt.length:=(List.getElem?_eq_some_iff.mp hu).1
  refine W.item i s _ E (by simp; omega) ⟨st.1,st.2,p1.isList⟩ λT vals h' tk hp hT ht mid kk=>?_
  obtain ⟨t0,u',e1,rfl⟩:=hp
  have eu:u'=u:=by
   have:akt[i]? = some u':=by simpa using e1
   rw [hu] at this; cases this; rfl
  subst eu
  refine ⟨.ref T,rfl,?_⟩
  refine W.go elts k pos i T _ _ E mid λh'' st' kk'=>?_
  have nT:=W.apart i T _ mid
  have ob:∀ b ∈ [e,it],b<s.heap.objs.size:=λb hb=>by
   obtain ⟨⟨old,he⟩,⟨o1,e1,_,d1⟩⟩:=st
   have hb':b=e \/ b=it:=by simpa using hb
   rcases hb' with rfl | rfl
   ·exact Heap.lt_size he
   ·exact Heap.lt_size e1
  have nTf:T ∉ [e,it]:=λm=>absurd (ob T m) (Nat.not_lt.mpr hT)
  have aw0:IsTup h'' T #[.int i t0,u']:=by
   obtain ⟨o,e',r⟩:=ht
   exact ⟨o,kk' T o nT e',r⟩
  have th:∀ b ∈ [e,it],∃ o,h''.get? b=some o:=λb hb=>by
   obtain ⟨⟨old,he⟩,⟨o1,e1,_,d1⟩,_⟩:=st'
   have hb':b=e \/ b=it:=by simpa using hb
   rcases hb' with rfl | rfl
   ·exact ⟨_,he⟩
   ·exact ⟨_,e1⟩
  have I':Inv X pins σ (upd H T (.tup [.int (i:Int),x])) {s with heap:=h'',toks:=tk }:=I.aul (its := [.int i t0,u']) hf (λb o n e=>kk' b o n (kk b o n e)) th hT aw0 (.cons ⟨_,rfl⟩ (.cons ru .nil)) (by show 2<=sizeLine; decide)
  refine ⟨.ref T,_,I',rfl,⟨T,x,rfl,I.hok.fresh hT,rfl,λxs' a1=>?_⟩,⟨st'.1,st'.2.1⟩,λb hb=>?_⟩
  ·rw [I.afq a1 q1]
   exact hx
  ·have nb:b ≠ T:=by
    intro e0
    rw [e0] at hb
    exact nTf hb
   rw [aaF nb]
   exact (hf b hb).1
 done:=by
  intro X hP hw hK hc i pins s σ H E I hf st hg
  subst hP hw hK
  obtain ⟨xs,q1,e1⟩:=hg
  obtain ⟨akt,rv1,p1,_⟩:=I.list q1
  have W:=WalksT.enumerate (prog:=X.prog) (w:=X.w) (A:=X.A) (I.ok.hd hc) e it l hei hle hli akt.toArray
  have ei:i=akt.toArray.size:=by simp [e1,rv1.length]
  subst ei
  exact W.done s _ E ⟨st.1,st.2,p1.isList⟩ λh' tk kk=>⟨rfl,I.anW hf λb o n e=>kk b o n e⟩
 self:=λA i s Q E st h=>by
  obtain ⟨⟨old,he⟩,_⟩:=st
  exact wpAny_pyIter_enum he h
end
section
variable {X:Cx}
noncomputable def avh (K:PySem.W.Frag) (ta:TA):TI:=λσ H R=>ta σ H λvs H1=>∃ l,vs = [.ref l] /\ (∃ xs,SqL K H1 l xs) /\ R (Ite K l) H1
theorem asv {elts:List Expr} {k:Nat} {tpos:Pos} {a:Expr} {ta:TA} {p pos:Pos} (hm:X.mg "enumerate" = none) (ha:PA X [a] ta) (hg:X.env.kindOf "enumerate" = some .globalImplicit:=by kernel_rfl) (hs:notStar a=true:=by kernel_rfl) :
  PI X (.Tuple elts k tpos) (.Call (.Name "enumerate" p) [a] [] pos) (avh X.K ta):=by
 intro pins s σ H R I h
 refine Call_ (agk I hg hm (show bootBuiltins "enumerate" = some (.type "enumerate") by decide +kernel) (PyProof.Rows.callWith_type1 (thn (ha pos pins s σ H _ I h) λus s1 ⟨vs,H1,I1,r1,q1⟩=>?_) (acX hs) rfl) (by decide +kernel) (by kernel_rfl))
 obtain ⟨l,e,⟨xs,h1⟩,q⟩:=q1
 subst e
 cases r1 with
 | cons r rr =>
  cases rr
  cases r
  obtain ⟨akt,rv1,p1,_⟩:=I1.list h1
  obtain ⟨o1,e1,_⟩:=p1.isList
  have lt:=Heap.lt_size e1
  refine call_enumerate_list p1.isList λh' he hit hsz hk=>?_
  refine wpAny_pyIter_enum he ?_
  refine ⟨_,[_,_],_,_,H1,rfl,I1.kept (t':=s1.toks) hk,aoj l _ _ (Nat.succ_ne_self _) (Nat.ne_of_lt (Nat.lt_succ_of_lt lt)) (Nat.ne_of_lt lt),⟨⟨_,he⟩,hit⟩,λc hc=>?_,q⟩
  have hc':c=s1.heap.objs.size + 1 \/ c=s1.heap.objs.size:=by simpa using hc
  have hge:s1.heap.objs.size<=c:=by rcases hc' with rfl | rfl <;> omega
  exact I1.apc hge (I1.hok.fresh hge)
end
section
variable {t:Tx}
noncomputable def aqc (us:List Tr):List Tr:=us.zipIdx.map λp => .tup [.int (p.2:Nat),p.1]
theorem asw {K:PySem.W.Frag} {W:Addr->Prop} {H:Hp} {a:Addr} {xs:List V} {us:List Tr} (q1:SqL (nlK K) (abb W H) a xs) (r1:abd (nlK K) (abb W H) xs us):arV (nlK K) W H (Ite K a) (aqc us):=λW' H' m hw i=>by
 have q1':SqL K H' a xs:=((abo W' H').seq (m.seq q1)).toK
 refine ⟨λz=>⟨xs,q1',by rw [r1.length,z]; simp [aqc]⟩,λu hu=>?_⟩
 unfold aqc at hu
 rw [List.getElem?_map] at hu
 obtain ⟨p,hp,rfl⟩:=Option.map_eq_some_iff.mp hu
 rw [List.getElem?_zipIdx] at hp
 obtain ⟨y,hy,rfl⟩:=Option.map_eq_some_iff.mp hp
 obtain ⟨x,hx,rx⟩:=r1.apB hy
 refine ⟨⟨xs,x,q1',hx⟩,λv H'' yl=>?_⟩
 obtain ⟨T,x',rfl,fT,rfl,z⟩:=yl
 have z1:=z xs q1'
 rw [hx] at z1
 cases z1
 have nW:¬ W' T:=λw=>(hw T w).ne fT
 have sm:Same H' (upd H' T (.tup [.int (i:Int),x])):=aaW fT _
 have so:Same (abb W' H') (abb W' (upd H' T (.tup [.int (i:Int),x]))):=λb u q=>(agR (o := .tup [.int (i:Int),x]) fT b u q |> λz=>(aiE _ _ b u z))
 refine ⟨sm,?_⟩
 show Rep _ _ (.ref T) (.tup [.int ((0 + i:Nat):Int),y])
 rw [Nat.zero_add]
 refine .tup (xs := [.int (i:Int),x]) (.inl (.inl ?_)) (.cons (.int _) (.cons ((rx.mono m).mono so) .nil))
 unfold abb
 rw [if_neg nW,aa9]
noncomputable def avi (fa:AF):IF:=λρ => (fa ρ).bind λp=>match p.1 with
 | [.v (.lst us) _] => .ok (aqc us,p.2)
 | _ => .bad
theorem asx {K:PySem.W.Frag} (hK:t.K=nlK K) {ta:TA} {fa:AF} (ha:SA t ta fa):SI t (avh K ta) (avi fa):=λW ρ σ H R e h=>by
 refine ha W ρ σ H _ e (Rs.aal (Rs.aaf h) λp h vs H1 e1 s1 v1=>?_)
 split at h
 ·rename_i us _ ep
  rw [ep] at v1
  cases v1 with
  | cons h1 r1 =>
   cases r1
   have h1:=h1.rep e.wn
   rw [hK] at h1
   cases h1 with
   | lst q1 p1 =>
    refine ⟨_,rfl,⟨_,((abo _ _).seq q1).toK⟩,h _ H1 e1 s1 ?_⟩
    rw [hK]
    exact asw q1 p1
 ·exact h.elim
end
section
variable {X:Cx}
end
section
variable {K:PySem.W.Frag}
end
end L2
end
section
namespace L2
open PySem PySem.Spec PyProof.Rows
end L2
end
section
namespace L2
open PySem PySem.Spec PyProof.Rows PySem.W
noncomputable def aij:List Str := "HeadError" :: acv
noncomputable def isub (c d:Str):Bool:=c == d || d == ("HeadError" : Str)
noncomputable def avj:List Ty := [.int,.bool,.str,.tuple,.list]
noncomputable def aqd (K:Frag) (cs:List Str) (p:Str->Addr->Bool):Bool:=cs.all λc=>match nsIn K mainGlobals c with
 | some (some (.ref C))=>p c C
 | _=>true
theorem aiO {K:Frag} {cs:List Str} {p:Str->Addr->Bool} (h:aqd K cs p=true) {c:Str} (m:c ∈ cs) {C:Addr} (n:nsIn K mainGlobals c=some (some (.ref C))):p c C=true:=by
 have:=List.all_eq_true.mp h c m
 rw [n] at this
 exact this
noncomputable def axD (K:Frag) (C:Addr):Bool:=findIn K (.ref C) "__getattribute__" == some (some (.builtin "BaseException.__getattribute__")) && findIn K (.ref C) "__getattr__" == some none && findIn K (.ref C) "__class__" == some (some (.builtin "object.__class__")) && mroIn K C (.type "object") == some true && mroIn K C (.type "BaseException") == some true && (clsIn K C).isSome
theorem asy {K:Frag} {C:Addr} (h:axD K C=true):anS K C:=by
 unfold axD at h
 simp only [Bool.and_eq_true] at h
 obtain ⟨⟨⟨⟨⟨h1,h2⟩,h3⟩,h4⟩,h5⟩,h6⟩:=h
 exact ⟨beq_iff_eq.mp h1,beq_iff_eq.mp h2,beq_iff_eq.mp h3,beq_iff_eq.mp h4,beq_iff_eq.mp h5,h6⟩
noncomputable def avk (K:Frag):Bool :=
 aqd K acv (λ_ C=>axD K C && avj.all (λy=>kitOne K (.ref C) (.type y.name) == some false) && kitOne K (.ref C) (.type "ValueError") == some true) &&
 aqd K aij (λd D=>kitOne K (.type "NoneType") (.ref D) == some false && aqd K acv (λc C=>kitOne K (.ref C) (.ref D) == some (isub c d) && (!(d == ("HeadError" : Str)) || exmOne K (.ref C) (.ref D) == some true))) &&
 kitOne K (.type "NoneType") (.type "ValueError") == some false && (match K.lookup mainGlobals with
  | some o=>o.cls != .type "list"
  | none=>true)
structure ajH (K:Frag):Prop where
 o:XOk K
 n:∀ d ∈ aij,∀ D,nsIn K mainGlobals d=some (some (.ref D))->kitOne K (.type "NoneType") (.ref D)=some false
 k:∀ d ∈ aij,∀ D,nsIn K mainGlobals d=some (some (.ref D))->∀ c ∈ acv,∀ C,nsIn K mainGlobals c=some (some (.ref C))->kitOne K (.ref C) (.ref D)=some (isub c d)
 v:∀ c ∈ acv,∀ C,nsIn K mainGlobals c=some (some (.ref C))->kitOne K (.ref C) (.type "ValueError")=some true
 vn:kitOne K (.type "NoneType") (.type "ValueError")=some false
 h:∀ D,nsIn K mainGlobals "HeadError" = some (some (.ref D))->∀ c ∈ acv,∀ C,nsIn K mainGlobals c=some (some (.ref C))->exmOne K (.ref C) (.ref D)=some true
 x:∀ c ∈ acv,∀ C,nsIn K mainGlobals c=some (some (.ref C))->anS K C
 mc:∀ o,K.lookup mainGlobals=some o->o.cls ≠ .type "list"
theorem ajH.of {K:Frag} (h:avk K=true):ajH K:=by
 unfold avk at h
 simp only [Bool.and_eq_true] at h
 obtain ⟨⟨⟨h1,h2⟩,h3⟩,h4⟩:=h
 have a1:∀ c ∈ acv,∀ C,nsIn K mainGlobals c=some (some (.ref C))->anS K C /\ (∀ y:Ty,kitOne K (.ref C) (.type y.name)=some false) /\ kitOne K (.ref C) (.type "ValueError")=some true:=λc m C n=>by
  have:=aiO h1 m n
  simp only [Bool.and_eq_true] at this
  obtain ⟨⟨x1,x2⟩,x3⟩:=this
  refine ⟨asy x1,λy=>?_,beq_iff_eq.mp x3⟩
  have:=List.all_eq_true.mp x2 y (by cases y <;> simp [avj])
  exact beq_iff_eq.mp this
 have a2:∀ d ∈ aij,∀ D,nsIn K mainGlobals d=some (some (.ref D))→kitOne K (.type "NoneType") (.ref D)=some false∧∀ c ∈ acv,∀ C,nsIn K mainGlobals c=some (some (.ref C))→kitOne K (.ref C) (.ref D)=some (isub c d)∧(d = "HeadError" → exmOne K (.ref C) (.ref D)=some true):=λd m D n=>by
  have:=aiO h2 m n
  rw [Bool.and_eq_true] at this
  refine ⟨beq_iff_eq.mp this.1,λc mc C nc=>?_⟩
  have:=aiO this.2 mc nc
  rw [Bool.and_eq_true] at this
  refine ⟨beq_iff_eq.mp this.1,λe=>?_⟩
  have z:=this.2
  rw [Bool.or_eq_true] at z
  rcases z with z | z
  ·rw [e] at z; cases z
  ·exact beq_iff_eq.mp z
 refine ⟨λc m C n=>⟨λa=>alL (a1 c m C n).1,(a1 c m C n).2.1⟩,λd m D n=>(a2 d m D n).1,λd m D n c mc C nc=>((a2 d m D n).2 c mc C nc).1,λc m C n=>(a1 c m C n).2.2,beq_iff_eq.mp h3,λD n c mc C nc=>((a2 "HeadError" (List.mem_cons_self ..) D n).2 c mc C nc).2 rfl,λc m C n=>(a1 c m C n).1,λo e=>?_⟩
 rw [e] at h4
 simpa using h4
noncomputable def isc:Tr->Str->Option Bool
 | .exn c,d=>some (isub c d)
 | .non,_=>some false
 | _,_=>none
noncomputable def isv:Tr->Option Bool
 | .exn _=>some true
 | .non=>some false
 | _=>none
noncomputable def axE (K:Frag) (d:Str) (D:Addr):List V->Hp->VK->Prop:=λxs H Q=>∃ v T b,xs = [v,.ref D] /\ Rep K H v T /\ isc T d=some b /\ Q (.bl b) H
noncomputable def axF (K:Frag):List V->Hp->VK->Prop:=λxs H Q=>∃ v T b,xs = [v,.ty "ValueError"] /\ Rep K H v T /\ isv T=some b /\ Q (.bl b) H
section
variable {X:Cx}
theorem aqe (hX:ajH X.K) {d:Str} {D:Addr} (hd:d ∈ aij) (hn:nsIn X.K mainGlobals d=some (some (.ref D))):adC X (.builtin "isinstance") (axE X.K d D):=by
 intro pins s σ H xs us Q I r h
 obtain ⟨v,T,b,rfl,q1,hb,q⟩:=h
 cases q1 with
 | exn h m n =>
  cases hb
  exact alM pins s σ H _ us Q I r ⟨_,_,.ref D,_,_,rfl,h,hX.x _ m _ n,λu h=>h,hX.k d hd D hn _ m _ n,q⟩
 | non =>
  cases hb
  exact alN pins s σ H _ us Q I r ⟨.ref D,_,_,rfl,λu h=>h,hX.n d hd D hn,q⟩
 | bl y=>cases hb
 | int i=>cases hb
 | str y=>cases hb
 | tup h r=>cases hb
 | lst h r=>cases hb
theorem aqf (hX:ajH X.K):adC X (.builtin "isinstance") (axF X.K):=by
 intro pins s σ H xs us Q I r h
 obtain ⟨v,T,b,rfl,q1,hb,q⟩:=h
 cases q1 with
 | exn h m n =>
  cases hb
  exact alM pins s σ H _ us Q I r ⟨_,_,.type "ValueError",_,_,rfl,h,hX.x _ m _ n,λu h=>h,hX.v _ m _ n,q⟩
 | non =>
  cases hb
  exact alN pins s σ H _ us Q I r ⟨.type "ValueError",_,_,rfl,λu h=>h,hX.vn,q⟩
 | bl y=>cases hb
 | int i=>cases hb
 | str y=>cases hb
 | tup h r=>cases hb
 | lst h r=>cases hb
variable {e:Expr} {te:TE} {x:Str} {p q pos:Pos}
theorem pcX (hX:ajH X.K) {D:Addr} (hd:x ∈ aij) (hn:nsIn X.K mainGlobals x=some (some (.ref D))) (hm:X.mg x=some (.ref D)) (he:PE X e te) (h1:X.mg "isinstance" = none) (hg1:X.env.kindOf "isinstance" = some .globalImplicit:=by kernel_rfl) (hg2:X.env.kindOf x=some .globalImplicit:=by kernel_rfl) (hdb:(x == ("__debug__" : Str))=false:=by kernel_rfl)
  (hs:notStar e=true:=by kernel_rfl):PE X (.Call (.Name "isinstance" p) [e,.Name x q] [] pos) (tCB (axE X.K x D) (ad6 te (ad6 (tC (.ref D)) anI))) :=
 agM (aqe hX hd hn) hg1 h1 PyProof.Rows.boot_isinstance (acM he (acM (anz (v := .ref D) hg2 hm rfl hdb) aai) (acX hs)) (by decide +kernel) (by kernel_rfl) (acX hs)
theorem pcV (hX:ajH X.K) (he:PE X e te) (h1:X.mg "isinstance" = none) (h2:X.mg "ValueError" = none) (hg1:X.env.kindOf "isinstance" = some .globalImplicit:=by kernel_rfl) (hg2:X.env.kindOf "ValueError" = some .globalImplicit:=by kernel_rfl)
  (hs:notStar e=true:=by kernel_rfl):PE X (.Call (.Name "isinstance" p) [e,.Name "ValueError" q] [] pos) (tCB (axF X.K) (ad6 te (ad6 (tC (.ty "ValueError")) anI))) :=
 agM (aqf hX) hg1 h1 PyProof.Rows.boot_isinstance (acM he (acM (anA (v := .ty "ValueError") hg2 h2 (by decide +kernel) rfl (by decide +kernel) (by kernel_rfl)) aai) (acX hs)) (by decide +kernel) (by kernel_rfl) (acX hs)
end
section
variable {t:Tx} {K:Frag}
noncomputable def aki (d:Str) (fa:EF):EF:=λρ => (fa ρ).bind λp=>(dr p.2 p.1).bind λa=>match isc a d with
 | some b => .ok (eB b,p.2)
 | none => .bad
noncomputable def axG (fa:EF):EF:=λρ => (fa ρ).bind λp=>(dr p.2 p.1).bind λa=>match isv a with
 | some b => .ok (eB b,p.2)
 | none => .bad
theorem adL (hK:t.K=nlK K) {d:Str} {D:Addr} {ta:TE} {fa:EF} (ha:SE t ta fa):SE t (tCB (axE K d D) (ad6 ta (ad6 (tC (.ref D)) anI))) (aki d fa):=λW ρ σ H Q e h=>by
 refine ha W ρ σ H _ e (Rs.aal (Rs.aaf h) λp h x H1 e1 s1 v1=>?_)
 obtain ⟨a,k1,h⟩:=abY (Rs.aaf h) (acH _ _)
 have r:=aeZ e1 e.wn v1.1 k1
 rw [hK] at r
 cases z:isc a d with
 | none=>rw [z] at h; exact h.elim
 | some b =>
  rw [z] at h
  exact ⟨x,a,b,rfl,r.rep.toK,z,h _ H1 e1 s1 (.low (.bl _))⟩
theorem avl (hK:t.K=nlK K) {ta:TE} {fa:EF} (ha:SE t ta fa):SE t (tCB (axF K) (ad6 ta (ad6 (tC (.ty "ValueError")) anI))) (axG fa):=λW ρ σ H Q e h=>by
 refine ha W ρ σ H _ e (Rs.aal (Rs.aaf h) λp h x H1 e1 s1 v1=>?_)
 obtain ⟨a,k1,h⟩:=abY (Rs.aaf h) (acH _ _)
 have r:=aeZ e1 e.wn v1.1 k1
 rw [hK] at r
 cases z:isv a with
 | none=>rw [z] at h; exact h.elim
 | some b =>
  rw [z] at h
  exact ⟨x,a,b,rfl,r.rep.toK,z,h _ H1 e1 s1 (.low (.bl _))⟩
noncomputable def Pr {α : Type} (f:En->Rs (α × En)):Prop:=∀ ρ,(∀ p,f ρ = .ok p->p.2 = ρ) /\ ∀ c,f ρ ≠ .ex c
theorem aik (i:Nat):Pr (aag i):=λρ => by
 unfold aag
 refine ⟨λp h=>?_,λc h=>?_⟩ <;> (split at h <;> cases h)
 all_goals rfl
theorem aq4:Pr aar:=λρ => ⟨λp h=>by cases h; rfl,λc h=>by cases h⟩
theorem ahr {f:EF} {g:AF} (h1:Pr f) (h2:Pr g):Pr (aad f g):=λρ => by
 unfold aad
 cases e1:f ρ with
 | bad=>exact ⟨λp h=>(by cases h),λc h=>(by cases h)⟩
 | ex c=>exact absurd e1 ((h1 ρ).2 c)
 | ok p =>
  have z:=(h1 ρ).1 p e1
  obtain ⟨r,ρ1⟩:=p
  dsimp only at z
  subst z
  show (∀ p,((g ρ1).bind _) = .ok p->_) /\ ∀ c,((g ρ1).bind _) ≠ .ex c
  cases e2:g ρ1 with
  | bad=>exact ⟨λp h=>(by cases h),λc h=>(by cases h)⟩
  | ex c=>exact absurd e2 ((h2 ρ1).2 c)
  | ok q =>
   have z:=(h2 ρ1).1 q e2
   exact ⟨λp h=>by cases h; exact z,λc h=>by cases h⟩
theorem azM (T:Tr):Pr (eC T):=λρ => ⟨λp h=>by cases h; rfl,λc h=>by cases h⟩
theorem axH {g:G2} {f h:EF} (ng:∀ a b c,g a b ≠ .ex c) (h1:Pr f) (h2:Pr h):Pr (eOp g f h):=λρ => by
 unfold eOp
 cases e1:f ρ with
 | bad=>exact ⟨λp h=>(by cases h),λc h=>(by cases h)⟩
 | ex c=>exact absurd e1 ((h1 ρ).2 c)
 | ok p =>
  have z:=(h1 ρ).1 p e1
  obtain ⟨r,ρ1⟩:=p
  dsimp only at z
  subst z
  show (∀ p,((h ρ1).bind _) = .ok p->_) /\ ∀ c,((h ρ1).bind _) ≠ .ex c
  cases e2:h ρ1 with
  | bad=>exact ⟨λp h=>(by cases h),λc h=>(by cases h)⟩
  | ex c=>exact absurd e2 ((h2 ρ1).2 c)
  | ok q =>
   have z:=(h2 ρ1).1 q e2
   obtain ⟨r2,ρ2⟩:=q
   dsimp only at z
   subst z
   show (∀ p,((dr ρ2 r).bind _) = .ok p->_) /\ ∀ c,((dr ρ2 r).bind _) ≠ .ex c
   cases e3:dr ρ2 r with
   | bad=>exact ⟨λp h=>(by cases h),λc h=>(by cases h)⟩
   | ex c=>exact absurd e3 (acH _ _ c)
   | ok a =>
    show (∀ p,((dr ρ2 r2).bind _) = .ok p->_) /\ ∀ c,((dr ρ2 r2).bind _) ≠ .ex c
    cases e4:dr ρ2 r2 with
    | bad=>exact ⟨λp h=>(by cases h),λc h=>(by cases h)⟩
    | ex c=>exact absurd e4 (acH _ _ c)
    | ok b =>
     show (∀ p,((g a b).bind _) = .ok p->_) /\ ∀ c,((g a b).bind _) ≠ .ex c
     cases e5:g a b with
     | bad=>exact ⟨λp h=>(by cases h),λc h=>(by cases h)⟩
     | ex c=>exact absurd e5 (ng _ _ c)
     | ok z=>exact ⟨λp h=>(by cases h; rfl),λc h=>(by cases h)⟩
theorem asz {f:EF} (h1:Pr f):Pr (abv f):=λρ => by
 unfold abv
 cases e1:f ρ with
 | bad=>exact ⟨λp h=>(by cases h),λc h=>(by cases h)⟩
 | ex c=>exact absurd e1 ((h1 ρ).2 c)
 | ok p =>
  have z:=(h1 ρ).1 p e1
  obtain ⟨r,ρ1⟩:=p
  dsimp only at z
  subst z
  show (∀ p,((dr ρ1 r).bind _) = .ok p->_) /\ ∀ c,((dr ρ1 r).bind _) ≠ .ex c
  cases e3:dr ρ1 r with
  | bad=>exact ⟨λp h=>(by cases h),λc h=>(by cases h)⟩
  | ex c=>exact absurd e3 (acH _ _ c)
  | ok a =>
   show (∀ p,((bOf a).bind _) = .ok p->_) /\ ∀ c,((bOf a).bind _) ≠ .ex c
   cases e5:bOf a with
   | bad=>exact ⟨λp h=>(by cases h),λc h=>(by cases h)⟩
   | ex c=>exact absurd e5 (aku _ c)
   | ok z=>exact ⟨λp h=>(by cases h; rfl),λc h=>(by cases h)⟩
noncomputable def SEX (t:Tx) (cl:Str->Addr) (te:TEX) (f:EF):Prop:=∀ W ρ σ H Q (EX:St->XK),EOk t W ρ σ H->(f ρ).post (λc=>∀ H',EOk t W ρ σ H'->Stp W H H'->EX σ (.ref (cl c)) none H') (λp=>∀ v H',EOk t W p.2 σ H'->Stp W H H'->VOE t W p.2 σ H H' v p.1->Q v H')->te EX σ H Q
noncomputable def SX (t:Tx) (cl:Str->Addr) (tb:TX) (f:SF):Prop:=∀ W ρ σ H D (EX:St->XK),EOk t W ρ σ H->(f ρ).post (λc=>∀ H',EOk t W ρ σ H'->Stp W H H'->EX σ (.ref (cl c)) none H') (afZ t W H D)->tb D EX σ H
theorem al7 (hK:t.K=nlK K) {cl:Str->Addr} {n:Nat} {F:FP} {ta:TA} {fa:AF} (pr:Pr fa) (hn:∀ ρ p,fa ρ = .ok p->p.1.length=n) (ha:SA t ta fa):SEX t cl (anR (spP K cl n F) ta) (aax F fa):=λW ρ σ H Q EX e h=>by
 have h:=Rs.aaf h
 cases ek:fa ρ with
 | bad=>rw [ek] at h; exact h.elim
 | ex c=>exact absurd ek ((pr ρ).2 c)
 | ok p =>
 have hl:=hn ρ p ek
 have h2:=(pr ρ).1 p ek
 rw [ek] at h
 refine ha W ρ σ H _ e (post_eq ek ?_)
 intro vs H1 e1 s1 v1
 have h:((drs p.2 p.1).bind _).post _ _:=h
 obtain ⟨as,k1,h⟩:=abY (Rs.aaf h) (afX _ _)
 have r:=ajx e1 e.wn v1 k1
 have lv:vs.length=n:=v1.length.trans hl
 have fin:∀ Z:Addr->Prop,(∀ b,Z b->W b)->(∀ z,F as = .ok z->¬ (p.1.any isS=true /\ adt z=false)->(∀ b,W b->Z b) \/ adt z=true)->abd (nlK K) (abb Z H1) vs as->spP K cl n F vs H1 Q (EX σ):=λZ zw zs rr=>by
  refine ⟨Z,as,lv,rr,λb z=>e1.wl b (zw b z),by rw [<-hK]; exact e1.tab.ok,?_⟩
  have h:=Rs.aaf h
  cases ef:F as with
  | bad=>rw [ef] at h; exact h.elim
  | ex c =>
   rw [ef] at h
   intro H' sm
   rw [<-hK] at sm
   obtain ⟨eg,sg⟩:=e1.an2 sm
   exact h H' (h2 ▸ eg) (s1.trans sg)
  | ok z =>
   rw [ef] at h
   have h:(if p.1.any isS=true /\ adt z=false then Rs.bad else .ok (.v z.1 z.2,p.2):Rs (Rv × En)).post _ _:=h
   split at h
   ·exact h.elim
   ·rename_i c
    intro v H' sm vr
    rw [<-hK] at vr sm
    obtain ⟨eg,sg⟩:=e1.an2 sm
    refine h v H' eg (s1.trans sg) (VOE.back (H:=H1) ?_ s1.dom)
    exact VRt.voe (W0:=W) e1.wn eg.wl (zs z ef c) vr λa xs na qa=>e1.auQ sm na qa
 by_cases an:p.1.any isS=true
 ·refine fin (λ_=>False) (λ_ z=>z.elim) (λz ez c => .inr ?_) ?_
  ·cases fz:adt z with
   | true=>rfl
   | false=>exact (c ⟨an,fz⟩).elim
  ·rw [<-hK]
   exact r.reps
 ·refine fin W (λ_ z=>z) (λz ez c => .inl λ_ z=>z) ?_
  rw [<-hK]
  exact aiH e.wn v1 k1 (by simpa using an)
theorem aok {cl:Str->Addr} {te:TEX} {f:EF} (h1:SEX t cl te f):SX t cl (λD EX σ H=>te EX σ H λ_ H1=>D.nx σ H1) (adQ f):=λW ρ σ H D EX e h =>
 h1 W ρ σ H _ EX e (Rs.aal (Rs.aaf h) λp h v H1 e1 s1 v1=>h W σ H1 e1 s1.nxt)
theorem axI {cl:Str->Addr} {tc:TT} {a b:TX} {c:BF} {f g:SF} (hp:Pr c) (hc:ST t tc c) (hf:SX t cl a f) (hg:SX t cl b g):SX t cl (λD EX σ H=>tc σ H λd H1=>if d=true then a D EX σ H1 else b D EX σ H1) (sIf c f g):=λW ρ σ H D EX e h=>by
 have h:=Rs.aaf h
 cases ek:c ρ with
 | bad=>rw [ek] at h; exact h.elim
 | ex c=>exact absurd ek ((hp ρ).2 c)
 | ok p =>
  have z:=(hp ρ).1 p ek
  rw [ek] at h
  refine hc W ρ σ H _ e (post_eq ek ?_)
  intro H1 e1 s1
  obtain ⟨d,ρ1⟩:=p
  dsimp only at z
  subst z
  cases d with
  | true =>
   have h:(f ρ1).post _ _:=h
   refine hf W ρ1 σ H1 D EX e1 ?_
   cases er:f ρ1 with
   | bad=>rw [er] at h; exact h
   | ex c=>rw [er] at h; exact λH' e' s'=>h H' e' (s1.trans s')
   | ok q=>rw [er] at h; exact afZ.back h s1.nxt
  | false =>
   have h:(g ρ1).post _ _:=h
   refine hg W ρ1 σ H1 D EX e1 ?_
   cases er:g ρ1 with
   | bad=>rw [er] at h; exact h
   | ex c=>rw [er] at h; exact λH' e' s'=>h H' e' (s1.trans s')
   | ok q=>rw [er] at h; exact afZ.back h s1.nxt
theorem EOk.unset {W:Addr->Prop} {ρ : En} {σ : St} {H:Hp} {i:Nat} (e:EOk t W ρ σ H):EOk t W (ρ.set i .un) (σ.set i none) H:=by
 have mu:∀ j,Mu (ρ.set i .un) j->j ≠ i /\ Mu ρ j:=λj h=>by
  obtain ⟨ts,h | h⟩:=h <;> rcases get_set h with ⟨rfl,z,_⟩ | ⟨ne,h⟩
  ·cases z
  ·exact ⟨ne,ts,.inl h⟩
  ·cases z
  ·exact ⟨ne,ts,.inr h⟩
 have dpo:∀ j us,(ρ.set i .un)[j]? = some (.dp us)->j ≠ i /\ ρ[j]? = some (.dp us):=λj us h=>by
  rcases get_set h with ⟨rfl,z,_⟩ | ⟨ne,h⟩
  ·cases z
  ·exact ⟨ne,h⟩
 obtain ⟨F,e⟩:=e
 refine ⟨F,by rw [List.length_set,List.length_set]; exact e.len,e.zw,e.z0,e.wl,e.f0,e.n0,λj u h=>?_,λj ts h=>?_,λj ts h=>?_,λj k a h1 h2 q1 q2=>?_,e.pn,λj a m q=>e.pd j a (mu j m).2 (by rw [List.getElem?_set_ne (Ne.symm (mu j m).1)] at q; exact q),
  λj us h=>?_,λj k us ws n h1 h2=>e.dd j k us ws n (dpo j us h1).2 (dpo k ws h2).2,λj k us c h1 m q=>e.dm j k us c (dpo j us h1).2 (mu k m).2 (by rw [List.getElem?_set_ne (Ne.symm (mu k m).1)] at q; exact q),λj us h=>e.db j us (dpo j us h).2,e.tab⟩
 ·rcases get_set h with ⟨rfl,z,l⟩ | ⟨ne,h⟩
  ·cases z
  ·obtain ⟨w,h1,h2⟩:=e.sh j u h
   exact ⟨w,by rw [List.getElem?_set_ne (Ne.symm ne)]; exact h1,h2⟩
 ·rcases get_set h with ⟨rfl,z,l⟩ | ⟨ne,h⟩
  ·cases z
  ·obtain ⟨a,xs,h1,h2⟩:=e.ow j ts h
   exact ⟨a,xs,by rw [List.getElem?_set_ne (Ne.symm ne)]; exact h1,h2⟩
 ·rcases get_set h with ⟨rfl,z,l⟩ | ⟨ne,h⟩
  ·cases z
  ·obtain ⟨a,xs,h1,h2⟩:=e.rf j ts h
   exact ⟨a,xs,by rw [List.getElem?_set_ne (Ne.symm ne)]; exact h1,h2⟩
 ·obtain ⟨n1,m1⟩:=mu j h1
  obtain ⟨n2,m2⟩:=mu k h2
  rw [List.getElem?_set_ne (Ne.symm n1)] at q1
  rw [List.getElem?_set_ne (Ne.symm n2)] at q2
  exact e.dis j k a m1 m2 q1 q2
 ·obtain ⟨ne,h⟩:=dpo j us h
  obtain ⟨c,ys,h1,d⟩:=e.dp j us h
  exact ⟨c,ys,by rw [List.getElem?_set_ne (Ne.symm ne)]; exact h1,d⟩
noncomputable def Cg (K:Frag) (mg:Str->Option Value) (x:Str) (k:Addr):Prop:=nsIn K mainGlobals x=some (some (.ref k)) /\ mg x=some (.ref k)
noncomputable def XCl (K:Frag) (cl:Str->Addr) (cs:List Str):Prop:=∀ c ∈ cs,c ∈ acv /\ nsIn K mainGlobals c=some (some (.ref (cl c)))
noncomputable def ape (cs:List Str) (j:Nat) (fb fh:SF):SF:=λρ => match fb ρ with
 | .bad => .bad
 | .ok q => .ok q
 | .ex c=>if c ∈ cs then (abS (fh (ρ.set j (.sh (.exn c))))).bind λq => .ok (q.1,q.2.set j .un) else .bad
theorem avm (hK:t.K=nlK K) {cl:Str->Addr} {cs:List Str} {cH:Addr} {j:Nat} {tb:TX} {ts:TS} {fb fh:SF} (hX:ajH K) (hC:XCl K cl cs) (hn:nsIn K mainGlobals "HeadError" = some (some (.ref cH))) (hb:SX t cl tb fb)
  (hh:∀ t':Tx,t'.K=t.K->(∀ c,¬ t'.EX c)->SS t' ts fh):SS t (ayR K cH j tb ts) (ape cs j fb fh):=λW ρ σ H D e h=>by
 show tb D (exK K cH j ts D) σ H
 refine hb W ρ σ H D (exK K cH j ts D) e ?_
 unfold ape at h
 cases ek:fb ρ with
 | bad=>rw [ek] at h; exact h.elim
 | ok q=>rw [ek] at h; exact h
 | ex c =>
  rw [ek] at h
  dsimp only at h
  split at h
  ·rename_i mc
   obtain ⟨me,nc⟩:=hC c mc
   intro H' e' s'
   refine ⟨cl c,rfl,hX.h cH hn c me (cl c) nc,λea fe=>?_⟩
   have sm:=aaW fe (exO ea (cl c))
   have e1:=e'.grow sm
   have nw:¬ W ea:=λw=>e'.wn ea w fe
   have e2:EOk t W (ρ.set j (.sh (.exn c))) (σ.set j (some (.ref ea))) (upd H' ea (exO ea (cl c))):=e1.alS (by
    refine .exn (C:=cl c) ?_ me (by rw [hK]; exact arM hX.mc nc)
    rw [aa1 nw,aa9])
   refine hh {t with EX:=λ_=>False } rfl (λ_=>id) W _ _ _ (goes j D) e2.ex (Rs.aal (afz (Rs.aaf h)) λq h=>?_)
   have ex3:∀ {W2:Addr->Prop} {ρ2:En} {σ2:St} {H2:Hp},EOk {t with EX:=λ_=>False } W2 ρ2 σ2 H2->EOk t W2 ρ2 σ2 H2:=λe=>EOk.ex (t:={t with EX:=λ_=>False }) (EX:=t.EX) e
   have st:Stp W H (upd H' ea (exO ea (cl c))):=s'.trans (Stp.of sm)
   obtain ⟨fl,ρ'⟩:=q
   have h:afZ t W H D (fl,ρ'.set j .un):=h
   cases fl with
   | nx=>exact λW2 σ2 H2 e3 n3=>h W2 _ H2 (EOk.unset (ex3 e3)) (st.nxt.trans n3)
   | rt T fr=>exact λv W2 σ2 H2 e3 r3=>h v W2 _ H2 (EOk.unset (ex3 e3)) (by cases fr <;> exact r3)
   | bk=>exact λW2 σ2 H2 e3 n3=>h W2 _ H2 (EOk.unset (ex3 e3)) (st.nxt.trans n3)
   | ct=>exact λW2 σ2 H2 e3 n3=>h W2 _ H2 (EOk.unset (ex3 e3)) (st.nxt.trans n3)
  ·exact h.elim
end
section
variable {X:Cx} {e:Expr} {te:TEX} {pos:Pos}
theorem aol (he:PEX X e te) (hs:swapsWith e none pos.line X.env=pure false:=by rfl):PX X (.Expr e pos) (λD EX σ H=>te EX σ H λ_ H1=>D.nx σ H1):=by
 intro pins s σ H D EX I h
 exact wpAny_Expr_any (wpAny_mono (he pins s σ H _ EX I h) (λv s1 ⟨x,H1,I1,r1,q1⟩=>⟨σ,H1,I1,q1⟩) λ_ _ z=>z) I.quiet hs
end
end L2
end
section
namespace BH
open PySem L2
noncomputable def agB:SF:=(aaN (adZ (aen (fuI 1) (abv (eOp gNe (aag 1) (eC (.int 0)))) (atz 0 1 (aad (aag 1) (aad (eOp acK (aag 0) (aag 1)) aar))))) (abx (eCB (g1 ady) (aad (aag 0) aar))))
noncomputable def aa2:FP:=fnP 2 agB
noncomputable def afC:SF:=(aaN (sIf (abv (eOp gEq (aag 1) (eC (.int 0)))) (aif "NoBottom" (eC (.str "a fraction has no bottom of 0"))) adz) (aaN (abj (aax aa2 (aad (aag 0) (aad (aag 1) aar))) (gN 2)) (aaN (sIf (abv (eOp gLt (aag 1) (eC (.int 0)))) (abj (eUn amu (aag 2)) (gN 2)) adz) (abx (afm (aad (eOp acL (aag 0) (aag 2)) (aad (eOp acL (aag 1) (aag 2)) aar)))))))
noncomputable def abX:FP:=fnP 3 afC
noncomputable def ail:SF:=(abx (aax abX (aad (eOp aaT (eOp ab5 (eOp gIx (aag 0) (eC (.int 0))) (eOp gIx (aag 1) (eC (.int 1)))) (eOp ab5 (eOp gIx (aag 1) (eC (.int 0))) (eOp gIx (aag 0) (eC (.int 1))))) (aad (eOp ab5 (eOp gIx (aag 0) (eC (.int 1))) (eOp gIx (aag 1) (eC (.int 1)))) aar))))
noncomputable def ade:FP:=fnP 2 ail
noncomputable def agr:SF:=(abx (aax abX (aad (eOp ab5 (eOp gIx (aag 0) (eC (.int 0))) (eOp gIx (aag 1) (eC (.int 0)))) (aad (eOp ab5 (eOp gIx (aag 0) (eC (.int 1))) (eOp gIx (aag 1) (eC (.int 1)))) aar))))
noncomputable def abE:FP:=fnP 2 agr
noncomputable def amy:SF:=(abx (an0 (anq .int (aag 0)) (axd (anq .bool (aag 0)))))
noncomputable def ab1:FP:=fnP 1 amy
noncomputable def afD:SF:=(aaN (sIf (bOr (ajc (ahd (anq .tuple (aag 0)))) (abv (eOp gNe (eCB (g1 abw) (aad (aag 0) aar)) (eC (.int 2))))) (abx (eC (.bl false))) adz) (aaN (abj (aag 0) (gT 2 (aa6 (gN 1) (aa6 (gN 2) adD)))) (aaN (sIf (bOr (ajc (ahd (aax ab1 (aad (aag 1) aar)))) (ajc (ahd (aax ab1 (aad (aag 2) aar))))) (abx (eC (.bl false))) adz) (abx (an0 (eOp gGe (aag 2) (eC (.int 1))) (eOp gEq (aax aa2 (aad (aag 1) (aad (aag 2) aar))) (eC (.int 1))))))))
noncomputable def abF:FP:=fnP 3 afD
noncomputable def ain:SF:=(abx (an0 (aax abF (aad (aag 0) aar)) (agq gLe gLe (eC (.int 0)) (eOp gIx (aag 0) (eC (.int 0))) (eOp gIx (aag 0) (eC (.int 1))))))
noncomputable def aco:FP:=fnP 1 ain
noncomputable def ags:SF:=(aaN (sIf (bOr (ajc (ahd (anq .list (aag 0)))) (ajc (abv (agq gLe gLe (eC (.int 1)) (eCB (g1 abw) (aad (aag 0) aar)) (aag 1))))) (abx (eC (.bl false))) adz) (abx (eCB (g1 acF) (aad (acd [none] (fSq (aag 0)) (gN 0) aey (aax aco (aad (aag 0) aar))) aar))))
noncomputable def acg:FP:=fnP 2 ags
noncomputable def ajI:SF:=(aaN (sIf (bOr (ajc (ahd (anq .list (aag 0)))) (ajc (abv (agq gLe gLe (eC (.int 1)) (eCB (g1 abw) (aad (aag 0) aar)) (eC (.int 4)))))) (abx (eC (.bl false))) adz) (aaN (sIf (ajc (ahd (eCB (g1 acF) (aad (acd [none] (fSq (aag 0)) (gN 0) aey (aax acg (aad (aag 0) (aad (eC (.int 12)) aar)))) aar)))) (abx (eC (.bl false))) adz) (abx (eCB (g1 acF) (aad (acd [none,some 0] (fSq (aag 0)) (gN 0) aey (eOp gEq (eCB (g1 abw) (aad (aag 0) aar)) (eCB (g1 abw) (aad (eOp gIx (aag 1) (eC (.int 0))) aar)))) aar)))))
noncomputable def aeD:FP:=fnP 1 ajI
noncomputable def ahs:SF:=(aaN (abj (eC (.int 1)) (gN 1)) (aaN (adZ (afn (fSq (aag 0)) (gT 2 (aa6 (gN 2) (aa6 (gN 3) adD))) (abj (eOp acL (eOp ab5 (aag 1) (aag 3)) (aax aa2 (aad (aag 1) (aad (aag 3) aar)))) (gN 1)))) (abx (aag 1))))
noncomputable def ach:FP:=fnP 4 ahs
noncomputable def ae0:SF:=(aaN (abj (aax ach (aad (aag 0) aar)) (gN 1)) (abx (acd [none,none,some 1] (fSq (aag 0)) (gT 2 (aa6 (gN 0) (aa6 (gN 1) adD))) aey (eOp ab5 (aag 0) (eOp acL (aag 2) (aag 1))))))
noncomputable def abN:FP:=fnP 2 ae0
noncomputable def aer:SF:=(aaN (abj (aax abN (aad (aag 0) aar)) (gN 1)) (abx (al3 avc [some 1] (aad (eCB (g1 abw) (aad (aag 1) aar)) aar) (rUn amu (rOp gIx (ap8 1) (ap8 0))))))
noncomputable def aaY:FP:=fnP 2 aer
noncomputable def afe:SF:=(sIf (ajc (ahd (aax aeD (aad (aag 0) aar)))) (aif "NoBook" (eC (.str "this is no book"))) adz)
noncomputable def acB:FP:=fnP 1 afe
noncomputable def aiP:SF:=(aaN (sIf (bOr (ajc (ahd (anq .list (aag 0)))) (abv (eOp gNe (eCB (g1 abw) (aad (aag 0) aar)) (aag 1)))) (abx (eC (.bl false))) adz) (abx (eCB (g1 acF) (aad (acd [none] (fSq (aag 0)) (gN 0) aey (an0 (aax abF (aad (aag 0) aar)) (eOp gGe (eOp gIx (aag 0) (eC (.int 0))) (eC (.int 0))))) aar))))
noncomputable def ac9:FP:=fnP 2 aiP
noncomputable def aeE:SF:=(aaN (sIf (ajc (ahd (anq .tuple (aag 0)))) (abx (eC (.bl false))) adz) (aaN (sIf (abv (eOp gNe (eCB (g1 abw) (aad (aag 0) aar)) (eC (.int 2)))) (abx (eOp (gIn id) (aag 0) (eC (.tup [(.tup [(.str "least")]),(.tup [(.str "greatest")]),(.tup [(.str "product")])])))) adz) (aaN (abj (aag 0) (gT 2 (aa6 (gN 2) (aa6 (gN 3) adD)))) (aaN (sIf (abv (eOp gEq (aag 2) (eC (.str "shares")))) (abx (aax ac9 (aad (aag 3) (aad (aag 1) aar)))) adz) (abx (an0 (eOp gEq (aag 2) (eC (.str "middle"))) (an0 (aax ab1 (aad (aag 3) aar)) (agq gLe gLe (eC (.int 1)) (aag 3) (aag 1)))))))))
noncomputable def abZ:FP:=fnP 4 aeE
noncomputable def ahX:SF:=(aaN (abj (eC (.tup [.int 0,.int 1])) (gN 2)) (aaN (adZ (afn (au6 (aad (aag 0) (aad (aag 1) aar))) (gT 2 (aa6 (gN 3) (aa6 (gN 4) adD))) (abj (aax ade (aad (aag 2) (aad (aax abE (aad (aag 3) (aad (aag 4) aar))) aar))) (gN 2)))) (abx (aag 2))))
noncomputable def acQ:FP:=fnP 5 ahX
noncomputable def aht:SF:=(aaN (abj (eC (.tup [.int 1,.int 1])) (gN 1)) (aaN (adZ (afn (fSq (aag 0)) (gN 2) (abj (aax abE (aad (aag 1) (aad (aag 2) aar))) (gN 1)))) (abx (aag 1))))
noncomputable def acJ:FP:=fnP 3 aht
noncomputable def aeS:SF:=(aaN (sIf (abv (eOp gEq (eOp gIx (aag 0) (eC (.int 0))) (eC (.str "greatest")))) (abx (eC (.int 1))) adz) (aaN (sIf (abv (eOp gEq (eOp gIx (aag 0) (eC (.int 0))) (eC (.str "least")))) (abx (aag 1)) adz) (abx (eOp gIx (aag 0) (eC (.int 1))))))
noncomputable def acO:FP:=fnP 2 aeS
noncomputable def aeT:SF:=(aaN (sIf (abv (eOp gEq (eOp gIx (aag 0) (eC (.int 0))) (eC (.str "shares")))) (abx (aax acQ (aad (eOp gIx (aag 0) (eC (.int 1))) (aad (aag 1) aar)))) adz) (aaN (sIf (abv (eOp gEq (eOp gIx (aag 0) (eC (.int 0))) (eC (.str "product")))) (abx (aax acJ (aad (aag 1) aar))) adz) (abx (eOp gIx (aag 1) (eOp gIx (aax aaY (aad (aag 1) aar)) (eOp acw (aax acO (aad (aag 0) (aad (eCB (g1 abw) (aad (aag 1) aar)) aar))) (eC (.int 1))))))))
noncomputable def abR:FP:=fnP 2 aeT
noncomputable def abO:SF:=(aaN (adQ (aax acB (aad (aag 0) aar))) (sIf (ajc (ahd (aax abZ (aad (aag 1) (aad (eCB (g1 abw) (aad (aag 0) aar)) aar))))) (aif "NoRule" (eC (.str "this is no rule for the book's lists"))) adz))
noncomputable def aau:FP:=fnP 2 abO
noncomputable def akF:SF:=(abx (acd [none,some 1] (fSq (aag 0)) (gN 0) aey (eOp gIx (aag 0) (aag 1))))
noncomputable def adu:FP:=fnP 2 akF
noncomputable def akG:SF:=(abx (acd [none,some 1,some 0] (agS (aad (eCB (g1 abw) (aad (eOp gIx (aag 0) (eC (.int 0))) aar)) aar)) (gN 0) aey (aax abR (aad (aag 1) (aad (aax adu (aad (aag 2) (aad (aag 0) aar))) aar)))))
noncomputable def aci:FP:=fnP 2 akG
noncomputable def acR:SF:=(aaN (adQ (aax aau (aad (aag 0) (aad (aag 1) aar)))) (abx (aax aci (aad (aag 0) (aad (aag 1) aar)))))
noncomputable def abf:FP:=fnP 2 acR
noncomputable def af3:SF:=(abx (an0 (aax ab1 (aad (aag 0) aar)) (agq gLe gLe (eC (.int 0)) (aag 0) (aag 1))))
noncomputable def adf:FP:=fnP 2 af3
noncomputable def agt:SF:=(sIf (ajc (ahd (aax adf (aad (aag 1) (aad (eCB (g1 abw) (aad (eOp gIx (aag 0) (eC (.int 0))) aar)) aar))))) (aif "NoCount" (eC (.str "this is no count of the book's things"))) adz)
noncomputable def acj:FP:=fnP 2 agt
noncomputable def aaZ:SF:=(aaN (adQ (aax aau (aad (aag 0) (aad (aag 1) aar)))) (adQ (aax acj (aad (aag 0) (aad (aag 2) aar)))))
noncomputable def aav:FP:=fnP 3 aaZ
noncomputable def aio:SF:=(aaN (adQ (aax aav (aad (aag 0) (aad (aag 1) (aad (aag 2) aar))))) (aaN (abj (aax aci (aad (aag 0) (aad (aag 1) aar))) (gN 3)) (abx (acd [none,some 3] (fSq (eSl (aax aaY (aad (aag 3) aar)) oNo (ab9 (aag 2)))) (gN 0) aey (afm (aad (aag 0) (aad (eOp gIx (aag 1) (aag 0)) aar)))))))
noncomputable def ab2:FP:=fnP 4 aio
end BH
end
section
namespace K17
open PySem L2 BH
noncomputable def top (i:Nat):Stmt:=PySem.Challenge.pw_bestheads_k17_no_best_few.main.body.getD i (.Pass ⟨0,0,0,0⟩)
noncomputable abbrev af4:Stmt:=top 17
noncomputable abbrev ac1:Stmt:=top 18
noncomputable abbrev aeb:Stmt:=top 19
noncomputable abbrev af5:Stmt:=top 20
noncomputable abbrev aeF:Stmt:=top 21
noncomputable abbrev aec:Stmt:=top 22
noncomputable abbrev adv:Stmt:=top 23
noncomputable abbrev abP:Stmt:=top 24
noncomputable abbrev acy:Stmt:=top 25
noncomputable abbrev af6:Stmt:=top 29
noncomputable abbrev adM:Stmt:=top 30
noncomputable abbrev aeG:Stmt:=top 31
noncomputable abbrev af7:Stmt:=top 32
noncomputable abbrev afg:Stmt:=top 33
noncomputable abbrev ada:Stmt:=top 36
noncomputable abbrev ahu:Stmt:=top 37
noncomputable abbrev adR:Stmt:=top 38
noncomputable abbrev adw:Stmt:=top 39
noncomputable abbrev af8:Stmt:=top 40
noncomputable abbrev af9:Stmt:=top 41
noncomputable abbrev acq:Stmt:=top 42
noncomputable abbrev aeH:Stmt:=top 44
noncomputable abbrev aby:Stmt:=top 45
noncomputable abbrev aed:Stmt:=top 46
noncomputable abbrev aee:Stmt:=top 47
noncomputable abbrev adS:Stmt:=top 48
noncomputable abbrev aeU:Stmt:=top 49
noncomputable abbrev awD:Stmt:=top 51
noncomputable abbrev akH:Stmt:=top 52
noncomputable abbrev aom:Stmt:=top 53
noncomputable abbrev aon:Stmt:=top 54
noncomputable abbrev akI:Stmt:=top 55
noncomputable abbrev akJ:Stmt:=top 56
noncomputable abbrev aoo:Stmt:=top 57
noncomputable abbrev aop:Stmt:=top 58
noncomputable abbrev aeI:Stmt:=top 59
noncomputable abbrev afE:Stmt:=top 60
noncomputable abbrev aga:Stmt:=top 61
noncomputable abbrev aiQ:Stmt:=top 62
noncomputable abbrev akK:Stmt:=top 63
noncomputable abbrev aqg:Stmt:=top 64
structure Nm (mg:Str->Option Value):Prop where
 ajJ:mg "ValueError" = none
 axJ:mg "abs" = none
 aqh:mg "all" = none
 avn:mg "bool" = none
 akL:mg "enumerate" = none
 avo:mg "int" = none
 aaD:mg "isinstance" = none
 aef:mg "len" = none
 aoq:mg "list" = none
 axK:mg "min" = none
 adT:mg "range" = none
 aqi:mg "sorted" = none
 ahv:mg "tuple" = none
 axL:mg "zip" = none
noncomputable def azN:SF:=(aaN (abj (acU (aad (aki "NoBook" (aag 0)) (aad (aki "NoRule" (aag 0)) (aad (aki "NoCount" (aag 0)) aar)))) (gN 2)) (aaN (abj (eOp aaT (aag 2) (acU (aad (aki "TooMany" (aag 0)) (aad (aki "NoLine" (aag 0)) (aad (aki "NoBottom" (aag 0)) aar))))) (gN 2)) (aaN (abj (eOp aaT (aag 2) (acU (aad (aki "NoList" (aag 0)) (aad (aki "NoLooks" (aag 0)) (aad (aki "NoSlack" (aag 0)) aar))))) (gN 2)) (aaN (abj (eOp aaT (aag 2) (acU (aad (aki "NoText" (aag 0)) (aad (aki "NoThing" (aag 0)) (aad (aki "NoThings" (aag 0)) aar))))) (gN 2)) (aaN (abj (eOp aaT (aag 2) (acU (aad (aki "NoWorth" (aag 0)) (aad (aki "NotSure" (aag 0)) aar)))) (gN 2)) (abx (an0 (eOp gEq (aag 2) (acd [none,some 1] (agS (aad (eC (.int 14)) aar)) (gN 0) aey (eOp gEq (aag 0) (aag 1)))) (axG (aag 0)))))))))
noncomputable def axM:FP:=fnP 3 azN
noncomputable def aor:SF:=(aaN (abj (eOp aaT (eSl (aag 0) oNo (ab9 (eC (.int 63)))) (acU (aad (eCB (g1 abw) (aad (aag 0) aar)) aar))) (gN 1)) (aaN (abj (eC (.int 1)) (gN 2)) (aaN (adZ (afn (agS (aad (eC (.int 160)) aar)) (gN 3) (aaN (abj (eOp acK (eOp aaT (eOp aaT (eOp gIx (aag 1) (eOp acK (aag 3) (eCB (g1 abw) (aad (aag 1) aar)))) (eOp ab5 (eC (.int 48271)) (aag 3))) (eC (.int 7))) (eC (.int 2147483629))) (gN 4)) (aaN (abj (eOp acK (eOp aaT (eOp ab5 (aag 4) (aag 4)) (eOp ab5 (eC (.int 69621)) (aag 3))) (eC (.int 2147483587))) (gN 4)) (abj (eOp aaT (eOp ab5 (aag 2) (eC (.int 2147483587))) (eOp acK (eOp ab5 (aag 4) (aag 4)) (eC (.int 2147483563)))) (gN 2)))))) (aaN (sIf (abv (eOp gGe (eOp gIx (aag 1) (eC (.int 0))) (eOp acC (eC (.int 10)) (eC (.int 18))))) (abx (acU (aad (eOp acw (eOp gIx (aag 1) (eC (.int 0))) (eOp acC (eC (.int 10)) (eC (.int 18)))) (aad (aag 2) aar)))) adz) (abx (acU (aad (eC (.int 0)) (aad (aag 2) aar))))))))
noncomputable def agb:FP:=fnP 5 aor
noncomputable def ajK:SF:=(aaN (abj (eCB (g1 aqT) (aad (eOp gEq (eOp gIx (aag 0) (eC (.int 0))) (eC (.int 0))) aar)) (gN 2)) (aaN (abj (eOp acK (eOp gIx (aag 0) (aag 2)) (aag 1)) (gN 3)) (aaN (arY 0 (aag 2) (eOp acL (eOp gIx (aag 0) (aag 2)) (aag 1))) (abx (aag 3)))))
noncomputable def aaO:FR:=fnR 4 0 ajK
noncomputable def avp:SF:=(aaN (abj (aag 0) (gN 2)) (aaN (abj (aag 1) (gN 3)) (aaN (adZ (aen (fuI 3) (abv (eOp gGt (aag 3) (eC (.int 0)))) (atz 2 3 (aad (aag 3) (aad (eOp acK (aag 2) (aag 3)) aar))))) (abx (afm (aad (eOp acL (aag 0) (aag 2)) (aad (eOp acL (aag 1) (aag 2)) aar)))))))
noncomputable def ad1:FP:=fnP 4 avp
noncomputable def aos:SF:=(aaN (abj (aaL 0 aaO (aad (aag 0) (aad (eC (.int 8)) aar))) (gN 2)) (aaN (sIf (abv (eOp gLt (aag 2) (eC (.int 2)))) (abx (afm (aad (aag 2) (aad (eC (.int 1)) aar)))) adz) (aaN (sIf (abv (eOp gLt (aag 2) (eC (.int 5)))) (abx (aax ad1 (aad (aaL 0 aaO (aad (aag 0) (aad (eC (.int 5)) aar))) (aad (eC (.int 4)) aar)))) adz) (aaN (sIf (abv (eOp gEq (aag 2) (eC (.int 5)))) (aaN (abj (eOp aaT (eC (.int 1)) (aaL 0 aaO (aad (aag 0) (aad (eOp acw (eOp acC (eC (.int 10)) (eC (.int 12))) (eC (.int 1))) aar)))) (gN 3)) (abx (aax ad1 (aad (aaL 0 aaO (aad (aag 0) (aad (eOp aaT (aag 3) (eC (.int 1))) aar))) (aad (aag 3) aar))))) adz) (aaN (abj (eOp gIx (eOp aaT (aag 1) (eCL [.tup [.int 1,.int 2]])) (aaL 0 aaO (aad (aag 0) (aad (eOp aaT (eCB (g1 abw) (aad (aag 1) aar)) (eC (.int 1))) aar)))) (gT 2 (aa6 (gN 4) (aa6 (gN 3) adD)))) (aaN (sIf (abv (eOp gEq (aag 2) (eC (.int 6)))) (abx (afm (aad (aag 4) (aad (aag 3) aar)))) adz) (abx (aax ad1 (aad (eCB (g2 adq) (aad (eOp aaT (aag 4) (eC (.int 1))) (aad (aag 3) aar))) (aad (aag 3) aar))))))))))
noncomputable def afh:FR:=fnR 5 0 aos
noncomputable def asA:SF:=(aaN (anr 3 (acU aar)) (aaN (anr 4 (acU aar)) (aaN (adZ (afn (agS (aad (aag 1) aar)) (gN 5) (aaN (anr 6 (acU aar)) (aaN (afn (agS (aad (aag 2) aar)) (gN 7) (aaN (adQ (eMt 6 alV (aad (aaL 0 afh (aad (aag 0) (aad (aag 4) aar))) aar))) (adQ (eMt 4 alV (aad (eOp gIx (aag 6) (eUn amu (eC (.int 1)))) aar))))) (aty 6 (adQ (eMt 3 alV (aad (aag 6) aar)))))))) (abx (aag 3)))))
noncomputable def aiR:FR:=fnR 8 0 asA
noncomputable def aq5:SF:=(abx (aaL 0 aiR (aad (aag 0) (aad (eOp aaT (eC (.int 1)) (aaL 0 aaO (aad (aag 0) (aad (eC (.int 4)) aar)))) (aad (eOp aaT (eC (.int 1)) (aaL 0 aaO (aad (aag 0) (aad (eC (.int 12)) aar)))) aar)))))
noncomputable def aip:FR:=fnR 1 0 aq5
noncomputable def aq6:SF:=(aaN (abj (aaL 0 aaO (aad (aag 0) (aad (eC (.int 7)) aar))) (gN 2)) (aaN (sIf (abv (eOp gEq (aag 2) (eC (.int 0)))) (abx (afm (aad (eC (.str "middle")) (aad (eOp aaT (eC (.int 1)) (aaL 0 aaO (aad (aag 0) (aad (aag 1) aar)))) aar)))) adz) (aaN (sIf (abv (eOp gLt (aag 2) (eC (.int 4)))) (abx (eOp gIx (eCL [.tup [.str "least"],.tup [.str "greatest"],.tup [.str "product"]]) (eOp acw (aag 2) (eC (.int 1))))) adz) (aaN (anr 3 (acU aar)) (aaN (adZ (afn (agS (aad (aag 1) aar)) (gN 4) (aaN (abj (aaL 0 aaO (aad (aag 0) (aad (eC (.int 4)) aar))) (gN 5)) (aaN (abj (eOp gIx (acU (aad (eC (.int 0)) (aad (eC (.int 1)) (aad (eOp aaT (eC (.int 1)) (aaL 0 aaO (aad (aag 0) (aad (eC (.int 9)) aar)))) (aad (aaL 0 aaO (aad (aag 0) (aad (eOp acC (eC (.int 10)) (eC (.int 12))) aar))) aar))))) (aag 5)) (gN 6)) (adQ (eMt 3 alV (aad (aax ad1 (aad (aag 6) (aad (eOp gIx (acU (aad (eC (.int 1)) (aad (eC (.int 1)) (aad (eOp aaT (eC (.int 1)) (aaL 0 aaO (aad (aag 0) (aad (eC (.int 9)) aar)))) (aad (eOp aaT (eC (.int 1)) (aaL 0 aaO (aad (aag 0) (aad (eOp acw (eOp acC (eC (.int 10)) (eC (.int 12))) (eC (.int 1))) aar)))) aar))))) (aag 5)) aar))) aar))))))) (aty 3 (abx (afm (aad (eC (.str "shares")) (aad (aag 3) aar))))))))))
noncomputable def aiq:FR:=fnR 7 0 aq6
noncomputable def ajL:SF:=(aaN (abj (aaL 0 aaO (aad (aag 0) (aad (eC (.int 20)) aar))) (gN 2)) (aaN (abj (acU (aad (eC .non) (aad (acU aar) (aad (eCB (g1 aaU) (aad (aag 1) aar)) (aad (eSl (eOp ab5 (aag 1) (eC (.int 5))) oNo (ab9 (eC (.int 5)))) (aad (acd [none] (fSq (aag 1)) (gN 0) aey (acU aar)) (aad (acd [none] (fSq (aag 1)) (gN 0) aey (eSl (eOp ab5 (aag 0) (eC (.int 13))) oNo (ab9 (eC (.int 13))))) aar))))))) (gN 3)) (aaN (abj (eOp aaT (aag 3) (acU (aad (eOp aaT (eSl (aag 1) oNo (ab9 (eC (.int 3)))) (acU (aad (eOp aaT (eOp gIx (aag 1) (eC (.int 0))) (eCL [.tup [.int 0,.int 1]])) aar))) (aad (eOp aaT (acU (aad (eCB (g1 aaU) (aad (eOp gIx (aag 1) (eC (.int 0))) aar)) aar)) (eSl (aag 1) (ab9 (eC (.int 1))) oNo)) (aad (eOp gIx (aag 1) (eC (.int 0))) (aad (eC (.str "book")) aar)))))) (gN 3)) (aaN (sIf (abv (eOp gLt (aag 2) (eC (.int 10)))) (abx (eOp gIx (aag 3) (aag 2))) adz) (aaN (abj (eOp gIx (eCL [.tup [.int 2,.int 4],.tup [.int 3,.int 2],.tup [.int (-1),.int 2],.tup [.int 1,.int 0],.tup [.int 0,.int 2],.lst [.int 1,.int 2],.tup [.bl true,.int 1],.tup [.int 1,.bl true],.tup [.int 1,.int 2,.int 3],.non]) (eOp acw (aag 2) (eC (.int 10)))) (gN 4)) (aaN (abj (aaL 0 aaO (aad (aag 0) (aad (eCB (g1 abw) (aad (aag 1) aar)) aar))) (gN 5)) (aaN (abj (aaL 0 aaO (aad (aag 0) (aad (eCB (g1 abw) (aad (eOp gIx (aag 1) (eC (.int 0))) aar)) aar))) (gN 6)) (aaN (abj (eOp aaT (eOp aaT (eSl (eOp gIx (aag 1) (aag 5)) oNo (ab9 (aag 6))) (acU (aad (aag 4) aar))) (eSl (eOp gIx (aag 1) (aag 5)) (ab9 (eOp aaT (aag 6) (eC (.int 1)))) oNo)) (gN 7)) (abx (eOp aaT (eOp aaT (eSl (aag 1) oNo (ab9 (aag 5))) (acU (aad (aag 7) aar))) (eSl (aag 1) (ab9 (eOp aaT (aag 5) (eC (.int 1)))) oNo)))))))))))
noncomputable def ad2:FR:=fnR 8 0 ajL
noncomputable def ajM:SF:=(aaN (abj (acd [none] (agS (aad (aag 1) aar)) (gN 0) aey (eC (.tup [.int 1,.int 1]))) (gN 2)) (aaN (abj (aaL 0 aaO (aad (aag 0) (aad (aag 1) aar))) (gN 3)) (aaN (abj (acU (aad (eC .non) (aad (afm aar) (aad (eC (.tup [.str "least",.int 1])) (aad (eCL [.str "least"]) (aad (eC (.str "least")) (aad (eC (.tup [.str "most"])) (aad (eC (.tup [.str "shares"])) (aad (afm (aad (eC (.str "shares")) (aad (eOp aaT (aag 2) (eCL [.tup [.int 1,.int 1]])) aar))) aar))))))))) (gN 4)) (aaN (abj (eOp aaT (aag 4) (acU (aad (afm (aad (eC (.str "shares")) (aad (eCB (g1 aaU) (aad (aag 2) aar)) aar))) (aad (afm (aad (eC (.str "shares")) (aad (eOp aaT (eOp aaT (eSl (aag 2) oNo (ab9 (aag 3))) (eCL [.tup [.int (-1),.int 2]])) (eSl (aag 2) (ab9 (eOp aaT (aag 3) (eC (.int 1)))) oNo)) aar))) aar)))) (gN 4)) (aaN (abj (eOp aaT (aag 4) (acU (aad (afm (aad (eC (.str "shares")) (aad (eOp aaT (eOp aaT (eSl (aag 2) oNo (ab9 (aag 3))) (eCL [.tup [.int 2,.int 4]])) (eSl (aag 2) (ab9 (eOp aaT (aag 3) (eC (.int 1)))) oNo)) aar))) (aad (afm (aad (eC (.str "shares")) (aad (eOp aaT (eOp aaT (eSl (aag 2) oNo (ab9 (aag 3))) (eCL [.int 1])) (eSl (aag 2) (ab9 (eOp aaT (aag 3) (eC (.int 1)))) oNo)) aar))) aar)))) (gN 4)) (aaN (abj (eOp aaT (aag 4) (acU (aad (eC (.tup [.str "middle",.int 0])) (aad (afm (aad (eC (.str "middle")) (aad (eOp aaT (aag 1) (eC (.int 1))) aar))) (aad (eC (.tup [.str "middle",.bl true])) (aad (eC (.tup [.str "middle"])) (aad (eC (.tup [.str "product",.int 1])) aar))))))) (gN 4)) (aaN (abj (eOp aaT (aag 4) (acU (aad (eC (.tup [.str "middle",.str "1"])) (aad (afm (aad (eC (.str "shares")) (aad (eSl (aag 2) (ab9 (eC (.int 1))) oNo) aar))) (aad (eC (.int 7)) aar))))) (gN 4)) (abx (eOp gIx (aag 4) (aaL 0 aaO (aad (aag 0) (aad (eC (.int 20)) aar))))))))))))
noncomputable def ad3:FR:=fnR 5 0 ajM
noncomputable def air:SF:=(aaN (abj (eOp aaT (eOp acC (eC (.int 10)) (eC (.int 59))) (aaL 0 aaO (aad (aag 0) (aad (eOp acC (eC (.int 10)) (eC (.int 59))) aar)))) (gN 2)) (abx (eOp gIx (acU (aad (eUn amu (eC (.int 1))) (aad (eOp aaT (aag 1) (eC (.int 1))) (aad (eC .non) (aad (eC (.bl true)) (aad (eC (.str "1")) (aad (eC (.tup [.int 1,.int 1])) (aad (eCL [.int 1]) (aad (eOp aaT (aag 1) (aag 2)) (aad (eOp acw (eC (.int 0)) (aag 2)) (aad (eC (.bl false)) aar))))))))))) (aaL 0 aaO (aad (aag 0) (aad (eC (.int 10)) aar))))))
noncomputable def adg:FR:=fnR 3 0 air
noncomputable def aqj:SF:=(aaN (abj (eC .non) (gN 4)) (aaN (ape ["NoBook", "NoBottom", "NoCount", "NoRule"] 5 (sIf (abv (eOp gEq (aag 0) (eC (.int 0)))) (adQ (aax abf (aad (aag 1) (aad (aag 2) aar)))) (adQ (aax ab2 (aad (aag 1) (aad (aag 2) (aad (aag 3) aar)))))) (abj (aag 5) (gN 4))) (abx (aag 4))))
noncomputable def aeg:FP:=fnP 6 aqj
noncomputable def asB:SF:=(aaN (adZ (afn (avi (aad (aag 1) aar)) (gT 2 (aa6 (gN 2) (aa6 (gN 3) adD))) (sIf (ahd (aag 3)) (abx (aax axM (aad (aag 0) (aad (aag 2) aar)))) adz))) (abx (eOp (gIs id) (aag 0) (eC .non))))
noncomputable def agc:FP:=fnP 4 asB
noncomputable def avq:SF:=(aaN (anr 1 (aax agb (aad (aag 0) aar))) (aaN (adZ (afn (agS (aad (eC (.int 4)) aar)) (gN 2) (aaN (abj (aaL 0 aip (aad (aag 1) aar)) (gN 3)) (aaN (abj (eCB (g1 abw) (aad (aag 3) aar)) (gN 4)) (aaN (abj (eCB (g1 abw) (aad (eOp gIx (aag 3) (eC (.int 0))) aar)) (gN 5)) (aaN (abj (aaL 0 aiq (aad (aag 1) (aad (aag 4) aar))) (gN 6)) (aaN (abj (aaL 0 aaO (aad (aag 1) (aad (eOp aaT (aag 5) (eC (.int 1))) aar))) (gN 7)) (aaN (abj (acd [none,some 1] (agS (aad (eC (.int 3)) aar)) (gN 0) aey (eOp gEq (aaL 0 aaO (aad (aag 1) (aad (eC (.int 2)) aar))) (eC (.int 1)))) (gN 8)) (aaN (sIf (ahd (eOp gIx (aag 8) (eC (.int 0)))) (abj (aaL 0 ad2 (aad (aag 1) (aad (aag 3) aar))) (gN 3)) adz) (aaN (sIf (ahd (eOp gIx (aag 8) (eC (.int 1)))) (abj (aaL 0 ad3 (aad (aag 1) (aad (aag 4) aar))) (gN 6)) adz) (aaN (sIf (ahd (eOp gIx (aag 8) (eC (.int 2)))) (abj (aaL 0 adg (aad (aag 1) (aad (aag 5) aar))) (gN 7)) adz) (afn (fSq (eCL [.int 0,.int 1,.int 0,.int 1])) (gN 9) (sIf (ajc (ahd (aax agc (aad (aax aeg (aad (aag 9) (aad (aag 3) (aad (aag 6) (aad (aag 7) aar))))) (aad (eSl (aag 8) oNo (ab9 (eOp aaT (eC (.int 2)) (aag 9)))) aar))))) (abx (eC (.bl false))) adz))))))))))))) (abx (eC (.bl true)))))
noncomputable def amz:FP:=fnP 10 avq
end K17
end
section
namespace K17
open PySem L2 BH
section
variable {P:Program} {w:World} {K:PySem.W.Frag} {mg:Str->Option Value} {base:Heap} {cl:Str->Addr}
theorem avr (a:At K mg "_law_book" aoo) (M:Nm mg) (asC:DfX P w K mg base 3 "_law_lists" (["_law_purse_here", "_law_lists_here", "_law_many"]:List Str) (spR K 3 0 aiR)) (abG:DfX P w K mg base 1 "_law_draw" (["_law_purse_here", "_law_many"]:List Str) (spR K 2 0 aaO)):DfX P w K mg base 4 "_law_book" (["_law_purse_here"]:List Str) (spR K 1 0 aip):=by
 have S:aaE (["_law_purse_here"]:List Str) (["_law_purse_here"]:List Str) (aan aoo):=⟨rfl,rfl,rfl,by decide +kernel,rfl,by decide +kernel,by decide +kernel⟩
 exact a.dfR 0 S (cl:=λ_=>0) (by decide) (λ_ _ _ _ _ _ us hl=>match us,hl with | [_],_=>by kernel_rfl) (λf cdv A outer s H E hr=>⟨_,(aaq (aaI (pcF (E:=E) (asC.mono (by decide)) hr aat (paK (pvL 0) (paK (aaG aaB aam (pcF (E:=E) (abG.mono (by decide)) hr aat (paK (pvL 0) (paK aam aai)))) (paK (aaG aaB aam (pcF (E:=E) (abG.mono (by decide)) hr aat (paK (pvL 0) (paK aam aai)))) aai)))))),λt hK hx=>(aaJ (abe hK (aah (aah (aah aay))) (aac (aae 0) (aac (abm hK (aao _) (abe hK (aah (aah aay)) (aac (aae 0) (aac (aao _) aak)))) (aac (abm hK (aao _) (abe hK (aah (aah aay)) (aac (aae 0) (aac (aao _) aak)))) aak)))))⟩)
theorem aqk (a:At K mg "_law_caught" aiQ) (M:Nm mg) (XT:ajH K) (XC:XCl K cl (["NoBook", "NoBottom", "NoCount", "NoRule"]:List Str)) {afi:Addr} (aeh:Cg K mg "HeadError" afi) (ahY:DfX P w K mg base 8 "thing_worths" (["book", "rule"]:List Str) (spP K cl 2 abf)) (amA:DfX P w K mg base 9 "best_few" (["book", "rule", "count"]:List Str) (spP K cl 3 ab2)):DfX P w K mg base 10 "_law_caught" (["_law_way", "_law_book_here", "_law_rule_here", "_law_count"]:List Str) (spP K cl 4 aeg):=by
 have S:aaE (["_law_way", "_law_book_here", "_law_rule_here", "_law_count", "_law_caught_here", "e"]:List Str) (["_law_way", "_law_book_here", "_law_rule_here", "_law_count"]:List Str) (aan aiQ):=⟨rfl,rfl,rfl,by decide +kernel,rfl,by decide +kernel,by decide +kernel⟩
 exact a.dfP S (cl:=cl) (by decide) (λ_ _ _ _ _ _ us hl=>match us,hl with | [_,_,_,_],_=>by kernel_rfl) (λf cdv A outer s H E hr=>⟨_,(aaj (psL 4 S.nd ah9) (aaj (auj (j:=5) rfl S.nd rfl rfl (aks (awY (abH (acS hr.units) (pvL 0) aam (abq _)) (aks (aol (aju (ahY.mono (by decide)) hr (paK (pvL 1) (paK (pvL 2) aai))))) (aks (aol (aju (amA.mono (by decide)) hr (paK (pvL 1) (paK (pvL 2) (paK (pvL 3) aai)))))))) aeh.2 (λe=>(aaq (psL 4 S.nd (pvL 5))))) (aaq (aaI (pvL 4))))),λt hK hx=>(aas (aaK ajv (aap 4) abD) (aas (avm hK XT XC aeh.1 (axI (asz (axH auR (aik 0) (azM _))) (abl (x_eq hK (aae 0) (aao _))) (aok (al7 hK (ahr (aik 1) (ahr (aik 2) aq4)) (aah (aah aay)) (aac (aae 1) (aac (aae 2) aak)))) (aok (al7 hK (ahr (aik 1) (ahr (aik 2) (ahr (aik 3) aq4))) (aah (aah (aah aay))) (aac (aae 1) (aac (aae 2) (aac (aae 3) aak)))))) (λt1 h1 k1=>(aaK (aae 5) (aap 4) abD))) (aaJ (aae 4))))⟩)
theorem avs (a:At K mg "_law_draw" aom) (M:Nm mg):DfX P w K mg base 1 "_law_draw" (["_law_purse_here", "_law_many"]:List Str) (spR K 2 0 aaO):=by
 have S:aaE (["_law_purse_here", "_law_many", "_law_at", "_law_found"]:List Str) (["_law_purse_here", "_law_many"]:List Str) (aan aom):=⟨rfl,rfl,rfl,by decide +kernel,rfl,by decide +kernel,by decide +kernel⟩
 exact a.dfR 0 S (cl:=λ_=>0) (by decide) (λ_ _ _ _ _ _ us hl=>match us,hl with | [_,_],_=>by kernel_rfl) (λf cdv A outer s H E hr=>⟨_,(aaj (psL 2 S.nd (awy anH M.avo (paK (adk (acS hr.units) (abk aaV (pvL 0) aam (λ_ _=>rfl)) aam (abq _)) aai))) (aaj (psL 3 S.nd (aaG afb (abk aaV (pvL 0) (pvL 2) (λ_ _=>rfl)) (pvL 1))) (aaj (alA (aaG ad8 (abk aaV (pvL 0) (pvL 2) (λ_ _=>rfl)) (pvL 1)) (atQ (pvL 0) (pvL 2) set_list)) (aaq (aaI (pvL 3)))))),λt hK hx=>(aas (aaK (axt hK (aac (x_eq hK (acY hK (aae 0) (aao _)) (aao _)) aak)) (aap 2) abD) (aas (aaK (akz hK (acY hK (aae 0) (aae 2)) (aae 1)) (aap 3) abD) (aas (arZ 0 (aky hK (acY hK (aae 0) (aae 2)) (aae 1)) (aae 2)) (aaJ (aae 3)))))⟩)
theorem avt (a:At K mg "_law_frac" aon) (M:Nm mg):DfX P w K mg base 1 "_law_frac" (["_law_top", "_law_bottom"]:List Str) (spP K cl 2 ad1):=by
 have S:aaE (["_law_top", "_law_bottom", "_law_one", "_law_other"]:List Str) (["_law_top", "_law_bottom"]:List Str) (aan aon):=⟨rfl,rfl,rfl,by decide +kernel,rfl,by decide +kernel,by decide +kernel⟩
 exact a.dfP S (cl:=cl) (by decide) (λ_ _ _ _ _ _ us hl=>match us,hl with | [_,_],_=>by kernel_rfl) (λf cdv A outer s H E hr=>⟨_,(aaj (psL 2 S.nd (pvL 0)) (aaj (psL 3 S.nd (pvL 1)) (aaj (PS.nox (alB PassesOwn.never (abH awS (pvL 3) aam (abq _)) (aaq (aqJ (i:=2) (j:=3) rfl S.nd rfl rfl (by decide) rfl rfl (paK (pvL 3) (paK (aaG afb (pvL 2) (pvL 3)) aai)) rfl)))) (aaq (aaI (ac4 (paK (aaG ad8 (pvL 0) (pvL 2)) (paK (aaG ad8 (pvL 1) (pvL 2)) aai)))))))),λt hK hx=>(aas (aaK (aae 0) (aap 2) abD) (aas (aaK (aae 1) (aap 3) abD) (aas (ae7 (λt1 h1 k1=>(alU (fuI 3) (abl (azC (h1.trans hK) (aae 3) (aao _))) (aqW 2 3 (aac (aae 3) (aac (akz (h1.trans hK) (aae 2) (aae 3)) aak)))))) (aaJ (adp (aac (aky hK (aae 0) (aae 2)) (aac (aky hK (aae 1) (aae 2)) aak)))))))⟩)
theorem azO (a:At K mg "_law_is" awD) (M:Nm mg) (XT:ajH K) {aeV:Addr} (afF:Cg K mg "NoBook" aeV) {adh:Addr} (ad4:Cg K mg "NoBottom" adh) {ad5:Addr} (aeJ:Cg K mg "NoCount" ad5) {aiS:Addr} (agW:Cg K mg "NoLine" aiS) {aiT:Addr} (agX:Cg K mg "NoList" aiT) {ahw:Addr} (afG:Cg K mg "NoLooks" ahw) {aeW:Addr} (afH:Cg K mg "NoRule" aeW) {ahx:Addr} (afI:Cg K mg "NoSlack" ahx) {aiU:Addr} (agY:Cg K mg "NoText" aiU) {ahy:Addr} (afJ:Cg K mg "NoThing" ahy) {agd:Addr} (aeX:Cg K mg "NoThings" agd) {ahz:Addr} (afK:Cg K mg "NoWorth" ahz) {ahA:Addr} (afL:Cg K mg "NotSure" ahA) {ahB:Addr} (afM:Cg K mg "TooMany" ahB):DfX P w K mg base 1 "_law_is" (["_law_error", "_law_place"]:List Str) (spP K cl 2 axM):=by
 have S:aaE (["_law_error", "_law_place", "_law_told"]:List Str) (["_law_error", "_law_place"]:List Str) (aan awD):=⟨rfl,rfl,rfl,by decide +kernel,rfl,by decide +kernel,by decide +kernel⟩
 exact a.dfP S (cl:=cl) (by decide) (λ_ _ _ _ _ _ us hl=>match us,hl with | [_,_],_=>by kernel_rfl) (λf cdv A outer s H E hr=>⟨_,(aaj (psL 2 S.nd (abA (paK (pcX XT (by decide +kernel) afF.1 afF.2 (pvL 0) M.aaD) (paK (pcX XT (by decide +kernel) afH.1 afH.2 (pvL 0) M.aaD) (paK (pcX XT (by decide +kernel) aeJ.1 aeJ.2 (pvL 0) M.aaD) aai))))) (aaj (psL 2 S.nd (aaG aaB (pvL 2) (abA (paK (pcX XT (by decide +kernel) afM.1 afM.2 (pvL 0) M.aaD) (paK (pcX XT (by decide +kernel) agW.1 agW.2 (pvL 0) M.aaD) (paK (pcX XT (by decide +kernel) ad4.1 ad4.2 (pvL 0) M.aaD) aai)))))) (aaj (psL 2 S.nd (aaG aaB (pvL 2) (abA (paK (pcX XT (by decide +kernel) agX.1 agX.2 (pvL 0) M.aaD) (paK (pcX XT (by decide +kernel) afG.1 afG.2 (pvL 0) M.aaD) (paK (pcX XT (by decide +kernel) afI.1 afI.2 (pvL 0) M.aaD) aai)))))) (aaj (psL 2 S.nd (aaG aaB (pvL 2) (abA (paK (pcX XT (by decide +kernel) agY.1 agY.2 (pvL 0) M.aaD) (paK (pcX XT (by decide +kernel) afJ.1 afJ.2 (pvL 0) M.aaD) (paK (pcX XT (by decide +kernel) aeX.1 aeX.2 (pvL 0) M.aaD) aai)))))) (aaj (psL 2 S.nd (aaG aaB (pvL 2) (abA (paK (pcX XT (by decide +kernel) afK.1 afK.2 (pvL 0) M.aaD) (paK (pcX XT (by decide +kernel) afL.1 afL.2 (pvL 0) M.aaD) aai))))) (aaq (aaI (agl (adk (acS hr.units) (pvL 2) (ado (sc:=aan awD) (No:=(["_law_error", "_law_place", "_law_told"]:List Str)) (N:=(["_law_k", "_law_place"]:List Str)) (src := [none,some 1]) (g:=(adB 0)) rfl rfl ⟨by rfl,by decide +kernel,by decide +kernel,by decide +kernel,by rfl,by decide +kernel⟩ rfl (piR M.adT (paK aam aai)) (λC s H ex=>(pgL 0 (show List.Nodup (["_law_k", "_law_place"]:List Str) by decide +kernel))) (λC s H ex=>(adk (acS hr.units) (pvL 0) (pvC 1) (abq _)))) (abq _)) (ag2 (pcV XT (pvL 0) M.aaD M.ajJ)))))))))),λt hK hx=>(aas (aaK (abK (aac (adL hK (aae 0)) (aac (adL hK (aae 0)) (aac (adL hK (aae 0)) aak)))) (aap 2) abD) (aas (aaK (abm hK (aae 2) (abK (aac (adL hK (aae 0)) (aac (adL hK (aae 0)) (aac (adL hK (aae 0)) aak))))) (aap 2) abD) (aas (aaK (abm hK (aae 2) (abK (aac (adL hK (aae 0)) (aac (adL hK (aae 0)) (aac (adL hK (aae 0)) aak))))) (aap 2) abD) (aas (aaK (abm hK (aae 2) (abK (aac (adL hK (aae 0)) (aac (adL hK (aae 0)) (aac (adL hK (aae 0)) aak))))) (aap 2) abD) (aas (aaK (abm hK (aae 2) (abK (aac (adL hK (aae 0)) (aac (adL hK (aae 0)) aak)))) (aap 2) abD) (aaJ (agp (x_eq hK (aae 2) (acN (afx (aac (aao _) aak)) (adY (by decide)) (ad0 (js := [0]) (by decide)) abD (λt1 h1 k1=>(aap 0)) (λt1 h1 k1=>(x_eq (h1.trans hK) (aae 0) (aae 1))))) (avl hK (aae 0)))))))))⟩)
theorem asD (a:At K mg "_law_lists" akJ) (M:Nm mg) (asF:DfX P w K mg base 2 "_law_worth" (["_law_purse_here", "_law_before"]:List Str) (spR K 2 0 afh)):DfX P w K mg base 3 "_law_lists" (["_law_purse_here", "_law_lists_here", "_law_many"]:List Str) (spR K 3 0 aiR):=by
 have S:aaE (["_law_purse_here", "_law_lists_here", "_law_many", "_law_found", "_law_before", "_law_place", "_law_worths", "_law_thing"]:List Str) (["_law_purse_here", "_law_lists_here", "_law_many"]:List Str) (aan akJ):=⟨rfl,rfl,rfl,by decide +kernel,rfl,by decide +kernel,by decide +kernel⟩
 exact a.dfR 0 S (cl:=λ_=>0) (by decide) (λ_ _ _ _ _ _ us hl=>match us,hl with | [_,_,_],_=>by kernel_rfl) (λf cdv A outer s H E hr=>⟨_,(aaj (psL 3 S.nd (abA aai)) (aaj (psL 4 S.nd (abA aai)) (aaj (PS.nox (ae5 PassesOwn.never rfl (piR M.adT (paK (pvL 1) aai)) (pgL 5 S.nd) (aaj (psL 6 S.nd (abA aai)) (aaj (ae5 PassesOwn.never rfl (piR M.adT (paK (pvL 2) aai)) (pgL 7 S.nd) (aaj (psE (apr PySem.F.plainAttrs_list PySem.F.slot_list_append PySem.F.type_list_append aeA (pvL 6) (acM (pcF (E:=E0) (asF.mono (by decide)) hr acT (paK (pvL 0) (paK (pvL 4) aai))) aai))) (aaq (psE (apr PySem.F.plainAttrs_list PySem.F.slot_list_append PySem.F.type_list_append aeA (pvL 4) (acM (abk aaV (pvL 6) (anF aji aam) (λ_ _=>rfl)) aai)))))) (aaq (psE (apr PySem.F.plainAttrs_list PySem.F.slot_list_append PySem.F.type_list_append aeA (pvL 3) (acM (pvL 6) aai)))))))) (aaq (aaI (pvL 3)))))),λt hK hx=>(aas (ajz 3 (abK aak)) (aas (ajz 4 (abK aak)) (aas (ae7 (λt1 h1 k1=>(ae6 (afx (aac (aae 1) aak)) (aap 5) abD (aas (ajz 6 (abK aak)) (aas (ae6 (afx (aac (aae 2) aak)) (aap 7) abD (aas (ad9 (apT 6 (abe (h1.trans hK) (aah (aah aay)) (aac (aae 0) (aac (aae 4) aak))))) (ad9 (apT 4 (acY (h1.trans hK) (aae 6) (asa (aao _))))))) (aqV 6 (ad9 (apT 3 (aae 6))))))))) (aaJ (aae 3)))))⟩)
theorem aot (a:At K mg "_law_no_book" aeI) (M:Nm mg) (abG:DfX P w K mg base 1 "_law_draw" (["_law_purse_here", "_law_many"]:List Str) (spR K 2 0 aaO)):DfX P w K mg base 2 "_law_no_book" (["_law_purse_here", "_law_book_here"]:List Str) (spR K 2 0 ad2):=by
 have S:aaE (["_law_purse_here", "_law_book_here", "_law_way", "_law_some", "_law_odd", "_law_place", "_law_thing", "_law_worths"]:List Str) (["_law_purse_here", "_law_book_here"]:List Str) (aan aeI):=⟨rfl,rfl,rfl,by decide +kernel,rfl,by decide +kernel,by decide +kernel⟩
 exact a.dfR 0 S (cl:=λ_=>0) (by decide) (λ_ _ _ _ _ _ us hl=>match us,hl with | [_,_],_=>by kernel_rfl) (λf cdv A outer s H E hr=>⟨_,(aaj (psL 2 S.nd (pcF (E:=E) (abG.mono (by decide)) hr aat (paK (pvL 0) (paK aam aai)))) (aaj (psL 3 S.nd (abA (paK ah9 (paK (abA aai) (paK (awy ad7 M.ahv (paK (pvL 1) aai)) (paK (abt ajd (aaG acI (pvL 1) aam) ab3 (ab4 aam)) (paK (ado (sc:=aan aeI) (No:=(["_law_purse_here", "_law_book_here", "_law_way", "_law_some", "_law_odd", "_law_place", "_law_thing", "_law_worths"]:List Str)) (N:=(["_law_worths"]:List Str)) (src := [none]) (g:=(adB 0)) rfl rfl ⟨by rfl,by decide +kernel,by decide +kernel,by decide +kernel,by rfl,by decide +kernel⟩ rfl (aeo (pvL 1)) (λC s H ex=>(pgL 0 (show List.Nodup (["_law_worths"]:List Str) by decide +kernel))) (λC s H ex=>(abA aai))) (paK (ado (sc:=aan aeI) (No:=(["_law_purse_here", "_law_book_here", "_law_way", "_law_some", "_law_odd", "_law_place", "_law_thing", "_law_worths"]:List Str)) (N:=(["_law_worths"]:List Str)) (src := [none]) (g:=(adB 0)) rfl rfl ⟨by rfl,by decide +kernel,by decide +kernel,by decide +kernel,by rfl,by decide +kernel⟩ rfl (aeo (pvL 1)) (λC s H ex=>(pgL 0 (show List.Nodup (["_law_worths"]:List Str) by decide +kernel))) (λC s H ex=>(abt ajd (aaG acI (pvL 0) aam) ab3 (ab4 aam)))) aai)))))))) (aaj (psL 3 S.nd (aaG aaB (pvL 3) (abA (paK (aaG aaB (abt ajd (pvL 1) ab3 (ab4 aam)) (abA (paK (aaG aaB (abk aaV (pvL 1) aam (λ_ _=>rfl)) (ahm (G:=nlK K) (Ts := [.tup [.int 0,.int 1]]) (by kernel_rfl))) aai))) (paK (aaG aaB (abA (paK (awy ad7 M.ahv (paK (abk aaV (pvL 1) aam (λ_ _=>rfl)) aai)) aai)) (abt ajd (pvL 1) (ab4 aam) ab3)) (paK (abk aaV (pvL 1) aam (λ_ _=>rfl)) (paK ace aai))))))) (aaj (acz (abH (ajw hr.units) (pvL 2) aam (abq _)) (aaq (aaI (abk aaV (pvL 3) (pvL 2) (λ_ _=>rfl)))) aa4) (aaj (psL 4 S.nd (abk aaV (ahm (G:=nlK K) (Ts := [.tup [.int 2,.int 4],.tup [.int 3,.int 2],.tup [.int (-1),.int 2],.tup [.int 1,.int 0],.tup [.int 0,.int 2],.lst [.int 1,.int 2],.tup [.bl true,.int 1],.tup [.int 1,.bl true],.tup [.int 1,.int 2,.int 3],.non]) (by kernel_rfl)) (aaG agm (pvL 2) aam) (λ_ _=>rfl))) (aaj (psL 5 S.nd (pcF (E:=E) (abG.mono (by decide)) hr aat (paK (pvL 0) (paK (pcB abg M.aef (paK (pvL 1) aai)) aai)))) (aaj (psL 6 S.nd (pcF (E:=E) (abG.mono (by decide)) hr aat (paK (pvL 0) (paK (pcB abg M.aef (paK (abk aaV (pvL 1) aam (λ_ _=>rfl)) aai)) aai)))) (aaj (psL 7 S.nd (aaG aaB (aaG aaB (abt ajd (abk aaV (pvL 1) (pvL 5) (λ_ _=>rfl)) ab3 (ab4 (pvL 6))) (abA (paK (pvL 4) aai))) (abt ajd (abk aaV (pvL 1) (pvL 5) (λ_ _=>rfl)) (ab4 (aaG aaB (pvL 6) aam)) ab3))) (aaq (aaI (aaG aaB (aaG aaB (abt ajd (pvL 1) ab3 (ab4 (pvL 5))) (abA (paK (pvL 7) aai))) (abt ajd (pvL 1) (ab4 (aaG aaB (pvL 5) aam)) ab3)))))))))))),λt hK hx=>(aas (aaK (abe hK (aah (aah aay)) (aac (aae 0) (aac (aao _) aak))) (aap 2) abD) (aas (aaK (abK (aac ajv (aac (abK aak) (aac (akB hK (aac (aae 1) aak)) (aac (aex hK (afB hK (aae 1) (aao _)) aew (ab6 (aao _))) (aac (acN (aep hK (aae 1)) (adY (by decide)) (ad0 (js := [0]) (by decide)) abD (λt1 h1 k1=>(aap 0)) (λt1 h1 k1=>(abK aak))) (aac (acN (aep hK (aae 1)) (adY (by decide)) (ad0 (js := [0]) (by decide)) abD (λt2 h2 k2=>(aap 0)) (λt2 h2 k2=>(aex (h2.trans hK) (afB (h2.trans hK) (aae 0) (aao _)) aew (ab6 (aao _))))) aak))))))) (aap 3) abD) (aas (aaK (abm hK (aae 3) (abK (aac (abm hK (aex hK (aae 1) aew (ab6 (aao _))) (abK (aac (abm hK (acY hK (aae 1) (aao _)) (ahn hK)) aak))) (aac (abm hK (abK (aac (akB hK (aac (acY hK (aae 1) (aao _)) aak)) aak)) (aex hK (aae 1) (ab6 (aao _)) aew)) (aac (acY hK (aae 1) (aao _)) (aac (acp _) aak)))))) (aap 3) abD) (aas (acA (abl (x_lt hK (aae 2) (aao _))) (aaJ (acY hK (aae 3) (aae 2))) abr) (aas (aaK (acY hK (ahn hK) (akx hK (aae 2) (aao _))) (aap 4) abD) (aas (aaK (abe hK (aah (aah aay)) (aac (aae 0) (aac (x_len hK (aac (aae 1) aak)) aak))) (aap 5) abD) (aas (aaK (abe hK (aah (aah aay)) (aac (aae 0) (aac (x_len hK (aac (acY hK (aae 1) (aao _)) aak)) aak))) (aap 6) abD) (aas (aaK (abm hK (abm hK (aex hK (acY hK (aae 1) (aae 5)) aew (ab6 (aae 6))) (abK (aac (aae 4) aak))) (aex hK (acY hK (aae 1) (aae 5)) (ab6 (abm hK (aae 6) (aao _))) aew)) (aap 7) abD) (aaJ (abm hK (abm hK (aex hK (aae 1) aew (ab6 (aae 5))) (abK (aac (aae 7) aak))) (aex hK (aae 1) (ab6 (abm hK (aae 5) (aao _))) aew)))))))))))⟩)
theorem amB (a:At K mg "_law_no_count" aga) (M:Nm mg) (abG:DfX P w K mg base 1 "_law_draw" (["_law_purse_here", "_law_many"]:List Str) (spR K 2 0 aaO)):DfX P w K mg base 2 "_law_no_count" (["_law_purse_here", "_law_many"]:List Str) (spR K 2 0 adg):=by
 have S:aaE (["_law_purse_here", "_law_many", "_law_far"]:List Str) (["_law_purse_here", "_law_many"]:List Str) (aan aga):=⟨rfl,rfl,rfl,by decide +kernel,rfl,by decide +kernel,by decide +kernel⟩
 exact a.dfR 0 S (cl:=λ_=>0) (by decide) (λ_ _ _ _ _ _ us hl=>match us,hl with | [_,_],_=>by kernel_rfl) (λf cdv A outer s H E hr=>⟨_,(aaj (psL 2 S.nd (aaG aaB (aaG agn aam aam) (pcF (E:=E) (abG.mono (by decide)) hr aat (paK (pvL 0) (paK (aaG agn aam aam) aai))))) (aaq (aaI (abk aaV (abA (paK (anF aji aam) (paK (aaG aaB (pvL 1) aam) (paK ah9 (paK agv (paK ace (paK (acZ (G:=nlK K) (Ts := [.int 1,.int 1]) (by kernel_rfl)) (paK (ahm (G:=nlK K) (Ts := [.int 1]) (by kernel_rfl)) (paK (aaG aaB (pvL 1) (pvL 2)) (paK (aaG agm aam (pvL 2)) (paK agv aai))))))))))) (pcF (E:=E) (abG.mono (by decide)) hr aat (paK (pvL 0) (paK aam aai))) (λ_ _=>rfl))))),λt hK hx=>(aas (aaK (abm hK (akA hK (aao _) (aao _)) (abe hK (aah (aah aay)) (aac (aae 0) (aac (akA hK (aao _) (aao _)) aak)))) (aap 2) abD) (aaJ (acY hK (abK (aac (asa (aao _)) (aac (abm hK (aae 1) (aao _)) (aac ajv (aac (ahb _) (aac (acp _) (aac (agA hK) (aac (ahn hK) (aac (abm hK (aae 1) (aae 2)) (aac (akx hK (aao _) (aae 2)) (aac (ahb _) aak))))))))))) (abe hK (aah (aah aay)) (aac (aae 0) (aac (aao _) aak))))))⟩)
theorem aou (a:At K mg "_law_no_rule" afE) (M:Nm mg) (abG:DfX P w K mg base 1 "_law_draw" (["_law_purse_here", "_law_many"]:List Str) (spR K 2 0 aaO)):DfX P w K mg base 2 "_law_no_rule" (["_law_purse_here", "_law_lists_here"]:List Str) (spR K 2 0 ad3):=by
 have S:aaE (["_law_purse_here", "_law_lists_here", "_law_ones", "_law_at", "_law_some"]:List Str) (["_law_purse_here", "_law_lists_here"]:List Str) (aan afE):=⟨rfl,rfl,rfl,by decide +kernel,rfl,by decide +kernel,by decide +kernel⟩
 exact a.dfR 0 S (cl:=λ_=>0) (by decide) (λ_ _ _ _ _ _ us hl=>match us,hl with | [_,_],_=>by kernel_rfl) (λf cdv A outer s H E hr=>⟨_,(aaj (aic (i:=2) (sc:=aan afE) (No:=(["_law_purse_here", "_law_lists_here", "_law_ones", "_law_at", "_law_some"]:List Str)) (N:=(["_law_place"]:List Str)) (src := [none]) (g:=(adB 0)) S.nd rfl (Or.inl rfl) rfl rfl ⟨by rfl,by decide +kernel,by decide +kernel,by decide +kernel,by rfl,by decide +kernel⟩ rfl (piR M.adT (paK (pvL 1) aai)) (λC s H ex=>(pgL 0 (show List.Nodup (["_law_place"]:List Str) by decide +kernel))) (λC s H ex=>(acZ (G:=nlK K) (Ts := [.int 1,.int 1]) (by kernel_rfl)))) (aaj (psL 3 S.nd (pcF (E:=E) (abG.mono (by decide)) hr aat (paK (pvL 0) (paK (pvL 1) aai)))) (aaj (psL 4 S.nd (abA (paK ah9 (paK (ac4 aai) (paK (acZ (G:=nlK K) (Ts := [.str "least",.int 1]) (by kernel_rfl)) (paK (ahm (G:=nlK K) (Ts := [.str "least"]) (by kernel_rfl)) (paK ace (paK (acZ (G:=nlK K) (Ts := [.str "most"]) (by kernel_rfl)) (paK (acZ (G:=nlK K) (Ts := [.str "shares"]) (by kernel_rfl)) (paK (ac4 (paK ace (paK (aaG aaB (pvL 2) (ahm (G:=nlK K) (Ts := [.tup [.int 1,.int 1]]) (by kernel_rfl))) aai))) aai)))))))))) (aaj (psL 4 S.nd (aaG aaB (pvL 4) (abA (paK (ac4 (paK ace (paK (awy ad7 M.ahv (paK (pvL 2) aai)) aai))) (paK (ac4 (paK ace (paK (aaG aaB (aaG aaB (abt ajd (pvL 2) ab3 (ab4 (pvL 3))) (ahm (G:=nlK K) (Ts := [.tup [.int (-1),.int 2]]) (by kernel_rfl))) (abt ajd (pvL 2) (ab4 (aaG aaB (pvL 3) aam)) ab3)) aai))) aai))))) (aaj (psL 4 S.nd (aaG aaB (pvL 4) (abA (paK (ac4 (paK ace (paK (aaG aaB (aaG aaB (abt ajd (pvL 2) ab3 (ab4 (pvL 3))) (ahm (G:=nlK K) (Ts := [.tup [.int 2,.int 4]]) (by kernel_rfl))) (abt ajd (pvL 2) (ab4 (aaG aaB (pvL 3) aam)) ab3)) aai))) (paK (ac4 (paK ace (paK (aaG aaB (aaG aaB (abt ajd (pvL 2) ab3 (ab4 (pvL 3))) (ahm (G:=nlK K) (Ts := [.int 1]) (by kernel_rfl))) (abt ajd (pvL 2) (ab4 (aaG aaB (pvL 3) aam)) ab3)) aai))) aai))))) (aaj (psL 4 S.nd (aaG aaB (pvL 4) (abA (paK (acZ (G:=nlK K) (Ts := [.str "middle",.int 0]) (by kernel_rfl)) (paK (ac4 (paK ace (paK (aaG aaB (pvL 1) aam) aai))) (paK (acZ (G:=nlK K) (Ts := [.str "middle",.bl true]) (by kernel_rfl)) (paK (acZ (G:=nlK K) (Ts := [.str "middle"]) (by kernel_rfl)) (paK (acZ (G:=nlK K) (Ts := [.str "product",.int 1]) (by kernel_rfl)) aai)))))))) (aaj (psL 4 S.nd (aaG aaB (pvL 4) (abA (paK (acZ (G:=nlK K) (Ts := [.str "middle",.str "1"]) (by kernel_rfl)) (paK (ac4 (paK ace (paK (abt ajd (pvL 2) (ab4 aam) ab3) aai))) (paK aam aai)))))) (aaq (aaI (abk aaV (pvL 4) (pcF (E:=E) (abG.mono (by decide)) hr aat (paK (pvL 0) (paK aam aai))) (λ_ _=>rfl))))))))))),λt hK hx=>(aas (aaK (acN (afx (aac (aae 1) aak)) (adY (by decide)) (ad0 (js := [0]) (by decide)) abD (λt1 h1 k1=>(aap 0)) (λt1 h1 k1=>(agA (h1.trans hK)))) (aap 2) abD) (aas (aaK (abe hK (aah (aah aay)) (aac (aae 0) (aac (aae 1) aak))) (aap 3) abD) (aas (aaK (abK (aac ajv (aac (adp aak) (aac (agA hK) (aac (ahn hK) (aac (acp _) (aac (agA hK) (aac (agA hK) (aac (adp (aac (acp _) (aac (abm hK (aae 2) (ahn hK)) aak))) aak))))))))) (aap 4) abD) (aas (aaK (abm hK (aae 4) (abK (aac (adp (aac (acp _) (aac (akB hK (aac (aae 2) aak)) aak))) (aac (adp (aac (acp _) (aac (abm hK (abm hK (aex hK (aae 2) aew (ab6 (aae 3))) (ahn hK)) (aex hK (aae 2) (ab6 (abm hK (aae 3) (aao _))) aew)) aak))) aak)))) (aap 4) abD) (aas (aaK (abm hK (aae 4) (abK (aac (adp (aac (acp _) (aac (abm hK (abm hK (aex hK (aae 2) aew (ab6 (aae 3))) (ahn hK)) (aex hK (aae 2) (ab6 (abm hK (aae 3) (aao _))) aew)) aak))) (aac (adp (aac (acp _) (aac (abm hK (abm hK (aex hK (aae 2) aew (ab6 (aae 3))) (ahn hK)) (aex hK (aae 2) (ab6 (abm hK (aae 3) (aao _))) aew)) aak))) aak)))) (aap 4) abD) (aas (aaK (abm hK (aae 4) (abK (aac (agA hK) (aac (adp (aac (acp _) (aac (abm hK (aae 1) (aao _)) aak))) (aac (agA hK) (aac (agA hK) (aac (agA hK) aak))))))) (aap 4) abD) (aas (aaK (abm hK (aae 4) (abK (aac (agA hK) (aac (adp (aac (acp _) (aac (aex hK (aae 2) (ab6 (aao _)) aew) aak))) (aac (aao _) aak))))) (aap 4) abD) (aaJ (acY hK (aae 4) (abe hK (aah (aah aay)) (aac (aae 0) (aac (aao _) aak))))))))))))⟩)
theorem asG (a:At K mg "_law_purse" akH) (M:Nm mg):DfX P w K mg base 1 "_law_purse" (["_law_script"]:List Str) (spP K cl 1 agb):=by
 have S:aaE (["_law_script", "_law_cells", "_law_mixed", "_law_k", "_law_number"]:List Str) (["_law_script"]:List Str) (aan akH):=⟨rfl,rfl,rfl,by decide +kernel,rfl,by decide +kernel,by decide +kernel⟩
 exact a.dfP S (cl:=cl) (by decide) (λ_ _ _ _ _ _ us hl=>match us,hl with | [_],_=>by kernel_rfl) (λf cdv A outer s H E hr=>⟨_,(aaj (psL 1 S.nd (aaG aaB (abt ajd (pvL 0) ab3 (ab4 aam)) (abA (paK (pcB abg M.aef (paK (pvL 0) aai)) aai)))) (aaj (psL 2 S.nd aam) (aaj (PS.nox (ae5 PassesOwn.never rfl (piR M.adT (paK aam aai)) (pgL 3 S.nd) (aaj (psL 4 S.nd (aaG afb (aaG aaB (aaG aaB (abk aaV (pvL 1) (aaG afb (pvL 3) (pcB abg M.aef (paK (pvL 1) aai))) (λ_ _=>rfl)) (aaG acI aam (pvL 3))) aam) aam)) (aaj (psL 4 S.nd (aaG afb (aaG aaB (aaG acI (pvL 4) (pvL 4)) (aaG acI aam (pvL 3))) aam)) (aaq (psL 2 S.nd (aaG aaB (aaG acI (pvL 2) aam) (aaG afb (aaG acI (pvL 4) (pvL 4)) aam)))))))) (aaj (acz (abH arw (abk aaV (pvL 1) aam (λ_ _=>rfl)) (aaG agn aam aam) (abq _)) (aaq (aaI (abA (paK (aaG agm (abk aaV (pvL 1) aam (λ_ _=>rfl)) (aaG agn aam aam)) (paK (pvL 2) aai))))) aa4) (aaq (aaI (abA (paK aam (paK (pvL 2) aai))))))))),λt hK hx=>(aas (aaK (abm hK (aex hK (aae 0) aew (ab6 (aao _))) (abK (aac (x_len hK (aac (aae 0) aak)) aak))) (aap 1) abD) (aas (aaK (aao _) (aap 2) abD) (aas (ae7 (λt1 h1 k1=>(ae6 (afx (aac (aao _) aak)) (aap 3) abD (aas (aaK (akz (h1.trans hK) (abm (h1.trans hK) (abm (h1.trans hK) (acY (h1.trans hK) (aae 1) (akz (h1.trans hK) (aae 3) (x_len (h1.trans hK) (aac (aae 1) aak)))) (afB (h1.trans hK) (aao _) (aae 3))) (aao _)) (aao _)) (aap 4) abD) (aas (aaK (akz (h1.trans hK) (abm (h1.trans hK) (afB (h1.trans hK) (aae 4) (aae 4)) (afB (h1.trans hK) (aao _) (aae 3))) (aao _)) (aap 4) abD) (aaK (abm (h1.trans hK) (afB (h1.trans hK) (aae 2) (aao _)) (akz (h1.trans hK) (afB (h1.trans hK) (aae 4) (aae 4)) (aao _))) (aap 2) abD)))))) (aas (acA (abl (x_ge hK (acY hK (aae 1) (aao _)) (akA hK (aao _) (aao _)))) (aaJ (abK (aac (akx hK (acY hK (aae 1) (aao _)) (akA hK (aao _) (aao _))) (aac (aae 2) aak)))) abr) (aaJ (abK (aac (aao _) (aac (aae 2) aak))))))))⟩)
theorem asH (a:At K mg "_law_right" akK) (M:Nm mg) (azP:DfX P w K mg base 1 "_law_is" (["_law_error", "_law_place"]:List Str) (spP K cl 2 axM)):DfX P w K mg base 2 "_law_right" (["_law_caught_here", "_law_wrong"]:List Str) (spP K cl 2 agc):=by
 have S:aaE (["_law_caught_here", "_law_wrong", "_law_place", "_law_one"]:List Str) (["_law_caught_here", "_law_wrong"]:List Str) (aan akK):=⟨rfl,rfl,rfl,by decide +kernel,rfl,by decide +kernel,by decide +kernel⟩
 exact a.dfP S (cl:=cl) (by decide) (λ_ _ _ _ _ _ us hl=>match us,hl with | [_,_],_=>by kernel_rfl) (λf cdv A outer s H E hr=>⟨_,(aaj (PS.nox (ae5 PassesOwn.never rfl (asv M.akL (paK (pvL 1) aai)) (ag3 rfl (ab7 (pgL 2 S.nd) (ab7 (pgL 3 S.nd) afa))) (aaq (acz (abL (pvL 3) (by intro _; rfl)) (aaq (aaI (pcF (E:=E0) (azP.mono (by decide)) hr acT (paK (pvL 0) (paK (pvL 2) aai))))) aa4)))) (aaq (aaI (adk atX (pvL 0) ah9 (abq _))))),λt hK hx=>(aas (ae7 (λt1 h1 k1=>(ae6 (asx (h1.trans hK) (aac (aae 1) aak)) (ahf (h1.trans hK) (ab8 (aap 2) (ab8 (aap 3) afc))) (ar8 (afA abD (afA abD ahk))) (acA (ac5 (h1.trans hK) (aae 3)) (aaJ (acn (h1.trans hK) k1 (aah (aah aay)) (aac (aae 0) (aac (aae 2) aak)))) abr)))) (aaJ (azB hK (aae 0) ajv)))⟩)
theorem avu (a:At K mg "_law_rule" aop) (M:Nm mg) (abG:DfX P w K mg base 1 "_law_draw" (["_law_purse_here", "_law_many"]:List Str) (spR K 2 0 aaO)) (ajN:DfX P w K mg base 1 "_law_frac" (["_law_top", "_law_bottom"]:List Str) (spP K cl 2 ad1)):DfX P w K mg base 2 "_law_rule" (["_law_purse_here", "_law_lists_here"]:List Str) (spR K 2 0 aiq):=by
 have S:aaE (["_law_purse_here", "_law_lists_here", "_law_way", "_law_weights", "_law_place", "_law_kind", "_law_top"]:List Str) (["_law_purse_here", "_law_lists_here"]:List Str) (aan aop):=⟨rfl,rfl,rfl,by decide +kernel,rfl,by decide +kernel,by decide +kernel⟩
 exact a.dfR 0 S (cl:=cl) (by decide) (λ_ _ _ _ _ _ us hl=>match us,hl with | [_,_],_=>by kernel_rfl) (λf cdv A outer s H E hr=>⟨_,(aaj (psL 2 S.nd (pcF (E:=E) (abG.mono (by decide)) hr aat (paK (pvL 0) (paK aam aai)))) (aaj (acz (abH (acS hr.units) (pvL 2) aam (abq _)) (aaq (aaI (ac4 (paK ace (paK (aaG aaB aam (pcF (E:=E) (abG.mono (by decide)) hr aat (paK (pvL 0) (paK (pvL 1) aai)))) aai))))) aa4) (aaj (acz (abH (ajw hr.units) (pvL 2) aam (abq _)) (aaq (aaI (abk aaV (ahm (G:=nlK K) (Ts := [.tup [.str "least"],.tup [.str "greatest"],.tup [.str "product"]]) (by kernel_rfl)) (aaG agm (pvL 2) aam) (λ_ _=>rfl)))) aa4) (aaj (psL 3 S.nd (abA aai)) (aaj (PS.nox (ae5 PassesOwn.never rfl (piR M.adT (paK (pvL 1) aai)) (pgL 4 S.nd) (aaj (psL 5 S.nd (pcF (E:=E0) (abG.mono (by decide)) hr acT (paK (pvL 0) (paK aam aai)))) (aaj (psL 6 S.nd (abk aaV (abA (paK aam (paK aam (paK (aaG aaB aam (pcF (E:=E0) (abG.mono (by decide)) hr acT (paK (pvL 0) (paK aam aai)))) (paK (pcF (E:=E0) (abG.mono (by decide)) hr acT (paK (pvL 0) (paK (aaG agn aam aam) aai))) aai))))) (pvL 5) (λ_ _=>rfl))) (aaq (psE (apr PySem.F.plainAttrs_list PySem.F.slot_list_append PySem.F.type_list_append aeA (pvL 3) (acM (pcF (E:=E0) (ajN.mono (by decide)) hr acT (paK (pvL 6) (paK (abk aaV (abA (paK aam (paK aam (paK (aaG aaB aam (pcF (E:=E0) (abG.mono (by decide)) hr acT (paK (pvL 0) (paK aam aai)))) (paK (aaG aaB aam (pcF (E:=E0) (abG.mono (by decide)) hr acT (paK (pvL 0) (paK (aaG agm (aaG agn aam aam) aam) aai)))) aai))))) (pvL 5) (λ_ _=>rfl)) aai))) aai)))))))) (aaq (aaI (ac4 (paK ace (paK (pvL 3) aai)))))))))),λt hK hx=>(aas (aaK (abe hK (aah (aah aay)) (aac (aae 0) (aac (aao _) aak))) (aap 2) abD) (aas (acA (abl (x_eq hK (aae 2) (aao _))) (aaJ (adp (aac (acp _) (aac (abm hK (aao _) (abe hK (aah (aah aay)) (aac (aae 0) (aac (aae 1) aak)))) aak)))) abr) (aas (acA (abl (x_lt hK (aae 2) (aao _))) (aaJ (acY hK (ahn hK) (akx hK (aae 2) (aao _)))) abr) (aas (ajz 3 (abK aak)) (aas (ae7 (λt1 h1 k1=>(ae6 (afx (aac (aae 1) aak)) (aap 4) abD (aas (aaK (abe (h1.trans hK) (aah (aah aay)) (aac (aae 0) (aac (aao _) aak))) (aap 5) abD) (aas (aaK (acY (h1.trans hK) (abK (aac (aao _) (aac (aao _) (aac (abm (h1.trans hK) (aao _) (abe (h1.trans hK) (aah (aah aay)) (aac (aae 0) (aac (aao _) aak)))) (aac (abe (h1.trans hK) (aah (aah aay)) (aac (aae 0) (aac (akA (h1.trans hK) (aao _) (aao _)) aak))) aak))))) (aae 5)) (aap 6) abD) (ad9 (apT 3 (acn (h1.trans hK) k1 (aah (aah aay)) (aac (aae 6) (aac (acY (h1.trans hK) (abK (aac (aao _) (aac (aao _) (aac (abm (h1.trans hK) (aao _) (abe (h1.trans hK) (aah (aah aay)) (aac (aae 0) (aac (aao _) aak)))) (aac (abm (h1.trans hK) (aao _) (abe (h1.trans hK) (aah (aah aay)) (aac (aae 0) (aac (akx (h1.trans hK) (akA (h1.trans hK) (aao _) (aao _)) (aao _)) aak)))) aak))))) (aae 5)) aak)))))))))) (aqV 3 (aaJ (adp (aac (acp _) (aac (aae 3) aak))))))))))⟩)
theorem asI (a:At K mg "_law_worth" akI) (M:Nm mg) (abG:DfX P w K mg base 1 "_law_draw" (["_law_purse_here", "_law_many"]:List Str) (spR K 2 0 aaO)) (ajN:DfX P w K mg base 1 "_law_frac" (["_law_top", "_law_bottom"]:List Str) (spP K cl 2 ad1)):DfX P w K mg base 2 "_law_worth" (["_law_purse_here", "_law_before"]:List Str) (spR K 2 0 afh):=by
 have S:aaE (["_law_purse_here", "_law_before", "_law_way", "_law_bottom", "_law_top"]:List Str) (["_law_purse_here", "_law_before"]:List Str) (aan akI):=⟨rfl,rfl,rfl,by decide +kernel,rfl,by decide +kernel,by decide +kernel⟩
 exact a.dfR 0 S (cl:=cl) (by decide) (λ_ _ _ _ _ _ us hl=>match us,hl with | [_,_],_=>by kernel_rfl) (λf cdv A outer s H E hr=>⟨_,(aaj (psL 2 S.nd (pcF (E:=E) (abG.mono (by decide)) hr aat (paK (pvL 0) (paK aam aai)))) (aaj (acz (abH (ajw hr.units) (pvL 2) aam (abq _)) (aaq (aaI (ac4 (paK (pvL 2) (paK aam aai))))) aa4) (aaj (acz (abH (ajw hr.units) (pvL 2) aam (abq _)) (aaq (aaI (pcF (E:=E) (ajN.mono (by decide)) hr aat (paK (pcF (E:=E) (abG.mono (by decide)) hr aat (paK (pvL 0) (paK aam aai))) (paK aam aai))))) aa4) (aaj (acz (abH (acS hr.units) (pvL 2) aam (abq _)) (aaj (psL 3 S.nd (aaG aaB aam (pcF (E:=E) (abG.mono (by decide)) hr aat (paK (pvL 0) (paK (aaG agm (aaG agn aam aam) aam) aai))))) (aaq (aaI (pcF (E:=E) (ajN.mono (by decide)) hr aat (paK (pcF (E:=E) (abG.mono (by decide)) hr aat (paK (pvL 0) (paK (aaG aaB (pvL 3) aam) aai))) (paK (pvL 3) aai)))))) aa4) (aaj (alA (abk aaV (aaG aaB (pvL 1) (ahm (G:=nlK K) (Ts := [.tup [.int 1,.int 2]]) (by kernel_rfl))) (pcF (E:=E) (abG.mono (by decide)) hr aat (paK (pvL 0) (paK (aaG aaB (pcB abg M.aef (paK (pvL 1) aai)) aam) aai))) (λ_ _=>rfl)) (ag3 rfl (ab7 (pgL 4 S.nd) (ab7 (pgL 3 S.nd) afa)))) (aaj (acz (abH (acS hr.units) (pvL 2) aam (abq _)) (aaq (aaI (ac4 (paK (pvL 4) (paK (pvL 3) aai))))) aa4) (aaq (aaI (pcF (E:=E) (ajN.mono (by decide)) hr aat (paK (pcB (anG rfl) M.axK (paK (aaG aaB (pvL 4) aam) (paK (pvL 3) aai))) (paK (pvL 3) aai))))))))))),λt hK hx=>(aas (aaK (abe hK (aah (aah aay)) (aac (aae 0) (aac (aao _) aak))) (aap 2) abD) (aas (acA (abl (x_lt hK (aae 2) (aao _))) (aaJ (adp (aac (aae 2) (aac (aao _) aak)))) abr) (aas (acA (abl (x_lt hK (aae 2) (aao _))) (aaJ (aa5 hK hx (aah (aah aay)) (aac (abe hK (aah (aah aay)) (aac (aae 0) (aac (aao _) aak))) (aac (aao _) aak)))) abr) (aas (acA (abl (x_eq hK (aae 2) (aao _))) (aas (aaK (abm hK (aao _) (abe hK (aah (aah aay)) (aac (aae 0) (aac (akx hK (akA hK (aao _) (aao _)) (aao _)) aak)))) (aap 3) abD) (aaJ (aa5 hK hx (aah (aah aay)) (aac (abe hK (aah (aah aay)) (aac (aae 0) (aac (abm hK (aae 3) (aao _)) aak))) (aac (aae 3) aak))))) abr) (aas (aaK (acY hK (abm hK (aae 1) (ahn hK)) (abe hK (aah (aah aay)) (aac (aae 0) (aac (abm hK (x_len hK (aac (aae 1) aak)) (aao _)) aak)))) (ahf hK (ab8 (aap 4) (ab8 (aap 3) afc))) (ar8 (afA abD (afA abD ahk)))) (aas (acA (abl (x_eq hK (aae 2) (aao _))) (aaJ (adp (aac (aae 4) (aac (aae 3) aak)))) abr) (aaJ (aa5 hK hx (aah (aah aay)) (aac (axu hK (aac (abm hK (aae 4) (aao _)) (aac (aae 3) aak))) (aac (aae 3) aak))))))))))⟩)
theorem ahZ (a:At K mg "are_weights" ada) (M:Nm mg) (XT:ajH K) (aei:DfX P w K mg base 2 "is_fraction" (["thing"]:List Str) (spP K cl 1 abF)):DfX P w K mg base 3 "are_weights" (["thing", "many"]:List Str) (spP K cl 2 ac9):=by
 have S:aaE (["thing", "many"]:List Str) (["thing", "many"]:List Str) (aan ada):=⟨rfl,rfl,rfl,by decide +kernel,rfl,by decide +kernel,by decide +kernel⟩
 exact a.dfP S (cl:=cl) (by decide) (λ_ _ _ _ _ _ us hl=>match us,hl with | [_,_],_=>by kernel_rfl) (λf cdv A outer s H E hr=>⟨_,(aaj (acz (PW.pt (anB (adI (abL (pcI XT.o .list (pvL 0) M.aaD M.aoq) (by intro _; rfl))) (ajg (abH (alQ hr.units) (pcB abg M.aef (paK (pvL 0) aai)) (pvL 1) (abq _))))) (aaq (aaI agv)) aa4) (aaq (aaI (pcB (agP rfl) M.aqh (paK (ado (sc:=aan ada) (No:=(["thing", "many"]:List Str)) (N:=(["part"]:List Str)) (src := [none]) (g:=(adB 0)) rfl rfl ⟨by rfl,by decide +kernel,by decide +kernel,by decide +kernel,by rfl,by decide +kernel⟩ rfl (aeo (pvL 0)) (λC s H ex=>(pgL 0 (show List.Nodup (["part"]:List Str) by decide +kernel))) (λC s H ex=>(agl (pcF (E:=E0) (aei.mono (by decide)) hr acT (paK (pvL 0) aai)) (ag2 (adk arw (abk aaV (pvL 0) aam (λ_ _=>rfl)) aam (abq _)))))) aai))))),λt hK hx=>(aas (acA (anZ (adK (ac5 hK (ahe hK .list (aae 0)))) (abl (awx hK (x_len hK (aac (aae 0) aak)) (aae 1)))) (aaJ (ahb _)) abr) (aaJ (apS hK (aac (acN (aep hK (aae 0)) (adY (by decide)) (ad0 (js := [0]) (by decide)) abD (λt1 h1 k1=>(aap 0)) (λt1 h1 k1=>(agp (acn (h1.trans hK) k1 (aah aay) (aac (aae 0) aak)) (x_ge (h1.trans hK) (acY (h1.trans hK) (aae 0) (aao _)) (aao _))))) aak))))⟩)
theorem aiV (a:At K mg "are_worths" adM) (M:Nm mg) (XT:ajH K) (amC:DfX P w K mg base 3 "is_worth" (["thing"]:List Str) (spP K cl 1 aco)):DfX P w K mg base 4 "are_worths" (["thing", "most"]:List Str) (spP K cl 2 acg):=by
 have S:aaE (["thing", "most"]:List Str) (["thing", "most"]:List Str) (aan adM):=⟨rfl,rfl,rfl,by decide +kernel,rfl,by decide +kernel,by decide +kernel⟩
 exact a.dfP S (cl:=cl) (by decide) (λ_ _ _ _ _ _ us hl=>match us,hl with | [_,_],_=>by kernel_rfl) (λf cdv A outer s H E hr=>⟨_,(aaj (acz (PW.pt (anB (adI (abL (pcI XT.o .list (pvL 0) M.aaD M.aoq) (by intro _; rfl))) (ajg (adI (alE ahQ ahQ aam (pcB abg M.aef (paK (pvL 0) aai)) (pvL 1)))))) (aaq (aaI agv)) aa4) (aaq (aaI (pcB (agP rfl) M.aqh (paK (ado (sc:=aan adM) (No:=(["thing", "most"]:List Str)) (N:=(["part"]:List Str)) (src := [none]) (g:=(adB 0)) rfl rfl ⟨by rfl,by decide +kernel,by decide +kernel,by decide +kernel,by rfl,by decide +kernel⟩ rfl (aeo (pvL 0)) (λC s H ex=>(pgL 0 (show List.Nodup (["part"]:List Str) by decide +kernel))) (λC s H ex=>(pcF (E:=E0) (amC.mono (by decide)) hr acT (paK (pvL 0) aai)))) aai))))),λt hK hx=>(aas (acA (anZ (adK (ac5 hK (ahe hK .list (aae 0)))) (adK (abl (ahl hK ahU ahU ahW ahW (aao _) (x_len hK (aac (aae 0) aak)) (aae 1))))) (aaJ (ahb _)) abr) (aaJ (apS hK (aac (acN (aep hK (aae 0)) (adY (by decide)) (ad0 (js := [0]) (by decide)) abD (λt1 h1 k1=>(aap 0)) (λt1 h1 k1=>(acn (h1.trans hK) k1 (aah aay) (aac (aae 0) aak)))) aak))))⟩)
theorem akM (a:At K mg "best_few" aeU) (M:Nm mg) (adF:DfX P w K mg base 8 "need_book_rule_and_count" (["book", "rule", "count"]:List Str) (spP K cl 3 aav)) (afj:DfX P w K mg base 6 "worths_by" (["book", "rule"]:List Str) (spP K cl 2 aci)) (ac2:DfX P w K mg base 4 "falling_places" (["fractions"]:List Str) (spP K cl 1 aaY)):DfX P w K mg base 9 "best_few" (["book", "rule", "count"]:List Str) (spP K cl 3 ab2):=by
 have S:aaE (["book", "rule", "count", "worths"]:List Str) (["book", "rule", "count"]:List Str) (aan aeU):=⟨rfl,rfl,rfl,by decide +kernel,rfl,by decide +kernel,by decide +kernel⟩
 exact a.dfP S (cl:=cl) (by decide) (λ_ _ _ _ _ _ us hl=>match us,hl with | [_,_,_],_=>by kernel_rfl) (λf cdv A outer s H E hr=>⟨_,(aaj (psE (pcF (E:=E) (adF.mono (by decide)) hr aat (paK (pvL 0) (paK (pvL 1) (paK (pvL 2) aai))))) (aaj (psC 3 S.nd rfl (pcF (E:=E) (afj.mono (by decide)) hr aat (paK (pvL 0) (paK (pvL 1) aai)))) (aaq (aaI (ado (sc:=aan aeU) (No:=(["book", "rule", "count", "worths"]:List Str)) (N:=(["thing", "worths"]:List Str)) (src := [none,some 3]) (g:=(adB 0)) rfl rfl ⟨by rfl,by decide +kernel,by decide +kernel,by decide +kernel,by rfl,by decide +kernel⟩ rfl (aeo (abt ajd (pcF (E:=E) (ac2.mono (by decide)) hr aat (paK (pvC 3) aai)) ab3 (ab4 (pvL 2)))) (λC s H ex=>(pgL 0 (show List.Nodup (["thing", "worths"]:List Str) by decide +kernel))) (λC s H ex=>(ac4 (paK (pvL 0) (paK (abk aaV (pvC 1) (pvL 0) (λ_ _=>rfl)) aai))))))))),λt hK hx=>(aas (ad9 (aa5 hK hx (aah (aah (aah aay))) (aac (aae 0) (aac (aae 1) (aac (aae 2) aak))))) (aas (aaK (aa5 hK hx (aah (aah aay)) (aac (aae 0) (aac (aae 1) aak))) (aap 3) abD) (aaJ (acN (aep hK (aex hK (aa5 hK hx (aah aay) (aac (aae 3) aak)) aew (ab6 (aae 2)))) (adY (by decide)) (ad0 (js := [0]) (by decide)) abD (λt1 h1 k1=>(aap 0)) (λt1 h1 k1=>(adp (aac (aae 0) (aac (acY (h1.trans hK) (aae 1) (aae 0)) aak))))))))⟩)
theorem agC (a:At K mg "common_bottom" adv) (M:Nm mg) (ab0:DfX P w K mg base 1 "common_divisor" (["one", "other"]:List Str) (spP K cl 2 aa2)):DfX P w K mg base 2 "common_bottom" (["fractions"]:List Str) (spP K cl 1 ach):=by
 have S:aaE (["fractions", "bottom", "top", "own"]:List Str) (["fractions"]:List Str) (aan adv):=⟨rfl,rfl,rfl,by decide +kernel,rfl,by decide +kernel,by decide +kernel⟩
 exact a.dfP S (cl:=cl) (by decide) (λ_ _ _ _ _ _ us hl=>match us,hl with | [_],_=>by kernel_rfl) (λf cdv A outer s H E hr=>⟨_,(aaj (psL 1 S.nd aam) (aaj (PS.nox (ae5 PassesOwn.never rfl (aeo (pvL 0)) (ag3 rfl (ab7 (pgL 2 S.nd) (ab7 (pgL 3 S.nd) afa))) (aaq (psL 1 S.nd (aaG ad8 (aaG acI (pvL 1) (pvL 3)) (pcF (E:=E0) (ab0.mono (by decide)) hr acT (paK (pvL 1) (paK (pvL 3) aai)))))))) (aaq (aaI (pvL 1))))),λt hK hx=>(aas (aaK (aao _) (aap 1) abD) (aas (ae7 (λt1 h1 k1=>(ae6 (aep (h1.trans hK) (aae 0)) (ahf (h1.trans hK) (ab8 (aap 2) (ab8 (aap 3) afc))) (ar8 (afA abD (afA abD ahk))) (aaK (aky (h1.trans hK) (afB (h1.trans hK) (aae 1) (aae 3)) (acn (h1.trans hK) k1 (aah (aah aay)) (aac (aae 1) (aac (aae 3) aak)))) (aap 1) abD)))) (aaJ (aae 1))))⟩)
theorem agf (a:At K mg "common_divisor" ac1) (M:Nm mg):DfX P w K mg base 1 "common_divisor" (["one", "other"]:List Str) (spP K cl 2 aa2):=by
 have S:aaE (["one", "other"]:List Str) (["one", "other"]:List Str) (aan ac1):=⟨rfl,rfl,rfl,by decide +kernel,rfl,by decide +kernel,by decide +kernel⟩
 exact a.dfP S (cl:=cl) (by decide) (λ_ _ _ _ _ _ us hl=>match us,hl with | [_,_],_=>by kernel_rfl) (λf cdv A outer s H E hr=>⟨_,(aaj (PS.nox (alB PassesOwn.never (abH (alQ hr.units) (pvL 1) aam (abq _)) (aaq (aqJ (i:=0) (j:=1) rfl S.nd rfl rfl (by decide) rfl rfl (paK (pvL 1) (paK (aaG afb (pvL 0) (pvL 1)) aai)) rfl)))) (aaq (aaI (pcB apl M.axJ (paK (pvL 0) aai))))),λt hK hx=>(aas (ae7 (λt1 h1 k1=>(alU (fuI 1) (abl (awx (h1.trans hK) (aae 1) (aao _))) (aqW 0 1 (aac (aae 1) (aac (akz (h1.trans hK) (aae 0) (aae 1)) aak)))))) (aaJ (axr hK (aac (aae 0) aak))))⟩)
theorem agg {c_ P_:Addr} (a:AtL K mg "falling_places" acy c_) (L:aqa K mg base "falling_places" c_ P_) (M:Nm mg) (ae1:DfX P w K mg base 3 "tops_on_one_bottom" (["fractions"]:List Str) (spP K cl 1 abN)):DfX P w K mg base 4 "falling_places" (["fractions"]:List Str) (spP K cl 1 aaY):=by
 have S:aaE (["fractions", "tops"]:List Str) (["fractions"]:List Str) (aan acy):=⟨rfl,rfl,rfl,by decide +kernel,rfl,by decide +kernel,by decide +kernel⟩
 exact a.azK S (cl:=cl) (by decide) (λ_ _ _ _ _ _ us hl=>match us,hl with | [_],_=>by kernel_rfl) (λf A outer s H E hr=>⟨_,(aaj (psC 1 S.nd rfl (pcF (E:=E) (ae1.mono (by decide)) hr aat (paK (pvL 0) aai))) (aaq (aaI (ap6 (sc:=aan acy) (No:=(["fractions", "tops"]:List Str)) (x := "place") (Ns:=(["tops"]:List Str)) (src := [some 1]) avb (λ_ h=>h) aso hr M.aqi M.adT rfl rfl ⟨⟨by rfl,by decide +kernel,by decide +kernel,by decide +kernel,by rfl,by decide +kernel⟩,by decide +kernel,by rfl,by rfl,by rfl⟩ rfl L.hd L.bm rfl (paK (pcB abg M.aef (paK (pvC 1) aai)) aai) (λ_ _ _ _=>by kernel_rfl) (λA f cd s H=>(anF aji (abk aaV (pvF 1) (pvL 0) (λ_ _=>rfl)))))))),λt hK hx=>(aas (aaK (aa5 hK hx (aah aay) (aac (aae 0) aak)) (aap 1) abD) (aaJ (asq L hK (aac (x_len hK (aac (aae 1) aak)) aak) (axC aqR (axB auB (aq3 1) (aq3 0))))))⟩)
theorem akN (a:At K mg "frac_sum" af5) (M:Nm mg) (aej:DfX P w K mg base 2 "fraction_of" (["top", "bottom"]:List Str) (spP K cl 2 abX)):DfX P w K mg base 3 "frac_sum" (["one", "other"]:List Str) (spP K cl 2 ade):=by
 have S:aaE (["one", "other"]:List Str) (["one", "other"]:List Str) (aan af5):=⟨rfl,rfl,rfl,by decide +kernel,rfl,by decide +kernel,by decide +kernel⟩
 exact a.dfP S (cl:=cl) (by decide) (λ_ _ _ _ _ _ us hl=>match us,hl with | [_,_],_=>by kernel_rfl) (λf cdv A outer s H E hr=>⟨_,(aaq (aaI (pcF (E:=E) (aej.mono (by decide)) hr aat (paK (aaG aaB (aaG acI (abk aaV (pvL 0) aam (λ_ _=>rfl)) (abk aaV (pvL 1) aam (λ_ _=>rfl))) (aaG acI (abk aaV (pvL 1) aam (λ_ _=>rfl)) (abk aaV (pvL 0) aam (λ_ _=>rfl)))) (paK (aaG acI (abk aaV (pvL 0) aam (λ_ _=>rfl)) (abk aaV (pvL 1) aam (λ_ _=>rfl))) aai))))),λt hK hx=>(aaJ (aa5 hK hx (aah (aah aay)) (aac (abm hK (afB hK (acY hK (aae 0) (aao _)) (acY hK (aae 1) (aao _))) (afB hK (acY hK (aae 1) (aao _)) (acY hK (aae 0) (aao _)))) (aac (afB hK (acY hK (aae 0) (aao _)) (acY hK (aae 1) (aao _))) aak))))⟩)
theorem aiW (a:At K mg "frac_times" aeF) (M:Nm mg) (aej:DfX P w K mg base 2 "fraction_of" (["top", "bottom"]:List Str) (spP K cl 2 abX)):DfX P w K mg base 3 "frac_times" (["one", "other"]:List Str) (spP K cl 2 abE):=by
 have S:aaE (["one", "other"]:List Str) (["one", "other"]:List Str) (aan aeF):=⟨rfl,rfl,rfl,by decide +kernel,rfl,by decide +kernel,by decide +kernel⟩
 exact a.dfP S (cl:=cl) (by decide) (λ_ _ _ _ _ _ us hl=>match us,hl with | [_,_],_=>by kernel_rfl) (λf cdv A outer s H E hr=>⟨_,(aaq (aaI (pcF (E:=E) (aej.mono (by decide)) hr aat (paK (aaG acI (abk aaV (pvL 0) aam (λ_ _=>rfl)) (abk aaV (pvL 1) aam (λ_ _=>rfl))) (paK (aaG acI (abk aaV (pvL 0) aam (λ_ _=>rfl)) (abk aaV (pvL 1) aam (λ_ _=>rfl))) aai))))),λt hK hx=>(aaJ (aa5 hK hx (aah (aah aay)) (aac (afB hK (acY hK (aae 0) (aao _)) (acY hK (aae 1) (aao _))) (aac (afB hK (acY hK (aae 0) (aao _)) (acY hK (aae 1) (aao _))) aak))))⟩)
theorem ah0 (a:At K mg "fraction_of" aeb) (M:Nm mg) (aeY:PyProof.Rows.OwnCls "NoBottom" (cl "NoBottom") bmV "ValueError.__new__" mg base) (ab0:DfX P w K mg base 1 "common_divisor" (["one", "other"]:List Str) (spP K cl 2 aa2)):DfX P w K mg base 2 "fraction_of" (["top", "bottom"]:List Str) (spP K cl 2 abX):=by
 have S:aaE (["top", "bottom", "divisor"]:List Str) (["top", "bottom"]:List Str) (aan aeb):=⟨rfl,rfl,rfl,by decide +kernel,rfl,by decide +kernel,by decide +kernel⟩
 exact a.dfP S (cl:=cl) (by decide) (λ_ _ _ _ _ _ us hl=>match us,hl with | [_,_],_=>by kernel_rfl) (λf cdv A outer s H E hr=>⟨_,(aaj (acz (abH (acS hr.units) (pvL 1) aam (abq _)) (aaq (agQ aft aeY PySem.F.excBase_ValueError rfl ace)) aa4) (aaj (psL 2 S.nd (pcF (E:=E) (ab0.mono (by decide)) hr aat (paK (pvL 0) (paK (pvL 1) aai)))) (aaj (acz (abH (ajw hr.units) (pvL 1) aam (abq _)) (aaq (psL 2 S.nd (anF aji (pvL 2)))) aa4) (aaq (aaI (ac4 (paK (aaG ad8 (pvL 0) (pvL 2)) (paK (aaG ad8 (pvL 1) (pvL 2)) aai)))))))),λt hK hx=>(aas (acA (abl (x_eq hK (aae 1) (aao _))) (agT (λH'=>hx "NoBottom" H') (acp _)) abr) (aas (aaK (aa5 hK hx (aah (aah aay)) (aac (aae 0) (aac (aae 1) aak))) (aap 2) abD) (aas (acA (abl (x_lt hK (aae 1) (aao _))) (aaK (asa (aae 2)) (aap 2) abD) abr) (aaJ (adp (aac (aky hK (aae 0) (aae 2)) (aac (aky hK (aae 1) (aae 2)) aak)))))))⟩)
theorem amD (a:At K mg "is_book" aeG) (M:Nm mg) {aeK:V} (adN:Gk K mg "MOST_LISTS" aeK (.int 4)) {aek:V} (adb:Gk K mg "MOST_THINGS" aek (.int 12)) (XT:ajH K) (ajO:DfX P w K mg base 4 "are_worths" (["thing", "most"]:List Str) (spP K cl 2 acg)):DfX P w K mg base 5 "is_book" (["thing"]:List Str) (spP K cl 1 aeD):=by
 have S:aaE (["thing"]:List Str) (["thing"]:List Str) (aan aeG):=⟨rfl,rfl,rfl,by decide +kernel,rfl,by decide +kernel,by decide +kernel⟩
 exact a.dfP S (cl:=cl) (by decide) (λ_ _ _ _ _ _ us hl=>match us,hl with | [_],_=>by kernel_rfl) (λf cdv A outer s H E hr=>⟨_,(aaj (acz (PW.pt (anB (adI (abL (pcI XT.o .list (pvC 0) M.aaD M.aoq) (by intro _; rfl))) (ajg (adI (alE ahQ ahQ aam (pcB abg M.aef (paK (pvC 0) aai)) (pGk adN)))))) (aaq (aaI agv)) aa4) (aaj (acz (adI (abL (pcB (agP rfl) M.aqh (paK (ado (sc:=aan aeG) (No:=(["thing"]:List Str)) (N:=(["row"]:List Str)) (src := [none]) (g:=(adB 0)) rfl rfl ⟨by rfl,by decide +kernel,by decide +kernel,by decide +kernel,by rfl,by decide +kernel⟩ rfl (aeo (pvC 0)) (λC s H ex=>(pgL 0 (show List.Nodup (["row"]:List Str) by decide +kernel))) (λC s H ex=>(pcF (E:=E0) (ajO.mono (by decide)) hr acT (paK (pvL 0) (paK (pGk adb) aai))))) aai)) (by intro _; rfl))) (aaq (aaI agv)) aa4) (aaq (aaI (pcB (agP rfl) M.aqh (paK (ado (sc:=aan aeG) (No:=(["thing"]:List Str)) (N:=(["row", "thing"]:List Str)) (src := [none,some 0]) (g:=(adB 0)) rfl rfl ⟨by rfl,by decide +kernel,by decide +kernel,by decide +kernel,by rfl,by decide +kernel⟩ rfl (aeo (pvC 0)) (λC s H ex=>(pgL 0 (show List.Nodup (["row", "thing"]:List Str) by decide +kernel))) (λC s H ex=>(adk (acS hr.units) (pcB abg M.aef (paK (pvL 0) aai)) (pcB abg M.aef (paK (abk aaV (pvC 1) aam (λ_ _=>rfl)) aai)) (abq _)))) aai)))))),λt hK hx=>(aas (acA (anZ (adK (ac5 hK (ahe hK .list (aae 0)))) (adK (abl (ahl hK ahU ahU ahW ahW (aao _) (x_len hK (aac (aae 0) aak)) (ar9 hK adN))))) (aaJ (ahb _)) abr) (aas (acA (adK (ac5 hK (apS hK (aac (acN (aep hK (aae 0)) (adY (by decide)) (ad0 (js := [0]) (by decide)) abD (λt1 h1 k1=>(aap 0)) (λt1 h1 k1=>(acn (h1.trans hK) k1 (aah (aah aay)) (aac (aae 0) (aac (ar9 (h1.trans hK) adb) aak))))) aak)))) (aaJ (ahb _)) abr) (aaJ (apS hK (aac (acN (aep hK (aae 0)) (adY (by decide)) (ad0 (js := [0]) (by decide)) abD (λt2 h2 k2=>(aap 0)) (λt2 h2 k2=>(x_eq (h2.trans hK) (x_len (h2.trans hK) (aac (aae 0) aak)) (x_len (h2.trans hK) (aac (acY (h2.trans hK) (aae 1) (aao _)) aak))))) aak)))))⟩)
theorem akO (a:At K mg "is_count" af7) (M:Nm mg) (adi:DfX P w K mg base 1 "is_whole" (["thing"]:List Str) (spP K cl 1 ab1)):DfX P w K mg base 2 "is_count" (["thing", "many"]:List Str) (spP K cl 2 adf):=by
 have S:aaE (["thing", "many"]:List Str) (["thing", "many"]:List Str) (aan af7):=⟨rfl,rfl,rfl,by decide +kernel,rfl,by decide +kernel,by decide +kernel⟩
 exact a.dfP S (cl:=cl) (by decide) (λ_ _ _ _ _ _ us hl=>match us,hl with | [_,_],_=>by kernel_rfl) (λf cdv A outer s H E hr=>⟨_,(aaq (aaI (agl (pcF (E:=E) (adi.mono (by decide)) hr aat (paK (pvL 0) aai)) (ag2 (aiy ahQ ahQ aam (pvL 0) (pvL 1)))))),λt hK hx=>(aaJ (agp (aa5 hK hx (aah aay) (aac (aae 0) aak)) (ahl hK ahU ahU ahW ahW (aao _) (aae 0) (aae 1))))⟩)
theorem ah1 (a:At K mg "is_fraction" aec) (M:Nm mg) (XT:ajH K) (adi:DfX P w K mg base 1 "is_whole" (["thing"]:List Str) (spP K cl 1 ab1)) (ab0:DfX P w K mg base 1 "common_divisor" (["one", "other"]:List Str) (spP K cl 2 aa2)):DfX P w K mg base 2 "is_fraction" (["thing"]:List Str) (spP K cl 1 abF):=by
 have S:aaE (["thing", "top", "bottom"]:List Str) (["thing"]:List Str) (aan aec):=⟨rfl,rfl,rfl,by decide +kernel,rfl,by decide +kernel,by decide +kernel⟩
 exact a.dfP S (cl:=cl) (by decide) (λ_ _ _ _ _ _ us hl=>match us,hl with | [_],_=>by kernel_rfl) (λf cdv A outer s H E hr=>⟨_,(aaj (acz (PW.pt (anB (adI (abL (pcI XT.o .tuple (pvL 0) M.aaD M.ahv) (by intro _; rfl))) (ajg (abH (alQ hr.units) (pcB abg M.aef (paK (pvL 0) aai)) aam (abq _))))) (aaq (aaI agv)) aa4) (aaj (alA (pvL 0) (ag3 rfl (ab7 (pgL 1 S.nd) (ab7 (pgL 2 S.nd) afa)))) (aaj (acz (PW.pt (anB (adI (abL (pcF (E:=E) (adi.mono (by decide)) hr aat (paK (pvL 1) aai)) (by intro _; rfl))) (ajg (adI (abL (pcF (E:=E) (adi.mono (by decide)) hr aat (paK (pvL 2) aai)) (by intro _; rfl)))))) (aaq (aaI agv)) aa4) (aaq (aaI (agl (adk arw (pvL 2) aam (abq _)) (ag2 (adk (acS hr.units) (pcF (E:=E) (ab0.mono (by decide)) hr aat (paK (pvL 1) (paK (pvL 2) aai))) aam (abq _))))))))),λt hK hx=>(aas (acA (anZ (adK (ac5 hK (ahe hK .tuple (aae 0)))) (abl (awx hK (x_len hK (aac (aae 0) aak)) (aao _)))) (aaJ (ahb _)) abr) (aas (aaK (aae 0) (ahf hK (ab8 (aap 1) (ab8 (aap 2) afc))) (ar8 (afA abD (afA abD ahk)))) (aas (acA (anZ (adK (ac5 hK (aa5 hK hx (aah aay) (aac (aae 1) aak)))) (adK (ac5 hK (aa5 hK hx (aah aay) (aac (aae 2) aak))))) (aaJ (ahb _)) abr) (aaJ (agp (x_ge hK (aae 2) (aao _)) (x_eq hK (aa5 hK hx (aah (aah aay)) (aac (aae 1) (aac (aae 2) aak))) (aao _)))))))⟩)
theorem amE (a:At K mg "is_rule" ahu) (M:Nm mg) {aeL:V} (adO:Gk K mg "BARE_RULES" aeL (.tup [(.tup [(.str "least")]),(.tup [(.str "greatest")]),(.tup [(.str "product")])])) (XT:ajH K) (aiX:DfX P w K mg base 3 "are_weights" (["thing", "many"]:List Str) (spP K cl 2 ac9)) (adi:DfX P w K mg base 1 "is_whole" (["thing"]:List Str) (spP K cl 1 ab1)):DfX P w K mg base 4 "is_rule" (["thing", "many"]:List Str) (spP K cl 2 abZ):=by
 have S:aaE (["thing", "many", "word", "rest"]:List Str) (["thing", "many"]:List Str) (aan ahu):=⟨rfl,rfl,rfl,by decide +kernel,rfl,by decide +kernel,by decide +kernel⟩
 exact a.dfP S (cl:=cl) (by decide) (λ_ _ _ _ _ _ us hl=>match us,hl with | [_,_],_=>by kernel_rfl) (λf cdv A outer s H E hr=>⟨_,(aaj (acz (adI (abL (pcI XT.o .tuple (pvL 0) M.aaD M.ahv) (by intro _; rfl))) (aaq (aaI agv)) aa4) (aaj (acz (abH (alQ hr.units) (pcB abg M.aef (paK (pvL 0) aai)) aam (abq _)) (aaq (aaI (adk (auf hr.units) (pvL 0) (pGk adO) (by with_unfolding_all rfl)))) aa4) (aaj (alA (pvL 0) (ag3 rfl (ab7 (pgL 2 S.nd) (ab7 (pgL 3 S.nd) afa)))) (aaj (acz (abH (acS hr.units) (pvL 2) ace (abq _)) (aaq (aaI (pcF (E:=E) (aiX.mono (by decide)) hr aat (paK (pvL 3) (paK (pvL 1) aai))))) aa4) (aaq (aaI (agl (adk (acS hr.units) (pvL 2) ace (abq _)) (agl (pcF (E:=E) (adi.mono (by decide)) hr aat (paK (pvL 3) aai)) (ag2 (aiy ahQ ahQ aam (pvL 3) (pvL 1))))))))))),λt hK hx=>(aas (acA (adK (ac5 hK (ahe hK .tuple (aae 0)))) (aaJ (ahb _)) abr) (aas (acA (abl (awx hK (x_len hK (aac (aae 0) aak)) (aao _))) (aaJ (azA hK (aae 0) (ar9 hK adO))) abr) (aas (aaK (aae 0) (ahf hK (ab8 (aap 2) (ab8 (aap 3) afc))) (ar8 (afA abD (afA abD ahk)))) (aas (acA (abl (x_eq hK (aae 2) (acp _))) (aaJ (aa5 hK hx (aah (aah aay)) (aac (aae 3) (aac (aae 1) aak)))) abr) (aaJ (agp (x_eq hK (aae 2) (acp _)) (agp (aa5 hK hx (aah aay) (aac (aae 3) aak)) (ahl hK ahU ahU ahW ahW (aao _) (aae 3) (aae 1)))))))))⟩)
theorem akP (a:At K mg "is_whole" af4) (M:Nm mg) (XT:ajH K):DfX P w K mg base 1 "is_whole" (["thing"]:List Str) (spP K cl 1 ab1):=by
 have S:aaE (["thing"]:List Str) (["thing"]:List Str) (aan af4):=⟨rfl,rfl,rfl,by decide +kernel,rfl,by decide +kernel,by decide +kernel⟩
 exact a.dfP S (cl:=cl) (by decide) (λ_ _ _ _ _ _ us hl=>match us,hl with | [_],_=>by kernel_rfl) (λf cdv A outer s H E hr=>⟨_,(aaq (aaI (agl (pcI XT.o .int (pvL 0) M.aaD M.avo) (ag2 (atO (pcI XT.o .bool (pvL 0) M.aaD M.avn)))))),λt hK hx=>(aaJ (agp (ahe hK .int (aae 0)) (auE (ahe hK .bool (aae 0)))))⟩)
theorem akQ (a:At K mg "is_worth" af6) (M:Nm mg) (aei:DfX P w K mg base 2 "is_fraction" (["thing"]:List Str) (spP K cl 1 abF)):DfX P w K mg base 3 "is_worth" (["thing"]:List Str) (spP K cl 1 aco):=by
 have S:aaE (["thing"]:List Str) (["thing"]:List Str) (aan af6):=⟨rfl,rfl,rfl,by decide +kernel,rfl,by decide +kernel,by decide +kernel⟩
 exact a.dfP S (cl:=cl) (by decide) (λ_ _ _ _ _ _ us hl=>match us,hl with | [_],_=>by kernel_rfl) (λf cdv A outer s H E hr=>⟨_,(aaq (aaI (agl (pcF (E:=E) (aei.mono (by decide)) hr aat (paK (pvL 0) aai)) (ag2 (aiy ahQ ahQ aam (abk aaV (pvL 0) aam (λ_ _=>rfl)) (abk aaV (pvL 0) aam (λ_ _=>rfl))))))),λt hK hx=>(aaJ (agp (aa5 hK hx (aah aay) (aac (aae 0) aak)) (ahl hK ahU ahU ahW ahW (aao _) (acY hK (aae 0) (aao _)) (acY hK (aae 0) (aao _)))))⟩)
theorem avv (a:At K mg "law" aqg) (M:Nm mg) (asJ:DfX P w K mg base 1 "_law_purse" (["_law_script"]:List Str) (spP K cl 1 agb)) (avw:DfX P w K mg base 4 "_law_book" (["_law_purse_here"]:List Str) (spR K 1 0 aip)) (avx:DfX P w K mg base 2 "_law_rule" (["_law_purse_here", "_law_lists_here"]:List Str) (spR K 2 0 aiq)) (abG:DfX P w K mg base 1 "_law_draw" (["_law_purse_here", "_law_many"]:List Str) (spR K 2 0 aaO)) (aov:DfX P w K mg base 2 "_law_no_book" (["_law_purse_here", "_law_book_here"]:List Str) (spR K 2 0 ad2)) (aow:DfX P w K mg base 2 "_law_no_rule" (["_law_purse_here", "_law_lists_here"]:List Str) (spR K 2 0 ad3)) (amF:DfX P w K mg base 2 "_law_no_count" (["_law_purse_here", "_law_many"]:List Str) (spR K 2 0 adg)) (asK:DfX P w K mg base 2 "_law_right" (["_law_caught_here", "_law_wrong"]:List Str) (spP K cl 2 agc)) (aql:DfX P w K mg base 10 "_law_caught" (["_law_way", "_law_book_here", "_law_rule_here", "_law_count"]:List Str) (spP K cl 4 aeg)):DfX P w K mg base 11 "law" (["_law_script"]:List Str) (spP K cl 1 amz):=by
 have S:aaE (["_law_script", "_law_purse_here", "_law_time", "_law_book_here", "_law_lists_here", "_law_many", "_law_rule_here", "_law_count", "_law_wrong", "_law_way"]:List Str) (["_law_script"]:List Str) (aan aqg):=⟨rfl,rfl,rfl,by decide +kernel,rfl,by decide +kernel,by decide +kernel⟩
 exact a.dfP S (cl:=cl) (by decide) (λ_ _ _ _ _ _ us hl=>match us,hl with | [_],_=>by kernel_rfl) (λf cdv A outer s H E hr=>⟨_,(aaj (psC 1 S.nd rfl (pcF (E:=E) (asJ.mono (by decide)) hr aat (paK (pvL 0) aai))) (aaj (PS.nox (ae5 PassesOwn.never rfl (piR M.adT (paK aam aai)) (pgL 2 S.nd) (aaj (psL 3 S.nd (pcF (E:=E0) (avw.mono (by decide)) hr acT (paK (pvC 1) aai))) (aaj (psL 4 S.nd (pcB abg M.aef (paK (pvL 3) aai))) (aaj (psL 5 S.nd (pcB abg M.aef (paK (abk aaV (pvL 3) aam (λ_ _=>rfl)) aai))) (aaj (psL 6 S.nd (pcF (E:=E0) (avx.mono (by decide)) hr acT (paK (pvC 1) (paK (pvL 4) aai)))) (aaj (psL 7 S.nd (pcF (E:=E0) (abG.mono (by decide)) hr acT (paK (pvC 1) (paK (aaG aaB (pvL 5) aam) aai)))) (aaj (aic (i:=8) (sc:=aan aqg) (No:=(["_law_script", "_law_purse_here", "_law_time", "_law_book_here", "_law_lists_here", "_law_many", "_law_rule_here", "_law_count", "_law_wrong", "_law_way"]:List Str)) (N:=(["_law_k", "_law_purse_here"]:List Str)) (src := [none,some 1]) (g:=(adB 0)) S.nd rfl (Or.inl rfl) rfl rfl ⟨by rfl,by decide +kernel,by decide +kernel,by decide +kernel,by rfl,by decide +kernel⟩ rfl (piR M.adT (paK aam aai)) (λC s H ex=>(pgL 0 (show List.Nodup (["_law_k", "_law_purse_here"]:List Str) by decide +kernel))) (λC s H ex=>(adk (acS hr.units) (pcF (E:=E0) (abG.mono (by decide)) hr acT (paK (pvC 1) (paK aam aai))) aam (abq _)))) (aaj (acz (abL (abk aaV (pvL 8) aam (λ_ _=>rfl)) (by intro _; rfl)) (aaq (psL 3 S.nd (pcF (E:=E0) (aov.mono (by decide)) hr acT (paK (pvC 1) (paK (pvL 3) aai))))) aa4) (aaj (acz (abL (abk aaV (pvL 8) aam (λ_ _=>rfl)) (by intro _; rfl)) (aaq (psL 6 S.nd (pcF (E:=E0) (aow.mono (by decide)) hr acT (paK (pvC 1) (paK (pvL 4) aai))))) aa4) (aaj (acz (abL (abk aaV (pvL 8) aam (λ_ _=>rfl)) (by intro _; rfl)) (aaq (psL 7 S.nd (pcF (E:=E0) (amF.mono (by decide)) hr acT (paK (pvC 1) (paK (pvL 5) aai))))) aa4) (aaq (ae5 PassesOwn.never rfl (aeo (ahm (G:=nlK K) (Ts := [.int 0,.int 1,.int 0,.int 1]) (by kernel_rfl))) (pgL 9 S.nd) (aaq (acz (adI (abL (pcF (E:=E0) (asK.mono (by decide)) hr acT (paK (pcF (E:=E0) (aql.mono (by decide)) hr acT (paK (pvL 9) (paK (pvL 3) (paK (pvL 6) (paK (pvL 7) aai))))) (paK (abt ajd (pvL 8) ab3 (ab4 (aaG aaB aam (pvL 9)))) aai))) (by intro _; rfl))) (aaq (aaI agv)) aa4))))))))))))))) (aaq (aaI agv)))),λt hK hx=>(aas (ajz 1 (aa5 hK hx (aah aay) (aac (aae 0) aak))) (aas (ae7 (λt1 h1 k1=>(ae6 (afx (aac (aao _) aak)) (aap 2) abD (aas (aaK (abe (h1.trans hK) (aah aay) (aac (aae 1) aak)) (aap 3) abD) (aas (aaK (x_len (h1.trans hK) (aac (aae 3) aak)) (aap 4) abD) (aas (aaK (x_len (h1.trans hK) (aac (acY (h1.trans hK) (aae 3) (aao _)) aak)) (aap 5) abD) (aas (aaK (abe (h1.trans hK) (aah (aah aay)) (aac (aae 1) (aac (aae 4) aak))) (aap 6) abD) (aas (aaK (abe (h1.trans hK) (aah (aah aay)) (aac (aae 1) (aac (abm (h1.trans hK) (aae 5) (aao _)) aak))) (aap 7) abD) (aas (aaK (acN (afx (aac (aao _) aak)) (adY (by decide)) (ad0 (js := [0]) (by decide)) abD (λt2 h2 k2=>(aap 0)) (λt2 h2 k2=>(x_eq (h2.trans (h1.trans hK)) (abe (h2.trans (h1.trans hK)) (aah (aah aay)) (aac (aae 1) (aac (aao _) aak))) (aao _)))) (aap 8) abD) (aas (acA (ac5 (h1.trans hK) (acY (h1.trans hK) (aae 8) (aao _))) (aaK (abe (h1.trans hK) (aah (aah aay)) (aac (aae 1) (aac (aae 3) aak))) (aap 3) abD) abr) (aas (acA (ac5 (h1.trans hK) (acY (h1.trans hK) (aae 8) (aao _))) (aaK (abe (h1.trans hK) (aah (aah aay)) (aac (aae 1) (aac (aae 4) aak))) (aap 6) abD) abr) (aas (acA (ac5 (h1.trans hK) (acY (h1.trans hK) (aae 8) (aao _))) (aaK (abe (h1.trans hK) (aah (aah aay)) (aac (aae 1) (aac (aae 5) aak))) (aap 7) abD) abr) (ae6 (aep (h1.trans hK) (ahn (h1.trans hK))) (aap 9) abD (acA (adK (ac5 (h1.trans hK) (acn (h1.trans hK) k1 (aah (aah aay)) (aac (acn (h1.trans hK) k1 (aah (aah (aah (aah aay)))) (aac (aae 9) (aac (aae 3) (aac (aae 6) (aac (aae 7) aak))))) (aac (aex (h1.trans hK) (aae 8) aew (ab6 (abm (h1.trans hK) (aao _) (aae 9)))) aak))))) (aaJ (ahb _)) abr)))))))))))))) (aaJ (ahb _))))⟩)
theorem ajP (a:At K mg "need_book" afg) (M:Nm mg) (agZ:PyProof.Rows.OwnCls "NoBook" (cl "NoBook") bmV "ValueError.__new__" mg base) (aox:DfX P w K mg base 5 "is_book" (["thing"]:List Str) (spP K cl 1 aeD)):DfX P w K mg base 6 "need_book" (["book"]:List Str) (spP K cl 1 acB):=by
 have S:aaE (["book"]:List Str) (["book"]:List Str) (aan afg):=⟨rfl,rfl,rfl,by decide +kernel,rfl,by decide +kernel,by decide +kernel⟩
 exact a.dfP S (cl:=cl) (by decide) (λ_ _ _ _ _ _ us hl=>match us,hl with | [_],_=>by kernel_rfl) (λf cdv A outer s H E hr=>⟨_,(aaq (acz (adI (abL (pcF (E:=E) (aox.mono (by decide)) hr aat (paK (pvL 0) aai)) (by intro _; rfl))) (aaq (agQ aft agZ PySem.F.excBase_ValueError rfl ace)) aa4)),λt hK hx=>(acA (adK (ac5 hK (aa5 hK hx (aah aay) (aac (aae 0) aak)))) (agT (λH'=>hx "NoBook" H') (acp _)) abr)⟩)
theorem aeM (a:At K mg "need_book_and_rule" acq) (M:Nm mg) (ag0:PyProof.Rows.OwnCls "NoRule" (cl "NoRule") bmV "ValueError.__new__" mg base) (akR:DfX P w K mg base 6 "need_book" (["book"]:List Str) (spP K cl 1 acB)) (aoy:DfX P w K mg base 4 "is_rule" (["thing", "many"]:List Str) (spP K cl 2 abZ)):DfX P w K mg base 7 "need_book_and_rule" (["book", "rule"]:List Str) (spP K cl 2 aau):=by
 have S:aaE (["book", "rule"]:List Str) (["book", "rule"]:List Str) (aan acq):=⟨rfl,rfl,rfl,by decide +kernel,rfl,by decide +kernel,by decide +kernel⟩
 exact a.dfP S (cl:=cl) (by decide) (λ_ _ _ _ _ _ us hl=>match us,hl with | [_,_],_=>by kernel_rfl) (λf cdv A outer s H E hr=>⟨_,(aaj (psE (pcF (E:=E) (akR.mono (by decide)) hr aat (paK (pvL 0) aai))) (aaq (acz (adI (abL (pcF (E:=E) (aoy.mono (by decide)) hr aat (paK (pvL 1) (paK (pcB abg M.aef (paK (pvL 0) aai)) aai))) (by intro _; rfl))) (aaq (agQ aft ag0 PySem.F.excBase_ValueError rfl ace)) aa4))),λt hK hx=>(aas (ad9 (aa5 hK hx (aah aay) (aac (aae 0) aak))) (acA (adK (ac5 hK (aa5 hK hx (aah (aah aay)) (aac (aae 1) (aac (x_len hK (aac (aae 0) aak)) aak))))) (agT (λH'=>hx "NoRule" H') (acp _)) abr))⟩)
theorem adx (a:At K mg "need_book_rule_and_count" aby) (M:Nm mg) (acr:DfX P w K mg base 7 "need_book_and_rule" (["book", "rule"]:List Str) (spP K cl 2 aau)) (ajQ:DfX P w K mg base 3 "need_count" (["book", "count"]:List Str) (spP K cl 2 acj)):DfX P w K mg base 8 "need_book_rule_and_count" (["book", "rule", "count"]:List Str) (spP K cl 3 aav):=by
 have S:aaE (["book", "rule", "count"]:List Str) (["book", "rule", "count"]:List Str) (aan aby):=⟨rfl,rfl,rfl,by decide +kernel,rfl,by decide +kernel,by decide +kernel⟩
 exact a.dfP S (cl:=cl) (by decide) (λ_ _ _ _ _ _ us hl=>match us,hl with | [_,_,_],_=>by kernel_rfl) (λf cdv A outer s H E hr=>⟨_,(aaj (psE (pcF (E:=E) (acr.mono (by decide)) hr aat (paK (pvL 0) (paK (pvL 1) aai)))) (aaq (psE (pcF (E:=E) (ajQ.mono (by decide)) hr aat (paK (pvL 0) (paK (pvL 2) aai)))))),λt hK hx=>(aas (ad9 (aa5 hK hx (aah (aah aay)) (aac (aae 0) (aac (aae 1) aak)))) (ad9 (aa5 hK hx (aah (aah aay)) (aac (aae 0) (aac (aae 2) aak)))))⟩)
theorem aiY (a:At K mg "need_count" aeH) (M:Nm mg) (afN:PyProof.Rows.OwnCls "NoCount" (cl "NoCount") bmV "ValueError.__new__" mg base) (amG:DfX P w K mg base 2 "is_count" (["thing", "many"]:List Str) (spP K cl 2 adf)):DfX P w K mg base 3 "need_count" (["book", "count"]:List Str) (spP K cl 2 acj):=by
 have S:aaE (["book", "count"]:List Str) (["book", "count"]:List Str) (aan aeH):=⟨rfl,rfl,rfl,by decide +kernel,rfl,by decide +kernel,by decide +kernel⟩
 exact a.dfP S (cl:=cl) (by decide) (λ_ _ _ _ _ _ us hl=>match us,hl with | [_,_],_=>by kernel_rfl) (λf cdv A outer s H E hr=>⟨_,(aaq (acz (adI (abL (pcF (E:=E) (amG.mono (by decide)) hr aat (paK (pvL 1) (paK (pcB abg M.aef (paK (abk aaV (pvL 0) aam (λ_ _=>rfl)) aai)) aai))) (by intro _; rfl))) (aaq (agQ aft afN PySem.F.excBase_ValueError rfl ace)) aa4)),λt hK hx=>(acA (adK (ac5 hK (aa5 hK hx (aah (aah aay)) (aac (aae 1) (aac (x_len hK (aac (acY hK (aae 0) (aao _)) aak)) aak))))) (agT (λH'=>hx "NoCount" H') (acp _)) abr)⟩)
theorem akS (a:At K mg "place_of" af8) (M:Nm mg):DfX P w K mg base 1 "place_of" (["rule", "many"]:List Str) (spP K cl 2 acO):=by
 have S:aaE (["rule", "many"]:List Str) (["rule", "many"]:List Str) (aan af8):=⟨rfl,rfl,rfl,by decide +kernel,rfl,by decide +kernel,by decide +kernel⟩
 exact a.dfP S (cl:=cl) (by decide) (λ_ _ _ _ _ _ us hl=>match us,hl with | [_,_],_=>by kernel_rfl) (λf cdv A outer s H E hr=>⟨_,(aaj (acz (abH (acS hr.units) (abk aaV (pvL 0) aam (λ_ _=>rfl)) ace (abq _)) (aaq (aaI aam)) aa4) (aaj (acz (abH (acS hr.units) (abk aaV (pvL 0) aam (λ_ _=>rfl)) ace (abq _)) (aaq (aaI (pvL 1))) aa4) (aaq (aaI (abk aaV (pvL 0) aam (λ_ _=>rfl)))))),λt hK hx=>(aas (acA (abl (x_eq hK (acY hK (aae 0) (aao _)) (acp _))) (aaJ (aao _)) abr) (aas (acA (abl (x_eq hK (acY hK (aae 0) (aao _)) (acp _))) (aaJ (aae 1)) abr) (aaJ (acY hK (aae 0) (aao _)))))⟩)
theorem agD (a:At K mg "product_worth" adw) (M:Nm mg) (aeN:DfX P w K mg base 3 "frac_times" (["one", "other"]:List Str) (spP K cl 2 abE)):DfX P w K mg base 4 "product_worth" (["worths"]:List Str) (spP K cl 1 acJ):=by
 have S:aaE (["worths", "product", "worth"]:List Str) (["worths"]:List Str) (aan adw):=⟨rfl,rfl,rfl,by decide +kernel,rfl,by decide +kernel,by decide +kernel⟩
 exact a.dfP S (cl:=cl) (by decide) (λ_ _ _ _ _ _ us hl=>match us,hl with | [_],_=>by kernel_rfl) (λf cdv A outer s H E hr=>⟨_,(aaj (psL 1 S.nd (acZ (G:=nlK K) (Ts := [.int 1,.int 1]) (by kernel_rfl))) (aaj (PS.nox (ae5 PassesOwn.never rfl (aeo (pvL 0)) (pgL 2 S.nd) (aaq (psL 1 S.nd (pcF (E:=E0) (aeN.mono (by decide)) hr acT (paK (pvL 1) (paK (pvL 2) aai))))))) (aaq (aaI (pvL 1))))),λt hK hx=>(aas (aaK (agA hK) (aap 1) abD) (aas (ae7 (λt1 h1 k1=>(ae6 (aep (h1.trans hK) (aae 0)) (aap 2) abD (aaK (acn (h1.trans hK) k1 (aah (aah aay)) (aac (aae 1) (aac (aae 2) aak))) (aap 1) abD)))) (aaJ (aae 1))))⟩)
theorem ahC (a:At K mg "shares_worth" adR) (M:Nm mg) (amH:DfX P w K mg base 3 "frac_sum" (["one", "other"]:List Str) (spP K cl 2 ade)) (aeN:DfX P w K mg base 3 "frac_times" (["one", "other"]:List Str) (spP K cl 2 abE)):DfX P w K mg base 4 "shares_worth" (["weights", "worths"]:List Str) (spP K cl 2 acQ):=by
 have S:aaE (["weights", "worths", "total", "weight", "worth"]:List Str) (["weights", "worths"]:List Str) (aan adR):=⟨rfl,rfl,rfl,by decide +kernel,rfl,by decide +kernel,by decide +kernel⟩
 exact a.dfP S (cl:=cl) (by decide) (λ_ _ _ _ _ _ us hl=>match us,hl with | [_,_],_=>by kernel_rfl) (λf cdv A outer s H E hr=>⟨_,(aaj (psL 2 S.nd (acZ (G:=nlK K) (Ts := [.int 0,.int 1]) (by kernel_rfl))) (aaj (PS.nox (ae5 PassesOwn.never rfl (aum M.axL (paK (pvL 0) (paK (pvL 1) aai))) (ag3 rfl (ab7 (pgL 3 S.nd) (ab7 (pgL 4 S.nd) afa))) (aaq (psL 2 S.nd (pcF (E:=E0) (amH.mono (by decide)) hr acT (paK (pvL 2) (paK (pcF (E:=E0) (aeN.mono (by decide)) hr acT (paK (pvL 3) (paK (pvL 4) aai))) aai))))))) (aaq (aaI (pvL 2))))),λt hK hx=>(aas (aaK (agA hK) (aap 2) abD) (aas (ae7 (λt1 h1 k1=>(ae6 (au7 (h1.trans hK) (aac (aae 0) (aac (aae 1) aak))) (ahf (h1.trans hK) (ab8 (aap 3) (ab8 (aap 4) afc))) (ar8 (afA abD (afA abD ahk))) (aaK (acn (h1.trans hK) k1 (aah (aah aay)) (aac (aae 2) (aac (acn (h1.trans hK) k1 (aah (aah aay)) (aac (aae 3) (aac (aae 4) aak))) aak))) (aap 2) abD)))) (aaJ (aae 2))))⟩)
theorem ahD (a:At K mg "thing_worths" adS) (M:Nm mg) (acr:DfX P w K mg base 7 "need_book_and_rule" (["book", "rule"]:List Str) (spP K cl 2 aau)) (afj:DfX P w K mg base 6 "worths_by" (["book", "rule"]:List Str) (spP K cl 2 aci)):DfX P w K mg base 8 "thing_worths" (["book", "rule"]:List Str) (spP K cl 2 abf):=by
 have S:aaE (["book", "rule"]:List Str) (["book", "rule"]:List Str) (aan adS):=⟨rfl,rfl,rfl,by decide +kernel,rfl,by decide +kernel,by decide +kernel⟩
 exact a.dfP S (cl:=cl) (by decide) (λ_ _ _ _ _ _ us hl=>match us,hl with | [_,_],_=>by kernel_rfl) (λf cdv A outer s H E hr=>⟨_,(aaj (psE (pcF (E:=E) (acr.mono (by decide)) hr aat (paK (pvL 0) (paK (pvL 1) aai)))) (aaq (aaI (pcF (E:=E) (afj.mono (by decide)) hr aat (paK (pvL 0) (paK (pvL 1) aai)))))),λt hK hx=>(aas (ad9 (aa5 hK hx (aah (aah aay)) (aac (aae 0) (aac (aae 1) aak)))) (aaJ (aa5 hK hx (aah (aah aay)) (aac (aae 0) (aac (aae 1) aak)))))⟩)
theorem aeO (a:At K mg "tops_on_one_bottom" abP) (M:Nm mg) (ahE:DfX P w K mg base 2 "common_bottom" (["fractions"]:List Str) (spP K cl 1 ach)):DfX P w K mg base 3 "tops_on_one_bottom" (["fractions"]:List Str) (spP K cl 1 abN):=by
 have S:aaE (["fractions", "bottom"]:List Str) (["fractions"]:List Str) (aan abP):=⟨rfl,rfl,rfl,by decide +kernel,rfl,by decide +kernel,by decide +kernel⟩
 exact a.dfP S (cl:=cl) (by decide) (λ_ _ _ _ _ _ us hl=>match us,hl with | [_],_=>by kernel_rfl) (λf cdv A outer s H E hr=>⟨_,(aaj (psC 1 S.nd rfl (pcF (E:=E) (ahE.mono (by decide)) hr aat (paK (pvL 0) aai))) (aaq (aaI (ado (sc:=aan abP) (No:=(["fractions", "bottom"]:List Str)) (N:=(["top", "own", "bottom"]:List Str)) (src := [none,none,some 1]) (g:=(awO K 2 (apj (adB 0) (apj (adB 1) awN)))) rfl rfl ⟨by rfl,by decide +kernel,by decide +kernel,by decide +kernel,by rfl,by decide +kernel⟩ rfl (aeo (pvL 0)) (λC s H ex=>(ag3 rfl (ab7 (pgL 0 (show List.Nodup (["top", "own", "bottom"]:List Str) by decide +kernel)) (ab7 (pgL 1 (show List.Nodup (["top", "own", "bottom"]:List Str) by decide +kernel)) afa)))) (λC s H ex=>(aaG acI (pvL 0) (aaG ad8 (pvC 2) (pvL 1)))))))),λt hK hx=>(aas (aaK (aa5 hK hx (aah aay) (aac (aae 0) aak)) (aap 1) abD) (aaJ (acN (aep hK (aae 0)) (adY (by decide)) (ad0 (js := [0,1]) (by decide)) (ar8 (afA abD (afA abD ahk))) (λt1 h1 k1=>(ahf (h1.trans hK) (ab8 (aap 0) (ab8 (aap 1) afc)))) (λt1 h1 k1=>(afB (h1.trans hK) (aae 0) (aky (h1.trans hK) (aae 2) (aae 1)))))))⟩)
theorem akT (a:At K mg "worth_by" af9) (M:Nm mg) (ah2:DfX P w K mg base 4 "shares_worth" (["weights", "worths"]:List Str) (spP K cl 2 acQ)) (ahF:DfX P w K mg base 4 "product_worth" (["worths"]:List Str) (spP K cl 1 acJ)) (ac2:DfX P w K mg base 4 "falling_places" (["fractions"]:List Str) (spP K cl 1 aaY)) (amI:DfX P w K mg base 1 "place_of" (["rule", "many"]:List Str) (spP K cl 2 acO)):DfX P w K mg base 5 "worth_by" (["rule", "worths"]:List Str) (spP K cl 2 abR):=by
 have S:aaE (["rule", "worths"]:List Str) (["rule", "worths"]:List Str) (aan af9):=⟨rfl,rfl,rfl,by decide +kernel,rfl,by decide +kernel,by decide +kernel⟩
 exact a.dfP S (cl:=cl) (by decide) (λ_ _ _ _ _ _ us hl=>match us,hl with | [_,_],_=>by kernel_rfl) (λf cdv A outer s H E hr=>⟨_,(aaj (acz (abH (acS hr.units) (abk aaV (pvL 0) aam (λ_ _=>rfl)) ace (abq _)) (aaq (aaI (pcF (E:=E) (ah2.mono (by decide)) hr aat (paK (abk aaV (pvL 0) aam (λ_ _=>rfl)) (paK (pvL 1) aai))))) aa4) (aaj (acz (abH (acS hr.units) (abk aaV (pvL 0) aam (λ_ _=>rfl)) ace (abq _)) (aaq (aaI (pcF (E:=E) (ahF.mono (by decide)) hr aat (paK (pvL 1) aai)))) aa4) (aaq (aaI (abk aaV (pvL 1) (abk aaV (pcF (E:=E) (ac2.mono (by decide)) hr aat (paK (pvL 1) aai)) (aaG agm (pcF (E:=E) (amI.mono (by decide)) hr aat (paK (pvL 0) (paK (pcB abg M.aef (paK (pvL 1) aai)) aai))) aam) (λ_ _=>rfl)) (λ_ _=>rfl)))))),λt hK hx=>(aas (acA (abl (x_eq hK (acY hK (aae 0) (aao _)) (acp _))) (aaJ (aa5 hK hx (aah (aah aay)) (aac (acY hK (aae 0) (aao _)) (aac (aae 1) aak)))) abr) (aas (acA (abl (x_eq hK (acY hK (aae 0) (aao _)) (acp _))) (aaJ (aa5 hK hx (aah aay) (aac (aae 1) aak))) abr) (aaJ (acY hK (aae 1) (acY hK (aa5 hK hx (aah aay) (aac (aae 1) aak)) (akx hK (aa5 hK hx (aah (aah aay)) (aac (aae 0) (aac (x_len hK (aac (aae 1) aak)) aak))) (aao _)))))))⟩)
theorem ajR (a:At K mg "worths_by" aee) (M:Nm mg) (amJ:DfX P w K mg base 5 "worth_by" (["rule", "worths"]:List Str) (spP K cl 2 abR)) (akU:DfX P w K mg base 1 "worths_of" (["book", "thing"]:List Str) (spP K cl 2 adu)):DfX P w K mg base 6 "worths_by" (["book", "rule"]:List Str) (spP K cl 2 aci):=by
 have S:aaE (["book", "rule"]:List Str) (["book", "rule"]:List Str) (aan aee):=⟨rfl,rfl,rfl,by decide +kernel,rfl,by decide +kernel,by decide +kernel⟩
 exact a.dfP S (cl:=cl) (by decide) (λ_ _ _ _ _ _ us hl=>match us,hl with | [_,_],_=>by kernel_rfl) (λf cdv A outer s H E hr=>⟨_,(aaq (aaI (ado (sc:=aan aee) (No:=(["book", "rule"]:List Str)) (N:=(["thing", "rule", "book"]:List Str)) (src := [none,some 1,some 0]) (g:=(adB 0)) rfl rfl ⟨by rfl,by decide +kernel,by decide +kernel,by decide +kernel,by rfl,by decide +kernel⟩ rfl (piR M.adT (paK (pcB abg M.aef (paK (abk aaV (pvC 0) aam (λ_ _=>rfl)) aai)) aai)) (λC s H ex=>(pgL 0 (show List.Nodup (["thing", "rule", "book"]:List Str) by decide +kernel))) (λC s H ex=>(pcF (E:=E0) (amJ.mono (by decide)) hr acT (paK (pvC 1) (paK (pcF (E:=E0) (akU.mono (by decide)) hr acT (paK (pvC 2) (paK (pvL 0) aai))) aai))))))),λt hK hx=>(aaJ (acN (afx (aac (x_len hK (aac (acY hK (aae 0) (aao _)) aak)) aak)) (adY (by decide)) (ad0 (js := [0]) (by decide)) abD (λt1 h1 k1=>(aap 0)) (λt1 h1 k1=>(acn (h1.trans hK) k1 (aah (aah aay)) (aac (aae 1) (aac (acn (h1.trans hK) k1 (aah (aah aay)) (aac (aae 2) (aac (aae 0) aak))) aak))))))⟩)
theorem ajS (a:At K mg "worths_of" aed) (M:Nm mg):DfX P w K mg base 1 "worths_of" (["book", "thing"]:List Str) (spP K cl 2 adu):=by
 have S:aaE (["book", "thing"]:List Str) (["book", "thing"]:List Str) (aan aed):=⟨rfl,rfl,rfl,by decide +kernel,rfl,by decide +kernel,by decide +kernel⟩
 exact a.dfP S (cl:=cl) (by decide) (λ_ _ _ _ _ _ us hl=>match us,hl with | [_,_],_=>by kernel_rfl) (λf cdv A outer s H E hr=>⟨_,(aaq (aaI (ado (sc:=aan aed) (No:=(["book", "thing"]:List Str)) (N:=(["row", "thing"]:List Str)) (src := [none,some 1]) (g:=(adB 0)) rfl rfl ⟨by rfl,by decide +kernel,by decide +kernel,by decide +kernel,by rfl,by decide +kernel⟩ rfl (aeo (pvL 0)) (λC s H ex=>(pgL 0 (show List.Nodup (["row", "thing"]:List Str) by decide +kernel))) (λC s H ex=>(abk aaV (pvL 0) (pvC 1) (λ_ _=>rfl)))))),λt hK hx=>(aaJ (acN (aep hK (aae 0)) (adY (by decide)) (ad0 (js := [0]) (by decide)) abD (λt1 h1 k1=>(aap 0)) (λt1 h1 k1=>(acY (h1.trans hK) (aae 0) (aae 1)))))⟩)
end
end K17
end
section
namespace L2
open PySem
@[simp] theorem Rs.aa0 {α β : Type} (a : α) (f : α -> Rs β):(Rs.ok a).bind f=f a:=rfl
@[simp] theorem Rs.awF {α β : Type} (f : α -> Rs β):(Rs.bad:Rs α).bind f = .bad:=rfl
@[simp] theorem Rs.axN {α β : Type} (c:Str) (f : α -> Rs β):(Rs.ex c:Rs α).bind f = .ex c:=rfl
inductive Tg {α β : Type} (f : α -> Rs β):Type
 | mk
noncomputable def bd {α β : Type} (r:Rs α) (f : α -> Rs β) (_:Tg f):Rs β := r.bind f
@[simp] theorem asL {α β : Type} (f : α -> Rs β) (a : α) (u:Tg f):bd (.ok a) f u=f a:=rfl
@[simp] theorem ay1 {α β : Type} (f : α -> Rs β) (u:Tg f):bd .bad f u = .bad:=rfl
@[simp] theorem azQ {α β : Type} (f : α -> Rs β) (c:Str) (u:Tg f):bd (.ex c) f u = .ex c:=rfl
@[simp] theorem asM (f g:SF) (ρ : En):aaN f g ρ = ((bd (f ρ) (λp=>match p.1 with
 | .nx=>g p.2
 | fl => .ok (fl,p.2)) .mk)):=rfl
@[simp] theorem avy (c:BF) (f g:SF) (ρ : En):sIf c f g ρ = ((bd (c ρ) (λp=>if p.1=true then f p.2 else g p.2) .mk)):=rfl
@[simp] theorem asN (f:EF) (ρ : En):abx f ρ = ((bd (f ρ) (λp=>match p.1 with
 | .v T fr => .ok (.rt T fr,p.2)
 | .s i=>match p.2[i]? with
  | some (.ow ts) => .ok (.rt (.lst ts) true,p.2)
  | _ => .bad) .mk)):=rfl
@[simp] theorem axO (f:EF) (g:GF) (ρ : En):abj f g ρ = ((bd (f ρ) (λp=>match p.1 with
 | .v T _=>(bd (g T p.2) (λρ' => .ok (.nx,ρ')) .mk)
 | .s _ => .bad) .mk)):=rfl
@[simp] theorem axP (i:Nat) (f:EF) (ρ : En):anr i f ρ = ((bd (f ρ) (λp=>match p.1 with
 | .v (.lst ts) true => .ok (.nx,p.2.set i (.ow ts))
 | _ => .bad) .mk)):=rfl
@[simp] theorem asO  (ρ : En):adz  ρ = (.ok (.nx,ρ)):=rfl
@[simp] theorem axQ (f:SF) (ρ : En):adZ f ρ = (abS (f ρ)):=rfl
@[simp] theorem axR (i j:Nat) (fa:AF) (ρ : En):atz i j fa ρ = ((bd (fa ρ) (λp=>(bd (cls p.1) (λTs=>match Ts with
 | [T,U] => .ok (.nx,(p.2.set i (.sh T)).set j (.sh U))
 | _ => .bad) .mk)) .mk)):=rfl
@[simp] theorem awG (i:Nat) (fk fe:EF) (ρ : En):arY i fk fe ρ = ((bd (fe ρ) (λp=>(bd (cls [p.1]) (λTs=>(bd (con p.2 i) (λ_=>(bd (fk p.2) (λq=>(bd (dr q.2 q.1) (λkT=>(bd (iOf kT) (λk=>(bd (con q.2 i) (λts=>match Ts,ixN ts.length k with
 | [T],some j => .ok (.nx,abn i (ts.set j T) q.2)
 | _,_ => .bad) .mk)) .mk)) .mk)) .mk)) .mk)) .mk)) .mk)):=rfl
@[simp] theorem awH (f:EF) (ρ : En):adQ f ρ = ((bd (f ρ) (λp => .ok (.nx,p.2)) .mk)):=rfl
@[simp] theorem axS (fi:IF) (g:GF) (b:SF) (ρ : En):afn fi g b ρ = ((bd (fi ρ) (λp=>acu g b p.1 p.2) .mk)):=rfl
@[simp] theorem axT (i:Nat) (f:SF) (ρ : En):aty i f ρ = (f (frz i ρ)):=rfl
@[simp] theorem axU (i:Nat) (f:SF) (ρ : En):azH i f ρ = (f (dow i ρ)):=rfl
@[simp] theorem axV (i:Nat) (p:Int->Int->Int) (f:EF) (ρ : En):azy i p f ρ = (match ρ[i]? with
 | some (.sh (.int x))=>(bd (f ρ) (λq=>(bd (dr q.2 q.1) (λyT=>(bd (iOf yT) (λy => .ok (.nx,q.2.set i (.sh (.int (p x y))))) .mk)) .mk)) .mk)
 | _ => .bad):=rfl
@[simp] theorem axW (i:Nat) (fk:QF) (m:GM) (fa:QF) (ρ : En):azG i fk m fa ρ = ((bd (ac0 ρ i) (λts=>(bd (abS (fk ρ)) (λk=>(bd (ixT ts k) (λz=>match z.2 with
 | .lst us=>(bd (abS (fa ρ)) (λT=>(bd (m us [T]) (λy => .ok (.nx,ρ.set i (.dp (ts.set z.1 (.lst y.1))))) .mk)) .mk)
 | _ => .bad) .mk)) .mk)) .mk)):=rfl
@[simp] theorem awI (i:Nat) (fk fj:QF) (fe:EF) (ρ : En):axA i fk fj fe ρ = ((bd (fe ρ) (λp=>(bd (clV p.1) (λT=>(bd (ac0 p.2 i) (λts=>(bd (abS (fk p.2)) (λk=>(bd (ixT ts k) (λz=>match z.2 with
 | .lst us=>(bd (abS (fj p.2)) (λj=>(bd (ixT us j) (λy => .ok (.nx,p.2.set i (.dp (ts.set z.1 (.lst (us.set y.1 T)))))) .mk)) .mk)
 | _ => .bad) .mk)) .mk)) .mk)) .mk)) .mk)):=rfl
@[simp] theorem avz (i:Nat) (src:List (Option Nat)) (fi:IF) (g:GF) (c:BF) (f:EF) (ρ : En):au4 i src fi g c f ρ = ((bd (fi ρ) (λp=>if p.1.length<=100000 then (bd (abS (apY g c f p.1 (acD src p.2))) (λz=>if acE src z.2 p.2=true then .ok (.nx,(abT src z.2 p.2).set i (.dp z.1)) else .bad) .mk) else .bad) .mk)):=rfl
@[simp] theorem axX (i:Nat) (ρ : En):azE i ρ = (match ρ[i]? with
 | some (.sh T) => .ok T
 | _ => .bad):=rfl
@[simp] theorem azR (T:Tr) (ρ : En):qC T ρ = .ok T:=rfl
@[simp] theorem axY (i:Nat) (fk fj:QF) (ρ : En):azF i fk fj ρ = ((bd (ac0 ρ i) (λts=>(bd (fk ρ) (λk=>(bd (ixT ts k) (λz=>match z.2 with
 | .lst us=>(bd (fj ρ) (λj=>(bd (ixT us j) (λy => .ok y.2) .mk)) .mk)
 | _ => .bad) .mk)) .mk)) .mk)):=rfl
@[simp] theorem asQ (i:Nat) (ρ : En):aag i ρ = (match ρ[i]? with
 | some (.sh T) => .ok (.v T false,ρ)
 | some (.ow _) => .ok (.s i,ρ)
 | some (.rf _) => .ok (.s i,ρ)
 | _ => .bad):=rfl
@[simp] theorem axZ (T:Tr) (ρ : En):eC T ρ = (.ok (.v T false,ρ)):=rfl
@[simp] theorem ay2 (Ts:List Tr) (ρ : En):eCL Ts ρ = .ok (.v (.lst Ts) true,ρ):=rfl
@[simp] theorem avA (g:G2) (fa fb:EF) (ρ : En):eOp g fa fb ρ = ((bd (fa ρ) (λp=>(bd (fb p.2) (λq=>(bd (dr q.2 p.1) (λa=>(bd (dr q.2 q.1) (λb=>(bd (g a b) (λz => .ok (.v z.1 z.2,q.2)) .mk)) .mk)) .mk)) .mk)) .mk)):=rfl
@[simp] theorem ay3 (g:G1) (fa:EF) (ρ : En):eUn g fa ρ = ((bd (fa ρ) (λp=>(bd (dr p.2 p.1) (λa=>(bd (g a) (λz => .ok (.v z.1 z.2,p.2)) .mk)) .mk)) .mk)):=rfl
@[simp] theorem avB (g:GN) (fa:AF) (ρ : En):eCB g fa ρ = ((bd (fa ρ) (λp=>(bd (drs p.2 p.1) (λas=>(bd (g as) (λz => .ok (.v z.1 z.2,p.2)) .mk)) .mk)) .mk)):=rfl
@[simp] theorem aoz (F:FP) (fa:AF) (ρ : En):aax F fa ρ = ((bd (fa ρ) (λp=>(bd (drs p.2 p.1) (λas=>(bd (F as) (λz=>if p.1.any isS=true /\ adt z=false then .bad else .ok (.v z.1 z.2,p.2)) .mk)) .mk)) .mk)):=rfl
@[simp] theorem avC (r:Nat) (F:FR) (fa:AF) (ρ : En):aaL r F fa ρ = ((bd (fa ρ) (λp=>match p.1[r]? with
 | some (.s i)=>if others r i p.1=true then ((bd (con p.2 i) (λ_=>(bd (drs p.2 p.1) (λas=>(bd (F as) (λz=>if (p.1.eraseIdx r).any isS=true /\ adt z.1=false then .bad else .ok (.v z.1.1 z.1.2,abn i z.2 p.2)) .mk)) .mk)) .mk)) else .bad
 | _ => .bad) .mk)):=rfl
@[simp] theorem ax0 (g:AF) (ρ : En):acU g ρ = ((bd (g ρ) (λp=>(bd (cls p.1) (λts=>if ts.length<=1000 then .ok (.v (.lst ts) true,p.2) else .bad) .mk)) .mk)):=rfl
@[simp] theorem ax1 (g:AF) (ρ : En):afm g ρ = ((bd (g ρ) (λp=>(bd (cls p.1) (λts=>if ts.length<=1000 then .ok (.v (.tup ts) false,p.2) else .bad) .mk)) .mk)):=rfl
@[simp] theorem ax2 (f g:EF) (ρ : En):an0 f g ρ = ((bd (abv f ρ) (λp=>if p.1=true then g p.2 else .ok (eB false,p.2)) .mk)):=rfl
@[simp] theorem ay4 (f g:EF) (ρ : En):eOr f g ρ = ((bd (abv f ρ) (λp=>if p.1=true then .ok (eB true,p.2) else g p.2) .mk)):=rfl
@[simp] theorem ax3 (f:EF) (ρ : En):axd f ρ = ((bd (abv f ρ) (λp => .ok (eB (!p.1),p.2)) .mk)):=rfl
@[simp] theorem ay5 (c:BF) (f g:EF) (ρ : En):eIf c f g ρ = ((bd (c ρ) (λp=>if p.1=true then f p.2 else g p.2) .mk)):=rfl
@[simp] theorem ax4 (c:Ty) (fa:EF) (ρ : En):anq c fa ρ = ((bd (fa ρ) (λp=>(bd (dr p.2 p.1) (λa => .ok (eB (ac7 a c),p.2)) .mk)) .mk)):=rfl
@[simp] theorem avD (g g':G2) (fa fb fc:EF) (ρ : En):agq g g' fa fb fc ρ = ((bd (fa ρ) (λp=>(bd (fb p.2) (λq=>(bd (dr q.2 p.1) (λa=>(bd (dr q.2 q.1) (λb=>(bd (g a b) (λz=>(bd (bOf z.1) (λk=>if k=true then (bd (fc q.2) (λs=>(bd (dr s.2 q.1) (λb=>(bd (dr s.2 s.1) (λc=>(bd (g' b c) (λz => .ok (.v z.1 z.2,s.2)) .mk)) .mk)) .mk)) .mk) else .ok (eB false,q.2)) .mk)) .mk)) .mk)) .mk)) .mk)) .mk)):=rfl
@[simp] theorem ay6 (fa:EF) (fl fh:OF) (ρ : En):eSl fa fl fh ρ = ((bd (fa ρ) (λp=>(bd (fl p.2) (λl=>(bd (fh l.2) (λh=>(bd (dr h.2 p.1) (λa=>(bd (gSl l.1 h.1 a) (λz => .ok (.v z.1 z.2,h.2)) .mk)) .mk)) .mk)) .mk)) .mk)):=rfl
@[simp] theorem aqm (src:List (Option Nat)) (fi:IF) (g:GF) (c:BF) (f:EF) (ρ : En):acd src fi g c f ρ = ((bd (fi ρ) (λp=>if p.1.length<=100000 then (bd (abS (afd g c f p.1 (acD src p.2))) (λz=>if acE src z.2 p.2=true then .ok (.v (.lst z.1) true,abT src z.2 p.2) else .bad) .mk) else .bad) .mk)):=rfl
@[simp] theorem ay7 (i:Nat) (m:GM) (fa:AF) (ρ : En):eMt i m fa ρ = ((bd (con ρ i) (λ_=>(bd (fa ρ) (λp=>(bd (cls p.1) (λas=>(bd (con p.2 i) (λts=>(bd (m ts as) (λz => .ok (.v z.2 false,abn i z.1 p.2)) .mk)) .mk)) .mk)) .mk)) .mk)):=rfl
@[simp] theorem ax5 (i:Nat) (m:GM) (ρ : En):azx i m ρ = ((bd (con ρ i) (λts=>(bd (m ts []) (λz => .ok (.v z.2 false,abn i z.1 ρ)) .mk)) .mk)):=rfl
@[simp] theorem aqn (fa:EF) (ρ : En):abv fa ρ = ((bd (fa ρ) (λp=>(bd (dr p.2 p.1) (λa=>(bd (bOf a) (λb => .ok (b,p.2)) .mk)) .mk)) .mk)):=rfl
@[simp] theorem ax6 (fa:EF) (ρ : En):ahd fa ρ = ((bd (fa ρ) (λp=>(bd (dr p.2 p.1) (λa=>(bd (tru a) (λb => .ok (b,p.2)) .mk)) .mk)) .mk)):=rfl
@[simp] theorem ax7 (f g:BF) (ρ : En):azv f g ρ = ((bd (f ρ) (λp=>if p.1=true then g p.2 else .ok (false,p.2)) .mk)):=rfl
@[simp] theorem ay8 (f g:BF) (ρ : En):bOr f g ρ = ((bd (f ρ) (λp=>if p.1=true then .ok (true,p.2) else g p.2) .mk)):=rfl
@[simp] theorem ax8 (f:BF) (ρ : En):ajc f ρ = ((bd (f ρ) (λp => .ok (!p.1,p.2)) .mk)):=rfl
@[simp] theorem asR  (ρ : En):aey  ρ = (.ok (true,ρ)):=rfl
@[simp] theorem asS  (ρ : En):aar  ρ = (.ok ([],ρ)):=rfl
@[simp] theorem aqo (f:EF) (g:AF) (ρ : En):aad f g ρ = ((bd (f ρ) (λp=>(bd (g p.2) (λq => .ok (p.1 :: q.1,q.2)) .mk)) .mk)):=rfl
@[simp] theorem ay9 (f:EF) (ρ : En):fSq f ρ = ((bd (f ρ) (λp=>(bd (acV p.1) (λz => .ok (z.1,p.2)) .mk)) .mk)):=rfl
@[simp] theorem ax9 (fa:AF) (ρ : En):agS fa ρ = ((bd (fa ρ) (λp=>(bd (drs p.2 p.1) (λas=>match as with
 | [.int j]=>if okR j=true then .ok (upTo 0 j.toNat,p.2) else .bad
 | _ => .bad) .mk)) .mk)):=rfl
@[simp] theorem awJ (fa:AF) (ρ : En):axe fa ρ = ((bd (fa ρ) (λp=>(bd (drs p.2 p.1) (λas=>match as with
 | [.int i,.int j]=>if okR i=true /\ okR j=true then .ok (upTo i (j - i).toNat,p.2) else .bad
 | _ => .bad) .mk)) .mk)):=rfl
@[simp] theorem aya (fa:AF) (ρ : En):au6 fa ρ = ((bd (fa ρ) (λp=>match p.1 with
 | [.v (.lst us) _,.v (.lst vs) _] => .ok (aq0 us vs,p.2)
 | _ => .bad) .mk)):=rfl
@[simp] theorem aza  (ρ : En):oNo  ρ = (.ok (none,ρ)):=rfl
@[simp] theorem awK (fa:EF) (ρ : En):ab9 fa ρ = ((bd (fa ρ) (λp=>(bd (dr p.2 p.1) (λa=>(bd (iOf a) (λb => .ok (some b,p.2)) .mk)) .mk)) .mk)):=rfl
@[simp] theorem azS (i:Nat) (T:Tr) (ρ : En):gN i T ρ = (.ok (ρ.set i (.sh T))):=rfl
@[simp] theorem azT (n:Nat) (f:GFs) (T:Tr) (ρ : En):gT n f T ρ = (match T with
 | .tup Ts=>if Ts.length=n then f Ts ρ else .bad
 | _ => .bad):=rfl
@[simp] theorem awL  (Ts:List Tr) (ρ : En):adD  Ts ρ = (match Ts with
 | [] => .ok ρ
 | _ => .bad):=rfl
@[simp] theorem avE (f:GF) (g:GFs) (Ts:List Tr) (ρ : En):aa6 f g Ts ρ = (match Ts with
 | T :: r=>(bd (f T ρ) (λρ'=>g r ρ') .mk)
 | [] => .bad):=rfl
@[simp] theorem azb (a:Tr):aaz 1 [a] = [.sh a]:=rfl
end L2
end
section
namespace BH
open PySem L2
theorem aaC (i:Int):dep (.int i)=0:=rfl
theorem aa7 (i:Bool):dep (.bl i)=0:=rfl
theorem aaM (i:Str):dep (.str i)=0:=rfl
theorem aaQ:dep .non=0:=rfl
theorem aaR (ts:List Tr):dep (.tup ts)=deps ts + 1:=by simp only [dep]
theorem aaS (ts:List Tr):dep (.lst ts)=deps ts + 1:=by simp only [dep]
theorem aaA:deps []=0:=rfl
theorem aaw (t:Tr) (ts:List Tr):deps (t :: ts)=max (dep t) (deps ts):=by simp only [deps]
theorem aaX (i j:Int):eqT (.int i) (.int j)=(i == j):=by simp only [eqT]
theorem aa8 (i j:Bool):eqT (.bl i) (.bl j)=(i == j):=by simp only [eqT]
theorem aa3 (i j:Str):eqT (.str i) (.str j)=(i == j):=by simp only [eqT]
noncomputable def isW:Tr->Bool
 | .int _=>true
 | _=>false
theorem afk (T:Tr):ab1 [T] = .ok (.bl (isW T),false):=by cases T <;> rfl
noncomputable def wc:BF:=abv (eOp gNe (aag 1) (eC (.int 0)))
noncomputable def wb:SF:=atz 0 1 (aad (aag 1) (aad (eOp acK (aag 0) (aag 1)) aar))
theorem ayb (a b:Int):wc [.sh (.int a),.sh (.int b)] = .ok (!(b == 0),[.sh (.int a),.sh (.int b)]):=rfl
theorem ayc (a b:Int) (h:b ≠ 0):wb [.sh (.int a),.sh (.int b)] = .ok (.nx,[.sh (.int b),.sh (.int (a.fmod b))]):=by
 unfold wb; simp -dsimp [abS,frz,dow,abn,con,ac0,eB,bOf,tru,dr,drs,cls,clV,adA,g1,g2,gI,gIC,gB,gEq,gNe,gIn,aaT,ab5,acL,acK,acC,acw,gLt,gGt,gLe,gGe,gIx,abw,ady,abQ,aaU,adq,adX,acF,acV,okR,iOf,isS,others,acD,abT,acE,acW,ac8,aaC,aa7,aaM,aaQ,aaR,aaS,aaA,aaw,aaX,aa8,aa3,ac7,atI,ixN,aaz,h]
theorem al8:∀ (n:Nat) (a b:Int),b.natAbs<n->∃ g:Int,afw wc wb n [.sh (.int a),.sh (.int b)] = .ok (.nx,[.sh (.int g),.sh (.int 0)]) /\ (if g<0 then -g else g)=((Int.gcd a b:Nat):Int)
 | 0,a,b,h=>by omega
 | n + 1,a,b,h=>by
  unfold afw
  rw [ayb]
  by_cases z:b=0
  ·subst z
   exact ⟨a,rfl,arJ a⟩
  ·obtain ⟨g,h1,h2⟩:=al8 n b (a.fmod b) (by have:=ams a b z; omega)
   refine ⟨g,?_,by rw [h2,alO]⟩
   have e:(!(b == 0))=true:=by simp [z]
   simp only [Rs.bind,e,if_true]
   rw [ayc a b z]
   exact h1
noncomputable def azc:SF:=(aaN (adZ (aen (fuI 1) wc wb)) (abx (eCB (g1 ady) (aad (aag 0) aar))))
theorem asT (a b:Int):fnP 2 azc [.int a,.int b] = .ok (.int (Int.gcd a b:Nat),false):=by
 obtain ⟨g,h1,h2⟩:=al8 (b.natAbs + 1) a b (by omega)
 have h0:aaz 2 [.int a,.int b] = [.sh (.int a),.sh (.int b)]:=rfl
 have h3:adZ (aen (fuI 1) wc wb) [.sh (.int a),.sh (.int b)] = .ok (.nx,[.sh (.int g),.sh (.int 0)]):=by
  unfold adZ aen
  rw [show fuI 1 [.sh (.int a),.sh (.int b)]=b.natAbs + 1 from rfl,h1]
  rfl
 rw [<-h2]
 unfold fnP azc aaN
 rw [h0,h3]
 rfl
theorem acP (a b:Int):aa2 [.int a,.int b] = .ok (.int (Int.gcd a b:Nat),false):=asT a b
noncomputable def aqp:Tr->Tr->Bool
 | .int p,.int q=>decide (1<=q) && (Int.gcd p q == 1)
 | _,_=>false
noncomputable def ant:Tr->Bool
 | .tup [a,b]=>aqp a b
 | _=>false
theorem asU (n:Nat):((n:Int) == 1)=(n == 1):=by
 rw [Bool.eq_iff_iff]; simp; omega
theorem abJ (T:Tr):abF [T] = .ok (.bl (ant T),false):=by
 unfold abF afD fnP
 cases T with
 | tup ts =>
  match ts with
  | []=>rfl
  | [_]=>rfl
  | [a,b] =>
   cases a <;> cases b <;> try rfl
   rename_i p q
   simp -dsimp [abS,frz,dow,abn,con,ac0,eB,bOf,tru,dr,drs,cls,clV,adA,g1,g2,gI,gIC,gB,gEq,gNe,gIn,aaT,ab5,acL,acK,acC,acw,gLt,gGt,gLe,gGe,gIx,abw,ady,abQ,aaU,adq,adX,acF,acV,okR,iOf,isS,others,acD,abT,acE,acW,ac8,aaC,aa7,aaM,aaQ,aaR,aaS,aaA,aaw,aaX,aa8,aa3,ac7,atI,ixN,aaz,afk,isW,acP,ant,aqp,asU]
   by_cases h:1<=q <;> simp [h]
  | a :: b :: c :: r =>
   have:((r.length:Int) + 1 + 1 + 1 == 2)=false:=by simp; omega
   simp -dsimp [abS,frz,dow,abn,con,ac0,eB,bOf,tru,dr,drs,cls,clV,adA,g1,g2,gI,gIC,gB,gEq,gNe,gIn,aaT,ab5,acL,acK,acC,acw,gLt,gGt,gLe,gGe,gIx,abw,ady,abQ,aaU,adq,adX,acF,acV,okR,iOf,isS,others,acD,abT,acE,acW,ac8,aaC,aa7,aaM,aaQ,aaR,aaS,aaA,aaw,aaX,aa8,aa3,ac7,atI,ixN,aaz,ant,this]
 | _=>rfl
noncomputable def asV:Tr->Tr->Bool
 | .int p,.int q=>decide (0<=p) && decide (p<=q) && decide (1<=q) && (Int.gcd p q == 1)
 | _,_=>false
noncomputable def aiZ:Tr->Bool
 | .tup [a,b]=>asV a b
 | _=>false
theorem akV (T:Tr):aco [T] = .ok (.bl (aiZ T),false):=by
 unfold aco ain fnP
 cases T with
 | tup ts =>
  match ts with
  | []=>simp -dsimp [abS,frz,dow,abn,con,ac0,eB,bOf,tru,dr,drs,cls,clV,adA,g1,g2,gI,gIC,gB,gEq,gNe,gIn,aaT,ab5,acL,acK,acC,acw,gLt,gGt,gLe,gGe,gIx,abw,ady,abQ,aaU,adq,adX,acF,acV,okR,iOf,isS,others,acD,abT,acE,acW,ac8,aaC,aa7,aaM,aaQ,aaR,aaS,aaA,aaw,aaX,aa8,aa3,ac7,atI,ixN,aaz,abJ,ant,aiZ]
  | [_]=>simp -dsimp [abS,frz,dow,abn,con,ac0,eB,bOf,tru,dr,drs,cls,clV,adA,g1,g2,gI,gIC,gB,gEq,gNe,gIn,aaT,ab5,acL,acK,acC,acw,gLt,gGt,gLe,gGe,gIx,abw,ady,abQ,aaU,adq,adX,acF,acV,okR,iOf,isS,others,acD,abT,acE,acW,ac8,aaC,aa7,aaM,aaQ,aaR,aaS,aaA,aaw,aaX,aa8,aa3,ac7,atI,ixN,aaz,abJ,ant,aiZ]
  | [a,b] =>
   by_cases w:isW a=true /\ isW b=true
   case neg =>
    have w1:aqp a b=false:=by cases a <;> cases b <;> first | rfl | exact absurd ⟨rfl,rfl⟩ w
    have w2:asV a b=false:=by cases a <;> cases b <;> first | rfl | exact absurd ⟨rfl,rfl⟩ w
    simp -dsimp [abS,frz,dow,abn,con,ac0,eB,bOf,tru,dr,drs,cls,clV,adA,g1,g2,gI,gIC,gB,gEq,gNe,gIn,aaT,ab5,acL,acK,acC,acw,gLt,gGt,gLe,gGe,gIx,abw,ady,abQ,aaU,adq,adX,acF,acV,okR,iOf,isS,others,acD,abT,acE,acW,ac8,aaC,aa7,aaM,aaQ,aaR,aaS,aaA,aaw,aaX,aa8,aa3,ac7,atI,ixN,aaz,abJ,ant,aiZ,w1,w2]
   cases a <;> try cases w.1
   cases b <;> try cases w.2
   rename_i p q
   simp -dsimp [abS,frz,dow,abn,con,ac0,eB,bOf,tru,dr,drs,cls,clV,adA,g1,g2,gI,gIC,gB,gEq,gNe,gIn,aaT,ab5,acL,acK,acC,acw,gLt,gGt,gLe,gGe,gIx,abw,ady,abQ,aaU,adq,adX,acF,acV,okR,iOf,isS,others,acD,abT,acE,acW,ac8,aaC,aa7,aaM,aaQ,aaR,aaS,aaA,aaw,aaX,aa8,aa3,ac7,atI,ixN,aaz,abJ,ant,aiZ,aqp,asV]
   by_cases h:1<=q <;> by_cases h2:p.gcd q=1 <;> by_cases h3:0<=p <;> simp [h,h2,h3]
  | a :: b :: c :: r=>simp -dsimp [abS,frz,dow,abn,con,ac0,eB,bOf,tru,dr,drs,cls,clV,adA,g1,g2,gI,gIC,gB,gEq,gNe,gIn,aaT,ab5,acL,acK,acC,acw,gLt,gGt,gLe,gGe,gIx,abw,ady,abQ,aaU,adq,adX,acF,acV,okR,iOf,isS,others,acD,abT,acE,acW,ac8,aaC,aa7,aaM,aaQ,aaR,aaS,aaA,aaw,aaX,aa8,aa3,ac7,atI,ixN,aaz,abJ,ant,aiZ]
 | _=>simp -dsimp [abS,frz,dow,abn,con,ac0,eB,bOf,tru,dr,drs,cls,clV,adA,g1,g2,gI,gIC,gB,gEq,gNe,gIn,aaT,ab5,acL,acK,acC,acw,gLt,gGt,gLe,gGe,gIx,abw,ady,abQ,aaU,adq,adX,acF,acV,okR,iOf,isS,others,acD,abT,acE,acW,ac8,aaC,aa7,aaM,aaQ,aaR,aaS,aaA,aaw,aaX,aa8,aa3,ac7,atI,ixN,aaz,abJ,ant,aiZ]
end BH
end
section
namespace BH
open PySem L2
theorem comp_map {f:EF} {h:Tr->Tr} {τ : En}:∀ (us:List Tr) (s:Sl),(∀ u ∈ us,∃ fr,f (.sh u :: τ) = .ok (.v (h u) fr,.sh u :: τ))->∃ s',afd (gN 0) aey f us (s :: τ) = .ok (us.map h,s' :: τ)
 | [],s,_=>⟨s,rfl⟩
 | u :: us,s,q=>by
  obtain ⟨fr,e⟩:=q u (by simp)
  obtain ⟨s',e'⟩:=comp_map us (.sh u) λv hv=>q v (by simp [hv])
  refine ⟨s',?_⟩
  unfold afd
  simp [e,clV,e']
theorem akW {p:Tr->Bool}:∀ us:List Tr,aiF (us.map λu => .bl (p u))=some (us.map p)
 | []=>rfl
 | u :: us=>by simp [aiF,akW us]
theorem al9 {F:FP} {p:Tr->Bool} {us:List Tr} {ρ : En} {i:IF} {fe:EF} (hl:us.length<=100000) (hi:i ρ = .ok (us,ρ)) (hf:∀ u ∈ us,∃ fr,fe [.sh u] = .ok (.v (.bl (p u)) fr,[.sh u])):eCB (g1 acF) (aad (acd [none] i (gN 0) aey fe) aar) ρ = .ok (.v (.bl (us.all p)) false,ρ):=by
 obtain ⟨s',e⟩:=comp_map (h:=λu => .bl (p u)) us .un hf
 simp -dsimp [abS,frz,dow,abn,con,ac0,eB,bOf,tru,dr,drs,cls,clV,adA,g1,g2,gI,gIC,gB,gEq,gNe,gIn,aaT,ab5,acL,acK,acC,acw,gLt,gGt,gLe,gGe,gIx,abw,ady,abQ,aaU,adq,adX,acF,acV,okR,iOf,isS,others,acD,abT,acE,acW,ac8,aaC,aa7,aaM,aaQ,aaR,aaS,aaA,aaw,aaX,aa8,aa3,ac7,atI,ixN,aaz,hi,hl,e,akW]
theorem aoA {p:Tr->Bool} {us:List Tr} {ρ : En} {i:IF} {fe:EF} {j:Nat} {T:Tr} (hl:us.length<=100000) (hi:i ρ = .ok (us,ρ)) (hj : ρ[j]? = some (.sh T)) (hf:∀ u ∈ us,∃ fr,fe [.sh u,.sh T] = .ok (.v (.bl (p u)) fr,[.sh u,.sh T])):eCB (g1 acF) (aad (acd [none,some j] i (gN 0) aey fe) aar) ρ = .ok (.v (.bl (us.all p)) false,ρ):=by
 obtain ⟨s',e⟩:=comp_map (h:=λu => .bl (p u)) us .un hf
 simp -dsimp [abS,frz,dow,abn,con,ac0,eB,bOf,tru,dr,drs,cls,clV,adA,g1,g2,gI,gIC,gB,gEq,gNe,gIn,aaT,ab5,acL,acK,acC,acw,gLt,gGt,gLe,gGe,gIx,abw,ady,abQ,aaU,adq,adX,acF,acV,okR,iOf,isS,others,acD,abT,acE,acW,ac8,aaC,aa7,aaM,aaQ,aaR,aaS,aaA,aaw,aaX,aa8,aa3,ac7,atI,ixN,aaz,hi,hl,hj,e,akW]
noncomputable def adU (m:Int):Tr->Bool
 | .lst ts=>decide (1<=(ts.length:Int)) && decide ((ts.length:Int)<=m) && ts.all aiZ
 | _=>false
theorem ai0 (T:Tr) (m:Int) (hm:m<=1000):acg [T,.int m] = .ok (.bl (adU m T),false):=by
 unfold acg ags fnP
 cases T with
 | lst ts =>
  by_cases h1:1<=(ts.length:Int)
  ·by_cases h2:(ts.length:Int)<=m
   ·have e:=al9 (F:=aco) (p:=aiZ) (us:=ts) (ρ := [.sh (.lst ts),.sh (.int m)]) (i:=fSq (aag 0)) (fe:=aax aco (aad (aag 0) aar)) (by omega) rfl (λu _=>⟨false,by simp -dsimp [abS,frz,dow,abn,con,ac0,eB,bOf,tru,dr,drs,cls,clV,adA,g1,g2,gI,gIC,gB,gEq,gNe,gIn,aaT,ab5,acL,acK,acC,acw,gLt,gGt,gLe,gGe,gIx,abw,ady,abQ,aaU,adq,adX,acF,acV,okR,iOf,isS,others,acD,abT,acE,acW,ac8,aaC,aa7,aaM,aaQ,aaR,aaS,aaA,aaw,aaX,aa8,aa3,ac7,atI,ixN,aaz,akV]⟩)
    generalize eCB (g1 acF) (aad (acd [none] (fSq (aag 0)) (gN 0) aey (aax aco (aad (aag 0) aar))) aar)=G at e ⊢
    simp -dsimp [abS,frz,dow,abn,con,ac0,eB,bOf,tru,dr,drs,cls,clV,adA,g1,g2,gI,gIC,gB,gEq,gNe,gIn,aaT,ab5,acL,acK,acC,acw,gLt,gGt,gLe,gGe,gIx,abw,ady,abQ,aaU,adq,adX,acF,acV,okR,iOf,isS,others,acD,abT,acE,acW,ac8,aaC,aa7,aaM,aaQ,aaR,aaS,aaA,aaw,aaX,aa8,aa3,ac7,atI,ixN,aaz,h1,h2,e,adU]
   ·simp -dsimp [abS,frz,dow,abn,con,ac0,eB,bOf,tru,dr,drs,cls,clV,adA,g1,g2,gI,gIC,gB,gEq,gNe,gIn,aaT,ab5,acL,acK,acC,acw,gLt,gGt,gLe,gGe,gIx,abw,ady,abQ,aaU,adq,adX,acF,acV,okR,iOf,isS,others,acD,abT,acE,acW,ac8,aaC,aa7,aaM,aaQ,aaR,aaS,aaA,aaw,aaX,aa8,aa3,ac7,atI,ixN,aaz,h1,h2,adU]
  ·simp -dsimp [abS,frz,dow,abn,con,ac0,eB,bOf,tru,dr,drs,cls,clV,adA,g1,g2,gI,gIC,gB,gEq,gNe,gIn,aaT,ab5,acL,acK,acC,acw,gLt,gGt,gLe,gGe,gIx,abw,ady,abQ,aaU,adq,adX,acF,acV,okR,iOf,isS,others,acD,abT,acE,acW,ac8,aaC,aa7,aaM,aaQ,aaR,aaS,aaA,aaw,aaX,aa8,aa3,ac7,atI,ixN,aaz,h1,adU]
 | _=>simp -dsimp [abS,frz,dow,abn,con,ac0,eB,bOf,tru,dr,drs,cls,clV,adA,g1,g2,gI,gIC,gB,gEq,gNe,gIn,aaT,ab5,acL,acK,acC,acw,gLt,gGt,gLe,gGe,gIx,abw,ady,abQ,aaU,adq,adX,acF,acV,okR,iOf,isS,others,acD,abT,acE,acW,ac8,aaC,aa7,aaM,aaQ,aaR,aaS,aaA,aaw,aaX,aa8,aa3,ac7,atI,ixN,aaz,adU]
noncomputable def ais:Tr->Int
 | .lst ts=>ts.length
 | _ => -1
noncomputable def aje:Tr->Bool
 | .lst rs=>decide (1<=(rs.length:Int)) && decide ((rs.length:Int)<=4) && rs.all (adU 12) && rs.all λr=>ais r == ais (rs.headD .non)
 | _=>false
theorem ajT {m:Int} {T:Tr} (h:adU m T=true):∃ ts,T = .lst ts:=by
 cases T <;> first | exact ⟨_,rfl⟩ | cases h
theorem ait (T:Tr):aeD [T] = .ok (.bl (aje T),false):=by
 unfold aeD ajI fnP
 cases T with
 | lst ts =>
  by_cases h1:1<=(ts.length:Int)
  ·by_cases h2:(ts.length:Int)<=4
   ·have e:=al9 (F:=aco) (p:=adU 12) (us:=ts) (ρ := [.sh (.lst ts)]) (i:=fSq (aag 0)) (fe:=(aax acg (aad (aag 0) (aad (eC (.int 12)) aar)))) (by omega) rfl (λu _=>⟨false,by simp -dsimp [abS,frz,dow,abn,con,ac0,eB,bOf,tru,dr,drs,cls,clV,adA,g1,g2,gI,gIC,gB,gEq,gNe,gIn,aaT,ab5,acL,acK,acC,acw,gLt,gGt,gLe,gGe,gIx,abw,ady,abQ,aaU,adq,adX,acF,acV,okR,iOf,isS,others,acD,abT,acE,acW,ac8,aaC,aa7,aaM,aaQ,aaR,aaS,aaA,aaw,aaX,aa8,aa3,ac7,atI,ixN,aaz,ai0]⟩)
    generalize eCB (g1 acF) (aad (acd [none] (fSq (aag 0)) (gN 0) aey (aax acg (aad (aag 0) (aad (eC (.int 12)) aar)))) aar)=G at e ⊢
    cases h3:ts.all (adU 12) with
    | false=>rw [h3] at e; simp -dsimp [abS,frz,dow,abn,con,ac0,eB,bOf,tru,dr,drs,cls,clV,adA,g1,g2,gI,gIC,gB,gEq,gNe,gIn,aaT,ab5,acL,acK,acC,acw,gLt,gGt,gLe,gGe,gIx,abw,ady,abQ,aaU,adq,adX,acF,acV,okR,iOf,isS,others,acD,abT,acE,acW,ac8,aaC,aa7,aaM,aaQ,aaR,aaS,aaA,aaw,aaX,aa8,aa3,ac7,atI,ixN,aaz,h1,h2,e,aje,h3]
    | true =>
     have h4:=List.all_eq_true.mp h3
     obtain ⟨r0,rs,rfl⟩:∃ r0 rs,ts=r0 :: rs:=by cases ts with
      | nil=>simp at h1
      | cons a b=>exact ⟨a,b,rfl⟩
     obtain ⟨l0,rfl⟩:=ajT (h4 r0 (by simp))
     have e2:=aoA (p:=λr=>ais r == (l0.length:Int)) (us := .lst l0 :: rs) (ρ := [.sh (.lst (.lst l0 :: rs))]) (j:=0) (T := .lst (.lst l0 :: rs)) (i:=fSq (aag 0)) (fe:=(eOp gEq (eCB (g1 abw) (aad (aag 0) aar)) (eCB (g1 abw) (aad (eOp gIx (aag 1) (eC (.int 0))) aar)))) (by omega) rfl rfl (λu hu=>⟨false,by
      obtain ⟨l,rfl⟩:=ajT (h4 u hu)
      have:(0:Int)<(rs.length:Int) + 1:=by omega
      simp -dsimp [abS,frz,dow,abn,con,ac0,eB,bOf,tru,dr,drs,cls,clV,adA,g1,g2,gI,gIC,gB,gEq,gNe,gIn,aaT,ab5,acL,acK,acC,acw,gLt,gGt,gLe,gGe,gIx,abw,ady,abQ,aaU,adq,adX,acF,acV,okR,iOf,isS,others,acD,abT,acE,acW,ac8,aaC,aa7,aaM,aaQ,aaR,aaS,aaA,aaw,aaX,aa8,aa3,ac7,atI,ixN,aaz,ais,this]⟩)
     generalize eCB (g1 acF) (aad (acd [none,some 0] (fSq (aag 0)) (gN 0) aey (eOp gEq (eCB (g1 abw) (aad (aag 0) aar)) (eCB (g1 abw) (aad (eOp gIx (aag 1) (eC (.int 0))) aar)))) aar)=G2 at e2 ⊢
     rw [h3] at e
     have e3:aje (.lst (.lst l0 :: rs))=(Tr.lst l0 :: rs).all (λr=>ais r == (l0.length:Int)):=by
      show (decide (1<=((Tr.lst l0 :: rs).length:Int)) && decide (((Tr.lst l0 :: rs).length:Int)<=4) && (Tr.lst l0 :: rs).all (adU 12) && (Tr.lst l0 :: rs).all λr=>ais r == ais (.lst l0))=_
      rw [h3,decide_eq_true h1,decide_eq_true h2]
      rfl
     rw [e3]
     generalize (Tr.lst l0 :: rs).all (λr=>ais r == (l0.length:Int))=bb at e2
     have h1':(1:Int)<=(rs.length:Int) + 1:=by omega
     have h2':(rs.length:Int) + 1<=4:=by simp only [List.length_cons] at h2; omega
     simp -dsimp [abS,frz,dow,abn,con,ac0,eB,bOf,tru,dr,drs,cls,clV,adA,g1,g2,gI,gIC,gB,gEq,gNe,gIn,aaT,ab5,acL,acK,acC,acw,gLt,gGt,gLe,gGe,gIx,abw,ady,abQ,aaU,adq,adX,acF,acV,okR,iOf,isS,others,acD,abT,acE,acW,ac8,aaC,aa7,aaM,aaQ,aaR,aaS,aaA,aaw,aaX,aa8,aa3,ac7,atI,ixN,aaz,h1',h2',e,e2]
   ·simp -dsimp [abS,frz,dow,abn,con,ac0,eB,bOf,tru,dr,drs,cls,clV,adA,g1,g2,gI,gIC,gB,gEq,gNe,gIn,aaT,ab5,acL,acK,acC,acw,gLt,gGt,gLe,gGe,gIx,abw,ady,abQ,aaU,adq,adX,acF,acV,okR,iOf,isS,others,acD,abT,acE,acW,ac8,aaC,aa7,aaM,aaQ,aaR,aaS,aaA,aaw,aaX,aa8,aa3,ac7,atI,ixN,aaz,h1,h2,aje]
  ·simp -dsimp [abS,frz,dow,abn,con,ac0,eB,bOf,tru,dr,drs,cls,clV,adA,g1,g2,gI,gIC,gB,gEq,gNe,gIn,aaT,ab5,acL,acK,acC,acw,gLt,gGt,gLe,gGe,gIx,abw,ady,abQ,aaU,adq,adX,acF,acV,okR,iOf,isS,others,acD,abT,acE,acW,ac8,aaC,aa7,aaM,aaQ,aaR,aaS,aaA,aaw,aaX,aa8,aa3,ac7,atI,ixN,aaz,h1,aje]
 | _=>simp -dsimp [abS,frz,dow,abn,con,ac0,eB,bOf,tru,dr,drs,cls,clV,adA,g1,g2,gI,gIC,gB,gEq,gNe,gIn,aaT,ab5,acL,acK,acC,acw,gLt,gGt,gLe,gGe,gIx,abw,ady,abQ,aaU,adq,adX,acF,acV,okR,iOf,isS,others,acD,abT,acE,acW,ac8,aaC,aa7,aaM,aaQ,aaR,aaS,aaA,aaw,aaX,aa8,aa3,ac7,atI,ixN,aaz,aje]
end BH
end
section
namespace L2
open PySem
@[simp] theorem azd (fa:AF) (ρ : En):eLR fa ρ = bd (fa ρ) (λp=>match p.1 with
 | [.v (.int n) _]=>if 0<=n /\ n<=1000 then .ok (.v (.lst ((List.range n.toNat).map λi:Nat=>Tr.int i)) true,p.2) else .bad
 | _ => .bad) .mk:=rfl
@[simp] theorem atB (F:FR) (fa:EF) (ρ : En):asu F fa ρ = bd (fa ρ) (λp=>match p.1 with
 | .v (.lst us) true=>bd (F [.lst us]) (λz => .ok (.v z.1.1 z.1.2,p.2)) .mk
 | _ => .bad) .mk:=rfl
@[simp] theorem avF (kt:Tr->Option (Int × Int)) (src:List (Option Nat)) (fa:AF) (fb:RF) (ρ : En):al3 kt src fa fb ρ = bd (fa ρ) (λp=>match p.1 with
 | [.v (.int n) _]=>if 0<=n /\ n<64 then bd (abS (akE kt fb (aog src p.2) (List.range n.toNat))) (λks => .ok (.v (.lst ((aod n.toNat λi=>ks.getD i (0,0)).map λi:Nat=>Tr.int i)) true,p.2)) .mk else .bad
 | _ => .bad) .mk:=rfl
end L2
namespace BH
open PySem L2
noncomputable def fT (x:Int × Int):Tr := .tup [.int x.1,.int x.2]
theorem lg2 {k:Int} {M:Nat} (h:k.natAbs<2 ^ M) (hM:M<=8000):k.natAbs.log2<9000:=by
 by_cases z:k.natAbs=0
 ·rw [z]; decide
 ·have:=(Nat.log2_lt (n:=k.natAbs) (k:=M) z).mpr h
  omega
theorem aq7 {k:Int} {M:Nat} (h:k.natAbs<2 ^ M) (hM:M<=8000):fit k=true:=by
 have:=lg2 h hM
 unfold fit
 rw [decide_eq_true_eq]
 omega
theorem afl {i j:Int} {M N:Nat} (h1:i.natAbs<2 ^ M) (hM:M<=8000) (h2:j.natAbs<2 ^ N) (hN:N<=8000):ahT i j=true:=by
 unfold ahT
 rw [aq7 h1 hM,aq7 h2 hN]
 rfl
theorem aeP {i j:Int} {M:Nat} (h0:j ≠ 0) (h:j.natAbs<2 ^ M) (hM:M<=8000):amt i j=true:=by
 unfold amt
 rw [Bool.and_eq_true,decide_eq_true_eq,decide_eq_true_eq]
 exact ⟨h0,lg2 h hM⟩
theorem aqq {B q:Int} (hB:1<=B) (hq:1<=q):let B':=(B * q).fdiv ((Int.gcd B q:Nat):Int); 1<=B' /\ B∣B' /\ q∣B' /\ B'<=B * q:=by
 have g0:0<Int.gcd B q:=Int.gcd_pos_of_ne_zero_left _ (by omega)
 obtain ⟨b,hb⟩:=Int.gcd_dvd_left (a:=B) (b:=q)
 obtain ⟨o,ho⟩:=Int.gcd_dvd_right (a:=B) (b:=q)
 generalize hg:((Int.gcd B q:Nat):Int)=g at hb ho
 have g1:0<g:=by omega
 have b1:0<b:=by
  rcases Int.lt_or_le 0 b with z | z
  ·exact z
  ·have:=Int.mul_nonpos_of_nonneg_of_nonpos (a:=g) (b:=b) (by omega) z; omega
 have o1:0<o:=by
  rcases Int.lt_or_le 0 o with z | z
  ·exact z
  ·have:=Int.mul_nonpos_of_nonneg_of_nonpos (a:=g) (b:=o) (by omega) z; omega
 have e:(B * q).fdiv g=B * o:=by
  rw [Int.fdiv_eq_ediv_of_nonneg _ (by omega)]
  have:B * q=g * (B * o):=by rw [ho]; ac_rfl
  rw [this]
  exact Int.mul_ediv_cancel_left _ (by omega)
 dsimp only
 rw [e]
 refine ⟨?_,⟨o,rfl⟩,⟨b,?_⟩,?_⟩
 ·have:=Int.mul_pos (a:=B) (b:=o) (by omega) o1; omega
 ·conv=>lhs; rw [hb]
  conv=>rhs; rw [ho]
  ac_rfl
 ·refine Int.mul_le_mul_of_nonneg_left ?_ (by omega)
  rw [ho]
  have:=Int.mul_le_mul_of_nonneg_right (a:=1) (b:=g) (c:=o) (by omega) (by omega)
  omega
noncomputable def cbB:SF:=(abj (eOp acL (eOp ab5 (aag 1) (aag 3)) (aax aa2 (aad (aag 1) (aad (aag 3) aar)))) (gN 1))
theorem avG (s0:Sl) (B p q:Int) {M N:Nat} (hB:1<=B) (hq:1<=q) (hB2:B<2 ^ M) (hM:M<=8000) (hq2:q<2 ^ N) (hN:N<=8000):cbB [s0,.sh (.int B),.sh (.int p),.sh (.int q)] = .ok (.nx,[s0,.sh (.int ((B * q).fdiv ((Int.gcd B q:Nat):Int))),.sh (.int p),.sh (.int q)]):=by
 have g0:0<Int.gcd B q:=Int.gcd_pos_of_ne_zero_left _ (by omega)
 have gl:Int.gcd B q<=q.natAbs:=Nat.le_of_dvd (by omega) (Int.gcd_dvd_natAbs_right ..)
 have eM:((2 ^ M:Nat):Int)=2 ^ M:=by push_cast; rfl
 have eN:((2 ^ N:Nat):Int)=2 ^ N:=by push_cast; rfl
 have c1:ahT B q=true:=afl (M:=M) (N:=N) (by omega) hM (by omega) hN
 have c2:∀ i,amt i ((Int.gcd B q:Nat):Int)=true:=λi=>aeP (M:=N) (by omega) (by omega) hN
 unfold cbB
 simp -dsimp [abS,frz,dow,abn,con,ac0,eB,bOf,tru,dr,drs,cls,clV,adA,g1,g2,gI,gIC,gB,gEq,gNe,gIn,aaT,ab5,acL,acK,acC,acw,gLt,gGt,gLe,gGe,gIx,abw,ady,abQ,aaU,adq,adX,acF,acV,okR,iOf,isS,others,acD,abT,acE,acW,ac8,aaC,aa7,aaM,aaQ,aaR,aaS,aaA,aaw,aaX,aa8,aa3,ac7,atI,ixN,aaz,acP,c1,c2]
noncomputable def Fr (N:Nat) (l:List (Int × Int)):Prop:=∀ x ∈ l,1<=x.2 /\ x.2<2 ^ N
theorem aoB {N:Nat} (s0:Sl):∀ (l:List (Int × Int)) (B:Int) (M:Nat) (s2 s3:Sl),Fr N l->1<=B->B<2 ^ M->M + N * l.length<=8000->N<=8000->∃ B' t2 t3,acu (gT 2 (aa6 (gN 2) (aa6 (gN 3) adD))) cbB (l.map fT) [s0,.sh (.int B),s2,s3] = .ok (.nx,[s0,.sh (.int B'),t2,t3]) /\ 1<=B' /\ B'<2 ^ (M + N * l.length) /\ B∣B' /\ ∀ x ∈ l,x.2∣B'
 | [],B,M,s2,s3,_,h1,h2,_,_=>⟨B,s2,s3,rfl,h1,by simpa using h2,Int.dvd_refl _,by simp⟩
 | x :: l,B,M,s2,s3,h,h1,h2,h3,h4=>by
  obtain ⟨a1,a2⟩:=h x (by simp)
  obtain ⟨b1,b2,b3,b4⟩:=aqq h1 a1
  have e:=avG s0 B x.1 x.2 h1 a1 h2 (by omega) a2 h4
  generalize (B * x.2).fdiv ((Int.gcd B x.2:Nat):Int)=B1 at b1 b2 b3 b4 e
  have lt:B1<2 ^ (M + N):=by
   have p1:(0:Int)<2 ^ N:=Int.pow_pos (by omega)
   have q1:B * x.2<=B * 2 ^ N:=Int.mul_le_mul_of_nonneg_left (by omega) (by omega)
   have q2:B * 2 ^ N<2 ^ M * 2 ^ N:=Int.mul_lt_mul_of_pos_right h2 p1
   rw [Int.pow_add]
   omega
  rw [List.length_cons] at h3
  have hm:M + N + N * l.length=M + N * (l.length + 1):=by rw [Nat.mul_succ]; omega
  obtain ⟨B',t2,t3,e',c1,c2,c3,c4⟩:=aoB s0 l B1 (M + N) (.sh (.int x.1)) (.sh (.int x.2)) (λy hy=>h y (by simp [hy])) b1 lt (by omega) h4
  refine ⟨B',t2,t3,?_,c1,by rw [List.length_cons,<-hm]; exact c2,Int.dvd_trans b2 c3,λy hy=>?_⟩
  ·show acu _ cbB (fT x :: l.map fT) _=_
   unfold acu
   rw [show (gT 2 (aa6 (gN 2) (aa6 (gN 3) adD))) (fT x) [s0,.sh (.int B),s2,s3] = .ok [s0,.sh (.int B),.sh (.int x.1),.sh (.int x.2)] from rfl]
   simp only [Rs.aa0]
   rw [e]
   exact e'
  ·rcases List.mem_cons.mp hy with rfl | hy
   ·exact Int.dvd_trans b3 c3
   ·exact c4 y hy
theorem agE {N:Nat} (l:List (Int × Int)) (h:Fr N l) (hl:1 + N * l.length<=8000) (hN:N<=8000):∃ B,ach [.lst (l.map fT)] = .ok (.int B,false) /\ 1<=B /\ B<2 ^ (1 + N * l.length) /\ ∀ x ∈ l,x.2∣B:=by
 obtain ⟨B,t2,t3,e,h1,h2,_,h3⟩:=aoB (.sh (.lst (l.map fT))) l 1 1 .un .un h (by omega) (by omega) hl hN
 refine ⟨B,?_,h1,h2,h3⟩
 show fnP 4 (aaN (abj (eC (.int 1)) (gN 1)) (aaN (adZ (afn (fSq (aag 0)) (gT 2 (aa6 (gN 2) (aa6 (gN 3) adD))) cbB)) (abx (aag 1)))) [.lst (l.map fT)]=_
 have e1:adZ (afn (fSq (aag 0)) (gT 2 (aa6 (gN 2) (aa6 (gN 3) adD))) cbB) [.sh (.lst (l.map fT)),.sh (.int 1),.un,.un] = .ok (.nx,[.sh (.lst (l.map fT)),.sh (.int B),t2,t3]):=by
  unfold adZ afn
  show abS (acu _ cbB (l.map fT) _)=_
  rw [e]
  rfl
 generalize adZ _=G at e1 ⊢
 generalize Tr.lst (l.map fT)=T at e1 ⊢
 unfold fnP
 simp -dsimp [abS,frz,dow,abn,con,ac0,eB,bOf,tru,dr,drs,cls,clV,adA,g1,g2,gI,gIC,gB,gEq,gNe,gIn,aaT,ab5,acL,acK,acC,acw,gLt,gGt,gLe,gGe,gIx,abw,ady,abQ,aaU,adq,adX,acF,acV,okR,iOf,isS,others,acD,abT,acE,acW,ac8,aaC,aa7,aaM,aaQ,aaR,aaS,aaA,aaw,aaX,aa8,aa3,ac7,atI,ixN,aaz,e1]
noncomputable def tpE:EF:=(eOp ab5 (aag 0) (eOp acL (aag 2) (aag 1)))
theorem ajU {B:Int} {M N:Nat} (hB:1<=B) (hB2:B<2 ^ M) (hM:M<=8000) (hN:N<=8000):∀ (l:List (Int × Int)) (s0 s1:Sl),Fr N l->(∀ x ∈ l,x.1.natAbs<2 ^ N)->∃ t0 t1,afd (gT 2 (aa6 (gN 0) (aa6 (gN 1) adD))) aey tpE (l.map fT) [s0,s1,.sh (.int B)] = .ok (l.map λx => .int (x.1 * (B / x.2)),[t0,t1,.sh (.int B)])
 | [],s0,s1,_,_=>⟨s0,s1,rfl⟩
 | x :: l,s0,s1,h,h'=>by
  obtain ⟨a1,a2⟩:=h x (by simp)
  have a3:=h' x (by simp)
  obtain ⟨t0,t1,e⟩:=ajU hB hB2 hM hN l (.sh (.int x.1)) (.sh (.int x.2)) (λy hy=>h y (by simp [hy])) (λy hy=>h' y (by simp [hy]))
  refine ⟨t0,t1,?_⟩
  have eM:((2 ^ M:Nat):Int)=2 ^ M:=by push_cast; rfl
  have eN:((2 ^ N:Nat):Int)=2 ^ N:=by push_cast; rfl
  have d0:=Int.ediv_nonneg (a:=B) (b:=x.2) (by omega) (by omega)
  have d1:=Int.ediv_le_self (a:=B) x.2 (by omega)
  have c1:amt B x.2=true:=aeP (M:=N) (by omega) (by omega) hN
  have c2:ahT x.1 (B / x.2)=true:=afl (M:=N) (N:=M) a3 hN (by omega) hM
  have e1:tpE [.sh (.int x.1),.sh (.int x.2),.sh (.int B)] = .ok (.v (.int (x.1 * (B / x.2))) false,[.sh (.int x.1),.sh (.int x.2),.sh (.int B)]):=by
   unfold tpE
   have fe:B.fdiv x.2=B / x.2:=Int.fdiv_eq_ediv_of_nonneg _ (by omega)
   simp -dsimp [abS,frz,dow,abn,con,ac0,eB,bOf,tru,dr,drs,cls,clV,adA,g1,g2,gI,gIC,gB,gEq,gNe,gIn,aaT,ab5,acL,acK,acC,acw,gLt,gGt,gLe,gGe,gIx,abw,ady,abQ,aaU,adq,adX,acF,acV,okR,iOf,isS,others,acD,abT,acE,acW,ac8,aaC,aa7,aaM,aaQ,aaR,aaS,aaA,aaw,aaX,aa8,aa3,ac7,atI,ixN,aaz,c1,fe,c2]
  show afd _ aey tpE (fT x :: l.map fT) _=_
  unfold afd
  rw [show (gT 2 (aa6 (gN 0) (aa6 (gN 1) adD))) (fT x) [s0,s1,.sh (.int B)] = .ok [.sh (.int x.1),.sh (.int x.2),.sh (.int B)] from rfl]
  simp only [Rs.aa0,asR,if_true]
  rw [e1]
  simp only [Rs.aa0,clV]
  rw [e]
  rfl
noncomputable def Frs (N:Nat) (l:List (Int × Int)):Prop:=∀ x ∈ l,1<=x.2 /\ x.2<2 ^ N /\ x.1.natAbs<2 ^ N
theorem Frs.fr {N:Nat} {l:List (Int × Int)} (h:Frs N l):Fr N l:=λx hx=>⟨(h x hx).1,(h x hx).2.1⟩
theorem asW {N:Nat} (l:List (Int × Int)) (h:Frs N l) (hl:1 + N * l.length<=8000) (hN:N<=8000) (hl2:l.length<=1000):∃ B,abN [.lst (l.map fT)] = .ok (.lst (l.map λx => .int (x.1 * (B / x.2))),true) /\ 1<=B /\ ∀ x ∈ l,x.2∣B:=by
 obtain ⟨B,e,h1,h2,h3⟩:=agE l h.fr hl hN
 obtain ⟨t0,t1,e2⟩:=ajU h1 h2 hl hN l .un .un h.fr λx hx=>(h x hx).2.2
 refine ⟨B,?_,h1,h3⟩
 show fnP 2 (aaN (abj (aax ach (aad (aag 0) aar)) (gN 1)) (abx (acd [none,none,some 1] (fSq (aag 0)) (gT 2 (aa6 (gN 0) (aa6 (gN 1) adD))) aey tpE))) [.lst (l.map fT)]=_
 unfold fnP
 simp -dsimp [abS,frz,dow,abn,con,ac0,eB,bOf,tru,dr,drs,cls,clV,adA,g1,g2,gI,gIC,gB,gEq,gNe,gIn,aaT,ab5,acL,acK,acC,acw,gLt,gGt,gLe,gGe,gIx,abw,ady,abQ,aaU,adq,adX,acF,acV,okR,iOf,isS,others,acD,abT,acE,acW,ac8,aaC,aa7,aaM,aaQ,aaR,aaS,aaA,aaw,aaX,aa8,aa3,ac7,atI,ixN,aaz,e,e2,show l.length<=100000 by omega]
noncomputable def Bfr (l:List (Int × Int)) (i j:Nat):Prop:=(l.getD j (0,1)).1 * (l.getD i (0,1)).2<(l.getD i (0,1)).1 * (l.getD j (0,1)).2 \/ ((l.getD j (0,1)).1 * (l.getD i (0,1)).2=(l.getD i (0,1)).1 * (l.getD j (0,1)).2 /\ i<j)
noncomputable def Fall (l:List (Int × Int)) (ys:List Nat):Prop:=ys.Perm (List.range l.length) /\ ys.Pairwise (Bfr l)
theorem ama (ts:List Int):∀ (is:List Nat),(∀ i ∈ is,i<ts.length)->akE avc (rUn amu (rOp gIx (ap8 1) (ap8 0))) [some (.lst (ts.map Tr.int))] is = .ok (is.map λi=>(-(ts.getD i 0),0))
 | [],_=>rfl
 | i :: is,h=>by
  have hi:=h i (by simp)
  have e:(rUn amu (rOp gIx (ap8 1) (ap8 0))) [some (Tr.int i),some (.lst (ts.map Tr.int))] = .ok (.int (-(ts.getD i 0))):=by
   unfold rUn rOp ap8
   have a:atI (ts.map Tr.int) (i:Int)=some (.int (ts.getD i 0)):=by
    unfold atI ixN
    simp [hi]
   simp [gIx,a,amu]
  unfold akE
  rw [e,ama ts is λj hj=>h j (by simp [hj])]
  rfl
theorem top_lt {B p q r s:Int} (hB:1<=B) (hq:1<=q) (hs:1<=s) (dq:q∣B) (ds:s∣B):(p * (B / q)<r * (B / s)↔p * s<r * q) /\ (p * (B / q)=r * (B / s)↔p * s=r * q):=by
 obtain ⟨a,ha⟩:=dq
 obtain ⟨b,hb⟩:=ds
 have e1:B / q=a:=by rw [ha]; exact Int.mul_ediv_cancel_left _ (by omega)
 have e2:B / s=b:=by rw [hb]; exact Int.mul_ediv_cancel_left _ (by omega)
 rw [e1,e2]
 have x1:(p * a) * (q * s)=(p * s) * B:=by rw [ha]; ac_rfl
 have x2:(r * b) * (q * s)=(r * q) * B:=by rw [hb]; ac_rfl
 have qs:0<q * s:=Int.mul_pos (by omega) (by omega)
 constructor
 ·constructor
  ·intro h
   have:=Int.mul_lt_mul_of_pos_right h qs
   rw [x1,x2] at this
   exact Int.lt_of_mul_lt_mul_right this (by omega)
  ·intro h
   have:=Int.mul_lt_mul_of_pos_right h (show 0<B by omega)
   rw [<-x1,<-x2] at this
   exact Int.lt_of_mul_lt_mul_right this (by omega)
 ·constructor
  ·intro h
   rw [h,x2] at x1
   exact (Int.eq_of_mul_eq_mul_right (by omega) x1).symm
  ·intro h
   rw [h,<-x2] at x1
   exact Int.eq_of_mul_eq_mul_right (by omega) x1
theorem aiu {N:Nat} (l:List (Int × Int)) (h:Frs N l) (hl:1 + N * l.length<=8000) (hN:N<=8000) (h64:l.length<64):∃ ys,aaY [.lst (l.map fT)] = .ok (.lst (ys.map λi:Nat=>Tr.int i),true) /\ Fall l ys:=by
 obtain ⟨B,e,h1,h3⟩:=asW l h hl hN (by omega)
 have ek:=ama (l.map λx=>x.1 * (B / x.2)) (List.range l.length) λi hi=>by simpa using hi
 refine ⟨aod l.length λi=>((List.range l.length).map λi=>(-((l.map λx=>x.1 * (B / x.2)).getD i 0),(0:Int))).getD i (0,0),?_,?_⟩
 ·unfold aaY aer fnP
  have z1:(l.map λx=>Tr.int (x.1 * (B / x.2)))=(l.map λx=>x.1 * (B / x.2)).map Tr.int:=by rw [List.map_map]; rfl
  rw [z1] at e
  generalize hts:(l.map λx=>x.1 * (B / x.2))=ts at e ek ⊢
  have tl:ts.length=l.length:=by rw [<-hts,List.length_map]
  generalize Tr.lst (l.map fT)=T at e ⊢
  have q1:(l.length:Int)<64:=by omega
  simp -dsimp [abS,frz,dow,abn,con,ac0,eB,bOf,tru,dr,drs,cls,clV,adA,g1,g2,gI,gIC,gB,gEq,gNe,gIn,aaT,ab5,acL,acK,acC,acw,gLt,gGt,gLe,gGe,gIx,abw,ady,abQ,aaU,adq,adX,acF,acV,okR,iOf,isS,others,acD,abT,acE,acW,ac8,aaC,aa7,aaM,aaQ,aaR,aaS,aaA,aaw,aaX,aa8,aa3,ac7,atI,ixN,aaz,e,tl,q1,aog,slT,ek]
 ·have hs:=ajF l.length λi=>((List.range l.length).map λi=>(-((l.map λx=>x.1 * (B / x.2)).getD i 0),(0:Int))).getD i (0,0)
  refine ⟨hs.1,?_⟩
  refine hs.2.imp_of_mem λ{i j} hi hj hb=>?_
  have hi':i<l.length:=by simpa using hs.1.mem_iff.mp hi
  have hj':j<l.length:=by simpa using hs.1.mem_iff.mp hj
  have k:∀ i,i<l.length->((List.range l.length).map λi=>(-((l.map λx=>x.1 * (B / x.2)).getD i 0),(0:Int))).getD i (0,0)=(-(l[i]!.1 * (B / l[i]!.2)),0):=λi hi=>by
   rw [List.getD_eq_getElem?_getD,List.getElem?_map,List.getElem?_range hi]
   simp [hi]
  simp only [k i hi',k j hj'] at hb
  have g:∀ i,i<l.length->l.getD i (0,1)=l[i]! /\ l[i]! ∈ l:=λi hi=>by
   refine ⟨by simp [hi],by simp [hi]⟩
  obtain ⟨g1,m1⟩:=g i hi'
  obtain ⟨g2,m2⟩:=g j hj'
  unfold Bfr
  rw [g1,g2]
  have t:=top_lt (p:=l[j]!.1) (r:=l[i]!.1) h1 (h _ m2).1 (h _ m1).1 (h3 _ m2) (h3 _ m1)
  rw [<-t.1,<-t.2]
  omega
theorem ajV {T:Tr} (h:aje T=true):acB [T] = .ok (.non,false):=by
 unfold acB afe fnP
 simp -dsimp [abS,frz,dow,abn,con,ac0,eB,bOf,tru,dr,drs,cls,clV,adA,g1,g2,gI,gIC,gB,gEq,gNe,gIn,aaT,ab5,acL,acK,acC,acw,gLt,gGt,gLe,gGe,gIx,abw,ady,abQ,aaU,adq,adX,acF,acV,okR,iOf,isS,others,acD,abT,acE,acW,ac8,aaC,aa7,aaM,aaQ,aaR,aaS,aaA,aaw,aaX,aa8,aa3,ac7,atI,ixN,aaz,ait,h]
theorem acs {xs:List Tr} {i:Nat} {T:Tr} (h:xs[i]? = some T):gIx (.lst xs) (.int i) = .ok (T,false):=by
 obtain ⟨hi,e⟩:=List.getElem?_eq_some_iff.mp h
 show (match atI xs i with
  | some t=>Rs.ok (t,false)
  | none => .bad)=_
 have:atI xs (i:Int)=some T:=by
  unfold atI ixN
  simp [hi,e]
 rw [this]
end BH
namespace BH
open PySem L2
noncomputable def Wo (x:Int × Int):Prop:=0<=x.1 /\ x.1<=x.2 /\ 1<=x.2 /\ x.2<=1000000000000 /\ Int.gcd x.1 x.2=1
noncomputable instance (x:Int × Int):Decidable (Wo x):=by unfold Wo; infer_instance
noncomputable def aaP (l:List (Int × Int)):Tr := .lst (l.map fT)
noncomputable def bkT (ls:List (List (Int × Int))):Tr := .lst (ls.map aaP)
noncomputable def Shp (c:Nat) (ls:List (List (Int × Int))):Prop:=∀ l ∈ ls,l.length=c /\ ∀ x ∈ l,Wo x
noncomputable def Bk (c:Nat) (ls:List (List (Int × Int))):Prop:=1<=ls.length /\ ls.length<=4 /\ 1<=c /\ c<=12 /\ Shp c ls
theorem Wo.aiZ {x:Int × Int} (h:Wo x):aiZ (fT x)=true:=by
 obtain ⟨h1,h2,h3,h4,h5⟩:=h
 show (decide (0<=x.1) && decide (x.1<=x.2) && decide (1<=x.2) && (Int.gcd x.1 x.2 == 1))=true
 simp [h1,h2,h3,h5]
theorem Wo.frs {l:List (Int × Int)} (h:∀ x ∈ l,Wo x):Frs 40 l:=λx hx=>by
 obtain ⟨h1,h2,h3,h4,h5⟩:=h x hx
 exact ⟨h3,by omega,by omega⟩
theorem avH {l:List (Int × Int)} (h:∀ x ∈ l,Wo x) (h1:1<=l.length) (h2:l.length<=12):adU 12 (aaP l)=true:=by
 show (decide (1<=((l.map fT).length:Int)) && decide (((l.map fT).length:Int)<=12) && (l.map fT).all aiZ)=true
 rw [List.length_map,decide_eq_true (by omega),decide_eq_true (by omega)]
 simp only [Bool.true_and,List.all_eq_true]
 intro t ht
 obtain ⟨x,hx,rfl⟩:=List.mem_map.mp ht
 exact (h x hx).aiZ
theorem Bk.aje {c:Nat} {ls:List (List (Int × Int))} (h:Bk c ls):aje (bkT ls)=true:=by
 obtain ⟨h1,h2,h3,h4,h5⟩:=h
 show (decide (1<=((ls.map aaP).length:Int)) && decide (((ls.map aaP).length:Int)<=4) && (ls.map aaP).all (adU 12) && (ls.map aaP).all λr=>ais r == ais ((ls.map aaP).headD .non))=true
 rw [List.length_map,decide_eq_true (by omega),decide_eq_true (by omega)]
 simp only [Bool.true_and,Bool.and_eq_true,List.all_eq_true]
 refine ⟨λt ht=>?_,λt ht=>?_⟩
 ·obtain ⟨l,hl,rfl⟩:=List.mem_map.mp ht
  exact avH (h5 l hl).2 (by have:=(h5 l hl).1; omega) (by have:=(h5 l hl).1; omega)
 ·obtain ⟨l,hl,rfl⟩:=List.mem_map.mp ht
  cases ls with
  | nil=>simp at hl
  | cons l0 r =>
   show (ais (aaP l) == ais (aaP l0))=true
   show (((l.map fT).length:Int) == ((l0.map fT).length:Int))=true
   rw [List.length_map,List.length_map,(h5 l hl).1,(h5 l0 (by simp)).1]
   simp
end BH
end
section
namespace L2
open PySem
@[simp] theorem ayd (fa:EF) (ρ : En):azD fa ρ = bd (fa ρ) (λp=>bd (dr p.2 p.1) (λa=>bd (ayX a) (λz => .ok (.v z.1 z.2,p.2)) .mk) .mk) .mk:=rfl
end L2
namespace BH
open PySem L2
theorem aqr {α : Type} (xs:List α) (k:Nat):L2.cut xs (some (k:Int)) none=xs.drop k:=by
 unfold L2.cut HT.sIx
 by_cases h:(k:Int)<0
 ·omega
 ·simp only [h,if_false,Int.toNat_natCast]
  by_cases z:k<=xs.length
  ·rw [Nat.min_eq_left z]
   exact List.take_of_length_le (by simp)
  ·rw [Nat.min_eq_right (by omega),List.drop_eq_nil_of_le (by omega),List.drop_eq_nil_of_le (by omega)]
   simp
theorem aq8 {α : Type} (xs:List α) (k:Nat):L2.cut xs none (some (k:Int))=xs.take k:=by
 unfold L2.cut HT.sIx
 by_cases h:(k:Int)<0
 ·omega
 ·simp only [h,if_false,Int.toNat_natCast,Nat.sub_zero,List.drop_zero]
  by_cases z:k<=xs.length
  ·rw [Nat.min_eq_left z]
  ·rw [Nat.min_eq_right (by omega),List.take_of_length_le (by omega),List.take_of_length_le (by omega)]
noncomputable def nT (ys:List Nat):Tr := .lst (ys.map λi:Nat=>Tr.int i)
theorem aqs {T:Tr} (h:dep T<=40):gNe T T = .ok (.bl false,false):=by
 unfold gNe
 rw [if_pos ⟨h,h⟩,agN]
 rfl
theorem amb {T:Tr} (h:dep T<=40):gEq T T = .ok (.bl true,false):=by
 unfold gEq
 rw [if_pos ⟨h,h⟩,agN]
end BH
end
section
namespace BH
open PySem L2
theorem aq9 {l:List (Int × Int)} {i:Nat} (h:i<l.length):gIx (aaP l) (.int i) = .ok (fT (l.getD i (0,1)),false):=acs (by simp [h])
theorem aoC {α : Type} {r h : α -> Tr} {f:EF} {τ : En}:∀ (xs:List α) (s:Sl),(∀ x ∈ xs,∃ fr,f (.sh (r x) :: τ) = .ok (.v (h x) fr,.sh (r x) :: τ))->∃ s',afd (gN 0) aey f (xs.map r) (s :: τ) = .ok (xs.map h,s' :: τ)
 | [],s,_=>⟨s,rfl⟩
 | x :: xs,s,q=>by
  obtain ⟨fr,e⟩:=q x (by simp)
  obtain ⟨s',e'⟩:=aoC xs (.sh (r x)) λv hv=>q v (by simp [hv])
  refine ⟨s',?_⟩
  rw [List.map_cons]
  unfold afd
  simp [e,clV,e']
theorem ara {α : Type} {p : α -> Bool}:∀ xs:List α,aiF (xs.map λx => .bl (p x))=some (xs.map p)
 | []=>rfl
 | x :: xs=>by simp [aiF,ara xs]
theorem asY {α : Type} {r h : α -> Tr} {xs:List α} {ρ τ : En} {rest:List (Option Nat)} {i:IF} {fe:EF} (hl:xs.length<=100000) (hi:i ρ = .ok (xs.map r,ρ)) (hτ : acD rest ρ = τ) (hs:∀ s',acE (none :: rest) (s' :: τ) ρ = true) (hd:∀ s',abT (none :: rest) (s' :: τ) ρ = ρ)
  (hf:∀ x ∈ xs,∃ fr,fe (.sh (r x) :: τ) = .ok (.v (h x) fr,.sh (r x) :: τ)):acd (none :: rest) i (gN 0) aey fe ρ = .ok (.v (.lst (xs.map h)) true,ρ):=by
 obtain ⟨s',e⟩:=aoC xs .un hf
 have hu:acD (none :: rest) ρ = .un :: τ := by rw [<-hτ]; rfl
 have hl':(xs.map r).length<=100000:=by rw [List.length_map]; exact hl
 rw [aqm,hi]
 simp only [asL]
 rw [if_pos hl',hu,e]
 simp only [abS,asL]
 rw [if_pos (hs s'),hd s']
noncomputable def lt2 (x y:Int × Int):Bool:=decide (x.1 * y.2<y.1 * x.2)
noncomputable def at2 (l:List (Int × Int)) (i:Nat):Int × Int:=l.getD i (0,1)
theorem asZ (i j:Int):aaT (.int i) (.int j) = .ok (.int (i + j),false):=rfl
theorem ajW (n k:Int) (h:0<k):0<=n.fmod k /\ n.fmod k<k:=⟨Int.fmod_nonneg_of_pos n h,Int.fmod_lt_of_pos n h⟩
theorem avI {i:Int} (h : -1000000000000000000<i /\ i<1000000000000000000):tiny i=true:=by
 unfold tiny
 rw [Bool.and_eq_true]
 exact ⟨decide_eq_true (by omega),decide_eq_true (by omega)⟩
theorem aqt {i j:Int} (h : -1000000000000000000<i /\ i<1000000000000000000):ahT i j=true:=by unfold ahT; rw [avI h]; simp
theorem aye {i j:Int} (h : -1000000000000000000<j /\ j<1000000000000000000):ahT i j=true:=by unfold ahT; rw [avI h]; simp
theorem amc:∀ (n m:Nat),L2.upTo (m:Int) n=(List.range' m n).map λi:Nat=>Tr.int i
 | 0,_=>rfl
 | n + 1,m=>by
  unfold L2.upTo
  rw [show ((m:Int) + 1)=((m + 1:Nat):Int) by omega,amc n (m + 1),List.range'_succ]
  rfl
theorem agh (n:Nat):L2.upTo 0 n=(List.range n).map λi:Nat=>Tr.int i:=by
 rw [List.range_eq_range']
 exact amc n 0
end BH
end
section
namespace BH
open PySem L2
noncomputable def red (a b:Int):Int × Int:=(a / ((Int.gcd a b:Nat):Int),b / ((Int.gcd a b:Nat):Int))
noncomputable def Fq (M:Nat) (x:Int × Int):Prop:=0<=x.1 /\ x.1<2 ^ M /\ 1<=x.2 /\ x.2<2 ^ M /\ Int.gcd x.1 x.2=1
theorem aqu (M:Nat):((2 ^ M:Nat):Int)=2 ^ M:=by push_cast; rfl
theorem aoD {a b:Int} {M:Nat} (ha:0<=a) (ha2:a<2 ^ M) (hb:1<=b) (hb2:b<2 ^ M):Fq M (red a b):=by
 obtain ⟨g1,g2,g3,g4,g5,g6,g7⟩:=afu (a:=a) (b:=b) (by omega)
 have d1:=Int.ediv_le_self (a:=a) ((Int.gcd a b:Nat):Int) ha
 have d2:=Int.ediv_le_self (a:=b) ((Int.gcd a b:Nat):Int) (by omega)
 exact ⟨g5 ha,by unfold red; dsimp only; omega,g3,by unfold red; dsimp only; omega,g4⟩
noncomputable def le2 (x y:Int × Int):Prop:=x.1 * y.2<=y.1 * x.2
noncomputable def sumF (x y:Int × Int):Int × Int:=red (x.1 * y.2 + y.1 * x.2) (x.2 * y.2)
noncomputable def aqv (x y:Int × Int):Int × Int:=red (x.1 * y.1) (x.2 * y.2)
theorem ael {a b:Int} {M N:Nat} (ha:0<=a) (ha2:a<2 ^ M) (hb:0<=b) (hb2:b<2 ^ N):a * b<2 ^ (M + N):=by
 have p1:(0:Int)<2 ^ N:=Int.pow_pos (by omega)
 have q1:a * b<=a * 2 ^ N:=Int.mul_le_mul_of_nonneg_left (by omega) ha
 have q2:a * 2 ^ N<2 ^ M * 2 ^ N:=Int.mul_lt_mul_of_pos_right ha2 p1
 rw [Int.pow_add]
 omega
theorem agi {x y:Int × Int} {M N:Nat} (hx:Fq M x) (hy:Fq N y):Fq (M + N) (aqv x y) :=
 aoD (Int.mul_nonneg hx.1 hy.1) (ael hx.1 hx.2.1 hy.1 hy.2.1) (by have:=Int.mul_pos (a:=x.2) (b:=y.2) (by have:=hx.2.2.1; omega) (by have:=hy.2.2.1; omega); omega) (ael (by have:=hx.2.2.1; omega) hx.2.2.2.1 (by have:=hy.2.2.1; omega) hy.2.2.2.1)
theorem aoE {x y:Int × Int} {M N:Nat} (hx:Fq M x) (hy:Fq N y):Fq (M + N + 1) (sumF x y):=by
 obtain ⟨x1,x2,x3,x4,_⟩:=hx
 obtain ⟨y1,y2,y3,y4,_⟩:=hy
 have m1:=ael x1 x2 (by omega) y4
 have m2:=ael y1 y2 (by omega) x4
 have m3:=ael (by omega) x4 (by omega) y4
 rw [Nat.add_comm N M] at m2
 have p:=Int.mul_pos (a:=x.2) (b:=y.2) (by omega) (by omega)
 have n1:=Int.mul_nonneg x1 (show 0<=y.2 by omega)
 have n2:=Int.mul_nonneg y1 (show 0<=x.2 by omega)
 have e:(2:Int) ^ (M + N + 1)=2 ^ (M + N) * 2:=Int.pow_succ ..
 exact aoD (by omega) (by rw [e]; omega) (by omega) (by rw [e]; omega)
theorem ae8 {a b:Int} {M:Nat} (hb:1<=b) (hb2:b<2 ^ M) (hM:M<=8000):abX [.int a,.int b] = .ok (fT (red a b),false):=by
 obtain ⟨g1,g2,_⟩:=afu (a:=a) (b:=b) (by omega)
 have e1:a.fdiv (Int.gcd a b:Nat)=a / (Int.gcd a b:Nat):=Int.fdiv_eq_ediv_of_nonneg _ (by omega)
 have e2:b.fdiv (Int.gcd a b:Nat)=b / (Int.gcd a b:Nat):=Int.fdiv_eq_ediv_of_nonneg _ (by omega)
 have hs:=acP a b
 have np:=aqu M
 unfold abX afC fnP fT red
 generalize hg:((Int.gcd a b:Nat):Int)=g at *
 have h3:¬ b<0:=by omega
 have h4:(b == 0)=false:=by simp; omega
 have c1:∀ n,amt n g=true:=λn=>aeP (M:=M) (by omega) (by omega) hM
 simp -dsimp [abS,frz,dow,abn,con,ac0,eB,bOf,tru,dr,drs,cls,clV,adA,g1,g2,gI,gIC,gB,gEq,gNe,gIn,aaT,ab5,acL,acK,acC,acw,gLt,gGt,gLe,gGe,gIx,abw,ady,abQ,aaU,adq,adX,acF,acV,okR,iOf,isS,others,acD,abT,acE,acW,ac8,aaC,aa7,aaM,aaQ,aaR,aaS,aaA,aaw,aaX,aa8,aa3,ac7,atI,ixN,aaz,hs,h3,h4,c1,e1,e2]
theorem afO {x y:Int × Int} {M N:Nat} (hx:Fq M x) (hy:Fq N y) (hM:M + N<=8000):abE [fT x,fT y] = .ok (fT (aqv x y),false):=by
 have q:=agi hx hy
 obtain ⟨x1,x2,x3,x4,_⟩:=hx
 obtain ⟨y1,y2,y3,y4,_⟩:=hy
 have nM:=aqu M
 have nN:=aqu N
 have c1:ahT x.1 y.1=true:=afl (M:=M) (N:=N) (by omega) (by omega) (by omega) (by omega)
 have c2:ahT x.2 y.2=true:=afl (M:=M) (N:=N) (by omega) (by omega) (by omega) (by omega)
 have p:=Int.mul_pos (a:=x.2) (b:=y.2) (by omega) (by omega)
 have e:=ae8 (a:=x.1 * y.1) (b:=x.2 * y.2) (M:=M + N) (by omega) (ael (by omega) x4 (by omega) y4) hM
 unfold abE agr fnP
 show _=Rs.ok (fT (red (x.1 * y.1) (x.2 * y.2)),false)
 generalize fT (red (x.1 * y.1) (x.2 * y.2))=R at e ⊢
 unfold fT
 simp -dsimp [abS,frz,dow,abn,con,ac0,eB,bOf,tru,dr,drs,cls,clV,adA,g1,g2,gI,gIC,gB,gEq,gNe,gIn,aaT,ab5,acL,acK,acC,acw,gLt,gGt,gLe,gGe,gIx,abw,ady,abQ,aaU,adq,adX,acF,acV,okR,iOf,isS,others,acD,abT,acE,acW,ac8,aaC,aa7,aaM,aaQ,aaR,aaS,aaA,aaw,aaX,aa8,aa3,ac7,atI,ixN,aaz,c1,c2,e]
theorem akX {x y:Int × Int} {M N:Nat} (hx:Fq M x) (hy:Fq N y) (hM:M + N<=8000):ade [fT x,fT y] = .ok (fT (sumF x y),false):=by
 obtain ⟨x1,x2,x3,x4,_⟩:=hx
 obtain ⟨y1,y2,y3,y4,_⟩:=hy
 have nM:=aqu M
 have nN:=aqu N
 have c1:ahT x.1 y.2=true:=afl (M:=M) (N:=N) (by omega) (by omega) (by omega) (by omega)
 have c2:ahT y.1 x.2=true:=afl (M:=N) (N:=M) (by omega) (by omega) (by omega) (by omega)
 have c3:ahT x.2 y.2=true:=afl (M:=M) (N:=N) (by omega) (by omega) (by omega) (by omega)
 have p:=Int.mul_pos (a:=x.2) (b:=y.2) (by omega) (by omega)
 have e:=ae8 (a:=x.1 * y.2 + y.1 * x.2) (b:=x.2 * y.2) (M:=M + N) (by omega) (ael (by omega) x4 (by omega) y4) hM
 unfold ade ail fnP
 show _=Rs.ok (fT (red (x.1 * y.2 + y.1 * x.2) (x.2 * y.2)),false)
 generalize fT (red (x.1 * y.2 + y.1 * x.2) (x.2 * y.2))=R at e ⊢
 unfold fT
 simp -dsimp [abS,frz,dow,abn,con,ac0,eB,bOf,tru,dr,drs,cls,clV,adA,g1,g2,gI,gIC,gB,gEq,gNe,gIn,aaT,ab5,acL,acK,acC,acw,gLt,gGt,gLe,gGe,gIx,abw,ady,abQ,aaU,adq,adX,acF,acV,okR,iOf,isS,others,acD,abT,acE,acW,ac8,aaC,aa7,aaM,aaQ,aaR,aaS,aaA,aaw,aaX,aa8,aa3,ac7,atI,ixN,aaz,c1,c2,c3,e]
end BH
end
section
namespace BH
open PySem L2
noncomputable def shF (ps:List ((Int × Int) × (Int × Int))) (t:Int × Int):Int × Int:=ps.foldl (λt p=>sumF t (aqv p.1 p.2)) t
noncomputable def prF (xs:List (Int × Int)) (t:Int × Int):Int × Int:=xs.foldl aqv t
theorem arb:∀ (ps:List ((Int × Int) × (Int × Int))) (t:Int × Int) (M:Nat),Fq M t->(∀ p ∈ ps,Fq 45 p.1 /\ Fq 45 p.2)->Fq (M + 91 * ps.length) (shF ps t)
 | [],t,M,h,_=>h
 | p :: ps,t,M,h,hp=>by
  have h1:=agi (hp p (by simp)).1 (hp p (by simp)).2
  have h2:=aoE h h1
  have:=arb ps _ _ h2 λq hq=>hp q (by simp [hq])
  rw [show M + 91 * (p :: ps).length=M + (45 + 45) + 1 + 91 * ps.length by rw [List.length_cons]; omega]
  exact this
theorem ard:∀ (ps:List (Int × Int)) (t:Int × Int) (M:Nat),Fq M t->(∀ p ∈ ps,Fq 45 p)->Fq (M + 45 * ps.length) (prF ps t)
 | [],t,M,h,_=>h
 | p :: ps,t,M,h,hp=>by
  have h2:=agi h (hp p (by simp))
  have:=ard ps _ _ h2 λq hq=>hp q (by simp [hq])
  rw [show M + 45 * (p :: ps).length=M + 45 + 45 * ps.length by rw [List.length_cons]; omega]
  exact this
theorem Wo.fq {x:Int × Int} (h:Wo x):Fq 45 x:=by
 obtain ⟨h1,h2,h3,h4,h5⟩:=h
 exact ⟨h1,by omega,h3,by omega,h5⟩
noncomputable def ShB (B:SF):Prop:=∀ (t w x:Int × Int) (M:Nat) (s0 s1:Sl) (τ : En),Fq M t->Fq 45 w->Fq 45 x->M + 90<=8000->B (s0 :: s1 :: .sh (fT t) :: .sh (fT w) :: .sh (fT x) :: τ) = .ok (.nx,s0 :: s1 :: .sh (fT (sumF t (aqv w x))) :: .sh (fT w) :: .sh (fT x) :: τ)
theorem aoF {B:SF} (hB:ShB B) (s0 s1:Sl) (τ : En):∀ (ps:List ((Int × Int) × (Int × Int))) (t:Int × Int) (M:Nat) (s3 s4:Sl),Fq M t->(∀ p ∈ ps,Fq 45 p.1 /\ Fq 45 p.2)->M + 91 * ps.length<=8000 ->
  ∃ t3 t4,acu (gT 2 (aa6 (gN 3) (aa6 (gN 4) adD))) B (ps.map λp=>Tr.tup [fT p.1,fT p.2]) (s0 :: s1 :: .sh (fT t) :: s3 :: s4 :: τ) = .ok (.nx,s0 :: s1 :: .sh (fT (shF ps t)) :: t3 :: t4 :: τ)
 | [],t,M,s3,s4,_,_,_=>⟨s3,s4,rfl⟩
 | p :: ps,t,M,s3,s4,h,hp,hl=>by
  rw [List.length_cons] at hl
  have h1:=agi (hp p (by simp)).1 (hp p (by simp)).2
  have h2:=aoE h h1
  have e:=hB t p.1 p.2 M s0 s1 τ h (hp p (by simp)).1 (hp p (by simp)).2 (by omega)
  obtain ⟨t3,t4,e'⟩:=aoF hB s0 s1 τ ps _ _ (.sh (fT p.1)) (.sh (fT p.2)) h2 (λq hq=>hp q (by simp [hq])) (by omega)
  refine ⟨t3,t4,?_⟩
  rw [List.map_cons]
  unfold acu
  rw [show (gT 2 (aa6 (gN 3) (aa6 (gN 4) adD))) (Tr.tup [fT p.1,fT p.2]) (s0 :: s1 :: .sh (fT t) :: s3 :: s4 :: τ) = .ok (s0 :: s1 :: .sh (fT t) :: .sh (fT p.1) :: .sh (fT p.2) :: τ) from rfl]
  simp only [Rs.aa0]
  rw [e]
  exact e'
theorem avJ (ws xs:List (Int × Int)):aq0 (ws.map fT) (xs.map fT)=(ws.zip xs).map λp=>Tr.tup [fT p.1,fT p.2]:=by
 unfold aq0
 rw [List.zip_map,List.map_map]
 rfl
noncomputable def swB:SF:=(abj (aax ade (aad (aag 2) (aad (aax abE (aad (aag 3) (aad (aag 4) aar))) aar))) (gN 2))
theorem avK:ShB swB:=λt w x M s0 s1 τ ht hw hx hM=>by
 have e1:=afO hw hx (by omega)
 have e2:=akX ht (agi hw hx) (by omega)
 generalize fT (sumF t (aqv w x))=R at e2 ⊢
 generalize fT (aqv w x)=P at e1 e2
 generalize fT t=T at *
 generalize fT w=W at *
 generalize fT x=Y at *
 unfold swB
 simp -dsimp [drs,dr,isS,e1,e2]
theorem aze:Fq 1 (0,1):=by unfold Fq; decide
theorem azf:Fq 1 (1,1):=by unfold Fq; decide
theorem arf {ws xs:List (Int × Int)} (hw:∀ w ∈ ws,Fq 45 w) (hx:∀ x ∈ xs,Fq 45 x):∀ p ∈ ws.zip xs,Fq 45 p.1 /\ Fq 45 p.2:=λp hp=>⟨hw _ (List.of_mem_zip hp).1,hx _ (List.of_mem_zip hp).2⟩
theorem ahG {ws xs:List (Int × Int)} (hw:∀ w ∈ ws,Fq 45 w) (hx:∀ x ∈ xs,Fq 45 x) (hl:xs.length<=12):acQ [aaP ws,aaP xs] = .ok (fT (shF (ws.zip xs) (0,1)),false):=by
 have hz:(ws.zip xs).length<=12:=by rw [List.length_zip]; omega
 obtain ⟨t3,t4,e⟩:=aoF avK (.sh (aaP ws)) (.sh (aaP xs)) [] (ws.zip xs) (0,1) 1 .un .un aze (arf hw hx) (by omega)
 rw [<-avJ] at e
 have e1:adZ (afn (au6 (aad (aag 0) (aad (aag 1) aar))) (gT 2 (aa6 (gN 3) (aa6 (gN 4) adD))) swB) [.sh (aaP ws),.sh (aaP xs),.sh (fT (0,1)),.un,.un] = .ok (.nx,[.sh (aaP ws),.sh (aaP xs),.sh (fT (shF (ws.zip xs) (0,1))),t3,t4]):=by
  show abS (acu _ swB (aq0 (ws.map fT) (xs.map fT)) _)=_
  rw [e]
  rfl
 show fnP 5 (aaN (abj (eC (.tup [.int 0,.int 1])) (gN 2)) (aaN (adZ (afn (au6 (aad (aag 0) (aad (aag 1) aar))) (gT 2 (aa6 (gN 3) (aa6 (gN 4) adD))) swB)) (abx (aag 2)))) [aaP ws,aaP xs]=_
 have e0:Tr.tup [.int 0,.int 1]=fT (0,1):=rfl
 rw [e0]
 generalize adZ _=G at e1 ⊢
 generalize fT (shF (ws.zip xs) (0,1))=R at *
 generalize fT (0,1)=Z at *
 generalize aaP ws=W at *
 generalize aaP xs=Y at *
 unfold fnP
 simp -dsimp [aaz,e1]
noncomputable def pwB:SF:=(abj (aax abE (aad (aag 1) (aad (aag 2) aar))) (gN 1))
theorem aoG (s0:Sl):∀ (xs:List (Int × Int)) (t:Int × Int) (M:Nat) (s2:Sl),Fq M t->(∀ p ∈ xs,Fq 45 p)->M + 45 * xs.length<=8000 ->
  ∃ t2,acu (gN 2) pwB (xs.map fT) [s0,.sh (fT t),s2] = .ok (.nx,[s0,.sh (fT (prF xs t)),t2])
 | [],t,M,s2,_,_,_=>⟨s2,rfl⟩
 | x :: xs,t,M,s2,h,hp,hl=>by
  rw [List.length_cons] at hl
  have e:=afO h (hp x (by simp)) (by omega)
  obtain ⟨t2,e'⟩:=aoG s0 xs _ _ (.sh (fT x)) (agi h (hp x (by simp))) (λq hq=>hp q (by simp [hq])) (by omega)
  refine ⟨t2,?_⟩
  have e1:pwB [s0,.sh (fT t),.sh (fT x)] = .ok (.nx,[s0,.sh (fT (aqv t x)),.sh (fT x)]):=by
   generalize fT (aqv t x)=R at e ⊢
   generalize fT t=T at *
   generalize fT x=Y at *
   unfold pwB
   simp -dsimp [drs,dr,isS,e]
  rw [List.map_cons]
  unfold acu
  rw [show gN 2 (fT x) [s0,.sh (fT t),s2] = .ok [s0,.sh (fT t),.sh (fT x)] from rfl]
  simp only [Rs.aa0]
  rw [e1]
  exact e'
theorem agF {xs:List (Int × Int)} (hx:∀ x ∈ xs,Fq 45 x) (hl:xs.length<=12):acJ [aaP xs] = .ok (fT (prF xs (1,1)),false):=by
 obtain ⟨t2,e⟩:=aoG (.sh (aaP xs)) xs (1,1) 1 .un azf hx (by omega)
 have e1:adZ (afn (fSq (aag 0)) (gN 2) pwB) [.sh (aaP xs),.sh (fT (1,1)),.un] = .ok (.nx,[.sh (aaP xs),.sh (fT (prF xs (1,1))),t2]):=by
  show abS (acu _ pwB (xs.map fT) _)=_
  rw [e]
  rfl
 show fnP 3 (aaN (abj (eC (.tup [.int 1,.int 1])) (gN 1)) (aaN (adZ (afn (fSq (aag 0)) (gN 2) pwB)) (abx (aag 1)))) [aaP xs]=_
 have e0:Tr.tup [.int 1,.int 1]=fT (1,1):=rfl
 rw [e0]
 generalize adZ _=G at e1 ⊢
 generalize fT (prF xs (1,1))=R at *
 generalize fT (1,1)=Z at *
 generalize aaP xs=Y at *
 unfold fnP
 simp -dsimp [aaz,e1]
noncomputable def Dsc (xs zs:List (Int × Int)):Prop:=zs.Perm xs /\ zs.Pairwise λa b=>le2 b a
theorem ah3 (xs:List (Int × Int)):(List.range xs.length).map (λi=>xs.getD i (0,1))=xs:=by
 apply List.ext_getElem
 ·simp
 ·intro i h1 h2
  simp [List.getD_eq_getElem?_getD,h2]
theorem Fall.dsc {xs:List (Int × Int)} {ys:List Nat} (h:Fall xs ys):Dsc xs (ys.map λi=>xs.getD i (0,1)):=by
 refine ⟨?_,?_⟩
 ·have:=h.1.map λi=>xs.getD i (0,1)
  rw [ah3] at this
  exact this
 ·rw [List.pairwise_map]
  refine h.2.imp λ{i j} hb=>?_
  unfold Bfr at hb
  unfold le2
  omega
noncomputable def ov (t x:Int × Int):Bool:=lt2 t x
end BH
end
section
namespace BH
open PySem L2
inductive Ru where
 | sh (ws:List (Int × Int)) | mid (k:Nat) | least | greatest | product
noncomputable def ruT:Ru->Tr
 | .sh ws => .tup [.str "shares",aaP ws]
 | .mid k => .tup [.str "middle",.int k]
 | .least => .tup [.str "least"]
 | .greatest => .tup [.str "greatest"]
 | .product => .tup [.str "product"]
noncomputable def aoH (n:Nat):Ru->Prop
 | .sh ws=>ws.length=n /\ ∀ w ∈ ws,Fq 45 w
 | .mid k=>1<=k /\ k<=n
 | _=>True
theorem sEq (a:Str):gEq (.str a) (.str a) = .ok (.bl true,false):=amb (T := .str a) (by rw [aaM]; omega)
theorem sNe {a b:Str} (h:(a == b)=false):gEq (.str a) (.str b) = .ok (.bl false,false):=by
 unfold gEq
 rw [if_pos ⟨by rw [aaM]; omega,by rw [aaM]; omega⟩,aa3,h]
theorem azU {α : Type} {r : α -> Tr} {xs:List α} {ρ τ : En} {rest:List (Option Nat)} {i:IF} {fe:EF} (hl:xs.length<=100000) (hi:i ρ = .ok (xs.map r,ρ)) (hτ : acD rest ρ = τ) (hs:∀ s',acE (none :: rest) (s' :: τ) ρ = true) (hd:∀ s',abT (none :: rest) (s' :: τ) ρ = ρ)
  (hf:∀ x ∈ xs,∃ fr,fe (.sh (r x) :: τ) = .ok (.v (.bl true) fr,.sh (r x) :: τ)):eCB (g1 acF) (aad (acd (none :: rest) i (gN 0) aey fe) aar) ρ = .ok (.v (.bl true) false,ρ):=by
 have e:=asY (h:=λx => .bl ((λ_ : α => true) x)) hl hi hτ hs hd hf
 have eg:acF (.lst (xs.map λx => .bl ((λ_ : α => true) x))) = .ok (.bl true,false):=by
  unfold acF
  simp only [ara]
  rw [show (xs.map λ_=>true).all id=true by simp]
 generalize acd _ _ _ _ _=G at e ⊢
 generalize Tr.lst (xs.map λx => .bl ((λ_ : α => true) x))=T at e eg
 simp [e,eg,drs,dr,g1]
theorem Fq.ant {M:Nat} {x:Int × Int} (h:Fq M x):ant (fT x)=true:=by
 show (decide (1<=x.2) && (Int.gcd x.1 x.2 == 1))=true
 simp [h.2.2.1,h.2.2.2.2]
noncomputable def awE:EF:=(an0 (aax abF (aad (aag 0) aar)) (eOp gGe (eOp gIx (aag 0) (eC (.int 0))) (eC (.int 0))))
theorem ah4 {ws:List (Int × Int)} (hw:∀ w ∈ ws,Fq 45 w) (hl:ws.length<=12):ac9 [aaP ws,.int ws.length] = .ok (.bl true,false):=by
 have e1:=azU (r:=fT) (xs:=ws) (ρ := [.sh (aaP ws),.sh (.int ws.length)]) (rest := []) (i:=fSq (aag 0)) (fe:=awE) (by omega) rfl rfl (λs'=>rfl) (λs'=>rfl) (λw hw'=>⟨false,by
  have h:=hw w hw'
  have e:=abJ (fT w)
  rw [h.ant] at e
  have h0:=h.1
  unfold awE
  dsimp only [acD,List.map]
  have g0:gIx (fT w) (.int 0) = .ok (.int w.1,false):=rfl
  generalize fT w=T at *
  simp -dsimp [drs,dr,isS,e,bOf,g0,gGe,gB,h0]⟩)
 have el:abw (aaP ws) = .ok (.int (ws.length:Int),false):=by
  show Rs.ok (Tr.int ((ws.map fT).length:Int),false)=_
  rw [List.length_map]
 have ei:anq .list (aag 0) [.sh (aaP ws),.sh (.int ws.length)] = .ok (.v (.bl true) false,[.sh (aaP ws),.sh (.int ws.length)]):=by
  simp [aaP,ac7,dr,eB]
 have en:=aqs (T := .int (ws.length:Int)) (by rw [aaC]; omega)
 show fnP 2 (aaN (sIf (bOr (ajc (ahd (anq .list (aag 0)))) (abv (eOp gNe (eCB (g1 abw) (aad (aag 0) aar)) (aag 1)))) (abx (eC (.bl false))) adz) (abx (eCB (g1 acF) (aad (acd [none] (fSq (aag 0)) (gN 0) aey awE) aar)))) [aaP ws,.int ws.length]=_
 generalize eCB (g1 acF) _=G at e1 ⊢
 generalize anq _ _=G2 at ei ⊢
 generalize aaP ws=T at *
 generalize (ws.length:Int)=N at *
 unfold fnP
 simp -dsimp [aaz,e1,ei,dr,drs,g1,el,en,bOf,tru]
theorem as3 {T:Tr} (h:T = .tup [.str "least"]∨T = .tup [.str "greatest"]∨T = .tup [.str "product"]):gIn id T (.tup [(.tup [(.str "least")]),(.tup [(.str "greatest")]),(.tup [(.str "product")])]) = .ok (.bl true,false):=by
 rcases h with rfl | rfl | rfl <;> kernel_rfl
theorem amK {r:Ru} {n:Nat} (h:aoH n r) (hn:n<=12):abZ [ruT r,.int n] = .ok (.bl true,false):=by
 have bare:∀ T:Tr,(T = .tup [.str "least"]∨T = .tup [.str "greatest"]∨T = .tup [.str "product"])→abZ [T,.int n] = .ok (.bl true,false):=λT hT=>by
  have e:=as3 hT
  have e1:ac7 T .tuple=true:=by rcases hT with rfl | rfl | rfl <;> rfl
  have e2:abw T = .ok (.int 1,false):=by rcases hT with rfl | rfl | rfl <;> rfl
  have e3:gNe (.int 1) (.int 2) = .ok (.bl true,false):=rfl
  unfold abZ aeE fnP
  simp -dsimp [aaz,eB,e1,e2,e3,e,dr,drs,g1,bOf,tru]
 cases r with
 | least=>exact bare _ (.inl rfl)
 | greatest=>exact bare _ (.inr (.inl rfl))
 | product=>exact bare _ (.inr (.inr rfl))
 | sh ws =>
  obtain ⟨h1,h2⟩:=h
  subst h1
  have e:=ah4 h2 hn
  have e2:∀ N:Tr,abw (.tup [.str "shares",N]) = .ok (.int 2,false):=λ_=>rfl
  have e3:gNe (.int 2) (.int 2) = .ok (.bl false,false):=rfl
  have e4:=sEq "shares"
  show fnP 4 aeE [.tup [.str "shares",aaP ws],.int ws.length]=_
  unfold aeE fnP
  generalize aaP ws=T at *
  simp -dsimp [aaz,eB,ac7,e2,e3,e4,e,isS,dr,drs,g1,bOf,tru]
 | mid k =>
  obtain ⟨h1,h2⟩:=h
  have e2:∀ N:Tr,abw (.tup [.str "middle",N]) = .ok (.int 2,false):=λ_=>rfl
  have e3:gNe (.int 2) (.int 2) = .ok (.bl false,false):=rfl
  have e4:gEq (.str "middle") (.str "shares") = .ok (.bl false,false):=sNe (by decide +kernel)
  have e5:=sEq "middle"
  have e6:=afk (.int k)
  have q1:(1:Int)<=k:=by omega
  have q2:(k:Int)<=n:=by omega
  unfold abZ aeE fnP ruT
  simp -dsimp [aaz,eB,ac7,e2,e3,e4,e5,e6,isW,isS,dr,drs,g1,bOf,tru,gLe,gB,q1,q2]
noncomputable def plc (n:Nat):Ru->Nat
 | .mid k=>k
 | .least=>n
 | .greatest=>1
 | _=>0
noncomputable def Wv (r:Ru) (xs:List (Int × Int)) (v:Int × Int):Prop:=match r with
 | .sh ws=>v=shF (ws.zip xs) (0,1)
 | .product=>v=prF xs (1,1)
 | r=>∃ zs,Dsc xs zs /\ zs[plc xs.length r - 1]? = some v
noncomputable def placed:Ru->Bool
 | .mid _=>true
 | .least=>true
 | .greatest=>true
 | _=>false
theorem aoI (r:Ru):∃ w:Str,gIx (ruT r) (.int 0) = .ok (.str w,false)∧gEq (.str w) (.str "shares") = .ok (.bl (match r with | .sh _=>true | _=>false),false)∧gEq (.str w) (.str "product") = .ok (.bl (match r with | .product=>true | _=>false),false) ∧
  gEq (.str w) (.str "greatest") = .ok (.bl (match r with | .greatest=>true | _=>false),false)∧gEq (.str w) (.str "least") = .ok (.bl (match r with | .least=>true | _=>false),false)∧gEq (.str w) (.str "middle") = .ok (.bl (match r with | .mid _=>true | _=>false),false):=by
 cases r with
 | sh ws=>exact ⟨"shares",rfl,sEq _,sNe (by decide +kernel),sNe (by decide +kernel),sNe (by decide +kernel),sNe (by decide +kernel)⟩
 | mid k=>exact ⟨"middle",rfl,sNe (by decide +kernel),sNe (by decide +kernel),sNe (by decide +kernel),sNe (by decide +kernel),sEq _⟩
 | least=>exact ⟨"least",rfl,sNe (by decide +kernel),sNe (by decide +kernel),sNe (by decide +kernel),sEq _,sNe (by decide +kernel)⟩
 | greatest=>exact ⟨"greatest",rfl,sNe (by decide +kernel),sNe (by decide +kernel),sEq _,sNe (by decide +kernel),sNe (by decide +kernel)⟩
 | product=>exact ⟨"product",rfl,sNe (by decide +kernel),sEq _,sNe (by decide +kernel),sNe (by decide +kernel),sNe (by decide +kernel)⟩
theorem akY {r:Ru} {n:Nat} (h:placed r=true):acO [ruT r,.int n] = .ok (.int (plc n r:Nat),false):=by
 obtain ⟨w,e1,_,_,e2,e3,_⟩:=aoI r
 cases r with
 | sh ws=>cases h
 | product=>cases h
 | least =>
  unfold acO aeS fnP plc
  generalize ruT .least=T at *
  simp -dsimp [aaz,dr,e1,e2,e3,bOf]
 | greatest =>
  unfold acO aeS fnP plc
  generalize ruT .greatest=T at *
  simp -dsimp [aaz,dr,e1,e2,e3,bOf]
 | mid k =>
  have e4:gIx (ruT (.mid k)) (.int 1) = .ok (.int k,false):=rfl
  unfold acO aeS fnP plc
  generalize ruT (.mid k)=T at *
  simp -dsimp [aaz,dr,e1,e2,e3,e4,bOf]
theorem as4 {r:Ru} {n:Nat} (h:placed r=true) (ho:aoH n r) (hn:1<=n):1<=plc n r /\ plc n r<=n:=by
 cases r with
 | sh ws=>cases h
 | product=>cases h
 | least=>exact ⟨hn,Nat.le_refl _⟩
 | greatest=>exact ⟨Nat.le_refl _,hn⟩
 | mid k=>exact ho
theorem akZ {r:Ru} {xs:List (Int × Int)} (hx:∀ x ∈ xs,Wo x) (h1:1<=xs.length) (h2:xs.length<=12) (ho:aoH xs.length r):∃ v,abR [ruT r,aaP xs] = .ok (fT v,false) /\ Wv r xs v:=by
 have hq:∀ x ∈ xs,Fq 45 x:=λx m=>(hx x m).fq
 obtain ⟨w,e1,e2,e3,_⟩:=aoI r
 have pl:placed r=true->∃ v,abR [ruT r,aaP xs] = .ok (fT v,false) /\ ∃ zs,Dsc xs zs /\ zs[plc xs.length r - 1]? = some v:=λhp=>by
  obtain ⟨ys,ef,hf⟩:=aiu (N:=40) xs (Wo.frs hx) (by omega) (by omega) (by omega)
  have pr:=as4 hp ho h1
  have ep:=akY (n:=xs.length) hp
  have ly:ys.length=xs.length:=by have:=hf.1.length_eq; simpa using this
  obtain ⟨i,hi⟩:∃ i,ys[plc xs.length r - 1]? = some i:=⟨_,List.getElem?_eq_getElem (by omega)⟩
  have il:i<xs.length:=by simpa using hf.1.mem_iff.mp (List.mem_of_getElem? hi)
  refine ⟨xs.getD i (0,1),?_,_,hf.dsc,by rw [List.getElem?_map,hi]; rfl⟩
  have gg1:gIx (.lst (ys.map λi:Nat=>Tr.int i)) (.int ((plc xs.length r - 1:Nat):Int)) = .ok (.int (i:Int),false):=acs (by rw [List.getElem?_map,hi]; rfl)
  have g2:=aq9 il
  have el:abw (aaP xs) = .ok (.int (xs.length:Int),false):=by
   show Rs.ok (Tr.int ((xs.map fT).length:Int),false)=_
   rw [List.length_map]
  have sub:((plc xs.length r:Nat):Int) - 1=((plc xs.length r - 1:Nat):Int):=by omega
  have ef':aaY [aaP xs] = .ok (.lst (ys.map λi:Nat=>Tr.int i),true):=ef
  have e2:gEq (.str w) (.str "shares") = .ok (.bl false,false):=by cases r <;> first | exact e2 | cases hp
  have e3:gEq (.str w) (.str "product") = .ok (.bl false,false):=by cases r <;> first | exact e3 | cases hp
  unfold abR aeT fnP
  generalize fT (xs.getD i (0,1))=R at *
  generalize Tr.lst (ys.map λi:Nat=>Tr.int i)=Y at *
  generalize ruT r=T at *
  generalize aaP xs=X at *
  rw [<-sub] at gg1
  simp -dsimp [aaz,dr,drs,isS,e1,e2,e3,bOf,ef',el,ep,g1,acw,gI,gg1,g2]
 cases r with
 | sh ws =>
  have es:=ahG ho.2 hq h2
  refine ⟨_,?_,rfl⟩
  have e4:gIx (ruT (.sh ws)) (.int 1) = .ok (aaP ws,false):=rfl
  unfold abR aeT fnP
  generalize ruT (.sh ws)=T at *
  generalize fT (shF (ws.zip xs) (0,1))=R at *
  generalize aaP ws=W at *
  generalize aaP xs=X at *
  simp -dsimp [aaz,dr,drs,isS,e1,e2,bOf,e4,es]
 | product =>
  have es:=agF hq h2
  refine ⟨_,?_,rfl⟩
  unfold abR aeT fnP
  generalize ruT .product=T at *
  generalize fT (prF xs (1,1))=R at *
  generalize aaP xs=X at *
  simp -dsimp [aaz,dr,drs,isS,e1,e2,e3,bOf,es]
 | least=>exact pl rfl
 | greatest=>exact pl rfl
 | mid k=>exact pl rfl
theorem Fq.up {M N:Nat} {x:Int × Int} (h:Fq M x) (hl:M<=N):Fq N x:=by
 obtain ⟨h1,h2,h3,h4,h5⟩:=h
 have:(2:Int) ^ M<=2 ^ N:=by
  have:=Nat.pow_le_pow_right (n:=2) (by omega) hl
  have a:=aqu M
  have b:=aqu N
  omega
 exact ⟨h1,by omega,h3,by omega,h5⟩
theorem Wv.fq {r:Ru} {xs:List (Int × Int)} {v:Int × Int} (hx:∀ x ∈ xs,Wo x) (hl:xs.length<=4) (ho:aoH xs.length r) (a:Wv r xs v):Fq 400 v:=by
 have hq:∀ x ∈ xs,Fq 45 x:=λx m=>(hx x m).fq
 have pl:(∃ zs,Dsc xs zs /\ zs[plc xs.length r - 1]? = some v)->Fq 400 v:=λ⟨z,d,e⟩=>(hq v (d.1.mem_iff.mp (List.mem_of_getElem? e))).up (by omega)
 cases r with
 | sh ws =>
  have a:v=shF (ws.zip xs) (0,1):=a
  rw [a]
  exact (arb _ _ 1 aze (arf ho.2 hq)).up (by rw [List.length_zip]; omega)
 | product =>
  have a:v=prF xs (1,1):=a
  rw [a]
  exact (ard _ _ 1 azf hq).up (by omega)
 | least=>exact pl a
 | greatest=>exact pl a
 | mid k=>exact pl a
end BH
end
section
namespace L2
open PySem
@[simp] theorem ayf (d:Str) (fa:EF) (ρ : En):aki d fa ρ = bd (fa ρ) (λp=>bd (dr p.2 p.1) (λa=>match isc a d with
 | some b => .ok (eB b,p.2)
 | none => .bad) .mk) .mk:=rfl
@[simp] theorem ayg (fa:EF) (ρ : En):axG fa ρ = bd (fa ρ) (λp=>bd (dr p.2 p.1) (λa=>match isv a with
 | some b => .ok (eB b,p.2)
 | none => .bad) .mk) .mk:=rfl
@[simp] theorem avL (c:Str) (f:EF) (ρ : En):aif c f ρ = bd (f ρ) (λ_ => .ex c) .mk:=rfl
theorem as5 {cs:List Str} {j:Nat} {fb fh:SF} {ρ : En} {q:Fl × En} (h:fb ρ = .ok q):ape cs j fb fh ρ = .ok q:=by
 unfold ape
 rw [h]
theorem as6 {cs:List Str} {j:Nat} {fb fh:SF} {ρ : En} {c:Str} (h:fb ρ = .ex c) (hc:c ∈ cs):ape cs j fb fh ρ = bd (abS (fh (ρ.set j (.sh (.exn c))))) (λq => .ok (q.1,q.2.set j .un)) .mk:=by
 unfold ape
 rw [h]
 exact if_pos hc
end L2
namespace BH
open PySem L2
theorem ajX {T:Tr} (h:aje T=false):acB [T] = .ex "NoBook" := by
 have e:=ait T
 rw [h] at e
 unfold acB afe fnP
 simp -dsimp [aaz,drs,dr,isS,e,tru]
end BH
end
section
namespace BH
open PySem L2
theorem aoJ {rs:List Tr} {r:Tr} (m:r ∈ rs) (h:adU 12 r=false):aje (.lst rs)=false:=by
 have:rs.all (adU 12)=false:=by
  cases e:rs.all (adU 12) with
  | false=>rfl
  | true=>rw [List.all_eq_true.mp e r m] at h; cases h
 show (decide (1<=(rs.length:Int)) && decide ((rs.length:Int)<=4) && rs.all (adU 12) && rs.all λr=>ais r == ais (rs.headD .non))=false
 rw [this,Bool.and_false,Bool.false_and]
theorem avM {ts:List Tr} {t:Tr} {k:Int} (m:t ∈ ts) (h:aiZ t=false):adU k (.lst ts)=false:=by
 have:ts.all aiZ=false:=by
  cases e:ts.all aiZ with
  | false=>rfl
  | true=>rw [List.all_eq_true.mp e t m] at h; cases h
 show (decide (1<=(ts.length:Int)) && decide ((ts.length:Int)<=k) && ts.all aiZ)=false
 rw [this,Bool.and_false]
theorem avN {rs:List Tr} (h:4<rs.length):aje (.lst rs)=false:=by
 show (decide (1<=(rs.length:Int)) && decide ((rs.length:Int)<=4) && rs.all (adU 12) && rs.all λr=>ais r == ais (rs.headD .non))=false
 rw [decide_eq_false (p:=(rs.length:Int)<=4) (by omega)]
 simp
theorem as7 {ts:List Tr} (h:12<ts.length):adU 12 (.lst ts)=false:=by
 show (decide (1<=(ts.length:Int)) && decide ((ts.length:Int)<=12) && ts.all aiZ)=false
 rw [decide_eq_false (p:=(ts.length:Int)<=12) (by omega)]
 simp
theorem as8 {α : Type} (n:Nat) (l:List α):(List.replicate n l).flatten.length=n * l.length:=by
 rw [List.length_flatten,List.map_replicate,List.sum_replicate_nat]
theorem aoK {α : Type} {l:List α} {n:Nat} (h:1<=l.length):((List.replicate n l).flatten.take n).length=n:=by
 rw [List.length_take,as8]
 exact Nat.min_eq_left (Nat.le_mul_of_pos_right n h)
theorem ahH (L:List Tr) (k:Nat):gSl none (some (k:Int)) (.lst L) = .ok (.lst (L.take k),true):=by
 show Rs.ok (Tr.lst (L2.cut L none (some (k:Int))),true)=_
 rw [aq8]
theorem afP (L:List Tr) (k:Nat):gSl (some (k:Int)) none (.lst L) = .ok (.lst (L.drop k),true):=by
 show Rs.ok (Tr.lst (L2.cut L (some (k:Int)) none),true)=_
 rw [aqr]
theorem aes {A B:List Tr} (h:A.length + B.length<=100000):aaT (.lst A) (.lst B) = .ok (.lst (A ++ B),true):=by
 show (if A.length + B.length<=100000 then Rs.ok (Tr.lst (A ++ B),true) else .bad)=_
 rw [if_pos h]
theorem arh {A:List Tr} {k:Nat} (h:A.length<=100) (hk:k<=1000):ab5 (.lst A) (.int (k:Nat)) = .ok (.lst (List.replicate k A).flatten,true):=by
 show (if (-1000<=(k:Int) /\ (k:Int)<=1000) /\ A.length<=100 then Rs.ok (Tr.lst (List.replicate (k:Int).toNat A).flatten,true) else .bad)=_
 rw [if_pos (by omega),Int.toNat_natCast]
end BH
end
section
namespace K17
open PySem L2 BH
theorem abz (a b k:Int) (h:0<k) (hk:k.natAbs<2 ^ 60):∃ x a' b',aaO [.lst [.int a,.int b],.int k] = .ok ((.int x,false),[.int a',.int b']) /\ 0<=x /\ x<k:=by
 have h0:k ≠ 0:=by omega
 have h1:∀ n,amt n k=true:=λn=>aeP (M:=60) h0 hk (by omega)
 by_cases z:a=0
 ·subst z
  refine ⟨b.fmod k,0,b.fdiv k,?_,ajW b k h⟩
  unfold aaO ajK fnR
  simp -dsimp [abS,frz,dow,abn,con,ac0,eB,bOf,tru,dr,drs,cls,clV,adA,g1,g2,gI,gIC,gB,gEq,gNe,gIn,aaT,ab5,acL,acK,acC,acw,gLt,gGt,gLe,gGe,gIx,abw,ady,abQ,aaU,adq,adX,acF,acV,okR,iOf,isS,others,acD,abT,acE,acW,ac8,aaC,aa7,aaM,aaQ,aaR,aaS,aaA,aaw,aaX,aa8,aa3,ac7,atI,ixN,aaz,aqT,h0,h1,adE,ahV]
 ·refine ⟨a.fmod k,a.fdiv k,b,?_,ajW a k h⟩
  have z1:(a == 0)=false:=by simp [z]
  unfold aaO ajK fnR
  simp -dsimp [abS,frz,dow,abn,con,ac0,eB,bOf,tru,dr,drs,cls,clV,adA,g1,g2,gI,gIC,gB,gEq,gNe,gIn,aaT,ab5,acL,acK,acC,acw,gLt,gGt,gLe,gGe,gIx,abw,ady,abQ,aaU,adq,adX,acF,acV,okR,iOf,isS,others,acD,abT,acE,acW,ac8,aaC,aa7,aaM,aaQ,aaR,aaS,aaA,aaw,aaX,aa8,aa3,ac7,atI,ixN,aaz,aqT,z1,h0,h1,adE,ahV]
noncomputable def frC:BF:=abv (eOp gGt (aag 3) (eC (.int 0)))
noncomputable def frW:SF:=atz 2 3 (aad (aag 3) (aad (eOp acK (aag 2) (aag 3)) aar))
theorem avO (s0 s1 s2:Sl) (b:Int):frC [s0,s1,s2,.sh (.int b)] = .ok (decide (0<b),[s0,s1,s2,.sh (.int b)]):=by
 unfold frC
 simp -dsimp [abS,frz,dow,abn,con,ac0,eB,bOf,tru,dr,drs,cls,clV,adA,g1,g2,gI,gIC,gB,gEq,gNe,gIn,aaT,ab5,acL,acK,acC,acw,gLt,gGt,gLe,gGe,gIx,abw,ady,abQ,aaU,adq,adX,acF,acV,okR,iOf,isS,others,acD,abT,acE,acW,ac8,aaC,aa7,aaM,aaQ,aaR,aaS,aaA,aaw,aaX,aa8,aa3,ac7,atI,ixN,aaz]
theorem avP (s0 s1:Sl) (a b:Int) (h:b ≠ 0):frW [s0,s1,.sh (.int a),.sh (.int b)] = .ok (.nx,[s0,s1,.sh (.int b),.sh (.int (a.fmod b))]):=by
 unfold frW
 simp -dsimp [abS,frz,dow,abn,con,ac0,eB,bOf,tru,dr,drs,cls,clV,adA,g1,g2,gI,gIC,gB,gEq,gNe,gIn,aaT,ab5,acL,acK,acC,acw,gLt,gGt,gLe,gGe,gIx,abw,ady,abQ,aaU,adq,adX,acF,acV,okR,iOf,isS,others,acD,abT,acE,acW,ac8,aaC,aa7,aaM,aaQ,aaR,aaS,aaA,aaw,aaX,aa8,aa3,ac7,atI,ixN,aaz,h]
theorem ak0 (s0 s1:Sl):∀ (n:Nat) (a b:Int),0<=a->0<=b->b.natAbs<n->afw frC frW n [s0,s1,.sh (.int a),.sh (.int b)] = .ok (.nx,[s0,s1,.sh (.int ((Int.gcd a b:Nat):Int)),.sh (.int 0)])
 | 0,a,b,_,_,h=>by omega
 | n + 1,a,b,ha,hb,h=>by
  unfold afw
  rw [avO]
  by_cases z:b=0
  ·subst z
   have:((Int.gcd a 0:Nat):Int)=a:=by rw [Int.gcd_zero_right]; omega
   rw [this]
   rfl
  ·have r:=ajW a b (by omega)
   have e:=ak0 s0 s1 n b (a.fmod b) hb r.1 (by omega)
   have q:0<b:=by omega
   simp only [Rs.aa0,q,decide_true,if_true]
   rw [avP s0 s1 a b z]
   simp only [Rs.aa0]
   rw [e,alO]
theorem ak1 (x b:Int) (hx:0<=x) (hb:1<=b) (h1:x<=b) (h2:b<=1000000000000):∃ y,ad1 [.int x,.int b] = .ok (fT y,false) /\ Wo y:=by
 obtain ⟨g1,g2,g3,g4,g5,g6,g7⟩:=afu (a:=x) (b:=b) (by omega)
 have e1:x.fdiv (Int.gcd x b:Nat)=x / (Int.gcd x b:Nat):=Int.fdiv_eq_ediv_of_nonneg _ (by omega)
 have e2:b.fdiv (Int.gcd x b:Nat)=b / (Int.gcd x b:Nat):=Int.fdiv_eq_ediv_of_nonneg _ (by omega)
 refine ⟨(x.fdiv (Int.gcd x b:Nat),b.fdiv (Int.gcd x b:Nat)),?_,?_⟩
 ·have hw:=ak0 (.sh (.int x)) (.sh (.int b)) (b.natAbs + 1) x b hx (by omega) (by omega)
  show fnP 4 (aaN (abj (aag 0) (gN 2)) (aaN (abj (aag 1) (gN 3)) (aaN (adZ (aen (fuI 3) frC frW)) (abx (afm (aad (eOp acL (aag 0) (aag 2)) (aad (eOp acL (aag 1) (aag 2)) aar))))))) [.int x,.int b]=_
  generalize hg:((Int.gcd x b:Nat):Int)=g at g1 g2 hw
  have h3:adZ (aen (fuI 3) frC frW) [.sh (.int x),.sh (.int b),.sh (.int x),.sh (.int b)] = .ok (.nx,[.sh (.int x),.sh (.int b),.sh (.int g),.sh (.int 0)]):=by
   unfold adZ aen
   rw [show fuI 3 [.sh (.int x),.sh (.int b),.sh (.int x),.sh (.int b)]=b.natAbs + 1 from rfl,hw]
   rfl
  generalize adZ _=G at h3 ⊢
  have c1:amt x g=true:=aeP (M:=60) (by omega) (by omega) (by omega)
  have c2:amt b g=true:=aeP (M:=60) (by omega) (by omega) (by omega)
  unfold fnP fT
  simp -dsimp [abS,frz,dow,abn,con,ac0,eB,bOf,tru,dr,drs,cls,clV,adA,g1,g2,gI,gIC,gB,gEq,gNe,gIn,aaT,ab5,acL,acK,acC,acw,gLt,gGt,gLe,gGe,gIx,abw,ady,abQ,aaU,adq,adX,acF,acV,okR,iOf,isS,others,acD,abT,acE,acW,ac8,aaC,aa7,aaM,aaQ,aaR,aaS,aaA,aaw,aaX,aa8,aa3,ac7,atI,ixN,aaz,h3,c1,c2]
 ·rw [e1,e2]
  refine ⟨g5 hx,Int.ediv_le_ediv g1 h1,g3,?_,g4⟩
  have:=Int.ediv_le_self (a:=b) ((Int.gcd x b:Nat):Int) (by omega)
  show b / ((Int.gcd x b:Nat):Int)<=1000000000000
  omega
noncomputable def w5:SF:=(aaN (abj (eOp aaT (eC (.int 1)) (aaL 0 aaO (aad (aag 0) (aad (eOp acw (eOp acC (eC (.int 10)) (eC (.int 12))) (eC (.int 1))) aar)))) (gN 3)) (abx (aax ad1 (aad (aaL 0 aaO (aad (aag 0) (aad (eOp aaT (aag 3) (eC (.int 1))) aar))) (aad (aag 3) aar)))))
noncomputable def w7:SF:=(aaN (sIf (abv (eOp gEq (aag 2) (eC (.int 6)))) (abx (afm (aad (aag 4) (aad (aag 3) aar)))) adz) (abx (aax ad1 (aad (eCB (g2 adq) (aad (eOp aaT (aag 4) (eC (.int 1))) (aad (aag 3) aar))) (aad (aag 3) aar)))))
noncomputable def w6:SF:=(aaN (abj (eOp gIx (eOp aaT (aag 1) (eCL [.tup [.int 1,.int 2]])) (aaL 0 aaO (aad (aag 0) (aad (eOp aaT (eCB (g1 abw) (aad (aag 1) aar)) (eC (.int 1))) aar)))) (gT 2 (aa6 (gN 4) (aa6 (gN 3) adD)))) w7)
noncomputable def w2:SF:=(abx (aax ad1 (aad (aaL 0 aaO (aad (aag 0) (aad (eC (.int 5)) aar))) (aad (eC (.int 4)) aar))))
theorem aoL:aos=(aaN (abj (aaL 0 aaO (aad (aag 0) (aad (eC (.int 8)) aar))) (gN 2)) (aaN (sIf (abv (eOp gLt (aag 2) (eC (.int 2)))) (abx (afm (aad (aag 2) (aad (eC (.int 1)) aar)))) adz) (aaN (sIf (abv (eOp gLt (aag 2) (eC (.int 5)))) w2 adz) (aaN (sIf (abv (eOp gEq (aag 2) (eC (.int 5)))) w5 adz) w6)))):=rfl
theorem ayh (a b:Int) (s1 s2 s3 s4:Sl):∃ y a' b' ρ,w2 [.rf [.int a,.int b],s1,s2,s3,s4] = .ok (.rt (fT y) false,.rf [.int a',.int b'] :: ρ) /\ Wo y:=by
 obtain ⟨x,a',b',e,x0,x1⟩:=abz a b 5 (by omega) (by decide)
 obtain ⟨y,e2,hy⟩:=ak1 x 4 x0 (by omega) (by omega) (by omega)
 refine ⟨y,a',b',[s1,s2,s3,s4],?_,hy⟩
 unfold w2
 generalize fT y=T at e2 ⊢
 simp -dsimp [con,drs,dr,isS,others,abn,e,e2]
theorem ayi (a b:Int) (s1 s2 s3 s4:Sl):∃ y a' b' ρ,w5 [.rf [.int a,.int b],s1,s2,s3,s4] = .ok (.rt (fT y) false,.rf [.int a',.int b'] :: ρ) /\ Wo y:=by
 obtain ⟨x,a1,b1,e,x0,x1⟩:=abz a b 999999999999 (by omega) (by decide)
 obtain ⟨z,a',b',e1,z0,z1⟩:=abz a1 b1 (1 + x + 1) (by omega) (by omega)
 obtain ⟨y,e2,hy⟩:=ak1 z (1 + x) z0 (by omega) (by omega) (by omega)
 refine ⟨y,a',b',[s1,s2,.sh (.int (1 + x)),s4],?_,hy⟩
 unfold w5
 generalize fT y=T at e2 ⊢
 simp -dsimp [con,drs,dr,isS,others,abn,acC,gIC,auu,tiny,acw,gI,aaT,e,e1,e2]
theorem ayj (s0 s1:Sl) (k:Int) {x:Int × Int} (hx:Wo x):∃ y ρ,w7 [s0,s1,.sh (.int k),.sh (.int x.2),.sh (.int x.1)] = .ok (.rt (fT y) false,s0 :: ρ) /\ Wo y:=by
 by_cases h6:k=6
 ·subst h6
  refine ⟨x,[s1,.sh (.int 6),.sh (.int x.2),.sh (.int x.1)],?_,hx⟩
  unfold w7 fT
  simp -dsimp [abS,frz,dow,abn,con,ac0,eB,bOf,tru,dr,drs,cls,clV,adA,g1,g2,gI,gIC,gB,gEq,gNe,gIn,aaT,ab5,acL,acK,acC,acw,gLt,gGt,gLe,gGe,gIx,abw,ady,abQ,aaU,adq,adX,acF,acV,okR,iOf,isS,others,acD,abT,acE,acW,ac8,aaC,aa7,aaM,aaQ,aaR,aaS,aaA,aaw,aaX,aa8,aa3,ac7,atI,ixN,aaz]
 ·obtain ⟨h1,h2,h3,h4,h5⟩:=id hx
  obtain ⟨y,e2,hy⟩:=ak1 (if x.2<x.1 + 1 then x.2 else x.1 + 1) x.2 (by split <;> omega) h3 (by split <;> omega) h4
  refine ⟨y,[s1,.sh (.int k),.sh (.int x.2),.sh (.int x.1)],?_,hy⟩
  have q:(k == 6)=false:=by simp [h6]
  generalize hz:(if x.2<x.1 + 1 then x.2 else x.1 + 1)=z at e2
  unfold w7
  generalize fT y=T at e2 ⊢
  simp -dsimp only [and_self,asM,avy,aqn,avA,asQ,axZ,asN,asO,aoz,aqo,asS,avB,asL,List.getElem?_cons_succ,List.getElem?_cons_zero,dr,drs,gEq,aaC,aaX,q,bOf,aaT,gI,g2,adq,hz,e2,isS,List.any_cons,List.any_nil,Rs.aa0,Nat.zero_le,if_true,Bool.false_eq_true,if_false,Bool.or_false,false_and]
theorem ayk (a b k:Int) (s3 s4:Sl) {bs:List (Int × Int)} (hw:∀ x ∈ bs,Wo x) (hl:bs.length<=100):∃ y a' b' ρ,w6 [.rf [.int a,.int b],.sh (aaP bs),.sh (.int k),s3,s4] = .ok (.rt (fT y) false,.rf [.int a',.int b'] :: ρ) /\ Wo y:=by
 obtain ⟨x,a',b',e,x0,x1⟩:=abz a b ((bs.length:Int) + 1) (by omega) (by omega)
 obtain ⟨i,rfl⟩:∃ i:Nat,(i:Int)=x:=⟨x.toNat,by omega⟩
 have hi:i<(bs ++ [(1,2)]).length:=by simp; omega
 have hm:(bs ++ [(1,2)])[i] ∈ bs ++ [(1,2)]:=List.getElem_mem hi
 have ei:gIx (aaP (bs ++ [(1,2)])) (.int i) = .ok (fT (bs ++ [(1,2)])[i],false):=acs (by rw [List.getElem?_map,List.getElem?_eq_getElem hi]; rfl)
 have ea:aaT (aaP bs) (.lst [.tup [.int 1,.int 2]]) = .ok (aaP (bs ++ [(1,2)]),true):=by
  show (if (bs.map fT).length + [Tr.tup [.int 1,.int 2]].length<=100000 then Rs.ok (Tr.lst (bs.map fT ++ [Tr.tup [.int 1,.int 2]]),true) else .bad)=_
  rw [if_pos (by simp; omega)]
  unfold aaP
  rw [List.map_append]
  rfl
 have el:abw (aaP bs) = .ok (.int (bs.length:Int),false):=by
  show Rs.ok (Tr.int ((bs.map fT).length:Int),false)=_
  rw [List.length_map]
 have hx:Wo (bs ++ [(1,2)])[i]:=by
  rcases List.mem_append.mp hm with z | z
  ·exact hw _ z
  ·rw [List.mem_singleton.mp z]
   decide
 generalize (bs ++ [(1,2)])[i]=x at ei hx
 obtain ⟨y,ρ,e7,hy⟩:=ayj (.rf [.int a',.int b']) (.sh (aaP bs)) k hx
 refine ⟨y,a',b',ρ,?_,hy⟩
 unfold w6
 generalize w7=G at e7 ⊢
 generalize aaP (bs ++ [(1,2)])=T2 at ea ei
 generalize aaP bs=T at ea el e7 ⊢
 generalize (bs.length:Int)=N at e el
 generalize fT y=Y at e7 ⊢
 unfold fT at ei
 simp -dsimp [con,drs,dr,isS,others,abn,ea,el,g1,asZ,e,ei,e7]
theorem aqw (a b:Int) {bs:List (Int × Int)} (hw:∀ x ∈ bs,Wo x) (hl:bs.length<=100):∃ y a' b',afh [.lst [.int a,.int b],aaP bs] = .ok ((fT y,false),[.int a',.int b']) /\ Wo y:=by
 obtain ⟨k,a1,b1,e,k0,k1⟩:=abz a b 8 (by omega) (by decide)
 unfold afh
 rw [aoL]
 have fin:∀ {y:Int × Int} {a' b':Int} {ρ : En} {S:SF},S [.rf [.int a1,.int b1],.sh (aaP bs),.sh (.int k),.un,.un] = .ok (.rt (fT y) false,.rf [.int a',.int b'] :: ρ) ->
   fnR 5 0 (aaN (abj (aaL 0 aaO (aad (aag 0) (aad (eC (.int 8)) aar))) (gN 2)) S) [.lst [.int a,.int b],aaP bs] = .ok ((fT y,false),[.int a',.int b']):=λ{y a' b' ρ S} hS=>by
  generalize aaP bs=T at hS ⊢
  generalize fT y=Y at hS ⊢
  unfold fnR
  simp -dsimp [aaz,con,drs,dr,isS,others,abn,abS,adE,ahV,e,hS]
 by_cases h2:k<2
 ·refine ⟨(k,1),a1,b1,fin (ρ := [.sh (aaP bs),.sh (.int k),.un,.un]) ?_,?_⟩
  ·generalize aaP bs=T
   simp -dsimp [dr,gLt,gB,h2,bOf,cls,fT]
  ·rcases (show k=0 \/ k=1 by omega) with rfl | rfl <;> decide
 ·by_cases h5:k<5
  ·obtain ⟨y,a',b',ρ,e2,hy⟩:=ayh a1 b1 (.sh (aaP bs)) (.sh (.int k)) .un .un
   refine ⟨y,a',b',fin (ρ := ρ) ?_,hy⟩
   generalize w2=G at e2 ⊢
   generalize aaP bs=T at e2 ⊢
   generalize fT y=Y at e2 ⊢
   simp -dsimp [dr,gLt,gB,h2,h5,bOf,e2]
  ·by_cases h6:k=5
   ·obtain ⟨y,a',b',ρ,e2,hy⟩:=ayi a1 b1 (.sh (aaP bs)) (.sh (.int k)) .un .un
    refine ⟨y,a',b',fin (ρ := ρ) ?_,hy⟩
    generalize w5=G at e2 ⊢
    generalize aaP bs=T at e2 ⊢
    generalize fT y=Y at e2 ⊢
    subst h6
    simp -dsimp [dr,gLt,gB,bOf,gEq,aaC,aaX,e2]
   ·obtain ⟨y,a',b',ρ,e2,hy⟩:=ayk a1 b1 k .un .un hw hl
    refine ⟨y,a',b',fin (ρ := ρ) ?_,hy⟩
    generalize w6=G at e2 ⊢
    generalize aaP bs=T at e2 ⊢
    generalize fT y=Y at e2 ⊢
    have q:(k == 5)=false:=by simp [h6]
    simp -dsimp [dr,gLt,gB,h2,h5,bOf,gEq,aaC,aaX,q,e2]
noncomputable def li1:SF:=(aaN (adQ (eMt 6 alV (aad (aaL 0 afh (aad (aag 0) (aad (aag 4) aar))) aar))) (adQ (eMt 4 alV (aad (eOp gIx (aag 6) (eUn amu (eC (.int 1)))) aar))))
theorem aqx (ts:List Tr) (t:Tr):gIx (.lst (ts ++ [t])) (.int (-1)) = .ok (t,false):=by
 show (match atI (ts ++ [t]) (-1) with
  | some t=>Rs.ok (t,false)
  | none => .bad)=_
 have:atI (ts ++ [t]) (-1)=some t:=by
  unfold atI ixN
  have q0:¬ (0:Int) <= -1:=by omega
  have q1 : -((ts ++ [t]).length:Int) <= -1:=by simp only [List.length_append,List.length_singleton]; omega
  have q2:((-1:Int) + ((ts ++ [t]).length:Int)).toNat=ts.length:=by simp only [List.length_append,List.length_singleton]; omega
  rw [if_neg q0,if_pos q1,q2]
  simp
 rw [this]
theorem ai1 {ts:List Tr} {t:Tr} (h:ts.length<=100000):alV ts [t] = .ok (ts ++ [t],.non):=by
 show (if ts.length<=100000 then _ else _)=_
 rw [if_pos h]
theorem avQ (a b:Int) (s1 s2 s3 s5 s7:Sl) {bs ws:List (Int × Int)} (hb:∀ x ∈ bs,Wo x) (hbl:bs.length<=100) (hwl:ws.length<=100):∃ (y:Int × Int) (a' b':Int),li1 [.rf [.int a,.int b],s1,s2,s3,.ow (bs.map fT),s5,.ow (ws.map fT),s7] = .ok (.nx,[.rf [.int a',.int b'],s1,s2,s3,.ow ((bs ++ [y]).map fT),s5,.ow ((ws ++ [y]).map fT),s7]) /\ Wo y:=by
 obtain ⟨y,a',b',e,hy⟩:=aqw a b hb hbl
 refine ⟨y,a',b',?_,hy⟩
 have e':afh [.lst [.int a,.int b],.lst (bs.map fT)] = .ok ((fT y,false),[.int a',.int b']):=e
 have m1:=ai1 (ts:=ws.map fT) (t:=fT y) (by rw [List.length_map]; omega)
 have m2:=ai1 (ts:=bs.map fT) (t:=fT y) (by rw [List.length_map]; omega)
 have g:=aqx (ws.map fT) (fT y)
 have fl:ahV (fT y)=true:=rfl
 rw [List.map_append,List.map_append,List.map_singleton]
 generalize bs.map fT=B at *
 generalize ws.map fT=W at *
 generalize fT y=Y at *
 unfold li1
 simp -dsimp [con,drs,dr,cls,isS,others,abn,adt,fl,e',m1,amu,g,m2]
theorem aoM (s1 s2 s3 s5:Sl):∀ (us:List Tr) (a b:Int) (s7:Sl) (bs ws:List (Int × Int)),(∀ x ∈ bs,Wo x)->(∀ x ∈ ws,Wo x)->bs.length + us.length<=100->ws.length + us.length<=100 ->
  ∃ (a' b':Int) (s7':Sl) (bs' ws':List (Int × Int)),acu (gN 7) li1 us [.rf [.int a,.int b],s1,s2,s3,.ow (bs.map fT),s5,.ow (ws.map fT),s7] = .ok (.nx,[.rf [.int a',.int b'],s1,s2,s3,.ow (bs'.map fT),s5,.ow (ws'.map fT),s7']) /\ (∀ x ∈ bs',Wo x) /\ (∀ x ∈ ws',Wo x) /\ bs'.length=bs.length + us.length /\ ws'.length=ws.length + us.length
 | [],a,b,s7,bs,ws,h1,h2,_,_=>⟨a,b,s7,bs,ws,rfl,h1,h2,rfl,rfl⟩
 | u :: us,a,b,s7,bs,ws,h1,h2,h3,h4=>by
  rw [List.length_cons] at h3 h4
  obtain ⟨y,a1,b1,e,hy⟩:=avQ a b s1 s2 s3 s5 (.sh u) h1 (by omega) (by omega:ws.length<=100)
  have q1:∀ x ∈ bs ++ [y],Wo x:=λx hx=>(List.mem_append.mp hx).elim (h1 x) λz=>(List.mem_singleton.mp z) ▸ hy
  have q2:∀ x ∈ ws ++ [y],Wo x:=λx hx=>(List.mem_append.mp hx).elim (h2 x) λz=>(List.mem_singleton.mp z) ▸ hy
  obtain ⟨a',b',s7',bs',ws',e',g1,g2,g3,g4⟩:=aoM s1 s2 s3 s5 us a1 b1 (.sh u) (bs ++ [y]) (ws ++ [y]) q1 q2 (by simp; omega) (by simp; omega)
  refine ⟨a',b',s7',bs',ws',?_,g1,g2,by rw [g3]; simp; omega,by rw [g4]; simp; omega⟩
  unfold acu
  rw [show gN 7 u [.rf [.int a,.int b],s1,s2,s3,.ow (bs.map fT),s5,.ow (ws.map fT),s7] = .ok [.rf [.int a,.int b],s1,s2,s3,.ow (bs.map fT),s5,.ow (ws.map fT),.sh u] from rfl]
  simp only [Rs.aa0]
  rw [e]
  exact e'
noncomputable def li2:SF:=(aaN (anr 6 (acU aar)) (aaN (afn (agS (aad (aag 2) aar)) (gN 7) li1) (aty 6 (adQ (eMt 3 alV (aad (aag 6) aar))))))
theorem aem:∀ (n:Nat) (lo:Int),(L2.upTo lo n).length=n
 | 0,_=>rfl
 | n + 1,lo=>by unfold L2.upTo; rw [List.length_cons,aem n]
theorem avR (a b:Int) (s1 s5 s6 s7:Sl) (c:Nat) (hc:c<=12) {bs:List (Int × Int)} {rows:List (List (Int × Int))} (hb:∀ x ∈ bs,Wo x) (hbl:bs.length + 12<=100) (hr:rows.length<=100):∃ (a' b':Int) (s6' s7':Sl) (bs' l:List (Int × Int)),li2 [.rf [.int a,.int b],s1,.sh (.int c),.ow (rows.map aaP),.ow (bs.map fT),s5,s6,s7] = .ok (.nx,[.rf [.int a',.int b'],s1,.sh (.int c),.ow ((rows ++ [l]).map aaP),.ow (bs'.map fT),s5,s6',s7']) /\ (∀ x ∈ bs',Wo x) /\ bs'.length=bs.length + c /\ l.length=c /\ ∀ x ∈ l,Wo x:=by
 obtain ⟨a',b',s7',bs',l,e,h1,h2,h3,h4⟩:=aoM s1 (.sh (.int c)) (.ow (rows.map aaP)) s5 (L2.upTo 0 c) a b s7 bs [] hb (by simp) (by rw [aem]; omega) (by rw [aem]; simp; omega)
 rw [aem] at h3 h4
 refine ⟨a',b',.sh (aaP l),s7',bs',l,?_,h1,h3,by simpa using h4,h2⟩
 have m1:=ai1 (ts:=rows.map aaP) (t:=aaP l) (by rw [List.length_map]; omega)
 have ef:afn (agS (aad (aag 2) aar)) (gN 7) li1 [.rf [.int a,.int b],s1,.sh (.int c),.ow (rows.map aaP),.ow (bs.map fT),s5,.ow [],s7] = .ok (.nx,[.rf [.int a',.int b'],s1,.sh (.int c),.ow (rows.map aaP),.ow (bs'.map fT),s5,.ow (l.map fT),s7']):=by
  have q1:(-1000000:Int)<=c:=by omega
  have q2:(c:Int)<=1000000:=by omega
  have q3:okR (c:Int)=true:=by unfold okR; simp [q1,q2]
  unfold afn
  have:agS (aad (aag 2) aar) [.rf [.int a,.int b],s1,.sh (.int c),.ow (rows.map aaP),.ow (bs.map fT),s5,.ow [],s7] = .ok (L2.upTo 0 c,[.rf [.int a,.int b],s1,.sh (.int c),.ow (rows.map aaP),.ow (bs.map fT),s5,.ow [],s7]):=by
   generalize rows.map aaP=R
   generalize bs.map fT=B
   simp -dsimp [drs,dr,q3]
  rw [this]
  exact e
 rw [List.map_append,List.map_singleton]
 have hrow:Tr.lst (l.map fT)=aaP l:=rfl
 generalize rows.map aaP=R at *
 generalize bs.map fT=B at *
 generalize bs'.map fT=B' at *
 unfold li2
 generalize afn _ _ _=G at ef ⊢
 generalize l.map fT=L at *
 generalize aaP l=RL at *
 subst hrow
 simp -dsimp [cls,ef,frz,con,m1,abn,dr]
theorem aoN (s1:Sl) (c:Nat) (hc:c<=12):∀ (us:List Tr) (a b:Int) (s5 s6 s7:Sl) (bs:List (Int × Int)) (rows:List (List (Int × Int))),(∀ x ∈ bs,Wo x)->bs.length + 12 * us.length<=60->rows.length + us.length<=4->Shp c rows ->
  ∃ (a' b':Int) (s5' s6' s7':Sl) (bs':List Tr) (aoO:List (List (Int × Int))),acu (gN 5) li2 us [.rf [.int a,.int b],s1,.sh (.int c),.ow (rows.map aaP),.ow (bs.map fT),s5,s6,s7] = .ok (.nx,[.rf [.int a',.int b'],s1,.sh (.int c),.ow (aoO.map aaP),.ow bs',s5',s6',s7']) /\ aoO.length=rows.length + us.length /\ Shp c aoO
 | [],a,b,s5,s6,s7,bs,rows,h1,_,_,h4=>⟨a,b,s5,s6,s7,bs.map fT,rows,rfl,rfl,h4⟩
 | u :: us,a,b,s5,s6,s7,bs,rows,h1,h2,h3,h4=>by
  rw [List.length_cons] at h2 h3
  obtain ⟨a1,b1,s6',s7',bs',l,e,g1,g2,g3,g4⟩:=avR a b s1 (.sh u) s6 s7 c hc h1 (by omega) (by omega:rows.length<=100)
  obtain ⟨a',b',r5,r6,r7,bs2,aoO,e',k1,k2⟩:=aoN s1 c hc us a1 b1 (.sh u) s6' s7' bs' (rows ++ [l]) g1 (by omega) (by simp; omega) (λr hr=>(List.mem_append.mp hr).elim (h4 r) λz=>(List.mem_singleton.mp z) ▸ ⟨g3,g4⟩)
  refine ⟨a',b',r5,r6,r7,bs2,aoO,?_,by rw [k1]; simp; omega,k2⟩
  unfold acu
  rw [show gN 5 u [.rf [.int a,.int b],s1,.sh (.int c),.ow (rows.map aaP),.ow (bs.map fT),s5,s6,s7] = .ok [.rf [.int a,.int b],s1,.sh (.int c),.ow (rows.map aaP),.ow (bs.map fT),.sh u,s6,s7] from rfl]
  simp only [Rs.aa0]
  rw [e]
  exact e'
theorem aqy (a b:Int) {k c:Nat} (hk:k<=4) (hc:c<=12):∃ (a' b':Int) (rows:List (List (Int × Int))),aiR [.lst [.int a,.int b],.int k,.int c] = .ok ((bkT rows,true),[.int a',.int b']) /\ rows.length=k /\ Shp c rows:=by
 obtain ⟨a',b',s5,s6,s7,bs,rows,e,h1,h2⟩:=aoN (.sh (.int k)) c hc (L2.upTo 0 k) a b .un .un .un [] [] (by simp) (by rw [aem]; simp; omega) (by rw [aem]; simp; omega) (by intro r hr; simp at hr)
 rw [aem] at h1
 refine ⟨a',b',rows,?_,by simpa using h1,h2⟩
 show fnR 8 0 (aaN (anr 3 (acU aar)) (aaN (anr 4 (acU aar)) (aaN (adZ (afn (agS (aad (aag 1) aar)) (gN 5) li2)) (abx (aag 3))))) _=_
 have q1:(-1000000:Int)<=k:=by omega
 have q2:(k:Int)<=1000000:=by omega
 have e':acu (gN 5) li2 (L2.upTo 0 k) [.rf [.int a,.int b],.sh (.int k),.sh (.int c),.ow [],.ow [],.un,.un,.un] = .ok (.nx,[.rf [.int a',.int b'],.sh (.int k),.sh (.int c),.ow (rows.map aaP),.ow bs,s5,s6,s7]):=e
 unfold bkT
 generalize rows.map aaP=R at e' ⊢
 generalize li2=G at e' ⊢
 unfold fnR
 simp -dsimp [abS,frz,dow,abn,con,ac0,eB,bOf,tru,dr,drs,cls,clV,adA,g1,g2,acV,okR,iOf,isS,others,acD,abT,acE,acW,ac8,aaz,adt,q1,q2,e',adE,ahV]
noncomputable def puB:SF:=(aaN (abj (eOp acK (eOp aaT (eOp aaT (eOp gIx (aag 1) (eOp acK (aag 3) (eCB (g1 abw) (aad (aag 1) aar)))) (eOp ab5 (eC (.int 48271)) (aag 3))) (eC (.int 7))) (eC (.int 2147483629))) (gN 4)) (aaN (abj (eOp acK (eOp aaT (eOp ab5 (aag 4) (aag 4)) (eOp ab5 (eC (.int 69621)) (aag 3))) (eC (.int 2147483587))) (gN 4)) (abj (eOp aaT (eOp ab5 (aag 2) (eC (.int 2147483587))) (eOp acK (eOp ab5 (aag 4) (aag 4)) (eC (.int 2147483563)))) (gN 2))))
theorem avS (s0 s4:Sl) {cs:List Int} (hc:0<cs.length) (mixed:Int) {k:Int} (k0:0<=k) (k1:k<1000):∃ x t4,puB [s0,.sh (.lst (cs.map .int)),.sh (.int mixed),.sh (.int k),s4] = .ok (.nx,[s0,.sh (.lst (cs.map .int)),.sh (.int x),.sh (.int k),t4]):=by
 have hr:=ajW k (cs.length:Int) (by omega)
 have hn:((cs.length:Int)) ≠ 0:=by omega
 have el:abw (.lst (cs.map .int)) = .ok (.int (cs.length:Int),false):=by
  show Rs.ok (Tr.int ((cs.map Tr.int).length:Int),false)=_
  rw [List.length_map]
 obtain ⟨v,ev⟩:∃ v,gIx (.lst (cs.map .int)) (.int (k.fmod (cs.length:Int))) = .ok (.int v,false):=by
  obtain ⟨i,hi⟩:∃ i:Nat,(i:Int)=k.fmod (cs.length:Int):=⟨(k.fmod (cs.length:Int)).toNat,by omega⟩
  rw [<-hi]
  have hi':i<cs.length:=by omega
  exact ⟨cs[i],acs (by rw [List.getElem?_map,List.getElem?_eq_getElem hi']; rfl)⟩
 have c1:ahT 48271 k=true:=aqt (by omega)
 generalize hA:(v + 48271 * k + 7).fmod 2147483629=A
 have rA:=ajW (v + 48271 * k + 7) 2147483629 (by omega)
 rw [hA] at rA
 have c2:ahT A A=true:=aqt (by omega)
 have c3:ahT 69621 k=true:=aqt (by omega)
 generalize hB:(A * A + 69621 * k).fmod 2147483587=B
 have rB:=ajW (A * A + 69621 * k) 2147483587 (by omega)
 rw [hB] at rB
 have c4:ahT B B=true:=aqt (by omega)
 have c5:ahT mixed 2147483587=true:=aye (by omega)
 generalize hC:(B * B).fmod 2147483563=C
 refine ⟨mixed * 2147483587 + C,.sh (.int B),?_⟩
 generalize Tr.lst (cs.map .int)=T at *
 generalize hF:k.fmod (cs.length:Int)=F at *
 generalize (cs.length:Int)=N at *
 unfold puB
 simp -dsimp [drs,dr,g1,acK,gIC,hn,hF,el,ev,ab5,c1,aaT,gI,hA,c2,c3,hB,c4,c5,hC]
theorem aoP (s0:Sl) {cs:List Int} (hc:0<cs.length):∀ (us:List Tr) (mixed:Int) (s3 s4:Sl),(∀ u ∈ us,∃ j:Int,u = .int j /\ 0<=j /\ j<1000)->∃ x t3 t4,acu (gN 3) puB us [s0,.sh (.lst (cs.map .int)),.sh (.int mixed),s3,s4] = .ok (.nx,[s0,.sh (.lst (cs.map .int)),.sh (.int x),t3,t4])
 | [],mixed,s3,s4,_=>⟨mixed,s3,s4,rfl⟩
 | u :: us,mixed,s3,s4,h=>by
  obtain ⟨j,rfl,j0,j1⟩:=h u (by simp)
  obtain ⟨y,t4,e⟩:=avS s0 s4 hc mixed j0 j1
  obtain ⟨x,r3,r4,e'⟩:=aoP s0 hc us y (.sh (.int j)) t4 λv hv=>h v (by simp [hv])
  refine ⟨x,r3,r4,?_⟩
  generalize Tr.lst (cs.map .int)=T at *
  unfold acu
  simp [e,e']
theorem aqz (ns:List Int):∃ a b,agb [.lst (ns.map .int)] = .ok (.lst [.int a,.int b],true):=by
 obtain ⟨cs,hcs⟩:∃ cs:List Int,cs=ns.take 63 ++ [(ns.length:Int)]:=⟨_,rfl⟩
 have hc:0<cs.length:=by rw [hcs]; simp
 obtain ⟨x,t3,t4,e⟩:=aoP (.sh (.lst (ns.map .int))) hc (L2.upTo 0 160) 1 .un .un λu hu=>by
  rw [agh] at hu
  obtain ⟨i,hi,rfl⟩:=List.mem_map.mp hu
  have:=List.mem_range.mp hi
  exact ⟨i,rfl,by omega,by omega⟩
 have es:gSl none (some 63) (.lst (ns.map .int)) = .ok (.lst ((ns.take 63).map .int),true):=by
  have c:=aq8 (ns.map Tr.int) 63
  show Rs.ok (Tr.lst (L2.cut (ns.map Tr.int) none (some 63)),true)=_
  rw [show L2.cut (ns.map Tr.int) none (some 63)=_ from c,List.map_take]
 have ea:aaT (.lst ((ns.take 63).map .int)) (.lst [.int (ns.length:Int)]) = .ok (.lst (cs.map .int),true):=by
  show (if ((ns.take 63).map Tr.int).length + [Tr.int (ns.length:Int)].length<=100000 then Rs.ok (Tr.lst ((ns.take 63).map Tr.int ++ [Tr.int (ns.length:Int)]),true) else .bad)=_
  rw [if_pos (by simp; omega),hcs,List.map_append]
  rfl
 have el:abw (.lst (ns.map .int)) = .ok (.int (ns.length:Int),false):=by
  show Rs.ok (Tr.int ((ns.map Tr.int).length:Int),false)=_
  rw [List.length_map]
 have e0:gIx (.lst (cs.map .int)) (.int 0) = .ok (.int cs[0],false):=acs (i:=0) (by rw [List.getElem?_map,List.getElem?_eq_getElem hc]; rfl)
 have en:adZ (afn (agS (aad (eC (.int 160)) aar)) (gN 3) puB) [.sh (.lst (ns.map .int)),.sh (.lst (cs.map .int)),.sh (.int 1),.un,.un] = .ok (.nx,[.sh (.lst (ns.map .int)),.sh (.lst (cs.map .int)),.sh (.int x),t3,t4]):=by
  show abS (acu (gN 3) puB (L2.upTo 0 160) _)=_
  rw [e]
  rfl
 have hd:aor=(aaN (abj (eOp aaT (eSl (aag 0) oNo (ab9 (eC (.int 63)))) (acU (aad (eCB (g1 abw) (aad (aag 0) aar)) aar))) (gN 1)) (aaN (abj (eC (.int 1)) (gN 2)) (aaN (adZ (afn (agS (aad (eC (.int 160)) aar)) (gN 3) puB)) (aaN (sIf (abv (eOp gGe (eOp gIx (aag 1) (eC (.int 0))) (eOp acC (eC (.int 10)) (eC (.int 18))))) (abx (acU (aad (eOp acw (eOp gIx (aag 1) (eC (.int 0))) (eOp acC (eC (.int 10)) (eC (.int 18)))) (aad (aag 2) aar)))) adz) (abx (acU (aad (eC (.int 0)) (aad (aag 2) aar)))))))):=rfl
 unfold agb
 rw [hd]
 generalize cs[0]=v at e0
 generalize adZ _=G at en ⊢
 generalize Tr.lst (cs.map .int)=C at *
 generalize Tr.lst ((ns.take 63).map .int)=N1 at *
 generalize Tr.lst (ns.map .int)=N0 at *
 generalize (ns.length:Int)=L at *
 by_cases h:1000000000000000000<=v
 ·refine ⟨v - 1000000000000000000,x,?_⟩
  unfold fnP
  simp -dsimp [aaz,drs,dr,iOf,es,el,g1,cls,ea,en,e0,acC,gIC,auu,tiny,gGe,gB,h,bOf,acw,gI]
 ·refine ⟨0,x,?_⟩
  unfold fnP
  simp -dsimp [aaz,drs,dr,iOf,es,el,g1,cls,ea,en,e0,acC,gIC,auu,tiny,gGe,gB,h,bOf,acw,gI]
end K17
end
section
namespace K17
open PySem L2 BH
theorem aqA {x b:Int} {M:Nat} (hx:0<=x) (hb:1<=b) (hb2:b<2 ^ M) (hM:M<=8000):ad1 [.int x,.int b] = .ok (fT (red x b),false):=by
 obtain ⟨g1,g2,_⟩:=afu (a:=x) (b:=b) (by omega)
 have e1:x.fdiv (Int.gcd x b:Nat)=x / (Int.gcd x b:Nat):=Int.fdiv_eq_ediv_of_nonneg _ (by omega)
 have e2:b.fdiv (Int.gcd x b:Nat)=b / (Int.gcd x b:Nat):=Int.fdiv_eq_ediv_of_nonneg _ (by omega)
 have hw:=ak0 (.sh (.int x)) (.sh (.int b)) (b.natAbs + 1) x b hx (by omega) (by omega)
 have np:=aqu M
 show fnP 4 (aaN (abj (aag 0) (gN 2)) (aaN (abj (aag 1) (gN 3)) (aaN (adZ (aen (fuI 3) frC frW)) (abx (afm (aad (eOp acL (aag 0) (aag 2)) (aad (eOp acL (aag 1) (aag 2)) aar))))))) [.int x,.int b]=_
 unfold red
 generalize hg:((Int.gcd x b:Nat):Int)=g at *
 have h3:adZ (aen (fuI 3) frC frW) [.sh (.int x),.sh (.int b),.sh (.int x),.sh (.int b)] = .ok (.nx,[.sh (.int x),.sh (.int b),.sh (.int g),.sh (.int 0)]):=by
  unfold adZ aen
  rw [show fuI 3 [.sh (.int x),.sh (.int b),.sh (.int x),.sh (.int b)]=b.natAbs + 1 from rfl,hw]
  rfl
 generalize adZ _=G at h3 ⊢
 have c1:∀ n,amt n g=true:=λn=>aeP (M:=M) (by omega) (by omega) hM
 unfold fnP fT
 simp -dsimp [abS,frz,dow,abn,con,ac0,eB,bOf,tru,dr,drs,cls,clV,adA,g1,g2,gI,gIC,gB,gEq,gNe,gIn,aaT,ab5,acL,acK,acC,acw,gLt,gGt,gLe,gGe,gIx,abw,ady,abQ,aaU,adq,adX,acF,acV,okR,iOf,isS,others,acD,abT,acE,acW,ac8,aaC,aa7,aaM,aaQ,aaR,aaS,aaA,aaw,aaX,aa8,aa3,ac7,atI,ixN,aaz,h3,c1,e1,e2]
theorem as9 (a b:Int):∃ (a' b':Int) (rows:List (List (Int × Int))) (c:Nat),aip [.lst [.int a,.int b]] = .ok ((bkT rows,true),[.int a',.int b']) /\ Bk c rows:=by
 obtain ⟨x,a1,b1,e1,x0,x1⟩:=abz a b 4 (by omega) (by decide)
 obtain ⟨y,a2,b2,e2,y0,y1⟩:=abz a1 b1 12 (by omega) (by decide)
 obtain ⟨k,hk⟩:∃ k:Nat,(k:Int)=1 + x:=⟨(1 + x).toNat,by omega⟩
 obtain ⟨c,hc⟩:∃ k:Nat,(k:Int)=1 + y:=⟨(1 + y).toNat,by omega⟩
 obtain ⟨a',b',rows,e4,h1,h2⟩:=aqy a2 b2 (k:=k) (c:=c) (by omega) (by omega)
 refine ⟨a',b',rows,c,?_,by omega,by omega,by omega,by omega,h2⟩
 generalize bkT rows=T at e4 ⊢
 unfold aip aq5 fnR
 simp -dsimp [abS,frz,dow,abn,con,ac0,eB,bOf,tru,dr,drs,cls,clV,adA,g1,g2,acV,okR,iOf,isS,others,acD,abT,acE,acW,ac8,aaz,adt,e1,e2,aaT,<-hk,<-hc,e4,adE,ahV]
noncomputable def tpE:EF:=(eOp gIx (acU (aad (eC (.int 0)) (aad (eC (.int 1)) (aad (eOp aaT (eC (.int 1)) (aaL 0 aaO (aad (aag 0) (aad (eC (.int 9)) aar)))) (aad (aaL 0 aaO (aad (aag 0) (aad (eOp acC (eC (.int 10)) (eC (.int 12))) aar))) aar))))) (aag 5))
noncomputable def boE:EF:=(eOp gIx (acU (aad (eC (.int 1)) (aad (eC (.int 1)) (aad (eOp aaT (eC (.int 1)) (aaL 0 aaO (aad (aag 0) (aad (eC (.int 9)) aar)))) (aad (eOp aaT (eC (.int 1)) (aaL 0 aaO (aad (aag 0) (aad (eOp acw (eOp acC (eC (.int 10)) (eC (.int 12))) (eC (.int 1))) aar)))) aar))))) (aag 5))
theorem four {p q r s:Int} {j:Int} (h0:0<=j) (h1:j<4) {P:Int->Prop} (hp:P p) (hq:P q) (hr:P r) (hs:P s):∃ v,gIx (.lst [.int p,.int q,.int r,.int s]) (.int j) = .ok (.int v,false) /\ P v:=by
 rcases (show j=0 \/ j=1 \/ j=2 \/ j=3 by omega) with rfl | rfl | rfl | rfl
 ·exact ⟨p,rfl,hp⟩
 ·exact ⟨q,rfl,hq⟩
 ·exact ⟨r,rfl,hr⟩
 ·exact ⟨s,rfl,hs⟩
theorem avT (a b:Int) (s1 s2 s3 s4 s6:Sl) {j:Int} (h0:0<=j) (h1:j<4):∃ (v a' b':Int),tpE [.rf [.int a,.int b],s1,s2,s3,s4,.sh (.int j),s6] = .ok (.v (.int v) false,[.rf [.int a',.int b'],s1,s2,s3,s4,.sh (.int j),s6]) /\ 0<=v /\ v<=1000000000000:=by
 obtain ⟨x,a1,b1,e1,x0,x1⟩:=abz a b 9 (by omega) (by decide)
 obtain ⟨y,a2,b2,e2,y0,y1⟩:=abz a1 b1 1000000000000 (by omega) (by decide)
 have p12:acC (.int 10) (.int 12) = .ok (.int 1000000000000,false):=by kernel_rfl
 obtain ⟨v,ev,hv⟩:=four (p:=0) (q:=1) (r:=1 + x) (s:=y) h0 h1 (P:=λv=>0<=v /\ v<=1000000000000) (by omega) (by omega) (by omega) (by omega)
 refine ⟨v,a2,b2,?_,hv⟩
 unfold tpE
 simp -dsimp [con,drs,dr,isS,others,abn,cls,asZ,e1,p12,e2,ev]
theorem avU (a b:Int) (s1 s2 s3 s4 s6:Sl) {j:Int} (h0:0<=j) (h1:j<4):∃ (v a' b':Int),boE [.rf [.int a,.int b],s1,s2,s3,s4,.sh (.int j),s6] = .ok (.v (.int v) false,[.rf [.int a',.int b'],s1,s2,s3,s4,.sh (.int j),s6]) /\ 1<=v /\ v<=1000000000000:=by
 obtain ⟨x,a1,b1,e1,x0,x1⟩:=abz a b 9 (by omega) (by decide)
 obtain ⟨y,a2,b2,e2,y0,y1⟩:=abz a1 b1 999999999999 (by omega) (by decide)
 have p12:acC (.int 10) (.int 12) = .ok (.int 1000000000000,false):=by kernel_rfl
 obtain ⟨v,ev,hv⟩:=four (p:=1) (q:=1) (r:=1 + x) (s:=1 + y) h0 h1 (P:=λv=>1<=v /\ v<=1000000000000) (by omega) (by omega) (by omega) (by omega)
 refine ⟨v,a2,b2,?_,hv⟩
 unfold boE
 simp -dsimp [con,drs,dr,isS,others,abn,cls,asZ,e1,p12,acw,gI,e2,ev]
noncomputable def wtB:SF:=(aaN (abj (aaL 0 aaO (aad (aag 0) (aad (eC (.int 4)) aar))) (gN 5)) (aaN (abj tpE (gN 6)) (adQ (eMt 3 alV (aad (aax ad1 (aad (aag 6) (aad boE aar))) aar)))))
theorem avV (a b:Int) (s1 s2 s4 s5 s6:Sl) {ws:List (Int × Int)} (hl:ws.length<=100):∃ (a' b':Int) (t5 t6:Sl) (w:Int × Int),wtB [.rf [.int a,.int b],s1,s2,.ow (ws.map fT),s4,s5,s6] = .ok (.nx,[.rf [.int a',.int b'],s1,s2,.ow ((ws ++ [w]).map fT),s4,t5,t6]) /\ Fq 45 w:=by
 obtain ⟨j,a1,b1,e1,j0,j1⟩:=abz a b 4 (by omega) (by decide)
 obtain ⟨p,a2,b2,e2,p0,p1⟩:=avT a1 b1 s1 s2 (.ow (ws.map fT)) s4 s6 j0 j1
 obtain ⟨q,a3,b3,e3,q0,q1⟩:=avU a2 b2 s1 s2 (.ow (ws.map fT)) s4 (.sh (.int p)) j0 j1
 have e4:=aqA (x:=p) (b:=q) (M:=60) p0 q0 (by omega) (by omega)
 refine ⟨a3,b3,.sh (.int j),.sh (.int p),red p q,?_,aoD p0 (by omega) q0 (by omega)⟩
 have m1:=ai1 (ts:=ws.map fT) (t:=fT (red p q)) (by rw [List.length_map]; omega)
 rw [List.map_append,List.map_singleton]
 generalize fT (red p q)=R at *
 generalize ws.map fT=L at *
 unfold wtB
 generalize tpE=G1 at e2 ⊢
 generalize boE=G2 at e3 ⊢
 simp -dsimp [con,drs,dr,isS,others,abn,cls,e1,e2,e3,e4,m1]
theorem aoQ (s1 s2:Sl):∀ (us:List Tr) (a b:Int) (s4 s5 s6:Sl) (ws:List (Int × Int)),ws.length + us.length<=100->(∀ w ∈ ws,Fq 45 w)->∃ (a' b':Int) (t4 t5 t6:Sl) (vs:List (Int × Int)),acu (gN 4) wtB us [.rf [.int a,.int b],s1,s2,.ow (ws.map fT),s4,s5,s6] = .ok (.nx,[.rf [.int a',.int b'],s1,s2,.ow (vs.map fT),t4,t5,t6]) /\ vs.length=ws.length + us.length /\ ∀ w ∈ vs,Fq 45 w
 | [],a,b,s4,s5,s6,ws,_,h=>⟨a,b,s4,s5,s6,ws,rfl,rfl,h⟩
 | u :: us,a,b,s4,s5,s6,ws,hl,h=>by
  rw [List.length_cons] at hl
  obtain ⟨a1,b1,t5,t6,w,e,hw⟩:=avV a b s1 s2 (.sh u) s5 s6 (show ws.length<=100 by omega)
  obtain ⟨a',b',r4,r5,r6,vs,e',g1,g2⟩:=aoQ s1 s2 us a1 b1 (.sh u) t5 t6 (ws ++ [w]) (by simp; omega) (λx hx=>(List.mem_append.mp hx).elim (h x) λz=>(List.mem_singleton.mp z) ▸ hw)
  refine ⟨a',b',r4,r5,r6,vs,?_,by rw [g1]; simp; omega,g2⟩
  unfold acu
  rw [show gN 4 u [.rf [.int a,.int b],s1,s2,.ow (ws.map fT),s4,s5,s6] = .ok [.rf [.int a,.int b],s1,s2,.ow (ws.map fT),.sh u,s5,s6] from rfl]
  simp only [Rs.aa0]
  rw [e]
  exact e'
noncomputable def ruW:SF:=(aaN (anr 3 (acU aar)) (aaN (adZ (afn (agS (aad (aag 1) aar)) (gN 4) wtB)) (aty 3 (abx (afm (aad (eC (.str "shares")) (aad (aag 3) aar)))))))
theorem avW (a b:Int) {k:Nat} (hk:k<=4) (s2:Sl):∃ (a' b':Int) (vs:List (Int × Int)) (ρ : En),ruW [.rf [.int a,.int b],.sh (.int k),s2,.un,.un,.un,.un] = .ok (.rt (ruT (.sh vs)) false,.rf [.int a',.int b'] :: ρ) /\ vs.length=k /\ ∀ w ∈ vs,Fq 45 w:=by
 obtain ⟨a',b',t4,t5,t6,vs,e,h1,h2⟩:=aoQ (.sh (.int k)) s2 (L2.upTo 0 k) a b .un .un .un [] (by rw [aem]; simp; omega) (by simp)
 rw [aem] at h1
 have q1:(-1000000:Int)<=k:=by omega
 have q2:(k:Int)<=1000000:=by omega
 have e':acu (gN 4) wtB (L2.upTo 0 k) [.rf [.int a,.int b],.sh (.int k),s2,.ow [],.un,.un,.un] = .ok (.nx,[.rf [.int a',.int b'],.sh (.int k),s2,.ow (vs.map fT),t4,t5,t6]):=e
 refine ⟨a',b',vs,[.sh (.int k),s2,.sh (aaP vs),t4,t5,t6],?_,by simpa using h1,h2⟩
 show _=Rs.ok (Fl.rt (.tup [.str "shares",.lst (vs.map fT)]) false,(.rf [.int a',.int b'] :: [.sh (.int k),s2,.sh (.lst (vs.map fT)),t4,t5,t6]:En))
 unfold ruW
 generalize wtB=G at e' ⊢
 generalize vs.map fT=L at *
 simp -dsimp [abS,frz,dow,abn,con,ac0,eB,bOf,tru,dr,drs,cls,clV,adA,g1,g2,acV,okR,iOf,isS,others,acD,abT,acE,acW,ac8,aaz,adt,q1,q2,e']
theorem aqB:aq6=(aaN (abj (aaL 0 aaO (aad (aag 0) (aad (eC (.int 7)) aar))) (gN 2)) (aaN (sIf (abv (eOp gEq (aag 2) (eC (.int 0)))) (abx (afm (aad (eC (.str "middle")) (aad (eOp aaT (eC (.int 1)) (aaL 0 aaO (aad (aag 0) (aad (aag 1) aar)))) aar)))) adz) (aaN (sIf (abv (eOp gLt (aag 2) (eC (.int 4)))) (abx (eOp gIx (eCL [.tup [.str "least"],.tup [.str "greatest"],.tup [.str "product"]]) (eOp acw (aag 2) (eC (.int 1))))) adz) ruW))):=rfl
theorem ata (a b:Int) {k:Nat} (h1:1<=k) (h4:k<=4):∃ (r:Ru) (a' b':Int),aiq [.lst [.int a,.int b],.int k] = .ok ((ruT r,false),[.int a',.int b']) /\ aoH k r:=by
 obtain ⟨x,a1,b1,e1,x0,x1⟩:=abz a b 7 (by omega) (by decide)
 unfold aiq
 rw [aqB]
 by_cases h0:x=0
 ·subst h0
  obtain ⟨y,a2,b2,e2,y0,y1⟩:=abz a1 b1 k (by omega) (by omega)
  obtain ⟨j,hj⟩:∃ j:Nat,(j:Int)=1 + y:=⟨(1 + y).toNat,by omega⟩
  refine ⟨.mid j,a2,b2,?_,by omega,by omega⟩
  show _=Rs.ok ((Tr.tup [.str "middle",.int j],false),[Tr.int a2,Tr.int b2])
  unfold fnR
  generalize ruW=G
  simp -dsimp [aaz,con,drs,dr,isS,others,abn,abS,adE,ahV,cls,e1,gEq,aaC,aaX,bOf,aaT,e2,hj]
 ·have q:(x == 0)=false:=by simp [h0]
  by_cases h3:x<4
  ·obtain ⟨r,er,hr⟩:∃ r,gIx (.lst [.tup [.str "least"],.tup [.str "greatest"],.tup [.str "product"]]) (.int (x - 1)) = .ok (ruT r,false) /\ aoH k r:=by
    rcases (show x=1 \/ x=2 \/ x=3 by omega) with rfl | rfl | rfl
    ·exact ⟨.least,rfl,trivial⟩
    ·exact ⟨.greatest,rfl,trivial⟩
    ·exact ⟨.product,rfl,trivial⟩
   refine ⟨r,a1,b1,?_,hr⟩
   generalize ([.tup [.str "least"],.tup [.str "greatest"],.tup [.str "product"]]:List Tr)=L at *
   generalize ruW=G
   generalize ruT r=R at *
   unfold fnR
   simp -dsimp [aaz,con,drs,dr,isS,others,abn,abS,adE,ahV,cls,e1,gEq,aaC,aaX,q,bOf,gLt,gB,h3,acw,gI,er]
  ·obtain ⟨a',b',vs,ρ,e2,g1,g2⟩:=avW a1 b1 h4 (.sh (.int x))
   refine ⟨.sh vs,a',b',?_,g1,g2⟩
   generalize ruW=G at e2 ⊢
   generalize ruT (.sh vs)=R at *
   unfold fnR
   simp -dsimp [aaz,con,drs,dr,isS,others,abn,abS,adE,ahV,cls,e1,gEq,aaC,aaX,q,bOf,gLt,gB,h3,e2]
end K17
end
section
namespace K17
open PySem L2 BH
noncomputable def x2E:EF:=acd [none] (fSq (aag 1)) (gN 0) aey (acU aar)
noncomputable def x3E:EF:=acd [none] (fSq (aag 1)) (gN 0) aey (eSl (eOp ab5 (aag 0) (eC (.int 13))) oNo (ab9 (eC (.int 13))))
noncomputable def nbA:SF:=(abj (acU (aad (eC .non) (aad (acU aar) (aad (eCB (g1 aaU) (aad (aag 1) aar)) (aad (eSl (eOp ab5 (aag 1) (eC (.int 5))) oNo (ab9 (eC (.int 5)))) (aad x2E (aad x3E aar))))))) (gN 3))
noncomputable def nbB:SF:=(abj (eOp aaT (aag 3) (acU (aad (eOp aaT (eSl (aag 1) oNo (ab9 (eC (.int 3)))) (acU (aad (eOp aaT (eOp gIx (aag 1) (eC (.int 0))) (eCL [.tup [.int 0,.int 1]])) aar))) (aad (eOp aaT (acU (aad (eCB (g1 aaU) (aad (eOp gIx (aag 1) (eC (.int 0))) aar)) aar)) (eSl (aag 1) (ab9 (eC (.int 1))) oNo)) (aad (eOp gIx (aag 1) (eC (.int 0))) (aad (eC (.str "book")) aar)))))) (gN 3))
noncomputable def atb:List Tr := [.tup [.int 2,.int 4],.tup [.int 3,.int 2],.tup [.int (-1),.int 2],.tup [.int 1,.int 0],.tup [.int 0,.int 2],.lst [.int 1,.int 2],.tup [.bl true,.int 1],.tup [.int 1,.bl true],.tup [.int 1,.int 2,.int 3],.non]
noncomputable def nbC:SF:=(aaN (abj (eOp gIx (eCL atb) (eOp acw (aag 2) (eC (.int 10)))) (gN 4)) (aaN (abj (aaL 0 aaO (aad (aag 0) (aad (eCB (g1 abw) (aad (aag 1) aar)) aar))) (gN 5)) (aaN (abj (aaL 0 aaO (aad (aag 0) (aad (eCB (g1 abw) (aad (eOp gIx (aag 1) (eC (.int 0))) aar)) aar))) (gN 6)) (aaN (abj (eOp aaT (eOp aaT (eSl (eOp gIx (aag 1) (aag 5)) oNo (ab9 (aag 6))) (acU (aad (aag 4) aar))) (eSl (eOp gIx (aag 1) (aag 5)) (ab9 (eOp aaT (aag 6) (eC (.int 1)))) oNo)) (gN 7)) (abx (eOp aaT (eOp aaT (eSl (aag 1) oNo (ab9 (aag 5))) (acU (aad (aag 7) aar))) (eSl (aag 1) (ab9 (eOp aaT (aag 5) (eC (.int 1)))) oNo)))))))
theorem ak2:ajL=(aaN (abj (aaL 0 aaO (aad (aag 0) (aad (eC (.int 20)) aar))) (gN 2)) (aaN nbA (aaN nbB (aaN (sIf (abv (eOp gLt (aag 2) (eC (.int 10)))) (abx (eOp gIx (aag 3) (aag 2))) adz) nbC)))):=rfl
noncomputable def akj (rows:List (List (Int × Int))):List Tr := [.non,.lst [],.tup (rows.map aaP),.lst ((List.replicate 5 (rows.map aaP)).flatten.take 5),.lst (rows.map λ_ => .lst []),.lst (rows.map λl => .lst ((List.replicate 13 (l.map fT)).flatten.take 13))]
noncomputable def anu (rows:List (List (Int × Int))) (l:List (Int × Int)):List Tr := [.lst ((rows.map aaP).take 3 ++ [.lst (l.map fT ++ [.tup [.int 0,.int 1]])]),.lst ([.tup (l.map fT)] ++ (rows.map aaP).drop 1),aaP l,.str "book"]
theorem avX {c:Nat} {rows:List (List (Int × Int))} (hb:Bk c rows) (s0 s2 s4 s5 s6 s7:Sl):nbA [s0,.sh (bkT rows),s2,.un,s4,s5,s6,s7] = .ok (.nx,[s0,.sh (bkT rows),s2,.sh (.lst (akj rows)),s4,s5,s6,s7]):=by
 obtain ⟨h1,h2,h3,h4,h5⟩:=id hb
 have e2:=asY (r:=aaP) (h:=λ_=>Tr.lst []) (xs:=rows) (ρ := [s0,.sh (bkT rows),s2,.un,s4,s5,s6,s7]) (rest := []) (i:=fSq (aag 1)) (fe:=acU aar) (by omega) rfl rfl (λs'=>rfl) (λs'=>rfl) (λl m=>⟨true,rfl⟩)
 have e3:=asY (r:=aaP) (h:=λl=>Tr.lst ((List.replicate 13 (l.map fT)).flatten.take 13)) (xs:=rows) (ρ := [s0,.sh (bkT rows),s2,.un,s4,s5,s6,s7]) (rest := []) (i:=fSq (aag 1)) (fe:=eSl (eOp ab5 (aag 0) (eC (.int 13))) oNo (ab9 (eC (.int 13)))) (by omega) rfl rfl (λs'=>rfl) (λs'=>rfl) (λl m=>⟨true,by
  have hl:=(h5 l m).1
  have a1:ab5 (aaP l) (.int 13) = .ok (.lst (List.replicate 13 (l.map fT)).flatten,true):=arh (k:=13) (by rw [List.length_map]; omega) (by omega)
  have a2:=ahH (List.replicate 13 (l.map fT)).flatten 13
  have a2:gSl none (some 13) (.lst (List.replicate 13 (l.map fT)).flatten) = .ok (.lst ((List.replicate 13 (l.map fT)).flatten.take 13),true):=a2
  generalize aaP l=R at *
  generalize Tr.lst ((List.replicate 13 (l.map fT)).flatten.take 13)=Z at *
  generalize Tr.lst (List.replicate 13 (l.map fT)).flatten=Y at *
  dsimp only [acD,List.map]
  simp -dsimp [dr,a1,iOf,a2]⟩)
 have e4:ab5 (bkT rows) (.int 5) = .ok (.lst (List.replicate 5 (rows.map aaP)).flatten,true):=arh (k:=5) (by rw [List.length_map]; omega) (by omega)
 have e5:gSl none (some 5) (.lst (List.replicate 5 (rows.map aaP)).flatten) = .ok (.lst ((List.replicate 5 (rows.map aaP)).flatten.take 5),true):=ahH _ 5
 have e6:aaU (bkT rows) = .ok (.tup (rows.map aaP),false):=rfl
 show _=Rs.ok (Fl.nx,([s0,.sh (bkT rows),s2,.sh (.lst [.non,.lst [],.tup (rows.map aaP),.lst ((List.replicate 5 (rows.map aaP)).flatten.take 5),.lst (rows.map λ_ => .lst []),.lst (rows.map λl => .lst ((List.replicate 13 (l.map fT)).flatten.take 13))]),s4,s5,s6,s7]:En))
 have e2:x2E _=_:=e2
 have e3:x3E _=_:=e3
 generalize Tr.lst ((List.replicate 5 (rows.map aaP)).flatten.take 5)=Z5 at *
 generalize Tr.lst (List.replicate 5 (rows.map aaP)).flatten=Y5 at *
 generalize Tr.tup (rows.map aaP)=Tt at *
 generalize Tr.lst (rows.map λ_=>Tr.lst [])=Z2 at *
 generalize Tr.lst (rows.map λl=>Tr.lst ((List.replicate 13 (l.map fT)).flatten.take 13))=Z3 at *
 generalize bkT rows=T at *
 unfold nbA
 generalize x2E=G2 at *
 generalize x3E=G3 at *
 simp -dsimp [dr,drs,cls,g1,iOf,e2,e3,e4,e5,e6]
theorem avY {c:Nat} {rows:List (List (Int × Int))} (hb:Bk c rows) {l:List (Int × Int)} (hl:rows[0]? = some l) (s0 s2 s4 s5 s6 s7:Sl):nbB [s0,.sh (bkT rows),s2,.sh (.lst (akj rows)),s4,s5,s6,s7] = .ok (.nx,[s0,.sh (bkT rows),s2,.sh (.lst (akj rows ++ anu rows l)),s4,s5,s6,s7]):=by
 obtain ⟨h1,h2,h3,h4,h5⟩:=id hb
 have hc:=(h5 l (List.mem_of_getElem? hl)).1
 have e1:gIx (bkT rows) (.int 0) = .ok (aaP l,false):=acs (i:=0) (by rw [List.getElem?_map,hl]; rfl)
 have e2:gSl none (some 3) (bkT rows) = .ok (.lst ((rows.map aaP).take 3),true):=ahH _ 3
 have e3:gSl (some 1) none (bkT rows) = .ok (.lst ((rows.map aaP).drop 1),true):=afP _ 1
 have e4:aaT (aaP l) (.lst [.tup [.int 0,.int 1]]) = .ok (.lst (l.map fT ++ [.tup [.int 0,.int 1]]),true):=aes (by rw [List.length_map]; simp; omega)
 have e5:aaT (.lst ((rows.map aaP).take 3)) (.lst [.lst (l.map fT ++ [.tup [.int 0,.int 1]])]) = .ok (.lst ((rows.map aaP).take 3 ++ [.lst (l.map fT ++ [.tup [.int 0,.int 1]])]),true):=aes (by simp; omega)
 have e6:aaU (aaP l) = .ok (.tup (l.map fT),false):=rfl
 have e7:aaT (.lst [.tup (l.map fT)]) (.lst ((rows.map aaP).drop 1)) = .ok (.lst ([.tup (l.map fT)] ++ (rows.map aaP).drop 1),true):=aes (by simp; omega)
 have e8:aaT (.lst (akj rows)) (.lst (anu rows l)) = .ok (.lst (akj rows ++ anu rows l),true):=aes (by unfold akj anu; simp)
 unfold anu at e8 ⊢
 generalize akj rows=A at *
 generalize Tr.lst ((rows.map aaP).take 3 ++ [.lst (l.map fT ++ [.tup [.int 0,.int 1]])])=B1 at *
 generalize Tr.lst ([.tup (l.map fT)] ++ (rows.map aaP).drop 1)=B2 at *
 generalize Tr.lst (l.map fT ++ [.tup [.int 0,.int 1]])=B3 at *
 generalize Tr.lst ((rows.map aaP).take 3)=B4 at *
 generalize Tr.lst ((rows.map aaP).drop 1)=B5 at *
 generalize Tr.tup (l.map fT)=B6 at *
 generalize bkT rows=T at *
 generalize aaP l=R at *
 generalize Tr.lst (A ++ [B1,B2,R,.str "book"])=AB at *
 generalize Tr.lst A=A' at *
 unfold nbB
 simp -dsimp [dr,drs,cls,g1,iOf,e1,e2,e3,e4,e5,e6,e7,e8]
theorem avZ {c:Nat} {rows:List (List (Int × Int))} (hb:Bk c rows) {l:List (Int × Int)} (hl:rows[0]? = some l):∀ T ∈ akj rows ++ anu rows l,aje T=false:=by
 obtain ⟨h1,h2,h3,h4,h5⟩:=id hb
 have hc:=(h5 l (List.mem_of_getElem? hl)).1
 obtain ⟨l',rs,rfl⟩:∃ l' rs,rows=l' :: rs:=by cases rows with
  | nil=>simp at h1
  | cons a b=>exact ⟨a,b,rfl⟩
 cases hl
 have n5:1<=((l :: rs).map aaP).length:=by simp
 unfold akj anu
 intro T hT
 rw [List.mem_append] at hT
 rcases hT with hT | hT
 ·simp only [List.mem_cons,List.mem_nil_iff,or_false] at hT
  rcases hT with rfl | rfl | rfl | rfl | rfl | rfl
  ·rfl
  ·rfl
  ·rfl
  ·exact avN (by rw [aoK n5]; omega)
  ·exact aoJ (r := .lst []) (by simp) rfl
  ·exact aoJ (r := .lst ((List.replicate 13 (l.map fT)).flatten.take 13)) (by simp) (as7 (by rw [aoK (by rw [List.length_map]; omega)]; omega))
 ·simp only [List.mem_cons,List.mem_nil_iff,or_false] at hT
  rcases hT with rfl | rfl | rfl | rfl
  ·have hne:((((l :: rs).map aaP).take 3 ++ [Tr.lst (l.map fT ++ [.tup [.int 0,.int 1]])]).all λr=>ais r == ais ((((l :: rs).map aaP).take 3 ++ [Tr.lst (l.map fT ++ [.tup [.int 0,.int 1]])]).headD .non))=false:=by
    rw [List.all_eq_false]
    refine ⟨Tr.lst (l.map fT ++ [.tup [.int 0,.int 1]]),by simp,?_⟩
    show ¬ ((((l.map fT ++ [Tr.tup [.int 0,.int 1]]).length:Int) == ((l.map fT).length:Int))=true)
    simp
    omega
   generalize ((l :: rs).map aaP).take 3 ++ [Tr.lst (l.map fT ++ [.tup [.int 0,.int 1]])]=L at *
   show (decide (1<=(L.length:Int)) && decide ((L.length:Int)<=4) && L.all (adU 12) && L.all λr=>ais r == ais (L.headD .non))=false
   rw [hne,Bool.and_false]
  ·exact aoJ (r := .tup (l.map fT)) (by simp) rfl
  ·cases l with
   | nil=>simp at hc; omega
   | cons x l=>exact aoJ (r:=fT x) (by simp) rfl
  ·rfl
theorem av0:∀ o ∈ atb,aiZ o=false:=by
 unfold atb
 simp only [List.forall_mem_cons]
 exact ⟨rfl,rfl,rfl,rfl,rfl,rfl,rfl,rfl,rfl,rfl,λ_ h=>nomatch h⟩
theorem av1 {c:Nat} {rows:List (List (Int × Int))} (hb:Bk c rows) (a b:Int) {x:Nat} (h0:10<=x) (h9:x<20) (s3:Sl):∃ (T:Tr) (fr:Bool) (a' b':Int) (ρ : En),nbC [.rf [.int a,.int b],.sh (bkT rows),.sh (.int x),s3,.un,.un,.un,.un] = .ok (.rt T fr,.rf [.int a',.int b'] :: ρ) /\ aje T=false:=by
 obtain ⟨h1,h2,h3,h4,h5⟩:=id hb
 obtain ⟨l0,hl0⟩:∃ l,rows[0]? = some l:=⟨_,List.getElem?_eq_getElem (by omega)⟩
 have ho:atb.length=10:=rfl
 obtain ⟨o,eo⟩:∃ o,atb[x - 10]? = some o:=⟨_,List.getElem?_eq_getElem (by omega)⟩
 have no:=av0 o (List.mem_of_getElem? eo)
 have g0:gIx (.lst atb) (.int ((x:Int) - 10)) = .ok (o,false):=by
  have:=acs eo
  rw [show (((x - 10:Nat):Nat):Int)=(x:Int) - 10 by omega] at this
  exact this
 obtain ⟨y,a1,b1,e1,y0,y1⟩:=abz a b (rows.length:Int) (by omega) (by omega)
 obtain ⟨z,a2,b2,e2,z0,z1⟩:=abz a1 b1 (c:Int) (by omega) (by omega)
 obtain ⟨y,rfl⟩:=Int.eq_ofNat_of_zero_le y0
 obtain ⟨z,rfl⟩:=Int.eq_ofNat_of_zero_le z0
 obtain ⟨l,hl⟩:∃ l,rows[y]? = some l:=⟨_,List.getElem?_eq_getElem (by omega)⟩
 have hlc:=(h5 l (List.mem_of_getElem? hl)).1
 have q1:abw (bkT rows) = .ok (.int (rows.length:Int),false):=by
  show Rs.ok (Tr.int ((rows.map aaP).length:Int),false)=_
  rw [List.length_map]
 have q2:gIx (bkT rows) (.int 0) = .ok (aaP l0,false):=acs (i:=0) (by rw [List.getElem?_map,hl0]; rfl)
 have q3:abw (aaP l0) = .ok (.int (c:Int),false):=by
  show Rs.ok (Tr.int ((l0.map fT).length:Int),false)=_
  rw [List.length_map,(h5 l0 (List.mem_of_getElem? hl0)).1]
 have q4:gIx (bkT rows) (.int (y:Nat)) = .ok (aaP l,false):=acs (by rw [List.getElem?_map,hl]; rfl)
 have q5:gSl none (some (z:Int)) (aaP l) = .ok (.lst ((l.map fT).take z),true):=ahH _ z
 have q6:gSl (some ((z:Int) + 1)) none (aaP l) = .ok (.lst ((l.map fT).drop (z + 1)),true):=afP _ (z + 1)
 have q7:aaT (.lst ((l.map fT).take z)) (.lst [o]) = .ok (.lst ((l.map fT).take z ++ [o]),true):=aes (by simp; omega)
 have q8:aaT (.lst ((l.map fT).take z ++ [o])) (.lst ((l.map fT).drop (z + 1))) = .ok (.lst ((l.map fT).take z ++ [o] ++ (l.map fT).drop (z + 1)),true):=aes (by simp; omega)
 have nw:adU 12 (.lst ((l.map fT).take z ++ [o] ++ (l.map fT).drop (z + 1)))=false:=avM (t:=o) (by simp) no
 generalize Tr.lst ((l.map fT).take z ++ [o] ++ (l.map fT).drop (z + 1))=R' at *
 have q9:gSl none (some (y:Int)) (bkT rows) = .ok (.lst ((rows.map aaP).take y),true):=ahH _ y
 have q10:gSl (some ((y:Int) + 1)) none (bkT rows) = .ok (.lst ((rows.map aaP).drop (y + 1)),true):=afP _ (y + 1)
 have q11:aaT (.lst ((rows.map aaP).take y)) (.lst [R']) = .ok (.lst ((rows.map aaP).take y ++ [R']),true):=aes (by simp; omega)
 have q12:aaT (.lst ((rows.map aaP).take y ++ [R'])) (.lst ((rows.map aaP).drop (y + 1))) = .ok (.lst ((rows.map aaP).take y ++ [R'] ++ (rows.map aaP).drop (y + 1)),true):=aes (by simp; omega)
 refine ⟨.lst ((rows.map aaP).take y ++ [R'] ++ (rows.map aaP).drop (y + 1)),true,a2,b2,[.sh (bkT rows),.sh (.int x),s3,.sh o,.sh (.int (y:Nat)),.sh (.int (z:Nat)),.sh R'],?_,aoJ (r:=R') (by simp) nw⟩
 have da:acw (.int x) (.int 10) = .ok (.int ((x:Int) - 10),false):=rfl
 have dz:aaT (.int (z:Nat)) (.int 1) = .ok (.int ((z:Int) + 1),false):=rfl
 have dy:aaT (.int (y:Nat)) (.int 1) = .ok (.int ((y:Int) + 1),false):=rfl
 generalize Tr.lst ((rows.map aaP).take y ++ [R'] ++ (rows.map aaP).drop (y + 1))=Z at *
 generalize Tr.lst ((rows.map aaP).take y ++ [R'])=Z1 at *
 generalize Tr.lst ((rows.map aaP).take y)=Z2 at *
 generalize Tr.lst ((rows.map aaP).drop (y + 1))=Z3 at *
 generalize Tr.lst ((l.map fT).take z ++ [o])=Z4 at *
 generalize Tr.lst ((l.map fT).take z)=Z5 at *
 generalize Tr.lst ((l.map fT).drop (z + 1))=Z6 at *
 generalize bkT rows=T at *
 generalize aaP l=R at *
 generalize aaP l0=R0 at *
 generalize (y:Int) + 1=Y1 at *
 generalize (z:Int) + 1=Z7 at *
 generalize (y:Int)=Y at *
 generalize (z:Int)=Z8 at *
 generalize (rows.length:Int)=N at *
 generalize (c:Int)=C at *
 unfold nbC
 generalize atb=O at *
 simp -dsimp [con,drs,dr,isS,others,abn,cls,g1,da,g0,q1,e1,q2,q3,e2,q4,iOf,q5,dz,q6,q7,q8,q9,dy,q10,q11,q12]
theorem amL {c:Nat} {rows:List (List (Int × Int))} (hb:Bk c rows) (a b:Int):∃ (T:Tr) (fr:Bool) (a' b':Int),ad2 [.lst [.int a,.int b],bkT rows] = .ok ((T,fr),[.int a',.int b']) /\ aje T=false:=by
 obtain ⟨x,a1,b1,e1,x0,x1⟩:=abz a b 20 (by omega) (by decide)
 obtain ⟨x,rfl⟩:=Int.eq_ofNat_of_zero_le x0
 obtain ⟨l,hl⟩:∃ l,rows[0]? = some l:=⟨_,List.getElem?_eq_getElem (by have:=hb.1; omega)⟩
 have eA:=avX hb (.rf [.int a1,.int b1]) (.sh (.int (x:Nat))) .un .un .un .un
 have eB:=avY hb hl (.rf [.int a1,.int b1]) (.sh (.int (x:Nat))) .un .un .un .un
 have hn:=avZ hb hl
 have ht:(akj rows ++ anu rows l).length=10:=rfl
 unfold ad2
 rw [ak2]
 by_cases h:x<10
 ·obtain ⟨T,eT⟩:∃ T,(akj rows ++ anu rows l)[x]? = some T:=⟨_,List.getElem?_eq_getElem (by omega)⟩
  refine ⟨T,false,a1,b1,?_,hn T (List.mem_of_getElem? eT)⟩
  have g0:=acs eT
  have lt:gLt (.int (x:Nat)) (.int 10) = .ok (.bl true,false):=by
   show Rs.ok (Tr.bl (decide ((x:Int)<10)),false)=_
   rw [decide_eq_true (by omega)]
  generalize Tr.lst (akj rows ++ anu rows l)=S at *
  generalize Tr.lst (akj rows)=S0 at *
  generalize bkT rows=B at *
  generalize nbC=G3
  generalize nbA=G1 at *
  generalize nbB=G2 at *
  unfold fnR
  simp -dsimp [aaz,con,drs,dr,isS,others,abn,abS,adE,ahV,cls,e1,eA,eB,lt,bOf,g0]
 ·obtain ⟨T,fr,a',b',ρ,eC,hT⟩:=av1 hb a1 b1 (x:=x) (by omega) (by omega) (.sh (.lst (akj rows ++ anu rows l)))
  refine ⟨T,fr,a',b',?_,hT⟩
  have lt:gLt (.int (x:Nat)) (.int 10) = .ok (.bl false,false):=by
   show Rs.ok (Tr.bl (decide ((x:Int)<10)),false)=_
   rw [decide_eq_false (by omega)]
  generalize Tr.lst (akj rows ++ anu rows l)=S at *
  generalize Tr.lst (akj rows)=S0 at *
  generalize bkT rows=B at *
  generalize nbC=G3 at *
  generalize nbA=G1 at *
  generalize nbB=G2 at *
  unfold fnR
  simp -dsimp [aaz,con,drs,dr,isS,others,abn,abS,adE,ahV,cls,e1,eA,eB,lt,bOf,eC]
end K17
end
section
namespace K17
open PySem L2 BH
noncomputable def col (rows:List (List (Int × Int))) (i:Nat):List (Int × Int):=rows.map λl=>at2 l i
theorem ai2 (l:List (Int × Int)):abw (aaP l) = .ok (.int (l.length:Int),false):=by
 show Rs.ok (Tr.int ((l.map fT).length:Int),false)=_
 rw [List.length_map]
theorem aoR (rows:List (List (Int × Int))):abw (bkT rows) = .ok (.int (rows.length:Int),false):=by
 show Rs.ok (Tr.int ((rows.map aaP).length:Int),false)=_
 rw [List.length_map]
noncomputable def Len (c:Nat) (rows:List (List (Int × Int))):Prop:=∀ l ∈ rows,l.length=c
noncomputable def coE:EF:=(eOp gIx (aag 0) (aag 1))
theorem av2 {l:List (Int × Int)} {i:Nat} (h:i<l.length):coE [.sh (aaP l),.sh (.int i)] = .ok (.v (fT (at2 l i)) false,[.sh (aaP l),.sh (.int i)]):=by
 have e:gIx (aaP l) (.int i) = .ok (fT (at2 l i),false):=aq9 h
 generalize fT (at2 l i)=V at *
 generalize aaP l=T at *
 unfold coE
 simp -dsimp [dr,e]
theorem atc (rows:List (List (Int × Int))) (i:Nat):Tr.lst (rows.map λl=>fT (at2 l i))=aaP (col rows i):=by
 unfold aaP col
 rw [List.map_map]
 rfl
theorem ajY {c:Nat} {rows:List (List (Int × Int))} (h:Len c rows) (hl:rows.length<=100) {i:Nat} (hi:i<c):adu [bkT rows,.int i] = .ok (aaP (col rows i),true):=by
 have e:=asY (r:=aaP) (h:=λl=>fT (at2 l i)) (xs:=rows) (ρ := [.sh (bkT rows),.sh (.int i)]) (rest := [some 1]) (i:=fSq (aag 0)) (fe:=coE) (by omega) rfl rfl (λs'=>rfl) (λs'=>rfl) (λl m=>⟨false,av2 (by rw [h l m]; exact hi)⟩)
 rw [atc] at e
 show fnP 2 (abx (acd [none,some 1] (fSq (aag 0)) (gN 0) aey coE)) [bkT rows,.int i]=_
 generalize acd _ _ _ _ _=G at e ⊢
 generalize aaP (col rows i)=R at *
 generalize bkT rows=T at *
 unfold fnP
 simp -dsimp [aaz,e]
noncomputable def wbE:EF:=(aax abR (aad (aag 1) (aad (aax adu (aad (aag 2) (aad (aag 0) aar))) aar)))
theorem ajZ {c:Nat} {rows:List (List (Int × Int))} {R:Tr} {V:Nat->Int × Int} (h:Len c rows) (h1:1<=rows.length) (hl:rows.length<=100) (hc:c<=12) (hV:∀ i,i<c->abR [R,aaP (col rows i)] = .ok (fT (V i),false)):aci [bkT rows,R] = .ok (.lst ((List.range c).map λi=>fT (V i)),true):=by
 obtain ⟨l,hl0⟩:∃ l,rows[0]? = some l:=⟨_,List.getElem?_eq_getElem (by omega)⟩
 have e3:gIx (bkT rows) (.int 0) = .ok (aaP l,false):=acs (i:=0) (by rw [List.getElem?_map,hl0]; rfl)
 have e4:=ai2 l
 rw [h l (List.mem_of_getElem? hl0)] at e4
 have q1:(-1000000:Int)<=c:=by omega
 have q2:(c:Int)<=1000000:=by omega
 have ef:agS (aad (eCB (g1 abw) (aad (eOp gIx (aag 0) (eC (.int 0))) aar)) aar) [.sh (bkT rows),.sh R] = .ok ((List.range c).map λi:Nat=>Tr.int i,[.sh (bkT rows),.sh R]):=by
  rw [<-agh]
  generalize bkT rows=T at *
  generalize aaP l=T2 at *
  simp -dsimp [drs,dr,okR,q1,q2,e3,e4,g1]
 have e:=asY (r:=λi:Nat=>Tr.int i) (h:=λi=>fT (V i)) (xs:=List.range c) (τ := [.sh R,.sh (bkT rows)]) (rest := [some 1,some 0]) (fe:=wbE) (by simp; omega) ef rfl (λs'=>rfl) (λs'=>rfl) (λi hi=>⟨false,by
  have hi':i<c:=by simpa using hi
  have a1:=ajY h hl hi'
  have a2:=hV i hi'
  unfold wbE
  generalize fT (V i)=Vi at *
  generalize aaP (col rows i)=C at *
  generalize bkT rows=T at *
  simp -dsimp [drs,dr,isS,a1,a2]⟩)
 show fnP 2 (abx (acd [none,some 1,some 0] (agS (aad (eCB (g1 abw) (aad (eOp gIx (aag 0) (eC (.int 0))) aar)) aar)) (gN 0) aey wbE)) [bkT rows,R]=_
 generalize acd _ _ _ _ _=G at e ⊢
 generalize Tr.lst ((List.range c).map λi=>fT (V i))=L at *
 generalize bkT rows=T at *
 unfold fnP
 simp -dsimp [aaz,e]
end K17
end
section
namespace K17
open PySem L2 BH
theorem aqC (a b k:Int) (h:0<k) (hk:k.natAbs<2 ^ 250):∃ x a' b',aaO [.lst [.int a,.int b],.int k] = .ok ((.int x,false),[.int a',.int b']) /\ 0<=x /\ x<k:=by
 have h0:k ≠ 0:=by omega
 have h1:∀ n,amt n k=true:=λn=>aeP (M:=250) h0 hk (by omega)
 by_cases z:a=0
 ·subst z
  refine ⟨b.fmod k,0,b.fdiv k,?_,ajW b k h⟩
  unfold aaO ajK fnR
  simp -dsimp [abS,frz,dow,abn,con,ac0,eB,bOf,tru,dr,drs,cls,clV,adA,g1,g2,gI,gIC,gB,gEq,gNe,gIn,aaT,ab5,acL,acK,acC,acw,gLt,gGt,gLe,gGe,gIx,abw,ady,abQ,aaU,adq,adX,acF,acV,okR,iOf,isS,others,acD,abT,acE,acW,ac8,aaC,aa7,aaM,aaQ,aaR,aaS,aaA,aaw,aaX,aa8,aa3,ac7,atI,ixN,aaz,aqT,h0,h1,adE,ahV]
 ·refine ⟨a.fmod k,a.fdiv k,b,?_,ajW a k h⟩
  have z1:(a == 0)=false:=by simp [z]
  unfold aaO ajK fnR
  simp -dsimp [abS,frz,dow,abn,con,ac0,eB,bOf,tru,dr,drs,cls,clV,adA,g1,g2,gI,gIC,gB,gEq,gNe,gIn,aaT,ab5,acL,acK,acC,acw,gLt,gGt,gLe,gGe,gIx,abw,ady,abQ,aaU,adq,adX,acF,acV,okR,iOf,isS,others,acD,abT,acE,acW,ac8,aaC,aa7,aaM,aaQ,aaR,aaS,aaA,aaw,aaX,aa8,aa3,ac7,atI,ixN,aaz,aqT,z1,h0,h1,adE,ahV]
noncomputable def anv (c:Int):Tr->Bool
 | .int k=>decide (0<=k) && decide (k<=c)
 | _=>false
theorem ak3 (T:Tr) (c:Int):adf [T,.int c] = .ok (.bl (anv c T),false):=by
 have e:=afk T
 cases T with
 | int k =>
  have e:ab1 [.int k] = .ok (.bl true,false):=e
  have l1:gLe (.int 0) (.int k) = .ok (.bl (decide (0<=k)),false):=rfl
  have l2:gLe (.int k) (.int c) = .ok (.bl (decide (k<=c)),false):=rfl
  show _=Rs.ok (Tr.bl (decide (0<=k) && decide (k<=c)),false)
  unfold adf af3 fnP
  generalize decide (0<=k)=A at *
  generalize decide (k<=c)=B at *
  cases A <;> simp -dsimp [aaz,drs,dr,isS,e,l1,l2,bOf,eB]
 | _ =>
  unfold isW at e
  unfold anv adf af3 fnP
  simp -dsimp [aaz,drs,dr,isS,e,bOf,eB]
noncomputable def av3 (c f:Int):List Tr := [.int (-1),.int (c + 1),.non,.bl true,.str "1",.tup [.int 1,.int 1],.lst [.int 1],.int (c + f),.int (0 - f),.bl false]
theorem atd {c f:Int} (hc:0<=c) (hf:0<f):∀ T ∈ av3 c f,anv c T=false:=by
 have h1:anv c (.int (c + 1))=false:=by
  show (decide (0<=c + 1) && decide (c + 1<=c))=false
  rw [decide_eq_false (p:=c + 1<=c) (by omega),Bool.and_false]
 have h2:anv c (.int (c + f))=false:=by
  show (decide (0<=c + f) && decide (c + f<=c))=false
  rw [decide_eq_false (p:=c + f<=c) (by omega),Bool.and_false]
 have h3:anv c (.int (0 - f))=false:=by
  show (decide (0<=0 - f) && decide (0 - f<=c))=false
  rw [decide_eq_false (p:=0<=0 - f) (by omega),Bool.false_and]
 unfold av3
 simp only [List.forall_mem_cons]
 exact ⟨rfl,h1,rfl,rfl,rfl,rfl,rfl,h2,h3,rfl,λ_ h=>nomatch h⟩
theorem ak4 (a b:Int) (c:Nat):∃ (T:Tr) (a' b':Int),adg [.lst [.int a,.int b],.int (c:Nat)] = .ok ((T,false),[.int a',.int b']) /\ anv c T=false:=by
 have p59:(10:Int) ^ 59=100000000000000000000000000000000000000000000000000000000000:=by decide
 obtain ⟨x,a1,b1,e1,x0,x1⟩:=aqC a b ((10:Int) ^ 59) (by rw [p59]; omega) (by rw [p59]; decide)
 obtain ⟨y,a2,b2,e2,y0,y1⟩:=abz a1 b1 10 (by omega) (by decide)
 obtain ⟨y,rfl⟩:=Int.eq_ofNat_of_zero_le y0
 have hp:acC (.int 10) (.int 59) = .ok (.int ((10:Int) ^ 59),false):=rfl
 have ha:aaT (.int ((10:Int) ^ 59)) (.int x) = .ok (.int ((10:Int) ^ 59 + x),false):=rfl
 have hn:=atd (c:=c) (f:=(10:Int) ^ 59 + x) (by omega) (by rw [p59]; omega)
 have hl:(av3 c ((10:Int) ^ 59 + x)).length=10:=rfl
 obtain ⟨T,eT⟩:∃ T,(av3 c ((10:Int) ^ 59 + x))[y]? = some T:=⟨_,List.getElem?_eq_getElem (by omega)⟩
 have g0:=acs eT
 refine ⟨T,a2,b2,?_,hn T (List.mem_of_getElem? eT)⟩
 generalize (10:Int) ^ 59 + x=F at *
 generalize (10:Int) ^ 59=P at *
 unfold av3 at g0
 have q1:aaT (.int (c:Nat)) (.int 1) = .ok (.int ((c:Int) + 1),false):=rfl
 have q2:aaT (.int (c:Nat)) (.int F) = .ok (.int ((c:Int) + F),false):=rfl
 have q3:acw (.int 0) (.int F) = .ok (.int (0 - F),false):=rfl
 have q4:amu (.int 1) = .ok (.int (-1),false):=rfl
 generalize (c:Int) + 1=C1 at *
 generalize (c:Int) + F=C2 at *
 generalize (0:Int) - F=C3 at *
 generalize (c:Int)=C at *
 generalize (y:Int)=Y at *
 unfold adg air fnR
 simp -dsimp [aaz,con,drs,dr,isS,others,abn,abS,adE,ahV,cls,hp,e1,ha,q1,q2,q3,q4,e2,g0]
noncomputable def aqD:Tr := .tup [.int 1,.int 1]
noncomputable def ones (n:Nat):List Tr:=(List.range n).map λ_=>aqD
noncomputable def av4 (n p:Nat):List Tr := [.non,.tup [],.tup [.str "least",.int 1],.lst [.str "least"],.str "least",.tup [.str "most"],.tup [.str "shares"],.tup [.str "shares",.lst (ones n ++ [aqD])]] ++ [.tup [.str "shares",.tup (ones n)],.tup [.str "shares",.lst ((ones n).take p ++ [.tup [.int (-1),.int 2]] ++ (ones n).drop (p + 1))]] ++ [.tup [.str "shares",.lst ((ones n).take p ++ [.tup [.int 2,.int 4]] ++ (ones n).drop (p + 1))],.tup [.str "shares",.lst ((ones n).take p ++ [.int 1] ++ (ones n).drop (p + 1))]] ++
 [.tup [.str "middle",.int 0],.tup [.str "middle",.int ((n:Int) + 1)],.tup [.str "middle",.bl true],.tup [.str "middle"],.tup [.str "product",.int 1]] ++ [.tup [.str "middle",.str "1"],.tup [.str "shares",.lst ((ones n).drop 1)],.int 7]
noncomputable def chk:Rs (Tr × Bool)->Bool
 | .ok (.bl false,false)=>true
 | _=>false
theorem av5 {r:Rs (Tr × Bool)} (h:chk r=true):r = .ok (.bl false,false):=by
 unfold chk at h
 split at h
 ·rfl
 ·cases h
theorem ate {n p:Nat} (h1:1<=n) (h4:n<=4) (hp:p<n):∀ R ∈ av4 n p,abZ [R,.int (n:Nat)] = .ok (.bl false,false):=λR m=>by
 have:(av4 n p).all (λR=>chk (abZ [R,.int (n:Nat)]))=true:=by
  rcases (show n=1 \/ n=2 \/ n=3 \/ n=4 by omega) with rfl | rfl | rfl | rfl <;> rcases (show p=0 \/ p=1 \/ p=2 \/ p=3 by omega) with rfl | rfl | rfl | rfl <;> first | omega | kernel_rfl
 exact av5 (List.all_eq_true.mp this R m)
noncomputable def onC:EF:=(acd [none] (agS (aad (aag 1) aar)) (gN 0) aey (eC aqD))
noncomputable def nr1:SF:=(abj (acU (aad (eC .non) (aad (afm aar) (aad (eC (.tup [.str "least",.int 1])) (aad (eCL [.str "least"]) (aad (eC (.str "least")) (aad (eC (.tup [.str "most"])) (aad (eC (.tup [.str "shares"])) (aad (afm (aad (eC (.str "shares")) (aad (eOp aaT (aag 2) (eCL [aqD])) aar))) aar))))))))) (gN 4))
noncomputable def spE (o:Tr):EF:=(afm (aad (eC (.str "shares")) (aad (eOp aaT (eOp aaT (eSl (aag 2) oNo (ab9 (aag 3))) (eCL [o])) (eSl (aag 2) (ab9 (eOp aaT (aag 3) (eC (.int 1)))) oNo)) aar)))
noncomputable def nr2:SF:=(abj (eOp aaT (aag 4) (acU (aad (afm (aad (eC (.str "shares")) (aad (eCB (g1 aaU) (aad (aag 2) aar)) aar))) (aad (spE (.tup [.int (-1),.int 2])) aar)))) (gN 4))
noncomputable def nr3:SF:=(abj (eOp aaT (aag 4) (acU (aad (spE (.tup [.int 2,.int 4])) (aad (spE (.int 1)) aar)))) (gN 4))
noncomputable def nr4:SF:=(abj (eOp aaT (aag 4) (acU (aad (eC (.tup [.str "middle",.int 0])) (aad (afm (aad (eC (.str "middle")) (aad (eOp aaT (aag 1) (eC (.int 1))) aar))) (aad (eC (.tup [.str "middle",.bl true])) (aad (eC (.tup [.str "middle"])) (aad (eC (.tup [.str "product",.int 1])) aar))))))) (gN 4))
noncomputable def nr5:SF:=(abj (eOp aaT (aag 4) (acU (aad (eC (.tup [.str "middle",.str "1"])) (aad (afm (aad (eC (.str "shares")) (aad (eSl (aag 2) (ab9 (eC (.int 1))) oNo) aar))) (aad (eC (.int 7)) aar))))) (gN 4))
theorem ak5:ajM=(aaN (abj onC (gN 2)) (aaN (abj (aaL 0 aaO (aad (aag 0) (aad (aag 1) aar))) (gN 3)) (aaN nr1 (aaN nr2 (aaN nr3 (aaN nr4 (aaN nr5 (abx (eOp gIx (aag 4) (aaL 0 aaO (aad (aag 0) (aad (eC (.int 20)) aar)))))))))))):=rfl
theorem amM (a b:Int) {n:Nat} (h1:1<=n) (h4:n<=4):∃ (T:Tr) (a' b':Int),ad3 [.lst [.int a,.int b],.int (n:Nat)] = .ok ((T,false),[.int a',.int b']) /\ abZ [T,.int (n:Nat)] = .ok (.bl false,false):=by
 obtain ⟨x,a1,b1,e1,x0,x1⟩:=abz a b (n:Int) (by omega) (by omega)
 obtain ⟨p,rfl⟩:=Int.eq_ofNat_of_zero_le x0
 obtain ⟨y,a2,b2,e2,y0,y1⟩:=abz a1 b1 20 (by omega) (by decide)
 obtain ⟨y,rfl⟩:=Int.eq_ofNat_of_zero_le y0
 have hl:(av4 n p).length=20:=rfl
 obtain ⟨T,eT⟩:∃ T,(av4 n p)[y]? = some T:=⟨_,List.getElem?_eq_getElem (by omega)⟩
 have g0:=acs eT
 refine ⟨T,a2,b2,?_,ate h1 h4 (by omega) T (List.mem_of_getElem? eT)⟩
 have on:(ones n).length=n:=by unfold ones; simp
 have q1':(-1000000:Int)<=n:=by omega
 have q2':(n:Int)<=1000000:=by omega
 have eo:onC [.rf [.int a,.int b],.sh (.int (n:Nat)),.un,.un,.un] = .ok (.v (.lst (ones n)) true,[.rf [.int a,.int b],.sh (.int (n:Nat)),.un,.un,.un]):=by
  refine asY (r:=λi:Nat=>Tr.int i) (h:=λ_=>aqD) (xs:=List.range n) (τ := []) (rest := []) (fe:=eC aqD) (by simp; omega) ?_ rfl (λs'=>rfl) (λs'=>rfl) (λi _=>⟨false,rfl⟩)
  rw [<-agh]
  simp -dsimp [drs,dr,okR,q1',q2']
 have t1:aaT (.lst (ones n)) (.lst [aqD]) = .ok (.lst (ones n ++ [aqD]),true):=aes (by simp; omega)
 have t2:aaU (.lst (ones n)) = .ok (.tup (ones n),false):=rfl
 have t3:gSl none (some (p:Int)) (.lst (ones n)) = .ok (.lst ((ones n).take p),true):=ahH _ p
 have t4:gSl (some ((p:Int) + 1)) none (.lst (ones n)) = .ok (.lst ((ones n).drop (p + 1)),true):=afP _ (p + 1)
 have t5:∀ o,aaT (.lst ((ones n).take p)) (.lst [o]) = .ok (.lst ((ones n).take p ++ [o]),true):=λo=>aes (by simp; omega)
 have t6:∀ o,aaT (.lst ((ones n).take p ++ [o])) (.lst ((ones n).drop (p + 1))) = .ok (.lst ((ones n).take p ++ [o] ++ (ones n).drop (p + 1)),true):=λo=>aes (by simp; omega)
 have t7:gSl (some 1) none (.lst (ones n)) = .ok (.lst ((ones n).drop 1),true):=afP _ 1
 have t8:aaT (.int (p:Nat)) (.int 1) = .ok (.int ((p:Int) + 1),false):=rfl
 have t9:aaT (.int (n:Nat)) (.int 1) = .ok (.int ((n:Int) + 1),false):=rfl
 have es:∀ (o:Tr) (s0 s1 s4:Sl),spE o [s0,s1,.sh (.lst (ones n)),.sh (.int (p:Nat)),s4] = .ok (.v (.tup [.str "shares",.lst ((ones n).take p ++ [o] ++ (ones n).drop (p + 1))]) false,[s0,s1,.sh (.lst (ones n)),.sh (.int (p:Nat)),s4]):=λo s0 s1 s4=>by
  have t5:=t5 o
  have t6:=t6 o
  generalize Tr.lst ((ones n).take p ++ [o] ++ (ones n).drop (p + 1))=Z1 at *
  generalize Tr.lst ((ones n).take p ++ [o])=Z2 at *
  generalize Tr.lst ((ones n).take p)=Z3 at *
  generalize Tr.lst ((ones n).drop (p + 1))=Z4 at *
  generalize Tr.lst (ones n)=Z5 at *
  generalize (p:Int) + 1=P1 at *
  generalize (p:Int)=P at *
  unfold spE
  simp -dsimp [drs,dr,cls,iOf,t3,t4,t5,t6,t8]
 unfold av4 at g0
 have A1:∀ A B:List Tr,A.length<=50->B.length<=50->aaT (.lst A) (.lst B) = .ok (.lst (A ++ B),true):=λA B u v=>aes (by omega)
 have es1:=es (.tup [.int (-1),.int 2])
 have es2:=es (.tup [.int 2,.int 4])
 have es3:=es (.int 1)
 generalize Tr.tup [.str "shares",.lst ((ones n).take p ++ [.tup [.int (-1),.int 2]] ++ (ones n).drop (p + 1))]=Y1 at *
 generalize Tr.tup [.str "shares",.lst ((ones n).take p ++ [.tup [.int 2,.int 4]] ++ (ones n).drop (p + 1))]=Y2 at *
 generalize Tr.tup [.str "shares",.lst ((ones n).take p ++ [.int 1] ++ (ones n).drop (p + 1))]=Y3 at *
 generalize Tr.lst (ones n ++ [aqD])=Y4 at *
 generalize Tr.tup (ones n)=Y5 at *
 generalize Tr.lst ((ones n).drop 1)=Y6 at *
 generalize Tr.lst (ones n)=Y7 at *
 generalize (n:Int) + 1=N1 at *
 generalize hL1:([.non,.tup [],.tup [.str "least",.int 1],.lst [.str "least"],.str "least",.tup [.str "most"],.tup [.str "shares"],.tup [.str "shares",Y4]]:List Tr)=L1 at *
 generalize hL2:([.tup [.str "shares",Y5],Y1]:List Tr)=LL2 at *
 generalize hL3:([Y2,Y3]:List Tr)=LL3 at *
 generalize hL4:([.tup [.str "middle",.int 0],.tup [.str "middle",.int N1],.tup [.str "middle",.bl true],.tup [.str "middle"],.tup [.str "product",.int 1]]:List Tr)=LL4 at *
 generalize hL5:([.tup [.str "middle",.str "1"],.tup [.str "shares",Y6],.int 7]:List Tr)=LL5 at *
 have l1:L1.length=8:=by rw [<-hL1]; rfl
 have l2:LL2.length=2:=by rw [<-hL2]; rfl
 have l3:LL3.length=2:=by rw [<-hL3]; rfl
 have l4:LL4.length=5:=by rw [<-hL4]; rfl
 have l5:LL5.length=3:=by rw [<-hL5]; rfl
 have f1:nr1 [.rf [.int a1,.int b1],.sh (.int (n:Nat)),.sh Y7,.sh (.int (p:Nat)),.un] = .ok (.nx,[.rf [.int a1,.int b1],.sh (.int (n:Nat)),.sh Y7,.sh (.int (p:Nat)),.sh (.lst L1)]):=by
  rw [<-hL1]
  unfold nr1
  simp -dsimp [drs,dr,cls,t1]
 have f2:∀ L:List Tr,L.length<=40->nr2 [.rf [.int a1,.int b1],.sh (.int (n:Nat)),.sh Y7,.sh (.int (p:Nat)),.sh (.lst L)] = .ok (.nx,[.rf [.int a1,.int b1],.sh (.int (n:Nat)),.sh Y7,.sh (.int (p:Nat)),.sh (.lst (L ++ LL2))]):=λL hL=>by
  have:=A1 L LL2 (by omega) (by omega)
  rw [<-hL2] at this ⊢
  unfold nr2
  generalize spE (.tup [.int (-1),.int 2])=G at *
  simp -dsimp [drs,dr,cls,g1,t2,es1,this]
 have f3:∀ L:List Tr,L.length<=40->nr3 [.rf [.int a1,.int b1],.sh (.int (n:Nat)),.sh Y7,.sh (.int (p:Nat)),.sh (.lst L)] = .ok (.nx,[.rf [.int a1,.int b1],.sh (.int (n:Nat)),.sh Y7,.sh (.int (p:Nat)),.sh (.lst (L ++ LL3))]):=λL hL=>by
  have:=A1 L LL3 (by omega) (by omega)
  rw [<-hL3] at this ⊢
  unfold nr3
  generalize spE (.tup [.int 2,.int 4])=G at *
  generalize spE (.int 1)=G' at *
  simp -dsimp [drs,dr,cls,es2,es3,this]
 have f4:∀ L:List Tr,L.length<=40->nr4 [.rf [.int a1,.int b1],.sh (.int (n:Nat)),.sh Y7,.sh (.int (p:Nat)),.sh (.lst L)] = .ok (.nx,[.rf [.int a1,.int b1],.sh (.int (n:Nat)),.sh Y7,.sh (.int (p:Nat)),.sh (.lst (L ++ LL4))]):=λL hL=>by
  have:=A1 L LL4 (by omega) (by omega)
  rw [<-hL4] at this ⊢
  unfold nr4
  simp -dsimp [drs,dr,cls,t9,this]
 have f5:∀ L:List Tr,L.length<=40->nr5 [.rf [.int a1,.int b1],.sh (.int (n:Nat)),.sh Y7,.sh (.int (p:Nat)),.sh (.lst L)] = .ok (.nx,[.rf [.int a1,.int b1],.sh (.int (n:Nat)),.sh Y7,.sh (.int (p:Nat)),.sh (.lst (L ++ LL5))]):=λL hL=>by
  have:=A1 L LL5 (by omega) (by omega)
  rw [<-hL5] at this ⊢
  unfold nr5
  simp -dsimp [drs,dr,cls,iOf,t7,this]
 have f2:=f2 L1 (by omega)
 have f3:=f3 (L1 ++ LL2) (by simp; omega)
 have f4:=f4 (L1 ++ LL2 ++ LL3) (by simp; omega)
 have f5:=f5 (L1 ++ LL2 ++ LL3 ++ LL4) (by simp; omega)
 unfold ad3
 rw [ak5]
 generalize L1 ++ LL2 ++ LL3 ++ LL4 ++ LL5=M5 at *
 generalize L1 ++ LL2 ++ LL3 ++ LL4=M4 at *
 generalize L1 ++ LL2 ++ LL3=M3 at *
 generalize L1 ++ LL2=M2 at *
 generalize nr1=G1 at *
 generalize nr2=G2 at *
 generalize nr3=G3 at *
 generalize nr4=G4 at *
 generalize nr5=G5 at *
 generalize onC=G6 at *
 generalize (p:Int)=P at *
 generalize (n:Int)=N at *
 generalize (y:Int)=Y at *
 unfold fnR
 simp -dsimp [aaz,con,drs,dr,isS,others,abn,abS,adE,ahV,eo,e1,f1,f2,f3,f4,f5,e2,g0]
end K17
end
section
namespace K17
open PySem L2 BH
noncomputable def bfE:EF:=(afm (aad (aag 0) (aad (eOp gIx (aag 1) (aag 0)) aar)))
structure Hd (n:Nat) (T R C:Tr) (w0 w1 w2:Bool):Prop where
 b0:w0=true->aje T=false
 b1:w0=false->∃ (c:Nat) (rows:List (List (Int × Int))),T=bkT rows /\ Bk c rows /\ rows.length=n /\ (w1=false->∃ r,R=ruT r /\ aoH n r) /\ (w2=true->anv c C=false) /\ (w2=false->∃ k:Nat,C = .int (k:Nat) /\ k<=c)
 r1:w1=true->abZ [R,.int (n:Nat)] = .ok (.bl false,false)
theorem ari {n:Nat} {T R C:Tr} {w0 w1 w2:Bool} (h:Hd n T R C w0 w1 w2):aau [T,R]=(if w0 then .ex "NoBook" else if w1 then .ex "NoRule" else .ok (.non,false)):=by
 cases w0 with
 | true =>
  have e:=ajX (h.b0 rfl)
  unfold aau abO fnP
  simp -dsimp [aaz,drs,dr,isS,e]
 | false =>
  obtain ⟨c,rows,rfl,hb,hn,hr,_⟩:=h.b1 rfl
  have e:=ajV hb.aje
  have el:=aoR rows
  rw [hn] at el
  cases w1 with
  | true =>
   have e3:=h.r1 rfl
   generalize bkT rows=B at *
   generalize Tr.int (n:Nat)=N at *
   unfold aau abO fnP
   simp -dsimp [aaz,drs,dr,isS,e,el,g1,e3,tru]
  | false =>
   obtain ⟨r,rfl,ho⟩:=hr rfl
   have e3:=amK ho (by have:=hb.2.1; omega)
   generalize bkT rows=B at *
   generalize ruT r=R at *
   generalize Tr.int (n:Nat)=N at *
   unfold aau abO fnP
   simp -dsimp [aaz,drs,dr,isS,e,el,g1,e3,tru]
theorem aj0 {c:Nat} {rows:List (List (Int × Int))} {r:Ru} (hb:Bk c rows) (ho:aoH rows.length r):∃ V:Nat->Int × Int,(∀ i,i<c->Fq 400 (V i)) /\ aci [bkT rows,ruT r] = .ok (.lst ((List.range c).map λi=>fT (V i)),true):=by
 obtain ⟨h1,h2,h3,h4,h5⟩:=id hb
 have hlen:Len c rows:=λl m=>(h5 l m).1
 have cw:∀ i,i<c->∀ x ∈ col rows i,Wo x:=λi hi x m=>by
  obtain ⟨l,hl,rfl⟩:=List.mem_map.mp m
  exact (h5 l hl).2 _ (by unfold at2; simp [(h5 l hl).1,hi])
 have cl:∀ i,(col rows i).length=rows.length:=λi=>by unfold col; simp
 have ex:∀ i,∃ v,i<c->abR [ruT r,aaP (col rows i)] = .ok (fT v,false) /\ Fq 400 v:=λi=>by
  by_cases hi:i<c
  ·have ho':aoH (col rows i).length r:=by rw [cl]; exact ho
   obtain ⟨v,e,wv⟩:=akZ (cw i hi) (by rw [cl]; exact h1) (by rw [cl]; omega) ho'
   exact ⟨v,λ_=>⟨e,wv.fq (cw i hi) (by rw [cl]; omega) ho'⟩⟩
  ·exact ⟨(0,1),λz=>absurd z hi⟩
 obtain ⟨V,hV⟩:=Classical.skolem.mp ex
 exact ⟨V,λi hi=>(hV i hi).2,ajZ hlen h1 (by omega) h4 λi hi=>(hV i hi).1⟩
theorem agG {n:Nat} {T R C:Tr} {w0 w1 w2:Bool} (h:Hd n T R C w0 w1 w2):(w0=false∧w1=false∧∃ L f,abf [T,R] = .ok (L,f))∨(w0=true∧abf [T,R] = .ex "NoBook")∨(w0=false∧w1=true∧abf [T,R] = .ex "NoRule"):=by
 have e:=ari h
 cases w0 with
 | true =>
  refine .inr (.inl ⟨rfl,?_⟩)
  have e:aau [T,R] = .ex "NoBook" := e
  unfold abf acR fnP
  simp -dsimp [aaz,drs,dr,isS,e]
 | false =>
  cases w1 with
  | true =>
   refine .inr (.inr ⟨rfl,rfl,?_⟩)
   have e:aau [T,R] = .ex "NoRule" := e
   unfold abf acR fnP
   simp -dsimp [aaz,drs,dr,isS,e]
  | false =>
   have e:aau [T,R] = .ok (.non,false):=e
   obtain ⟨c,rows,rfl,hb,hn,hr,_⟩:=h.b1 rfl
   obtain ⟨r,rfl,ho⟩:=hr rfl
   rw [<-hn] at ho
   obtain ⟨V,_,ew⟩:=aj0 hb ho
   refine .inl ⟨rfl,rfl,.lst ((List.range c).map λi=>fT (V i)),true,?_⟩
   generalize Tr.lst ((List.range c).map λi=>fT (V i))=L at *
   generalize bkT rows=B at *
   generalize ruT r=R at *
   unfold abf acR fnP
   simp -dsimp [aaz,drs,dr,isS,e,ew]
theorem ai3 {c:Nat} {rows:List (List (Int × Int))} (hb:Bk c rows) (C:Tr):acj [bkT rows,C]=(if anv c C then .ok (.non,false) else .ex "NoCount"):=by
 obtain ⟨h1,h2,h3,h4,h5⟩:=id hb
 obtain ⟨l,hl0⟩:∃ l,rows[0]? = some l:=⟨_,List.getElem?_eq_getElem (by omega)⟩
 have e3:gIx (bkT rows) (.int 0) = .ok (aaP l,false):=acs (i:=0) (by rw [List.getElem?_map,hl0]; rfl)
 have e4:=ai2 l
 rw [(h5 l (List.mem_of_getElem? hl0)).1] at e4
 have e5:=ak3 C c
 generalize bkT rows=T at *
 generalize aaP l=T2 at *
 generalize Tr.int (c:Nat)=N at *
 generalize anv c C=z at *
 unfold acj agt fnP
 cases z <;> simp -dsimp [aaz,drs,dr,isS,e3,e4,g1,e5,tru]
theorem ak6 {c:Nat} {rows:List (List (Int × Int))} {r:Ru} {k:Nat} (hb:Bk c rows) (ho:aoH rows.length r) (hk:k<=c) (e10:aav [bkT rows,ruT r,.int (k:Nat)] = .ok (.non,false)):∃ L f,ab2 [bkT rows,ruT r,.int (k:Nat)] = .ok (L,f):=by
 obtain ⟨V,hV,hw⟩:=aj0 hb ho
 have h4:=hb.2.2.2.1
 have nM:=aqu 400
 have hr:(List.range c).map (λi=>fT (V i))=((List.range c).map V).map fT:=by rw [List.map_map]; rfl
 have hlen:((List.range c).map V).length=c:=by simp
 obtain ⟨ys,ef,f1,f2⟩:=aiu (N:=400) ((List.range c).map V) (λy hy=>by
  obtain ⟨i,hi,rfl⟩:=List.mem_map.mp hy
  obtain ⟨a1,a2,a3,a4,_⟩:=hV i (by simpa using hi)
  exact ⟨a3,a4,by omega⟩) (by rw [hlen]; omega) (by omega) (by rw [hlen]; omega)
 rw [hlen] at f1
 rw [<-hr] at ef
 have gi:∀ i,i<c->gIx (.lst ((List.range c).map λi=>fT (V i))) (.int (i:Nat)) = .ok (fT (V i),false):=λi hi=>acs (by simp [hi])
 have hz:∀ z ∈ ys,z<c:=λz m=>by simpa using f1.mem_iff.mp m
 have zl:ys.length=c:=by simpa using f1.length_eq
 have es:gSl none (some (k:Int)) (.lst (ys.map λi:Nat=>Tr.int i)) = .ok (.lst ((ys.take k).map λi:Nat=>Tr.int i),true):=by
  have:=ahH (ys.map λi:Nat=>Tr.int i) k
  rw [<-List.map_take] at this
  exact this
 generalize Tr.lst ((List.range c).map λi=>fT (V i))=W at *
 have ei:fSq (eSl (aax aaY (aad (aag 3) aar)) oNo (ab9 (aag 2))) [.sh (bkT rows),.sh (ruT r),.sh (.int (k:Nat)),.sh W] = .ok ((ys.take k).map λi:Nat=>Tr.int i,[.sh (bkT rows),.sh (ruT r),.sh (.int (k:Nat)),.sh W]):=by
  generalize bkT rows=T at *
  generalize ruT r=R at *
  generalize (k:Int)=N at *
  generalize (ys.take k).map (λi:Nat=>Tr.int i)=Y at *
  generalize ys.map (λi:Nat=>Tr.int i)=Y2 at *
  simp -dsimp [drs,dr,isS,ef,iOf,es,acV]
 have em:=asY (r:=λi:Nat=>Tr.int i) (h:=λi:Nat=>Tr.tup [.int (i:Nat),fT (V i)]) (xs:=ys.take k) (τ := [.sh W]) (rest := [some 3]) (fe:=bfE) (by rw [List.length_take]; omega) ei rfl (λs'=>rfl) (λs'=>rfl) (λi hi=>⟨false,by
  have a1:=gi i (hz i (List.mem_of_mem_take hi))
  unfold bfE
  generalize fT (V i)=X at *
  simp -dsimp [drs,dr,isS,a1,cls]⟩)
 refine ⟨.lst ((ys.take k).map λi:Nat=>Tr.tup [.int (i:Nat),fT (V i)]),true,?_⟩
 show fnP 4 (aaN (adQ (aax aav (aad (aag 0) (aad (aag 1) (aad (aag 2) aar))))) (aaN (abj (aax aci (aad (aag 0) (aad (aag 1) aar))) (gN 3)) (abx (acd [none,some 3] (fSq (eSl (aax aaY (aad (aag 3) aar)) oNo (ab9 (aag 2)))) (gN 0) aey bfE)))) [bkT rows,ruT r,.int (k:Nat)]=_
 generalize acd _ _ _ _ _=G at em ⊢
 generalize Tr.lst ((ys.take k).map λi:Nat=>Tr.tup [.int (i:Nat),fT (V i)])=L at *
 generalize bkT rows=T at *
 generalize ruT r=R at *
 generalize (k:Int)=N at *
 unfold fnP
 simp -dsimp [aaz,drs,dr,isS,e10,hw,em]
noncomputable def due:Bool->Bool->Bool->Option Str
 | true,_,_=>some "NoBook"
 | false,true,_=>some "NoRule"
 | false,false,true=>some "NoCount"
 | false,false,false=>none
theorem aj1 {n:Nat} {T R C:Tr} {w0 w1 w2:Bool} (h:Hd n T R C w0 w1 w2):match due w0 w1 w2 with
  | some c=>ab2 [T,R,C] = .ex c
  | none=>∃ L f,ab2 [T,R,C] = .ok (L,f):=by
 have e:=ari h
 have ex:∀ c,aav [T,R,C] = .ex c->ab2 [T,R,C] = .ex c:=λc e=>by
  unfold ab2 aio fnP
  simp -dsimp [aaz,drs,dr,isS,e]
 cases w0 with
 | true =>
  have e:aau [T,R] = .ex "NoBook" := e
  refine ex _ ?_
  unfold aav aaZ fnP
  simp -dsimp [aaz,drs,dr,isS,e]
 | false =>
  cases w1 with
  | true =>
   have e:aau [T,R] = .ex "NoRule" := e
   refine ex _ ?_
   unfold aav aaZ fnP
   simp -dsimp [aaz,drs,dr,isS,e]
  | false =>
   have e:aau [T,R] = .ok (.non,false):=e
   obtain ⟨c,rows,rfl,hb,hn,hr,hc1,hc2⟩:=h.b1 rfl
   have ec:=ai3 hb C
   cases w2 with
   | true =>
    rw [hc1 rfl] at ec
    have ec:acj [bkT rows,C] = .ex "NoCount" := ec
    refine ex _ ?_
    generalize bkT rows=B at *
    unfold aav aaZ fnP
    simp -dsimp [aaz,drs,dr,isS,e,ec]
   | false =>
    obtain ⟨k,rfl,hk⟩:=hc2 rfl
    obtain ⟨r,rfl,ho⟩:=hr rfl
    rw [<-hn] at ho
    have z:anv c (.int (k:Nat))=true:=by
     show (decide (0<=(k:Int)) && decide ((k:Int)<=c))=true
     rw [decide_eq_true (by omega),decide_eq_true (by omega)]
     rfl
    rw [z] at ec
    have ec:acj [bkT rows,.int (k:Nat)] = .ok (.non,false):=ec
    refine ak6 hb ho hk ?_
    generalize bkT rows=B at *
    generalize ruT r=R at *
    generalize Tr.int (k:Nat)=N at *
    unfold aav aaZ fnP
    simp -dsimp [aaz,drs,dr,isS,e,ec]
noncomputable def caB:SF:=(sIf (abv (eOp gEq (aag 0) (eC (.int 0)))) (adQ (aax abf (aad (aag 1) (aad (aag 2) aar)))) (adQ (aax ab2 (aad (aag 1) (aad (aag 2) (aad (aag 3) aar))))))
noncomputable def ctT:Option Str->Tr
 | some c => .exn c
 | none => .non
theorem aj2 {w:Int} {T R C:Tr} (d:Option Str) (h:match d with
  | some c=>caB [.sh (.int w),.sh T,.sh R,.sh C,.sh .non,.un] = .ex c /\ c ∈ (["NoBook", "NoBottom", "NoCount", "NoRule"]:List Str)
  | none=>caB [.sh (.int w),.sh T,.sh R,.sh C,.sh .non,.un] = .ok (.nx,[.sh (.int w),.sh T,.sh R,.sh C,.sh .non,.un])):aeg [.int w,T,R,C] = .ok (ctT d,false):=by
 have e:ape ["NoBook", "NoBottom", "NoCount", "NoRule"] 5 caB (abj (aag 5) (gN 4)) [.sh (.int w),.sh T,.sh R,.sh C,.sh .non,.un] = .ok (.nx,[.sh (.int w),.sh T,.sh R,.sh C,.sh (ctT d),.un]):=by
  cases d with
  | some c =>
   rw [as6 h.1 h.2]
   rfl
  | none=>exact as5 h
 show fnP 6 (aaN (abj (eC .non) (gN 4)) (aaN (ape ["NoBook", "NoBottom", "NoCount", "NoRule"] 5 caB (abj (aag 5) (gN 4))) (abx (aag 4)))) [.int w,T,R,C]=_
 generalize ape _ _ _ _=G at e ⊢
 generalize ctT d=X at *
 unfold fnP
 simp -dsimp [aaz,e]
theorem atf {n:Nat} {T R C:Tr} {w0 w1 w2:Bool} (h:Hd n T R C w0 w1 w2):aeg [.int 0,T,R,C] = .ok (ctT (due w0 w1 false),false):=by
 have e:gEq (.int 0) (.int 0) = .ok (.bl true,false):=amb (by rw [aaC]; omega)
 refine aj2 _ ?_
 rcases agG h with ⟨rfl,rfl,L,f,z⟩ | ⟨rfl,z⟩ | ⟨rfl,rfl,z⟩
 ·show caB _=_
  unfold caB
  simp -dsimp [drs,dr,isS,e,bOf,z]
 ·refine ⟨?_,by simp⟩
  unfold caB
  simp -dsimp [drs,dr,isS,e,bOf,z]
 ·refine ⟨?_,by simp⟩
  unfold caB
  simp -dsimp [drs,dr,isS,e,bOf,z]
theorem atg {n:Nat} {T R C:Tr} {w0 w1 w2:Bool} (h:Hd n T R C w0 w1 w2):aeg [.int 1,T,R,C] = .ok (ctT (due w0 w1 w2),false):=by
 have e:gEq (.int 1) (.int 0) = .ok (.bl false,false):=rfl
 refine aj2 _ ?_
 have z:=aj1 h
 cases hd:due w0 w1 w2 with
 | some c =>
  rw [hd] at z
  have z:ab2 [T,R,C] = .ex c:=z
  refine ⟨?_,?_⟩
  ·unfold caB
   simp -dsimp [drs,dr,isS,e,bOf,z]
  ·cases w0 <;> cases w1 <;> cases w2 <;> cases hd <;> simp
 | none =>
  rw [hd] at z
  obtain ⟨L,f,z⟩:=z
  show caB _=_
  unfold caB
  simp -dsimp [drs,dr,isS,e,bOf,z]
theorem av6 (w0 w1:Bool):agc [ctT (due w0 w1 false),.lst [.bl w0,.bl w1]] = .ok (.bl true,false):=by
 cases w0 <;> cases w1 <;> kernel_rfl
theorem av7 (w0 w1 w2:Bool):agc [ctT (due w0 w1 w2),.lst [.bl w0,.bl w1,.bl w2]] = .ok (.bl true,false):=by
 cases w0 <;> cases w1 <;> cases w2 <;> kernel_rfl
noncomputable def inB:SF:=(sIf (ajc (ahd (aax agc (aad (aax aeg (aad (aag 9) (aad (aag 3) (aad (aag 6) (aad (aag 7) aar))))) (aad (eSl (aag 8) oNo (ab9 (eOp aaT (eC (.int 2)) (aag 9)))) aar))))) (abx (eC (.bl false))) adz)
theorem av8 {n:Nat} {T R C:Tr} {w0 w1 w2:Bool} (h:Hd n T R C w0 w1 w2) {w:Int} (hw:w=0 \/ w=1) (s0 s1 s2 s4 s5:Sl):inB [s0,s1,s2,.sh T,s4,s5,.sh R,.sh C,.sh (.lst [.bl w0,.bl w1,.bl w2]),.sh (.int w)] = .ok (.nx,[s0,s1,s2,.sh T,s4,s5,.sh R,.sh C,.sh (.lst [.bl w0,.bl w1,.bl w2]),.sh (.int w)]):=by
 rcases hw with rfl | rfl
 ·have e1:=atf h
  have e2:=av6 w0 w1
  have e3:gSl none (some 2) (.lst [.bl w0,.bl w1,.bl w2]) = .ok (.lst [.bl w0,.bl w1],true):=rfl
  have e4:aaT (.int 2) (.int 0) = .ok (.int 2,false):=rfl
  generalize ctT (due w0 w1 false)=X at *
  generalize Tr.lst [.bl w0,.bl w1,.bl w2]=W at *
  generalize Tr.lst [.bl w0,.bl w1]=W' at *
  unfold inB
  simp -dsimp [drs,dr,isS,iOf,e1,e2,e3,e4,tru]
 ·have e1:=atg h
  have e2:=av7 w0 w1 w2
  have e3:gSl none (some 3) (.lst [.bl w0,.bl w1,.bl w2]) = .ok (.lst [.bl w0,.bl w1,.bl w2],true):=rfl
  have e4:aaT (.int 2) (.int 1) = .ok (.int 3,false):=rfl
  generalize ctT (due w0 w1 w2)=X at *
  generalize Tr.lst [.bl w0,.bl w1,.bl w2]=W at *
  unfold inB
  simp -dsimp [drs,dr,isS,iOf,e1,e2,e3,e4,tru]
end K17
end
section
namespace K17
open PySem L2 BH
noncomputable def wrE:EF:=(eOp gEq (aaL 0 aaO (aad (aag 1) (aad (eC (.int 2)) aar))) (eC (.int 1)))
theorem av9 (s:Sl) (a b:Int):∃ (w:Bool) (a' b':Int),wrE [s,.ow [.int a,.int b]] = .ok (.v (.bl w) false,[s,.ow [.int a',.int b']]):=by
 obtain ⟨x,a1,b1,e1,_,_⟩:=abz a b 2 (by omega) (by decide)
 have e:gEq (.int x) (.int 1) = .ok (.bl (x == 1),false):=by
  unfold gEq
  rw [aaC,aaC,if_pos (by omega),aaX]
 refine ⟨x == 1,a1,b1,?_⟩
 generalize (x == 1)=w at *
 unfold wrE
 simp -dsimp [con,drs,dr,isS,others,abn,e1,e]
theorem aoS:∀ (us:List Tr) (s:Sl) (a b:Int),∃ (ws:List Bool) (s':Sl) (a' b':Int),afd (gN 0) aey wrE us [s,.ow [.int a,.int b]] = .ok (ws.map Tr.bl,[s',.ow [.int a',.int b']]) /\ ws.length=us.length
 | [],s,a,b=>⟨[],s,a,b,rfl,rfl⟩
 | u :: us,s,a,b=>by
  obtain ⟨w,a1,b1,e⟩:=av9 (.sh u) a b
  obtain ⟨ws,s',a',b',e',hl⟩:=aoS us (.sh u) a1 b1
  refine ⟨w :: ws,s',a',b',?_,by simp [hl]⟩
  generalize wrE=G at e e' ⊢
  unfold afd
  simp [e,clV,e']
noncomputable def wrC:EF:=(acd [none,some 1] (agS (aad (eC (.int 3)) aar)) (gN 0) aey wrE)
theorem awa (s0:Sl) (a b:Int) (τ : En):∃ (w0 w1 w2:Bool) (a' b':Int),wrC (s0 :: .ow [.int a,.int b] :: τ) = .ok (.v (.lst [.bl w0,.bl w1,.bl w2]) true,s0 :: .ow [.int a',.int b'] :: τ):=by
 obtain ⟨ws,s',a',b',e,hl⟩:=aoS (L2.upTo 0 3) .un a b
 obtain ⟨w0,w1,w2,rfl⟩:∃ w0 w1 w2,ws = [w0,w1,w2]:=by
  match ws,hl with
  | [x,y,z],_=>exact ⟨x,y,z,rfl⟩
 refine ⟨w0,w1,w2,a',b',?_⟩
 have e:afd (gN 0) aey wrE (L2.upTo 0 3) [.un,.ow [.int a,.int b]] = .ok ([.bl w0,.bl w1,.bl w2],[s',.ow [.int a',.int b']]):=e
 have ul:(L2.upTo 0 3).length=3:=rfl
 unfold wrC
 generalize wrE=G at *
 simp -dsimp [abS,frz,dow,abn,con,ac0,eB,bOf,tru,dr,drs,cls,clV,adA,g1,g2,acV,okR,iOf,isS,others,acD,abT,acE,acW,ac8,aaz,adt,ul,e]
noncomputable def awb:SF:=(sIf (ahd (eOp gIx (aag 8) (eC (.int 0)))) (abj (aaL 0 ad2 (aad (aag 1) (aad (aag 3) aar))) (gN 3)) adz)
noncomputable def awc:SF:=(sIf (ahd (eOp gIx (aag 8) (eC (.int 1)))) (abj (aaL 0 ad3 (aad (aag 1) (aad (aag 4) aar))) (gN 6)) adz)
noncomputable def awd:SF:=(sIf (ahd (eOp gIx (aag 8) (eC (.int 2)))) (abj (aaL 0 adg (aad (aag 1) (aad (aag 5) aar))) (gN 7)) adz)
noncomputable def lwL:SF:=(afn (fSq (eCL [.int 0,.int 1,.int 0,.int 1])) (gN 9) inB)
noncomputable def lwZ:SF:=(aaN awb (aaN awc (aaN awd lwL)))
noncomputable def lwY:SF:=(aaN (abj (aaL 0 aiq (aad (aag 1) (aad (aag 4) aar))) (gN 6)) (aaN (abj (aaL 0 aaO (aad (aag 1) (aad (eOp aaT (aag 5) (eC (.int 1))) aar))) (gN 7)) (aaN (abj wrC (gN 8)) lwZ)))
noncomputable def lwB:SF:=(aaN (abj (aaL 0 aip (aad (aag 1) aar)) (gN 3)) (aaN (abj (eCB (g1 abw) (aad (aag 3) aar)) (gN 4)) (aaN (abj (eCB (g1 abw) (aad (eOp gIx (aag 3) (eC (.int 0))) aar)) (gN 5)) lwY)))
theorem ath:avq=(aaN (anr 1 (aax agb (aad (aag 0) aar))) (aaN (adZ (afn (agS (aad (eC (.int 4)) aar)) (gN 2) lwB)) (abx (eC (.bl true))))):=rfl
theorem aoT {n:Nat} {T R C:Tr} {w0 w1 w2:Bool} (h:Hd n T R C w0 w1 w2) (s0 s1 s2 s4 s5:Sl):∀ (ws:List Int) (s9:Sl),(∀ w ∈ ws,w=0 \/ w=1)->∃ t9,acu (gN 9) inB (ws.map Tr.int) [s0,s1,s2,.sh T,s4,s5,.sh R,.sh C,.sh (.lst [.bl w0,.bl w1,.bl w2]),s9] = .ok (.nx,[s0,s1,s2,.sh T,s4,s5,.sh R,.sh C,.sh (.lst [.bl w0,.bl w1,.bl w2]),t9])
 | [],s9,_=>⟨s9,rfl⟩
 | w :: ws,s9,hw=>by
  obtain ⟨r9,e'⟩:=aoT h s0 s1 s2 s4 s5 ws (.sh (.int w)) (λx m=>hw x (by simp [m]))
  refine ⟨r9,?_⟩
  rw [List.map_cons]
  unfold acu
  rw [show gN 9 (Tr.int w) [s0,s1,s2,.sh T,s4,s5,.sh R,.sh C,.sh (.lst [.bl w0,.bl w1,.bl w2]),s9] = .ok [s0,s1,s2,.sh T,s4,s5,.sh R,.sh C,.sh (.lst [.bl w0,.bl w1,.bl w2]),.sh (.int w)] from rfl]
  simp only [Rs.aa0]
  rw [av8 h (hw w (by simp))]
  exact e'
theorem awe (s0 s2 s9:Sl) (a b:Int) {c:Nat} {rows:List (List (Int × Int))} (hb:Bk c rows) {r:Ru} (ho:aoH rows.length r) {k:Nat} (hk:k<=c) (w0 w1 w2:Bool):∃ (a' b':Int) (T R C:Tr) (t9:Sl),lwZ [s0,.ow [.int a,.int b],s2,.sh (bkT rows),.sh (.int (rows.length:Nat)),.sh (.int (c:Nat)),.sh (ruT r),.sh (.int (k:Nat)),.sh (.lst [.bl w0,.bl w1,.bl w2]),s9] = .ok (.nx,[s0,.ow [.int a',.int b'],s2,.sh T,.sh (.int (rows.length:Nat)),.sh (.int (c:Nat)),.sh R,.sh C,.sh (.lst [.bl w0,.bl w1,.bl w2]),t9]):=by
 have i0:gIx (.lst [.bl w0,.bl w1,.bl w2]) (.int 0) = .ok (.bl w0,false):=rfl
 have i1:gIx (.lst [.bl w0,.bl w1,.bl w2]) (.int 1) = .ok (.bl w1,false):=rfl
 have i2:gIx (.lst [.bl w0,.bl w1,.bl w2]) (.int 2) = .ok (.bl w2,false):=rfl
 obtain ⟨T,a1,b1,hT,e0⟩:∃ (T:Tr) (a1 b1:Int),((w0=true->aje T=false) /\ (w0=false->T=bkT rows)) /\ awb [s0,.ow [.int a,.int b],s2,.sh (bkT rows),.sh (.int (rows.length:Nat)),.sh (.int (c:Nat)),.sh (ruT r),.sh (.int (k:Nat)),.sh (.lst [.bl w0,.bl w1,.bl w2]),s9] = .ok (.nx,[s0,.ow [.int a1,.int b1],s2,.sh T,.sh (.int (rows.length:Nat)),.sh (.int (c:Nat)),.sh (ruT r),.sh (.int (k:Nat)),.sh (.lst [.bl w0,.bl w1,.bl w2]),s9]):=by
  cases w0 with
  | true =>
   obtain ⟨T,fr,a1,b1,e,hT⟩:=amL hb a b
   refine ⟨T,a1,b1,⟨λ_=>hT,λz=>(by cases z)⟩,?_⟩
   generalize Tr.lst [.bl true,.bl w1,.bl w2]=W at *
   generalize bkT rows=B at *
   unfold awb
   simp -dsimp [con,drs,dr,isS,others,abn,i0,tru,e]
  | false =>
   refine ⟨bkT rows,a,b,⟨λz=>(by cases z),λ_=>rfl⟩,?_⟩
   generalize Tr.lst [.bl false,.bl w1,.bl w2]=W at *
   generalize bkT rows=B at *
   unfold awb
   simp -dsimp [dr,i0,tru]
 obtain ⟨R,a2,b2,hR,e1⟩:∃ (R:Tr) (a2 b2:Int),((w1=true->abZ [R,.int (rows.length:Nat)] = .ok (.bl false,false)) /\ (w1=false->R=ruT r)) /\ awc [s0,.ow [.int a1,.int b1],s2,.sh T,.sh (.int (rows.length:Nat)),.sh (.int (c:Nat)),.sh (ruT r),.sh (.int (k:Nat)),.sh (.lst [.bl w0,.bl w1,.bl w2]),s9] = .ok (.nx,[s0,.ow [.int a2,.int b2],s2,.sh T,.sh (.int (rows.length:Nat)),.sh (.int (c:Nat)),.sh R,.sh (.int (k:Nat)),.sh (.lst [.bl w0,.bl w1,.bl w2]),s9]):=by
  cases w1 with
  | true =>
   obtain ⟨R,a2,b2,e,hR⟩:=amM a1 b1 hb.1 hb.2.1
   refine ⟨R,a2,b2,⟨λ_=>hR,λz=>(by cases z)⟩,?_⟩
   generalize Tr.lst [.bl w0,.bl true,.bl w2]=W at *
   generalize ruT r=R' at *
   generalize Tr.int (rows.length:Nat)=N at *
   unfold awc
   simp -dsimp [con,drs,dr,isS,others,abn,i1,tru,e]
  | false =>
   refine ⟨ruT r,a1,b1,⟨λz=>(by cases z),λ_=>rfl⟩,?_⟩
   generalize Tr.lst [.bl w0,.bl false,.bl w2]=W at *
   generalize ruT r=R' at *
   unfold awc
   simp -dsimp [dr,i1,tru]
 obtain ⟨C,a3,b3,hC,e2⟩:∃ (C:Tr) (a3 b3:Int),((w2=true->anv c C=false) /\ (w2=false->C = .int (k:Nat))) /\ awd [s0,.ow [.int a2,.int b2],s2,.sh T,.sh (.int (rows.length:Nat)),.sh (.int (c:Nat)),.sh R,.sh (.int (k:Nat)),.sh (.lst [.bl w0,.bl w1,.bl w2]),s9] = .ok (.nx,[s0,.ow [.int a3,.int b3],s2,.sh T,.sh (.int (rows.length:Nat)),.sh (.int (c:Nat)),.sh R,.sh C,.sh (.lst [.bl w0,.bl w1,.bl w2]),s9]):=by
  cases w2 with
  | true =>
   obtain ⟨C,a3,b3,e,hC⟩:=ak4 a2 b2 c
   refine ⟨C,a3,b3,⟨λ_=>hC,λz=>(by cases z)⟩,?_⟩
   generalize Tr.lst [.bl w0,.bl w1,.bl true]=W at *
   generalize Tr.int (c:Nat)=N at *
   unfold awd
   simp -dsimp [con,drs,dr,isS,others,abn,i2,tru,e]
  | false =>
   refine ⟨.int (k:Nat),a2,b2,⟨λz=>(by cases z),λ_=>rfl⟩,?_⟩
   generalize Tr.lst [.bl w0,.bl w1,.bl false]=W at *
   unfold awd
   simp -dsimp [dr,i2,tru]
 have hd:Hd rows.length T R C w0 w1 w2:=⟨hT.1,λz=>⟨c,rows,hT.2 z,hb,rfl,λy=>⟨r,hR.2 y,ho⟩,hC.1,λy=>⟨k,hC.2 y,hk⟩⟩,hR.1⟩
 obtain ⟨t9,eL⟩:=aoT hd s0 (.ow [.int a3,.int b3]) s2 (.sh (.int (rows.length:Nat))) (.sh (.int (c:Nat))) [0,1,0,1] s9 (by simp)
 have eL:lwL [s0,.ow [.int a3,.int b3],s2,.sh T,.sh (.int (rows.length:Nat)),.sh (.int (c:Nat)),.sh R,.sh C,.sh (.lst [.bl w0,.bl w1,.bl w2]),s9]=_:=eL
 refine ⟨a3,b3,T,R,C,t9,?_⟩
 generalize Tr.lst [.bl w0,.bl w1,.bl w2]=W at *
 generalize bkT rows=B at *
 generalize ruT r=R' at *
 generalize Tr.int (rows.length:Nat)=N at *
 generalize Tr.int (c:Nat)=N2 at *
 generalize Tr.int (k:Nat)=N3 at *
 unfold lwZ
 generalize awb=G0 at *
 generalize awc=G1 at *
 generalize awd=G2 at *
 generalize lwL=G3 at *
 simp -dsimp [e0,e1,e2,eL]
theorem awf (s0:Sl) (a b:Int) (s2 s3 s4 s5 s6 s7 s8 s9:Sl):∃ (a' b':Int) (t3 t4 t5 t6 t7 t8 t9:Sl),lwB [s0,.ow [.int a,.int b],s2,s3,s4,s5,s6,s7,s8,s9] = .ok (.nx,[s0,.ow [.int a',.int b'],s2,t3,t4,t5,t6,t7,t8,t9]):=by
 obtain ⟨a1,b1,rows,c,e1,hb⟩:=as9 a b
 obtain ⟨h1,h2,h3,h4,h5⟩:=id hb
 obtain ⟨r,a2,b2,e2,ho⟩:=ata a1 b1 (k:=rows.length) h1 h2
 obtain ⟨k,a3,b3,e3,k0,k1⟩:=abz a2 b2 ((c:Int) + 1) (by omega) (by omega)
 obtain ⟨k,rfl⟩:=Int.eq_ofNat_of_zero_le k0
 obtain ⟨w0,w1,w2,a4,b4,e4⟩:=awa s0 a3 b3 [s2,.sh (bkT rows),.sh (.int (rows.length:Nat)),.sh (.int (c:Nat)),.sh (ruT r),.sh (.int (k:Nat)),s8,s9]
 obtain ⟨a5,b5,T,R,C,t9,e5⟩:=awe s0 s2 s9 a4 b4 hb ho (k:=k) (by omega) w0 w1 w2
 obtain ⟨l,hl0⟩:∃ l,rows[0]? = some l:=⟨_,List.getElem?_eq_getElem (by omega)⟩
 have x3:gIx (bkT rows) (.int 0) = .ok (aaP l,false):=acs (i:=0) (by rw [List.getElem?_map,hl0]; rfl)
 have x4:=ai2 l
 rw [(h5 l (List.mem_of_getElem? hl0)).1] at x4
 have xa:aaT (.int (c:Nat)) (.int 1) = .ok (.int ((c:Int) + 1),false):=rfl
 have el:=aoR rows
 refine ⟨a5,b5,.sh T,.sh (.int (rows.length:Nat)),.sh (.int (c:Nat)),.sh R,.sh C,.sh (.lst [.bl w0,.bl w1,.bl w2]),t9,?_⟩
 generalize Tr.lst [.bl w0,.bl w1,.bl w2]=W at *
 generalize bkT rows=B at *
 generalize ruT r=R' at *
 generalize aaP l=T2 at *
 generalize (c:Int) + 1=C1 at *
 generalize Tr.int (rows.length:Nat)=N at *
 generalize Tr.int (c:Nat)=N2 at *
 generalize Tr.int (k:Nat)=N3 at *
 have e6:lwY [s0,.ow [.int a1,.int b1],s2,.sh B,.sh N,.sh N2,s6,s7,s8,s9] = .ok (.nx,[s0,.ow [.int a5,.int b5],s2,.sh T,.sh N,.sh N2,.sh R,.sh C,.sh W,t9]):=by
  unfold lwY
  generalize lwZ=G1 at *
  generalize wrC=G2 at *
  simp -dsimp [con,drs,dr,isS,others,abn,e2,xa,e3,e4,e5]
 unfold lwB
 generalize lwY=G3 at *
 simp -dsimp [con,drs,dr,isS,others,abn,g1,e1,el,x3,x4,e6]
theorem aoU (s0:Sl):∀ (us:List Tr) (a b:Int) (s2 s3 s4 s5 s6 s7 s8 s9:Sl),∃ t1 t2 t3 t4 t5 t6 t7 t8 t9,acu (gN 2) lwB us [s0,.ow [.int a,.int b],s2,s3,s4,s5,s6,s7,s8,s9] = .ok (.nx,[s0,t1,t2,t3,t4,t5,t6,t7,t8,t9])
 | [],a,b,s2,s3,s4,s5,s6,s7,s8,s9=>⟨_,s2,s3,s4,s5,s6,s7,s8,s9,rfl⟩
 | u :: us,a,b,s2,s3,s4,s5,s6,s7,s8,s9=>by
  obtain ⟨a',b',t3,t4,t5,t6,t7,t8,t9,e⟩:=awf s0 a b (.sh u) s3 s4 s5 s6 s7 s8 s9
  obtain ⟨r1,r2,r3,r4,r5,r6,r7,r8,r9,e'⟩:=aoU s0 us a' b' (.sh u) t3 t4 t5 t6 t7 t8 t9
  refine ⟨r1,r2,r3,r4,r5,r6,r7,r8,r9,?_⟩
  unfold acu
  simp [e,e']
theorem awg (ns:List Int):amz [.lst (ns.map .int)] = .ok (.bl true,false):=by
 obtain ⟨a,b,e1⟩:=aqz ns
 obtain ⟨t1,t2,t3,t4,t5,t6,t7,t8,t9,e⟩:=aoU (.sh (.lst (ns.map .int))) (L2.upTo 0 4) a b .un .un .un .un .un .un .un .un
 have e2:adZ (afn (agS (aad (eC (.int 4)) aar)) (gN 2) lwB) [.sh (.lst (ns.map .int)),.ow [.int a,.int b],.un,.un,.un,.un,.un,.un,.un,.un] = .ok (.nx,[.sh (.lst (ns.map .int)),t1,t2,t3,t4,t5,t6,t7,t8,t9]):=by
  show abS (acu (gN 2) lwB (L2.upTo 0 4) _)=_
  rw [e]
  rfl
 unfold amz
 rw [ath]
 generalize adZ _=G at e2 ⊢
 generalize Tr.lst (ns.map .int)=S at *
 unfold fnP
 simp -dsimp [aaz,drs,dr,isS,e1,e2]
end K17
end
section
namespace L2
open PySem PySem.Spec PyProof.Rows PySem.W
theorem aoV {P:Program} {w:World} {K:PySem.W.Frag} {mg mb:Str->Option Value} {CX:CXT} {k:Nat} {fa a:Addr} {x:Str} {sp:Sp} {s₁ : Shared} {vs:List Value} {ns:List Int}
  (KX:K.In s₁.heap) (hns:s₁.heap.Ns mainGlobals mg) (hb:s₁.heap.Ns builtinsNs mb) (hbb:∀ x:Str,x ≠ "__name__" -> mb x=bootBuiltins x) (hlim:s₁.heap.NoLimit) (hg:s₁.gens = #[])
  (ha:s₁.heap.get? a=some {cls := .type "list",data := .seq vs.toArray }) (hi:IntsAre vs ns) (hl:ns.length<=sizeLine) (hr:afT k callerA)
  (hT:∀ x ∈ abu,∀ c b,tabIn K x=some (c,b)->CodeHd s₁.heap c b /\ s₁.heap.get? b=some (tabObj #[])) (hNT:noTabs K=true) (hB:ap4 mg s₁.heap)
  (F:∀ base:Heap,K.In base->base.Ns mainGlobals mg->(∀ x ∈ abu,∀ c b,tabIn K x=some (c,b)->CodeHd base c b)->ap4 mg base->∃ fd:FuncData,(∀ (s:Shared) (u:Value),K.In s.heap->BindsTo s fd ⟨[u],[]⟩ [(x,u)]) /\ alF P w K mg base CX k fa fd [x] sp)
  (hsp:∀ H:Hp,TbS (nlK K) H->SqX K H a (ns.map V.int)->sp [.ref a] H (λv _=>v = .bl true) λ_ _ _=>False)
  (hCX:∀ H e s',CX [] H s₁ (λ_ _ _=>False) e s'->False) :
  codeAny (model P w) callerA (.call (.ref fa) ⟨[.ref a],[]⟩) (λr s'=>r = .ok (.ret (.bool true)) /\ OldK s₁.heap s'.heap /\ s'.os=s₁.os /\ AllBare s'.gens) s₁ := by
 have rv:=ajr hi
 have lenV:=hi.length
 -- from an abstract heap in which nothing but the script may be tracked
 have hT':∀ b,Tb (nlK K) b->∃ c,CodeHd s₁.heap c b /\ s₁.heap.get? b=some (tabObj #[]):=λb ⟨x,hx,c,e⟩=>⟨c,hT x hx c b (al5 e)⟩
 have core:∀ H:Hp,(∀ b,H b=none \/ (∃ o xs,H b=some (.frz o (.lst xs))) \/ (H b=some (.tbl #[]) /\ Tb (nlK K) b))->TbS (nlK K) H->SqX K H a (ns.map V.int)->HOk P w H s₁.heap->(∀ b,H b ≠ none->b=a \/ Tb (nlK K) b)->(H a ≠ none->K.lookup a=none) ->
   codeAny (model P w) callerA (.call (.ref fa) ⟨[.ref a],[]⟩) (λr s'=>r = .ok (.ret (.bool true)) /\ OldK s₁.heap s'.heap /\ s'.os=s₁.os /\ AllBare s'.gens) s₁ := by
  intro H hO hTb hS hok hA hK
  have ai4:∀ {b:Addr} {o:Obj},s₁.heap.get? b=some o->H b=none->(apf s₁.heap H).get? b=some o:=λe n=>apg e n
  have noA:∀ {b:Addr} {o:Obj} {es:Array DictEntry} {ep:Nat},s₁.heap.get? b=some o->o.data = .dict es ep->H b=none:=λ{b o es ep} e d=>by
   cases q:H b with
   | none=>rfl
   | some u =>
    rcases hA b (by rw [q]; simp) with e' | e'
    ·subst e'
     rw [ha] at e; cases e
     have d':Data.seq vs.toArray _=Data.dict es ep:=d
     cases d'
    ·obtain ⟨c,_,z⟩:=hT' b e'
     rw [z] at e; cases e
     cases d
  have nsK:∀ {b:Addr} {m:Str->Option Value},s₁.heap.Ns b m->(apf s₁.heap H).Ns b m:=λ{b m} ⟨o,es,ep,e,d,r⟩=>⟨o,es,ep,ai4 e (noA e d),d,r⟩
  have hKb:K.In (apf s₁.heap H):=λb o e=>ai4 (KX b o e) (by
   cases q:H b with
   | none=>rfl
   | some u =>
    rcases hA b (by rw [q]; simp) with e' | e'
    ·subst e'
     rw [hK (by rw [q]; simp)] at e; cases e
    ·obtain ⟨c,_,z⟩:=hT' b e'
     have z2:=KX b o e
     rw [z] at z2
     cases z2
     have h2:=List.all_eq_true.mp hNT (b,_) (mem_of_lookupK e)
     exact absurd (show false=true from h2) Bool.false_ne_true)
  have hM:Mod K mg (apf s₁.heap H):=⟨hKb,nsK hns,⟨mb,nsK hb,hbb⟩,let ⟨mc,h1,h2⟩:=hlim; ⟨mc,nsK h1,h2⟩⟩
  have e0:awr P w K mg (apf s₁.heap H) callerA [] s₁ H:=⟨rfl,hM,λb o e=>arl e,Nat.le_of_eq (anw _ _),trivial,λb hb=>absurd (show b ∈ ([]:List Addr) from hb) (by simp),hok,.of_eq hg⟩
  have free:∀ {b:Addr} {o:Obj},s₁.heap.get? b=some o->o.cls ≠ .none->(∀ its n,o.data ≠ .seq its n)->H b=none:=λ{b o} e n1 n2=>by
   cases q:H b with
   | none=>rfl
   | some u =>
    rcases hA b (by rw [q]; simp) with e' | e'
    ·subst e'
     rw [ha] at e; cases e
     exact (n2 _ _ rfl).elim
    ·obtain ⟨c,_,z⟩:=hT' b e'
     rw [z] at e; cases e
     exact (n1 rfl).elim
  obtain ⟨fd,hbind,F1⟩:=F _ hKb (nsK hns) (λx hx c b e=>by
   obtain ⟨o,vs',file,tf,flags,tg,inF,text,tt,e1,r1,r2,r3⟩:=(hT x hx c b e).1
   exact ⟨o,vs',file,tf,flags,tg,inF,text,tt,ai4 e1 (free e1 (by rw [r1]; intro z; cases z) (λ_ _ z=>by rw [r2] at z; cases z)),r1,r2,r3⟩) (by
   obtain ⟨bm,ob,b1,b2,b3,b4,b5,b6,b7⟩:=hB
   exact ⟨bm,ob,b1,b2,b3,ai4 b4 (free b4 (by rw [b5]; intro z; cases z) (λ_ _ z=>by rw [b7] at z; cases z)),b5,b6,b7⟩)
  refine codeAny_mono (F1.run callerA [] s₁ H ⟨[.ref a],[]⟩ [.ref a] [.ref a] _ _ hr e0 (hbind s₁ (.ref a) KX) (.cons rfl .nil) (hsp H hTb hS)) λr s' h=>?_
  cases r with
  | error e=>exact (hCX H e s' h).elim
  | ok fl =>
   cases fl with
   | next=>exact False.elim h
   | brk=>exact False.elim h
   | cont=>exact False.elim h
   | ret u =>
    obtain ⟨v,H',os,bare,un,hok',r',q⟩:=h
    have q':v = .bl true:=q
    subst q'
    obtain rfl:u=Value.bool true:=r'
    refine ⟨rfl,⟨λb o e=>?_,λb o e=>un.there b o e (by simp)⟩,os,bare⟩
    cases q:H b with
    | none=>exact .inl (un.keep b o e q (by intro z; exact absurd (show b ∈ ([]:List Addr) from z) (by simp)) (by simp))
    | some u =>
     rcases hO b with z | ⟨ob,xs,z⟩ | ⟨z,zt⟩
     ·rw [q] at z; cases z
     ·have z2:=un.alx b ob _ z
      obtain ⟨e1,_⟩:=hok b _ z
      obtain ⟨e2,_⟩:=hok' b _ z2
      rw [e] at e1; cases e1
      exact .inl e2
     ·obtain ⟨more,z2⟩:=un.aly b _ z
      have e1:s₁.heap.get? b=some (tabObj #[]):=hok b _ z
      have e2:s'.heap.get? b=some (tabObj (#[] ++ more)):=hok' b _ z2
      rw [e] at e1; cases e1
      obtain ⟨c,hc,_⟩:=hT' b zt
      exact .inr (.inl ⟨(hc.tab e).isCodeTable,rfl,#[],more,rfl,e2⟩)
 classical
 have azg:∀ H:Hp,(∀ b,Tb (nlK K) b->H b=some (.tbl #[]))->TbS (nlK K) H:=λH h x hx c b e=>⟨#[],h b ⟨x,hx,c,e⟩,trivial,λpos v z=>by cases z⟩
 have nTa:¬ Tb (nlK K) a:=λz=>by
  obtain ⟨c,_,e⟩:=hT' a z
  rw [ha] at e
  cases e
 cases hk:K.lookup a with
 | some o =>
  have e:=KX a o hk
  rw [ha] at e
  cases e
  refine core (λb=>if Tb (nlK K) b then some (.tbl #[]) else none) (λb=>?_) (azg _ λb z=>if_pos z) (.inr ⟨vs.toArray,_,hk,by rw [List.size_toArray,lenV]; exact hl,by simpa using rv⟩) (λb u z=>?_) (λb z=>?_) λz=>?_
  ·by_cases q:Tb (nlK K) b
   ·exact .inr (.inr ⟨if_pos q,q⟩)
   ·exact .inl (if_neg q)
  ·by_cases q:Tb (nlK K) b
   ·have z':=(if_pos q).symm.trans z
    cases z'
    obtain ⟨c,_,e⟩:=hT' b q
    exact e
   ·have z':=(if_neg q).symm.trans z
    cases z'
  ·by_cases q:Tb (nlK K) b
   ·exact .inr q
   ·exact absurd (if_neg q) z
  ·exact absurd (if_neg nTa) z
 | none =>
  refine core (λb=>if b=a then some (.frz {cls := .type "list",data := .seq vs.toArray } (.lst (ns.map V.int))) else if Tb (nlK K) b then some (.tbl #[]) else none) (λb=>?_) (azg _ λb z=>by
   have nb:¬ b=a:=λq=>nTa (by rw [<-q]; exact z)
   exact (if_neg nb).trans (if_pos z)) (.inl (.inr ⟨{cls := .type "list",data := .seq vs.toArray },if_pos rfl⟩)) (λb u z=>?_) (λb z=>?_) λ_=>hk
  ·by_cases hb:b=a
   ·exact .inr (.inl ⟨_,_,if_pos hb⟩)
   ·by_cases q:Tb (nlK K) b
    ·exact .inr (.inr ⟨(if_neg hb).trans (if_pos q),q⟩)
    ·exact .inl ((if_neg hb).trans (if_neg q))
  ·by_cases hb:b=a
   ·have z':=(if_pos hb).symm.trans z
    cases z'
    subst hb
    exact ⟨ha,by rw [List.length_map]; exact hl,vs,_,rv,ha⟩
   ·have z':=(if_neg hb).symm.trans z
    by_cases q:Tb (nlK K) b
    ·have z':=(if_pos q).symm.trans z'
     cases z'
     obtain ⟨c,_,e⟩:=hT' b q
     exact e
    ·have z':=(if_neg q).symm.trans z'
     cases z'
  ·by_cases hb:b=a
   ·exact .inl hb
   ·by_cases q:Tb (nlK K) b
    ·exact .inr q
    ·exact absurd ((if_neg hb).trans (if_neg q)) z
theorem aqE {l:PySem.W.OpenLaw} {n k:Nat} {q:Program} {loose:List Str} {XP:(Str->Option Value)->Heap->Prop} {YP:World->Heap->Prop} {d:DefRec} {K:Params->PySem.W.Frag} {CX:World->CXT} {sp:World->Sp} {x:Str}
  (hn:l.most=some n) (hn2:n<=sizeLine) (hdf:d.params.defaults = []) (hr:afT k callerA)
  (awh:∀ x ∈ abu,((recsOf q).find? (λe=>e.name == x)).isSome=true \/ ∀ w:World,nsIn (K w.params) mainGlobals x=some none) (hNT:∀ w:World,noTabs (K w.params)=true)
  (hY:∀ (w:World) (h:Heap),YP w h->(K w.params).In h)
  (F:∀ (w:World) (mg:Str->Option Value) (fa:Addr) (h:Heap),(K w.params).In h->h.Ns mainGlobals mg->mg d.name=some (.ref fa) ->
   ∀ base:Heap,(K w.params).In base->base.Ns mainGlobals mg->(∀ x ∈ abu,∀ c b,tabIn (K w.params) x=some (c,b)->CodeHd base c b)->ap4 mg base->∃ fd:FuncData,(∀ (s:Shared) (u:Value),(K w.params).In s.heap->BindsTo s fd ⟨[u],[]⟩ [(x,u)]) /\ alF l.prog w (K w.params) mg base (CX w) k fa fd [x] (sp w))
  (hsp:∀ (w:World) (H:Hp) (a:Addr) (ns:List Int),ns.length<=n->TbS (nlK (K w.params)) H->SqX (K w.params) H a (ns.map V.int)->sp w [.ref a] H (λv _=>v = .bl true) λ_ _ _=>False)
  (hCX:∀ (w:World) (H:Hp) (s:Shared) (e:Value) (s':Shared),CX w [] H s (λ_ _ _=>False) e s'->False) :
  PySem.W.WalkO q loose XP YP l.row.toRowW d [] (λf vs=>PySem.call f vs):=by
 refine Att.akp hn hdf λw s₀ s₁ mg mb fa o pm cd doc a vs ns G Y ho hd hcd hmg hobj hints hlen hg=>?_
 have KX:=hY w _ Y
 have hT:∀ x ∈ abu,∀ c b,tabIn (K w.params) x=some (c,b)->CodeHd s₁.heap c b /\ s₁.heap.get? b=some (tabObj #[]):=λx hx c b e=>by
  rcases awh x hx with z | z
  ·obtain ⟨d,z⟩:=Option.isSome_iff_exists.mp z
   exact tab_of G.T KX z e
  ·rw [al6 (z w)] at e; cases e
 have hB:ap4 mg s₁.heap:=by
  obtain ⟨bm,ob,b1,b2,b3,b4,b5,b6⟩:=G.T.bmain
  refine ⟨bm,ob,b1,b2,λz=>?_,b3,b4,b5,b6⟩
  obtain ⟨o,es,ep,e,hd,_⟩:=G.T.g
  rw [z,e] at b3; cases b3
  rw [hd] at b6; cases b6
 exact aoV KX G.T.g G.T.b G.T.builtins G.T.nolimit hg hobj hints (Nat.le_trans hlen hn2) hr hT (hNT w) hB (F w mg fa _ KX G.T.g hmg) (λH hO hS=>hsp w H a ns hlen hO hS) λH e s'=>hCX w H s₁ e s'
end L2
end
section
namespace K17
open PySem L2 BH PySem.W
section
variable {K:Frag} {mg:Str->Option Value} {h:Heap}
theorem abU {x:Str} {st:Stmt} (X:K.In h) (G:h.Ns mainGlobals mg) {f:Addr} {od an:Option Addr} {sl:Array (Option Value)} {oc kV dc pm cd ct:Value}
  (a:nsIn K mainGlobals x=some (some (.ref f))) (l:K.lookup f=some ⟨oc,od,.func (fnOf x x (adl st) (acf st) (aan st) .none kV dc pm an cd ct),sl⟩) (c:codeIn K cd x=true) (k:keepIn K (.ref f)=true):At K mg x st :=
 ⟨f,_,aqN (st:=st) l c k,mg_of X G a⟩
theorem awi {x:Str} {st:Stmt} (X:K.In h) (G:h.Ns mainGlobals mg) {f c:Addr} {od an:Option Addr} {sl:Array (Option Value)} {oc kV dc pm ct:Value}
  (a:nsIn K mainGlobals x=some (some (.ref f))) (l:K.lookup f=some ⟨oc,od,.func (fnOf x x (adl st) (acf st) (aan st) .none kV dc pm an (.ref c) ct),sl⟩) (cc:codeIn K (.ref c) x=true) (k:keepIn K (.ref f)=true):AtL K mg x st c :=
 ⟨f,_,aqN (st:=st) l cc k,mg_of X G a,rfl⟩
theorem arj {x:Str} {i:Int} {tk:Tok} (X:K.In h) (G:h.Ns mainGlobals mg) (a:nsIn K mainGlobals x=some (some (.int i tk))):Gk K mg x (.int i) (.int i):=⟨.int i tk,mg_of X G a,by first | exact rfl | exact ⟨_,rfl⟩,λ_ => .int i⟩
theorem ai5 {H:Hp} {a:Addr} {od:Option Addr} {its:Array Value} {n:Nat} {sl:Array (Option Value)} {xs:List V} {vs:List Value} {ts:List Tr} (l:K.lookup a=some ⟨.type "tuple",od,.seq its n,sl⟩) (e:its.toList=vs) (hl:vs.length<=1000) (r:Vals xs vs) (rr:abd (nlK K) H xs ts):Rep (nlK K) H (.ref a) (.tup ts):=by
 refine .tup (xs:=xs) (.inr ⟨_,its,n,auo l rfl,rfl,rfl,?_,by rw [e]; exact r⟩) rr
 rw [<-Array.length_toList,e]
 exact Nat.le_of_lt (ag7 hl)
theorem ati (X:K.In h) (G:h.Ns mainGlobals mg) {a r1 r2 r3:Addr} {od o1 o2 o3:Option Addr} {its i1 i2 i3:Array Value} {n n1 n2 n3:Nat} {sl sl1 sl2 sl3:Array (Option Value)} {t1 t2 t3:Tok}
  (m:nsIn K mainGlobals "BARE_RULES" = some (some (.ref a))) (l:K.lookup a=some ⟨.type "tuple",od,.seq its n,sl⟩) (e:its.toList = [.ref r1,.ref r2,.ref r3])
  (l1:K.lookup r1=some ⟨.type "tuple",o1,.seq i1 n1,sl1⟩) (e1:i1.toList = [.str "least" t1]) (l2:K.lookup r2=some ⟨.type "tuple",o2,.seq i2 n2,sl2⟩) (e2:i2.toList = [.str "greatest" t2]) (l3:K.lookup r3=some ⟨.type "tuple",o3,.seq i3 n3,sl3⟩) (e3:i3.toList = [.str "product" t3]):Gk K mg "BARE_RULES" (.ref a) (.tup [(.tup [(.str "least")]),(.tup [(.str "greatest")]),(.tup [(.str "product")])]):=by
 refine ⟨_,mg_of X G m,rfl,λH=>ai5 (xs := [.ref r1,.ref r2,.ref r3]) l e (Nat.le_of_ble_eq_true rfl) (.cons rfl (.cons rfl (.cons rfl .nil))) ?_⟩
 exact .cons (ai5 (xs := [.str "least"]) l1 e1 (Nat.le_of_ble_eq_true rfl) (.cons ⟨_,rfl⟩ .nil) (.cons (.str _) .nil)) (.cons (ai5 (xs := [.str "greatest"]) l2 e2 (Nat.le_of_ble_eq_true rfl) (.cons ⟨_,rfl⟩ .nil) (.cons (.str _) .nil)) (.cons (ai5 (xs := [.str "product"]) l3 e3 (Nat.le_of_ble_eq_true rfl) (.cons ⟨_,rfl⟩ .nil) (.cons (.str _) .nil)) .nil))
theorem aoW (H:Hp):abb (λ_=>False) H=H:=by
 funext b
 exact aa1 (λz=>z)
theorem aj3 {K:Frag} {H:Hp}:∀ ns:List Int,abd K H (ns.map V.int) (ns.map Tr.int)
 | [] => .nil
 | n :: ns => .cons (.int n) (aj3 ns)
noncomputable def spL (K:Frag) (n:Nat) (F:FP):Sp:=λvs H Q E=>∃ Z ts,vs.length=n /\ abd (nlK K) (abb Z H) vs ts /\ (∀ b,Z b->Lt H b) /\ TbS (nlK K) H /\ ∃ p,F ts = .ok p /\ ∀ v H',SmT (nlK K) H H'->VRt (nlK K) Z H H' v p.1 p.2->Q v H'
theorem atj {K:Frag} {cl:Str->Addr} {n:Nat} {F:FP} (vs:List V) (H:Hp) (Q:VK) (E:XK) (h:spL K n F vs H Q E):spP K cl n F vs H Q E:=by
 obtain ⟨Z,ts,h1,h2,h3,h4,p,h5,h6⟩:=h
 refine ⟨Z,ts,h1,h2,h3,h4,?_⟩
 rw [h5]
 exact h6
theorem ayl (X:K.In h) (G:h.Ns mainGlobals mg) (z0:nsIn K mainGlobals "ValueError" = some none) (z1:nsIn K mainGlobals "abs" = some none) (z2:nsIn K mainGlobals "all" = some none) (z3:nsIn K mainGlobals "bool" = some none) (z4:nsIn K mainGlobals "enumerate" = some none) (z5:nsIn K mainGlobals "int" = some none) (z6:nsIn K mainGlobals "isinstance" = some none) (z7:nsIn K mainGlobals "len" = some none) (z8:nsIn K mainGlobals "list" = some none) (z9:nsIn K mainGlobals "min" = some none) (z10:nsIn K mainGlobals "range" = some none) (z11:nsIn K mainGlobals "sorted" = some none) (z12:nsIn K mainGlobals "tuple" = some none) (z13:nsIn K mainGlobals "zip" = some none):Nm mg :=
 ⟨mg_none_of X G z0,mg_none_of X G z1,mg_none_of X G z2,mg_none_of X G z3,mg_none_of X G z4,mg_none_of X G z5,mg_none_of X G z6,mg_none_of X G z7,mg_none_of X G z8,mg_none_of X G z9,mg_none_of X G z10,mg_none_of X G z11,mg_none_of X G z12,mg_none_of X G z13⟩
end
section
variable {P:Program} {w:World} {K:Frag} {mg:Str->Option Value} {base:Heap}
theorem aym (M:Nm mg) {adh:Addr} (aeY:PyProof.Rows.OwnCls "NoBottom" adh bmV "ValueError.__new__" mg base) {aeV:Addr} (agZ:PyProof.Rows.OwnCls "NoBook" aeV bmV "ValueError.__new__" mg base) {aeW:Addr} (ag0:PyProof.Rows.OwnCls "NoRule" aeW bmV "ValueError.__new__" mg base) {ad5:Addr} (afN:PyProof.Rows.OwnCls "NoCount" ad5 bmV "ValueError.__new__" mg base) (XT:ajH K) (afF:Cg K mg "NoBook" aeV) (ad4:Cg K mg "NoBottom" adh) (aeJ:Cg K mg "NoCount" ad5) {aiS:Addr} (agW:Cg K mg "NoLine" aiS) {aiT:Addr} (agX:Cg K mg "NoList" aiT) {ahw:Addr} (afG:Cg K mg "NoLooks" ahw) (afH:Cg K mg "NoRule" aeW) {ahx:Addr} (afI:Cg K mg "NoSlack" ahx) {aiU:Addr} (agY:Cg K mg "NoText" aiU) {ahy:Addr} (afJ:Cg K mg "NoThing" ahy) {agd:Addr} (aeX:Cg K mg "NoThings" agd) {ahz:Addr} (afK:Cg K mg "NoWorth" ahz) {ahA:Addr} (afL:Cg K mg "NotSure" ahA) {ahB:Addr} (afM:Cg K mg "TooMany" ahB) {afi:Addr} (aeh:Cg K mg "HeadError" afi) (amN:At K mg "is_whole" af4) (agH:At K mg "common_divisor" ac1) (ai6:At K mg "fraction_of" aeb) (amO:At K mg "frac_sum" af5) (aj4:At K mg "frac_times" aeF) (ai7:At K mg "is_fraction" aec) (ahI:At K mg "common_bottom" adv) (ae2:At K mg "tops_on_one_bottom" abP) {aeu agI:Addr} (agJ:AtL K mg "falling_places" acy aeu) (agK:aqa K mg base "falling_places" aeu agI) (amP:At K mg "is_worth" af6) (aj5:At K mg "are_worths" adM) (aoX:At K mg "is_book" aeG) (amQ:At K mg "is_count" af7) (ak7:At K mg "need_book" afg) (ai8:At K mg "are_weights" ada) (aoY:At K mg "is_rule" ahu) (ah5:At K mg "shares_worth" adR) (ahJ:At K mg "product_worth" adw) (amR:At K mg "place_of" af8) (amS:At K mg "worth_by" af9) (ae3:At K mg "need_book_and_rule" acq) (aj6:At K mg "need_count" aeH) (adG:At K mg "need_book_rule_and_count" aby) (ak8:At K mg "worths_of" aed) (ak9:At K mg "worths_by" aee) (ah6:At K mg "thing_worths" adS) (amT:At K mg "best_few" aeU) (azV:At K mg "_law_is" awD) (atk:At K mg "_law_purse" akH) (awj:At K mg "_law_draw" aom) (awk:At K mg "_law_frac" aon) (atl:At K mg "_law_worth" akI) (atn:At K mg "_law_lists" akJ) (awl:At K mg "_law_book" aoo) (awm:At K mg "_law_rule" aop) (aoZ:At K mg "_law_no_book" aeI) (ao0:At K mg "_law_no_rule" afE) (amU:At K mg "_law_no_count" aga) (aqF:At K mg "_law_caught" aiQ) (ato:At K mg "_law_right" akK) (ayn:At K mg "law" aqg) {aeK:V} (adN:Gk K mg "MOST_LISTS" aeK (.int 4)) {aek:V} (adb:Gk K mg "MOST_THINGS" aek (.int 12)) {aeL:V} (adO:Gk K mg "BARE_RULES" aeL (.tup [(.tup [(.str "least")]),(.tup [(.str "greatest")]),(.tup [(.str "product")])])):DfX P w K mg base 11 "law" (["_law_script"]:List Str) (spL K 1 amz):=by
 obtain ⟨cl,aiv,amd,ame,aj7⟩:∃ cl:Str→Addr,cl "NoBottom" = adh∧cl "NoBook" = aeV∧cl "NoRule" = aeW∧cl "NoCount" = ad5:=⟨λx=>if x=("NoBottom" : Str) then adh else if x=("NoBook" : Str) then aeV else if x=("NoRule" : Str) then aeW else if x=("NoCount" : Str) then ad5 else 0,if_pos rfl,(if_neg (by decide +kernel)).trans (if_pos rfl),(if_neg (by decide +kernel)).trans ((if_neg (by decide +kernel)).trans (if_pos rfl)),(if_neg (by decide +kernel)).trans ((if_neg (by decide +kernel)).trans ((if_neg (by decide +kernel)).trans (if_pos rfl)))⟩
 rw [<-aiv] at aeY
 rw [<-amd] at agZ
 rw [<-ame] at ag0
 rw [<-aj7] at afN
 have XC:XCl K cl (["NoBook", "NoBottom", "NoCount", "NoRule"]:List Str):=List.forall_mem_cons.mpr ⟨⟨by decide +kernel,by rw [amd]; exact afF.1⟩,List.forall_mem_cons.mpr ⟨⟨by decide +kernel,by rw [aiv]; exact ad4.1⟩,List.forall_mem_cons.mpr ⟨⟨by decide +kernel,by rw [aj7]; exact aeJ.1⟩,List.forall_mem_cons.mpr ⟨⟨by decide +kernel,by rw [ame]; exact afH.1⟩,λ_ h=>nomatch h⟩⟩⟩⟩
 have agj:=akP (P:=P) (w:=w) (base:=base) (cl:=cl) amN M XT
 have ac3:=agf (P:=P) (w:=w) (base:=base) (cl:=cl) agH M
 have afQ:=ah0 (P:=P) (w:=w) (base:=base) (cl:=cl) ai6 M aeY ac3
 have amV:=akN (P:=P) (w:=w) (base:=base) (cl:=cl) amO M afQ
 have agu:=aiW (P:=P) (w:=w) (base:=base) (cl:=cl) aj4 M afQ
 have afR:=ah1 (P:=P) (w:=w) (base:=base) (cl:=cl) ai7 M XT agj ac3
 have ahK:=agC (P:=P) (w:=w) (base:=base) (cl:=cl) ahI M ac3
 have ae4:=aeO (P:=P) (w:=w) (base:=base) (cl:=cl) ae2 M ahK
 have aev:=agg (P:=P) (w:=w) (base:=base) (cl:=cl) agJ agK M ae4
 have amW:=akQ (P:=P) (w:=w) (base:=base) (cl:=cl) amP M afR
 have aj8:=aiV (P:=P) (w:=w) (base:=base) (cl:=cl) aj5 M XT amW
 have ao1:=amD (P:=P) (w:=w) (base:=base) (cl:=cl) aoX M adN adb XT aj8
 have amX:=akO (P:=P) (w:=w) (base:=base) (cl:=cl) amQ M agj
 have ala:=ajP (P:=P) (w:=w) (base:=base) (cl:=cl) ak7 M agZ ao1
 have ai9:=ahZ (P:=P) (w:=w) (base:=base) (cl:=cl) ai8 M XT afR
 have ao2:=amE (P:=P) (w:=w) (base:=base) (cl:=cl) aoY M adO XT ai9 agj
 have ah7:=ahC (P:=P) (w:=w) (base:=base) (cl:=cl) ah5 M amV agu
 have ahL:=agD (P:=P) (w:=w) (base:=base) (cl:=cl) ahJ M agu
 have amY:=akS (P:=P) (w:=w) (base:=base) (cl:=cl) amR M
 have amZ:=akT (P:=P) (w:=w) (base:=base) (cl:=cl) amS M ah7 ahL aev amY
 have ac6:=aeM (P:=P) (w:=w) (base:=base) (cl:=cl) ae3 M ag0 ala ao2
 have aj9:=aiY (P:=P) (w:=w) (base:=base) (cl:=cl) aj6 M afN amX
 have adH:=adx (P:=P) (w:=w) (base:=base) (cl:=cl) adG M ac6 aj9
 have alb:=ajS (P:=P) (w:=w) (base:=base) (cl:=cl) ak8 M
 have ahM:=ajR (P:=P) (w:=w) (base:=base) (cl:=cl) ak9 M amZ alb
 have ah8:=ahD (P:=P) (w:=w) (base:=base) (cl:=cl) ah6 M ac6 ahM
 have am0:=akM (P:=P) (w:=w) (base:=base) (cl:=cl) amT M adH ahM aev
 have azW:=azO (P:=P) (w:=w) (base:=base) (cl:=cl) azV M XT afF ad4 aeJ agW agX afG afH afI agY afJ aeX afK afL afM
 have atp:=asG (P:=P) (w:=w) (base:=base) (cl:=cl) atk M
 have ahN:=avs (P:=P) (w:=w) (base:=base) awj M
 have ark:=avt (P:=P) (w:=w) (base:=base) (cl:=cl) awk M
 have atq:=asI (P:=P) (w:=w) (base:=base) (cl:=cl) atl M ahN ark
 have atr:=asD (P:=P) (w:=w) (base:=base) atn M atq
 have awn:=avr (P:=P) (w:=w) (base:=base) awl M atr ahN
 have awo:=avu (P:=P) (w:=w) (base:=base) (cl:=cl) awm M ahN ark
 have ao3:=aot (P:=P) (w:=w) (base:=base) aoZ M ahN
 have ao4:=aou (P:=P) (w:=w) (base:=base) ao0 M ahN
 have am1:=amB (P:=P) (w:=w) (base:=base) amU M ahN
 have aqG:=aqk (P:=P) (w:=w) (base:=base) (cl:=cl) aqF M XT XC aeh ah8 am0
 have atu:=asH (P:=P) (w:=w) (base:=base) (cl:=cl) ato M azW
 have ayo:=avv (P:=P) (w:=w) (base:=base) (cl:=cl) ayn M atp awn awo ahN ao3 ao4 am1 atu aqG
 obtain ⟨f,fd,h1,h2⟩:=ayo
 exact ⟨f,fd,h1.imp atj,h2⟩
end
theorem walk {l:OpenLaw} {q:Program} {loose:List Str} {XP:(Str->Option Value)->Heap->Prop} {YP:World->Heap->Prop} {d:DefRec} {K:Params->Frag} (hn:l.most=some 63) (hdf:d.params.defaults = []) (hd:d.name = "law")
  (awh:∀ x ∈ abu,((PyProof.Rows.recsOf q).find? (λe=>e.name == x)).isSome=true \/ ∀ w:World,nsIn (K w.params) mainGlobals x=some none) (hNT:∀ w:World,noTabs (K w.params)=true)
  (hY:∀ (w:World) (h:Heap),YP w h->(K w.params).In h)
  (F:∀ (w:World) (mg:Str->Option Value) (h:Heap),(K w.params).In h->h.Ns mainGlobals mg->∀ base:Heap,(K w.params).In base->base.Ns mainGlobals mg->(∀ x ∈ abu,∀ c b,tabIn (K w.params) x=some (c,b)->CodeHd base c b)->ap4 mg base->DfX l.prog w (K w.params) mg base 11 "law" (["_law_script"]:List Str) (spL (K w.params) 1 amz)) :
  WalkO q loose XP YP l.row.toRowW d [] (λf vs=>PySem.call f vs) :=
 L2.aqE (n:=63) (k:=11) (x := "_law_script") (CX:=λw=>CXF l.prog w) (sp:=λw=>spL (K w.params) 1 amz) hn (by decide) hdf ⟨rfl,by decide,by decide,rfl⟩ awh hNT hY
  (λw mg fa h KX G hm base kb gb hc bm=>by
   obtain ⟨f,fd,h1,h2,_,h4⟩:=F w mg h KX G base kb gb hc bm
   rw [hd] at hm
   cases h4.symm.trans hm
   exact ⟨fd,λs u ks=>h2 s [u] ks rfl,h1⟩)
  (λw H a ns hl hTb hS=>⟨λ_=>False,[.lst (ns.map .int)],rfl,.cons (.lst ((aoW H).symm ▸ hS.toN) (aj3 ns)) .nil,λb z=>z.elim,hTb,_,awg ns,λv H' _ r=>by
   cases r
   rfl⟩)
  λw H s e s' h=>by
   obtain ⟨_,_,_,_,_,_,z,_⟩:=h
   exact z
end K17
end
section
namespace PySem.W.Fast
end PySem.W.Fast
namespace PySem.W.Fast
end PySem.W.Fast
namespace PySem.W.Fast
theorem tw10039221569273118274:True:=⟨⟩
theorem tw10042055980882649719:True:=⟨⟩
theorem tw10579789316902271780:True:=⟨⟩
theorem tw10682997586309762283:True:=⟨⟩
theorem tw10760741911149469294:True:=⟨⟩
theorem tw10847471689290084182:True:=⟨⟩
theorem tw10899651120916002269:True:=⟨⟩
theorem tw11050757433816055293:True:=⟨⟩
theorem tw11201962207151077330:True:=⟨⟩
theorem tw11270152294657989499:True:=⟨⟩
theorem tw1148002997849191772:True:=⟨⟩
theorem tw11748292681642701025:True:=⟨⟩
theorem tw12111843482897531541:True:=⟨⟩
theorem tw12336322825761512651:True:=⟨⟩
theorem tw1247747813753985957:True:=⟨⟩
theorem tw12738041193364592443:True:=⟨⟩
theorem tw12837042421836767131:True:=⟨⟩
theorem tw12849292178896660470:True:=⟨⟩
theorem tw12889863277595616759:True:=⟨⟩
theorem tw12956371856773895584:True:=⟨⟩
theorem tw1313825652553684389:True:=⟨⟩
theorem tw13235187620382809745:True:=⟨⟩
theorem tw13347360472143818887:True:=⟨⟩
theorem tw13452953596814269293:True:=⟨⟩
theorem tw13740165899263692332:True:=⟨⟩
theorem tw13993756897840139711:True:=⟨⟩
theorem tw1416879392844142101:True:=⟨⟩
theorem tw14230117670625548440:True:=⟨⟩
theorem tw14245513588237797221:True:=⟨⟩
theorem tw14462972402023709874:True:=⟨⟩
theorem tw14564991450802933225:True:=⟨⟩
theorem tw15067414243288351486:True:=⟨⟩
theorem tw15332399681972954586:True:=⟨⟩
theorem tw15555287356473841619:True:=⟨⟩
theorem tw15661077861574902721:True:=⟨⟩
theorem tw15781195261790634840:True:=⟨⟩
theorem tw15820785500418846851:True:=⟨⟩
theorem tw1593282022171943111:True:=⟨⟩
theorem tw16108832629781104568:True:=⟨⟩
theorem tw16119013607434899347:True:=⟨⟩
theorem tw16227296112116014231:True:=⟨⟩
theorem tw16254843354506551111:True:=⟨⟩
theorem tw16259800301267749829:True:=⟨⟩
theorem tw16272636418030938569:True:=⟨⟩
theorem tw16357777328774564259:True:=⟨⟩
theorem tw16474171089137174977:True:=⟨⟩
theorem tw16511290710358235480:True:=⟨⟩
theorem tw16716076005423744119:True:=⟨⟩
theorem tw16755713300842288700:True:=⟨⟩
theorem tw16790221133345413225:True:=⟨⟩
theorem tw16967532947696179760:True:=⟨⟩
theorem tw16970890836854116102:True:=⟨⟩
theorem tw17013639337702108288:True:=⟨⟩
theorem tw17121721047817277886:True:=⟨⟩
theorem tw17150749532323636475:True:=⟨⟩
theorem tw17185311004517679935:True:=⟨⟩
theorem tw17212540255231996001:True:=⟨⟩
theorem tw17310897968391766157:True:=⟨⟩
theorem tw17365171190088455181:True:=⟨⟩
theorem tw17409219975394994907:True:=⟨⟩
theorem tw17467651736046665829:True:=⟨⟩
theorem tw17471640872193591407:True:=⟨⟩
theorem tw17608533594912028250:True:=⟨⟩
theorem tw17983270589607737786:True:=⟨⟩
theorem tw18364728366682858976:True:=⟨⟩
theorem tw18378146526036871128:True:=⟨⟩
theorem tw2411305868211246837:True:=⟨⟩
theorem tw2471657748433625659:True:=⟨⟩
theorem tw2509104255131140596:True:=⟨⟩
theorem tw2584029114440257075:True:=⟨⟩
theorem tw2699536144531513446:True:=⟨⟩
theorem tw3065921453017034280:True:=⟨⟩
theorem tw3197873058162634519:True:=⟨⟩
theorem tw3252731431032703138:True:=⟨⟩
theorem tw3537791611575293980:True:=⟨⟩
theorem tw3894215123889222234:True:=⟨⟩
theorem tw3921498361857314085:True:=⟨⟩
theorem tw4054830412903129728:True:=⟨⟩
theorem tw4078285798347143645:True:=⟨⟩
theorem tw4176375573937095041:True:=⟨⟩
theorem tw4405953661553512901:True:=⟨⟩
theorem tw467434552767236298:True:=⟨⟩
theorem tw4778989767571599755:True:=⟨⟩
theorem tw4918653674197323866:True:=⟨⟩
theorem tw4961045049015513964:True:=⟨⟩
theorem tw4975997278906009311:True:=⟨⟩
theorem tw499720797474622686:True:=⟨⟩
theorem tw5153239096530006714:True:=⟨⟩
theorem tw5183113117777399981:True:=⟨⟩
theorem tw54696637475674104:True:=⟨⟩
theorem tw5483591555511042689:True:=⟨⟩
theorem tw5535328450467498442:True:=⟨⟩
theorem tw555227027200950971:True:=⟨⟩
theorem tw5649194676588903001:True:=⟨⟩
theorem tw5687493815916049438:True:=⟨⟩
theorem tw5696876643912391492:True:=⟨⟩
theorem tw6077902257946758348:True:=⟨⟩
theorem tw617000032759335766:True:=⟨⟩
theorem tw6236496338085856744:True:=⟨⟩
theorem tw6532655814963681754:True:=⟨⟩
theorem tw68347455934657787:True:=⟨⟩
theorem tw6907061895207592488:True:=⟨⟩
theorem tw7242753644357596156:True:=⟨⟩
theorem tw7313423954181458401:True:=⟨⟩
theorem tw735622670381114742:True:=⟨⟩
theorem tw738113701655031565:True:=⟨⟩
theorem tw738240418424860944:True:=⟨⟩
theorem tw7431438765267273844:True:=⟨⟩
theorem tw7535149801738552642:True:=⟨⟩
theorem tw7563542336247743867:True:=⟨⟩
theorem tw7806970702628965066:True:=⟨⟩
theorem tw7849761128160517921:True:=⟨⟩
theorem tw7896288608087163920:True:=⟨⟩
theorem tw7942927079742499176:True:=⟨⟩
theorem tw7969794990698743766:True:=⟨⟩
theorem tw7988051567925245517:True:=⟨⟩
theorem tw8166861209871507513:True:=⟨⟩
theorem tw8383913401258984266:True:=⟨⟩
theorem tw848189121037078738:True:=⟨⟩
theorem tw8518136710062236159:True:=⟨⟩
theorem tw8979623284263850646:True:=⟨⟩
theorem tw9024276996140515742:True:=⟨⟩
theorem tw9148618009587011195:True:=⟨⟩
theorem tw9277995782924423015:True:=⟨⟩
theorem tw9366375558532276631:True:=⟨⟩
theorem tw9833973422002929466:True:=⟨⟩
theorem tw9886623399348414588:True:=⟨⟩
end PySem.W.Fast
open PySem PySem.W PyProof.Rows
set_option maxRecDepth 100000 in
set_option maxHeartbeats 0 in
theorem PySem.Challenge.cw_bestheads_k17_no_best_few_holds : PySem.Challenge.rw_bestheads_k17_no_best_few.Holds := by
 w_on; o_law; k_head; (case hw=>w_witness2)
 k_fill
 refine K17.walk (l:=PySem.Challenge.rw_bestheads_k17_no_best_few) rfl rfl rfl ?awh ?hNT (λw h Y=>by first | exact PySem.W.km_in_of Y | exact PySem.W.kIn_of Y) ?F
 case awh =>
  intro x hx
  rcases (List.mem_cons.mp hx) with rfl | hx
  ·exact .inl (by kernel_rfl)
  ·rw [List.mem_singleton.mp hx]
   exact .inr λw=>by k_is
 case hNT=>intro w; kernel_rfl
 case F =>
  intro w mg h KX G base kb gb hcd hbm
  refine' K17.aym ?qM ?alc ?ao5 ?ao6 ?am2 ?qXT ?ao7 ?ald ?am3 ?ao8 ?ao9 ?am4 ?apa ?am5 ?apb ?am6 ?ale ?am7 ?am8 ?am9 ?akb ?qd1 ?qd2 ?qd3 ?qd4 ?qd5 ?qd6 ?qd7 ?qd8 ?qd9 ?qe9 ?azX ?azY ?azZ ?az0 ?az1 ?az2 ?az3 ?az4 ?az5 ?az6 ?az7 ?az8 ?az9 ?aAa ?aAb ?aAc ?aAd ?aAe ?aAf ?aAg ?aAh ?aAi ?aAj ?aAk ?aAl ?aAm ?aAn ?aAo ?aAp ?aAq ?aAr ?aAs ?ayp ?ayq ?ayr
  case qM =>
   refine' K17.ayl KX G ?z0 ?z1 ?z2 ?z3 ?z4 ?z5 ?z6 ?z7 ?z8 ?z9 ?z10 ?z11 ?z12 ?z13
   all_goals k_is
  case qd1 =>
   refine' K17.abU KX G ?qa1 ?ql1 ?qc1 ?qk1
   (case qa1=>k_is); (case ql1=>k_is); (case qc1=>k_is); (case qk1=>k_is)
  case qd2 =>
   refine' K17.abU KX G ?qa2 ?ql2 ?qc2 ?qk2
   (case qa2=>k_is); (case ql2=>k_is); (case qc2=>k_is); (case qk2=>k_is)
  case qd3 =>
   refine' K17.abU KX G ?qa3 ?ql3 ?qc3 ?qk3
   (case qa3=>k_is); (case ql3=>k_is); (case qc3=>k_is); (case qk3=>k_is)
  case qd4 =>
   refine' K17.abU KX G ?qa4 ?ql4 ?qc4 ?qk4
   (case qa4=>k_is); (case ql4=>k_is); (case qc4=>k_is); (case qk4=>k_is)
  case qd5 =>
   refine' K17.abU KX G ?qa5 ?ql5 ?qc5 ?qk5
   (case qa5=>k_is); (case ql5=>k_is); (case qc5=>k_is); (case qk5=>k_is)
  case qd6 =>
   refine' K17.abU KX G ?qa6 ?ql6 ?qc6 ?qk6
   (case qa6=>k_is); (case ql6=>k_is); (case qc6=>k_is); (case qk6=>k_is)
  case qd7 =>
   refine' K17.abU KX G ?qa7 ?ql7 ?qc7 ?qk7
   (case qa7=>k_is); (case ql7=>k_is); (case qc7=>k_is); (case qk7=>k_is)
  case qd8 =>
   refine' K17.abU KX G ?qa8 ?ql8 ?qc8 ?qk8
   (case qa8=>k_is); (case ql8=>k_is); (case qc8=>k_is); (case qk8=>k_is)
  case azX =>
   refine' K17.abU KX G ?aAt ?aAu ?aAv ?aAw
   (case aAt=>k_is); (case aAu=>k_is); (case aAv=>k_is); (case aAw=>k_is)
  case azY =>
   refine' K17.abU KX G ?aAx ?aAy ?aAz ?aAA
   (case aAx=>k_is); (case aAy=>k_is); (case aAz=>k_is); (case aAA=>k_is)
  case azZ =>
   refine' K17.abU KX G ?aAB ?aAC ?aAD ?aAE
   (case aAB=>k_is); (case aAC=>k_is); (case aAD=>k_is); (case aAE=>k_is)
  case az0 =>
   refine' K17.abU KX G ?aAF ?aAG ?aAH ?aAI
   (case aAF=>k_is); (case aAG=>k_is); (case aAH=>k_is); (case aAI=>k_is)
  case az1 =>
   refine' K17.abU KX G ?aAJ ?aAK ?aAL ?aAM
   (case aAJ=>k_is); (case aAK=>k_is); (case aAL=>k_is); (case aAM=>k_is)
  case az2 =>
   refine' K17.abU KX G ?aAN ?aAO ?aAP ?aAQ
   (case aAN=>k_is); (case aAO=>k_is); (case aAP=>k_is); (case aAQ=>k_is)
  case az3 =>
   refine' K17.abU KX G ?aAR ?aAS ?aAT ?aAU
   (case aAR=>k_is); (case aAS=>k_is); (case aAT=>k_is); (case aAU=>k_is)
  case az4 =>
   refine' K17.abU KX G ?aAV ?aAW ?aAX ?aAY
   (case aAV=>k_is); (case aAW=>k_is); (case aAX=>k_is); (case aAY=>k_is)
  case az5 =>
   refine' K17.abU KX G ?aAZ ?aA0 ?aA1 ?aA2
   (case aAZ=>k_is); (case aA0=>k_is); (case aA1=>k_is); (case aA2=>k_is)
  case az6 =>
   refine' K17.abU KX G ?aA3 ?aA4 ?aA5 ?aA6
   (case aA3=>k_is); (case aA4=>k_is); (case aA5=>k_is); (case aA6=>k_is)
  case az7 =>
   refine' K17.abU KX G ?aA7 ?aA8 ?aA9 ?aBa
   (case aA7=>k_is); (case aA8=>k_is); (case aA9=>k_is); (case aBa=>k_is)
  case az8 =>
   refine' K17.abU KX G ?aBb ?aBd ?aBe ?aBf
   (case aBb=>k_is); (case aBd=>k_is); (case aBe=>k_is); (case aBf=>k_is)
  case az9 =>
   refine' K17.abU KX G ?aBg ?aBh ?aBi ?aBj
   (case aBg=>k_is); (case aBh=>k_is); (case aBi=>k_is); (case aBj=>k_is)
  case aAa =>
   refine' K17.abU KX G ?aBk ?aBl ?aBm ?aBn
   (case aBk=>k_is); (case aBl=>k_is); (case aBm=>k_is); (case aBn=>k_is)
  case aAb =>
   refine' K17.abU KX G ?aBo ?aBp ?aBq ?aBr
   (case aBo=>k_is); (case aBp=>k_is); (case aBq=>k_is); (case aBr=>k_is)
  case aAc =>
   refine' K17.abU KX G ?aBs ?aBt ?aBu ?aBv
   (case aBs=>k_is); (case aBt=>k_is); (case aBu=>k_is); (case aBv=>k_is)
  case aAd =>
   refine' K17.abU KX G ?aBw ?aBx ?aBy ?aBz
   (case aBw=>k_is); (case aBx=>k_is); (case aBy=>k_is); (case aBz=>k_is)
  case aAe =>
   refine' K17.abU KX G ?aBA ?aBB ?aBC ?aBD
   (case aBA=>k_is); (case aBB=>k_is); (case aBC=>k_is); (case aBD=>k_is)
  case aAf =>
   refine' K17.abU KX G ?aBE ?aBF ?aBG ?aBH
   (case aBE=>k_is); (case aBF=>k_is); (case aBG=>k_is); (case aBH=>k_is)
  case aAg =>
   refine' K17.abU KX G ?aBI ?aBJ ?aBK ?aBL
   (case aBI=>k_is); (case aBJ=>k_is); (case aBK=>k_is); (case aBL=>k_is)
  case aAh =>
   refine' K17.abU KX G ?aBM ?aBN ?aBO ?aBP
   (case aBM=>k_is); (case aBN=>k_is); (case aBO=>k_is); (case aBP=>k_is)
  case aAi =>
   refine' K17.abU KX G ?aBQ ?aBR ?aBS ?aBT
   (case aBQ=>k_is); (case aBR=>k_is); (case aBS=>k_is); (case aBT=>k_is)
  case aAj =>
   refine' K17.abU KX G ?aBU ?aBV ?aBW ?aBX
   (case aBU=>k_is); (case aBV=>k_is); (case aBW=>k_is); (case aBX=>k_is)
  case aAk =>
   refine' K17.abU KX G ?aBY ?aBZ ?aB0 ?aB1
   (case aBY=>k_is); (case aBZ=>k_is); (case aB0=>k_is); (case aB1=>k_is)
  case aAl =>
   refine' K17.abU KX G ?aB2 ?aB3 ?aB4 ?aB5
   (case aB2=>k_is); (case aB3=>k_is); (case aB4=>k_is); (case aB5=>k_is)
  case aAm =>
   refine' K17.abU KX G ?aB6 ?aB7 ?aB8 ?aB9
   (case aB6=>k_is); (case aB7=>k_is); (case aB8=>k_is); (case aB9=>k_is)
  case aAn =>
   refine' K17.abU KX G ?aCa ?aCb ?aCc ?aCd
   (case aCa=>k_is); (case aCb=>k_is); (case aCc=>k_is); (case aCd=>k_is)
  case aAo =>
   refine' K17.abU KX G ?aCe ?aCf ?aCg ?aCh
   (case aCe=>k_is); (case aCf=>k_is); (case aCg=>k_is); (case aCh=>k_is)
  case aAp =>
   refine' K17.abU KX G ?aCi ?aCj ?aCk ?aCl
   (case aCi=>k_is); (case aCj=>k_is); (case aCk=>k_is); (case aCl=>k_is)
  case aAq =>
   refine' K17.abU KX G ?aCm ?aCn ?aCo ?aCp
   (case aCm=>k_is); (case aCn=>k_is); (case aCo=>k_is); (case aCp=>k_is)
  case aAr =>
   refine' K17.abU KX G ?aCq ?aCr ?aCs ?aCt
   (case aCq=>k_is); (case aCr=>k_is); (case aCs=>k_is); (case aCt=>k_is)
  case aAs =>
   refine' K17.abU KX G ?aCu ?aCv ?aCw ?aCx
   (case aCu=>k_is); (case aCv=>k_is); (case aCw=>k_is); (case aCx=>k_is)
  case qd9 =>
   refine' K17.awi KX G ?qa9 ?ql9 ?qc9 ?qk9
   (case qa9=>k_is); (case ql9=>k_is); (case qc9=>k_is); (case qk9=>k_is)
  case qe9 =>
   refine' L2.aqb (by decide) hcd hbm (L2.asr ?ra9 ?rb9 ?aCy ?rc9 ?aCz ?aCA ?rd9 ?aCB ?aCC) ?re9
   (case ra9=>k_is); (case rb9=>k_is); (case rc9=>k_is); (case aCA=>exact rfl); (case rd9=>k_is); (case aCy=>kernel_rfl); (case aCz=>kernel_rfl); (case aCB=>kernel_rfl); (case aCC=>exact rfl)
   case re9 =>
    intro x' hx'
    rcases (List.mem_cons.mp hx') with rfl | hx'
    ·exact .inl rfl
    ·rw [List.mem_singleton.mp hx']
     exact .inr λc' z=>(by have y:=(L2.al6 (by k_is)).symm.trans z; cases y)
  case ayp =>
   refine' K17.arj KX G ?ays
   (case ays=>k_is)
  case ayq =>
   refine' K17.arj KX G ?ayt
   (case ayt=>k_is)
  case ayr =>
   refine' K17.ati KX G ?qbm ?qbl ?qbe ?aCD ?aCE ?aCF ?aCG ?aCH ?aCI
   (case qbm=>k_is); (case qbl=>k_is); (case qbe=>rfl); (case aCD=>k_is); (case aCE=>rfl); (case aCF=>k_is); (case aCG=>rfl); (case aCH=>k_is); (case aCI=>rfl)
  case qXT=>exact L2.ajH.of (by kernel_rfl)
  case ao7 =>
   refine' ⟨?ana,mg_of KX G ?anb⟩
   (case ana=>k_is); (case anb=>k_is)
  case ald =>
   refine' ⟨?akc,mg_of KX G ?akd⟩
   (case akc=>k_is); (case akd=>k_is)
  case am3 =>
   refine' ⟨?alf,mg_of KX G ?alg⟩
   (case alf=>k_is); (case alg=>k_is)
  case ao8 =>
   refine' ⟨?anc,mg_of KX G ?ane⟩
   (case anc=>k_is); (case ane=>k_is)
  case ao9 =>
   refine' ⟨?anf,mg_of KX G ?ang⟩
   (case anf=>k_is); (case ang=>k_is)
  case am4 =>
   refine' ⟨?alh,mg_of KX G ?ali⟩
   (case alh=>k_is); (case ali=>k_is)
  case apa =>
   refine' ⟨?anh,mg_of KX G ?ani⟩
   (case anh=>k_is); (case ani=>k_is)
  case am5 =>
   refine' ⟨?alj,mg_of KX G ?alk⟩
   (case alj=>k_is); (case alk=>k_is)
  case apb =>
   refine' ⟨?anj,mg_of KX G ?ank⟩
   (case anj=>k_is); (case ank=>k_is)
  case am6 =>
   refine' ⟨?alm,mg_of KX G ?aln⟩
   (case alm=>k_is); (case aln=>k_is)
  case ale =>
   refine' ⟨?ake,mg_of KX G ?akf⟩
   (case ake=>k_is); (case akf=>k_is)
  case am7 =>
   refine' ⟨?alo,mg_of KX G ?alp⟩
   (case alo=>k_is); (case alp=>k_is)
  case am8 =>
   refine' ⟨?alq,mg_of KX G ?alr⟩
   (case alq=>k_is); (case alr=>k_is)
  case am9 =>
   refine' ⟨?als,mg_of KX G ?alu⟩
   (case als=>k_is); (case alu=>k_is)
  case akb =>
   refine' ⟨?aja,mg_of KX G ?ajb⟩
   (case aja=>k_is); (case ajb=>k_is)
  case alc =>
   refine' L2.alP kb gb ?akg ?akh
   (case akg=>k_is); (case akh=>k_exc)
  case ao5 =>
   refine' L2.alP kb gb ?anl ?anm
   (case anl=>k_is); (case anm=>k_exc)
  case ao6 =>
   refine' L2.alP kb gb ?ano ?anp
   (case ano=>k_is); (case anp=>k_exc)
  case am2 =>
   refine' L2.alP kb gb ?alv ?alw
   (case alv=>k_is); (case alw=>k_exc)
#print axioms PySem.Challenge.cw_bestheads_k17_no_best_few_holds
end