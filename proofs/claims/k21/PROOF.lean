import PyProof.Rows.All
import Wide.All
import OpenK.AllK
import Wide.FinOn
import Lean
import PyProof.EqAt
import PyProof.EqKinds
import PyProof.TupleCall
import PyProof.ReprRoads
import PyProof.ReprBulk
import PyProof.Rows.RegStrFacts
import PyProof.StrBlockH
import PyProof.FitsBits
import KE.KTurns
import PyProof.NeKinds
import KE.KNest
import KE.KSortKey
import PyProof.ListRange
import PyProof.Rows.SortWalk
import KE.KListMore
import KE.KIntText
import PyProof.Rows.SumAny
import KE.KSortTup
import PySem.Challenge.RW_bestheads_k21_bounds
noncomputable section
abbrev FZ:=PySem.W.Frag
set_option exponentiation.threshold 6000
set_option Elab.async false
set_option linter.all false
set_option maxRecDepth 100000
set_option maxHeartbeats 4000000
section
namespace L2
open PySem PySem.Spec PyProof.Rows
abbrev Key:=Sum Int Str
def Rw:Key->Value->Bool
 |.inl k,v=>Value.isInt k v
 |.inr x,v=>Value.isStrOf x v
def aad(w:World):Key->Int
 |.inl k=>hashInt k
 |.inr x=>hashStr w x
theorem qW:∀{k:Key} {v:Value},Rw k v=true->(∃i t,k=Sum.inl i/\v=Value.int i t)\/(∃x t,k=Sum.inr x/\v=Value.str x t)
 |.inl i,v,h=>by
  obtain⟨t,e⟩:=Value.isInt_shape (k:=i) (v:=v) h
  exact .inl ⟨i,t,rfl,e⟩
 |.inr x,v,h=>by
  obtain⟨t,e⟩:=Value.isStrOf_shape (x:=x) (v:=v) h
  exact .inr ⟨x,t,rfl,e⟩
theorem aae(a b:Int):decide ((Sum.inl a:Key)=Sum.inl b)=(a == b):=by
 by_cases e:a=b
 .subst e; simp
 .have h:¬(Sum.inl a:Key)=Sum.inl b:=λq=>e (Sum.inl.inj q)
  rw[decide_eq_false h]
  exact(beq_eq_false_iff_ne.mpr e).symm
theorem aaf(a b:Str):decide ((Sum.inr a:Key)=Sum.inr b)=decide (a=b):=by
 by_cases e:a=b
 .subst e; simp
 .have h:¬(Sum.inr a:Key)=Sum.inr b:=λq=>e (Sum.inr.inj q)
  rw[decide_eq_false h,decide_eq_false e]
theorem aag(a:Int)(b:Str):decide ((Sum.inl a:Key)=Sum.inr b)=false:=decide_eq_false (λq=>nomatch q)
theorem aah(a:Str)(b:Int):decide ((Sum.inr a:Key)=Sum.inl b)=false:=decide_eq_false (λq=>nomatch q)
noncomputable def Jq(prog:Program)(w:World):PySem.KeyKind prog w Key where
 is:=Rw
 hash:=aad w
 inj:=λv a b ha hb=>by
  rcases qW ha with⟨i,t,rfl,rfl⟩|⟨x,t,rfl,rfl⟩
  .rcases qW hb with⟨j,u,rfl,e⟩|⟨y,u,rfl,e⟩
   .injection e with e1 _; rw[e1]
   .exact nomatch e
  .rcases qW hb with⟨j,u,rfl,e⟩|⟨y,u,rfl,e⟩
   .exact nomatch e
   .injection e with e1 _; rw[e1]
 byValue:=λk v h=>by
  rcases qW h with⟨i,t,rfl,rfl⟩|⟨x,t,rfl,rfl⟩ <;> rfl
 pyHash:=λhv h=>by
  rcases qW hv with⟨i,t,rfl,rfl⟩|⟨x,t,rfl,rfl⟩
  .exact wpAny_pyHash_int h
  .exact wpAny_pyHash_str h
 eqBool:=λhu hv h=>by
  rcases qW hu with⟨i,t,rfl,rfl⟩|⟨x,t,rfl,rfl⟩
  .rcases qW hv with⟨j,u,rfl,rfl⟩|⟨y,u,rfl,rfl⟩
   .rw[aae]at h; exact wpAny_eqBool_int h
   .rw[aag]at h; exact SeqAt.EqAt.int_str i t y u _ _ _ _ h
  .rcases qW hv with⟨j,u,rfl,rfl⟩|⟨y,u,rfl,rfl⟩
   .rw[aah]at h; exact SeqAt.EqAt.str_int x t j u _ _ _ _ h
   .rw[aaf]at h; exact wpAny_eqBool_str h
 «strs» := λk x t v h=>by
  rcases qW h with⟨i,u,rfl,e⟩|⟨y,u,rfl,e⟩
  .exact nomatch e
  .injection e with e1 _
   subst e1
   cases v <;> rfl
inductive V where
 |non|bl (b:Bool)|int (i:Int)|str (x:Str)|yH (b:Array UInt8)|flt (b:UInt64)|ref (a:Addr)|ty (n:String)
 deriving DecidableEq
noncomputable def RelV:V->Value->Prop
 |.non,u=>u=Value.none
 |.bl b,u=>u=Value.bool b
 |.int i,u=>∃t,u=Value.int i t
 |.str x,u=>∃t,u=Value.str x t
 |.yH b,u=>∃t,u=Value.bytes b t
 |.flt b,u=>∃t,u=Value.float b t
 |.ref a,u=>u=Value.ref a
 |.ty n,u=>u=Value.type n
abbrev Vals:List V->List Value->Prop:=Paired RelV
theorem Vals.length{xs:List V}{us:List Value}(r:Vals xs us):xs.length=us.length:=Paired.length r
theorem Vals.get:∀{xs:List V} {us:List Value} {i:Nat} {x:V},Vals xs us->xs[i]?=some x->∃u,us[i]?=some u/\RelV x u
 |_,_,_,_,.nil,e=>by simp at e
 |_,_,0,_,.cons r _,e=>by simp at e; subst e; exact⟨_,rfl,r⟩
 |_,_,i+1,x,.cons _ t,e=>by
  obtain⟨u,a,b⟩:=Vals.get (i:=i) (x:=x) t (by simpa using e)
  exact⟨u,by simpa using a,b⟩
theorem Vals.set{x:V}{u:Value}(r:RelV x u):∀{xs:List V} {us:List Value} (i:Nat),Vals xs us->Vals (xs.set i x) (us.set i u)
 |_,_,_,.nil=>.nil
 |_,_,0,.cons _ t=>.cons r t
 |_,_,i+1,.cons q t=>.cons q (Vals.set r i t)
theorem Vals.append:∀{xs ys:List V} {us ws:List Value},Vals xs us->Vals ys ws->Vals (xs++ys) (us++ws)
 |_,_,_,_,.nil,s=>s
 |_,_,_,_,.cons r t,s=>.cons r (Vals.append t s)
theorem Vals.take:∀{xs:List V} {us:List Value} (n:Nat),Vals xs us->Vals (xs.take n) (us.take n)
 |_,_,0,_=>.nil
 |_,_,_+1,.nil=>.nil
 |_,_,n+1,.cons r t=>.cons r (Vals.take n t)
theorem Vals.drop:∀{xs:List V} {us:List Value} (n:Nat),Vals xs us->Vals (xs.drop n) (us.drop n)
 |_,_,0,r=>r
 |_,_,_+1,.nil=>.nil
 |_,_,n+1,.cons _ t=>Vals.drop n t
def Rx:Option V->Option Value->Prop
 |some v,some u=>RelV v u
 |none,none=>True
 |_,_=>False
def KV{κ : Type}:List (κ × V)->List (κ × Value)->Prop:=Paired λ(p : κ × V) (q : κ × Value)=>p.1=q.1/\RelV p.2 q.2
def kV:Key->V
 |.inl i=>.int i
 |.inr x=>.str x
inductive HO where
 |lst (xs:List V)
 |tup (xs:List V)
 |dK (kvs:List (Key × V))|dT (kvs:List (List Key × V))
 |set (S:Int->Bool) (n:Nat)
 |ins (C dx:Addr) (fs:List (Str × V))
 |own (x:Addr)
 |xd (fs:List (Str × V))
 |met (f x:Addr)
 |rng (lo hi:Int)
 |fC (o:Obj) (u:HO)
 |eE (ps:Array Value)
 |ext (φ : Heap->Prop)
abbrev Hp:=Addr->Option HO
def upd(H:Hp)(a:Addr)(o:HO):Hp:=λb=>if b=a then some o else H b
theorem dM{H:Hp}{a:Addr}{o:HO}:upd H a o a=some o:=by unfold upd; rw[if_pos rfl]
theorem bA{H:Hp}{a b:Addr}{o:HO}(h:b≠a):upd H a o b=H b:=by unfold upd; rw[if_neg h]
theorem iV{H:Hp}{a b:Addr}{o:HO}(h:H a=some o)(h':H b=none):a≠b:=by
 intro e; subst e; rw[h]at h'; cases h'
section
variable (P:Program)(w:World)
noncomputable def mZ(H:Hp)(h:Heap)(a:Addr):HO->Prop
 |.lst xs=>xs.length<=sizeLine/\∃(its:List Value) (n:Nat),Vals xs its/\h.get? a=some {cls:=.type "list",data:=.seq its.toArray n }
 |.tup xs=>xs.length<=sizeLine/\∃its:List Value,Vals xs its/\IsTup h a its.toArray
 |.dK kvs=>kvs.length<=sizeLine/\(a == sysModules)=false/\∃vs,KV kvs vs/\h.DictOf (Jq P w) a vs
 |.dT kvs=>kvs.length<=sizeLine/\(a == sysModules)=false/\∃xs:List (List Key × Addr × Value),
   Paired (λ(p:List Key × V) (q:List Key × Addr × Value)=>p.1=q.1/\H q.2.1=some (.tup (p.1.map kV))/\RelV p.2 q.2.2) kvs xs /\
   ∃o es ep,h.get? a=some o/\o.ExactDict/\o.data=.dict es ep/\es.toList=xs.map (entryOfKey (tupleKind (Jq P w)))/\(xs.map (·.1)).Nodup
 |.set S n=>h.SetOf (intKind P w) a S n
 |.ins C dx fs=>H dx=some (.own a)/\fs.length<=1000/\dx≠a/\h.get? a=some (PySem.W.instObj C dx) /\
   ∃mA,h.Ns1 dx mA/\(∀f,Rx (fs.lookup f) (mA f))/\PySem.Within mA (fs.map (·.1))
 |.own _=>∃o,h.get? a=some o
 |.xd fs=>∃mA,h.Ns1 a mA/\∀f,Rx (fs.lookup f) (mA f)
 |.rng lo hi=>∃t u v,h.get? a=some {cls:=.type "range",data:=.fields #[.int lo t,.int hi u,.int 1 v] }
 |.fC o u=>h.get? a=some o/\mZ H h a u
 |.eE ps=>h.get? a=some {cls:=.none,data:=.fields ps }
 |.met f x=>h.get? a=some (PySem.W.methodObj (.ref f) (.ref x))
 |.ext φ=>φ h/\(∃o,h.get? a=some o)/\∀h1 h2:Heap,φ h1->(∀o,h1.get? a=some o->h2.get? a=some o) -> φ h2
def gO(H:Hp)(h:Heap):Prop:=∀a o,H a=some o->mZ P w H h a o
end
section
variable {P:Program}{w:World}{H H':Hp}{h h':Heap}{a:Addr}{o:HO}
theorem mZ.lt(x:mZ P w H h a o):a<h.objs.size:=by
 cases o with
 |lst c=>obtain⟨_,_,_,_,e⟩:=x; exact Heap.lt_size e
 |tup c=>obtain⟨_,_,_,p⟩:=x; exact p.lt
 |dK b=>obtain⟨_,_,_,_,o,_,_,e,_⟩:=x; exact Heap.lt_size e
 |dT b=>obtain⟨_,_,_,_,o,_,_,e,_⟩:=x; exact Heap.lt_size e
 |set S n=>obtain⟨o,_,_,_,e,_⟩:=x; exact Heap.lt_size e
 |ins C d fs=>obtain⟨_,_,_,e,_⟩:=x; exact Heap.lt_size e
 |own y=>obtain⟨_,e⟩:=x; exact Heap.lt_size e
 |xd fs=>obtain⟨_,⟨_,_,_,e,_⟩,_⟩:=x; exact Heap.lt_size e
 |rng lo hi=>obtain⟨_,_,_,e⟩:=x; exact Heap.lt_size e
 |fC ob u=>obtain⟨e,_⟩:=x; exact Heap.lt_size e
 |eE g=>exact Heap.lt_size (show h.get? a=some _ from x)
 |met f y=>exact Heap.lt_size (show h.get? a=some _ from x)
 |ext i=>obtain⟨_,⟨_,e⟩,_⟩:=x; exact Heap.lt_size e
theorem Paired.Ry{α β : Type}{F G : α -> β -> Prop}:∀{l₁ : List α} {c : List β},Paired F l₁ c -> (∀a b,F a b->G a b)->Paired G l₁ c
 |_,_,.nil,_=>.nil
 |_,_,.cons r t,f=>.cons (f _ _ r) (Paired.Ry t f)
theorem mZ.stay(x:mZ P w H h a o)(k:∀b u,(b=a\/H b=some (.own a))->h.get? b=some u->h'.get? b=some u)
  (A:∀b,H b=some (.own a)->H' b=some (.own a)) (B:∀b xs,H b=some (.tup xs)->H' b=some (.tup xs)):mZ P w H' h' a o:=by
 induction o with
 |lst xs=>obtain⟨z,j,n,r,e⟩:=x; exact⟨z,j,n,r,k _ _ (.inl rfl) e⟩
 |tup xs=>obtain⟨z,j,r,ob,e,c⟩:=x; exact⟨z,j,r,ob,k _ _ (.inl rfl) e,c⟩
 |dK l=>obtain⟨z,y,D,r,ob,g,i,e,c⟩:=x; exact⟨z,y,D,r,ob,g,i,k _ _ (.inl rfl) e,c⟩
 |dT l =>
  obtain⟨z,y,xs,r,ob,g,i,e,c⟩:=x
  exact⟨z,y,xs,Paired.Ry r λp q z=>⟨z.1,B _ _ z.2.1,z.2.2⟩,ob,g,i,k _ _ (.inl rfl) e,c⟩
 |set S n=>obtain⟨ob,g,i,t,e,c⟩:=x; exact⟨ob,g,i,t,k _ _ (.inl rfl) e,c⟩
 |ins C G fs =>
  obtain⟨d,z,ne,e,m,⟨od,g,i,E,c⟩,r⟩:=x
  exact⟨A _ d,z,ne,k _ _ (.inl rfl) e,m,⟨od,g,i,k _ _ (.inr d) E,c⟩,r⟩
 |own y=>obtain⟨ob,e⟩:=x; exact⟨ob,k _ _ (.inl rfl) e⟩
 |xd fs=>obtain⟨m,⟨od,g,i,e,c⟩,r⟩:=x; exact⟨m,⟨od,g,i,k _ _ (.inl rfl) e,c⟩,r⟩
 |rng lo hi=>obtain⟨t,u,v,e⟩:=x; exact⟨t,u,v,k _ _ (.inl rfl) e⟩
 |fC ob u F=>obtain⟨e,q⟩:=x; exact⟨k _ _ (.inl rfl) e,F q⟩
 |eE s =>
  have e:h.get? a=some {cls:=.none,data:=.fields s }:=x
  show h'.get? a=some {cls:=.none,data:=.fields s }
  exact k a _ (.inl rfl) e
 |met f y =>
  have e:h.get? a=some (PySem.W.methodObj (.ref f) (.ref y)):=x
  show h'.get? a=some (PySem.W.methodObj (.ref f) (.ref y))
  exact k a _ (.inl rfl) e
 |ext I=>obtain⟨p,⟨o,e⟩,st⟩:=x; exact⟨st _ _ p λo q=>k _ _ (.inl rfl) q,⟨o,k _ _ (.inl rfl) e⟩,st⟩
theorem gO.lt(x:gO P w H h)(e:H a=some o):a<h.objs.size:=(x a o e).lt
theorem gO.fresh(x:gO P w H h)(e:h.objs.size<=a):H a=none:=by
 cases q:H a with
 |none=>rfl
 |some u=>exact absurd (Nat.lt_of_lt_of_le (x.lt q) e) (Nat.lt_irrefl _)
theorem gO.kept(x:gO P w H h)(k:∀b u,h.get? b=some u->h'.get? b=some u):gO P w H h':=λa o e =>
 (x a o e).stay (λb u _ q=>k b u q) (λ_ q=>q) λ_ _ q=>q
theorem gO.laid(x:gO P w H h)(k:∀b u,h.get? b=some u->h'.get? b=some u)(g:h.objs.size<=a)(new:mZ P w (upd H a o) h' a o):gO P w (upd H a o) h':=λb u e=>by
 have d:=x.fresh g
 by_cases f:b=a
 .subst f; rw[dM]at e; cases e; exact new
 .rw[bA f]at e
  exact(x b u e).stay (λc v _ q=>k c v q) (λc q=>by rw[bA (iV q d)]; exact q) λc i q=>by rw[bA (iV q d)]; exact q
end
def Rd(H:Hp)(a:Addr)(u:HO):Prop:=H a=some u\/∃o,H a=some (.fC o u)
theorem Rd.ok{P:Program}{w:World}{H:Hp}{h:Heap}{a:Addr}{u:HO}(r:Rd H a u)(x:gO P w H h):mZ P w H h a u:=by
 rcases r with r|⟨o,r⟩
 .exact x a u r
 .obtain⟨_,q⟩:=x a _ r
  exact q
def CZ:Option HO->Prop
 |some (.lst _)=>True
 |some (.dK _)=>True
 |some (.dT _)=>True
 |some (.set _ _)=>True
 |some (.ins _ _ _)=>True
 |some (.ext _)=>True
 |_=>False
section
variable {P:Program}{w:World}{H:Hp}{h h':Heap}{x e:Addr}{o':HO}
theorem gO.write(ok:gO P w H h)(d:CZ (H x))(he:e=x\/H e=some (.own x))(k:∀b u,b≠e->h.get? b=some u->h'.get? b=some u)(j:∃u,h'.get? e=some u)
  (new:mZ P w (upd H x o') h' x o'):gO P w (upd H x o') h':=λb u q=>by
 have m:∀c y,H c=some (.own y)->c≠x:=λc y r z=>by subst z; rw[r]at d; exact d
 have l:∀c f,H c=some (.tup f)->c≠x:=λc f r z=>by subst z; rw[r]at d; exact d
 by_cases g:b=x
 .subst g; rw[dM]at q; cases q; exact new
 .rw[bA g]at q
  by_cases a:b=e
  .have n:H b=some (.own x):=by
    rcases he with z|z
    .exact absurd (a.trans z) g
    .rw[a]; exact z
   rw[q]at n; cases n
   obtain⟨v,o⟩:=j
   exact⟨v,by rw[a]; exact o⟩
  .refine(ok b u q).stay (λc v i r=>k c v ?_ r) (λc r=>by rw[bA (m c b r)]; exact r) λc f r=>by rw[bA (l c f r)]; exact r
   rcases i with rfl|i
   .exact a
   .rintro rfl
    rcases he with z|z
    .exact m c b i z
    .rw[i]at z; cases z; exact g rfl
end
structure Un(fs ex:List Addr)(H H':Hp)(h h':Heap):Prop where
 keep:∀b o,h.get? b=some o->H b=none->b∉fs->b∉ex->h'.get? b=some o
 slot:∀b o,h.get? b=some o->H b=none->b∈fs->b∉ex->∃sl,h'.get? b=some {o with slots:=sl }
 free:∀b o,h.get? b=some o->H b=none->b∉ex->H' b=none
 there:∀b o,h.get? b=some o->b∉ex->∃o',h'.get? b=some o'
 tups:∀b xs,H b=some (.tup xs)->H' b=some (.tup xs)
 pF:∀b o u,H b=some (.fC o u)->H' b=some (.fC o u)
 pG:∀b ps,H b=some (.eE ps)->∃more,H' b=some (.eE (ps++more))
section
variable {fs fs' ex ex':List Addr}{H H1 H2:Hp}{h h1 h2 h':Heap}{a x e:Addr}{o:HO}
theorem Un.any(u:Un fs ex H H1 h h1)(q:h.get? b=some ob)(n:H b=none)(c:b∉ex):∃f,h1.get? b=some {ob with slots:=f }:=by
 by_cases d:b∈fs
 .exact u.slot b ob q n d c
 .exact⟨ob.slots,u.keep b ob q n d c⟩
theorem Un.kept(k:∀b u,h.get? b=some u->h'.get? b=some u):Un fs ex H H h h' :=
 ⟨λb ob q _ _ _=>k b ob q,λb ob q _ _ _=>⟨ob.slots,k b ob q⟩,λ_ _ _ n _=>n,λb ob q _=>⟨ob,k b ob q⟩,λ_ _ q=>q,λ_ _ _ q=>q,λ_ c q=>⟨#[],by rw[q]; simp⟩⟩
theorem Un.refl:Un fs ex H H h h:=Un.kept λ_ _ q=>q
theorem Un.laid(k:∀b u,h.get? b=some u->h'.get? b=some u)(d:h.objs.size<=a)(c:H a=none):Un fs ex H (upd H a o) h h' where
 keep:=λb u q _ _ _=>k b u q
 slot:=λb u q _ _ _=>⟨u.slots,k b u q⟩
 free:=λb u q n _=>by rw[bA (Nat.ne_of_lt (Nat.lt_of_lt_of_le (Heap.lt_size q) d))]; exact n
 there:=λb u q _=>⟨u,k b u q⟩
 tups:=λb f q=>by rw[bA (iV q c)]; exact q
 pF:=λb u f q=>by rw[bA (iV q c)]; exact q
 pG:=λb g q=>⟨#[],by rw[bA (iV q c),q]; simp⟩
theorem Un.write(d:CZ (H x))(he:e=x\/H e=some (.own x))(k:∀b u,b≠e->h.get? b=some u->h'.get? b=some u)(f:∃u,h'.get? e=some u):Un fs ex H (upd H x o) h h':=by
 have g:∀b,H b=none->b≠x:=λb n z=>by subst z; rw[n]at d; exact d
 have i:∀b,H b=none->b≠e:=λb n z=>by
  subst z
  rcases he with r|r
  .exact g b n r
  .rw[n]at r; cases r
 have hm:∀b u,H b=some u->¬CZ (some u)->b≠x:=λb u q nm z=>by subst z; rw[q]at d; exact nm d
 refine⟨λb u q n _ _=>k b u (i b n) q,λb u q n _ _=>⟨u.slots,k b u (i b n) q⟩,λb u q n _=>by rw[bA (g b n)]; exact n,λb u q _=>?_,
  λb j q=>by rw[bA (hm b _ q λz=>z)]; exact q,λb u j q=>by rw[bA (hm b _ q λz=>z)]; exact q,λb l q=>⟨#[],by rw[bA (hm b _ q λz=>z),q]; simp⟩⟩
 by_cases c:b=e
 .subst c; exact f
 .exact⟨u,k b u c q⟩
end
def Dc(h:Heap)(H:Hp):List Addr:=(List.range h.objs.size).filter λa=>(H a).isSome
def qX(h:Heap)(H:Hp):Heap:=PySem.W.hideAll h (Dc h H)
theorem aaj(h:Heap)(H:Hp):(qX h H).objs.size=h.objs.size:=PySem.W.hideAll_size _ _
theorem aak(e:h.get? b=some o)(n:H b=none):(qX h H).get? b=some o :=
 PySem.W.hideAll_get _ e λhm=>by
  have q:(H b).isSome=true:=(List.mem_filter.mp hm).2
  rw[n]at q; simp at q
theorem aal(e:(qX h H).get? b=some o):h.get? b=some o/\H b=none:=by
 have a:h.get? b=some o:=PySem.W.of_hideAll (Dc h H) e
 refine⟨a,?_⟩
 cases q:H b with
 |none=>rfl
 |some x =>
  have hm:b∈Dc h H:=List.mem_filter.mpr ⟨List.mem_range.mpr (Heap.lt_size a),by simp[q]⟩
  have z:(qX h H).get? b=none:=PySem.W.hideAll_none (Dc h H) hm
  rw[z]at e; cases e
def aam(g h:Heap)(L:Addr):List (Addr × Obj):=(List.range h.objs.size).filterMap λa=>if a=L\/(g.get? a).isSome=true then none else(h.get? a).map λo=>(a,o)
def rest(g h:Heap)(L d:Addr):List (Addr × Obj):=(aam g h L).filter λp=>decide (p.1≠d)
structure Mod(K:FZ)(mg:Str->Option Value)(base:Heap):Prop where
 Jr:K.In base
 glob:base.Ns mainGlobals mg
 blt:∃mb,base.Ns builtinsNs mb/\∀x:Str,x ≠ "__name__" -> mb x=bootBuiltins x
 nolimit:base.NoLimit
structure Cx where
 prog:Program
 w:World
 K:FZ
 mg:Str->Option Value
 base:Heap
 A:Around
 N:List Str
 s₀ : Shared
 H₀ : Hp
 env:Env
 outer:List Env
 stack:List Env
 ex:List Addr
 fn:Str->Bool
 calm:Bool
 pn:List (Addr × Obj)
 xe:Value->Shared->Prop
def frs(l:List Env):List Addr:=l.filterMap (·.frame)
abbrev Cx.fs(X:Cx):List Addr:=frs X.outer
def RB(sc:Scope)(x:Str):Prop:=sc.names.lookup x=some .local\/sc.names.lookup x=some .cell\/sc.names.lookup x=some .free
def Loc(sc:Scope)(x:Str):Prop:=sc.names.lookup x=some .local\/sc.names.lookup x=some .cell
def Look(env:Env)(h:Heap)(m:Str->Option Value)(x:Str)(u:Value):Prop :=
 (env.kindOf x=some .local/\m x=some u)\/((env.kindOf x=some .cell\/env.kindOf x=some .free)/\∃c,env.cells.lookup x=some c/\h.IsCell c (some u))
structure Cx.Ok(X:Cx):Prop where
 mod:Mod X.K X.mg X.base
 kind:X.env.scope.kind=.function
 glob:X.env.globals=mainGlobals
 blt:X.env.builtins=builtinsNs
 above:X.s₀.heap.objs.size<=X.env.locals
 inj:∀x y c,X.env.cells.lookup x=some c->X.env.cells.lookup y=some c->x=y
 has:∀x,(X.env.kindOf x=some .cell\/X.env.kindOf x=some .free)->∃c,X.env.cells.lookup x=some c
 cab:∀x c,X.fn x=true->X.env.cells.lookup x=some c->X.s₀.heap.objs.size<=c
 hd:X.calm=true->X.A.handled=none
 frames:X.A.frames=some X.stack
 stk:X.stack=X.outer\/(X.stack=X.env::X.outer/\X.env.frame=some X.env.locals)
 RD:∀b∈X.ex,b≠X.env.locals/\∀x c,X.env.cells.lookup x=some c->c≠b
 bs:∀b o,X.base.get? b=some o->X.s₀.heap.get? b=some o/\X.H₀ b=none
 tW:X.base.objs.size<=X.s₀.heap.objs.size
 kj:∀b o,X.base.get? b=some o->b∉X.ex
 Dd:∀b∈X.ex,b∉X.fs
 oM:X.s₀.heap.FunFrames X.base X.outer
 u9:∀b∈X.fs,X.H₀ b=none
structure Inv(X:Cx)(pins:List (Addr × Obj))(σ : List (Option V))(H:Hp)(s:Shared):Prop where
 ok:X.Ok
 os:s.os=X.s₀.os
 bare:AllBare s.gens
 base:Un X.fs X.ex X.H₀ H X.s₀.heap s.heap
 loc:∃m,s.heap.Ns X.env.locals m/\∀(i:Nat) (x:Str) (v:V),X.N[i]?=some x -> σ[i]?=some (some v)->RB X.env.scope x->∃u,RelV v u/\Look X.env s.heap m x u
 cell:∀x c,X.env.cells.lookup x=some c->∃v,s.heap.IsCell c v
 free:H X.env.locals=none
 pH:∀x c,X.env.cells.lookup x=some c->H c=none
 pin:∀p∈X.pn++pins,s.heap.get? p.1=some p.2/\H p.1=none/\p.1≠X.env.locals/\p.1∉X.fs/\∀v,p.2.data ≠ .cell v
 hok:gO X.prog X.w H s.heap
 len : σ.length=X.N.length
section
variable {X:Cx}{pins:List (Addr × Obj)}{σ : List (Option V)}{H H':Hp}{s:Shared}{h':Heap}
theorem Cx.Ok.wM(ok:X.Ok)(e:X.base.get? b=some o):b∉X.fs:=λa=>by
 have:=(ok.oM.mem a).1
 rw[e]at this; cases this
theorem Inv.bs(I:Inv X pins σ H s):∀b o,X.base.get? b=some o->s.heap.get? b=some o/\H b=none:=λb o e =>
 ⟨I.base.keep b o (I.ok.bs b o e).1 (I.ok.bs b o e).2 (I.ok.wM e) (I.ok.kj b o e),I.base.free b o (I.ok.bs b o e).1 (I.ok.bs b o e).2 (I.ok.kj b o e)⟩
theorem Inv.bk(I:Inv X pins σ H s):∀b o,X.base.get? b=some o->s.heap.get? b=some o:=λb o e=>(I.bs b o e).1
theorem Inv.mod(I:Inv X pins σ H s):Mod X.K X.mg X.base:=I.ok.mod
theorem Inv.mF(I:Inv X pins σ H s):X.K.In s.heap:=I.ok.mod.Jr.keeps I.bk
theorem Inv.nolimit(I:Inv X pins σ H s):s.heap.NoLimit:=I.ok.mod.nolimit.keeps I.bk
theorem Inv.lt(I:Inv X pins σ H s):X.env.locals<s.heap.objs.size:=let⟨_,hn,_⟩:=I.loc; hn.lt
theorem Inv.sz(I:Inv X pins σ H s):X.s₀.heap.objs.size<=s.heap.objs.size:=Nat.le_trans I.ok.above (Nat.le_of_lt I.lt)
theorem Inv.aan(I:Inv X pins σ H s)(h:s.heap.objs.size<=a):a∉X.fs:=λb=>by
 obtain⟨_,o,c,_⟩:=I.ok.oM.mem b
 exact absurd (Nat.lt_of_lt_of_le (Heap.lt_size c) (Nat.le_trans I.sz h)) (Nat.lt_irrefl _)
theorem Inv.vd(I:Inv X pins σ H s):∀x c,X.env.cells.lookup x=some c->c≠X.env.locals:=λx c e z=>by
 obtain⟨v,o,d,hd⟩:=I.cell x c e
 obtain⟨m,⟨f,g,h,a,b,_⟩,_⟩:=I.loc
 rw[z,a]at d; cases d; rw[b]at hd; cases hd
theorem Inv.oM(I:Inv X pins σ H s):s.heap.FunFrames X.base X.outer:=by
 have all:∀(l:List Env),(∀b∈frs l,b∈X.fs)->X.s₀.heap.FunFrames X.base l->s.heap.FunFrames X.base l:=by
  intro l
  induction l with
  |nil=>intro _ _; trivial
  |cons env r f =>
   intro d g
   obtain⟨h,⟨L,o,hf,i,j,hd⟩,k⟩:=g
   have a:L∈X.fs:=d L (by unfold frs; rw[List.filterMap_cons,hf]; exact List.mem_cons_self)
   obtain⟨m,e⟩:=I.base.slot L o j (I.ok.u9 L a) a λz=>I.ok.Dd L z a
   exact⟨h,⟨L,_,hf,i,e,hd⟩,f (λb c=>d b (by unfold frs; rw[List.filterMap_cons,hf]; exact List.mem_cons_of_mem _ c)) k⟩
 exact all X.outer (λ_ c=>c) I.ok.oM
theorem Inv.stack(I:Inv X pins σ H s):s.heap.FunFrames X.base X.stack:=by
 rcases I.ok.stk with e|⟨e,hf⟩
 .rw[e]; exact I.oM
 .rw[e]
  obtain⟨m,a,_⟩:=I.loc
  refine .cons (by rw[I.ok.kind]; decide) hf a ?_ I.oM
  exact Heap.get?_none_of_le (Nat.le_trans I.ok.tW I.ok.above)
theorem Inv.yJ(I:Inv X pins σ H s):∀b∈frs X.stack,b∈X.env.locals::X.fs:=λb a=>by
 rcases I.ok.stk with e|⟨e,hf⟩
 .rw[e]at a; exact List.mem_cons_of_mem _ a
 .rw[e]at a
  unfold frs at a
  rw[List.filterMap_cons,hf]at a
  exact a
theorem Inv.Df(I:Inv X pins σ H s):∀b∈frs X.stack,H b=none:=λb a=>by
 rcases List.mem_cons.mp (I.yJ b a)with e|a
 .rw[e]; exact I.free
 .obtain⟨_,o,c,_⟩:=I.ok.oM.mem a
  exact I.base.free b o c (I.ok.u9 b a) λz=>I.ok.Dd b z a
theorem Inv.step{g':Array GenState}{t':Nat}{d':Drawn}{ch:List Addr}(I:Inv X pins σ H s)
  (f:∀b∈ch,(b∈X.ex\/X.s₀.heap.objs.size<=b)/\b≠X.env.locals/\(∀x c,X.env.cells.lookup x=some c->c≠b)/\∀p∈X.pn++pins,p.1≠b)
  (keep:∀b o,b≠X.env.locals->b∉X.fs->b∉ch->s.heap.get? b=some o->H b=none->h'.get? b=some o)
  (slot:∀b o,b≠X.env.locals->b∈X.fs->b∉ch->s.heap.get? b=some o->H b=none->∃D,h'.get? b=some {o with slots:=D }) (free:∀b o,b∉ch->s.heap.get? b=some o->H b=none->H' b=none)
  (there:∀b o,b∉ch->s.heap.get? b=some o->∃y,h'.get? b=some y)
  (tups:∀b xs,H b=some (.tup xs)->H' b=some (.tup xs)) (pF:∀b o u,H b=some (.fC o u)->H' b=some (.fC o u)) (pG:∀b B,H b=some (.eE B)->∃more,H' b=some (.eE (B++more)))
  (ns:∀m,s.heap.Ns X.env.locals m->h'.Ns X.env.locals m) (hok:gO X.prog X.w H' h') (L:AllBare g') :
  Inv X pins σ H' {s with heap:=h',gens:=g',drawn:=d',toks:=t' }:=by
 have F:∀b o,X.s₀.heap.get? b=some o->b≠X.env.locals:=λb o e=>Nat.ne_of_lt (Nat.lt_of_lt_of_le (Heap.lt_size e) I.ok.above)
 have C:∀b o,X.s₀.heap.get? b=some o->b∉X.ex->b∉ch:=λb o e a h=>by
  rcases(f b h).1 with z|z
  .exact a z
  .exact absurd (Nat.lt_of_lt_of_le (Heap.lt_size e) z) (Nat.lt_irrefl _)
 have cellK:∀x c,X.env.cells.lookup x=some c->∀v,s.heap.IsCell c v->h'.IsCell c v:=λx c e v ⟨o,j,hd⟩=>by
  have t:c∉ch:=λz=>(f c z).2.2.1 x c e rfl
  by_cases G:c∈X.fs
  .obtain⟨D,q⟩:=slot c o (I.vd x c e) G t j (I.pH x c e)
   exact⟨_,q,hd⟩
  .exact⟨o,keep c o (I.vd x c e) G t j (I.pH x c e),hd⟩
 refine⟨I.ok,I.os,L,⟨λb o e n h a=>?_,λb o e n h a=>?_,λb o e n a=>?_,λb o e a=>?_,λb xs e=>tups b xs (I.base.tups b xs e),λb o xs e=>pF b o xs (I.base.pF b o xs e),λb B e=>?_⟩,?_,λx c e=>?_,?_,λx c e=>?_,λp J=>?_,hok,I.len⟩
 .exact keep b o (F b o e) h (C b o e a) (I.base.keep b o e n h a) (I.base.free b o e n a)
 .obtain⟨D,g⟩:=I.base.slot b o e n h a
  obtain⟨E,A⟩:=slot b _ (F b o e) h (C b o e a) g (I.base.free b o e n a)
  exact⟨E,A⟩
 .obtain⟨y,g⟩:=I.base.there b o e a
  exact free b y (C b o e a) g (I.base.free b o e n a)
 .obtain⟨y,g⟩:=I.base.there b o e a
  exact there b y (C b o e a) g
 .obtain⟨m1,g⟩:=I.base.pG b B e
  obtain⟨M,A⟩:=pG b _ g
  exact⟨m1++M,by rw[A,Array.append_assoc]⟩
 .obtain⟨m,N,O⟩:=I.loc
  refine⟨m,ns m N,λi x v g A P=>?_⟩
  obtain⟨u,r,l⟩:=O i x v g A P
  refine⟨u,r,?_⟩
  rcases l with l|⟨k,c,e,z⟩
  .exact .inl l
  .exact .inr ⟨k,c,e,cellK x c e _ z⟩
 .obtain⟨v,z⟩:=I.cell x c e
  exact⟨v,cellK x c e v z⟩
 .obtain⟨m,⟨o,_,_,j,_⟩,_⟩:=I.loc
  exact free _ o (λz=>(f _ z).2.1 rfl) j I.free
 .obtain⟨v,o,j,hd⟩:=I.cell x c e
  exact free c o (λz=>(f c z).2.2.1 x c e rfl) j (I.pH x c e)
 .obtain⟨e,n,ne,K,d⟩:=I.pin p J
  have t:p.1∉ch:=λz=>(f p.1 z).2.2.2 p J rfl
  exact⟨keep p.1 p.2 ne K t e n,free p.1 p.2 t e n,ne,K,d⟩
theorem Inv.un{t':Nat}(I:Inv X pins σ H s)(u:Un X.fs [] H H' s.heap h')(hok:gO X.prog X.w H' h'):Inv X pins σ H' {s with heap:=h',toks:=t' }:=by
 obtain⟨m,⟨o,j,k,g,r⟩,_⟩:=id I.loc
 obtain⟨l,h⟩:=u.any g I.free (by simp)
 exact I.step (g':=s.gens) (d':=s.drawn) (ch:=[]) (λ_ z=>nomatch z) (λb o _ c _ e n=>u.keep b o e n c (by simp)) (λb o _ c _ e n=>u.slot b o e n c (by simp)) (λb o _ e n=>u.free b o e n (by simp)) (λb o _ e=>u.there b o e (by simp)) u.tups u.pF u.pG (λp hm=>by
  obtain⟨q,d,f,a,i⟩:=hm
  rw[g]at a; cases a
  exact⟨_,d,f,h,i⟩) hok I.bare
theorem Inv.call{g':Array GenState}{t':Nat}{d':Drawn}{ch:List Addr}(I:Inv X pins σ H s)(u:Un (frs X.stack) ch H H' s.heap h')(hok:gO X.prog X.w H' h')(k:AllBare g')
  (d:∀b∈ch,(b∈X.ex\/X.s₀.heap.objs.size<=b)/\b≠X.env.locals/\(∀x c,X.env.cells.lookup x=some c->c≠b)/\∀p∈X.pn++pins,p.1≠b) :
  Inv X pins σ H' {s with heap:=h',gens:=g',drawn:=d',toks:=t' }:=by
 obtain⟨m,⟨o,t,v,j,r⟩,_⟩:=id I.loc
 obtain⟨y,g⟩:=u.any j I.free λz=>(d _ z).2.1 rfl
 exact I.step (ch:=ch) d (λb o g l a e n=>u.keep b o e n (λz=>(List.mem_cons.mp (I.yJ b z)).elim g l) a) (λb o _ _ a e n=>u.any e n a) (λb o a e n=>u.free b o e n a) (λb o a e=>u.there b o e a) u.tups u.pF u.pG (λA hm=>by
  obtain⟨B,h,i,f,q⟩:=hm
  rw[j]at f; cases f
  exact⟨_,h,i,g,q⟩) hok k
theorem Inv.turned{t':Nat}{it:Addr}(I:Inv X pins σ H s)(k:∀b o,b≠it->s.heap.get? b=some o->h'.get? b=some o)(g:H it=none)(d:it≠X.env.locals)
  (h:it∈X.ex\/X.s₀.heap.objs.size<=it) (i:∀x c,X.env.cells.lookup x=some c->c≠it) (j:∀p∈X.pn++pins,p.1≠it):Inv X pins σ H {s with heap:=h',toks:=t' }:=by
 have f:∀b u,H b=some u->b≠it:=λb u e z=>by rw[z,g]at e; cases e
 refine I.step (g':=s.gens) (d':=s.drawn) (ch:=[it]) (λb l=>?_) (λb o _ _ a e _=>k b o (λz=>a (by simp[z])) e) (λb o _ _ a e _=>⟨o.slots,k b o (λz=>a (by simp[z])) e⟩) (λ_ _ _ _ n=>n)
  (λb o a e=>⟨o,k b o (λz=>a (by simp[z])) e⟩) (λ_ _ e=>e) (λ_ _ _ e=>e) (λb A e=>⟨#[],by rw[e]; simp⟩) (λm hm=>?_) (λb u e=>?_) I.bare
 .have e:b=it:=by simpa using l
  subst e
  exact⟨h,d,i,j⟩
 .obtain⟨o,t,w,y,r⟩:=hm
  exact⟨o,t,w,k _ o (Ne.symm d) y,r⟩
 .refine(I.hok b u e).stay (λc v a q=>k c v ?_ q) (λ_ q=>q) λ_ _ q=>q
  rcases a with z|z
  .rw[z]; exact f b u e
  .exact f c _ z
theorem Inv.tok(I:Inv X pins σ H s)(t:Nat):Inv X pins σ H {s with toks:=t }:=I.un (h':=s.heap) (t':=t) Un.refl I.hok
theorem Inv.kept(I:Inv X pins σ H s)(k:∀b u,s.heap.get? b=some u->h'.get? b=some u):Inv X pins σ H {s with heap:=h',toks:=t' }:=I.un (Un.kept k) (I.hok.kept k)
theorem Inv.laid{a:Addr}{o:HO}{t':Nat}(I:Inv X pins σ H s)(k:∀b u,s.heap.get? b=some u->h'.get? b=some u)(c:s.heap.objs.size<=a)(new:mZ X.prog X.w (upd H a o) h' a o) :
  Inv X pins σ (upd H a o) {s with heap:=h',toks:=t' }:=I.un (Un.laid k c (I.hok.fresh c)) (I.hok.laid k c new)
theorem Inv.write(I:Inv X pins σ H s)(c:CZ (H x))(he:e=x\/H e=some (.own x))(k:∀b u,b≠e->s.heap.get? b=some u->h'.get? b=some u)(a:∃u,h'.get? e=some u)
  (new:mZ X.prog X.w (upd H x o) h' x o):Inv X pins σ (upd H x o) {s with heap:=h',toks:=t' }:=I.un (Un.write c he k a) (I.hok.write c he k a new)
theorem Inv.Dh(I:Inv X pins σ H s)(h:∀p∈a,s.heap.get? p.1=some p.2/\H p.1=none/\p.1≠X.env.locals/\p.1∉X.fs/\∀v,p.2.data ≠ .cell v):Inv X a σ H s :=
 ⟨I.ok,I.os,I.bare,I.base,I.loc,I.cell,I.free,I.pH,λp b=>(List.mem_append.mp b).elim (λz=>I.pin p (List.mem_append_left _ z)) (h p),I.hok,I.len⟩
theorem RK{N:List Str}(c:N.Nodup){i j:Nat}{x:Str}(a:N[i]?=some x)(b:N[j]?=some x):i=j:=by
 obtain⟨f,d⟩:=List.getElem?_eq_some_iff.mp a
 obtain⟨g,e⟩:=List.getElem?_eq_some_iff.mp b
 exact(List.getElem_inj c).mp (d.trans e.symm)
theorem RL{M:Model}{A:Around}{E:Value->Shared->Prop}{i:Nat}{x:Str}{v:V}{u:Value}{Q:Unit->Shared->Prop}(I:Inv X pins σ H s)(hN:X.N.Nodup)(hi:X.N[i]?=some x)(B:Loc X.env.scope x)(r:RelV v u)
  (h:∀T,Inv X pins (σ.set i (some v)) H T->(∃a,Heap.SameBut a s.heap T.heap/\(a=X.env.locals\/X.env.cells.lookup x=some a))->Q () T) (hf:X.fn x=true\/X.env.scope.names.lookup x=some .local:=by first|exact .inl rfl|exact .inr rfl|assumption):wpAny M A (storeName X.env x u) Q E s:=by
 obtain⟨m,U,hl⟩:=id I.loc
 have K:(X.env.scope.kind == .class || (X.env.scope.kind == .module&&X.env.locals != X.env.globals))=false:=by rw[I.ok.kind]; rfl
 have RM:i < σ.length:=by rw[I.len]; exact(List.getElem?_eq_some_iff.mp hi).1
 have vd:=I.vd
 have tracked:∀{a:Addr} {h':Heap},(∃o,s.heap.get? a=some o/\H a=none)->Heap.SameBut a s.heap h'->gO X.prog X.w H h':=λ{a h'} ha f b ob e=>by
  obtain⟨_,_,t⟩:=ha
  refine(I.hok b ob e).stay (λc R l q=>(f.2 c ?_).trans q) (λ_ q=>q) λ_ _ q=>q
  rintro rfl
  rcases l with rfl|l
  .rw[t]at e; cases e
  .rw[t]at l; cases l
 rcases B with D|D
 .refine wpAny_storeName_local D U (λh' W f=>?_) K
  obtain⟨oL,_,_,Y,_⟩:=id U
  refine h _ ⟨I.ok,I.os,I.bare,⟨λb o e n F B=>?_,λb o e n F B=>?_,I.base.free,λb o e B=>?_,I.base.tups,I.base.pF,I.base.pG⟩,⟨_,W,λj y Z g C e3=>?_⟩,λy c e=>?_,I.free,I.pH,λp hp=>?_,tracked ⟨oL,Y,I.free⟩ f,by simpa using I.len⟩ ⟨_,f,.inl rfl⟩
  .exact(f.2 b (Nat.ne_of_lt (Nat.lt_of_lt_of_le (Heap.lt_size e) I.ok.above))).trans (I.base.keep b o e n F B)
  .obtain⟨sl,g⟩:=I.base.slot b o e n F B
   exact⟨sl,(f.2 b (Nat.ne_of_lt (Nat.lt_of_lt_of_le (Heap.lt_size e) I.ok.above))).trans g⟩
  .obtain⟨o',g⟩:=I.base.there b o e B
   exact⟨o',(f.2 b (Nat.ne_of_lt (Nat.lt_of_lt_of_le (Heap.lt_size e) I.ok.above))).trans g⟩
  .by_cases G:j=i
   .subst G
    rw[hi]at g; cases g
    rw[List.getElem?_set_self RM]at C
    cases C
    exact⟨u,r,.inl ⟨D,by simp⟩⟩
   .rw[List.getElem?_set_ne (Ne.symm G)]at C
    obtain⟨u',r',q⟩:=hl j y Z g C e3
    refine⟨u',r',?_⟩
    rcases q with⟨k,e⟩|⟨k,c,e,z⟩
    .refine .inl ⟨k,?_⟩
     have:y≠x:=λe=>G (RK hN g (e▸hi))
     simp[this,e]
    .exact .inr ⟨k,c,e,z.sameBut f (vd y c e)⟩
  .obtain⟨R,z⟩:=I.cell y c e
   exact⟨R,z.sameBut f (vd y c e)⟩
  .obtain⟨e,n,ne,nf,d⟩:=I.pin p hp
   exact⟨(f.2 p.1 ne).trans e,n,ne,nf,d⟩
 .have J:X.fn x=true:=by
   rcases hf with z|z
   .exact z
   .rw[z]at D; cases D
  obtain⟨c,l⟩:=I.ok.has x (.inl D)
  obtain⟨R,z⟩:=I.cell x c l
  refine wpAny_storeName_cell I.ok.kind D l z (λh' L f=>?_)
  obtain⟨oc,O,aao⟩:=id z
  refine h {s with heap:=h' } ⟨I.ok,I.os,I.bare,⟨λb o e n F B=>?_,λb o e n F B=>?_,I.base.free,λb o e B=>?_,I.base.tups,I.base.pF,I.base.pG⟩,⟨m,U.sameBut f (Ne.symm (vd x c l)),λj y Z g C e3=>?_⟩,λy S e=>?_,I.free,I.pH,λp hp=>?_,tracked ⟨oc,O,I.pH x c l⟩ f,by simpa using I.len⟩ ⟨c,f,.inr l⟩
  .exact(f.2 b (Nat.ne_of_lt (Nat.lt_of_lt_of_le (Heap.lt_size e) (I.ok.cab x c J l)))).trans (I.base.keep b o e n F B)
  .obtain⟨sl,g⟩:=I.base.slot b o e n F B
   exact⟨sl,(f.2 b (Nat.ne_of_lt (Nat.lt_of_lt_of_le (Heap.lt_size e) (I.ok.cab x c J l)))).trans g⟩
  .obtain⟨o',g⟩:=I.base.there b o e B
   exact⟨o',(f.2 b (Nat.ne_of_lt (Nat.lt_of_lt_of_le (Heap.lt_size e) (I.ok.cab x c J l)))).trans g⟩
  .by_cases G:j=i
   .subst G
    rw[hi]at g; cases g
    rw[List.getElem?_set_self RM]at C
    cases C
    exact⟨u,r,.inr ⟨.inl D,c,l,L⟩⟩
   .rw[List.getElem?_set_ne (Ne.symm G)]at C
    obtain⟨u',r',q⟩:=hl j y Z g C e3
    refine⟨u',r',?_⟩
    rcases q with q|⟨k,S,e,z'⟩
    .exact .inl q
    .refine .inr ⟨k,S,e,z'.sameBut f ?_⟩
     rintro rfl
     exact G (RK hN g (I.ok.inj _ _ _ e l▸hi))
  .by_cases P:S=c
   .subst P; exact⟨_,L⟩
   .obtain⟨w2,z2⟩:=I.cell y S e
    exact⟨w2,z2.sameBut f P⟩
  .obtain⟨e,n,ne,nf,d⟩:=I.pin p hp
   refine⟨(f.2 p.1 ?_).trans e,n,ne,nf,d⟩
   intro q
   rw[q,O]at e
   have q':oc=p.2:=Option.some.inj e
   exact d R (by rw[<-q']; exact aao)
theorem Di(I:Inv X pins σ H s)(b:X.N.Nodup)(hi:X.N[i]?=some x)(c:Loc X.env.scope x)(r:RelV v u)
  (h:∀a,Inv X pins (σ.set i (some v)) H a->Q () a) (hf:X.fn x=true\/X.env.scope.names.lookup x=some .local:=by first|exact .inl rfl|exact .inr rfl|assumption):wpAny M A (storeName X.env x u) Q E s :=
 RL I b hi c r (λa d _=>h a d) hf
theorem Inv.call'(I:Inv X pins σ H s)(d:s'.os=s.os)(u:Un (frs X.stack) ch H H' s.heap s'.heap)(hok:gO X.prog X.w H' s'.heap)(f:AllBare s'.gens)
  (a:∀b∈ch,(b∈X.ex\/X.s₀.heap.objs.size<=b)/\b≠X.env.locals/\(∀x c,X.env.cells.lookup x=some c->c≠b)/\∀p∈X.pn++pins,p.1≠b):Inv X pins σ H' s':=by
 obtain⟨h',g',d',t',g⟩:=s'
 have e:g=s.os:=d
 subst e
 exact I.call (g':=g') (t':=t') (d':=d') u hok f a
end
abbrev XK:=Value->Option Addr->Hp->Prop
abbrev St:=List (Option V)
abbrev VK:=V->Hp->Prop
abbrev TE:=St->Hp->VK->Prop
abbrev TT:=St->Hp->(Bool->Hp->Prop)->Prop
abbrev TA:=St->Hp->(List V->Hp->Prop)->Prop
structure Ends where
 nx:St->Hp->Prop
 rt:VK
 bk:St->Hp->Prop:=λ_ _=>False
 ct:St->Hp->Prop:=λ_ _=>False
abbrev TS:=Ends->St->Hp->Prop
def EP(X:Cx)(pins:List (Addr × Obj))(σ : St)(Q:VK)(u:Value)(s':Shared):Prop:=∃v H',Inv X pins σ H' s'/\RelV v u/\Q v H'
def TP(X:Cx)(pins:List (Addr × Obj))(σ : St)(Q:Bool->Hp->Prop)(b:Bool)(s':Shared):Prop:=∃H',Inv X pins σ H' s'/\Q b H'
def AP(X:Cx)(pins:List (Addr × Obj))(σ : St)(Q:List V->Hp->Prop)(us:List Value)(s':Shared):Prop:=∃vs H',Inv X pins σ H' s'/\Vals vs us/\Q vs H'
noncomputable def SP(X:Cx)(pins:List (Addr × Obj))(D:Ends)(f:Flow)(s':Shared):Prop :=
 match f with
 |.next=>∃σ' H',Inv X pins σ' H' s'/\D.nx σ' H'
 |.brk=>∃σ' H',Inv X pins σ' H' s'/\D.bk σ' H'
 |.cont=>∃σ' H',Inv X pins σ' H' s'/\D.ct σ' H'
 |.ret u=>∃v σ' H',Inv X pins σ' H' s'/\RelV v u/\D.rt v H'
structure PE(X:Cx)(e:Expr)(t:TE):Prop where
 run:∀(pins:List (Addr × Obj)) (s:Shared) (σ : St) (H:Hp) (Q:VK),Inv X pins σ H s->t σ H Q->wpAny (model X.prog X.w) X.A (eval e X.env) (EP X pins σ Q) X.xe s
instance {X:Cx}{e:Expr}{t:TE}:CoeFun (PE X e t) λ_=>∀(pins:List (Addr × Obj)) (s:Shared) (σ : St) (H:Hp) (Q:VK),Inv X pins σ H s->t σ H Q->wpAny (model X.prog X.w) X.A (eval e X.env) (EP X pins σ Q) X.xe s:=⟨PE.run⟩
structure PT(X:Cx)(e:Expr)(t:TT):Prop where
 run:∀(pins:List (Addr × Obj)) (s:Shared) (σ : St) (H:Hp) (Q:Bool->Hp->Prop),Inv X pins σ H s->t σ H Q->wpAny (model X.prog X.w) X.A (isTrue e X.env (eval e X.env)) (TP X pins σ Q) X.xe s
instance {X:Cx}{e:Expr}{t:TT}:CoeFun (PT X e t) λ_=>∀(pins:List (Addr × Obj)) (s:Shared) (σ : St) (H:Hp) (Q:Bool->Hp->Prop),Inv X pins σ H s->t σ H Q->wpAny (model X.prog X.w) X.A (isTrue e X.env (eval e X.env)) (TP X pins σ Q) X.xe s:=⟨PT.run⟩
structure PW(X:Cx)(e:Expr)(t:TT):Prop where
 run:∀(whole:Sem Value) (pins:List (Addr × Obj)) (s:Shared) (σ : St) (H:Hp) (Q:Bool->Hp->Prop),Inv X pins σ H s->t σ H Q->wpAny (model X.prog X.w) X.A (isTrue e X.env whole) (TP X pins σ Q) X.xe s
noncomputable instance {X:Cx}{e:Expr}{t:TT}:CoeFun (PW X e t) λ_=>∀(whole:Sem Value) (pins:List (Addr × Obj)) (s:Shared) (σ : St) (H:Hp) (Q:Bool->Hp->Prop),Inv X pins σ H s->t σ H Q->wpAny (model X.prog X.w) X.A (isTrue e X.env whole) (TP X pins σ Q) X.xe s:=⟨PW.run⟩
theorem PW.pt(h:PW X e t):PT X e t:=⟨h.run _⟩
structure PA(X:Cx)(es:List Expr)(t:TA):Prop where
 run:∀(pos:Pos) (pins:List (Addr × Obj)) (s:Shared) (σ : St) (H:Hp) (Q:List V->Hp->Prop),Inv X pins σ H s->t σ H Q->wpAny (model X.prog X.w) X.A (spliced (backTo pos (starEach es X.env))) (AP X pins σ Q) X.xe s
noncomputable instance {X:Cx}{es:List Expr}{t:TA}:CoeFun (PA X es t) λ_=>∀(pos:Pos) (pins:List (Addr × Obj)) (s:Shared) (σ : St) (H:Hp) (Q:List V->Hp->Prop),Inv X pins σ H s->t σ H Q->wpAny (model X.prog X.w) X.A (spliced (backTo pos (starEach es X.env))) (AP X pins σ Q) X.xe s:=⟨PA.run⟩
structure PS(X:Cx)(st:Stmt)(t:TS):Prop where
 run:∀(pins:List (Addr × Obj)) (s:Shared) (σ : St) (H:Hp) (D:Ends),Inv X pins σ H s->t D σ H->wpAny (model X.prog X.w) X.A (exec st X.env) (SP X pins D) X.xe s
instance {X:Cx}{st:Stmt}{t:TS}:CoeFun (PS X st t) λ_=>∀(pins:List (Addr × Obj)) (s:Shared) (σ : St) (H:Hp) (D:Ends),Inv X pins σ H s->t D σ H->wpAny (model X.prog X.w) X.A (exec st X.env) (SP X pins D) X.xe s:=⟨PS.run⟩
structure jV(X:Cx)(st:List Stmt)(t:TS):Prop where
 run:∀(pins:List (Addr × Obj)) (s:Shared) (σ : St) (H:Hp) (D:Ends),Inv X pins σ H s->t D σ H->wpAny (model X.prog X.w) X.A (execs st X.env) (SP X pins D) X.xe s
instance {X:Cx}{st:List Stmt}{t:TS}:CoeFun (jV X st t) λ_=>∀(pins:List (Addr × Obj)) (s:Shared) (σ : St) (H:Hp) (D:Ends),Inv X pins σ H s->t D σ H->wpAny (model X.prog X.w) X.A (execs st X.env) (SP X pins D) X.xe s:=⟨jV.run⟩
theorem bJ{α : Type}{t:Sem α}{Q b : α -> Shared->Prop}{M:Model}{A:Around}{E:Value->Shared->Prop}{s:Shared}(h:wpAny M A t Q E s)(c:∀a s,Q a s->b a s):wpAny M A t b E s:=wpAny_mono h c λ_ _ x=>x
section
variable {X:Cx}
def iJ(i:Nat):TE:=λσ H Q=>∃v,σ[i]?=some (some v)/\Q v H
def tC(v:V):TE:=λ_ H Q=>Q v H
theorem Js(g:X.N[i]?=some x)(j:RB X.env.scope x)(hd:(x == ("__debug__" : Str))=false:=by decide) (d:(x == ("__classdict__" : Str))=false:=by decide):PE X (.Name x pos) (iJ i):=by
 refine⟨λpins s σ H Q I h=>?_⟩
 obtain⟨v,e,h⟩:=h
 obtain⟨m,k,n⟩:=I.loc
 obtain⟨u,r,l⟩:=n i x v g e j
 have fin:EP X pins σ Q u s:=⟨v,H,I,r,h⟩
 rcases l with⟨b,hm⟩|⟨b,c,f,a⟩
 .exact wpAny_Name (wpAny_loadName_local I.ok.kind b k hm fin) hd
 .rcases b with b|b
  .exact wpAny_Name (wpAny_loadName_cell I.ok.kind b f a fin) hd
  .exact wpAny_Name (wpAny_loadName_free I.ok.kind b f a fin d) hd
theorem aL{i j pos}:PE X (.Constant (.int i) j pos) (tC (.int i)):=⟨λ_ _ _ H _ I h=>wpAny_Constant_int ⟨.int i,H,I.tok _,⟨_,rfl⟩,h⟩⟩
theorem lF{b j pos}:PE X (.Constant (.bool b) j pos) (tC (.bl b)):=⟨λ_ _ _ H _ I h=>Constant_bool ⟨.bl b,H,I,rfl,h⟩⟩
theorem wN{j pos}:PE X (.Constant .none j pos) (tC .non):=⟨λ_ _ _ H _ I h=>Constant_none ⟨.non,H,I,rfl,h⟩⟩
theorem jK{x j pos}:PE X (.Constant (.str x) j pos) (tC (.str x)):=⟨λ_ _ _ H _ I h=>Calls.Constant_str ⟨.str x,H,I.tok _,⟨_,rfl⟩,h⟩⟩
def Gl(X:Cx)(x:Str):Prop:=X.env.kindOf x=some .globalImplicit
theorem Jt(I:Inv X pins σ H s)(a:Gl X x)(hm:X.mg x=some u)(h:Q u s)
  (hd:(x == ("__debug__" : Str))=false:=by decide):wpAny (model X.prog X.w) X.A (eval (.Name x pos) X.env) Q E s :=
 Calls.Name_function_global I.ok.kind a (Calls.loadGlobal_global (by rw[I.ok.glob]; exact I.mod.glob.keeps I.bk) hm h) hd
theorem qY(I:Inv X pins σ H s)(a:Gl X x)(hm:X.mg x=none)(b:bootBuiltins x=some u)(h:Q u s)
  (c:x ≠ "__name__" := by decide) (hd:(x == ("__debug__" : Str))=false:=by decide):wpAny (model X.prog X.w) X.A (eval (.Name x pos) X.env) Q E s:=by
 obtain⟨f,d,e⟩:=I.mod.blt
 exact Calls.Name_function_global I.ok.kind a (Calls.loadGlobal_builtin (by rw[I.ok.glob]; exact I.mod.glob.keeps I.bk) hm (by rw[I.ok.blt]; exact d.keeps I.bk) ((e x c).trans b) h) hd
theorem aap(a:Gl X x)(hm:X.mg x=some u)(r:RelV v u)(hd:(x == ("__debug__" : Str))=false:=by decide):PE X (.Name x pos) (tC v) :=
 ⟨λ_ _ _ H _ I h=>Jt I a hm ⟨v,H,I,r,h⟩ hd⟩
theorem aaq(a:Gl X x)(hm:X.mg x=none)(b:bootBuiltins x=some u)(r:RelV v u)(c:x ≠ "__name__" := by decide) (hd:(x == ("__debug__" : Str))=false:=by decide):PE X (.Name x pos) (tC v) :=
 ⟨λ_ _ _ H _ I h=>qY I a hm b ⟨v,H,I,r,h⟩ c hd⟩
variable {a b:Expr}{ta tb:TE}{pos:Pos}
variable {tA iK:TT}{rest:List Expr}
def RN(t u:TT):TT:=λσ H Q=>t σ H λc H1=>if c=true then Q true H1 else u σ H1 Q
def RP(t:TT):TT:=λσ H Q=>t σ H λc H1=>Q (!c) H1
theorem lG(d:PT X a tA):PW X (.BoolOp .Or [a] pos) tA:=by
 refine⟨λf pins s σ H Q I h=>?_⟩
 refine isTrue_or (bJ (d pins s σ H Q I h) λc s1 e=>?_)
 cases c with
 |false=>exact isTrue_or_nil e
 |true=>exact e
theorem jW(e:PT X a tA)(f:PW X (.BoolOp .Or (b::rest) pos) iK):PW X (.BoolOp .Or (a::b::rest) pos) (RN tA iK):=by
 refine⟨λg pins s σ H Q I h=>?_⟩
 refine isTrue_or (bJ (e pins s σ H _ I h) λc s1 ⟨H1,d,q1⟩=>?_)
 cases c with
 |true=>exact⟨H1,d,q1⟩
 |false=>exact f g pins s1 σ H1 Q d q1
theorem gR(d:PT X a tA):PT X (.UnaryOp .Not a pos) (RP tA):=by
 refine⟨λpins s σ H Q I h=>?_⟩
 exact isTrue_not (d pins s σ H (λc H1=>Q (!c) H1) I h)
def RQ(ta tb:TE):TE:=λσ H Q=>ta σ H λx H1=>∃c,x=.bl c/\if c=true then tb σ H1 Q else Q (.bl false) H1
def RV(ta tb:TE):TE:=λσ H Q=>ta σ H λx H1=>∃c,x=.bl c/\if c=true then Q (.bl true) H1 else tb σ H1 Q
def RW(ta:TE):TE:=λσ H Q=>ta σ H λx H1=>∃c,x=.bl c/\Q (.bl (!c)) H1
theorem qZ{op}{t:TE}(h:PE X a t):PE X (.BoolOp op [a] pos) t:=⟨λpins s σ H Q I hw=>BoolOp_one (h pins s σ H Q I hw)⟩
theorem rm(e:PE X a ta)(f:PE X (.BoolOp .And (b::rest) pos) tb):PE X (.BoolOp .And (a::b::rest) pos) (RQ ta tb):=by
 refine⟨λpins s σ H Q I h=>?_⟩
 refine BoolOp_and (bJ (e pins s σ H _ I h) λv s1 ⟨x,H1,d,g,q1⟩=>?_)
 obtain⟨c,rfl,q1⟩:=q1
 cases g
 refine wpAny_truthy_bool ?_
 cases c with
 |true=>exact f pins s1 σ H1 Q d q1
 |false=>exact⟨.bl false,H1,d,rfl,q1⟩
theorem aar(e:PE X a ta)(f:PE X (.BoolOp .Or (b::rest) pos) tb):PE X (.BoolOp .Or (a::b::rest) pos) (RV ta tb):=by
 refine⟨λpins s σ H Q I h=>?_⟩
 refine BoolOp_or (bJ (e pins s σ H _ I h) λv s1 ⟨x,H1,d,g,q1⟩=>?_)
 obtain⟨c,rfl,q1⟩:=q1
 cases g
 refine wpAny_truthy_bool ?_
 cases c with
 |false=>exact f pins s1 σ H1 Q d q1
 |true=>exact⟨.bl true,H1,d,rfl,q1⟩
theorem aas(d:PE X a ta):PE X (.UnaryOp .Not a pos) (RW ta):=by
 refine⟨λpins s σ H Q I h=>?_⟩
 refine UnaryOp_ (bJ (d pins s σ H _ I h) λv s1 ⟨x,H1,e,f,q1⟩=>?_)
 obtain⟨c,rfl,q1⟩:=q1
 cases f
 exact not_of (wpAny_truthy_bool ⟨.bl (!c),H1,e,rfl,q1⟩)
def RX(t:TT)(ta tb:TE):TE:=λσ H Q=>t σ H λc H1=>if c=true then ta σ H1 Q else tb σ H1 Q
theorem Ju{c:Expr}(f:PT X c tA)(g:PE X a ta)(i:PE X b tb):PE X (.IfExp c a b pos) (RX tA ta tb):=by
 refine⟨λpins s σ H Q I h=>?_⟩
 refine wpAny_IfExp (bJ (f pins s σ H _ I h) λd s1 ⟨H1,e,q1⟩=>?_)
 cases d with
 |true=>exact g pins s1 σ H1 Q e q1
 |false=>exact i pins s1 σ H1 Q e q1
end
def bH(K:FZ)(H:Hp)(a:Addr)(xs:List V):Prop :=
 Rd H a (.lst xs) \/
  ∃(o:Obj) (its:Array Value) (n:Nat),K.lookup a=some o/\o.cls=.type "list" /\ o.dict=none/\o.data=.seq its n/\its.size<=sizeLine/\Vals xs its.toList
def fL(K:FZ)(H:Hp)(a:Addr)(xs:List V):Prop :=
 Rd H a (.tup xs) \/
  ∃(o:Obj) (its:Array Value) (n:Nat),K.lookup a=some o/\o.cls=.type "tuple" /\ o.data=.seq its n/\its.size<=sizeLine/\Vals xs its.toList
def aat:Value->Option V
 |.none=>some .non
 |.bool b=>some (.bl b)
 |.int i _=>some (.int i)
 |.str x _=>some (.str x)
 |.bytes b _=>some (.yH b)
 |.float b _=>some (.flt b)
 |.ref a=>some (.ref a)
 |.type n=>some (.ty n)
 |_=>none
theorem RelV.abs(r:RelV x u):aat u=some x:=by
 cases x with
 |non=>cases r; rfl
 |bl _=>cases r; rfl
 |int _=>obtain⟨t,rfl⟩:=r; rfl
 |str _=>obtain⟨t,rfl⟩:=r; rfl
 |yH _=>obtain⟨t,rfl⟩:=r; rfl
 |flt _=>obtain⟨t,rfl⟩:=r; rfl
 |ref _=>cases r; rfl
 |ty _=>cases r; rfl
theorem RelV.inj{x y:V}{u:Value}(r:RelV x u)(q:RelV y u):x=y:=Option.some.inj (r.abs.symm.trans q.abs)
theorem Vals.inj:∀{xs ys:List V} {us:List Value},Vals xs us->Vals ys us->xs=ys
 |_,_,_,.nil,.nil=>rfl
 |_,_,_,.cons r t,.cons a b=>by rw[r.inj a,Vals.inj t b]
section
variable {X:Cx}{pins:List (Addr × Obj)}{σ : St}{H:Hp}{s:Shared}{a:Addr}{xs ys:List V}
theorem bH.of{K:FZ}(h:H a=some (.lst xs)):bH K H a xs:=.inl (.inl h)
theorem fL.of{K:FZ}(h:H a=some (.tup xs)):fL K H a xs:=.inl (.inl h)
theorem Inv.list(I:Inv X pins σ H s)(h:bH X.K H a xs):∃its:List Value,Vals xs its/\PlainL s.heap a its.toArray/\xs.length<=sizeLine:=by
 rcases h with h|⟨o,its,n,b,c,hd,d,f,r⟩
 .obtain⟨z,its,n,r,e⟩:=h.ok I.hok
  exact⟨its,r,⟨_,n,e,rfl,rfl,rfl⟩,z⟩
 .refine⟨its.toList,r,⟨o,n,I.mF a o b,c,hd,by simpa using d⟩,?_⟩
  have e:=r.length
  simp only[Array.length_toList]at e
  omega
theorem Inv.tuple(I:Inv X pins σ H s)(h:fL X.K H a xs):∃its:List Value,Vals xs its/\IsTup s.heap a its.toArray/\xs.length<=sizeLine:=by
 rcases h with h|⟨o,its,n,b,c,d,f,r⟩
 .obtain⟨z,its,r,p⟩:=h.ok I.hok
  exact⟨its,r,p,z⟩
 .refine⟨its.toList,r,⟨o,I.mF a o b,c,n,by simpa using d⟩,?_⟩
  have e:=r.length
  simp only[Array.length_toList]at e
  omega
theorem Inv.tY(I:Inv X pins σ H s)(h:bH X.K H a xs)(h':bH X.K H a ys):xs=ys:=by
 obtain⟨c,r,⟨o,n,e,_,_,d⟩,_⟩:=I.list h
 obtain⟨b,i,⟨k,l,f,_,_,g⟩,_⟩:=I.list h'
 rw[e]at f; cases f
 rw[d]at g
 injection g with j _
 have:c=b:=by simpa using congrArg Array.toList j
 subst this
 exact r.inj i
theorem Inv.RZ(I:Inv X pins σ H s)(h:fL X.K H a xs)(h':fL X.K H a ys):xs=ys:=by
 obtain⟨c,r,⟨o,e,_,n,d⟩,_⟩:=I.tuple h
 obtain⟨b,i,⟨k,f,_,l,g⟩,_⟩:=I.tuple h'
 rw[e]at f; cases f
 rw[d]at g
 injection g with j _
 have:c=b:=by simpa using congrArg Array.toList j
 subst this
 exact r.inj i
end
abbrev Cx.wish(X:Cx)(E:Value->Shared->Prop):Cx:={X with xe:=E }
abbrev Cx.iC(X:Cx):Cx:=X.wish λ_ _=>False
theorem Cx.Ok.wish{X:Cx}(ok:X.Ok)(E:Value->Shared->Prop):(X.wish E).Ok :=
 ⟨ok.mod,ok.kind,ok.glob,ok.blt,ok.above,ok.inj,ok.has,ok.cab,ok.hd,ok.frames,ok.stk,ok.RD,ok.bs,ok.tW,ok.kj,ok.Dd,ok.oM,ok.u9⟩
theorem Cx.Ok.tZ{X:Cx}{E:Value->Shared->Prop}(ok:(X.wish E).Ok):X.Ok :=
 ⟨ok.mod,ok.kind,ok.glob,ok.blt,ok.above,ok.inj,ok.has,ok.cab,ok.hd,ok.frames,ok.stk,ok.RD,ok.bs,ok.tW,ok.kj,ok.Dd,ok.oM,ok.u9⟩
section
variable {X:Cx}{pins:List (Addr × Obj)}{σ : St}{H:Hp}{s:Shared}{E:Value->Shared->Prop}
theorem Inv.wish(I:Inv X pins σ H s)(E:Value->Shared->Prop):Inv (X.wish E) pins σ H s:=⟨I.ok.wish E,I.os,I.bare,I.base,I.loc,I.cell,I.free,I.pH,I.pin,I.hok,I.len⟩
theorem Inv.tZ(I:Inv (X.wish E) pins σ H s):Inv X pins σ H s:=⟨I.ok.tZ,I.os,I.bare,I.base,I.loc,I.cell,I.free,I.pH,I.pin,I.hok,I.len⟩
theorem SP.tZ{D:Ends}{f:Flow}{c:Shared}(h:SP (X.wish E) pins D f c):SP X pins D f c:=by
 cases f with
 |next=>obtain⟨a,b,I,q⟩:=h; exact⟨a,b,I.tZ,q⟩
 |brk=>obtain⟨a,b,I,q⟩:=h; exact⟨a,b,I.tZ,q⟩
 |cont=>obtain⟨a,b,I,q⟩:=h; exact⟨a,b,I.tZ,q⟩
 |ret u=>obtain⟨v,a,b,I,r,q⟩:=h; exact⟨v,a,b,I.tZ,r,q⟩
end
section
variable {X:Cx}{st:Stmt}{rest:List Stmt}{t u:TS}{e:Expr}{te:TE}{pos:Pos}
def Jv:TS:=λD σ H=>D.nx σ H
def uc(t u:TS):TS:=λD σ H=>t {D with nx:=u D } σ H
theorem dH:jV X [] Jv:=⟨λ_ _ σ H _ I h=>wpAny_execs_nil ⟨σ,H,I,h⟩⟩
theorem aU(b:PS X st t)(c:jV X rest u):jV X (st::rest) (uc t u):=by
 refine⟨λpins s σ H D I h=>?_⟩
 refine wpAny_execs_cons (bJ (b pins s σ H {D with nx:=u D } I h) λf s1 q=>?_)
 cases f with
 |next =>
  obtain⟨a,d,g,q⟩:=q
  exact c pins s1 a d D g q
 |ret v=>exact q
 |brk=>exact q
 |cont=>exact q
theorem aW(a:PS X st t):jV X [st] t:=by
 refine⟨λpins s σ H D I h=>?_⟩
 refine wpAny_execs_cons (bJ (a pins s σ H D I h) λf s1 q=>?_)
 cases f with
 |next=>exact wpAny_execs_nil q
 |ret v=>exact q
 |brk=>exact q
 |cont=>exact q
theorem Inv.quiet{pins:List (Addr × Obj)}{σ : St}{H:Hp}{s:Shared}(I:Inv X pins σ H s):interactive X.env=false:=by simp[interactive,I.ok.kind]
def vf(te:TE):TS:=λD σ H=>te σ H λ_ H1=>D.nx σ H1
theorem aau(he:PE X e te)(a:swapsWith e none pos.line X.env=pure false:=by rfl):PS X (.Expr e pos) (vf te):=by
 refine⟨λpins s σ H D I h=>?_⟩
 exact wpAny_Expr_any (bJ (he pins s σ H _ I h) λv s1 ⟨x,H1,b,c,q1⟩=>⟨σ,H1,b,q1⟩) I.quiet a
def vg(te:TE):TS:=λD σ H=>te σ H D.rt
theorem bR(he:PE X e te):PS X (.Return (some e) pos) (vg te):=by
 refine⟨λpins s σ H D I h=>?_⟩
 exact wpAny_Return_some (bJ (he pins s σ H _ I h) λv s1 ⟨x,H1,a,b,q1⟩=>⟨x,σ,H1,a,b,q1⟩)
def Jw(c:TT)(t u:TS):TS:=λD σ H=>c σ H λb H1=>if b=true then t D σ H1 else u D σ H1
theorem dI{c:Expr}{a b:List Stmt}{f:TT}(i:PT X c f)(j:jV X a t)(k:jV X b u):PS X (.If c a b pos) (Jw f t u):=by
 refine⟨λpins s σ H D I h=>?_⟩
 refine wpAny_If (bJ (i pins s σ H _ I h) λd s1 ⟨H1,g,q1⟩=>?_)
 cases d with
 |true=>exact j pins s1 σ H1 D g q1
 |false=>exact k pins s1 σ H1 D g q1
end
abbrev TG:=V->St->Hp->(St->Hp->Prop)->Prop
abbrev rD:=List V->St->Hp->(St->Hp->Prop)->Prop
noncomputable def PG(X:Cx)(target:Expr)(t:TG):Prop :=
 ∀(pins:List (Addr × Obj)) (s:Shared) (σ : St) (H:Hp) (v:V) (u:Value) (Q:St->Hp->Prop),Inv X pins σ H s->RelV v u->t v σ H Q ->
  wpAny (model X.prog X.w) X.A (assign target X.env u) (λ_ s'=>∃σ' H',Inv X pins σ' H' s'/\Q σ' H') X.xe s
noncomputable def Dj(X:Cx)(ts:List Expr)(t:rD):Prop :=
 ∀(pins:List (Addr × Obj)) (s:Shared) (σ : St) (H:Hp) (vs:List V) (us:List Value) (Q:St->Hp->Prop),Inv X pins σ H s->Vals vs us->t vs σ H Q ->
  wpAny (model X.prog X.w) X.A (assignInOrder ((assignEach ts X.env).map (·.2)) us) (λ_ s'=>∃σ' H',Inv X pins σ' H' s'/\Q σ' H') X.xe s
abbrev Jx:=V->V->V->Hp->(Hp->Prop)->Prop
noncomputable def R0(X:Cx)(t:Jx):Prop :=
 ∀(pins:List (Addr × Obj)) (s:Shared) (σ : St) (H:Hp) (o i v:V) (ov iv u:Value) (Q:Hp->Prop),Inv X pins σ H s->RelV o ov->RelV i iv->RelV v u->t o i v H Q ->
  wpAny (model X.prog X.w) X.A (setItem ov iv u) (λ_ s'=>∃H',Inv X pins σ H' s'/\Q H') X.xe s
section
variable {X:Cx}{pos:Pos}
def dN(i:Nat):TG:=λv σ H Q=>Q (σ.set i (some v)) H
theorem R3(a:X.N.Nodup)(hi:X.N[i]?=some x)(b:Loc X.env.scope x)(hf:X.fn x=true\/X.env.scope.names.lookup x=some .local:=by first|exact .inl rfl|exact .inr rfl|assumption):PG X (.Name x pos) (dN i):=by
 intro pins s σ H v u Q I r h
 exact wpAny_assign_Name (Di I a hi b r (λd c=>⟨_,H,c,h⟩) hf)
def wO:rD:=λvs σ H Q=>vs=[]/\Q σ H
def rE(t:TG)(u:rD):rD:=λvs σ H Q=>∃v r,vs=v::r/\t v σ H λσ' H'=>u r σ' H' Q
theorem oN:Dj X [] wO:=by
 intro pins s σ H a b Q I r h
 obtain⟨e,h⟩:=h
 subst e
 cases r
 exact assignInOrder_nil ⟨σ,H,I,h⟩
theorem ig{e:Expr}{a:List Expr}{t:TG}{u:rD}(c:PG X e t)(d:Dj X a u)
  (f:(assignEach (e::a) X.env).map (·.2)=assign e X.env::(assignEach a X.env).map (·.2):=by rfl):Dj X (e::a) (rE t u):=by
 intro pins s σ H k l Q I r h
 obtain⟨v,m,g,h⟩:=h
 subst g
 cases r with
 |cons r i =>
  rw[f]
  refine assignInOrder_cons (bJ (c pins s σ H _ _ _ I r h) λ_ s1 ⟨b,H1,j,q1⟩=>?_)
  exact d pins s1 b H1 _ _ Q j i q1
def wQ(K:FZ)(n:Nat)(t:rD):TG:=λv σ H Q=>∃a xs,v=.ref a/\fL K H a xs/\xs.length=n/\t xs σ H Q
theorem oO(f:X.calm=true)(h:Dj X es t)
  (g:(assignEach es X.env).length=n:=by rfl) (c:(assignEach es X.env).findIdx? (·.1)=none:=by rfl):PG X (.Tuple es k pos) (wQ X.K n t):=by
 intro pins s σ H v u Q I r hw
 obtain⟨a,i,j,l,m,hw⟩:=hw
 subst j
 cases r
 obtain⟨p,d,q,z⟩:=I.tuple l
 refine assign_Tuple_tuple (I.ok.hd f) q (by simp[g,<-m,d.length]) c λw x=>?_
 have y:Inv X pins σ H {s with heap:=w }:=I.kept (t':=s.toks) λb o e=>x b o (Nat.ne_of_lt (Heap.lt_size e)) e
 exact h pins _ σ H i _ Q y (by simpa using d) hw
def R4(to ti:TE)(t:Jx):TG:=λv σ H Q=>to σ H λo H1=>ti σ H1 λi H2=>t o i v H2 λH3=>Q σ H3
theorem R5{o i:Expr}{to b:TE}{t:Jx}(c:PE X o to)(hi:PE X i b)(d:R0 X t)
  (e:∀v,assign (.Subscript o i pos) X.env v=(do
   let ov <-holding [v] (eval o X.env)
   let a <-holding [v,ov] (eval i X.env)
   standAt pos
   holding [v,ov,a] (setItem ov a v)
   release [v,ov,a] []):=by intro _; rfl):PG X (.Subscript o i pos) (R4 to b t):=by
 intro pins s σ H v u Q I r h
 rw[e]
 refine wpAny_bind (wpAny_holding (bJ (c pins s σ H _ I h) λov s1 ⟨x,H1,f,g,q1⟩=>?_))
 refine wpAny_bind (wpAny_holding (bJ (hi pins s1 σ H1 _ f q1) λa s2 ⟨y,j,k,l,q2⟩=>?_))
 refine wpAny_bind (wpAny_standAt (wpAny_bind (wpAny_holding (bJ (d pins s2 σ j x y v ov a u _ k g l r q2) λ_ s3 ⟨m,n,p⟩=>?_))))
 exact wpAny_release ⟨σ,m,n,p⟩
def m6(te:TE)(g:TG):TS:=λD σ H=>te σ H λx H1=>g x σ H1 D.nx
theorem wU{a e:Expr}{te:TE}{g:TG}(he:PE X e te)(b:PG X a g)(c:swapsWithSole [a] e pos.line X.env=pure false:=by rfl)(hw:swappedStores [a] e X.env=pure none:=by rfl)
  (d:(assignEach [a] X.env).map (·.2)=[assign a X.env]:=by rfl):PS X (.Assign [a] e pos) (m6 te g):=by
 refine⟨λpins s σ H D I h=>?_⟩
 refine wpAny_Assign_stores (bJ (he pins s σ H _ I h) λv s1 ⟨x,H1,f,i,q1⟩=>?_) c hw
 rw[d]
 exact bJ (b pins s1 σ H1 x v _ f i q1) λ_ s2 q=>q
theorem R6{i:Nat}{x:Str}{e:Expr}{te:TE}{pos':Pos}(a:X.N.Nodup)(hi:X.N[i]?=some x)(b:Loc X.env.scope x)(he:PE X e te)(c:swapsWith e (some (.Name x pos')) pos.line X.env=pure false:=by rfl)(hf:X.fn x=true\/X.env.scope.names.lookup x=some .local:=by first|exact .inl rfl|exact .inr rfl|assumption) :
  PS X (.Assign [.Name x pos'] e pos) (m6 te (dN i)):=by
 refine⟨λpins s σ H D I h=>?_⟩
 refine wpAny_Assign_Name (bJ (he pins s σ H _ I h) λv s1 ⟨y,H1,d,f,q1⟩=>?_) c
 exact Di d a hi b f (λs2 g=>⟨_,H1,g,q1⟩) hf
def R7(i j:Nat)(ta:TA):TS:=λD σ H=>ta σ H λvs H1=>∃v w,vs=[v,w]/\D.nx ((σ.set i (some v)).set j (some w)) H1
theorem Jy{kt k2 Jz}(u:X.calm=true)(k:X.N.Nodup)(hi:X.N[i]?=some x)(z:X.N[j]?=some y)(f:i≠j)
  (m:X.env.scope.names.lookup x=some .local) (n:X.env.scope.names.lookup y=some .local) (B:PA X [a,b] ta)
  (hw:swappedStores [.Tuple [.Name x px,.Name y py] kt pt] (.Tuple [a,b] k2 Jz) X.env=pure (some [x,y]))
  (C:swapsWithSole [.Tuple [.Name x px,.Name y py] kt pt] (.Tuple [a,b] k2 Jz) pos.line X.env=pure false:=by rfl) :
  PS X (.Assign [.Tuple [.Name x px,.Name y py] kt pt] (.Tuple [a,b] k2 Jz) pos) (R7 i j ta):=by
 refine⟨λpins s σ H D I h=>?_⟩
 rw[exec_Assign_arm]
 refine wpAny_bind (wpAny_standAt ?_)
 rw[C]
 refine wpAny_bind (wpAny_pure ?_)
 rw[if_neg (by decide)]
 refine wpAny_bind (Tuple_ (bJ (B _ pins s σ H _ I h) λr s1 ⟨Q,H1,t,E,q1⟩=>?_))
 obtain⟨v,w,F,q1⟩:=q1
 subst F
 obtain⟨c,d,rfl,G,J⟩:∃c d,r=[c,d]/\RelV v c/\RelV w d:=by
  cases E with
  |cons p q =>
   cases q with
   |cons K L =>
    cases L
    exact⟨_,_,rfl,p,K⟩
 refine wpAny_newObj_type ?_ (by show 2<=sizeLine; decide)
 have M:Inv X pins σ H1 {s1 with heap:=s1.heap.push {cls:=.type "tuple",data:=.seq [c,d].toArray } }:=t.kept (t':=s1.toks) λb o e=>Heap.get?_push_of_some _ e
 rw[hw]
 refine wpAny_bind (wpAny_pure ?_)
 show wpAny (model X.prog X.w) X.A (do rule "assign.swapped-stores"; let items <-unpackItems (.ref s1.heap.objs.size) 2 none; assignInOrder [λv=>bindName X.env y v,λv=>bindName X.env x v] items.reverse; pure Flow.next) _ _ _
 refine wpAny_bind (wpAny_rule (wpAny_bind (unpackItems_tuple (items:=#[c,d]) (I.ok.hd u) (IsTup.new s1.heap _) λh' g=>?_)))
 have O:=M.kept (h':=h') (t':=s1.toks) λb o e=>g b o (Nat.ne_of_lt (Heap.lt_size e)) e
 show wpAny _ _ (assignInOrder [λv=>bindName X.env y v,λv=>bindName X.env x v] [d,c] >>= λ_=>pure Flow.next) _ _ _
 refine wpAny_bind (assignInOrder_cons (wpAny_bindName (Di O k z (.inl n) J (λs2 P=>?_) (.inr n))))
 refine assignInOrder_cons (wpAny_bindName (Di P k hi (.inl m) G (λs3 l=>assignInOrder_nil (wpAny_pure ?_)) (.inr m)))
 rw[List.set_comm _ _ (Ne.symm f)]at l
 exact⟨_,H1,l,q1⟩
end
section
variable {X:Cx}{pos:Pos}
def R8(c:TT)(tb:TS):TS:=λD σ H=>∃W:Nat->St->Hp->Prop,(∃m,W m σ H)/\∀m σ H,W m σ H ->
 c σ H λb H1=>if b=true then ∃N:St->Hp->Prop,(∀σ' H',N σ' H'->∃m',m'<m/\W m' σ' H')/\tb {D with nx:=N,ct:=N,bk:=D.nx } σ H1 else D.nx σ H1
theorem R9(o:PassesOwn (model X.prog X.w) X.A X.env X.xe)(u:PT X c tc)(x:jV X body tb):PS X (.While c body [] pos) (R8 tc tb):=by
 refine⟨λpins s σ H D I h=>?_⟩
 obtain⟨W,⟨m0,y⟩,turn⟩:=h
 refine wpAny_While (codeAny_whileLoop (λn z=>∃e p,Inv X pins e p z/\W n e p) ?_ m0 ⟨σ,H,I,y⟩)
 rintro n s1 ⟨d,H1,B,C⟩
 refine wpAny_passesOwn o (bJ (u pins s1 d H1 _ B (turn n d H1 C)) λb s2 ⟨q,r,q2⟩=>?_)
 cases b with
 |true =>
  obtain⟨N,t,q2⟩:=q2
  rw[if_pos rfl]
  refine wpAny_passesOwn o (bJ (x pins s2 d q _ r q2) λf s3 i=>?_)
  cases f with
  |next =>
   obtain⟨a,g,j,k⟩:=i
   obtain⟨l,hm,m⟩:=t a g k
   exact⟨l,hm,a,g,j,m⟩
  |cont =>
   obtain⟨a,g,j,k⟩:=i
   obtain⟨l,hm,m⟩:=t a g k
   exact⟨l,hm,a,g,j,m⟩
  |brk=>exact i
  |ret v=>exact i
 |false =>
  rw[if_neg Bool.false_ne_true]
  exact wpAny_execs_nil ⟨d,q,r,q2⟩
end
structure It where
 go:Nat->Hp->Prop
 oR:Nat->Hp->V->Hp->Prop
 stop:Nat->Hp->Prop
def gH(X:Cx)(pins:List (Addr × Obj))(H:Hp)(b:Addr):Prop :=
 H b=none/\b≠X.env.locals/\b∉X.fs/\(b∈X.ex\/X.s₀.heap.objs.size<=b)/\(∀x c,X.env.cells.lookup x=some c->c≠b)/\∀p∈X.pn++pins,p.1≠b
theorem Inv.pI(I:Inv X pins σ H s)(a:s.heap.objs.size<=b)(d:H' b=none):gH X pins H' b:=by
 refine⟨d,Nat.ne_of_gt (Nat.lt_of_lt_of_le I.lt a),I.aan a,.inr (Nat.le_trans I.sz a),λx c e z=>?_,λp f z=>?_⟩
 .obtain⟨v,q⟩:=I.cell x c e
  exact absurd (Nat.lt_of_lt_of_le q.lt (by rw[z]; exact a)) (Nat.lt_irrefl _)
 .exact absurd (Nat.lt_of_lt_of_le (Heap.lt_size (I.pin p f).1) (by rw[z]; exact a)) (Nat.lt_irrefl _)
structure Turn(P:Program)(w:World)(K:FZ)(tg:Expr)(J:It)(fp:List Addr)(it:Addr)(tn:Nat->Heap->Prop):Prop where
 mem:it∈fp
 obj:∀i h,tn i h->∀b∈fp,∃o,h.get? b=some o/\∀v,o.data ≠ .cell v
 keep:∀i h h',tn i h->(∀b∈fp,∀o,h.get? b=some o->h'.get? b=some o)->tn i h'
 item:∀(X:Cx),X.prog=P->X.w=w->X.K=K->X.calm=true->∀(i:Nat) (pins:List (Addr × Obj)) (s:Shared) (σ : St) (H:Hp) (E:Value->Shared->Prop),Inv X pins σ H s->(∀b∈fp,gH X pins H b)->tn i s.heap->J.go i H ->
  wpAny (model P w) X.A (pyNext (.ref it)) (λr s1=>∃u,r=some u /\
   wpAny (model P w) X.A (letOwnedTupleGo tg (.ref it) u) (λ_ s2=>∃x H',Inv X pins σ H' s2/\RelV x u/\J.oR i H x H'/\tn (i+1) s2.heap/\∀b∈fp,H' b=none) E s1) E s
 done:∀(X:Cx),X.prog=P->X.w=w->X.K=K->X.calm=true->∀(i:Nat) (pins:List (Addr × Obj)) (s:Shared) (σ : St) (H:Hp) (E:Value->Shared->Prop),Inv X pins σ H s->(∀b∈fp,gH X pins H b)->tn i s.heap->J.stop i H ->
  wpAny (model P w) X.A (pyNext (.ref it)) (λr s1=>r=none/\Inv X pins σ H s1) E s
 self:∀(A:Around) (i:Nat) (s:Shared) (Q:Value->Shared->Prop) (E:Value->Shared->Prop),tn i s.heap->Q (.ref it) s->wpAny (model P w) A (pyIter (.ref it)) Q E s
abbrev TI:=St->Hp->(It->Hp->Prop)->Prop
noncomputable def PIE(X:Cx)(pins:List (Addr × Obj))(σ : St)(tg:Expr)(R:It->Hp->Prop)(itv:Value)(s2:Shared):Prop :=
 ∃(it:Addr) (fp:List Addr) (tn:Nat->Heap->Prop) (J:It) (H':Hp),itv=.ref it/\Inv X pins σ H' s2/\Turn X.prog X.w X.K tg J fp it tn/\tn 0 s2.heap/\(∀b∈fp,gH X pins H' b)/\R J H'
noncomputable def PI(X:Cx)(tg iter:Expr)(wi:TI):Prop :=
 ∀(pins:List (Addr × Obj)) (s:Shared) (σ : St) (H:Hp) (R:It->Hp->Prop),Inv X pins σ H s->wi σ H R ->
  wpAny (model X.prog X.w) X.A (eval iter X.env) (λv s1=>wpAny (model X.prog X.w) X.A (pyIter v) (PIE X pins σ tg R) X.xe s1) X.xe s
theorem JB(b:s.heap.get? it=some o)(c:o.cls=.type n)(hd:o.data=.fields vs)
    (d : ["enumerate", "zip", "dict_itemiterator", "dict_reverseitemiterator", "odict_iterator", "itertools.zip_longest", "itertools.pairwise"].contains n=false) (a:Q () s):wpAny M A (letOwnedTupleGo tg (.ref it) u) Q E s:=by
  unfold letOwnedTupleGo
  cases tg <;> first
    |exact wpAny_pure a
    | (cases u <;> first
        |exact wpAny_pure a
        | (refine wpAny_bind (wpAny_load b ?_)
           rw[c,hd]
           show wpAny M A (if(["enumerate", "zip", "dict_itemiterator", "dict_reverseitemiterator", "odict_iterator", "itertools.zip_longest", "itertools.pairwise"].contains n&&vs[0]? == some (rawInt _))=true then _ else _) Q E s
           rw[if_neg (by intro h; rw[d,Bool.false_and]at h; cases h)]
           exact wpAny_pure a))
def rG(K:FZ)(a:Addr):It :=
 ⟨λi H=>∃xs x,bH K H a xs/\xs[i]?=some x,λi H x H'=>H'=H/\∀xs,bH K H a xs->xs[i]?=some x,λi H=>∃xs,bH K H a xs/\xs.length<=i⟩
def JC(K:FZ)(a:Addr):It :=
 ⟨λi H=>∃xs x,fL K H a xs/\xs[i]?=some x,λi H x H'=>H'=H/\∀xs,fL K H a xs->xs[i]?=some x,λi H=>∃xs,fL K H a xs/\xs.length<=i⟩
def Dk(lo:Int)(n:Nat):It:=⟨λi _=>i<n,λi H x H'=>H'=H/\x=.int (lo+i),λi _=>n<=i⟩
theorem aav{P:Program}{w:World}{K:FZ}{D:Expr}(a it:Addr):Turn P w K D (rG K a) [it] it (λi h=>h.IsListIter it a i) where
 mem:=by simp
 obj:=λi h st b f=>by
  have e:b=it:=by simpa using f
  subst e
  obtain⟨o,e,c,d⟩:=st
  exact⟨o,e,λv z=>by rw[d]at z; cases z⟩
 keep:=λi h j st k=>st.at λo e=>k it (by simp) o e
 item:=by
  intro X m hw n C i pins s σ H E I hf st q
  subst m hw n
  obtain⟨F,x,l,r⟩:=q
  obtain⟨t,y,p,G⟩:=I.list l
  obtain⟨u,J,L⟩:=y.get r
  obtain⟨f0,f1,f2,A,f4,B⟩:=hf it (by simp)
  refine wpAny_pyNext_list_item st p.isList (x:=u) (by simpa using J) λj g M=>?_
  have N:Inv X pins σ H {s with heap:=j }:=I.turned (t':=s.toks) (λb o f e=>(M.2 b f).trans e) f0 f1 A f4 B
  obtain⟨o,e,c,d⟩:=id g
  exact⟨u,rfl,JB (s:={s with heap:=j }) e c d (by decide) ⟨x,H,N,L,⟨rfl,λR O=>by rw[I.tY O l]; exact r⟩,g,λb f=>(hf b f).1⟩⟩
 done:=by
  intro X m hw n C i pins s σ H E I hf st q
  subst m hw n
  obtain⟨F,l,r⟩:=q
  obtain⟨t,y,p,G⟩:=I.list l
  obtain⟨f0,f1,f2,A,f4,B⟩:=hf it (by simp)
  have S:=y.length
  exact wpAny_pyNext_list_end (I.ok.hd C) st p.isList (by simp; omega) λj Q=>⟨rfl,I.turned (t':=s.toks) (λb o f e=>Q b o f e) f0 f1 A f4 B⟩
 self:=λ_ _ _ _ _ st h=>wpAny_pyIter_listiter st h
theorem aaw{P:Program}{w:World}{K:FZ}{D:Expr}(a it:Addr):Turn P w K D (JC K a) [it] it (λi h=>h.IsTupleIter it a i) where
 mem:=by simp
 obj:=λi h st b f=>by
  have e:b=it:=by simpa using f
  subst e
  obtain⟨o,e,c,d⟩:=st
  exact⟨o,e,λv z=>by rw[d]at z; cases z⟩
 keep:=λi h l st k=>st.at λo e=>k it (by simp) o e
 item:=by
  intro X n hw q C i pins s σ H E I hf st r
  subst n hw q
  obtain⟨F,x,m,t⟩:=r
  obtain⟨g,y,p,G⟩:=I.tuple m
  obtain⟨u,J,L⟩:=y.get t
  obtain⟨f0,f1,f2,A,f4,B⟩:=hf it (by simp)
  refine wpAny_pyNext_tuple_item st (show s.heap.IsTuple a g.toArray from p) (x:=u) (by simpa using J) λl j M=>?_
  have N:Inv X pins σ H {s with heap:=l }:=I.turned (t':=s.toks) (λb o f e=>(M.2 b f).trans e) f0 f1 A f4 B
  obtain⟨o,e,c,d⟩:=id j
  exact⟨u,rfl,JB (s:={s with heap:=l }) e c d (by decide) ⟨x,H,N,L,⟨rfl,λR O=>by rw[I.RZ O m]; exact t⟩,j,λb f=>(hf b f).1⟩⟩
 done:=by
  intro X n hw q C i pins s σ H E I hf st r
  subst n hw q
  obtain⟨F,m,t⟩:=r
  obtain⟨g,y,p,G⟩:=I.tuple m
  obtain⟨f0,f1,f2,A,f4,B⟩:=hf it (by simp)
  have S:=y.length
  exact wpAny_pyNext_tuple_end (I.ok.hd C) st (show s.heap.IsTuple a g.toArray from p) (by simp; omega) λl Q=>⟨rfl,I.turned (t':=s.toks) (λb o f e=>Q b o f e) f0 f1 A f4 B⟩
 self:=λ_ _ _ _ _ st h=>wpAny_pyIter_tupleiter st h
theorem aax{P:Program}{w:World}{K:FZ}{u:Expr}(it:Addr)(lo:Int)(n:Nat):Turn P w K u (Dk lo n) [it] it (λi h=>IsRangeIter h it (lo+(i:Nat)*1) ((n:Int)-(i:Nat)) 1) where
 mem:=by simp
 obj:=λi h st b a=>by
  have e:b=it:=by simpa using a
  subst e
  exact⟨_,st,λv z=>by
   have r:Data.fields _=Data.cell v:=z
   cases r⟩
 keep:=λi h d st k=>k it (by simp) _ st
 item:=by
  intro X f hw g j i pins s σ H E I hf st l
  subst f hw g
  obtain⟨f0,f1,f2,m,f4,p⟩:=hf it (by simp)
  have W:=Walks.range (prog:=X.prog) (w:=X.w) (I.ok.hd j) it lo 1 n
  refine W.item i s _ _ l st λv d q x c y=>?_
  obtain⟨t,rfl⟩:=x
  have A:Inv X pins σ H {s with heap:=d,toks:=q }:=I.turned (λb o a e=>y b o (by simpa using a) e) f0 f1 m f4 p
  refine⟨_,rfl,JB (s:={s with heap:=d,toks:=q }) (n := "range_iterator") c rfl rfl (by decide) ⟨.int (lo+i),H,A,⟨t,?_⟩,⟨rfl,rfl⟩,c,λb a=>(hf b a).1⟩⟩
  rw[Int.mul_one]
 done:=by
  intro X f hw g j i pins s σ H E I hf st l
  subst f hw g
  obtain⟨f0,f1,f2,m,f4,p⟩:=hf it (by simp)
  exact wpAny_pyNext_range_end (I.ok.hd j) st (by have:n<=i:=l; omega) λd B=>⟨rfl,I.turned (t':=s.toks) (λb o a e=>B b o a e) f0 f1 m f4 p⟩
 self:=λ_ _ _ _ _ st h=>wpAny_pyIter_rangeiter st h
section
variable {X:Cx}{tg:Expr}
def Sd(K:FZ)(tl:TE):TI:=λσ H R=>tl σ H λx H1=>∃a,x=.ref a/\(∃xs,bH K H1 a xs)/\R (rG K a) H1
def Sg(K:FZ)(tl:TE):TI:=λσ H R=>tl σ H λx H1=>∃a,x=.ref a/\(∃xs,fL K H1 a xs)/\R (JC K a) H1
theorem aay{l:Expr}{d:TE}(f:PE X l d):PI X tg l (Sd X.K d):=by
 intro pins s σ H R I h
 refine bJ (f pins s σ H _ I h) λv s1 ⟨x,H1,c,g,q1⟩=>?_
 obtain⟨a,e,⟨m,i⟩,q⟩:=q1
 subst e
 cases g
 obtain⟨j,n,p,r⟩:=c.list i
 refine wpAny_pyIter_list p.isList ?_
 refine⟨s1.heap.objs.size,[s1.heap.objs.size],_,_,H1,rfl,c.kept (t':=s1.toks) λb o e=>Heap.get?_push_of_some _ e,aav a _,⟨_,Heap.get?_push_size _ rfl,rfl,rfl⟩,λb k=>?_,q⟩
 have e:b=s1.heap.objs.size:=by simpa using k
 subst e
 exact c.pI (Nat.le_refl _) (c.hok.fresh (Nat.le_refl _))
theorem aaz{l:Expr}{f:TE}(g:PE X l f):PI X tg l (Sg X.K f):=by
 intro pins s σ H R I h
 refine bJ (g pins s σ H _ I h) λv s1 ⟨x,H1,c,i,q1⟩=>?_
 obtain⟨a,e,⟨m,j⟩,q⟩:=q1
 subst e
 cases i
 obtain⟨d,n,p,r⟩:=c.tuple j
 refine wpAny_pyIter_tuple (show s1.heap.IsTuple a d.toArray from p) ?_
 refine⟨s1.heap.objs.size,[s1.heap.objs.size],_,_,H1,rfl,c.kept (t':=s1.toks) λb o e=>Heap.get?_push_of_some _ e,aaw a _,⟨_,Heap.get?_push_size _ rfl,rfl,rfl⟩,λb k=>?_,q⟩
 have e:b=s1.heap.objs.size:=by simpa using k
 subst e
 exact c.pI (Nat.le_refl _) (c.hok.fresh (Nat.le_refl _))
theorem aaA{pins:List (Addr × Obj)}{σ : St}{H:Hp}{s:Shared}{R:It->Hp->Prop}{E:Value->Shared->Prop}{lo hi:Int}{t u v:Tok}{tk:Nat}(I:Inv X pins σ H s)(c : -(2 ^ 62)<=lo)(d:lo<2 ^ 62)(f : -(2 ^ 62)<=hi)(g:hi<2 ^ 62)
  (q:R (Dk lo (hi-lo).toNat) H):wpAny (model X.prog X.w) X.A (pyIter (.ref s.heap.objs.size)) (PIE X pins σ tg R) E {s with heap:=s.heap.push {cls:=.type "range",data:=.fields #[.int lo t,.int hi u,.int 1 v] },toks:=tk }:=by
 refine wpAny_pyIter_range (IsRange.new ..) (small_one c d f g) ?_
 have a:Inv X pins σ H {s with heap:=s.heap.push {cls:=.type "range",data:=.fields #[.int lo t,.int hi u,.int 1 v] },toks:=tk }:=I.kept λb o e=>Heap.get?_push_of_some _ e
 refine⟨(s.heap.push {cls:=.type "range",data:=.fields #[.int lo t,.int hi u,.int 1 v] }).objs.size,[(s.heap.push {cls:=.type "range",data:=.fields #[.int lo t,.int hi u,.int 1 v] }).objs.size],_,_,H,rfl,
  a.kept (t':=tk) λb o e=>Heap.get?_push_of_some _ e,aax _ lo (hi-lo).toNat,?_,λb h=>?_,q⟩
 .have i:lo+((0:Nat):Int)*1=lo:=by simp
  have j:(((hi-lo).toNat:Nat):Int)-((0:Nat):Int)=Builtin.Range.rangeSize lo hi 1:=by rw[rangeSize_one]; split <;> omega
  show IsRangeIter _ _ (lo+((0:Nat):Int)*1) ((((hi-lo).toNat:Nat):Int)-((0:Nat):Int)) 1
  rw[i,j]
  exact Heap.get?_push_size _ rfl
 .have e:b=(s.heap.push {cls:=.type "range",data:=.fields #[.int lo t,.int hi u,.int 1 v] }).objs.size:=by simpa using h
  subst e
  exact a.pI (Nat.le_refl _) (a.hok.fresh (Nat.le_refl _))
def JD(ta:TA):TI:=λσ H R=>ta σ H λvs H1=>∃j:Int,vs=[.int j] /\ -(2 ^ 62)<=j/\j<2 ^ 62/\R (Dk 0 j.toNat) H1
theorem aaB{a:Expr}{b:TA}{p pos:Pos}(c:Gl X "range") (hm:X.mg "range" = none) (d:PA X [a] b) (f:starEach [a] X.env=[(false,eval a X.env)]:=by rfl):PI X tg (.Call (.Name "range" p) [a] [] pos) (JD b):=by
 intro pins s σ H R I h
 refine Call_ (qY I c hm boot_range (PyProof.Rows.callWith_type1 (bJ (d pos pins s σ H _ I h) λl s1 ⟨m,H1,g,i,q1⟩=>?_) f rfl))
 obtain⟨j,e,q1,q2,q⟩:=q1
 subst e
 cases i with
 |cons r k =>
  cases k
  obtain⟨t,rfl⟩:=r
  exact call_range_1 (aaA g (by omega) (by omega) q1 q2 (by simpa using q))
noncomputable def yL(wi:TI)(g:TG)(tb:TS):TS:=λD σ H=>wi σ H λJ H1=>∃W:Nat->Nat->St->Hp->Prop,(∃m,W 0 m σ H1)/\∀i m σ H,W i m σ H ->
 (J.stop i H/\D.nx σ H)\/(J.go i H/\∃N:St->Hp->Prop,(∀σ' H',N σ' H'->∃m',m'<m/\W (i+1) m' σ' H')/\∀x H',J.oR i H x H'->g x σ H' λσ2 H2=>tb {D with nx:=N,ct:=N,bk:=D.nx } σ2 H2)
def Dl(fp:List Addr)(h:Heap):List (Addr × Obj):=fp.filterMap λb=>(h.get? b).map λo=>(b,o)
theorem ud(a:b∈fp)(e:h.get? b=some o):(b,o)∈Dl fp h:=List.mem_filterMap.mpr ⟨b,a,by rw[e]; rfl⟩
theorem aaC(a:p∈Dl fp h):p.1∈fp/\h.get? p.1=some p.2:=by
 obtain⟨b,c,e⟩:=List.mem_filterMap.mp a
 cases q:h.get? b with
 |none=>rw[q]at e; cases e
 |some o =>
  rw[q]at e
  have d:(b,o)=p:=Option.some.inj e
  subst d
  exact⟨c,q⟩
theorem Inv.pinned(I:Inv X pins σ H s)(hf:∀b∈a,gH X pins H b)(g:∀b∈a,∃o,s.heap.get? b=some o/\∀v,o.data ≠ .cell v):Inv X (pins++Dl a s.heap) σ H s :=
 I.Dh λp h=>(List.mem_append.mp h).elim (λz=>I.pin p (List.mem_append_right _ z)) λz=>by
  obtain⟨c,e⟩:=aaC z
  obtain⟨f0,f1,f2,_⟩:=hf p.1 c
  obtain⟨o,f,d⟩:=g p.1 c
  rw[e]at f; cases f
  exact⟨e,f0,f1,f2,d⟩
theorem Inv.wV(I:Inv X (pins++pl) σ H s):Inv X pins σ H s:=I.Dh λp a=>I.pin p (List.mem_append_right _ (List.mem_append_left _ a))
theorem iu(z:PassesOwn (model X.prog X.w) X.A X.env X.xe)(Q:X.calm=true)(hi:PI X tg iter wi)(Z:PG X tg g)(c:jV X body tb)
  (hs:∀x,foldedSetIterable iter X.env x=pure x:=by intro _; rfl):PS X (.For tg iter body [] pos) (yL wi g tb):=by
 refine⟨λpins s σ H D I h=>?_⟩
 refine wpAny_For (bJ (hi pins s σ H _ I h) λv s1 h1=>bJ h1 λitv s2 h2=>?_) hs
 obtain⟨it,B,R,J,H2,e,I2,T,G,f2,W,⟨m0,w0⟩,turn⟩:=h2
 subst e
 -- what stays true of the iterator's objects through the loop
 have j:∀{t:Hp},(∀b∈B,t b=none)->∀b∈B,gH X pins t b:=λhn b c=>⟨hn b c,(f2 b c).2⟩
 refine codeAny_forLoop_any (λn S=>∃i k t,Inv X pins k t S/\R i S.heap/\(∀b∈B,t b=none)/\W i n k t) ?_ m0 ⟨0,σ,H2,I2,G,λb c=>(f2 b c).1,w0⟩
 rintro n s3 ⟨i,l,F,U,C,V,w3⟩
 rcases turn i n l F w3 with⟨stop,qn⟩|⟨go,N,hN,step⟩
 .refine wpAny_passesOwn z (bJ (T.done X rfl rfl rfl Q i pins s3 l F X.xe U (j V) C stop) λr s4 ⟨K,I4⟩=>?_)
  subst K
  exact wpAny_execs_nil ⟨l,F,I4,qn⟩
 .refine wpAny_passesOwn z (bJ (T.item X rfl rfl rfl Q i pins s3 l F X.xe U (j V) C go) λr s4 ⟨u,K,h4⟩=>?_)
  subst K
  refine wpAny_passesOwn z (bJ h4 λ_ s5 ⟨x,Y,I5,r5,y5,L,vh⟩=>?_)
  have M:=I5.pinned (j vh) (T.obj _ _ L)
  refine wpAny_passesOwn z (bJ (Z _ s5 l Y x u _ M r5 (step x Y y5)) λ_ s6 ⟨O,H6,I6,q6⟩=>?_)
  refine wpAny_passesOwn z (bJ (c _ s6 O H6 _ I6 q6) λf P y=>?_)
  have again:∀{a:St} {p:Hp},Inv X (pins++Dl B s5.heap) a p P->N a p->∃m,m<n/\∃i k t,Inv X pins k t P/\R i P.heap/\(∀b∈B,t b=none)/\W i m k t:=λ{a p} q E=>by
   obtain⟨m',hm,w7⟩:=hN a p E
   refine⟨m',hm,i+1,a,p,q.wV,T.keep _ _ _ L λb c o e=>(q.pin (b,o) (List.mem_append_right _ (List.mem_append_right _ (ud c e)))).1,λb c=>?_,w7⟩
   obtain⟨o,e,d⟩:=T.obj _ _ L b c
   exact(q.pin (b,o) (List.mem_append_right _ (List.mem_append_right _ (ud c e)))).2.1
  cases f with
  |next=>obtain⟨a,p,q,E⟩:=y; exact again q E
  |cont=>obtain⟨a,p,q,E⟩:=y; exact again q E
  |brk=>obtain⟨a,p,q,y⟩:=y; exact⟨a,p,q.wV,y⟩
  |ret v=>obtain⟨x7,a,p,q,r7,y⟩:=y; exact⟨x7,a,p,q.wV,r7,y⟩
end
theorem aaD{K:FZ}{a:Addr}{xs:List V}{g:TG}{tb:TS}{D:Ends}{σ : St}{H:Hp}(Pv:Nat->St->Hp->Prop)(h0:Pv 0 σ H)(j:∀i σ H,i<=xs.length->Pv i σ H->bH K H a xs)
  (k:∀i x σ H,xs[i]?=some x->Pv i σ H->g x σ H λb f=>tb {D with nx:=Pv (i+1),ct:=Pv (i+1),bk:=D.nx } b f) (hd:∀σ H,Pv xs.length σ H->D.nx σ H) :
  ∃W:Nat->Nat->St->Hp->Prop,(∃m,W 0 m σ H)/\∀i m σ H,W i m σ H ->
   ((rG K a).stop i H/\D.nx σ H)\/((rG K a).go i H/\∃N:St->Hp->Prop,(∀σ' c,N σ' c->∃h,h<m/\W (i+1) h σ' c)/\∀x c,(rG K a).oR i H x c->g x σ c λb f=>tb {D with nx:=N,ct:=N,bk:=D.nx } b f):=by
 refine⟨λi m σ H=>m=xs.length-i/\i<=xs.length/\Pv i σ H,⟨xs.length,by simp,Nat.zero_le _,h0⟩,?_⟩
 rintro i m σ H ⟨rfl,hi,p⟩
 have q:=j i σ H hi p
 by_cases d:i<xs.length
 .refine .inr ⟨⟨xs,xs[i],q,by simp[d]⟩,Pv (i+1),λσ' c l=>⟨xs.length-(i+1),by omega,rfl,d,l⟩,λx c y=>?_⟩
  obtain⟨e,y⟩:=y
  subst e
  exact k i x σ _ (y xs q) p
 .have e:i=xs.length:=by omega
  subst e
  exact .inl ⟨⟨xs,q,Nat.le_refl _⟩,hd σ H p⟩
abbrev R2:=V->V->Hp->VK->Prop
noncomputable def dR(X:Cx)(f:Value->Value->Sem Value)(r:R2):Prop :=
 ∀(pins:List (Addr × Obj)) (s:Shared) (σ : St) (H:Hp) (x y:V) (v u:Value) (Q:VK),Inv X pins σ H s->RelV x v->RelV y u->r x y H Q ->
  wpAny (model X.prog X.w) X.A (f v u) (EP X pins σ Q) X.xe s
def JF(X:Cx)(f:Value->Sem Value)(r:V->Hp->VK->Prop):Prop :=
 ∀(pins:List (Addr × Obj)) (s:Shared) (σ : St) (H:Hp) (x:V) (v:Value) (Q:VK),Inv X pins σ H s->RelV x v->r x H Q ->
  wpAny (model X.prog X.w) X.A (f v) (EP X pins σ Q) X.xe s
noncomputable def jX(X:Cx)(f:Value)(r:List V->Hp->VK->Prop):Prop :=
 ∀(pins:List (Addr × Obj)) (s:Shared) (σ : St) (H:Hp) (xs:List V) (us:List Value) (Q:VK),Inv X pins σ H s->Vals xs us->r xs H Q ->
  wpAny (model X.prog X.w) X.A (call f us) (EP X pins σ Q) X.xe s
noncomputable def aaE(X:Cx)(r:V->Hp->(Bool->Hp->Prop)->Prop):Prop :=
 ∀(pins:List (Addr × Obj)) (s:Shared) (σ : St) (H:Hp) (x:V) (v:Value) (Q:Bool->Hp->Prop),Inv X pins σ H s->RelV x v->r x H Q ->
  wpAny (model X.prog X.w) X.A (truthy v) (TP X pins σ Q) X.xe s
def gU(r:R2)(ta tb:TE):TE:=λσ H Q=>ta σ H λx H1=>tb σ H1 λy H2=>r x y H2 Q
def Dm(r:V->Hp->VK->Prop)(ta:TE):TE:=λσ H Q=>ta σ H λx H1=>r x H1 Q
def rI(C:Int->Int->Prop)(g:Int->Int->V):R2:=λx y H Q=>∃i j,x=.int i/\y=.int j/\C i j/\Q (g i j) H
def jB(g:Int->Int->V):R2:=λx y H Q=>∃i j,x=.int i/\y=.int j/\Q (g i j) H
def rU(g:Int->V):V->Hp->VK->Prop:=λx H Q=>∃i,x=.int i/\Q (g i) H
section
variable {X:Cx}{a b c:Expr}{ta tb tc:TE}{pos:Pos}
theorem JG(i:PE X a ta)(j:PE X b tb){pins:List (Addr × Obj)}{s:Shared}{σ : St}{H:Hp}{R:V->V->Hp->Prop}(I:Inv X pins σ H s)
  (h:ta σ H λx H1=>tb σ H1 λy d=>R x y d) {Q:Value->Shared->Prop} {f:Value->Value->Sem Value}
  (hf:∀v u s2 x y d,Inv X pins σ d s2->RelV x v->RelV y u->R x y d->wpAny (model X.prog X.w) X.A (f v u) Q X.xe s2) :
  wpAny (model X.prog X.w) X.A (eval a X.env) (λv e=>wpAny (model X.prog X.w) X.A (eval b X.env) (λu g=>wpAny (model X.prog X.w) X.A (f v u) Q X.xe g) X.xe e) X.xe s:=by
 refine bJ (i pins s σ H _ I h) λv s1 ⟨x,H1,k,l,q1⟩=>?_
 refine bJ (j pins s1 σ H1 _ k q1) λu s2 ⟨y,d,m,n,q2⟩=>?_
 exact hf v u s2 x y d m l n q2
theorem bG{op:Operator}{r:R2}(d:dR X (binaryOp op) r)(e:PE X a ta)(f:PE X b tb):PE X (.BinOp a op b pos) (gU r ta tb):=by
 refine⟨λpins s σ H Q I h=>?_⟩
 exact wpAny_BinOp (JG e f I h λv u s2 x y g i j k q=>d pins s2 σ g x y v u Q i j k q)
theorem Dn(d:JF X (unaryOp op) r)(e:PE X a ta):PE X (.UnaryOp op a pos) (Dm r ta):=by
 refine⟨λpins s σ H Q I h=>?_⟩
 exact UnaryOp_ (bJ (e pins s σ H _ I h) λv s1 ⟨x,H1,f,g,q1⟩=>d pins s1 σ H1 x v Q f g q1)
theorem Dp{f:Value->Value->Sem Value}{C:Int->Int->Prop}{g:Int->Int->Int}
  (rule:∀(i j:Int) (t u:Tok) (s:Shared) (Q:Value->Shared->Prop) (E:Value->Shared->Prop),C i j->Q (.int (g i j) s.toks) {s with toks:=s.toks+1 }->wpAny (model X.prog X.w) X.A (f (.int i t) (.int j u)) Q E s) :
  dR X f (rI C λi j=>.int (g i j)):=by
 intro pins s σ H x y v u Q I d e h
 obtain⟨i,j,rfl,rfl,k,q⟩:=h
 obtain⟨t,rfl⟩:=d
 obtain⟨l,rfl⟩:=e
 exact rule i j t l s _ _ k ⟨.int (g i j),H,I.tok _,⟨_,rfl⟩,q⟩
theorem Sq{f:Value->Value->Sem Value}{g:Int->Int->Int}
  (rule:∀(i j:Int) (t u:Tok) (s:Shared) (Q:Value->Shared->Prop) (E:Value->Shared->Prop),Q (.int (g i j) s.toks) {s with toks:=s.toks+1 }->wpAny (model X.prog X.w) X.A (f (.int i t) (.int j u)) Q E s) :
  dR X f (jB λi j=>.int (g i j)):=by
 intro pins s σ H x y v u Q I d e h
 obtain⟨i,j,rfl,rfl,q⟩:=h
 obtain⟨t,rfl⟩:=d
 obtain⟨k,rfl⟩:=e
 exact rule i j t k s _ _ ⟨.int (g i j),H,I.tok _,⟨_,rfl⟩,q⟩
theorem Dq{f:Value->Value->Sem Value}{g:Int->Int->Bool}
  (rule:∀(i j:Int) (t u:Tok) (s:Shared) (Q:Value->Shared->Prop) (E:Value->Shared->Prop),Q (.bool (g i j)) s->wpAny (model X.prog X.w) X.A (f (.int i t) (.int j u)) Q E s) :
  dR X f (jB λi j=>.bl (g i j)):=by
 intro pins s σ H x y v u Q I d e h
 obtain⟨i,j,rfl,rfl,q⟩:=h
 obtain⟨t,rfl⟩:=d
 obtain⟨k,rfl⟩:=e
 exact rule i j t k s _ _ ⟨.bl (g i j),H,I,rfl,q⟩
def JH(i j:Int):Prop:=0<=j/\j<=1000000/\i.natAbs<2 ^ 64
theorem Ss:dR X (binaryOp .Add) (jB λi j=>.int (i+j)):=Sq λ_ _ _ _ _ _ _ q=>add_int q
theorem vm:dR X (binaryOp .Sub) (jB λi j=>.int (i-j)):=Sq λ_ _ _ _ _ _ _ q=>sub_int q
theorem jC:dR X (binaryOp .Mod) (rI (λ_ j=>j≠0) λi j=>.int (i.fmod j)):=Dp λ_ _ _ _ _ _ _ d q=>mod_int' d q
theorem Dr:dR X (binaryOp .Pow) (rI JH λi j=>.int (i ^ j.toNat)):=Dp λ_ _ _ _ _ _ _ d q=>pow_int_small d.1 d.2.1 d.2.2 q
theorem unI{f:Value->Sem Value}{g:Int->Int}
  (rule:∀(i:Int) (t:Tok) (s:Shared) (Q:Value->Shared->Prop) (E:Value->Shared->Prop),Q (.int (g i) s.toks) {s with toks:=s.toks+1 }->wpAny (model X.prog X.w) X.A (f (.int i t)) Q E s) :
  JF X f (rU λi=>.int (g i)):=by
 intro pins s σ H x v Q I d h
 obtain⟨i,rfl,q⟩:=h
 obtain⟨t,rfl⟩:=d
 exact rule i t s _ _ ⟨.int (g i),H,I.tok _,⟨_,rfl⟩,q⟩
theorem Ds:JF X (unaryOp .USub) (rU λi=>.int (-i)):=unI λ_ _ _ _ _ q=>neg_int q
end
section
variable {X:Cx}{a b c:Expr}{ta tb tc:TE}{pos:Pos}
theorem aaF(I:Inv X pins σ H s)(q:Q (.bl k) H)(e:k=k'):EP X pins σ Q (.bool k') s:=by
 subst e
 exact⟨.bl k,H,I,rfl,q⟩
theorem aaG:dR X (compareOp .Lt) (jB λi j=>.bl (decide (i<j))):=Dq λ_ _ _ _ _ _ _ q=>lt_int q
theorem pJ:dR X (compareOp .LtE) (jB λi j=>.bl (decide (i<=j))):=Dq λ_ _ _ _ _ _ _ q=>le_int q
theorem Dt:dR X (compareOp .Gt) (jB λi j=>.bl (decide (j<i))):=Dq λ_ _ _ _ _ _ _ q=>gt_int q
theorem JK:dR X (compareOp .GtE) (jB λi j=>.bl (decide (j<=i))):=Dq λ_ _ _ _ _ _ _ q=>ge_int q
theorem Du:dR X (compareOp .Is) (λx y H Q=>y=.non/\Q (.bl (decide (x=.non))) H):=by
 intro pins s σ H x y v u Q I d e h
 obtain⟨rfl,q⟩:=h
 cases e
 refine is_none_gen (aaF I q ?_)
 cases x <;> first
  |(cases d; rfl)
  |(obtain⟨t,rfl⟩:=d; rfl)
theorem dR.or(h:dR X f r)(h':dR X f r'):dR X f (λx y H Q=>r x y H Q\/r' x y H Q):=by
 intro pins s σ H x y v u Q I d e q
 rcases q with q|q
 .exact h pins s σ H x y v u Q I d e q
 .exact h' pins s σ H x y v u Q I d e q
theorem cU(b:Expr)(h:op ≠ .In:=by decide)(d:op ≠ .NotIn:=by decide):behindInMarks op b=false:=by
 have e:(op == CmpOp.In)=false:=by cases op <;> first|rfl|exact absurd rfl h
 have f:(op == CmpOp.NotIn)=false:=by cases op <;> first|rfl|exact absurd rfl d
 cases b <;> simp[behindInMarks,e,f]
theorem lH{op:CmpOp}{r:R2}(d:dR X (compareOp op) r)(e:PE X a ta)(f:PE X b tb)(hm:behindInMarks op b=false):PE X (.Compare a [op] [b] pos) (gU r ta tb):=by
 refine⟨λpins s σ H Q I h=>?_⟩
 exact wpAny_Compare1 (JG e f I h λv u s2 x y g i j k q=>d pins s2 σ g x y v u Q i j k q) hm
def JL(t:TE):TT:=λσ H Q=>t σ H λx H'=>∃k,x=.bl k/\Q k H'
theorem eO(d:dR X (compareOp op) r)(f:PE X a ta)(g:PE X b tb)(hm:behindInMarks op b=false):PT X (.Compare a [op] [b] pos) (JL (gU r ta tb)):=by
 refine⟨λpins s σ H Q I h=>?_⟩
 refine wpAny_isTrue_Compare1 (bJ (f pins s σ H _ I h) λv s1 ⟨x,H1,i,j,q1⟩=>bJ (g pins s1 σ H1 _ i q1) λu s2 ⟨y,l,m,n,q2⟩ =>
  bJ (d pins s2 σ l x y v u _ m j n q2) λc s3 ⟨z,o,p,q,k,e,t⟩=>?_) hm
 subst e
 cases q
 exact wpAny_truthy_bool ⟨o,p,t⟩
def Dv(r r':R2)(ta tb tc:TE):TE:=λσ H Q=>ta σ H λx H1=>tb σ H1 λy H2=>r x y H2 λz H3=>∃k,z=.bl k /\
 (if k=true then tc σ H3 λw' H4=>r' y w' H4 Q else Q (.bl false) H3)
theorem Dw(n:dR X (compareOp op) r)(g:dR X (compareOp f) o)(p:PE X a ta)(q:PE X b tb)(w:PE X c tc)
  (hm:lastMarks [op,f] [b,c]=false:=by with_unfolding_all rfl):PE X (.Compare a [op,f] [b,c] pos) (Dv r o ta tb tc):=by
 refine⟨λpins s σ H Q I h=>?_⟩
 refine Compare_chain (bJ (p pins s σ H _ I h) λv s1 ⟨x,H1,t,A,q1⟩=>chain_link (bJ (q pins s1 σ H1 _ t q1) λu s2 ⟨y,B,C,i,q2⟩ =>
  bJ (n pins s2 σ B x y v u _ C A i q2) λd s3 ⟨z,j,l,D,k,e,m⟩=>?_)) hm
 subst e
 cases D
 refine wpAny_truthy_bool ?_
 cases k with
 |false=>exact ite_ff ⟨.bl false,j,l,rfl,m⟩
 |true=>exact ite_tt (chain_last (bJ (w pins s3 σ j _ l m) λE s4 ⟨F,G,J,K,L⟩=>g pins s4 σ G y F u E Q J i K L))
theorem Sv(n:dR X (compareOp op) r)(g:dR X (compareOp f) o)(p:PE X a ta)(q:PE X b tb)(w:PE X c tc)
  (hm:lastMarks [op,f] [b,c]=false:=by with_unfolding_all rfl):PT X (.Compare a [op,f] [b,c] pos) (JL (Dv r o ta tb tc)):=by
 refine⟨λpins s σ H Q I h=>?_⟩
 refine isTrue_chain (bJ (p pins s σ H _ I h) λv s1 ⟨x,H1,t,A,q1⟩=>test_link (bJ (q pins s1 σ H1 _ t q1) λu s2 ⟨y,B,C,i,q2⟩ =>
  bJ (n pins s2 σ B x y v u _ C A i q2) λd s3 ⟨z,j,l,D,k,e,m⟩=>?_)) hm
 subst e
 cases D
 refine wpAny_truthy_bool ?_
 cases k with
 |false =>
  obtain⟨U,E,F⟩:=m
  cases E
  exact ite_ff ⟨j,l,F⟩
 |true =>
  refine ite_tt (test_last (bJ (w pins s3 σ j _ l m) λG s4 ⟨J,K,L,M,N⟩=>bJ (g pins s4 σ K y J u G _ L i M N) λV s5 ⟨W,O,P,R,Y,S,T⟩=>?_))
  subst S
  cases R
  exact wpAny_truthy_bool ⟨O,P,T⟩
noncomputable def wX(K:FZ)(x:V)(H:Hp)(k:Bool):Prop :=
 match x with
 |.non=>k=false
 |.bl b=>k=b
 |.int i=>k=(i != 0)
 |.str y=>y.length<=sizeLine/\k=((y.length:Int) != 0)
 |.yH y=>y.size<=sizeLine/\k=((y.size:Int) != 0)
 |.ref p=>(∃xs,bH K H p xs/\k = !xs.isEmpty)\/(∃xs,fL K H p xs/\k = !xs.isEmpty)\/∃kvs,H p=some (.dK kvs)/\k = !kvs.isEmpty
 |_=>False
theorem aaH{e : Type}{d:List (e × V)}{vs:List (e × Value)}(r:KV d vs):(!vs.isEmpty) = !d.isEmpty:=by
 cases r <;> rfl
theorem Sw{xs:List V}{its:List Value}(r:Vals xs its):(!its.toArray.isEmpty) = !xs.isEmpty:=by
 cases r <;> simp
theorem vo:(sizeLine:Nat)<2 ^ 63:=by rw[sizeLine_eq]; decide
theorem aaI:aaE X (λx H Q=>∃k,wX X.K x H k/\Q k H):=by
 intro pins s σ H x v Q I j h
 obtain⟨k,e,q⟩:=h
 have C:=vo
 have D:sizeLine=16777216:=sizeLine_eq
 cases x with
 |non =>
  cases j
  have d:k=false:=e
  subst d
  exact truthy_none ⟨H,I,q⟩
 |bl b =>
  cases j
  have d:k=b:=e
  subst d
  exact wpAny_truthy_bool ⟨H,I,q⟩
 |int i =>
  obtain⟨t,rfl⟩:=j
  have d:k=(i != 0):=e
  subst d
  exact PySem.P.truthy_int ⟨H,I,q⟩
 |str y =>
  obtain⟨t,rfl⟩:=j
  obtain⟨A,d⟩:y.length<=sizeLine/\k=((y.length:Int) != 0):=e
  subst d
  exact PySem.P.truthy_str (by omega) ⟨H,I.tok _,q⟩
 |yH y =>
  obtain⟨t,rfl⟩:=j
  obtain⟨A,d⟩:y.size<=sizeLine/\k=((y.size:Int) != 0):=e
  subst d
  exact PySem.W.truthy_bytes (by omega) ⟨H,I.tok _,q⟩
 |ref p =>
  cases j
  have d:(∃g,bH X.K H p g/\k = !g.isEmpty)\/(∃g,fL X.K H p g/\k = !g.isEmpty)\/∃f,H p=some (.dK f)/\k = !f.isEmpty:=e
  rcases d with⟨g,l,d⟩|⟨g,l,d⟩|⟨f,l,d⟩
  .subst d
   obtain⟨o,r,u,z⟩:=I.list l
   have hlen:=r.length
   exact wpAny_truthy_list u.isList (by simp only[List.size_toArray]; omega) ⟨H,I.tok _,by rw[Sw r]; exact q⟩
  .subst d
   obtain⟨o,r,u,z⟩:=I.tuple l
   have hlen:=r.length
   exact truthy_tuple u (by simp only[List.size_toArray]; omega) ⟨H,I.tok _,by rw[Sw r]; exact q⟩
  .subst d
   obtain⟨z,B,n,r,m⟩:f.length<=sizeLine/\(p == sysModules)=false/\∃n,KV f n/\s.heap.DictOf (Jq X.prog X.w) p n:=I.hok p _ l
   have hlen:f.length=n.length:=Paired.length r
   exact wpAny_truthy_dict B m (by omega) ⟨H,I.tok _,by rw[aaH r]; exact q⟩
 |_=>exact(show False from e).elim
theorem iw(e:PE X a ta)(he:∀whole,isTrue a X.env whole=(do let v <-whole; standAt a.pos; holding [v] (truthy v))) :
  PT X a (λσ H Q=>ta σ H λx d=>∃k,wX X.K x d k/\Q k d):=by
 refine⟨λpins s σ H Q I h=>?_⟩
 exact isTrue_plain (bJ (e pins s σ H _ I h) λv s1 ⟨x,H1,f,g,q1⟩=>aaI pins s1 σ H1 x v Q f g q1) (he _)
theorem aaJ:dR X (binaryOp .Add) (λx y H Q=>∃i j,x=.str i/\y=.str j/\i.length+j.length<=sizeLine/\Q (.str (i++j)) H):=by
 intro pins s σ H x y v u Q I d e h
 obtain⟨i,j,rfl,rfl,f,q⟩:=h
 obtain⟨t,rfl⟩:=d
 obtain⟨g,rfl⟩:=e
 exact add_str (λg k=>⟨.str (i++j),H,I.tok _,⟨_,rfl⟩,q⟩) f
theorem vals1(r:Vals [x] us):∃u,us=[u]/\RelV x u:=by
 cases r with
 |cons d e=>cases e; exact⟨_,rfl,d⟩
theorem vals2(r:Vals [x,y] us):∃u d,us=[u,d]/\RelV x u/\RelV y d:=by
 cases r with
 |cons e f =>
  cases f with
  |cons g h=>cases h; exact⟨_,_,rfl,e,g⟩
theorem JM:jX X (.builtin "abs") (λxs H Q=>∃i,xs=[.int i]/\Q (.int (if i<0 then -i else i)) H):=by
 intro pins s σ H xs d Q I r h
 obtain⟨i,rfl,q⟩:=h
 obtain⟨u,rfl,t,rfl⟩:=vals1 r
 exact call_abs_int λu e=>⟨.int (if i<0 then -i else i),H,I.tok _,⟨_,rfl⟩,q⟩
theorem Dy:jX X (.type "int") (λxs H Q=>(∃i,xs=[.int i]/\Q (.int i) H)\/∃k,xs=[.bl k]/\Q (.int (if k then 1 else 0)) H):=by
 intro pins s σ H xs e Q I r h
 rcases h with⟨i,rfl,q⟩|⟨k,rfl,q⟩
 .obtain⟨u,rfl,t,rfl⟩:=vals1 r
  exact call_int_int ⟨.int i,H,I,⟨_,rfl⟩,q⟩
 .obtain⟨u,rfl,d⟩:=vals1 r
  cases d
  exact call_int_bool ⟨.int (if k then 1 else 0),H,I.tok _,⟨_,rfl⟩,q⟩
end
structure gQ(k:Nat)(A:Around):Prop where
 hd:A.handled=none
 dp:A.depth+3*k+5<recursionLimit
 un:A.units+16*k+200<cLine
 gd:A.guards=some []:=by rfl
theorem gQ.mono(r:gQ k A)(h:j<=k):gQ j A:=⟨r.hd,by have:=r.dp; omega,by have:=r.un; omega,r.gd⟩
theorem gQ.deeper(r:gQ (k+1) A)(env:Env):gQ k (A.deeper env) :=
 ⟨r.hd,by have:=r.dp; show A.depth+1+3*k+5<_; omega,by have:=r.un; show A.units+3+16*k+200<_; omega,r.gd⟩
theorem gQ.depth(r:gQ k A):A.depth<recursionLimit:=by have:=r.dp; omega
theorem gQ.units(r:gQ k A):A.units+64<cLine:=by have:=r.un; omega
def uf:TA:=λ_ H Q=>Q [] H
def mG(ta:TE)(tr:TA):TA:=λσ H Q=>ta σ H λx H1=>tr σ H1 λxs H2=>Q (x::xs) H2
section
variable {X:Cx}{e:Expr}{es:List Expr}{te:TE}{t:TA}{pos:Pos}
theorem aG:PA X [] uf:=⟨λ_ _ _ _ H Q I h=>Calls.spliced_nil ⟨[],H,I,.nil,h⟩⟩
theorem iY(a:PE X e te)(b:PA X es t)(c:starEach (e::es) X.env=(false,eval e X.env)::starEach es X.env:=by rfl):PA X (e::es) (mG te t):=by
 refine⟨λpos pins s σ H Q I h=>?_⟩
 rw[c]
 show wpAny _ _ (spliced ((false,eval e X.env)::backTo pos (starEach es X.env))) _ _ s
 refine Calls.spliced_cons (bJ (a pins s σ H _ I h) λu s1 ⟨x,H1,d,f,q1⟩=>?_)
 exact bJ (b pos pins s1 σ H1 _ d q1) λl s2 ⟨g,i,j,k,q2⟩=>⟨x::g,i,j,.cons f k,q2⟩
def Sx(t:TA):TE:=λσ H Q=>t σ H λxs H1=>xs.length<=sizeLine/\∀p,H1 p=none->Q (.ref p) (upd H1 p (.tup xs))
def JN(t:TA):TE:=λσ H Q=>t σ H λxs H1=>xs.length<=sizeLine/\∀p,H1 p=none->Q (.ref p) (upd H1 p (.lst xs))
theorem pK{x1}(h:PA X es t):PE X (.Tuple es x1 pos) (Sx t):=by
 refine⟨λpins s σ H Q I c=>?_⟩
 refine wpAny_Tuple_spliced (bJ (h pos pins s σ H _ I c) λd s1 ⟨f,H1,a,r,z,q⟩=>⟨by rw[<-r.length]; exact z,?_⟩)
 have hf:H1 s1.heap.objs.size=none:=a.hok.fresh (Nat.le_refl _)
 refine⟨.ref s1.heap.objs.size,upd H1 s1.heap.objs.size (.tup f),a.laid (t':=s1.toks) (λb u e=>Heap.get?_push_of_some _ e) (Nat.le_refl _) ?_,rfl,q _ hf⟩
 exact⟨z,d,r,⟨_,Heap.get?_push_size _ rfl,rfl,_,rfl⟩⟩
theorem iM(h:PA X es t):PE X (.List es pos) (JN t):=by
 refine⟨λpins s σ H Q I c=>?_⟩
 refine wpAny_List_spliced (bJ (h pos pins s σ H _ I c) λd s1 ⟨f,H1,a,r,z,q⟩=>⟨by rw[<-r.length]; exact z,?_⟩)
 have hf:H1 s1.heap.objs.size=none:=a.hok.fresh (Nat.le_refl _)
 refine⟨.ref s1.heap.objs.size,upd H1 s1.heap.objs.size (.lst f),a.laid (t':=s1.toks) (λb u e=>Heap.get?_push_of_some _ e) (Nat.le_refl _) ?_,rfl,q _ hf⟩
 exact⟨z,d,0,r,Heap.get?_push_size _ rfl⟩
end
abbrev Sp:=List V->Hp->VK->XK->Prop
abbrev mH:=List Env->Hp->Shared->XK->Value->Shared->Prop
structure Dz(P:Program)(w:World)(K:FZ)(mg:Str->Option Value)(base:Heap)(A:Around)(outer:List Env)(s:Shared)(H:Hp):Prop where
 frames:A.frames=some outer
 mod:Mod K mg base
 bs:∀b o,base.get? b=some o->s.heap.get? b=some o/\H b=none
 tW:base.objs.size<=s.heap.objs.size
 oM:s.heap.FunFrames base outer
 u9:∀b∈frs outer,H b=none
 hok:gO P w H s.heap
 bare:AllBare s.gens
def CE(outer:List Env)(P:Program)(w:World)(H:Hp)(s:Shared)(Q:VK)(u:Value)(s':Shared):Prop :=
 ∃v H',s'.os=s.os/\AllBare s'.gens/\Un (frs outer) [] H H' s.heap s'.heap/\gO P w H' s'.heap/\RelV v u/\Q v H'
def CR(CX:mH)(outer:List Env)(P:Program)(w:World)(H:Hp)(s:Shared)(Q:VK)(E:XK)(r:Result)(s':Shared):Prop :=
 match r with
 |.ok (.ret u)=>CE outer P w H s Q u s'
 |.ok _=>False
 |.error e=>CX outer H s E e s'
structure m7(P:Program)(w:World)(K:FZ)(mg:Str->Option Value)(base:Heap)(CX:mH)(k:Nat)(f:Addr)(fd:FuncData)(ps:List Str)(sp:Sp):Prop where
 len:∀vs H Q E,sp vs H Q E->vs.length=ps.length
 run:∀(A:Around) (outer:List Env) (s:Shared) (H:Hp) (args:Args) (us:List Value) (vs:List V) (Q:VK) (E:XK),gQ k A->Dz P w K mg base A outer s H->BindsTo s fd args (ps.zip us)->Vals vs us->sp vs H Q E ->
  codeAny (model P w) A (.call (.ref f) args) (CR CX outer P w H s Q E) s
theorem m7.mono{P:Program}{w:World}{K:FZ}{mg:Str->Option Value}{base:Heap}{CX:mH}{j k:Nat}{f:Addr}{fd:FuncData}{a:List Str}{sp:Sp}(F:m7 P w K mg base CX j f fd a sp)(h:j<=k) :
  m7 P w K mg base CX k f fd a sp:=⟨F.len,λA outer s H args b c Q E d=>F.run A outer s H args b c Q E (d.mono h)⟩
theorem m7.imp{P:Program}{w:World}{K:FZ}{mg:Str->Option Value}{base:Heap}{CX:mH}{k:Nat}{f:Addr}{fd:FuncData}{a:List Str}{sp b:Sp}(F:m7 P w K mg base CX k f fd a sp)
  (h:∀vs H Q E,b vs H Q E->sp vs H Q E):m7 P w K mg base CX k f fd a b :=
 ⟨λvs H Q E q=>F.len vs H Q E (h _ _ _ _ q),λA outer s H args c vs Q E d he e g i=>F.run A outer s H args c vs Q E d he e g (h _ _ _ _ i)⟩
section
variable {X:Cx}{pins:List (Addr × Obj)}{σ : St}{H:Hp}{s s':Shared}
theorem Inv.env0(I:Inv X pins σ H s):Dz X.prog X.w X.K X.mg X.base X.A X.stack s H :=
 ⟨I.ok.frames,I.ok.mod,I.bs,Nat.le_trans I.ok.tW I.sz,I.stack,I.Df,I.hok,I.bare⟩
theorem Inv.after(I:Inv X pins σ H s)(h:CE X.stack X.prog X.w H s Q u s'):EP X pins σ Q u s':=by
 obtain⟨v,c,os,bare,un,hok,r,q⟩:=h
 obtain⟨e,g,d,t,a⟩:=s'
 obtain rfl:a=s.os:=os
 exact⟨v,c,I.call (h':=e) (g':=g) (d':=d) (t':=t) (ch:=[]) un hok bare (λb z=>absurd z (by simp)),r,q⟩
end
def rH(sp:Sp)(ug:List V)(E:XK)(t:TA):TE:=λσ H Q=>t σ H λvs H1=>sp (vs++ug) H1 Q E
def Binds(K:FZ)(fd:FuncData)(ps:List Str)(ds:List Value):Prop :=
 ∀(s:Shared) (us:List Value),K.In s.heap->(us++ds).length=ps.length->BindsTo s fd ⟨us,[]⟩ (ps.zip (us++ds))
theorem Binds.all{K:FZ}{fd:FuncData}{a:List Str}(h:∀us:List Value,us.length=a.length->bindArgs fd ⟨us,[]⟩=pure (a.zip us)):Binds K fd a []:=λs us _ b=>by
 rw[List.append_nil]at b ⊢
 exact .of_eq (h us b)
def Passes(CX:mH)(X:Cx)(E:XK):Prop:=∀(pins:List (Addr × Obj)) (σ : St) (H:Hp) (s:Shared) (e:Value) (s':Shared),Inv X pins σ H s->CX X.stack H s E e s'->X.xe e s'
section
variable {X:Cx}{CX:mH}{k:Nat}{f C:Addr}{fd:FuncData}{ps:List Str}{sp:Sp}{ug:List V}{ds:List Value}{E:XK}{x m:Str}{p pos apos:Pos}{e o:Expr}{es:List Expr}{ta:TE}{t:TA}
theorem aaK(F:m7 X.prog X.w X.K X.mg X.base CX k f fd ps sp)(c:gQ k X.A)(d:Binds X.K fd ps ds)(hd:Vals ug ds)(g:Passes CX X E)
  (I:Inv X pins σ H s) (r:Vals vs us) (h:sp (vs++ug) H Q E):wpAny (model X.prog X.w) X.A (call (.ref f) us) (EP X pins σ Q) X.xe s:=by
 have b:Vals (vs++ug) (us++ds):=r.append hd
 have i:(us++ds).length=ps.length:=by rw[<-b.length]; exact F.len _ _ _ _ h
 refine wpAny_call (codeAny_mono (F.run X.A X.stack s H ⟨us,[]⟩ (us++ds) (vs++ug) Q E c I.env0 (d s us I.mF i) b h) λr j a=>?_)
 cases r with
 |error e=>exact g pins σ H s e j I a
 |ok fl =>
  cases fl with
  |ret u=>exact I.after a
  |next=>exact False.elim a
  |brk=>exact False.elim a
  |cont=>exact False.elim a
theorem aaL(F:m7 X.prog X.w X.K X.mg X.base CX k f fd ps sp)(d:gQ k X.A)(g:Gl X x)(hm:X.mg x=some (.ref f))(i:PySem.W.keepIn X.K (.ref f)=true)(j:Binds X.K fd ps ds)(hd:Vals ug ds)(n:Passes CX X E)
  (u:PA X (e::es) t) (a:(x == ("__debug__" : Str))=false:=by decide) (he:starEach (e::es) X.env=(false,eval e X.env)::starEach es X.env:=by rfl) (b:(backTo pos (starEach es X.env)).any (·.1)=false:=by rfl) :
  PE X (.Call (.Name x p) (e::es) [] pos) (rH sp ug E t):=by
 refine⟨λpins s σ H Q I h=>?_⟩
 refine wpAny_Call_Name_kw (Jt I g hm ?_ a)
 refine PySem.W.callWith_K (h₀ := X.base) I.ok.mod.Jr i (bJ (u pos pins s σ H _ I h) λl s1 ⟨v,H1,c,r,q⟩=>⟨c.mF,?_⟩) he b
 exact aaK F d j hd n c r q
end
structure rJ(N P:List Str)(sc:Scope):Prop where
 kind:sc.kind=.function
 co:sc.isCoroutine=false
 gen:sc.isGenerator=false
 nd:N.Nodup
 pre:N.take P.length=P
 par:∀x∈P,sc.names.lookup x=some .local\/sc.names.lookup x=some .cell
 JQ:∀y∈sc.names,y.2 ≠ .free
theorem SJ{kindOf:Str->Option NameKind}{x:Str}:∀{binds:List (Str × Value)} {m:Str->Option Value},(∀v,(x,v)∉binds)->bindL kindOf binds m x=m x
 | [],_,_=>rfl
 |(n,v)::r,m,h=>by
  unfold bindL
  rw[SJ λw hw=>h w (List.mem_cons_of_mem _ hw)]
  split
  .have:x≠n:=by rintro rfl; exact h v List.mem_cons_self
   simp[this]
  .rfl
theorem SM{kindOf:Str->Option NameKind}{x:Str}:∀{binds:List (Str × Value)} {m:Str->Option Value},(∀v,(x,v)∉binds)->bindC kindOf binds m x=m x
 | [],_,_=>rfl
 |(n,v)::r,m,h=>by
  unfold bindC
  rw[SM λw hw=>h w (List.mem_cons_of_mem _ hw)]
  split
  .rfl
  .have:x≠n:=by rintro rfl; exact h v List.mem_cons_self
   simp[this]
theorem SN{kindOf:Str->Option NameKind}{x:Str}{v:Value}:∀{P:List Str} {vs:List Value} {i:Nat} {m:Str->Option Value},P.Nodup->P[i]?=some x->vs[i]?=some v->kindOf x=some .local ->
  bindL kindOf (P.zip vs) m x=some v
 | [],_,_,_,_,h,_,_=>by simp at h
 |_::_,[],_,_,_,_,h,_=>by simp at h
 |p::P,w::vs,0,m,nd,a,b,c=>by
  simp at a b; subst a; subst b
  show bindL kindOf ((p,w)::P.zip vs) m p=_
  unfold bindL
  rw[SJ λv d=>(List.nodup_cons.mp nd).1 (List.of_mem_zip d).1,if_pos c]
  simp
 |p::P,w::vs,i+1,m,nd,a,b,c=>by
  show bindL kindOf ((p,w)::P.zip vs) m x=_
  unfold bindL
  exact SN (i:=i) (List.nodup_cons.mp nd).2 (by simpa using a) (by simpa using b) c
theorem SX{kindOf:Str->Option NameKind}{x:Str}{v:Value}:∀{P:List Str} {vs:List Value} {i:Nat} {m:Str->Option Value},P.Nodup->P[i]?=some x->vs[i]?=some v->kindOf x≠some .local ->
  bindC kindOf (P.zip vs) m x=some v
 | [],_,_,_,_,h,_,_=>by simp at h
 |_::_,[],_,_,_,_,h,_=>by simp at h
 |p::P,w::vs,0,m,nd,a,b,c=>by
  simp at a b; subst a; subst b
  show bindC kindOf ((p,w)::P.zip vs) m p=_
  unfold bindC
  rw[SM λv d=>(List.nodup_cons.mp nd).1 (List.of_mem_zip d).1,if_neg c]
  simp
 |p::P,w::vs,i+1,m,nd,a,b,c=>by
  show bindC kindOf ((p,w)::P.zip vs) m x=_
  unfold bindC
  exact SX (i:=i) (List.nodup_cons.mp nd).2 (by simpa using a) (by simpa using b) c
def start(N:List Str)(vs:List V):St:=vs.map some++List.replicate (N.length-vs.length) none
noncomputable def lJ(CX:mH)(P:Program)(w:World)(K:FZ)(mg:Str->Option Value)(base:Heap)(N:List Str)(qual:Str)(scope:Scope)(f:Addr)(cd:Value)(A:Around)(outer:List Env)(s:Shared)(H:Hp)(E:XK):Cx where
 prog:=P
 w:=w
 K:=K
 mg:=mg
 base:=base
 A:=A.deeper (envOfC qual scope s.heap.objs.size f cd)
 N:=N
 s₀ := s
 H₀ := H
 env:=envOfC qual scope s.heap.objs.size f cd
 outer:=outer
 stack:=envOfC qual scope s.heap.objs.size f cd::outer
 ex:=[]
 calm:=true
 fn:=λ_=>true
 pn:=[]
 xe:=λe s'=>wpAny (model P w) (A.deeper (envOfC qual scope s.heap.objs.size f cd)) (leaving (envOfC qual scope s.heap.objs.size f cd) e) (λ_ s''=>CX outer H s E e s'') (λe' s''=>CX outer H s E e' s'') s'
theorem S5{sc:Scope}{n:Nat}{x:Str}(h:sc.names.lookup x=some .cell):∃c,(cellsFrom n sc.names []).lookup x=some c:=by
 have q:=PySem.W.cellsFrom_some sc.names n [] (.inl h)
 exact Option.isSome_iff_exists.mp q
theorem aaM{CX:mH}{P:Program}{w:World}{K:FZ}{mg:Str->Option Value}{base:Heap}{N j:List Str}{qual:Str}{scope:Scope}{f:Addr}{cd:Value}{A:Around}{outer:List Env}{s s1:Shared}{H:Hp}{E:XK}{us:List Value}{vs:List V}
  (S:rJ N j scope) (hd:A.handled=none) (g:Dz P w K mg base A outer s H) (J:vs.length=j.length) (r:Vals vs us)
  (x:InCallC s s.heap.objs.size (bindL (envOfC qual scope s.heap.objs.size f cd).kindOf (j.zip us) λ_=>none) (cellsFrom (s.heap.objs.size+1) scope.names []) (bindC (envOfC qual scope s.heap.objs.size f cd).kindOf (j.zip us) λ_=>none) s1) :
  Inv (lJ CX P w K mg base N qual scope f cd A outer s H E) [] (start N vs) H s1:=by
 have F:j.length<=N.length:=by have:=congrArg List.length S.pre; rw[List.length_take]at this; omega
 obtain⟨o,L,rfl,B⟩:=x.done
 have t:∀b:Addr,b∉(lJ CX P w K mg base N qual scope f cd A outer s H E).ex:=λb z=>absurd (show b∈([]:List Addr)from z) (by simp)
 refine⟨⟨g.mod,S.kind,rfl,rfl,Nat.le_refl _,λy z c o d=>?_,λy l=>?_,λy c _ h=>?_,λ_=>hd,Around.frames_deeper g.frames,.inr ⟨rfl,rfl⟩,λb z=>absurd z (t b),g.bs,g.tW,λb _ _=>t b,λb z=>absurd z (t b),g.oM,g.u9⟩,
  rfl,g.bare,Un.kept B,⟨_,x.toInCall.ns,λi y v o d M=>?_⟩,λy c h=>⟨_,x.cell y c h⟩,g.hok.fresh (Nat.le_refl _),λy c h=>?_,λp m=>absurd (show p∈([]:List (Addr × Obj))from m) (by simp),g.hok.kept B,?_⟩
 .exact name_of_addr x.apart (PySem.mem_of_lookup o) (PySem.mem_of_lookup d)
 .have l:scope.names.lookup y=some .cell\/scope.names.lookup y=some .free:=l
  rcases l with l|l
  .exact S5 l
  .exact absurd rfl (S.JQ _ (PySem.mem_of_lookup l))
 .exact Nat.le_of_lt (x.above y c (PySem.mem_of_lookup h))
 .have hi:i<vs.length:=by
   unfold start at d
   by_cases hi:i<vs.length
   .exact hi
   .rw[List.getElem?_append_right (by simpa using hi)]at d
    rw[List.getElem?_replicate]at d
    split at d <;> cases d
  have G:vs[i]?=some v:=by
   unfold start at d
   rw[List.getElem?_append_left (by simpa using hi),List.getElem?_map]at d
   cases e:vs[i]? with
   |none=>rw[e]at d; cases d
   |some a=>rw[e]at d; cases d; rfl
  obtain⟨u,C,I⟩:=r.get G
  have m:j[i]?=some y:=by
   rw[<-S.pre,List.getElem?_take_of_lt (by omega)]; exact o
  have D:j.Nodup:=by rw[<-S.pre]; exact S.nd.sublist (List.take_sublist _ _)
  refine⟨u,I,?_⟩
  rcases S.par y (List.mem_of_getElem? m)with k|k
  .exact .inl ⟨k,SN D m C k⟩
  .obtain⟨c,e⟩:=S5 (n:=s.heap.objs.size+1) k
   refine .inr ⟨.inl k,c,e,?_⟩
   have q:=x.cell y c e
   rw[SX D m C (by show scope.names.lookup y≠_; rw[k]; decide)]at q
   exact q
 .exact g.hok.fresh (Nat.le_of_lt (x.above y c (PySem.mem_of_lookup h)))
 .unfold start
  show _=N.length
  rw[List.length_append,List.length_map,List.length_replicate]
  omega
theorem S7{CX:mH}{P:Program}{w:World}{K:FZ}{mg:Str->Option Value}{base:Heap}{k:Nat}{f:Addr}{name qual:Str}{params:Arguments}{body:List Stmt}{scope:Scope}{F kV doc pm a ct L:Value}{an od:Option Addr}
  {p:Array (Option Value)} {N m:List Str} {sp:Sp} (lk:K.lookup f=some ⟨L,od,.func (PySem.W.fnOf name qual params body scope F kV doc pm an a ct),p⟩) (z:PySem.W.codeIn K a qual=true) (S:rJ N m scope)
  (len:∀vs H Q E,sp vs H Q E->vs.length=m.length)
  (g:∀(A:Around) (outer:List Env) (s:Shared) (H:Hp) (vs:List V) (Q:VK) (E:XK),gQ k (A.deeper (envOfC qual scope s.heap.objs.size f a))->sp vs H Q E ->
   ∃t,jV (lJ CX P w K mg base N qual scope f a A outer s H E) body t/\t {nx:=λ_ d=>Q .non d,rt:=Q } (start N vs) H) :
  m7 P w K mg base CX (k+1) f (PySem.W.fnOf name qual params body scope F kV doc pm an a ct) m sp:=by
 refine⟨len,λA outer s H args M vs Q E B j O r l=>?_⟩
 have R:=len _ _ _ _ l
 have G:K.In s.heap:=j.mod.Jr.keeps λb o e=>(j.bs b o e).1
 have lim:s.heap.NoLimit:=j.mod.nolimit.keeps λb o e=>(j.bs b o e).1
 have h:∀y∈m.zip M,scope.names.lookup y.1=some .local\/(scope.names.lookup y.1=some .cell/\((cellsFrom (s.heap.objs.size+1) scope.names []).lookup y.1).isSome=true):=λ⟨n,v⟩ T=>by
  rcases S.par n (List.of_mem_zip T).1 with q|q
  .exact .inl q
  .exact .inr ⟨q,PySem.W.cellsFrom_some _ _ _ (.inl q)⟩
 refine codeAny_call_function B.depth (G _ _ lk) rfl S.co S.gen rfl (PySem.W.codeRec_of G z) (O _ _ _ _ ?_)
 refine wpAny_newFunctionEnv_cells S.kind h λenv he s1 x=>?_
 subst he
 refine⟨lim.keeps x.toInCall.keep,codeAny_func ?_⟩
 obtain⟨t,U,X⟩:=g A outer s H vs Q E (B.deeper _) l
 have I:Inv (lJ CX P w K mg base N qual scope f a A outer s H E) [] (start N vs) H s1:=aaM S B.hd j R r x
 refine wpAny_mono (U [] s1 (start N vs) H _ I X) (λfl C i=>?_) λe C i=>i
 have fin:∀{c:St} {d:Hp} {v:V} {u:Value},Inv (lJ CX P w K mg base N qual scope f a A outer s H E) [] c d C->RelV v u->Q v d->CE outer P w H s Q u C :=
  λ{c d v u} J D q=>⟨v,d,J.os,J.bare,J.base,J.hok,D,q⟩
 cases fl with
 |ret u =>
  obtain⟨v,c,d,J,D,q⟩:=i
  exact fin J D q
 |next =>
  obtain⟨c,d,J,q⟩:=i
  exact fin (v:=V.non) (u:=Value.none) J rfl q
 |brk =>
  obtain⟨_,_,_,q⟩:=i
  exact False.elim q
 |cont =>
  obtain⟨_,_,_,q⟩:=i
  exact False.elim q
section
variable {X:Cx}{x:Str}{p pos:Pos}{e:Expr}{es:List Expr}{t:TA}{id T:String}{r:List V->Hp->VK->Prop}
def m8(r:List V->Hp->VK->Prop)(t:TA):TE:=λσ H Q=>t σ H λvs H1=>r vs H1 Q
theorem S8(c:jX X (.builtin id) r)(d:Gl X x)(hm:X.mg x=none)(f:bootBuiltins x=some (.builtin id))(g:PA X (e::es) t)(i:x ≠ "__name__" := by decide) (a:(x == ("__debug__" : Str))=false:=by decide)
  (he:starEach (e::es) X.env=(false,eval e X.env)::starEach es X.env:=by rfl) (b:(backTo pos (starEach es X.env)).any (·.1)=false:=by rfl):PE X (.Call (.Name x p) (e::es) [] pos) (m8 r t):=by
 refine⟨λpins s σ H Q I h=>?_⟩
 refine wpAny_Call_Name_kw (qY I d hm f ?_ i a)
 exact PyProof.Rows.callWith_builtin1 (bJ (g pos pins s σ H _ I h) λj s1 ⟨k,H1,l,m,q1⟩=>c pins s1 σ H1 k j Q l m q1) he b
theorem aaN(c:jX X (.type T) r)(d:Gl X x)(hm:X.mg x=none)(f:bootBuiltins x=some (.type T))(g:PA X (e::es) t)(i:x ≠ "__name__" := by decide) (a:(x == ("__debug__" : Str))=false:=by decide)
  (he:starEach (e::es) X.env=(false,eval e X.env)::starEach es X.env:=by rfl) (b:(backTo pos (starEach es X.env)).any (·.1)=false:=by rfl):PE X (.Call (.Name x p) (e::es) [] pos) (m8 r t):=by
 refine⟨λpins s σ H Q I h=>?_⟩
 refine wpAny_Call_Name_kw (qY I d hm f ?_ i a)
 exact PyProof.Rows.callWith_type1 (bJ (g pos pins s σ H _ I h) λj s1 ⟨k,H1,l,m,q1⟩=>c pins s1 σ H1 k j Q l m q1) he b
end
end L2
namespace HT
open PySem PyProof.Rows
def lexLt:List Int->List Int->Bool
 | [],[]=>false
 | [],_::_=>true
 |_::_,[]=>false
 |x::xs,y::ys=>if x=y then lexLt xs ys else decide (x<y)
theorem aaO(x y:Int)(xs ys:List Int):lexLt (x::xs) (y::ys)=if x=y then lexLt xs ys else decide (x<y):=rfl
theorem aaP:lexLt [] []=false:=rfl
theorem aaQ(y:Int)(ys:List Int):lexLt [] (y::ys)=true:=rfl
theorem aaR(x:Int)(xs:List Int):lexLt (x::xs) []=false:=rfl
theorem aaS(A:Around)(s:Shared)(a:Int)(t:Tok)(c:Int)(u:Tok):∃e,SeqAt.EqAt A s (.int a t) (.int c u) e/\(e=true↔a=c) :=
 ⟨(a == c),SeqAt.EqAt.int_int a t c u,by simp⟩
theorem aaT(A:Around)(s:Shared)(a:Int)(t:Tok)(c:Int)(u:Tok)(prog:Program)(w:World)(E:Value->Shared->Prop)(Q:Value->Shared->Prop)(h:Q (.bool (decide (a<c))) s) :
  wpAny (model prog w) A (richCompare .Lt (.int a t) (.int c u)) Q E s :=
 (PyProof.Rows.lt_int h:wpAny (model prog w) A (compareOp .Lt (.int a t) (.int c u)) Q E s)
section
open PySem.SeqAt
open PySem.AutoSeq1 (wpAny_loadPart')
open PySem.MeetsSeq PySem.MeetsSeq2 PySem.MeetsSeq3
theorem aaU(l b:Addr)(items f:Array Value)(n N:Nat)(dd D:Option Addr)(O E:Array (Option Value))(ns ms:List Int)(hi:IntsAre items.toList ns)(L:IntsAre f.toList ms) :
  Meets (Builtin.«tuple.__lt__» ⟨[.ref l,.ref b],[]⟩)
   (λ_ R s=>s.heap.get? l=some {cls:=.type "tuple",dict:=dd,data:=.seq items n,slots:=O }∧s.heap.get? b=some {cls:=.type "tuple",dict:=D,data:=.seq f N,slots:=E } ∧
    R (.ok (.ret (.bool (lexLt ns ms)))) s) :=
 .of_wp λprog w A R s h=>by
  obtain⟨z,g,d,B,os⟩:=s; obtain⟨P,Q,h⟩:=h
  have f2:=AutoSeq1.sub_tuple_tuple
  have U:items.size=ns.length:=by rw[<-hi.length]; simp
  have V:f.size=ms.length:=by rw[<-L.length]; simp
  wp_walk using wpAny_loadPart' P,wpAny_loadPart' Q,wpAny_forIn_list _ (λrest b F=>b.1=none/\F=⟨z,g,d,B,os⟩/\∃(C ws:List Value) (i v:List Int),rest=C.zip ws /\
   IntsAre C i/\IntsAre ws v/\i.length+f.size=v.length+items.size/\R (.ok (.ret (.bool (lexLt i v)))) ⟨z,g,d,B,os⟩) _
  case turn =>
   rintro⟨y,x⟩ rest b F ⟨p,rfl,C,ws,i,v,j,G,k,hlen,m⟩
   cases G with
   |nil=>rw[List.zip_nil_left]at j; cases j
   |cons a t H =>
    cases k with
    |nil=>rw[List.zip_nil_right]at j; cases j
    |cons c u I =>
     rw[List.zip_cons_cons]at j
     injection j with J r
     injection J with S T
     subst S T
     rw[aaO]at m
     simp only[List.length_cons]at hlen
     obtain⟨e,he,o⟩:=aaS A.in1 ⟨z,g,d,B,os⟩ a t c u
     refine wpAny_bind (he prog w _ _ ?_)
     cases e with
     |true =>
      rw[if_pos (o.mp rfl)]at m
      wp_walk
      exact⟨rfl,rfl,_,_,_,_,r,H,I,by omega,m⟩
     |false =>
      rw[if_neg (λq=>absurd (o.mpr q) Bool.false_ne_true)]at m
      have K:=aaT A.in1 ⟨z,g,d,B,os⟩ a t c u prog w
      wp_walk using K
      exact⟨_,rfl,by simpa using m⟩
  case fin =>
   rintro⟨W,X⟩ F ⟨p,rfl,C,ws,i,v,j,G,k,hlen,m⟩
   simp only at p
   subst p
   have M:lexLt i v=decide (items.size<f.size):=by
    cases G with
    |nil =>
     cases k with
     |nil =>
      simp only[List.length_nil]at hlen
      rw[aaP]
      exact(decide_eq_false (by omega)).symm
     |cons c u hw =>
      simp only[List.length_nil,List.length_cons]at hlen
      rw[aaQ]
      exact(decide_eq_true (by omega)).symm
    |cons a t M =>
     cases k with
     |nil =>
      simp only[List.length_nil,List.length_cons]at hlen
      rw[aaR]
      exact(decide_eq_false (by omega)).symm
     |cons c u hw =>
      rw[List.zip_cons_cons]at j
      cases j
   rw[M]at m
   wp_walk
   exact⟨_,rfl,by simpa[Builtin.Tuple.tupleCompareSizes]using m⟩
  case h =>
   exact⟨rfl,rfl,items.toList,f.toList,ns,ms,rfl,hi,L,by omega,h⟩
end
section
variable {prog:Program}{w:World}{A:Around}{E:Value->Shared->Prop}{s:Shared}
theorem aaX(j:IsTup s.heap l items)(k:IsTup s.heap b items2)(hi:IntsAre items.toList ns)(m:IntsAre items2.toList ms)
  (o:A.units<cLine) (h:Q (.bool (lexLt ns ms)) s):wpAny (model prog w) A (compareOp .Lt (.ref l) (.ref b)) Q E s:=by
 obtain⟨⟨cls,dd,data,p⟩,f,g,n,hd⟩:=id j
 obtain⟨⟨i,d,data2,e⟩,a,c,q,hd2⟩:=id k
 simp only at g hd c hd2
 subst g hd c hd2
 exact richCompare_meets_room (op:=.Lt) ⟨_,f,rfl⟩ ⟨_,a,rfl⟩ PySem.F.slot_tuple_lt PySem.F.entry_tuple_lt (PySem.F.args_tuple_lt_2 _ _) (aaU l b items items2 n q dd d p e ns ms hi m)
  ⟨f,a,show Value.bool (lexLt ns ms)≠Value.notImplemented/\Q (.bool (lexLt ns ms)) s from⟨(λx=>nomatch x),h⟩⟩ o
theorem aaY(o:IsTup s.heap t vs.toArray)(p:IsTup s.heap b ws.toArray)(i:vs≠[])
  (q:ws=[]->Q (.ref t) s) (u:ws≠[]->Q (.ref s.heap.objs.size) {s with heap:=s.heap.push {cls:=.type "tuple",data:=.seq (vs++ws).toArray } })
  (h:vs.length+ws.length<=sizeLine):wpAny (model prog w) A (binaryOp .Add (.ref t) (.ref b)) Q E s:=by
 obtain⟨⟨cls,dd,data,j⟩,g,k,n,hd⟩:=id o
 obtain⟨⟨l,c,data2,d⟩,a,f,m,hd2⟩:=id p
 simp only at k hd f hd2
 subst k hd f hd2
 have e:vs.toArray++ws.toArray=(vs++ws).toArray:=by simp
 by_cases hw:ws=[]
 .exact concat_meets ⟨_,g,rfl⟩ ⟨_,a,rfl⟩ noFill_tuple_add seq_tuple_add PySem.F.slot_tuple_add PySem.F.entry_tuple_add (PySem.F.args_tuple_add_2 _ _)
   (tuple_addW1 t b vs.toArray ws.toArray n m dd c j d (by simpa using i) (by simp[hw])) ⟨g,a,q hw⟩
 .refine concat_meets ⟨_,g,rfl⟩ ⟨_,a,rfl⟩ noFill_tuple_add seq_tuple_add PySem.F.slot_tuple_add PySem.F.entry_tuple_add (PySem.F.args_tuple_add_2 _ _)
   (tuple_addW2 t b vs.toArray ws.toArray n m dd c j d (by simpa using i) (by simpa using hw) (by rw[List.size_toArray,List.size_toArray]; exact h)) ⟨g,a,?_⟩
  rw[e]
  exact u hw
def cJ(n d:Nat):Option Int->Nat
 |none=>d
 |some v=>if v<0 then(v+(n:Int)).toNat else min v.toNat n
theorem aaZ(n d:Nat)(hd:d<=n)(o:Option Int):cJ n d o<=n:=by
 cases o with
 |none=>exact hd
 |some v =>
  show(if v<0 then(v+(n:Int)).toNat else min v.toNat n)<=n
  by_cases a:v<0
  .rw[if_pos a]; omega
  .rw[if_neg a]; exact Nat.min_le_right _ _
theorem S9(v:Int)(n d:Nat):(if v<0 then max (v+(n:Int)) 0 else min v (n:Int))=((cJ n d (some v):Nat):Int):=by
 show(if v<0 then max (v+(n:Int)) 0 else min v (n:Int))=(((if v<0 then(v+(n:Int)).toNat else min v.toNat n):Nat):Int)
 by_cases a:v<0
 .simp only[if_pos a]; omega
 .simp only[if_neg a]; omega
theorem aa0(lo hi:Option Int)(n:Nat):Builtin.Slice.sliceAdjust lo hi 1 (n:Int)=(((cJ n 0 lo:Nat):Int),((cJ n n hi:Nat):Int)):=by
 have a:¬((1:Int)<0):=by omega
 unfold Builtin.Slice.sliceAdjust
 simp only[a,if_false]
 refine Prod.ext ?_ ?_
 .cases lo with
  |none=>rfl
  |some v=>exact S9 v n 0
 .cases hi with
  |none=>rfl
  |some v=>exact S9 v n n
theorem aa1(i j:Nat):Builtin.Slice.slicePlaces (i:Int) (j:Int) 1=j-i:=by
 unfold Builtin.Slice.slicePlaces
 have a:(1:Int) > 0:=by omega
 simp only[a,if_true,Int.ediv_one]
 split <;> omega
theorem Tc(p:IsPart v o)(h:Q o s):wpAny (model prog w) A (Builtin.Slice.slicePartIndex v) Q E s:=by
 cases p with
 |none=>exact slicePart_none h
 |int i t=>exact slicePart_int h
theorem aa2{e:Addr}{c d:Value}{lo hi:Option Int}{n:Nat}{Q:Int × Int × Nat->Shared->Prop}(f:s.heap.IsSliceOf e c d .none)(g:IsPart c lo)(pu:IsPart d hi)
  (h:Q (((cJ n 0 lo:Nat):Int),1,cJ n n hi-cJ n 0 lo) s):wpAny (model prog w) A (Builtin.Slice.sliceApplied (.ref e) (pure (n:Int))) Q E s:=by
 obtain⟨os,a,i,b⟩:=id f
 unfold Builtin.Slice.sliceApplied Builtin.Slice.sliceFields
 refine wpAny_bind (wpAny_bind (wpAny_field a b (x:=c) rfl (wpAny_bind (wpAny_field a b (x:=d) rfl (wpAny_bind (wpAny_field a b (x:=.none) rfl (wpAny_pure ?_)))))))
 refine wpAny_bind (slicePart_none ?_)
 show wpAny _ _ (if((1:Int) == 0)=true then _ else _) _ _ s
 rw[if_neg (by decide)]
 refine wpAny_bind (Tc g (wpAny_bind (Tc pu (wpAny_bind (wpAny_pure ?_)))))
 show wpAny _ _ (match Builtin.Slice.sliceAdjust lo hi 1 (n:Int)with|(lo,hi)=>pure (lo,(1:Int),Builtin.Slice.slicePlaces lo hi 1)) _ _ s
 rw[aa0 lo hi n]
 show wpAny _ _ (pure (((cJ n 0 lo:Nat):Int),(1:Int),Builtin.Slice.slicePlaces ((cJ n 0 lo:Nat):Int) ((cJ n n hi:Nat):Int) 1)) _ _ s
 rw[aa1]
 exact wpAny_pure h
theorem aa3(xs:Array Value)(i k:Nat):((List.range k).filterMap λ(m:Nat)=>xs[((i:Int)+(m:Int)*1).toNat]?).toArray=((xs.toList.drop i).take k).toArray:=by
 have e:(λ(m:Nat)=>xs[((i:Int)+(m:Int)*1).toNat]?)=λm=>xs[i+m]? := by
  funext m
  have:((i:Int)+(m:Int)*1).toNat=i+m:=by omega
  rw[this]
 rw[e]
 have:=pick_run xs i k
 rw[List.filterMap_map]at this
 have a:((λx=>xs[x]?) ∘ λx=>i+x)=λm=>xs[i+m]? := rfl
 rw[a]at this
 rw[this]
theorem aa4{t c:Addr}{items:Array Value}{i j:Value}{lo hi:Option Int}{Q:Value->Shared->Prop}(a:IsTup s.heap t items)(k:s.heap.IsSliceOf c i j .none)(n:IsPart i lo)(pu:IsPart j hi)
  (hw:¬(cJ items.size 0 lo=0/\cJ items.size items.size hi=items.size))
  (h:Q (.ref s.heap.objs.size) {s with heap:=s.heap.push {cls:=.type "tuple",data:=.seq ((items.toList.drop (cJ items.size 0 lo)).take (cJ items.size items.size hi-cJ items.size 0 lo)).toArray } })
  (o:items.size<=sizeLine):wpAny (model prog w) A (getItem (.ref t) (.ref c)) Q E s:=by
 have b:sizeOk (.seq ((items.toList.drop (cJ items.size 0 lo)).take (cJ items.size items.size hi-cJ items.size 0 lo)).toArray):=by
  show((items.toList.drop (cJ items.size 0 lo)).take (cJ items.size items.size hi-cJ items.size 0 lo)).toArray.size<=sizeLine
  rw[List.size_toArray,List.length_take,List.length_drop,Array.length_toList]
  omega
 have p:cJ items.size items.size hi<=items.size:=aaZ _ _ (Nat.le_refl _) hi
 obtain⟨os,d,e,l⟩:=id k
 have f:s.TypeIs (.ref c) "slice" := ⟨os,d,e⟩
 unfold getItem
 try with_reducible refine wpAny_holding ?_
 first|refine wpAny_bind (wpAny_pure ?_)|skip
 refine wpAny_bind (wpAny_sequenceKey a.typeIs (by decide) ?_)
 refine wpAny_bind (wpAny_callSpecial?_slot (name:=Str.ofString "__getitem__") a.typeIs PyProof.Rows.slot_tuple_getitem
  (wpAny_call_entry PyProof.Rows.slot_tuple_getitem a.typeIs entry_tuple_getitem ?_ (args_tuple_getitem _ _)))
 show wpAny _ _ (Builtin.Tuple.tupleItemsOf (.ref t) >>= _) _ _ s
 refine wpAny_bind (tupleItemsOf_ a ?_)
 refine wpAny_bind (wpAny_typeOf f ?_)
 rw[if_pos (by decide)]
 refine wpAny_bind (aa2 k n pu ?_)
 have g:¬((((cJ items.size 0 lo:Nat):Int) == 0&&(1:Int) == 1&&(cJ items.size items.size hi-cJ items.size 0 lo) == items.size)=true):=by
  intro q
  rw[Bool.and_eq_true,Bool.and_eq_true]at q
  have q1:((cJ items.size 0 lo:Nat):Int)=0:=eq_of_beq q.1.1
  have q2:cJ items.size items.size hi-cJ items.size 0 lo=items.size:=eq_of_beq q.2
  exact hw ⟨by omega,by omega⟩
 show wpAny _ _ (if(((cJ items.size 0 lo:Nat):Int) == 0&&(1:Int) == 1&&(cJ items.size items.size hi-cJ items.size 0 lo) == items.size)=true then _ else _) _ _ s
 rw[if_neg g,aa3]
 first
  |exact wpAny_bind (m:=Builtin.Tuple.tupleExact _) (wpAny_newObj_type (wpAny_pure ⟨_,rfl,wpAny_pure h⟩) b)
  |exact wpAny_bind (m:=Builtin.Tuple.tupleExact _) (wpAny_newObj_type (wpAny_bind (wpAny_pure (wpAny_pure ⟨_,rfl,wpAny_pure h⟩))) b)
  |exact wpAny_bind (wpAny_bind (m:=Builtin.Tuple.tupleExact _) (wpAny_newObj_type (wpAny_pure (wpAny_pure ⟨_,rfl,wpAny_pure h⟩)) b))
  |exact wpAny_bind (wpAny_bind (m:=Builtin.Tuple.tupleExact _) (wpAny_newObj_type (wpAny_pure ⟨_,rfl,wpAny_pure h⟩) b))
end
end HT
namespace L2
open PySem PySem.Spec PyProof.Rows
abbrev TO:=St->Hp->(Option Int->Hp->Prop)->Prop
noncomputable def PO(X:Cx)(e:Option Expr)(t:TO):Prop :=
 ∀(pins:List (Addr × Obj)) (s:Shared) (σ : St) (H:Hp) (Q:Option Int->Hp->Prop),Inv X pins σ H s->t σ H Q ->
  wpAny (model X.prog X.w) X.A (evalPart e X.env) (λu s'=>∃o H',Inv X pins σ H' s'/\IsPart u o/\Q o H') X.xe s
def Td:TO:=λ_ H Q=>Q none H
def Te(t:TE):TO:=λσ H Q=>t σ H λx H1=>∃i,x=.int i/\Q (some i) H1
theorem intsAre_of:∀{us:List Value},Vals (ns.map V.int) us->IntsAre us ns:=by
 induction ns with
 |nil=>intro us r; rw[List.map_nil]at r; cases r; exact .nil
 |cons n ns a =>
  intro us r
  rw[List.map_cons]at r
  cases r with
  |cons b c =>
   obtain⟨t,e⟩:=b
   subst e
   exact .cons n t (a c)
section
variable {X:Cx}{e:Expr}{te:TE}{lo hi:Option Expr}{tl th:TO}{pos p2:Pos}
theorem DK:PO X none Td:=by
 intro pins s σ H Q I h
 rw[evalPart_none]
 exact wpAny_pure ⟨none,H,I,.none,h⟩
theorem DN(h:PE X e te):PO X (some e) (Te te):=by
 intro pins s σ H Q I hw
 rw[evalPart_some]
 refine bJ (h pins s σ H _ I hw) λu s1 ⟨x,H1,a,b,q1⟩=>?_
 obtain⟨i,rfl,q⟩:=q1
 obtain⟨t,rfl⟩:=b
 exact⟨some i,H1,a,.int i t,q⟩
noncomputable def pL(X:Cx)(r:V->Option Int->Option Int->Hp->VK->Prop):Prop :=
 ∀(pins:List (Addr × Obj)) (s:Shared) (σ : St) (H:Hp) (x:V) (v vl vu:Value) (lo hi:Option Int) (sl:Addr) (Q:VK),Inv X pins σ H s->RelV x v->s.heap.IsSliceOf sl vl vu .none->IsPart vl lo->IsPart vu hi->r x lo hi H Q ->
  ∃T id,typeLookup (.type T) "__getitem__" = pure (some (.builtin id))/\s.TypeIs v T/\wpAny (model X.prog X.w) X.A (getItem v (.ref sl)) (EP X pins σ Q) X.xe s
theorem pL.or(h:pL X r)(h':pL X r'):pL X (λx lo hi H Q=>r x lo hi H Q\/r' x lo hi H Q):=by
 intro pins s σ H x v a b lo hi c Q I d f g pu q
 rcases q with q|q
 .exact h pins s σ H x v a b lo hi c Q I d f g pu q
 .exact h' pins s σ H x v a b lo hi c Q I d f g pu q
def Tf(r:V->Option Int->Option Int->Hp->VK->Prop)(te:TE)(tl th:TO):TE:=λσ H Q=>te σ H λx H1=>tl σ H1 λl H2=>th σ H2 λu H3=>r x l u H3 Q
theorem DP(f:pL X r)(he:PE X e te)(g:PO X lo tl)(i:PO X hi th):PE X (.Subscript e (.Slice lo hi none p2) pos) (Tf r te tl th):=by
 refine⟨λpins s σ H Q I h=>?_⟩
 refine Subscript_ (bJ (he pins s σ H _ I h) λv s1 ⟨x,H1,j,k,q1⟩=>?_)
 refine wpAny_Slice (bJ (g pins s1 σ H1 _ j q1) λa s2 ⟨l,m,n,o,q2⟩=>bJ (i pins s2 σ m _ n q2) λc s3 ⟨u,d,p,pu,t⟩=>?_)
 rw[evalPart_none]
 refine wpAny_pure ?_
 have y:Inv X pins σ d {s3 with heap:=s3.heap.push {cls:=.type "slice",data:=.fields #[a,c,.none] } }:=p.kept (t':=s3.toks) λb ob q=>Heap.get?_push_of_some _ q
 obtain⟨T,id,z,B,C⟩:=f pins {s3 with heap:=s3.heap.push {cls:=.type "slice",data:=.fields #[a,c,.none] } } σ d x v a c l u s3.heap.objs.size Q y k (Heap.IsSliceOf.new ..) o pu t
 show wpAny (model X.prog X.w) X.A (subscriptTail e (.Slice lo hi none p2) v (.ref s3.heap.objs.size)) (EP X pins σ Q) X.xe {s3 with heap:=s3.heap.push {cls:=.type "slice",data:=.fields #[a,c,.none] } }
 exact tail_any (ops:=[.ref s3.heap.objs.size,v]) B z C (by with_unfolding_all rfl)
def uh(xs:List V)(lo hi:Option Int):List V:=(xs.drop (HT.cJ xs.length 0 lo)).take (HT.cJ xs.length xs.length hi-HT.cJ xs.length 0 lo)
theorem Ti(xs:List V)(lo hi:Option Int):(uh xs lo hi).length<=xs.length:=by
 unfold uh
 rw[List.length_take,List.length_drop]
 omega
def Tj(K:FZ):V->Option Int->Option Int->Hp->VK->Prop:=λx lo hi H Q=>∃a xs,x=.ref a/\fL K H a xs /\
 ¬(HT.cJ xs.length 0 lo=0/\HT.cJ xs.length xs.length hi=xs.length)/\∀p,H p=none->Q (.ref p) (upd H p (.tup (uh xs lo hi)))
theorem aa5:pL X (Tj X.K):=by
 intro pins s σ H x v m n lo hi p Q I i j k pu h
 obtain⟨a,c,rfl,l,hw,q⟩:=h
 cases i
 obtain⟨d,r,f,g⟩:=I.tuple l
 have hlen:d.toArray.size=c.length:=by rw[List.size_toArray]; exact r.length.symm
 refine⟨"tuple",_,PyProof.Rows.slot_tuple_getitem.lookup,f.typeIs,?_⟩
 refine HT.aa4 f j k pu (by rw[hlen]; exact hw) ?_ (by rw[hlen]; exact g)
 rw[hlen]
 refine⟨.ref s.heap.objs.size,_,I.laid (t':=s.toks) (o:=.tup (uh c lo hi)) (λb ob q=>Heap.get?_push_of_some _ q) (Nat.le_refl _) ?_,rfl,q _ (I.hok.fresh (Nat.le_refl _))⟩
 exact⟨Nat.le_trans (Ti c lo hi) g,_,(r.drop (HT.cJ c.length 0 lo)).take (HT.cJ c.length c.length hi-HT.cJ c.length 0 lo),IsTup.new _ _⟩
def Tn(K:FZ):R2:=λx y H Q=>∃a b ns ms,x=.ref a/\y=.ref b/\fL K H a (ns.map V.int)/\fL K H b (ms.map V.int)/\Q (.bl (HT.lexLt ns ms)) H
theorem aa6(f:X.A.units<cLine):dR X (compareOp .Lt) (Tn X.K):=by
 intro pins s σ H x y v u Q I g i h
 obtain⟨a,b,ns,ms,rfl,rfl,j,k,q⟩:=h
 cases g
 cases i
 obtain⟨d,l,m,_⟩:=I.tuple j
 obtain⟨c,n,p2,_⟩:=I.tuple k
 have o:IntsAre d.toArray.toList ns:=intsAre_of l
 have p:IntsAre c.toArray.toList ms:=intsAre_of n
 exact HT.aaX m p2 o p f ⟨.bl (HT.lexLt ns ms),H,I,rfl,q⟩
def Tp(K:FZ):R2:=λx y H Q=>∃a b xs ys,x=.ref a/\y=.ref b/\fL K H a xs/\fL K H b ys/\xs≠[]/\xs.length+ys.length<=sizeLine /\
 (ys=[]->Q (.ref a) H)/\(ys≠[]->∀p,H p=none->Q (.ref p) (upd H p (.tup (xs++ys))))
theorem Vals.JT(r:Vals xs us):us=[]↔xs=[]:=by
 cases r with
 |nil=>simp
 |cons _ _=>simp
theorem aa7:dR X (binaryOp .Add) (Tp X.K):=by
 intro pins s σ H x y v u Q I i j h
 obtain⟨a,b,k,l,rfl,rfl,m,n,p,f,q1,q2⟩:=h
 cases i
 cases j
 obtain⟨r,d,t,_⟩:=I.tuple m
 obtain⟨g,c,p2,_⟩:=I.tuple n
 refine HT.aaY t p2 (λz=>p (d.JT.mp z)) (λz=>⟨.ref a,H,I,rfl,q1 (c.JT.mp z)⟩) (λz=>?_) (by rw[<-d.length,<-c.length]; exact f)
 refine⟨.ref s.heap.objs.size,_,I.laid (t':=s.toks) (o:=.tup (k++l)) (λb ob q=>Heap.get?_push_of_some _ q) (Nat.le_refl _) ?_,rfl,q2 (λw=>z (c.JT.mpr w)) _ (I.hok.fresh (Nat.le_refl _))⟩
 exact⟨by rw[List.length_append]; exact f,_,d.append c,IsTup.new _ _⟩
end
def iD(n:Nat)(i:Int):Option Nat:=if 0<=i then(if i<n then some i.toNat else none)else if -(n:Int)<=i then some (i+n).toNat else none
def gC{α : Type}(xs:List α)(i:Int):Option α := (iD xs.length i).bind λj=>xs[j]?
theorem Tq(h:iD n i=some j):seqIndex? i n=some j/\j<n /\ -(n:Int)<=i/\i<n:=by
 unfold iD at h
 by_cases h0:0<=i
 .rw[if_pos h0]at h
  by_cases a:i<n
  .rw[if_pos a]at h
   have e:i.toNat=j:=Option.some.inj h
   exact⟨by rw[seqIndex_of h0 a,e],by omega,by omega,a⟩
  .rw[if_neg a]at h; cases h
 .rw[if_neg h0]at h
  by_cases a : -(n:Int)<=i
  .rw[if_pos a]at h
   have e:(i+n).toNat=j:=Option.some.inj h
   exact⟨by rw[seqIndex_neg (by omega) a,e],by omega,a,by omega⟩
  .rw[if_neg a]at h; cases h
theorem JV{α : Type}{xs:List α}{i:Int}{v : α}(h:gC xs i=some v):∃j,seqIndex? i xs.length=some j/\xs[j]?=some v/\j<xs.length /\ -(xs.length:Int)<=i/\i<xs.length:=by
 unfold gC at h
 cases e:iD xs.length i with
 |none=>rw[e]at h; cases h
 |some j =>
  rw[e]at h
  obtain⟨a,b,c,d⟩:=Tq e
  exact⟨j,a,h,b,c,d⟩
def Tt(b:Expr):Prop:=∀o i,subscripted b false o i=operate [o,i] (getItem o i)
noncomputable def rK(X:Cx)(r:R2):Prop :=
 ∀(value slice:Expr) (pins:List (Addr × Obj)) (s:Shared) (σ : St) (H:Hp) (x y:V) (v u:Value) (Q:VK),Inv X pins σ H s->RelV x v->RelV y u->r x y H Q ->
  subscripted slice false v u=operate [v,u] (getItem v u)->wpAny (model X.prog X.w) X.A (subscriptTail value slice v u) (EP X pins σ Q) X.xe s
noncomputable def Tw(X:Cx)(id:String)(r:V->List V->Hp->VK->Prop):Prop :=
 ∀(pins:List (Addr × Obj)) (s:Shared) (σ : St) (H:Hp) (x:V) (xs:List V) (v:Value) (us:List Value) (Q:VK),Inv X pins σ H s->RelV x v->Vals xs us->r x xs H Q ->
  wpAny (model X.prog X.w) X.A (call (.builtin id) (v::us)) (EP X pins σ Q) X.xe s
section
variable {X:Cx}{a b:Expr}{ta tb:TE}{pos:Pos}
theorem rK.or(h:rK X r)(h':rK X r'):rK X (λx y H Q=>r x y H Q\/r' x y H Q):=by
 intro value slice pins s σ H x y v u Q I c d q e
 rcases q with q|q
 .exact h value slice pins s σ H x y v u Q I c d q e
 .exact h' value slice pins s σ H x y v u Q I c d q e
theorem jL(c:rK X r)(d:PE X a ta)(e:PE X b tb)(f:Tt b):PE X (.Subscript a b pos) (gU r ta tb):=by
 refine⟨λpins s σ H Q I h=>?_⟩
 exact Subscript_ (JG d e I h λv u s2 x y g i j k q=>c a b pins s2 σ g x y v u Q i j k q (f _ _))
def Tz(K:FZ):R2:=λx y H Q=>∃p xs i v,x=.ref p/\y=.int i/\bH K H p xs/\gC xs i=some v/\Q v H
def TF(K:FZ):R2:=λx y H Q=>∃p xs i v,x=.ref p/\y=.int i/\fL K H p xs/\gC xs i=some v/\Q v H
def TJ:R2:=λx y H Q=>∃z i c,x=.str z/\y=.int i/\z.length<=sizeLine/\gC z.cps.toList i=some c/\Q (.str ⟨#[c]⟩) H
theorem aa8:rK X (Tz X.K):=by
 intro value slice pins s σ H x y v u Q I l m h g
 obtain⟨p,F,i,z,rfl,rfl,n,he,q⟩:=h
 cases l
 obtain⟨t,rfl⟩:=m
 obtain⟨d,r,e,G⟩:=I.list n
 obtain⟨j,c,o,J,A,B⟩:=JV he
 obtain⟨w,k,C⟩:=r.get o
 have D:=r.length
 have L:=vo
 have fin:EP X pins σ Q w s:=⟨z,H,I,C,q⟩
 by_cases h0:0<=i
 .have f:i.toNat=j:=by
   rw[seqIndex_of h0 B]at c
   exact Option.some.inj c
  exact item_listR e.isList h0 (by omega) (by rw[f]; simpa using k) fin g
 .have f:(i+(d.toArray.size:Int)).toNat=j:=by
   rw[seqIndex_neg (by omega) A]at c
   rw[List.size_toArray,<-D]
   exact Option.some.inj c
  exact subscriptTail_builtinR (x:=w) e.isList.typeIs slot_list_getitem.lookup
   (wpAny_getItem_list_neg (Q:=λr E=>r=w/\EP X pins σ Q r E) e.isList (by omega) (by rw[List.size_toArray] <;> omega) (by omega) (by rw[f]; simpa using k) ⟨rfl,fin⟩) g
theorem aa9:rK X (TF X.K):=by
 intro value slice pins s σ H x y v u Q I d e h f
 obtain⟨p,C,i,z,rfl,rfl,g,he,q⟩:=h
 cases d
 obtain⟨t,rfl⟩:=e
 obtain⟨k,r,c,D⟩:=I.tuple g
 obtain⟨j,l,m,E,F,G⟩:=JV he
 obtain⟨w,n,o⟩:=r.get m
 have A:=r.length
 have J:=vo
 have fin:EP X pins σ Q w s:=⟨z,H,I,o,q⟩
 exact subscriptTail_builtinR (x:=w) c.typeIs slot_tuple_getitem.lookup
  (getItem_tuple (j:=j) (Q:=λr B=>r=w/\EP X pins σ Q r B) c (by omega) (by omega) (by rw[List.size_toArray,<-A]; exact l) (by simpa using n) ⟨rfl,fin⟩) f
theorem abb:rK X TJ:=by
 intro value slice pins s σ H x y v u Q I e f h g
 obtain⟨z,i,c,rfl,rfl,r,he,q⟩:=h
 obtain⟨t,rfl⟩:=e
 obtain⟨w,rfl⟩:=f
 obtain⟨j,d,k,A,l,m⟩:=JV he
 have n:z.cps.toList.length=z.length:=by simp[Str.length]
 rw[n]at d l m
 have B:=vo
 exact tail_any (typeIs_str s z t) slot_str_getitem.lookup (getItem_str (c:=c) (by
  have o:decide (i < -(2 ^ 63:Int))=false:=decide_eq_false (by omega)
  have p:decide (i >= 2 ^ 63)=false:=decide_eq_false (by omega)
  rw[o,p,Bool.or_false]) (by rw[d]; simpa using k) ⟨.str ⟨#[c]⟩,H,I.tok _,⟨_,rfl⟩,q⟩) g
def rM(K:FZ):R2:=λx y H Q=>Tz K x y H Q\/TF K x y H Q\/TJ x y H Q
theorem jM:rK X (rM X.K):=aa8.or (aa9.or abb)
theorem abd(its:List Value)(n j:Nat)(u:Value):Obj.mapSeq (·.setIfInBounds j u) {cls:=.type "list",data:=.seq its.toArray n }={cls:=.type "list",data:=.seq (its.set j u).toArray n }:=by
 simp[Obj.mapSeq]
theorem Inv.lst{pins:List (Addr × Obj)}{σ : St}{H:Hp}{s:Shared}{p:Addr}{xs:List V}(I:Inv X pins σ H s)(h:H p=some (.lst xs)) :
  ∃(its:List Value) (n:Nat),Vals xs its/\s.heap.get? p=some {cls:=.type "list",data:=.seq its.toArray n }/\xs.length<=sizeLine:=by
 obtain⟨z,its,n,r,e⟩:=I.hok p _ h
 exact⟨its,n,r,e,z⟩
theorem Inv.abe{pins:List (Addr × Obj)}{σ : St}{H:Hp}{s:Shared}{p:Addr}{xs ys:List V}{its its':List Value}{n c:Nat}{f:Obj->Obj}(I:Inv X pins σ H s)(h:H p=some (.lst xs))
  (d:s.heap.get? p=some {cls:=.type "list",data:=.seq its.toArray n }) (hf:f {cls:=.type "list",data:=.seq its.toArray n }={cls:=.type "list",data:=.seq its'.toArray c }) (r:Vals ys its') (g:ys.length<=sizeLine) (t:Nat) :
  Inv X pins σ (upd H p (.lst ys)) {s with heap:=s.heap.update p f,toks:=t }:=by
 have e:(s.heap.update p f).get? p=some {cls:=.type "list",data:=.seq its'.toArray c }:=by
  rw[Heap.get?_update_self f d (by rw[hf] <;> rfl),hf]
 refine I.write (x:=p) (e:=p) (by rw[h]; trivial) (.inl rfl) (λb u i q=>(Heap.get?_update_other _ _ (Ne.symm i)).trans q) ⟨_,e⟩ ?_
 exact⟨g,its',c,r,e⟩
def TQ:V->V->V->Hp->(Hp->Prop)->Prop:=λo i v H Q=>∃p xs k j,o=.ref p/\i=.int k/\H p=some (.lst xs)/\iD xs.length k=some j/\Q (upd H p (.lst (xs.set j v)))
theorem set_list:R0 X TQ:=by
 intro pins s σ H o i v ov E u Q I y z A h
 obtain⟨p,B,k,j,rfl,rfl,l,C,q⟩:=h
 cases y
 obtain⟨t,rfl⟩:=z
 obtain⟨c,n,r,e,D⟩:=I.lst l
 obtain⟨d,F,m,w⟩:=Tq C
 have f:=r.length
 have G:=vo
 have x:Inv X pins σ (upd H p (.lst (B.set j v))) {s with heap:=s.heap.update p (Obj.mapSeq (·.setIfInBounds j u)) } :=
  I.abe l e (abd c n j u) (r.set A j) (by rw[List.length_set]; exact D) s.toks
 by_cases h0:0<=k
 .have g:k.toNat=j:=by
   rw[seqIndex_of h0 w]at d
   exact Option.some.inj d
  exact PySem.W.ki_setAt e h0 (by omega) (by rw[List.size_toArray,<-f]; exact w) (by rw[g]; exact⟨_,x,q⟩)
 .have g:(k+(c.toArray.size:Int)).toNat=j:=by
   rw[seqIndex_neg (by omega) m]at d
   rw[List.size_toArray,<-f]
   exact Option.some.inj d
  exact PySem.W.ki_setBack e (by omega) (by rw[List.size_toArray,<-f]; exact m) (by omega) (by rw[g]; exact⟨_,x,q⟩)
theorem abf(lo hi:Option Int)(n:Nat):(sliceBounds lo hi none n).1=((HT.cJ n 0 lo:Nat):Int)/\(sliceBounds lo hi none n).2.1=((HT.cJ n n hi:Nat):Int)/\(sliceBounds lo hi none n).2.2=1:=by
 refine⟨?_,?_,rfl⟩
 .cases lo with
  |none=>simp[sliceBounds,HT.cJ]
  |some i =>
   simp only[sliceBounds,HT.cJ,Option.getD_none,show(1:Int) > 0 by decide,if_true]
   by_cases h:i<0
   .simp only[h,if_true] <;> omega
   .simp only[h,if_false] <;> omega
 .cases hi with
  |none=>simp[sliceBounds,HT.cJ]
  |some i =>
   simp only[sliceBounds,HT.cJ,Option.getD_none,show(1:Int) > 0 by decide,if_true]
   by_cases h:i<0
   .simp only[h,if_true] <;> omega
   .simp only[h,if_false] <;> omega
theorem abg(its:List Value)(lo hi:Option Int):slicePick its.toArray lo hi none=((its.drop (HT.cJ its.length 0 lo)).take (HT.cJ its.length its.length hi-HT.cJ its.length 0 lo)).toArray:=by
 obtain⟨c,d,e⟩:=abf lo hi its.toArray.size
 unfold slicePick
 rw[c,d,e]
 simp only[sliceRange_one,pick_run,List.size_toArray] <;> rfl
def TV(K:FZ):V->Option Int->Option Int->Hp->VK->Prop:=λx lo hi H Q=>∃a xs,x=.ref a/\bH K H a xs/\∀p,H p=none->Q (.ref p) (upd H p (.lst (uh xs lo hi)))
theorem abh:pL X (TV X.K):=by
 intro pins s σ H x v l m lo hi n Q I e f g pu h
 obtain⟨a,c,rfl,i,q⟩:=h
 cases e
 obtain⟨j,r,d,k⟩:=I.list i
 have hlen:=r.length
 refine⟨"list",_,slot_list_getitem.lookup,d.isList.typeIs,?_⟩
 refine wpAny_getItem_list_slice d.isList f g pu .none (by simp) ?_ (by rw[List.size_toArray] <;> omega)
 rw[abg,<-hlen]
 refine⟨.ref s.heap.objs.size,_,I.laid (t':=s.toks) (o:=.lst (uh c lo hi)) (λb ob q=>Heap.get?_push_of_some _ q) (Nat.le_refl _) ?_,rfl,q _ (I.hok.fresh (Nat.le_refl _))⟩
 exact⟨Nat.le_trans (Ti c lo hi) k,_,0,(r.drop (HT.cJ c.length 0 lo)).take (HT.cJ c.length c.length hi-HT.cJ c.length 0 lo),Heap.get?_push_size _ rfl⟩
theorem abj:jX X (.builtin "len") (λxs H Q=>∃p ys,xs=[.ref p]/\(bH X.K H p ys\/fL X.K H p ys)/\Q (.int ys.length) H):=by
 intro pins s σ H xs j Q I r h
 obtain⟨p,ys,rfl,c,q⟩:=h
 obtain⟨u,rfl,g⟩:=vals1 r
 cases g
 have k:=vo
 rcases c with c|c
 .obtain⟨d,e,f,i⟩:=I.list c
  have hlen:=e.length
  exact Calls.call_len_list f.isList (by simp only[List.size_toArray] <;> omega) ⟨.int ys.length,H,I.tok _,⟨s.toks+1,by rw[List.size_toArray,hlen]⟩,q⟩
 .obtain⟨d,e,f,i⟩:=I.tuple c
  have hlen:=e.length
  exact len_tuple f (by simp only[List.size_toArray] <;> omega) ⟨.int ys.length,H,I.tok _,⟨s.toks+1,by rw[List.size_toArray,hlen]⟩,q⟩
theorem abk:jX X (.builtin "len") (λxs H Q=>∃z,xs=[.str z]/\z.length<=sizeLine/\Q (.int z.length) H):=by
 intro pins s σ H xs c Q I r h
 obtain⟨z,rfl,d,q⟩:=h
 obtain⟨u,rfl,t,rfl⟩:=vals1 r
 have e:=vo
 exact len_str (by omega) ⟨.int z.length,H,I.tok _,⟨_,rfl⟩,q⟩
theorem jX.or(h:jX X f r)(h':jX X f r'):jX X f (λxs H Q=>r xs H Q\/r' xs H Q):=by
 intro pins s σ H xs c Q I rs q
 rcases q with q|q
 .exact h pins s σ H xs c Q I rs q
 .exact h' pins s σ H xs c Q I rs q
theorem DQ:jX X (.type "list") (λxs H Q=>∃p ys,xs=[.ref p]/\(bH X.K H p ys\/fL X.K H p ys)/\∀l,H l=none->Q (.ref l) (upd H l (.lst ys))):=by
 intro pins s σ H xs y Q I r h
 obtain⟨p,ys,rfl,i,q⟩:=h
 obtain⟨u,rfl,x⟩:=vals1 r
 cases x
 have fin:∀(c:List Value),Vals ys c->ys.length<=sizeLine->∀(d:Heap) (f:Nat),(∀b v,s.heap.get? b=some v->d.get? b=some v) ->
   d.get? s.heap.objs.size=some {cls:=.type "list",dict:=none,data:=.seq c.toArray f,slots:=#[] }->EP X pins σ Q (.ref s.heap.objs.size) {s with heap:=d }:=λc g j d f kp e =>
  ⟨.ref s.heap.objs.size,_,I.laid (t':=s.toks) kp (Nat.le_refl _) (show mZ X.prog X.w _ d _ (.lst ys)from⟨j,c,f,g,e⟩),rfl,q _ (I.hok.fresh (Nat.le_refl _))⟩
 rcases i with i|i
 .obtain⟨c,g,k,j⟩:=I.list i
  have hlen:=g.length
  obtain⟨o,m,t,n,hd⟩:=k.isList
  exact call_list_seq p (.inl rfl) m t hd (λd f kp e=>fin c g j d f kp e) (by simp only[List.size_toArray] <;> omega)
 .obtain⟨c,g,k,j⟩:=I.tuple i
  have hlen:=g.length
  obtain⟨o,m,t,n,hd⟩:=k
  exact call_list_seq p (.inr rfl) m t hd (λd f kp e=>fin c g j d f kp e) (by simp only[List.size_toArray] <;> omega)
noncomputable def JW(K:FZ)(T:String)(x:V)(H:Hp):Prop:=match x with
 |.str _=>T = "str"
 |.int _=>T = "int"
 | .ref p=>(T = "list" ∧ ∃xs,bH K H p xs)∨(T = "tuple" ∧ ∃o,K.lookup p=some o∧o.cls=.type "tuple" ∧ o.dict=none) ∨
   (T = "dict" ∧ ((∃kvs,H p=some (.dK kvs))∨∃kvs,H p=some (.dT kvs)))∨(T = "set" ∧ ∃S n,H p=some (.set S n))
 |_=>False
theorem TY(I:Inv X pins σ H s)(r:RelV x v)(ty:JW X.K T x H) :
  s.TypeIs v T/\∀a,v=.ref a->∃ob,s.heap.get? a=some ob/\ob.dict=none:=by
 cases x with
 |str z =>
  obtain⟨t,rfl⟩:=r
  cases(show T = "str" from ty)
  exact⟨typeIs_str s z t,λ_ e=>nomatch e⟩
 |int i =>
  obtain⟨t,rfl⟩:=r
  cases(show T = "int" from ty)
  exact⟨typeIs_int s i t,λ_ e=>nomatch e⟩
 |ref p =>
  cases r
  rcases ty with⟨rfl,m,j⟩|⟨rfl,o,d,k,hd⟩|⟨rfl,d⟩|⟨rfl,S,n,d⟩
  .obtain⟨l,_,h,_⟩:=I.list j
   refine⟨h.isList.typeIs,λa e=>?_⟩
   cases e
   obtain⟨o,n,e,c,hd,_⟩:=h
   exact⟨o,e,hd⟩
  .refine⟨⟨o,I.mF p o d,k⟩,λa e=>?_⟩
   cases e
   exact⟨o,I.mF _ o d,hd⟩
  .have z:∃o,s.heap.get? p=some o/\o.ExactDict:=by
    rcases d with⟨f,d⟩|⟨f,d⟩
    .obtain⟨_,_,_,_,o,_,_,e,ex,_⟩:=I.hok p _ d
     exact⟨o,e,ex⟩
    .obtain⟨_,_,_,_,o,_,_,e,ex,_⟩:=I.hok p _ d
     exact⟨o,e,ex⟩
   obtain⟨o,e,ex⟩:=z
   refine⟨⟨o,e,ex.1⟩,λa g=>?_⟩
   cases g
   exact⟨o,e,ex.2.1⟩
  .obtain⟨o,_,_,_,e,ex,_⟩:=I.hok p _ d
   refine⟨⟨o,e,ex.1⟩,λa g=>?_⟩
   cases g
   exact⟨o,e,ex.2.1⟩
 |_=>exact False.elim ty
def yN(K:FZ)(T:String)(r:V->List V->Hp->VK->Prop)(to:TE):TE:=λσ H Q=>to σ H λx H1=>JW K T x H1/\r x [] H1 Q
def DW(K:FZ)(T:String)(r:V->List V->Hp->VK->Prop)(to:TE)(t:TA):TE:=λσ H Q=>to σ H λx H1=>JW K T x H1/\t σ H1 λxs H2=>r x xs H2 Q
variable {o e:Expr}{es:List Expr}{to:TE}{t:TA}{name:Str}{apos cpos:Pos}{T id:String}{r:V->List V->Hp->VK->Prop}
theorem T3(j:PlainAttrs T)(slot:Slot T name id)(f:typeOf (.builtin id)=pure (.type "method_descriptor")) (hm:Tw X id r) (k:PE X o to)
  (c:attributeBase o name X.env (eval o X.env)=eval o X.env:=by rfl) (d:(apos.endLine == cpos.line)=true:=by rfl):PE X (.Call (.Attribute o name apos) [] [] cpos) (yN X.K T r to):=by
 refine⟨λpins s σ H Q I h=>?_⟩
 refine wpAny_Call_method0_late c d (bJ (k pins s σ H _ I h) λv s1 ⟨x,H1,g,i,ty,q1⟩=>?_)
 obtain⟨l,m⟩:=TY g i ty
 exact⟨T,id,j,slot,f,l,m,Calls.callWith_builtin rfl (PySem.evalArgs_none (hm pins s1 σ H1 x [] v [] Q g i .nil q1))⟩
theorem m9(m:PlainAttrs T)(slot:Slot T name id)(i:typeOf (.builtin id)=pure (.type "method_descriptor")) (hm:Tw X id r) (n:PE X o to) (p:PA X (e::es) t)
  (d:attributeBase o name X.env (eval o X.env)=eval o X.env:=by rfl)
  (g:((backTo cpos (starEach (e::es) X.env)).all (λx=>!x.1)&&(backToKw cpos (keywordEach [] X.env)).all (λx=>x.1.isSome)
   && decide ((e::es).length+([]:List Keyword).length+(if([]:List Keyword).isEmpty then 0 else 1)<30))=true:=by rfl)
  (f:(apos.endLine == cpos.line)=true:=by rfl) (q:starEach (e::es) X.env=(false,eval e X.env)::starEach es X.env:=by rfl) (c:(backTo cpos (starEach es X.env)).any (·.1)=false:=by rfl) :
  PE X (.Call (.Attribute o name apos) (e::es) [] cpos) (DW X.K T r to t):=by
 refine⟨λpins s σ H Q I h=>?_⟩
 refine wpAny_Call_method_late d g f rfl (bJ (n pins s σ H _ I h) λv s1 ⟨x,H1,j,k,ty,q1⟩=>?_)
 obtain⟨u,w⟩:=TY j k ty
 refine⟨T,id,m,slot,i,u,w,?_⟩
 have l:=p cpos pins s1 σ H1 _ j q1
 rw[q]at l ⊢
 refine Calls.callWith_builtin (by show(false || (backTo cpos (starEach es X.env)).any (·.1))=false; rw[c] <;> rfl) (Calls.evalArgs_plain ?_)
 exact bJ l λy s2 ⟨z,A,B,C,q2⟩=>hm pins s2 σ A x z v y Q B k C q2
end
noncomputable def DX(X:Cx)(id:String)(r:V->List V->Hp->VK->Prop):Prop :=
 ∀(pins:List (Addr × Obj)) (s:Shared) (σ : St) (H:Hp) (x:V) (xs:List V) (v:Value) (us:List Value) (Q:VK),Inv X pins σ H s->RelV x v->Vals xs us->r x xs H Q ->
  wpAny (model X.prog X.w) X.A (call (.builtin id) (v::us)) (EP X pins σ Q) X.xe s
theorem Vals.one:∀{x:V} {us:List Value},Vals [x] us->∃u,us=[u]/\RelV x u
 |_,_,.cons r .nil=>⟨_,rfl,r⟩
theorem Vals.zero:∀{us:List Value},Vals [] us->us=[]
 |_,.nil=>rfl
theorem Vals.reverse{xs:List V}{us:List Value}(h:Vals xs us):Vals xs.reverse us.reverse:=by
 induction h with
 |nil=>exact .nil
 |cons r t a=>rw[List.reverse_cons,List.reverse_cons]; exact Vals.append a (.cons r .nil)
theorem Vals.rep(h:Vals xs us):∀k:Nat,Vals (List.replicate k xs).flatten (List.replicate k us).flatten
 | 0=>.nil
 |k+1=>by
  rw[List.replicate_succ,List.replicate_succ,List.flatten_cons,List.flatten_cons]
  exact Vals.append h (Vals.rep h k)
theorem foldl_rep(its:List Value):∀(k:Nat) (acc:List Value),
  List.foldl (λa b=>a++b) acc.toArray (List.replicate k its.toArray)=(acc++(List.replicate k its).flatten).toArray
 | 0,acc=>by simp
 |k+1,acc=>by
  have e:acc.toArray++its.toArray=(acc++its).toArray:=by simp
  have c:(acc++its)++(List.replicate k its).flatten=acc++(List.replicate (k+1) its).flatten:=by
   rw[List.replicate_succ,List.flatten_cons,List.append_assoc]
  rw[<-c,<-foldl_rep its k (acc++its),<-e,List.replicate_succ,List.foldl_cons]
section
variable {X:Cx}{pins:List (Addr × Obj)}{σ : St}{H:Hp}{s:Shared}{l b:Addr}{xs ys zs:List V}
theorem Inv.DY{its its':List Value}{n:Nat}{f:Array Value->Array Value}{t':Nat}(I:Inv X pins σ H s)(a:H l=some (.lst xs))
  (e:s.heap.get? l=some {cls:=.type "list",data:=.seq its.toArray n }) (hf:f its.toArray=its'.toArray) (c:Vals ys its') (d:ys.length<=sizeLine) :
  Inv X pins σ (upd H l (.lst ys)) {s with heap:=s.heap.update l (Obj.mapSeq f),toks:=t' }:=by
 have q:=PySem.IsL.update e f
 rw[hf]at q
 refine I.write (x:=l) (e:=l) (by rw[a]; exact trivial) (.inl rfl) (λi u g h=>(Heap.get?_update_other s.heap (Obj.mapSeq f) (Ne.symm g)).trans h) ⟨_,q⟩ ?_
 exact⟨d,its',_,c,q⟩
theorem Inv.Ea(I:Inv X pins σ H s)(a:Vals ys its)(c:ys.length<=sizeLine) :
  Inv X pins σ (upd H s.heap.objs.size (.lst ys)) {s with heap:=s.heap.push {cls:=.type "list",data:=.seq its.toArray },toks:=t' } :=
 I.laid (λ_ _ q=>Heap.get?_push_of_some _ q) (Nat.le_refl _) ⟨c,its,0,a,Heap.get?_push_size _ rfl⟩
theorem Inv.fresh(I:Inv X pins σ H s):H s.heap.objs.size=none:=I.hok.fresh (Nat.le_refl _)
theorem Inv.Eb(I:Inv X pins σ H s)(a:H l=some (.lst xs)):xs.length<=sizeLine/\∃(its:List Value) (n:Nat),Vals xs its/\xs.length=its.length/\s.heap.get? l=some {cls:=.type "list",data:=.seq its.toArray n }:=by
 obtain⟨z,its,n,r,e⟩:=I.hok l _ a
 exact⟨z,its,n,r,r.length,e⟩
theorem abl{n:Nat}(h:n<=sizeLine):Builtin.List.listTooLong n=false:=by
 unfold Builtin.List.listTooLong
 exact decide_eq_false (by omega)
end
section
variable {X:Cx}
def JX:V->List V->Hp->VK->Prop:=λx vs H Q=>∃l xs y,x=.ref l/\vs=[y]/\H l=some (.lst xs)/\xs.length<sizeLine/\Q .non (upd H l (.lst (xs++[y])))
theorem nu:DX X "list.append" JX:=by
 intro pins s σ H x g v i Q I c d h
 obtain⟨l,j,y,rfl,rfl,b,k,q⟩:=h
 cases c
 obtain⟨u,rfl,f⟩:=d.one
 obtain⟨z,a,n,r,m,e⟩:=I.Eb b
 refine call_meets F.slot_list_append ⟨_,e,rfl⟩ F.entry_list_append (F.args_list_append_2 _ _) (PySem.list_append l a.toArray n u (by rw[List.size_toArray]; omega)) ⟨e,?_⟩
 refine⟨.non,_,I.DY (its':=a++[u]) b e (by simp) (r.append (.cons f .nil)) ?_,rfl,q⟩
 rw[List.length_append,List.length_singleton]
 omega
def JZ:V->List V->Hp->VK->Prop:=λx vs H Q=>∃l xs,x=.ref l/\vs=[]/\H l=some (.lst xs)/\Q .non (upd H l (.lst xs.reverse))
theorem abm:DX X "list.reverse" JZ:=by
 intro pins s σ H x g v i Q I d f h
 obtain⟨l,j,rfl,rfl,c,q⟩:=h
 cases d
 have b:=f.zero
 subst b
 obtain⟨z,a,n,r,k,e⟩:=I.Eb c
 refine call_meets F.slot_list_reverse ⟨_,e,rfl⟩ F.entry_list_reverse (F.args_list_reverse_1 _) (AutoSeq1.list_reverse_list_0 l a.toArray n (by rw[List.size_toArray]; omega)) ⟨e,?_⟩
 refine⟨.non,_,I.DY (its':=a.reverse) c e (by simp) r.reverse ?_,rfl,q⟩
 rw[List.length_reverse]
 omega
def J0:V->List V->Hp->VK->Prop:=λx vs H Q=>∃l xs,x=.ref l/\vs=[]/\H l=some (.lst xs)/\Q .non (upd H l (.lst []))
theorem abn:DX X "list.clear" J0:=by
 intro pins s σ H x g v i Q I d f h
 obtain⟨l,j,rfl,rfl,c,q⟩:=h
 cases d
 have a:=f.zero
 subst a
 obtain⟨z,b,n,r,k,e⟩:=I.Eb c
 refine call_meets F.slot_list_clear ⟨_,e,rfl⟩ F.entry_list_clear (F.args_list_clear_1 _) (AutoSeq1.list_clear_list_0 l b.toArray n (by rw[List.size_toArray]; omega)) ⟨e,?_⟩
 exact⟨.non,_,I.DY (its':=[]) (ys:=[]) c e rfl .nil (Nat.zero_le _),rfl,q⟩
theorem len_rep{α : Type}(xs:List α)(k:Nat):(List.replicate k xs).flatten.length=k*xs.length:=by
 induction k with
 |zero=>simp
 |succ k a=>rw[List.replicate_succ,List.flatten_cons,List.length_append,a,Nat.succ_mul,Nat.add_comm]
end
end L2
namespace T4
open PySem PySem.W PySem.Calls PyProof.Rows
theorem abo:∀(ns:List Int) (vs:List Value),WellAll P h vs (ns.map WData.int)->IntsAre vs ns:=by
 intro ns
 induction ns with
 |nil =>
  intro vs w
  rw[List.map_nil]at w
  cases w
  exact .nil
 |cons n ns c =>
  intro vs w
  rw[List.map_cons]at w
  cases w with
  |cons a b =>
   cases a
   exact .cons _ _ (c _ b)
theorem abp{l:OpenLaw}{n:Nat}(k:l.most=some n){P:Params}{h:Heap}{args:List WData}{vals:List Value}
  (b:l.row.toRowW.claim.pre args=true) (g:WellAll P h vals args) :
  ∃a vs ns,vals=[Value.ref a]/\args=[WData.list (ns.map WData.int)]/\h.get? a=some {cls:=.type "list",data:=.seq vs.toArray }/\IntsAre vs ns/\ns.length<=n:=by
 have i:WShape.hasAll [] args [.list .int]=true:=(pre_splitW b).1
 have j:l.pre.holds [] {args:=args }=true:=(pre_splitW b).2
 obtain⟨d,r,rfl,m,o⟩:=hasAllW_cons i
 obtain rfl:=hasAllW_nil o
 obtain⟨w,rfl,p⟩:=hasW_list m
 obtain⟨ns,rfl⟩:=items_int p
 have hlen:ns.length<=n:=by
  unfold OpenLaw.pre at j
  have e:(WTm.not (.lt (.lit (.int (n:Int))) (.len (.arg 0)))).holds [] {args:=[.list (ns.map .int)] }=true:=by
   have e:=(holds_andW j).1
   rw[k]at e
   exact e
  have f:=condW_of e (w_not (w_lt w_lit (w_len_list (w_arg rfl))))
  rw[List.length_map]at f
  refine Nat.le_of_not_lt λq=>?_
  have s:(n:Int)<((ns.length:Nat):Int):=by omega
  first
   |(rw[decide_eq_true s]at f; exact absurd f (by decide))
   |(simp at f; omega)
 cases g with
 |cons t u =>
  cases u
  cases t with
  |list v c=>exact⟨_,_,ns,rfl,rfl,v,abo ns _ c,hlen⟩
theorem abq(l:OpenLaw)(args:List WData):l.row.toRowW.claim.post args (.bool true) args=true :=
 postW_of (r:=l.row.toRowW) (X:=(true == true))
  (show WShape.has [] (.bool true) .bool=true by first|rfl|decide|simp[WShape.has,WShape.arms,WShape.armsAll])
  (show(WTm.eq .res (.lit (.bool true))).value [] {args:=args,res:=some (.bool true),after:=args }=some (.bool (true == true))from w_eq_bool (w_res rfl) w_lit) rfl
theorem abr{l:OpenLaw}{n:Nat}{q:Program}{loose:List Str}{XP:(Str->Option Value)->Heap->Prop}{u:World->Heap->Prop}{d:DefRec}
  (v:l.most=some n) (i:d.params.defaults=[])
  (call:∀(w:World) (s₀ b : Shared) (mg j:Str->Option Value) (c:Addr) (o:Obj) (pm cd doc:Value) (a:Addr) (vs:List Value) (ns:List Int),
   Ground q loose [] XP w s₀ mg j b.heap->u w b.heap ->
   b.heap.get? c=some o->o.data=.func (docDef d.name d.params d.body d.scope pm cd doc)->b.heap.CodeRec cd d.name->mg d.name=some (.ref c) ->
   b.heap.get? a=some {cls:=.type "list",data:=.seq vs.toArray }->IntsAre vs ns->ns.length<=n->b.gens = #[] ->
   codeAny (model l.prog w) callerA (.call (.ref c) ⟨[.ref a],[]⟩) (λr h=>r=.ok (.ret (.bool true))/\OldK b.heap h.heap/\h.os=b.os/\AllBare h.gens) b) :
  WalkO q loose XP u l.row.toRowW d [] (λf vs=>PySem.call f vs):=by
 intro w s₀ b mg j G Y c o pm cd doc x kV y hd k s m z args vals as e t A p B
 obtain rfl:x=.none:=Dflts.none s i
 obtain rfl:kV=.none:=Dflts.noKw s
 obtain⟨a,vs,ns,rfl,rfl,g,hints,hlen⟩:=abp v e p
 refine enter_call (codeAny_mono (call w s₀ b mg j c o pm cd doc a vs ns G Y y (fd_plain hd) k m g hints hlen z) λr h C=>?_)
 obtain⟨rfl,D,E,F⟩:=C
 exact⟨.inl ⟨.bool true,.bool true,[],rfl,λ_=>rfl,.bool true,abq l _,λ_=>⟨List.Pairwise.nil,λ_ hm=>(nomatch hm)⟩⟩,D,E,F⟩
end T4
namespace L2
open PySem PySem.Spec PyProof.Rows
theorem T5:∀{vs:List Value} {ns:List Int},IntsAre vs ns->Vals (ns.map V.int) vs
 |_,_,.nil=>.nil
 |_,_,.cons n t h=>.cons ⟨t,rfl⟩ (T5 h)
def pN(s:Stmt):Arguments:=match s with
 |.FunctionDef _ a _ _ _ _ _ _ _ _=>a
 |_=>{posonlyargs:=[],args:=[],vararg:=none,kwonlyargs:=[],kw_defaults:=[],kwarg:=none,defaults:=[] }
def jY(s:Stmt):List Stmt:=match s with
 |.FunctionDef _ _ b _ _ _ _ _ _ _=>b
 |_=>[]
def bC(s:Stmt):Scope:=match s with
 |.FunctionDef _ _ _ _ _ _ sc _ _ _=>sc
 |_=>{kind:=.function,names:=[],isGenerator:=false,isCoroutine:=false }
abbrev E0:XK:=λ_ _ _=>False
structure vp(K:FZ)(x qual:Str)(st:Stmt)(f:Addr)(fd:FuncData):Prop where
 ex:∃(oc:Value) (od:Option Addr) (kV doc pm:Value) (an:Option Addr) (cdv ct:Value) (osl:Array (Option Value)),
  fd=PySem.W.fnOf x qual (pN st) (jY st) (bC st) .none kV doc pm an cdv ct/\K.lookup f=some ⟨oc,od,.func fd,osl⟩/\PySem.W.codeIn K cdv qual=true
 kp:PySem.W.keepIn K (.ref f)=true
section
variable {P:Program}{w:World}{K:FZ}{mg:Str->Option Value}{base:Heap}
theorem vp.binds{x qual:Str}{st:Stmt}{f:Addr}{fd:FuncData}{b:List Str}(F:vp K x qual st f fd)
  (h:∀(kV doc pm:Value) (an:Option Addr) (a ct:Value) (us:List Value),us.length=b.length->bindArgs (PySem.W.fnOf x qual (pN st) (jY st) (bC st) .none kV doc pm an a ct) ⟨us,[]⟩=pure (b.zip us)):Binds K fd b []:=by
 obtain⟨e,od,kV,doc,pm,an,a,ct,c,rfl,lk,d⟩:=F.ex
 exact .all (h kV doc pm an a ct)
theorem T6{x qual:Str}{st:Stmt}{f:Addr}{d:Value}{od an:Option Addr}{b:Array (Option Value)}{kV doc pm a ct:Value}(l:K.lookup f=some ⟨d,od,.func (PySem.W.fnOf x qual (pN st) (jY st) (bC st) .none kV doc pm an a ct),b⟩)
  (c:PySem.W.codeIn K a qual=true) (k:PySem.W.keepIn K (.ref f)=true):vp K x qual st f (PySem.W.fnOf x qual (pN st) (jY st) (bC st) .none kV doc pm an a ct):=⟨⟨d,od,kV,doc,pm,an,a,ct,b,rfl,l,c⟩,k⟩
end
theorem J1(h:n<=1000):n<sizeLine:=Nat.lt_of_le_of_lt h (by decide)
def Same(H H':Hp):Prop:=∀b o,H b=some o->H' b=some o
theorem Same.refl(H:Hp):Same H H:=λ_ _ h=>h
theorem Same.trans(a:Same H H1)(b:Same H1 H2):Same H H2:=λc o h=>b c o (a c o h)
theorem Same.free{H a:Hp}(e:Same H a){l:Addr}(h:a l=Option.none):H l=Option.none:=by
 cases q:H l with
 |none=>rfl
 |some o =>
  rw[e l o q]at h
  cases h
theorem Same.seq{K:FZ}{H b:Hp}{a:Addr}{xs:List V}(e:Same H b)(h:bH K H a xs):bH K b a xs:=by
 rcases h with(h|⟨o,h⟩)|h
 .exact .inl (.inl (e _ _ h))
 .exact .inl (.inr ⟨o,e _ _ h⟩)
 .exact .inr h
section
variable {prog:Program}{w:World}{A:Around}{R:Result->Shared->Prop}{s:Shared}
theorem abt(I:Nat->Shared->Prop)
  (turn:∀n s,I n s->wpAny (model prog w) A (pyNext it) (λr a=>match r with
   |none=>R (.ok .next) a
   | some v=>wpAny (model prog w) A (letOwnedTupleGo target it v) (λ_ b=>wpAny (model prog w) A (assign target env v) (λ_ d => wpAny (model prog w) A (eval elt env) (λx e =>
     wpAny (model prog w) A (call (.builtin "list.append") [acc,x]) (λ_ f=>∃m,m<n/\I m f) (λ_ _=>False) e) (λ_ _=>False) d) (λ_ _=>False) b) (λ_ _=>False) a) (λ_ _=>False) s)
  (n:Nat) (h:I n s) :
  codeAny (model prog w) A (.compLoop (.ListComp elt [⟨target,iter,[],0⟩] scope pos) 0 it acc env) R s:=by
 refine codeAny_loop rfl I (λn s o=>?_) n h
 refine wpAny_noted (wpAny_noRaise ?_)
 rw[compTurn_list1]
 refine wpAny_bind (wpAny_standAt (wpAny_bind (wpAny_mono (turn n s o) (λr a g=>?_) λ_ _ c=>c)))
 cases r with
 |none=>exact wpAny_pure g
 |some v =>
  refine wpAny_bind (wpAny_mono g (λ_ b i=>?_) λ_ _ c=>c)
  exact wpAny_bind (wpAny_mono i (λ_ d j=>wpAny_bind (wpAny_bind (wpAny_mono j (λx e k=>wpAny_bind (wpAny_mono k
   (λ_ f l=>wpAny_pure (wpAny_pure ⟨rfl,l⟩)) λ_ _ c=>c)) λ_ _ c=>c))) λ_ _ c=>c)
end
def fW(cells:List (Str × Addr)):List (Str × NameKind)->List (Str × Addr)->List (Str × Addr)
 | [],acc=>acc
 |(n,k)::r,acc=>if k=.free then(match cells.lookup n with|some a=>fW cells r ((n,a)::acc)|none=>fW cells r acc)else fW cells r acc
theorem um:∀{names:List (Str × NameKind)} {acc:List (Str × Addr)},(fW cells names acc).lookup x=some c->acc.lookup x=some c\/cells.lookup x=some c
 | [],acc,h=>.inl h
 |(n,k)::r,acc,h=>by
  unfold fW at h
  split at h
  .split at h
   .rename_i a b
    rcases um h with q|q
    .by_cases e:x=n
     .subst e
      rw[List.lookup_cons,beq_self_eq_true]at q
      cases q
      exact .inr b
     .rw[List.lookup_cons,beq_false_of_ne e]at q
      exact .inl q
    .exact .inr q
   .exact um h
  .exact um h
theorem vq:∀{names:List (Str × NameKind)} {acc:List (Str × Addr)},((acc.lookup x).isSome=true\/((x,NameKind.free)∈names/\(cells.lookup x).isSome=true))->((fW cells names acc).lookup x).isSome=true
 | [],acc,h=>by
  rcases h with h|⟨h,_⟩
  .exact h
  .cases h
 |(n,k)::r,acc,h=>by
  have up:∀a,(acc.lookup x).isSome=true->(List.lookup x ((n,a)::acc)).isSome=true:=λa q=>by
   rw[List.lookup_cons]
   split
   .rfl
   .exact q
  unfold fW
  split
  .rename_i c
   split
   .rename_i a f
    refine vq ?_
    rcases h with h|⟨h,b⟩
    .exact .inl (up a h)
    .rcases List.mem_cons.mp h with e|e
     .cases e
      refine .inl ?_
      rw[List.lookup_cons,beq_self_eq_true]
      rfl
     .exact .inr ⟨e,b⟩
   .rename_i d
    refine vq ?_
    rcases h with h|⟨h,b⟩
    .exact .inl h
    .rcases List.mem_cons.mp h with e|e
     .cases e
      rw[d]at b; cases b
     .exact .inr ⟨e,b⟩
  .rename_i c
   refine vq ?_
   rcases h with h|⟨h,b⟩
   .exact .inl h
   .rcases List.mem_cons.mp h with e|e
    .cases e; exact absurd rfl c
    .exact .inr ⟨e,b⟩
theorem Ec(h:∀y∈scope.names,y.2=.free->(env.cells.lookup y.1).isSome=true):closureFor scope env=pure (fW env.cells scope.names []):=by
 suffices q:∀(names:List (Str × NameKind)) (acc:List (Str × Addr)),(∀y∈names,y.2=.free->(env.cells.lookup y.1).isSome=true) ->
   (forIn names acc λx r=>do
    match x with
    |(name,kind)=>if(kind == NameKind.free)=true then do let a <-cellOf env name; pure (ForInStep.yield ((name,a)::r))else pure (ForInStep.yield r):Sem _)=pure (fW env.cells names acc) by
  have z:=q scope.names [] h
  exact(congrArg (λm=>m >>= λcs=>pure cs) z)
 intro names
 induction names with
 |nil=>intro acc _; rfl
 |cons y r f =>
  intro acc b
  obtain⟨n,k⟩:=y
  rw[List.forIn_cons]
  unfold fW
  by_cases c:k=.free
  .subst c
   have q:=b (n,.free) List.mem_cons_self rfl
   cases e:env.cells.lookup n with
   |none=>rw[e]at q; cases q
   |some a =>
    have g:cellOf env n=pure a:=by unfold cellOf; rw[e]
    simp only[g]
    exact f _ λz d=>b z (List.mem_cons_of_mem _ d)
  .rw[if_neg c]
   have i:(k == NameKind.free)=false:=by simpa using c
   simp only[i]
   exact f _ λz d=>b z (List.mem_cons_of_mem _ d)
theorem T7{env:Env}:∀{names:List (Str × NameKind)} {x:Str},names.lookup x=some .free ->
  (names.map λ(n,k)=>if(k == NameKind.free&&env.scope.kind == .function&&env.kindOf n == some .cell)then(n,NameKind.cell)else(n,k)).lookup x=some .cell \/
  (names.map λ(n,k)=>if(k == NameKind.free&&env.scope.kind == .function&&env.kindOf n == some .cell)then(n,NameKind.cell)else(n,k)).lookup x=some .free
 | [],_,h=>by simp at h
 |(n,k)::r,x,h=>by
  have c:=@T7 env r x
  rw[List.map_cons]
  dsimp only
  cases a:x == n with
  |true =>
   simp only[List.lookup_cons,a]at h
   cases h
   by_cases b:(NameKind.free == NameKind.free&&env.scope.kind == .function&&env.kindOf n == some .cell)=true
   .rw[if_pos b]; simp[List.lookup_cons,a]
   .rw[if_neg b]; simp[List.lookup_cons,a]
  |false =>
   simp only[List.lookup_cons,a]at h
   by_cases b:(k == NameKind.free&&env.scope.kind == .function&&env.kindOf n == some .cell)=true
   .rw[if_pos b]; simp only[List.lookup_cons,a]; exact c h
   .rw[if_neg b]; simp only[List.lookup_cons,a]; exact c h
theorem T8{env:Env}:∀{names:List (Str × NameKind)} {x:Str},
  ((names.map λ(n,k)=>if(k == NameKind.free&&env.scope.kind == .function&&env.kindOf n == some .cell)then(n,NameKind.cell)else(n,k)).lookup x=some .cell \/
  (names.map λ(n,k)=>if(k == NameKind.free&&env.scope.kind == .function&&env.kindOf n == some .cell)then(n,NameKind.cell)else(n,k)).lookup x=some .free)->names.lookup x=some .cell\/names.lookup x=some .free
 | [],_,h=>by simp at h
 |(n,k)::r,x,h=>by
  have c:=@T8 env r x
  rw[List.map_cons]at h
  dsimp only at h
  cases b:x == n with
  |true =>
   by_cases a:(k == NameKind.free&&env.scope.kind == .function&&env.kindOf n == some .cell)=true
   .have d:k=.free:=by
     simp only[Bool.and_eq_true,beq_iff_eq]at a
     exact a.1.1
    subst d
    exact .inr (by simp only[List.lookup_cons,b])
   .rw[if_neg a]at h
    simp only[List.lookup_cons,b]at h ⊢
    exact h
  |false =>
   have q:=c (by
    by_cases a:(k == NameKind.free&&env.scope.kind == .function&&env.kindOf n == some .cell)=true
    .rw[if_pos a]at h; simp only[List.lookup_cons,b]at h; exact h
    .rw[if_neg a]at h; simp only[List.lookup_cons,b]at h; exact h)
   simp only[List.lookup_cons,b]
   exact q
theorem rN:∀(names:List (Str × NameKind)) (n:Nat) (acc:List (Str × Addr)),cellsFrom n names acc=cellsFrom n names []++acc
 | [],_,_=>rfl
 |(x,k)::r,n,acc=>by
  unfold cellsFrom
  split
  .rw[rN r (n+1) ((x,n)::acc),rN r (n+1) [(x,n)],List.append_assoc]
   rfl
  .exact rN r n acc
theorem J2:∀(names:List (Str × NameKind)) (n:Nat) {x:Str} {c:Addr},(x,c)∈cellsFrom n names []->(x,NameKind.cell)∈names
 | [],_,_,_,h=>by cases h
 |(y,k)::r,n,x,c,h=>by
  unfold cellsFrom at h
  split at h
  .rename_i a
   have a:k=.cell:=by simpa using a
   rw[rN]at h
   rcases List.mem_append.mp h with z|z
   .exact List.mem_cons_of_mem _ (J2 r _ z)
   .have z:=List.mem_singleton.mp z
    cases z
    rw[a]
    exact List.mem_cons_self
  .exact List.mem_cons_of_mem _ (J2 r _ h)
theorem wZ(x:Str):∀(a b:List (Str × Addr)),(a++b).lookup x=(match a.lookup x with|some c=>some c|none=>b.lookup x)
 | [],_=>rfl
 |(y,c)::r,b=>by
  have d:=wZ x r b
  rw[List.cons_append,List.lookup_cons,List.lookup_cons]
  cases h:x == y with
  |true=>rfl
  |false=>exact d
theorem T9
  (c:∀h',h'.Ns s.heap.objs.size (λ_=>none)->(∀b o,s.heap.get? b=some o->h'.get? b=some o)->CellsOk h' (s.heap.objs.size+1) (cellsFrom (s.heap.objs.size+1) scope.names []) ->
   Q {scope:=scope,locals:=s.heap.objs.size,globals:=globals,cells:=cellsFrom (s.heap.objs.size+1) scope.names cl,qual:=qual,func:=none,code:=env.code,frame:=env.frame,builtins:=env.builtins } {s with heap:=h',toks:=s.toks+([]:List (Str × Value)).length }) :
  wpAny M A (newFunctionEnv scope globals cl [] qual none .none (some env)) Q E s:=by
 simp only[newFunctionEnv,Option.isSome_some,if_true]
 refine wpAny_bind (wpAny_alloc ?_)
 refine wpAny_bind (wpAny_layCells _ (λname kind cells=>by cases a:kind == NameKind.cell <;> simp[a]) _ _ _ _ ?_)
 have ok:=cellsFrom_ok scope.names (s.heap.push {cls:=.type "dict",data:=.dict #[] }) (s.heap.objs.size+1) [] ⟨λ_ _ hm=>(nomatch hm),List.Pairwise.nil⟩ (by rw[Heap.size_push]; exact Nat.le_refl _)
 rw[Heap.size_push]at ok
 rw[show({s with heap:=s.heap.push {cls:=.type "dict",data:=.dict #[] } }:Shared).heap.objs.size=s.heap.objs.size+1 from Heap.size_push ..]
 exact wpAny_bind (wpAny_pure (wpAny_pure (c _ ((Heap.Ns.new s.heap (.type "dict")).keeps (pushCells_keeps _ _)) (λb o e=>pushCells_keeps _ _ b o (Heap.get?_push_of_some _ e)) ok)))
structure vA(sc:Scope)(No N:List Str)(src:List (Option Nat))(scope:Scope):Prop where
 kind:scope.kind=.function
 cells:∀y∈scope.names,y.2=.cell->scope.names.lookup y.1=some .cell
 names:∀y∈scope.names,y.2=.local->scope.names.lookup y.1=some .local
 free:∀y∈scope.names,y.2=.free->sc.names.lookup y.1=some .cell\/sc.names.lookup y.1=some .free
 len:src.length=N.length
 up:∀p∈N.zip src,∀j∈p.2,No[j]?=some p.1/\scope.names.lookup p.1=some .free
def gh(src:List (Option Nat))(σ : St):St:=src.map λo=>o.bind λj=>(σ[j]?).join
noncomputable def iy(X:Cx)(N:List Str)(scope:Scope)(C:Addr)(s:Shared)(H:Hp)(ex:List Addr):Cx where
 prog:=X.prog
 w:=X.w
 K:=X.K
 mg:=X.mg
 base:=X.base
 A:=X.A
 N:=N
 s₀ := s
 H₀ := H
 env:=compEnvC scope (cellsFrom (C+1) scope.names (fW X.env.cells scope.names [])) C X.env
 outer:=X.stack
 stack:=X.stack
 ex:=ex
 fn:=λx=>scope.names.lookup x == some .cell
 calm:=X.calm
 pn:=[]
 xe:=λ_ _=>False
def Ua(Q:VK)(D:Addr)(H:Hp):Prop:=Q (.ref D) H
noncomputable def uo(wi:TI)(g:TG)(src:List (Option Nat))(te:TE):TE:=λσ H Q=>wi σ H λJ H1=>∀D,H1 D=none ->
 ∃W:Nat->Nat->St->Hp->Prop,(∃m,W 0 m (gh src σ) (upd H1 D (.lst [])))/\∀i m σ' H',W i m σ' H' ->
  (J.stop i H'/\Ua Q D H')\/(J.go i H'/\∀x gj,J.oR i H' x gj->g x σ' gj λσ2 H2=>te σ2 H2 λv H3=>∃xs,H3 D=some (.lst xs)/\xs.length<sizeLine/\∃m',m'<m/\W (i+1) m' σ2 (upd H3 D (.lst (xs++[v]))))
section
variable {X:Cx}{elt tg iter:Expr}{scope sc:Scope}{pos:Pos}{No N:List Str}{src:List (Option Nat)}{wi:TI}{g:TG}{te:TE}
theorem Ub{pins:List (Addr × Obj)}{σ : St}{H:Hp}{s:Shared}{a : Heap}{F:List Addr}{tk:Nat}(G:X.env.scope=sc)(Y:X.N=No)(S:vA sc No N src scope)(I:Inv X pins σ H s)
  (hf:∀b∈F,gH X pins H b) (A:∀b∈F,b<s.heap.objs.size)
  (J:a.Ns s.heap.objs.size (λ_=>none)) (old:∀b o,s.heap.get? b=some o->a.get? b=some o) (L:CellsOk a (s.heap.objs.size+1) (cellsFrom (s.heap.objs.size+1) scope.names [])) :
  Inv (iy X N scope s.heap.objs.size s H F) [] (gh src σ) H {s with heap:=a,toks:=tk }:=by
 subst G
 subst Y
 have w:∀x c,(cellsFrom (s.heap.objs.size+1) scope.names (fW X.env.cells scope.names [])).lookup x=some c->(cellsFrom (s.heap.objs.size+1) scope.names []).lookup x=some c\/X.env.cells.lookup x=some c:=λx c h=>by
  rw[rN,wZ]at h
  split at h
  .rename_i e
   exact .inl (e.trans h)
  .rcases um h with q|q
   .simp at q
   .exact .inr q
 have big:=λx c h=>(L.empty x c (PySem.mem_of_lookup h)).2
 have R:∀x c,X.env.cells.lookup x=some c->c<s.heap.objs.size:=λx c e=>by
  obtain⟨v,q⟩:=I.cell x c e
  exact q.lt
 have Z:∀b∈frs X.stack,b<s.heap.objs.size:=λb d=>by
  obtain⟨_,o,B,_⟩:=I.stack.mem d
  exact Heap.lt_size B
 refine⟨⟨I.ok.mod,S.kind,I.ok.glob,I.ok.blt,Nat.le_refl _,λx y c K l=>?_,λx hx=>?_,λx c n h=>?_,I.ok.hd,I.ok.frames,.inl rfl,λb d=>⟨Nat.ne_of_lt (A b d),λx c e=>?_⟩,
   I.bs,Nat.le_trans I.ok.tW I.sz,λb o e d=>?_,λb d M=>?_,I.stack,I.Df⟩,
  rfl,I.bare,Un.kept old,⟨_,J,λi x v K l h3=>?_⟩,λx c e=>?_,I.hok.fresh (Nat.le_refl _),λx c e=>?_,λp hp=>absurd (show p∈([]:List (Addr × Obj))from hp) (by simp),I.hok.kept old,?_⟩
 .rcases w _ _ K with C|C
  .rcases w _ _ l with t|t
   .exact name_of_addr L.apart (PySem.mem_of_lookup C) (PySem.mem_of_lookup t)
   .exact absurd (Nat.le_trans (big _ _ C) (Nat.le_of_lt (R _ _ t))) (Nat.not_succ_le_self _)
  .rcases w _ _ l with t|t
   .exact absurd (Nat.le_trans (big _ _ t) (Nat.le_of_lt (R _ _ C))) (Nat.not_succ_le_self _)
   .exact I.ok.inj x y c C t
 ·-- every cell or free name has its cell
  rcases T8 hx with m|m
  .exact Option.isSome_iff_exists.mp (PySem.W.cellsFrom_some _ _ _ (.inl m))
  .have m:=PySem.mem_of_lookup m
   have q:=vq (cells:=X.env.cells) (acc:=[]) (.inr ⟨m,by
    obtain⟨c,e⟩:=I.ok.has x (S.free _ m rfl)
    rw[e]; rfl⟩)
   exact Option.isSome_iff_exists.mp (PySem.W.cellsFrom_some _ _ _ (.inr q))
 .have n:scope.names.lookup x=some .cell:=by
   have z:(scope.names.lookup x == some .cell)=true:=n
   simpa using z
  obtain⟨T,D⟩:=Option.isSome_iff_exists.mp (PySem.W.cellsFrom_some _ (s.heap.objs.size+1) [] (.inl n))
  have h:(cellsFrom (s.heap.objs.size+1) scope.names (fW X.env.cells scope.names [])).lookup x=some c:=h
  rw[rN,wZ,D]at h
  cases h
  exact Nat.le_of_succ_le (big _ _ D)
 .rcases w _ _ e with z|z
  .exact λy=>absurd (Nat.le_trans (big _ _ z) (y▸Nat.le_of_lt (A b d))) (Nat.not_succ_le_self _)
  .exact(hf b d).2.2.2.2.1 x c z
 .obtain⟨f0,f1,f2,f3,f4,f5⟩:=hf b d
  rcases f3 with z|z
  .exact I.ok.kj b o e z
  .have q:=Heap.lt_size (I.ok.bs b o e).1
   exact absurd q (Nat.not_lt.mpr z)
 .obtain⟨f0,f1,f2,_⟩:=hf b d
  rcases List.mem_cons.mp (I.yJ b M)with z|z
  .exact f1 z
  .exact f2 z
 .have hi:i<src.length:=by
   unfold gh at l
   have:=(List.getElem?_eq_some_iff.mp l).1
   simpa using this
  have f:((src[i]).bind λj=>(σ[j]?).join)=some v:=by
   unfold gh at l
   rw[List.getElem?_map,List.getElem?_eq_getElem hi]at l
   exact Option.some.inj l
  cases O:src[i]with
  |none=>rw[O]at f; cases f
  |some j =>
   rw[O]at f
   have hj : σ[j]?=some (some v):=by
    have z:(σ[j]?).join=some v:=f
    cases q : σ[j]? with
    |none=>rw[q]at z; cases z
    |some o=>rw[q]at z; have z':o=some v:=z; rw[z']
   have hz:(x,some j)∈N.zip src:=by
    refine List.mem_of_getElem? (i:=i) ?_
    rw[List.getElem?_zip_eq_some]
    exact⟨K,by rw[List.getElem?_eq_getElem hi,O]⟩
   obtain⟨u1,P⟩:=S.up _ hz j rfl
   have m:(x,NameKind.free)∈scope.names:=PySem.mem_of_lookup P
   have U:=S.free _ m rfl
   obtain⟨m0,hn0,Q⟩:=id I.loc
   obtain⟨u,r,lk⟩:=Q j x v u1 hj (U.elim (λz=>.inr (.inl z)) λz=>.inr (.inr z))
   refine⟨u,r,?_⟩
   rcases lk with⟨k,_⟩|⟨_,c,e,ic⟩
   .have E:X.env.scope.names.lookup x=some .local:=k
    rcases U with z|z
    .rw[z]at E; cases E
    .rw[z]at E; cases E
   .refine .inr ⟨T7 P,c,?_,?_⟩
    .have q:=vq (cells:=X.env.cells) (acc:=[]) (.inr ⟨m,by rw[e]; rfl⟩)
     obtain⟨T,D⟩:=Option.isSome_iff_exists.mp q
     have V:X.env.cells.lookup x=some T:=by
      rcases um D with q|q
      .simp at q
      .exact q
     rw[e]at V; cases V
     show(cellsFrom (s.heap.objs.size+1) scope.names (fW X.env.cells scope.names [])).lookup x=some c
     rw[rN,wZ]
     split
     .rename_i c2 z
      have y:=S.cells _ (J2 _ _ (PySem.mem_of_lookup z)) rfl
      rw[P]at y; cases y
     .exact D
    .obtain⟨o,B,hd⟩:=ic
     exact⟨o,old _ _ B,hd⟩
 .rcases w _ _ e with z|z
  .exact⟨_,(L.empty x c (PySem.mem_of_lookup z)).1⟩
  .obtain⟨v,o,B,hd⟩:=I.cell x c z
   exact⟨v,o,old _ _ B,hd⟩
 .rcases w _ _ e with z|z
  .exact I.hok.fresh (Nat.le_of_succ_le (big _ _ z))
  .exact I.pH x c z
 .unfold gh
  rw[List.length_map]
  exact S.len
theorem Ud{pins:List (Addr × Obj)}{RR:Value->Addr->Result->Shared->Prop}(hsc:X.env.scope=sc)(jZ:X.N=No)(S:vA sc No N src scope)(hc:X.calm=true)
  (hi:PI X tg iter wi) (hg:∀C s H ex,PG (iy X N scope C s H ex) tg g) (he:∀C s H ex,PE (iy X N scope C s H ex) elt te) (I:Inv X pins σ H s) (h:uo wi g src te σ H Q)
  (hRR:∀D C j G m,Inv X pins σ j G->j C=none->C≠X.env.locals->X.s₀.heap.objs.size<=C->(∀x c,X.env.cells.lookup x=some c->c≠C)->(∀p∈X.pn++pins,p.1≠C)->G.heap.Ns C m->Q (.ref D) j->RR (.ref D) C (.ok .next) G) :
  wpAny (model X.prog X.w) X.A (eval iter X.env) (λx L=>wpAny (model X.prog X.w) X.A (pyIter x) (λit M=>wpAny (model X.prog X.w) X.A (newList []) (λacc O =>
   wpAny (model X.prog X.w) X.A (newFunctionEnv scope X.env.globals (fW X.env.cells scope.names []) [] X.env.qual none .none (some X.env)) (λE P =>
    codeAny (model X.prog X.w) X.A (.compStart (.ListComp elt [⟨tg,iter,[],0⟩] scope pos) 0 it acc {E with scope:=relabel scope X.env }) (RR acc E.locals) P) X.xe O) X.xe M) X.xe L) X.xe s:=by
 refine bJ (hi pins s σ H _ I h) λv s1 h1=>bJ h1 λitv s2 h2=>?_
 obtain⟨it,f,tn,J,H2,e,I2,T,R,f2,hW⟩:=h2
 subst e
 have J3:H2 s2.heap.objs.size=none:=I2.hok.fresh (Nat.le_refl _)
 obtain⟨W,⟨m0,w0⟩,turn⟩:=hW s2.heap.objs.size J3
 have yP:∀b∈f,b<s2.heap.objs.size:=λb a=>by
  obtain⟨o,e,_⟩:=T.obj 0 _ R b a
  exact Heap.lt_size e
 refine wpAny_newObj_type ?_
 have F:=I2.Ea (t':=s2.toks) (ys:=[]) .nil (Nat.zero_le _)
 have Z:∀b∈f,gH X pins (upd H2 s2.heap.objs.size (.lst [])) b:=λb a=>by
  obtain⟨q,r⟩:=f2 b a
  exact⟨by rw[bA (Nat.ne_of_lt (yP b a))]; exact q,r⟩
 have st3:tn 0 (s2.heap.push {cls:=.type "list",dict:=none,data:=.seq ([]:List Value).toArray }):=T.keep _ _ _ R λb a o e=>Heap.get?_push_of_some _ e
 have rO:∀b∈f,b<(s2.heap.push {cls:=.type "list",dict:=none,data:=.seq ([]:List Value).toArray }).objs.size:=λb a=>by
  rw[Heap.size_push]; exact Nat.lt_succ_of_lt (yP b a)
 generalize hD:s2.heap.objs.size=D at *
 generalize hh3:s2.heap.push {cls:=.type "list",dict:=none,data:=.seq ([]:List Value).toArray }=h3 at *
 generalize J4:upd H2 D (.lst [])=H3 at *
 refine T9 λk U old ck=>?_
 dsimp only at U old ck ⊢
 have I4:Inv (iy X N scope h3.objs.size {s2 with heap:=h3 } H3 f) [] (gh src σ) H3 {s2 with heap:=k,toks:=s2.toks+([]:List (Str × Value)).length }:=Ub (s:={s2 with heap:=h3 }) hsc jZ S F Z rO U old ck
 have yQ:tn 0 k := T.keep _ _ _ st3 λb a o e=>old b o e
 have loop:codeAny (model X.prog X.w) X.A (.compLoop (.ListComp elt [⟨tg,iter,[],0⟩] scope pos) 0 (.ref it) (.ref D) (compEnvC scope (cellsFrom (h3.objs.size+1) scope.names (fW X.env.cells scope.names [])) h3.objs.size X.env)) (RR (.ref D) h3.objs.size) {s2 with heap:=k,toks:=s2.toks+([]:List (Str × Value)).length }:=by
  have l:∀{j:Hp},(∀b∈f,j b=none)->∀b∈f,gH (iy X N scope h3.objs.size {s2 with heap:=h3 } H3 f) [] j b:=λhn b a=>by
   obtain⟨g0,g1,g2,g3,g4,g5⟩:=Z b a
   refine⟨hn b a,Nat.ne_of_lt (rO b a),λz=>?_,.inl a,λx c e=>?_,λp hp=>absurd (show p∈([]:List (Addr × Obj))from hp) (by simp)⟩
   .rcases List.mem_cons.mp (F.yJ b z)with z|z
    .exact g1 z
    .exact g2 z
   .have e:(cellsFrom (h3.objs.size+1) scope.names (fW X.env.cells scope.names [])).lookup x=some c:=e
    rw[rN,wZ]at e
    split at e
    .rename_i z
     cases e
     exact λy=>absurd (Nat.le_trans (ck.empty x c (PySem.mem_of_lookup z)).2 (y▸Nat.le_of_lt (rO b a))) (Nat.not_succ_le_self _)
    .rcases um e with q|q
     .simp at q
     .exact g4 x c q
  refine abt (λn G=>∃i V j,Inv (iy X N scope h3.objs.size {s2 with heap:=h3 } H3 f) [] V j G/\tn i G.heap/\(∀b∈f,j b=none)/\W i n V j) ?_ m0 ⟨0,gh src σ,H3,I4,yQ,λb a=>(Z b a).1,w0⟩
  rintro n s5 ⟨i,t,Y,I5,iW,vh,w5⟩
  rcases turn i n t Y w5 with⟨stop,qn⟩|⟨go,step⟩
  .refine bJ (T.done (iy X N scope h3.objs.size {s2 with heap:=h3 } H3 f) rfl rfl rfl hc i [] s5 t Y (λ_ _=>False) I5 (l vh) iW stop) λr s6 ⟨hr,K⟩=>?_
   subst hr
   obtain⟨mC,hnC,_⟩:=id K.loc
   have I7:Inv X pins σ Y s6:=F.call' (ch:=f) K.os K.base K.hok K.bare λb a=>by
    obtain⟨g0,g1,g2,g3,g4,g5⟩:=Z b a
    exact⟨g3,g1,g4,g5⟩
   refine hRR D h3.objs.size Y s6 mC I7 K.free (Nat.ne_of_gt F.lt) F.sz (λx c e z=>?_) (λp hp z=>?_) hnC qn
   .obtain⟨v,q⟩:=F.cell x c e
    exact absurd q.lt (by rw[z]; exact Nat.lt_irrefl _)
   .exact absurd (Heap.lt_size (F.pin p hp).1) (by rw[z]; exact Nat.lt_irrefl _)
  .refine bJ (T.item (iy X N scope h3.objs.size {s2 with heap:=h3 } H3 f) rfl rfl rfl hc i [] s5 t Y (λ_ _=>False) I5 (l vh) iW go) λr s6 ⟨u,hr,h6⟩=>?_
   subst hr
   refine bJ h6 λ_ s7 ⟨x,H7,I7,r7,y7,rP,J5⟩=>?_
   have J6:=I7.pinned (l J5) (T.obj _ _ rP)
   refine bJ (hg _ _ _ _ _ s7 t H7 x u _ J6 r7 (step x H7 y7)) λ_ s8 ⟨B,H8,I8,q8⟩=>?_
   refine bJ (he _ _ _ _ _ s8 B H8 _ I8 q8) λyv s9 ⟨y,H9,I9,r9,q9⟩=>?_
   obtain⟨xs,e9,l9,m',hm,w9⟩:=q9
   refine bJ (nu (X:=iy X N scope h3.objs.size {s2 with heap:=h3 } H3 f) _ s9 B H9 (.ref D) [y] (.ref D) [yv] (λ_ j=>W (i+1) m' B j) I9 rfl (.cons r9 .nil) ⟨D,xs,y,rfl,rfl,e9,l9,w9⟩) λ_ dg ⟨_,J7,vB,_,J8⟩=>?_
   refine⟨m',hm,i+1,B,J7,vB.wV (pins:=[]),T.keep _ _ _ rP λb a o e=>(vB.pin (b,o) (List.mem_append_right _ (List.mem_append_right _ (ud a e)))).1,λb a=>?_,J8⟩
   obtain⟨o,e,d⟩:=T.obj _ _ rP b a
   exact(vB.pin (b,o) (List.mem_append_right _ (List.mem_append_right _ (ud a e)))).2.1
 exact codeAny_compStart_list loop (T.self _ _ _ _ _ yQ loop)
theorem nA(a:X.env.scope=sc)(i:X.N=No)(S:vA sc No N src scope)(j:X.calm=true)
  (hi:PI X tg iter wi) (n:∀C s H ex,PG (iy X N scope C s H ex) tg g) (he:∀C s H ex,PE (iy X N scope C s H ex) elt te)
  (p:∀x,foldedSetIterable iter X.env x=pure x:=by intro _; rfl):PE X (.ListComp elt [⟨tg,iter,[],0⟩] scope pos) (uo wi g src te):=by
 refine⟨λpins s σ H Q I h=>?_⟩
 have d:=Ec λy l e=>by
  have k:=S.free y l e
  rw[<-a]at k
  obtain⟨c,q⟩:=I.ok.has y.1 k
  rw[q]; rfl
 refine wpAny_comprehension_free (use:=none) rfl p d S.kind S.names (Ud (RR:=λacc C=>compPost (model X.prog X.w) X.A X.xe none (EP X pins σ Q) acc C) a i S j hi n he I h ?_)
 intro D C r t m u n1 v z n4 n5 B q
 refine⟨m,B,λF f=>⟨.ref D,r,?_,rfl,q⟩⟩
 exact u.turned (t':=t.toks) (λb o E e=>(f.2 b E).trans e) n1 (Ne.symm (Ne.symm v)) (.inr z) n4 n5
theorem xg(G:X.N.Nodup)(n:X.N[i]?=some y)(p:Loc X.env.scope y)(f:X.env.scope=sc)(J:X.N=No)(S:vA sc No N src scope)(L:X.calm=true)
  (hi:PI X tg iter wi) (M:∀C s H ex,PG (iy X N scope C s H ex) tg g) (he:∀C s H ex,PE (iy X N scope C s H ex) elt te)
  (u:swapsWith (.ListComp elt [⟨tg,iter,[],0⟩] scope pos) (some (.Name y py)) spos.line X.env=pure true:=by rfl) (O:∀x,foldedSetIterable iter X.env x=pure x:=by intro _; rfl)
  (hf:X.fn y=true\/X.env.scope.names.lookup y=some .local:=by first|exact .inl rfl|exact .inr rfl|assumption) :
  PS X (.Assign [.Name y py] (.ListComp elt [⟨tg,iter,[],0⟩] scope pos) spos) (m6 (uo wi g src te) (dN i)):=by
 refine⟨λpins s σ H D I h=>?_⟩
 rw[exec_Assign_Name_used _ _ _ _ u]
 have l:=Ec λy p e=>by
  have k:=S.free y p e
  rw[<-f]at k
  obtain⟨c,q⟩:=I.ok.has y.1 k
  rw[q]; rfl
 refine wpAny_bind (wpAny_standAt (wpAny_bind ?_))
 refine wpAny_bind (wpAny_mono (wpAny_comprehension_free (use:=some (assign (.Name y py) X.env)) (Q:=λ_ j=>SP X pins D .next j) rfl O l S.kind S.names
  (Ud (Q:=λv r=>D.nx (σ.set i (some v)) r) (RR:=λacc C=>compPost (model X.prog X.w) X.A X.xe (some (assign (.Name y py) X.env)) (λ_ j=>SP X pins D .next j) acc C) f J S L hi M he I h ?_)) (λ_ j K=>wpAny_pure (wpAny_pure K)) λ_ _ e=>e)
 intro Da C r j m P n1 F R n4 n5 T q
 refine wpAny_assign_Name (RL P G n p (v:=.ref Da) rfl (λs2 U d=>?_) hf)
 obtain⟨a,t,V⟩:=d
 have B:C≠a:=by
  rcases V with z|z
  .rw[z]; exact F
  .exact λe=>n4 y a z e.symm
 refine⟨m,T.sameBut t B,λY E=>⟨σ.set i (some (.ref Da)),r,?_,q⟩⟩
 exact U.turned (t':=s2.toks) (λb o W e=>(E.2 b W).trans e) n1 F (.inr R) n4 n5
end
def J9(e C:Addr)(h:Heap):Prop:=∃o vs,h.get? e=some o/\o.cls=.ref C/\o.data=.fields vs
def uq(e C:Addr):HO:=.ext (J9 e C)
def pO:List Str:=["NoBottom", "NoBook", "NoList", "NoRule", "NoCount", "NoLooks", "NoThings", "NotSure", "NoSlack", "NoThing", "NoWorth", "TooMany", "NoText", "NoLine"]
inductive Tr where
 |non|bl (b:Bool)|int (i:Int)|str (x:Str)|tup (ts:List Tr)|lst (ts:List Tr)|eU (c:Str)
mutual
inductive Rep(K:FZ)(H:Hp):V->Tr->Prop
 |non:Rep K H .non .non
 |bl (b:Bool):Rep K H (.bl b) (.bl b)
 |int (i:Int):Rep K H (.int i) (.int i)
 |str (x:Str):Rep K H (.str x) (.str x)
 |tup {a:Addr} {xs:List V} {ts:List Tr} (h:fL K H a xs) (r:aN K H xs ts):Rep K H (.ref a) (.tup ts)
 |lst {a:Addr} {xs:List V} {ts:List Tr} (h:bH K H a xs) (r:aN K H xs ts):Rep K H (.ref a) (.lst ts)
 |eU {a C:Addr} {c:Str} (h:H a=some (uq a C)) (m:c∈pO) (n:PySem.W.nsIn K mainGlobals c=some (some (.ref C))):Rep K H (.ref a) (.eU c)
inductive aN(K:FZ)(H:Hp):List V->List Tr->Prop
 |nil:aN K H [] []
 |cons {x:V} {t:Tr} {xs:List V} {ts:List Tr} (h:Rep K H x t) (r:aN K H xs ts):aN K H (x::xs) (t::ts)
end
theorem Same.vC{K:FZ}{H H':Hp}{a:Addr}{xs:List V}(e:Same H H')(h:fL K H a xs):fL K H' a xs:=by
 rcases h with(h|⟨o,h⟩)|h
 .exact .inl (.inl (e _ _ h))
 .exact .inl (.inr ⟨o,e _ _ h⟩)
 .exact .inr h
mutual
theorem Rep.mono{K:FZ}{H H':Hp}(e:Same H H'):∀{v:V} {t:Tr},Rep K H v t->Rep K H' v t
 |_,_,.non=>.non
 |_,_,.bl b=>.bl b
 |_,_,.int i=>.int i
 |_,_,.str x=>.str x
 |_,_,.tup h r=>.tup (e.vC h) (aN.mono e r)
 |_,_,.lst h r=>.lst (e.seq h) (aN.mono e r)
 |_,_,.eU h m n=>.eU (e _ _ h) m n
theorem aN.mono{K:FZ}{H H':Hp}(e:Same H H'):∀{v:List V} {t:List Tr},aN K H v t->aN K H' v t
 |_,_,.nil=>.nil
 |_,_,.cons h r=>.cons (Rep.mono e h) (aN.mono e r)
end
theorem aN.length{K:FZ}{H:Hp}:∀{v:List V} {t:List Tr},aN K H v t->v.length=t.length
 |_,_,.nil=>rfl
 |_,_,.cons _ r=>by rw[List.length_cons,List.length_cons,aN.length r]
theorem aN.get{K:FZ}{H:Hp}:∀{v:List V} {t:List Tr} {i:Nat} {x:V},aN K H v t->v[i]?=some x->∃u,t[i]?=some u/\Rep K H x u
 |_,_,_,_,.nil,e=>by simp at e
 |_,_,0,_,.cons h _,e=>by
  simp at e
  subst e
  exact⟨_,rfl,h⟩
 |_,_,i+1,x,.cons _ r,e=>by
  obtain⟨u,h1,h2⟩:=aN.get (i:=i) (x:=x) r (by simpa using e)
  exact⟨u,by simpa using h1,h2⟩
theorem aN.app{K:FZ}{H:Hp}:∀{v w:List V} {t u:List Tr},aN K H v t->aN K H w u->aN K H (v++w) (t++u)
 |_,_,_,_,.nil,s=>s
 |_,_,_,_,.cons h r,s=>.cons h (aN.app r s)
theorem aN.take{K:FZ}{H:Hp}:∀{v:List V} {t:List Tr} (n:Nat),aN K H v t->aN K H (v.take n) (t.take n)
 |_,_,0,_=>by rw[List.take_zero,List.take_zero]; exact .nil
 |_,_,n+1,.nil=>by simpa using aN.nil
 |_,_,n+1,.cons h r=>by
  exact .cons h (aN.take n r)
theorem aN.drop{K:FZ}{H:Hp}:∀{v:List V} {t:List Tr} (n:Nat),aN K H v t->aN K H (v.drop n) (t.drop n)
 |_,_,0,r=>by rw[List.drop_zero,List.drop_zero]; exact r
 |_,_,n+1,.nil=>by simpa using aN.nil
 |_,_,n+1,.cons h r=>by
  exact aN.drop n r
mutual
noncomputable def dep:Tr->Nat
 |.tup ts=>deps ts+1
 |.lst ts=>deps ts+1
 |.eU _=>100
 |_=>0
noncomputable def deps:List Tr->Nat
 | []=>0
 |t::r=>max (dep t) (deps r)
end
mutual
noncomputable def eqT:Tr->Tr->Bool
 |.non,.non=>true
 |.bl a,.bl b=>a == b
 |.bl a,.int b=>(if a then 1 else 0) == b
 |.int a,.bl b=>a == (if b then 1 else 0)
 |.int a,.int b=>a == b
 |.str a,.str b=>a == b
 |.tup a,.tup b=>pP a b
 |.lst a,.lst b=>pP a b
 |.eU a,.eU b=>a == b
 |_,_=>false
noncomputable def pP:List Tr->List Tr->Bool
 | [],[]=>true
 |a::x,b::y=>eqT a b&&pP x y
 |_,_=>false
end
mutual
theorem yR:∀t:Tr,eqT t t=true
 |.non=>rfl
 |.bl b=>by unfold eqT; exact beq_self_eq_true b
 |.int i=>by unfold eqT; exact beq_self_eq_true i
 |.str x=>by unfold eqT; exact beq_self_eq_true x
 |.tup ts=>by unfold eqT; exact Ka ts
 |.lst ts=>by unfold eqT; exact Ka ts
 |.eU c=>by unfold eqT; exact beq_self_eq_true c
theorem Ka:∀ts:List Tr,pP ts ts=true
 | []=>rfl
 |t::r=>by unfold pP; rw[yR t,Ka r]; rfl
end
theorem yS:∀{a b:List Tr},a.length≠b.length->pP a b=false
 | [],[],h=>absurd rfl h
 | [],_::_,_=>rfl
 |_::_,[],_=>rfl
 |x::a,y::b,h=>by
  unfold pP
  rw[yS (a:=a) (b:=b) (by simpa using h),Bool.and_false]
def rQ(a b:List Tr)(j:Nat):Bool:=match a[j]?,b[j]? with
 |some x,some y=>eqT x y
 |_,_=>true
theorem yU:∀{a b:List Tr},a.length=b.length->(List.range a.length).all (rQ a b)=pP a b
 | [],[],_=>rfl
 | [],_::_,h=>by cases h
 |_::_,[],h=>by cases h
 |x::a,y::b,h=>by
  have ih:=yU (a:=a) (b:=b) (by simpa using h)
  rw[List.length_cons,List.range_succ_eq_map,List.all_cons,List.all_map]
  unfold pP
  rw[<-ih]
  rfl
section
variable {X:Cx}{pins:List (Addr × Obj)}{σ : St}{H:Hp}{s:Shared}
theorem Inv.abu(I:Inv X pins σ H s)(h:H a=some (uq a C))(p:IsTup s.heap a its):False:=by
 obtain⟨o,_,e1,e2,_⟩:=(I.hok a _ h).1
 obtain⟨o',e1',e2',_⟩:=p
 rw[e1]at e1'
 cases e1'
 rw[e2]at e2'
 cases e2'
theorem Inv.abv(I:Inv X pins σ H s)(h:H a=some (uq a C))(p:PlainL s.heap a its):False:=by
 obtain⟨o,_,e1,e2,_⟩:=(I.hok a _ h).1
 obtain⟨o',_,e1',e2',_⟩:=p
 rw[e1]at e1'
 cases e1'
 rw[e2]at e2'
 cases e2'
mutual
theorem Rep.inj(I:Inv X pins σ H s):∀{v:V} {t u:Tr},dep t<=99->Rep X.K H v t->Rep X.K H v u->t=u
 |_,_,_,_,.non,.non=>rfl
 |_,_,_,_,.bl _,.bl _=>rfl
 |_,_,_,_,.int _,.int _=>rfl
 |_,_,_,_,.str _,.str _=>rfl
 |_,_,_,d,.tup h r,.tup h' r'=>by
  have e:=I.RZ h h'
  subst e
  rw[aN.inj I (by unfold dep at d; omega) r r']
 |_,_,_,d,.lst h r,.lst h' r'=>by
  have e:=I.tY h h'
  subst e
  rw[aN.inj I (by unfold dep at d; omega) r r']
 |_,_,_,_,.tup h r,.lst h' r'=>by
  obtain⟨_,_,p,_⟩:=I.tuple h
  obtain⟨_,_,p',_⟩:=I.list h'
  exact absurd rfl (SeqAt.ne_of_list_tuple p'.isList p)
 |_,_,_,_,.lst h r,.tup h' r'=>by
  obtain⟨_,_,p,_⟩:=I.tuple h'
  obtain⟨_,_,p',_⟩:=I.list h
  exact absurd rfl (SeqAt.ne_of_list_tuple p'.isList p)
 |_,_,_,d,.eU h _ n,_=>by unfold dep at d; omega
 |_,_,_,_,.tup h r,.eU h' _ _=>by
  obtain⟨_,_,p,_⟩:=I.tuple h
  exact(I.abu h' p).elim
 |_,_,_,_,.lst h r,.eU h' _ _=>by
  obtain⟨_,_,p,_⟩:=I.list h
  exact(I.abv h' p).elim
theorem aN.inj(I:Inv X pins σ H s):∀{v:List V} {t u:List Tr},deps t<=99->aN X.K H v t->aN X.K H v u->t=u
 |_,_,_,_,.nil,.nil=>rfl
 |_,_,_,d,.cons h r,.cons h' r'=>by
  unfold deps at d
  rw[Rep.inj I (by omega) h h',aN.inj I (by omega) r r']
end
theorem in1_units(A:Around):A.in1.units<=A.units+1:=by
 show A.units+1<=_
 omega
theorem Ed{xs:List V}{its:List Value}{j:Nat}(r:Vals xs its)(h:j<its.toArray.size):∃x,xs[j]?=some x/\RelV x its.toArray[j]:=by
 have h':j<its.length:=by simpa using h
 have hx:j<xs.length:=by rw[r.length]; exact h'
 obtain⟨u,h1,h2⟩:=r.get (List.getElem?_eq_getElem hx)
 refine⟨xs[j],List.getElem?_eq_getElem hx,?_⟩
 have e:u=its.toArray[j]:=by
  rw[List.getElem?_eq_getElem h']at h1
  have:=Option.some.inj h1
  simpa using this.symm
 rw[<-e]; exact h2
theorem Ue{a b:List Tr}{j:Nat}{x y:Tr}(h1:a[j]?=some x)(h2:b[j]?=some y):rQ a b j=eqT x y:=by
 unfold rQ
 rw[h1,h2]
theorem ur:∀{ts:List Tr} {j:Nat} {t:Tr},ts[j]?=some t->dep t<=deps ts
 | [],_,_,h=>by simp at h
 |x::r,0,t,h=>by
  simp at h
  subst h
  unfold deps
  exact Nat.le_max_left _ _
 |x::r,j+1,t,h=>by
  have:=ur (ts:=r) (j:=j) (t:=t) (by simpa using h)
  unfold deps
  exact Nat.le_trans this (Nat.le_max_right _ _)
theorem yV(I:Inv X pins σ H s)(A:Around)(t u:Tr)(x y:V)(xv yv:Value)(hu:A.units+0<cLine)(hd:dep t<=0)(du:dep u<=99)(rx:Rep X.K H x t)(ry:Rep X.K H y u)(vx:RelV x xv)(vy:RelV y yv) :
  SeqAt.RcAt A s xv yv (eqT t u)/\SeqAt.EqAt A s xv yv (eqT t u):=by
 have hu0:A.units<cLine:=by omega
 cases rx with
 |tup h r=>unfold dep at hd; omega
 |lst h r=>unfold dep at hd; omega
 |eU h m n=>unfold dep at hd; omega
 |non =>
  cases vx
  cases ry with
  |non=>cases vy; unfold eqT; exact⟨SeqAt.RcAt.none_none,.same _⟩
  |bl b2=>cases vy; unfold eqT; exact⟨SeqAt.RcAt.none_bool _,SeqAt.EqAt.none_bool _⟩
  |int i2=>obtain⟨_,rfl⟩:=vy; unfold eqT; exact⟨SeqAt.RcAt.none_int _ _,SeqAt.EqAt.none_int _ _⟩
  |str z2=>obtain⟨_,rfl⟩:=vy; unfold eqT; exact⟨SeqAt.RcAt.none_str _ _,SeqAt.EqAt.none_str _ _⟩
  |tup h r=>cases vy; obtain⟨_,_,p,_⟩:=I.tuple h; unfold eqT; exact⟨SeqAt.RcAt.none_tuple p hu0,SeqAt.EqAt.none_tuple p hu0⟩
  |lst h r=>cases vy; obtain⟨_,_,p,_⟩:=I.list h; unfold eqT; exact⟨SeqAt.RcAt.none_list p.isList hu0,SeqAt.EqAt.none_list p.isList hu0⟩
  |eU h m n=>unfold dep at du; omega
 |bl b =>
  cases vx
  cases ry with
  |non=>cases vy; unfold eqT; exact⟨SeqAt.RcAt.bool_none _,SeqAt.EqAt.bool_none _⟩
  |bl b2=>cases vy; unfold eqT; exact⟨SeqAt.RcAt.bool_bool _ _,SeqAt.EqAt.bool_bool _ _⟩
  |int i2=>obtain⟨_,rfl⟩:=vy; unfold eqT; exact⟨SeqAt.RcAt.bool_int _ _ _,SeqAt.EqAt.bool_int _ _ _⟩
  |str z2=>obtain⟨_,rfl⟩:=vy; unfold eqT; exact⟨SeqAt.RcAt.bool_str _ _ _,SeqAt.EqAt.bool_str _ _ _⟩
  |tup h r=>cases vy; obtain⟨_,_,p,_⟩:=I.tuple h; unfold eqT; exact⟨SeqAt.RcAt.bool_tuple _ p hu0,SeqAt.EqAt.bool_tuple _ p hu0⟩
  |lst h r=>cases vy; obtain⟨_,_,p,_⟩:=I.list h; unfold eqT; exact⟨SeqAt.RcAt.bool_list _ p.isList hu0,SeqAt.EqAt.bool_list _ p.isList hu0⟩
  |eU h m n=>unfold dep at du; omega
 |int i =>
  obtain⟨_,rfl⟩:=vx
  cases ry with
  |non=>cases vy; unfold eqT; exact⟨SeqAt.RcAt.int_none _ _,SeqAt.EqAt.int_none _ _⟩
  |bl b2=>cases vy; unfold eqT; exact⟨SeqAt.RcAt.int_bool _ _ _,SeqAt.EqAt.int_bool _ _ _⟩
  |int i2=>obtain⟨_,rfl⟩:=vy; unfold eqT; exact⟨SeqAt.RcAt.int_int _ _ _ _,SeqAt.EqAt.int_int _ _ _ _⟩
  |str z2=>obtain⟨_,rfl⟩:=vy; unfold eqT; exact⟨SeqAt.RcAt.int_str _ _ _ _,SeqAt.EqAt.int_str _ _ _ _⟩
  |tup h r=>cases vy; obtain⟨_,_,p,_⟩:=I.tuple h; unfold eqT; exact⟨SeqAt.RcAt.int_tuple _ _ p hu0,SeqAt.EqAt.int_tuple _ _ p hu0⟩
  |lst h r=>cases vy; obtain⟨_,_,p,_⟩:=I.list h; unfold eqT; exact⟨SeqAt.RcAt.int_list _ _ p.isList hu0,SeqAt.EqAt.int_list _ _ p.isList hu0⟩
  |eU h m n=>unfold dep at du; omega
 |str z =>
  obtain⟨_,rfl⟩:=vx
  cases ry with
  |non=>cases vy; unfold eqT; exact⟨SeqAt.RcAt.str_none _ _,SeqAt.EqAt.str_none _ _⟩
  |bl b2=>cases vy; unfold eqT; exact⟨SeqAt.RcAt.str_bool _ _ _,SeqAt.EqAt.str_bool _ _ _⟩
  |int i2=>obtain⟨_,rfl⟩:=vy; unfold eqT; exact⟨SeqAt.RcAt.str_int _ _ _ _,SeqAt.EqAt.str_int _ _ _ _⟩
  |str z2=>obtain⟨_,rfl⟩:=vy; unfold eqT; exact⟨SeqAt.RcAt.str_str _ _ _ _,SeqAt.EqAt.str_str _ _ _ _⟩
  |tup h r=>cases vy; obtain⟨_,_,p,_⟩:=I.tuple h; unfold eqT; exact⟨SeqAt.RcAt.str_tuple _ _ p hu0,SeqAt.EqAt.str_tuple _ _ p hu0⟩
  |lst h r=>cases vy; obtain⟨_,_,p,_⟩:=I.list h; unfold eqT; exact⟨SeqAt.RcAt.str_list _ _ p.isList hu0,SeqAt.EqAt.str_list _ _ p.isList hu0⟩
  |eU h m n=>unfold dep at du; omega
theorem Kc(I:Inv X pins σ H s):∀(n:Nat) (A:Around) (t u:Tr) (x y:V) (xv yv:Value),A.units+n<cLine->dep t<=n->dep t<=99->dep u<=99->Rep X.K H x t->Rep X.K H y u->RelV x xv->RelV y yv ->
  SeqAt.RcAt A s xv yv (eqT t u)/\SeqAt.EqAt A s xv yv (eqT t u):=by
 intro n
 induction n with
 |zero=>exact λA t u x y xv yv hu hd _ du rx ry vx vy=>yV I A t u x y xv yv hu hd du rx ry vx vy
 |succ n ih =>
  intro A t u x y xv yv hu hd xq du rx ry vx vy
  have hu0:A.units<cLine:=by omega
  have hu1:A.in1.units+n<cLine:=by
   have:=in1_units A
   omega
  have he:∀{xs ys:List V} {ts us:List Tr} {its its2:List Value},Vals xs its->Vals ys its2->aN X.K H xs ts->aN X.K H ys us->deps ts<=n->deps ts<=99->deps us<=99->∀j (h1:j<its.toArray.size) (h2:j<its2.toArray.size),SeqAt.EqAt A.in1 s its.toArray[j] its2.toArray[j] (rQ ts us j):=by
   intro xs ys ts us its its2 r1 r2 q1 q2 hde hd9 Ug j h1 h2
   obtain⟨a,ea,ra⟩:=Ed r1 h1
   obtain⟨b,eb,rb⟩:=Ed r2 h2
   obtain⟨ta,eta,qa⟩:=q1.get ea
   obtain⟨tb,yW,qb⟩:=q2.get eb
   rw[Ue eta yW]
   exact(ih A.in1 ta tb a b _ _ hu1 (Nat.le_trans (ur eta) hde) (Nat.le_trans (ur eta) hd9) (Nat.le_trans (ur yW) Ug) qa qb ra rb).2
  have dt:∀{ts:List Tr},dep (.tup ts)<=n+1->deps ts<=n:=λ{ts} h=>by unfold dep at h; omega
  have dl:∀{ts:List Tr},dep (.lst ts)<=n+1->deps ts<=n:=λ{ts} h=>by unfold dep at h; omega
  have nt:∀{ts:List Tr},dep (.tup ts)<=99->deps ts<=99:=λ{ts} h=>by unfold dep at h; omega
  have nl:∀{ts:List Tr},dep (.lst ts)<=99->deps ts<=99:=λ{ts} h=>by unfold dep at h; omega
  have refs:∀{a b:Addr} {t u:Tr} {k:Bool},dep t<=99->Rep X.K H (.ref a) t->Rep X.K H (.ref b) u->k=eqT t u->SeqAt.RcAt A s (.ref a) (.ref b) k->SeqAt.EqAt A s (.ref a) (.ref b) k:=λ{a b t u k} d9 r1 r2 ek h=>by
   by_cases e:a=b
   .subst e
    have:=Rep.inj I d9 r1 r2
    subst this
    rw[ek,yR]
    exact .same _
   .exact .of_refs e h
  cases rx with
  | @tup a1 xs1 ts h r =>
   cases vx
   obtain⟨its,rv,p,_⟩:=I.tuple h
   cases ry with
   | @tup a2 xs2 us h' r' =>
    cases vy
    obtain⟨its2,kE,p2,_⟩:=I.tuple h'
    have R:=SeqAt.RcAt.tuples p p2 hu0 (he rv kE r r' (dt hd) (nt xq) (nt du))
    have el:its.toArray.size=ts.length:=by simpa using(rv.length.symm.trans r.length)
    have el2:its2.toArray.size=us.length:=by simpa using(kE.length.symm.trans r'.length)
    rw[el,el2]at R
    have eb:((List.range (min ts.length us.length)).all (rQ ts us)&&ts.length == us.length)=eqT (.tup ts) (.tup us):=by
     unfold eqT
     by_cases e:ts.length=us.length
     .rw[e,Nat.min_self,<-e,yU e,beq_self_eq_true,Bool.and_true]
     .rw[beq_false_of_ne e,Bool.and_false,yS e]
    rw[eb]at R
    exact⟨R,refs xq (.tup h r) (.tup h' r') rfl R⟩
   |lst h' r' =>
    cases vy
    obtain⟨_,_,p2,_⟩:=I.list h'
    unfold eqT
    exact⟨SeqAt.RcAt.tuple_list p p2.isList hu0,.tuple_list p p2.isList hu0⟩
   |eU h' m n=>unfold dep at du; omega
   |non=>cases vy; unfold eqT; exact⟨SeqAt.RcAt.tuple_none p hu0,.tuple_none p hu0⟩
   |bl b=>cases vy; unfold eqT; exact⟨SeqAt.RcAt.tuple_bool _ p hu0,.tuple_bool _ p hu0⟩
   |int i=>obtain⟨_,rfl⟩:=vy; unfold eqT; exact⟨SeqAt.RcAt.tuple_int _ _ p hu0,.tuple_int _ _ p hu0⟩
   |str z=>obtain⟨_,rfl⟩:=vy; unfold eqT; exact⟨SeqAt.RcAt.tuple_str _ _ p hu0,.tuple_str _ _ p hu0⟩
  | @lst a1 xs1 ts h r =>
   cases vx
   obtain⟨its,rv,p,_⟩:=I.list h
   cases ry with
   | @lst a2 xs2 us h' r' =>
    cases vy
    obtain⟨its2,kE,p2,_⟩:=I.list h'
    have el:its.toArray.size=ts.length:=by simpa using(rv.length.symm.trans r.length)
    have el2:its2.toArray.size=us.length:=by simpa using(kE.length.symm.trans r'.length)
    by_cases e:ts.length=us.length
    .have R:=SeqAt.RcAt.lists p.isList p2.isList (by rw[el,el2,e]) hu0 (he rv kE r r' (dl hd) (nl xq) (nl du))
     rw[el,yU e]at R
     have eb:pP ts us=eqT (.lst ts) (.lst us):=by unfold eqT; rfl
     rw[eb]at R
     exact⟨R,refs xq (.lst h r) (.lst h' r') rfl R⟩
    .have R:SeqAt.RcAt A s _ _ false:=SeqAt.RcAt.lists_lengths p.isList p2.isList (by rw[el,el2]; simpa using e) hu0
     have eb:false=eqT (.lst ts) (.lst us):=by unfold eqT; rw[yS e]
     rw[eb]at R
     exact⟨R,refs xq (.lst h r) (.lst h' r') rfl R⟩
   |tup h' r' =>
    cases vy
    obtain⟨_,_,p2,_⟩:=I.tuple h'
    unfold eqT
    exact⟨SeqAt.RcAt.list_tuple p.isList p2 hu0,.list_tuple p.isList p2 hu0⟩
   |eU h' m n=>unfold dep at du; omega
   |non=>cases vy; unfold eqT; exact⟨SeqAt.RcAt.list_none p.isList hu0,.list_none p.isList hu0⟩
   |bl b=>cases vy; unfold eqT; exact⟨SeqAt.RcAt.list_bool _ p.isList hu0,.list_bool _ p.isList hu0⟩
   |int i=>obtain⟨_,rfl⟩:=vy; unfold eqT; exact⟨SeqAt.RcAt.list_int _ _ p.isList hu0,.list_int _ _ p.isList hu0⟩
   |str z=>obtain⟨_,rfl⟩:=vy; unfold eqT; exact⟨SeqAt.RcAt.list_str _ _ p.isList hu0,.list_str _ _ p.isList hu0⟩
  |eU h m n=>unfold dep at xq; omega
  |non=>exact yV I A _ _ _ _ _ _ (by omega) (by unfold dep; omega) du .non ry vx vy
  |bl b=>exact yV I A _ _ _ _ _ _ (by omega) (by unfold dep; omega) du (.bl b) ry vx vy
  |int i=>exact yV I A _ _ _ _ _ _ (by omega) (by unfold dep; omega) du (.int i) ry vx vy
  |str z=>exact yV I A _ _ _ _ _ _ (by omega) (by unfold dep; omega) du (.str z) ry vx vy
end
section
variable {X:Cx}{a b:Expr}{ta tb:TE}{pos:Pos}
def Kd(K:FZ):R2:=λx y H Q=>∃t u,Rep K H x t/\Rep K H y u/\dep t<=40/\dep u<=40/\Q (.bl (eqT t u)) H
theorem iQ(hu:X.A.units+64<cLine):dR X (compareOp .Eq) (Kd X.K):=by
 intro pins s σ H x y v u Q I rx ry h
 obtain⟨t,t',q1,q2,hd,hd2,q⟩:=h
 exact(Kc I 40 X.A t t' x y v u (by omega) hd (by omega) (by omega) q1 q2 rx ry).1 _ _ _ _ ⟨.bl _,H,I,rfl,q⟩
def uw(t:Tr)(ts:List Tr):Bool:=ts.any λu=>eqT u t
def Kf(K:FZ):R2:=λx y H Q=>∃t ts p xs,Rep K H x t/\y=.ref p/\(bH K H p xs\/fL K H p xs)/\aN K H xs ts/\deps ts<=40/\dep t<=40/\Q (.bl (uw t ts)) H
theorem Uh{xs:List V}{its:List Value}{ts:List Tr}{K:FZ}{H:Hp}(f:Tr->Bool)(e:Value->Bool)(r:Vals xs its)(q:aN K H xs ts)(h:∀x v t,x∈xs->RelV x v->Rep K H x t->t∈ts->e v=f t):its.any e=ts.any f:=by
 induction r generalizing ts with
 |nil=>cases q; rfl
 |cons r1 r2 ih =>
  cases q with
  |cons q1 q2 =>
   rw[List.any_cons,List.any_cons,h _ _ _ List.mem_cons_self r1 q1 List.mem_cons_self,ih q2 λx v t hx hr hq ht=>h x v t (List.mem_cons_of_mem _ hx) hr hq (List.mem_cons_of_mem _ ht)]
theorem Kg:∀{ts:List Tr} {t:Tr},t∈ts->dep t<=deps ts:=λ{ts t} h=>by
 obtain⟨i,hi,e⟩:=List.mem_iff_getElem.mp h
 exact ur (j:=i) (by rw[List.getElem?_eq_getElem hi,e])
open Classical in
theorem Kh(hu:X.A.units+64<cLine):dR X (compareOp .In) (Kf X.K):=by
 intro pins s σ H x y v u Q I rx ry h
 obtain⟨t,ts,p,xs,q1,rfl,hq,qs,hd,hd2,q⟩:=h
 cases ry
 have hu1:X.A.in1.units+40<cLine:=by
  have:=in1_units X.A
  omega
 -- what == tells of an item,by the item itself
 let e:Value->Bool:=λw'=>if h:∃z tz,z∈xs/\RelV z w'/\Rep X.K H z tz/\tz∈ts then eqT (Classical.choose (Classical.choose_spec h)) t else false
 have ee:∀z w' tz,z∈xs->RelV z w'->Rep X.K H z tz->tz∈ts->e w'=eqT tz t:=λz w' tz h1 h2 h3 h4=>by
  have hx:∃z tz,z∈xs/\RelV z w'/\Rep X.K H z tz/\tz∈ts:=⟨z,tz,h1,h2,h3,h4⟩
  show(if h:_ then _ else _)=_
  rw[dif_pos hx]
  have sp:=Classical.choose_spec (Classical.choose_spec hx)
  have key:∀z z' t1 t2,RelV z w'->RelV z' w'->dep t1<=99->Rep X.K H z t1->Rep X.K H z' t2->t1=t2:=λz z' t1 t2 a1 a2 d9 a3 a4=>by
   obtain rfl:=RelV.inj a1 a2
   exact Rep.inj I d9 a3 a4
  rw[key _ _ _ _ sp.2.1 h2 (by have:=Kg sp.2.2.2; omega) sp.2.2.1 h3]
 have mem:∀{its:List Value},Vals xs its->∀w'∈its,SeqAt.EqAt X.A.in1 s w' v (e w'):=by
  intro its r w' hw
  obtain⟨j,hj,ej⟩:=List.mem_iff_getElem.mp hw
  have hjx:j<xs.length:=by rw[r.length]; exact hj
  obtain⟨u',h1,h2⟩:=r.get (List.getElem?_eq_getElem hjx)
  rw[List.getElem?_eq_getElem hj,ej]at h1
  cases h1
  obtain⟨tz,h3,h4⟩:=qs.get (List.getElem?_eq_getElem hjx)
  have hm:=List.mem_of_getElem? h3
  rw[ee _ _ tz (List.getElem_mem hjx) h2 h4 hm]
  exact(Kc I 40 X.A.in1 tz t _ x _ v hu1 (Nat.le_trans (Kg hm) hd) (by have:=Kg hm; omega) (by omega) h4 q1 h2 rx).2
 rcases hq with hq|hq
 .obtain⟨its,r,pl,hz⟩:=I.list hq
  refine SeqAt.in_listAt e pl.isList (λw hw=>mem r w (by simpa using hw)) ⟨.bl _,H,I,rfl,?_⟩
  rw[show its.toArray.any e=its.any e by simp,Uh (λz=>eqT z t) e r qs λz w' tz h1 h2 h3 h4=>ee z w' tz h1 h2 h3 h4]
  exact q
 .obtain⟨its,r,pl,hz⟩:=I.tuple hq
  refine SeqAt.in_tupleAt e pl (λw hw=>mem r w (by simpa using hw)) ⟨.bl _,H,I,rfl,?_⟩
  rw[show its.toArray.any e=its.any e by simp,Uh (λz=>eqT z t) e r qs λz w' tz h1 h2 h3 h4=>ee z w' tz h1 h2 h3 h4]
  exact q
inductive Ty where|int|bool|str|tuple|list
def Ty.name:Ty->String
 |.int => "int" |.bool => "bool" |.str => "str" |.tuple => "tuple" |.list => "list"
def iz:Tr->Ty->Bool
 |.bl _,.bool=>true|.bl _,.int=>true|.int _,.int=>true|.str _,.str=>true|.tup _,.tuple=>true|.lst _,.list=>true
 |_,_=>false
def Ef(K:FZ):List V->Hp->VK->Prop:=λxs H Q=>∃v t c,xs=[v,.ty (Ty.name c)]/\Rep K H v t/\Q (.bl (iz t c)) H
def Eh(K:FZ):Prop:=∀c∈pO,∀C,PySem.W.nsIn K mainGlobals c=some (some (.ref C))->(∀a,PySem.W.KitX K (.ref a) (.ref C) (J9 a C))/\∀y:Ty,PySem.W.kitOne K (.ref C) (.type y.name)=some false
theorem abw(hX:Eh X.K):jX X (.builtin "isinstance") (Ef X.K):=by
 intro pins s σ H xs us Q I r h
 obtain⟨v,t,c,rfl,q1,q⟩:=h
 obtain⟨u,w',rfl,ru,rF⟩:=vals2 r
 obtain rfl:w'=Value.type (Ty.name c):=rF
 have fin:∀tk,EP X pins σ Q (.bool (iz t c)) {s with toks:=tk }:=λtk=>⟨.bl _,H,I.tok tk,rfl,q⟩
 cases q1 with
 |non=>cases ru; cases c <;> exact PySem.W.kia_one PySem.W.kitx_none I.mF True.intro (by kernel_rfl) (λz=>nomatch z) fin
 |bl y=>cases ru; cases c <;> exact PySem.W.kia_one PySem.W.kitx_bool I.mF True.intro (by kernel_rfl) (λz=>nomatch z) fin
 |int i=>obtain⟨_,rfl⟩:=ru; cases c <;> exact PySem.W.kia_one PySem.W.kitx_int I.mF True.intro (by kernel_rfl) (λz=>nomatch z) fin
 |str y=>obtain⟨_,rfl⟩:=ru; cases c <;> exact PySem.W.kia_one PySem.W.kitx_str I.mF True.intro (by kernel_rfl) (λz=>nomatch z) fin
 |tup h r =>
  cases ru
  obtain⟨_,_,⟨o,h1,h2,_⟩,_⟩:=I.tuple h
  cases c <;> exact PySem.W.kia_one PySem.W.kitx_tuple I.mF ⟨o,h1,h2⟩ (by kernel_rfl) (λz=>nomatch z) fin
 |lst h r =>
  cases ru
  obtain⟨_,_,p,_⟩:=I.list h
  obtain⟨o,h1,h2,_⟩:=p.isList
  cases c <;> exact PySem.W.kia_one PySem.W.kitx_list I.mF ⟨o,h1,h2⟩ (by kernel_rfl) (λz=>nomatch z) fin
 |eU h m n =>
  cases ru
  obtain⟨z1,z2⟩:=hX _ m _ n
  exact PySem.W.kia_one (z1 _) I.mF (I.hok _ _ h).1 (z2 c) (λz=>nomatch z) fin
def Km(K:FZ):List V->Hp->VK->Prop:=λxs H Q=>∃(p:Addr) (bs:List Bool),xs=[.ref p]/\bH K H p (bs.map V.bl)/\Q (.bl (bs.all id)) H
theorem vD(hc:X.calm=true):jX X (.builtin "all") (Km X.K):=by
 intro pins s σ H xs us Q I r h
 obtain⟨p,bs,rfl,hq,q⟩:=h
 obtain⟨u,rfl,ru⟩:=vals1 r
 cases ru
 obtain⟨its,rv,pl,hz⟩:=I.list hq
 refine call_all_walk (wpAny_pyIter_list pl.isList ?_)
 obtain⟨ol,hol,hol'⟩:=id pl.isList
 have hlt:p<s.heap.objs.size:=Heap.lt_size hol
 have hlen:its.toArray.size=bs.length:=by simpa using rv.length.symm
 have at_:∀(i:Nat) (v:Value),its.toArray[i]?=some v->∃k,bs[i]?=some k/\v=Value.bool k:=λi v e=>by
  have e':its[i]?=some v:=by simpa using e
  have hi:i<its.length:=(List.getElem?_eq_some_iff.mp e').1
  have hb:i<(bs.map V.bl).length:=by rw[rv.length]; exact hi
  obtain⟨u',h1,h2⟩:=rv.get (List.getElem?_eq_getElem hb)
  rw[e']at h1
  cases h1
  have hb':i<bs.length:=by simpa using hb
  refine⟨bs[i],List.getElem?_eq_getElem hb',?_⟩
  rw[List.getElem_map]at h2
  exact h2
 refine⟨s.heap.objs.size,_,_,_,_,_,λi=>bs.getD i true,rfl,Walks.list (A:=X.A.in1) (I.ok.hd hc) s.heap.objs.size p (Nat.ne_of_lt hlt) its.toArray,⟨⟨_,Heap.get?_push_size _ rfl,rfl,rfl⟩,⟨ol,Heap.get?_push_of_some _ hol,hol'⟩⟩,?_,?_⟩
 .intro i v s' Q' E' hP hQ'
  obtain⟨k,h1,rfl⟩:=at_ i v hP
  have:bs.getD i true=k:=by rw[List.getD_eq_getElem?_getD,h1]; rfl
  dsimp only at hQ'
  rw[this]at hQ'
  exact wpAny_truthy_bool hQ'
 .intro h' tk hk
  have I1:Inv X pins σ H {s with heap:=h',toks:=tk }:=I.kept λb o e=>hk b o (by
   have:=Heap.lt_size e
   simp
   exact Nat.ne_of_lt this) (Heap.get?_push_of_some _ e)
  refine⟨.bl _,H,I1,rfl,?_⟩
  have eq:(List.range its.toArray.size).all (λi=>bs.getD i true)=bs.all id:=by
   rw[hlen]
   clear q hq rv at_ hlen hz
   induction bs with
   |nil=>rfl
   |cons b r ih =>
    rw[List.length_cons,List.range_succ_eq_map,List.all_cons,List.all_map,List.all_cons]
    exact congrArg (b && ·) ih
  rw[eq]
  exact q
end
def At(K:FZ)(mg:Str->Option Value)(x:Str)(st:Stmt):Prop:=∃f fd,vp K x x st f fd/\mg x=some (.ref f)
section
variable {X:Cx}{k:Nat}{x:Str}{ps:List Str}{sp:Sp}{p q pos:Pos}{e:Expr}{es:List Expr}{te:TE}{t:TA}
theorem abx(hX:Eh X.K)(c:Ty)(he:PE X e te)(h1:X.mg "isinstance" = none) (h2:X.mg x=none) (hb:bootBuiltins x=some (.type c.name):=by decide +kernel) (hg1:Gl X "isinstance" := by rfl) (hg2:Gl X x:=by rfl) (hn:x ≠ "__name__" := by decide) (hd:(x == ("__debug__" : Str))=false:=by decide)
  (hs:starEach (e::[.Name x q]) X.env=(false,eval e X.env)::starEach [.Name x q] X.env:=by rfl):PE X (.Call (.Name "isinstance" p) [e,.Name x q] [] pos) (m8 (Ef X.K) (mG te (mG (tC (.ty c.name)) uf))) :=
 S8 (abw hX) hg1 h1 PyProof.Rows.boot_isinstance (iY he (iY (aaq hg2 h2 hb rfl hn hd) aG) hs) (he:=hs)
end
def off(a:Addr)(H:Hp):Hp:=λb=>if b=a then none else H b
theorem off_ne(h:b≠a):off a H b=H b:=if_neg h
theorem vG(h:off a H b=some o):b≠a/\H b=some o:=by
 unfold off at h
 split at h
 .cases h
 .rename_i e; exact⟨e,h⟩
structure Pj(Pr:Hp->Hp)(H0:Hp):Prop where
 mono:∀{H H':Hp},Same H H'->Same (Pr H) (Pr H')
 sub:∀H,Same (Pr H) H
 new:∀{H:Hp} {r:Addr} {o:HO},Same H0 H->H r=none->Pr (upd H r o) r=some o
theorem Pj.id(H0:Hp):Pj (λH=>H) H0:=⟨λs=>s,λH=>Same.refl H,λ_ _=>dM⟩
theorem Pj.le(p:Pj Pr H0)(s:Same H0 H1):Pj Pr H1:=⟨p.mono,p.sub,λs' h=>p.new (s.trans s') h⟩
theorem gD(h:H p=none)(o:HO):Same H (upd H p o):=λb u q=>by rw[bA (iV q h)]; exact q
def notStar:Expr->Bool
 |.Starred _ _=>false
 |_=>true
theorem ux(h:notStar e=true):starEach (e::es) env=(false,eval e env)::starEach es env:=by
 cases e <;> first|rfl|(unfold notStar at h; cases h)
def uy(K:FZ)(T:Tr):TE:=λ_ H Q=>∀v H',Same H H'->(∀Pr,Pj Pr H->Rep K (Pr H') v T)->Q v H'
def xr(K:FZ)(Ts:List Tr):TA:=λ_ H Q=>∀vs H',Same H H'->(∀Pr,Pj Pr H->aN K (Pr H') vs Ts)->Q vs H'
def Ei(K:FZ)(Ts:List Tr):TE:=λ_ H Q=>∀a xs H1,Same H H1->H1 a=none->(∀Pr,Pj Pr H->aN K (Pr H1) xs Ts)->xs.length=Ts.length->Q (.ref a) (upd H1 a (.lst xs))
theorem PE.imp(h:PE X e t)(i:∀σ H Q,u σ H Q->t σ H Q):PE X e u:=⟨λpins s σ H Q I q=>h pins s σ H Q I (i σ H Q q)⟩
theorem PA.imp(h:PA X e t)(i:∀σ H Q,u σ H Q->t σ H Q):PA X e u:=⟨λpos pins s σ H Q I q=>h pos pins s σ H Q I (i σ H Q q)⟩
mutual
noncomputable def pd:Tr->PyData
 |.non=>.none
 |.bl b=>.bool b
 |.int i=>.int i
 |.str x=>.str x
 |.tup ts=>.tuple (Ko ts)
 |.lst ts=>.list (Ko ts)
 |.eU _=>.none
noncomputable def Ko:List Tr->List PyData
 | []=>[]
 |t::r=>pd t::Ko r
end
def Ui:V->Option Int->Option Int->Hp->VK->Prop:=λx lo hi H Q=>∃z,x=.str z/\z.length<=sizeLine/\Q (.str (Txt.slice z lo hi)) H
theorem aby:pL X Ui:=by
 intro pins s σ H x v vl vu lo hi sl Q I rx hs pl pu h
 obtain⟨z,rfl,hz,q⟩:=h
 obtain⟨t,rfl⟩:=rx
 obtain⟨o,h1,h2,h3⟩:=hs
 have fin:∀(t':Tok) (k:Nat),EP X pins σ Q (.str (Txt.slice z lo hi) t') {s with toks:=k }:=λt' k=>⟨.str _,H,I.tok k,⟨_,rfl⟩,q⟩
 have hl:=Nat.le_trans (Txt.slice_le z lo hi) hz
 refine⟨"str",_,F.slot_str_getitem.lookup,typeIs_str _ _ _,?_⟩
 cases pl with
 |none =>
  cases pu with
  |none=>exact wpAny_getItem_str_slice (l:=none) (u:=none) (st:=none) ⟨o,h1,h2,h3⟩ rfl (post_val_or_str ⟨hl,λt' k=>fin t' k⟩)
  |int j uj=>exact wpAny_getItem_str_slice (l:=none) (u:=some (j,uj)) (st:=none) ⟨o,h1,h2,h3⟩ rfl (post_val_or_str ⟨hl,λt' k=>fin t' k⟩)
 |int i ui =>
  cases pu with
  |none=>exact wpAny_getItem_str_slice (l:=some (i,ui)) (u:=none) (st:=none) ⟨o,h1,h2,h3⟩ rfl (post_val_or_str ⟨hl,λt' k=>fin t' k⟩)
  |int j uj=>exact wpAny_getItem_str_slice (l:=some (i,ui)) (u:=some (j,uj)) (st:=none) ⟨o,h1,h2,h3⟩ rfl (post_val_or_str ⟨hl,λt' k=>fin t' k⟩)
def nw(H H':Hp):Hp:=λb=>match H b with
 |none=>H' b
 |some _=>none
noncomputable def j4(P:Program)(w:World):mH:=λouter H s E e s'=>∃ea cls a0 H' B,e=.ref ea/\E cls none H'/\s'.os=s.os/\AllBare s'.gens/\Un (frs outer) [] H H' s.heap s'.heap/\gO P w H' B /\
 Heap.FlyingW B outer ea cls a0 s'.heap/\∀b o,s.heap.get? b=some o->b∉frs outer->∃o',B.get? b=some o'
theorem abz(hf:env.frame=some L)(h:b∈frs (env::outer)):b=L\/b∈frs outer:=by
 unfold frs at h
 rw[List.filterMap_cons_some hf]at h
 exact List.mem_cons.mp h
theorem abA(h:b∈frs outer):b∈frs (env::outer):=by
 obtain⟨e,he,q⟩:=List.mem_filterMap.mp h
 exact List.mem_filterMap.mpr ⟨e,List.mem_cons_of_mem _ he,q⟩
theorem abB(x:gO P w H h)(fr:∀b∈l,H b=none):gO P w H (PySem.W.hideAll h l):=λa o e =>
 (x a o e).stay (λb u hb q=>PySem.W.hideAll_get _ q λhm=>by
  rcases hb with rfl|hb
  .rw[fr _ hm]at e; cases e
  .rw[fr _ hm]at hb; cases hb) (λ_ q=>q) λ_ _ q=>q
section
variable {P:Program}{w:World}{K:FZ}{mg:Str->Option Value}{base:Heap}{N:List Str}{qual:Str}{scope:Scope}{f:Addr}{cd:Value}{A:Around}{outer:List Env}{s:Shared}{H:Hp}{E:XK}{CX:mH}
theorem Un.left{pins:List (Addr × Obj)}{σ : St}{H1 H2:Hp}{s1:Shared}{h2 h3 B:Heap}(I:Inv (lJ CX P w K mg base N qual scope f cd A outer s H E) pins σ H1 s1)
  (u:Un (frs (envOfC qual scope s.heap.objs.size f cd::outer)) [] H1 H2 s1.heap h2) (st:B.StaysIn h2) (kb:∀b o,s1.heap.get? b=some o->b∉frs (envOfC qual scope s.heap.objs.size f cd::outer)->∃o',B.get? b=some o')
  (fl:B.StaysIn h3) (sl:h2.UpToSlots h3):Un (frs outer) [] H H2 s.heap h3/\∀b o,s.heap.get? b=some o->b∉frs outer->∃o',B.get? b=some o':=by
 have ub:=I.base
 have hf:(envOfC qual scope s.heap.objs.size f cd).frame=some s.heap.objs.size:=by
  rcases I.ok.stk with z|z
  .exact absurd (congrArg List.length z) (by show outer.length+1≠outer.length; omega)
  .exact z.2
 have no:∀b o,s.heap.get? b=some o->b∉frs outer->b∉frs (envOfC qual scope s.heap.objs.size f cd::outer):=λb o e n z=>by
  rcases abz hf z with rfl|z
  .exact absurd (Heap.lt_size e) (Nat.lt_irrefl _)
  .exact n z
 have nx:∀b:Addr,b∉([]:List Addr):=λb z=>nomatch z
 have inB:∀b o,s.heap.get? b=some o->b∉frs outer->∃o',B.get? b=some o':=λb o e n=>by
  obtain⟨o1,e1⟩:=ub.there b o e (nx b)
  exact kb b o1 e1 (no b o e n)
 have slots:∀b o,s.heap.get? b=some o->H b=none->b∈frs outer->∃sl,h3.get? b=some {o with slots:=sl }:=λb o e n z=>by
  obtain⟨Uj,e1⟩:=ub.slot b o e n z (nx b)
  obtain⟨sl2,e2⟩:=u.slot b _ e1 (ub.free b o e n (nx b)) (abA z) (nx b)
  obtain⟨_,o',e',nf⟩:=I.ok.oM.mem z
  have e'':s.heap.get? b=some o':=e'
  rw[e]at e''
  cases e''
  obtain⟨Kp,e3⟩:=sl b _ e2 nf
  exact⟨Kp,e3⟩
 refine⟨⟨λb o e n z _=>?_,λb o e n z _=>slots b o e n z,λb o e n _=>?_,λb o e _=>?_,λb xs q=>u.tups b xs (ub.tups b xs q),λb o q z=>u.pF b o q (ub.pF b o q z),λb ps q=>?_⟩,inB⟩
 .have e1:=ub.keep b o e n z (nx b)
  have e2:=u.keep b o e1 (ub.free b o e n (nx b)) (no b o e z) (nx b)
  obtain⟨o',e3⟩:=inB b o e z
  have e4:=st b o' e3
  rw[e2]at e4
  cases e4
  exact fl b o e3
 .obtain⟨o1,e1⟩:=ub.there b o e (nx b)
  exact u.free b o1 e1 (ub.free b o e n (nx b)) (nx b)
 .by_cases z:b∈frs outer
  .obtain⟨sl,e1⟩:=slots b o e (I.ok.u9 b z) z
   exact⟨_,e1⟩
  .obtain⟨o',e1⟩:=inB b o e z
   exact⟨o',fl b o' e1⟩
 .obtain⟨m1,e1⟩:=ub.pG b ps q
  obtain⟨m2,e2⟩:=u.pG b _ e1
  exact⟨m1++m2,by rw[e2,Array.append_assoc]⟩
end
def Raises(X:Cx)(E:XK):Prop:=∀(pins:List (Addr × Obj)) (σ : St) (H:Hp) (s:Shared) (h':Heap) (e C:Addr) (us:List Value),Inv X pins σ H s->Heap.MadeExcOf s.heap h' e (.ref C) us->E (.ref C) none H->X.xe (.ref e) {s with heap:=h' }
theorem yX{P:Program}{w:World}{K:FZ}{mg:Str->Option Value}{base:Heap}{N:List Str}{qual:Str}{scope:Scope}{f:Addr}{cd:Value}{A:Around}{outer:List Env}{s:Shared}{H:Hp}{E:XK} :
  Raises (lJ (j4 P w) P w K mg base N qual scope f cd A outer s H E) E:=by
 intro pins σ H1 s1 h' e C us I hx q
 have hs:=I.stack
 have hf:(envOfC qual scope s.heap.objs.size f cd).frame=some s.heap.objs.size:=by
  rcases I.ok.stk with z|z
  .exact absurd (congrArg List.length z) (by show outer.length+1≠outer.length; omega)
  .exact z.2
 have hin:∀env∈(envOfC qual scope s.heap.objs.size f cd::outer),∀a,env.frame=some a->a∈frs (envOfC qual scope s.heap.objs.size f cd::outer):=λenv he b hb=>List.mem_filterMap.mpr ⟨env,he,hb⟩
 have Uk:(PySem.W.hideAll s1.heap (frs (envOfC qual scope s.heap.objs.size f cd::outer))).StaysIn s1.heap:=λb o z=>PySem.W.of_hideAll _ z
 have stH:=λb o z=>hx.keeps b o (Uk b o z)
 refine wpAny_leaves_madeW (base:=PySem.W.hideAll s1.heap (frs (envOfC qual scope s.heap.objs.size f cd::outer))) (h:=s1.heap) I.ok.frames hf Uk (PySem.W.funFrames_hide hs hin) hx λh'' t fl _ _ sl=>?_
 obtain⟨un,ib⟩:=Un.left (B:=PySem.W.hideAll s1.heap (frs (envOfC qual scope s.heap.objs.size f cd::outer))) I (Un.kept (h':=h') hx.keeps) stH (λb o z n=>⟨o,PySem.W.hideAll_get _ z n⟩) fl.1 sl
 exact⟨e,.ref C,.ref t,H1,_,rfl,q,I.os,I.bare,un,abB I.hok I.Df,fl,ib⟩
theorem cY{P:Program}{w:World}{K:FZ}{mg:Str->Option Value}{base:Heap}{N:List Str}{qual:Str}{scope:Scope}{f:Addr}{cd:Value}{A:Around}{outer:List Env}{s:Shared}{H:Hp}{E:XK} :
  Passes (j4 P w) (lJ (j4 P w) P w K mg base N qual scope f cd A outer s H E) E:=by
 intro pins σ H1 s1 e s' I h
 obtain⟨ea,cls,a0,H2,B,rfl,q,os,bare,un,hok,fl,kb⟩:=h
 have hf:(envOfC qual scope s.heap.objs.size f cd).frame=some s.heap.objs.size:=by
  rcases I.ok.stk with z|z
  .exact absurd (congrArg List.length z) (by show outer.length+1≠outer.length; omega)
  .exact z.2
 refine wpAny_leaves_onW (base:=B) I.ok.frames hf fl λh'' Ul sl=>?_
 obtain⟨un',ib⟩:=Un.left (B:=B) I un fl.1 kb Ul.1 sl
 exact⟨ea,cls,a0,H2,B,rfl,q,os.trans I.os,bare,un',hok,Ul,ib⟩
def Um(E:XK)(C:Addr)(te:TE):TS:=λ_ σ H=>te σ H λv H1=>[v].length=1/\E (.ref C) none H1
theorem yZ(R:Raises X E)(O:OwnCls x C bm newId X.mg X.base)(FB:ExcBaseFacts B newId initId bm)(hc:X.calm=true)(ha:PE X e te)
  (hg:Gl X x:=by rfl) (hd:(x == ("__debug__" : Str))=false:=by decide) (hs:starEach [e] X.env=[(false,eval e X.env)]:=by rfl) :
  PS X (.Raise (some (.Call (.Name x np) [e] [] cpos)) none pos) (Um E C te):=by
 refine⟨λpins s σ H D I h=>?_⟩
 obtain⟨tl,N,nm,q,bs,hdct,sn,sub,ab,col,dd,k0,k1,k2,k3,k5,mN,hC,hN,hni,T⟩:=O.obj
 refine wpAny_Raise_call_subT (C:=C) (nm:=nm) (q:=q) (N:=N) (bs:=bs) (bm:=tl) (hdct:=hdct) (sn:=sn) (sub:=sub) (ab:=ab) (col:=col) (dd:=dd) (k0:=k0) (k1:=k1) (k2:=k2) (k3:=k3) (k5:=k5)
  FB (mN:=mN) (T.hasType FB.hasBase) (I.ok.hd hc) (by rw[hs]; rfl) hni (Jt I hg O.bound ⟨rfl,?_⟩ hd)
 have ga:=iY ha aG (by rw[hs]; rfl)
 have z:=ga cpos pins s σ H (λvs H1=>vs.length=1/\E (.ref C) none H1) I (by
  exact h)
 rw[hs]at z ⊢
 refine Calls.evalArgs_plain (wpAny_mono z (λus s₂ h₂=>?_) λ_ _ y=>y)
 obtain⟨vs,H2,I2,rv,hl,hE⟩:=h₂
 refine⟨rfl,?_,I2.bk _ _ hC,hN.keeps I2.bk,T.keeps I2.bk,λh' e' hm=>R pins σ H2 s₂ h' e' C us I2 hm hE⟩
 rw[<-rv.length,hl]
 decide
def XP(X:Cx)(pins:List (Addr × Obj))(EX:St->XK)(e:Value)(s':Shared):Prop:=∃σ H s,Inv X pins σ H s/\j4 X.prog X.w X.stack H s (EX σ) e s'
abbrev TX:=Ends->(St->XK)->St->Hp->Prop
abbrev TEX:=(St->XK)->TE
end L2
end
section
namespace L2
open PySem PySem.Spec PyProof.Rows PySem.W PySem.Builtin PySem.Builtin.ObjectAttr PySem.Builtin.Getset_descriptor
structure qe(K:Frag)(C:Addr):Prop where
 ga:findIn K (.ref C) "__getattribute__" = some (some (.builtin "BaseException.__getattribute__"))
 gn:findIn K (.ref C) "__getattr__" = some none
 cl:findIn K (.ref C) "__class__" = some (some (.builtin "object.__class__"))
 ob:mroIn K C (.type "object")=some true
 be:mroIn K C (.type "BaseException")=some true
 is:(clsIn K C).isSome=true
section
variable {prog:Program}{w:World}{A:Around}{E:Value->Shared->Prop}{h:Heap}{g:Array GenState}{d:Drawn}{t:Nat}{os:OsState}{a C:Addr}{o:Obj}{K:Frag}
theorem abC(X:K.In h)(Z:qe K C)(hx:h.get? a=some o)(hc:o.cls=.ref C)(hq:R (.ok (.ret (.ref C))) ⟨h,g,d,t,os⟩) :
  codeAny (model prog w) A (.call (.builtin "getset_descriptor.__get__") ⟨[.builtin "object.__class__",.ref a,.ref C],[]⟩) R ⟨h,g,d,t,os⟩:=by
 have ty:Looks (model prog w) h (typeOf (.ref a)) (.ref C):=hc▸(Looks.ld hx).andThen .now
 have ms:=looks_mroIn (M:=model prog w) X Z.ob
 refine codeAny_call_builtin KF.slot_gs.plain KF.entry_gs (KF.slot_gs.check _ _ _ _ _ _ _ _ KF.type_class (KF.args_gs _ _ _) ?_)
 unfold Builtin.«getset_descriptor.__get__»
 unfold Builtin.Getset_descriptor.descrGet
 rw[dga_obj]
 refine wpAny_bind (wpAny_pure ?_)
 unfold Builtin.Getset_descriptor.descrGetter
 unfold Builtin.Getset_descriptor.descrCheckInstance
 unfold Builtin.Getset_descriptor.descrNameAndClass
 unfold isInstance
 simp only[KF.owner_class]
 repeat lk
 refine⟨Code.quiet_builtin _ (by decide +kernel),codeAny_builtin KF.entry_class ?_⟩
 unfold Builtin.«object.__class__»
 unfold shownTypeOf
 repeat lk
 all_goals first|exact hq|assumption
theorem abD(X:K.In h)(Z:qe K C)(hx:h.get? a=some o)(hc:o.cls=.ref C)(hq:Q (.done (.ret (.ref C))) ⟨h,g,d,t,os⟩) :
  wpAny (model prog w) A (Builtin.«object.__getattribute__» ⟨[.ref a,.str "__class__" tk],[]⟩) Q E ⟨h,g,d,t,os⟩:=by
 have hT5:(⟨h,g,d,t,os⟩:Shared).TypeIs (.builtin "object.__class__") "getset_descriptor" := KF.type_class
 have f6:=F.slot_gs_get.lookup
 have f7:=F.slot_gs_set.lookup
 have lc:=λA (Q:Option Value->Shared->Prop) E (q:Q (some (.builtin "object.__class__")) ⟨h,g,d,t,os⟩)=>looks_findIn (M:=model prog w) X Z.cl A Q E ⟨h,g,d,t,os⟩ (λ_ _ z=>z) q
 repeat(any_goals (first|assumption|(with_reducible refine wpAny_loadPart_at hx ?_; rw[hc])|with_reducible refine lc _ _ _ ?_|wp_step))
 refine abC X Z hx hc ?_
 repeat(any_goals (first|assumption|wp_step))
theorem abE(X:K.In h)(Z:qe K C)(hx:h.get? a=some o)(hc:o.cls=.ref C)(hq:Q () ⟨h,g,d,t,os⟩) :
  wpAny (model prog w) A (checkBuiltinCall "BaseException.__getattribute__" ⟨[.ref a,nameV],[]⟩) Q E ⟨h,g,d,t,os⟩:=by
 have b1:builtinKind "BaseException.__getattribute__" = some .slot:=by decide +kernel
 have b2:splitId "BaseException.__getattribute__" = some ("BaseException", "__getattribute__"):=by decide +kernel
 have ha:=F.args_bexc_ga (.ref a) nameV
 have lc:=λA (Q:Bool->Shared->Prop) E (q:Q true ⟨h,g,d,t,os⟩)=>looks_mroIn (M:=model prog w) X Z.be A Q E ⟨h,g,d,t,os⟩ (λ_ _ z=>z) q
 simp only[checkBuiltinCall,b1,b2]
 refine wpAny_bind ?_
 unfold isInstance
 repeat(first|(with_reducible refine wpAny_loadPart_at hx ?_; rw[hc])|with_reducible refine lc _ _ _ ?_|wp_step)
 exact hq
theorem abF(X:K.In h)(Z:qe K C)(hx:h.get? a=some o)(hc:o.cls=.ref C)(hq:R (.ok (.ret (.ref C))) ⟨h,g,d,t,os⟩) :
  codeAny (model prog w) A (.call (.builtin "BaseException.__getattribute__") ⟨[.ref a,.str "__class__" tk],[]⟩) R ⟨h,g,d,t,os⟩ :=
 codeAny_call_builtin PySem.F.attr_ValueError.ga.plain F.entry_bexc_ga (abE X Z hx hc (abD X Z hx hc hq))
theorem abG(X:K.In h)(Z:qe K C)(hx:h.get? a=some o)(hc:o.cls=.ref C)(hq:Q (.ref C) ⟨h,g,d,t,os⟩) :
  wpAny (model prog w) A (getAttrBy (.ref a) (.str "__class__" tk) false) Q E ⟨h,g,d,t,os⟩:=by
 have f3:=PySem.F.attr_ValueError.ga.bind (.ref a)
 have hx2:(Value.builtin "BaseException.__getattribute__" == Value.builtin "object.__getattribute__")=false:=by decide +kernel
 have hx1:(onTheHeap (Value.ref C)&&Value.builtin "BaseException.__getattribute__" == Value.builtin "object.__getattribute__")=false:=by rw[hx2]; rfl
 have l1:=λA (Q:Option Value->Shared->Prop) E (q:Q (some (.builtin "BaseException.__getattribute__")) ⟨h,g,d,t,os⟩)=>looks_findIn (M:=model prog w) X Z.ga A Q E ⟨h,g,d,t,os⟩ (λ_ _ z=>z) q
 have l2:=λA (Q:Option Value->Shared->Prop) E (q:Q none ⟨h,g,d,t,os⟩)=>looks_findIn (M:=model prog w) X Z.gn A Q E ⟨h,g,d,t,os⟩ (λ_ _ z=>z) q
 repeat(any_goals (first|assumption|(with_reducible refine wpAny_loadPart_at hx ?_; rw[hc])|with_reducible refine l1 _ _ _ ?_|with_reducible refine l2 _ _ _ ?_|wp_step))
 refine abF X Z hx hc ?_
 repeat(any_goals (first|assumption|wp_step))
theorem abH(X:K.In h)(Z:qe K C)(hx:h.get? a=some o)(hc:o.cls=.ref C)(hq:Q (some (.ref C)) ⟨h,g,d,t+1,os⟩) :
  wpAny (model prog w) A (getAttr? (.ref a) "__class__") Q E ⟨h,g,d,t,os⟩:=by
 repeat(any_goals (first|assumption|with_reducible apply abG X Z hx hc|wp_step))
theorem abI(Z:qe K C):KitX K (.ref a) (.ref C) (J9 a C) where
 ty:=λ_ _ _ ⟨o,_,h1,h2,_⟩=>h2▸(Looks.ld h1).andThen .now
 it:=λ_ _ X _=>by
  obtain⟨cd,e⟩:=Option.isSome_iff_exists.mp Z.is
  unfold clsIn at e
  split at e
  .rename_i ho
   intro A' Q' E' s' k q
   unfold isType loadHead
   exact wpAny_bind (wpAny_loadPart (k _ _ (X _ _ ho)) (wpAny_pure q))
  .cases e
 ne:=λh tp dd its n sl X htp=>by
  obtain⟨cd,e⟩:=Option.isSome_iff_exists.mp Z.is
  refine Bool.eq_false_iff.mpr λq=>?_
  have q':C=tp:=Value.ref.inj (beq_iff_eq.mp q)
  subst q'
  unfold clsIn at e
  split at e
  .rename_i ho
   have z:=(X _ _ ho).symm.trans htp
   cases z
  .cases e
 ca:=λ{_ _ _ _ _ s} X p k=>by
  obtain⟨h,g,d,t,os⟩:=s
  obtain⟨o,_,h1,h2,_⟩:=p
  exact abH X Z h1 h2 k
end
open PySem
theorem abJ(a b:Int):a=b*a.fdiv b+a.fmod b:=by
 have:=Int.mul_fdiv_add_fmod a b
 omega
theorem Uo(a b:Int)(h:b≠0):(a.fmod b).natAbs<b.natAbs:=by
 have h1:=Int.emod_nonneg a h
 have h2:=Int.emod_lt a h
 rw[Int.fmod_eq_emod]
 split
 .omega
 .rename_i hn
  have hb:¬0<=b:=λz=>hn (.inl z)
  have hd:¬b∣a:=λz=>hn (.inr z)
  have h3:a%b≠0:=λz=>hd (Int.dvd_of_emod_eq_zero z)
  omega
theorem Uq(a b:Int):Int.gcd b (a.fmod b)=Int.gcd a b:=by
 have e:=abJ a b
 apply Nat.dvd_antisymm
 .refine Int.dvd_gcd ?_ ?_
  .have h1:(Int.gcd b (a.fmod b):Int)∣b:=Int.gcd_dvd_left ..
   have h2:(Int.gcd b (a.fmod b):Int)∣a.fmod b:=Int.gcd_dvd_right ..
   have h3:=Int.dvd_add (Int.dvd_mul_of_dvd_left (c:=a.fdiv b) h1) h2
   rw[<-e]at h3
   exact h3
  .exact Int.gcd_dvd_left ..
 .refine Int.dvd_gcd ?_ ?_
  .exact Int.gcd_dvd_right ..
  .have h1:(Int.gcd a b:Int)∣a:=Int.gcd_dvd_left ..
   have h2:(Int.gcd a b:Int)∣b:=Int.gcd_dvd_right ..
   have e2:a.fmod b=a-b*a.fdiv b:=by omega
   rw[e2]
   exact Int.dvd_sub h1 (Int.dvd_mul_of_dvd_left h2)
theorem abK(a:Int):(if a<0 then -a else a)=((Int.gcd a 0:Nat):Int):=by
 rw[Int.gcd_zero_right]
 split <;> omega
theorem zf(hb:0<b):0<((Int.gcd a b:Nat):Int)/\((Int.gcd a b:Nat):Int)<=b/\1<=b / (Int.gcd a b:Nat)/\Int.gcd (a / (Int.gcd a b:Nat)) (b / (Int.gcd a b:Nat))=1/\(0<=a->0<=a / (Int.gcd a b:Nat)) /\
  a=(a / (Int.gcd a b:Nat))*(Int.gcd a b:Nat)/\b=(b / (Int.gcd a b:Nat))*(Int.gcd a b:Nat):=by
 have hg:0<Int.gcd a b:=Int.gcd_pos_of_ne_zero_right a (by omega)
 have hgi:0<((Int.gcd a b:Nat):Int):=by omega
 have d1:(Int.gcd a b:Int)∣a:=Int.gcd_dvd_left ..
 have d2:(Int.gcd a b:Int)∣b:=Int.gcd_dvd_right ..
 have e1:=Int.ediv_mul_cancel d1
 have e2:=Int.ediv_mul_cancel d2
 refine⟨hgi,Int.le_of_dvd hb d2,?_,Int.gcd_ediv_gcd_ediv_gcd hg,λh=>Int.ediv_nonneg h (by omega),e1.symm,e2.symm⟩
 have:0<b / (Int.gcd a b:Nat):=Int.ediv_pos_of_pos_of_dvd hb (by omega) d2
 omega
open PySem.Spec PyProof.Rows
theorem abL(h1:1<=q)(h2:1<=q')(g1:Int.gcd p q=1)(g2:Int.gcd p' q'=1)(e:p*q'=p'*q):p=p'/\q=q':=by
 have en:p.natAbs*q'.natAbs=p'.natAbs*q.natAbs:=by rw[<-Int.natAbs_mul,<-Int.natAbs_mul,e]
 have c1:Nat.Coprime q.natAbs p.natAbs:=by rw[Nat.coprime_comm]; exact g1
 have c2:Nat.Coprime q'.natAbs p'.natAbs:=by rw[Nat.coprime_comm]; exact g2
 have d1:q.natAbs∣q'.natAbs:=c1.dvd_of_dvd_mul_left ⟨p'.natAbs,by rw[en,Nat.mul_comm]⟩
 have d2:q'.natAbs∣q.natAbs:=c2.dvd_of_dvd_mul_left ⟨p.natAbs,by rw[<-en,Nat.mul_comm]⟩
 have ea:=Nat.dvd_antisymm d1 d2
 have eq:q=q':=by omega
 refine⟨?_,eq⟩
 rw[<-eq]at e
 exact Int.eq_of_mul_eq_mul_right (by omega) e
open PySem.W
theorem Ej{K:Frag}{h:Heap}{mg:Str->Option Value}{x:Str}{C:Addr}{bmB:List Value}{newId:String}(X:K.In h)(G:h.Ns mainGlobals mg)(e:nsIn K mainGlobals x=some (some (.ref C)))(q:excIn K C bmB newId=true):OwnCls x C bmB newId mg h:=by
 constructor
 .exact mg_of X G e
 unfold excIn at q
 split at q
 case h_2=>cases q
 rename_i dd cd sl lk
 split at q
 case h_2=>cases q
 rename_i c0 bm y0 y1 y2 y3 nid y5 hm hl
 rw[Bool.and_eq_true,Bool.and_eq_true,Bool.and_eq_true,Bool.and_eq_true,Bool.and_eq_true]at q
 obtain⟨⟨⟨⟨⟨q1,q2⟩,q3⟩,q4⟩,q5⟩,q6⟩:=q
 have r1:=beq_iff_eq.mp q1
 have r2:=beq_iff_eq.mp q2
 have r6:=beq_iff_eq.mp q6
 have r3:cd.hasDel=false:=by simpa using q3
 subst r1 r2
 have hsl:sl = #[y0,y1,y2,y3,some (.builtin nid),y5]:=by
  cases sl with
  |mk l=>exact congrArg Array.mk hl
 subst hsl
 cases cd with
 |mk nm bs mro ns qn hd sn sub ab col del =>
  subst hm r3
  exact⟨bm,ns,nm,qn,bs,hd,sn,sub,ab,col,dd,y0,y1,y2,y3,y5,_,X _ _ lk,.of_isNs (isNs_of_in X q5),nsMap_none_of_in X q5 r6,tail_of_in X q4⟩
section
variable {P:Program}{w:World}{K:Frag}{mg:Str->Option Value}{base:Heap}
theorem vp.okX{x qual:Str}{st:Stmt}{f:Addr}{fd:FuncData}{N ps:List Str}{k:Nat}{sp:Sp}(F:vp K x qual st f fd)(S:rJ N ps (bC st))(len:∀vs H Q E,sp vs H Q E->vs.length=ps.length)
  (hbody:∀(cdv:Value) (A:Around) (outer:List Env) (s:Shared) (H:Hp) (vs:List V) (Q:VK) (E:XK),gQ k (A.deeper (envOfC qual (bC st) s.heap.objs.size f cdv))->sp vs H Q E ->
   ∃t,jV (lJ (j4 P w) P w K mg base N qual (bC st) f cdv A outer s H E) (jY st) t/\t {nx:=λ_ H'=>Q .non H',rt:=Q } (start N vs) H):m7 P w K mg base (j4 P w) (k+1) f fd ps sp:=by
 obtain⟨oc,od,kV,doc,pm,an,cdv,ct,osl,rfl,lk,hcd⟩:=F.ex
 exact S7 lk hcd S len λA outer s H vs Q E hr h=>hbody cdv A outer s H vs Q E hr h
def aQ(P:Program)(w:World)(K:Frag)(mg:Str->Option Value)(base:Heap)(k:Nat)(x:Str)(ps:List Str)(sp:Sp):Prop :=
 ∃f fd,m7 P w K mg base (j4 P w) k f fd ps sp/\Binds K fd ps []/\keepIn K (.ref f)=true/\mg x=some (.ref f)
theorem aQ.mono(D:aQ P w K mg base j x ps sp)(h:j<=k):aQ P w K mg base k x ps sp:=by
 obtain⟨f,fd,h1,h2⟩:=D
 exact⟨f,fd,h1.mono h,h2⟩
theorem At.Ur{k:Nat}{x:Str}{st:Stmt}{N ps:List Str}{sp:Sp}(a:At K mg x st)(S:rJ N ps (bC st))
  (hb:∀(kV doc pm:Value) (an:Option Addr) (cdv ct:Value) (us:List Value),us.length=ps.length->bindArgs (fnOf x x (pN st) (jY st) (bC st) .none kV doc pm an cdv ct) ⟨us,[]⟩=pure (ps.zip us))
  (len:∀vs H Q E,sp vs H Q E->vs.length=ps.length)
  (hbody:∀(f:Addr) (cdv:Value) (A:Around) (outer:List Env) (s:Shared) (H:Hp) (vs:List V) (Q:VK) (E:XK),gQ k (A.deeper (envOfC x (bC st) s.heap.objs.size f cdv))->sp vs H Q E ->
   ∃t,jV (lJ (j4 P w) P w K mg base N x (bC st) f cdv A outer s H E) (jY st) t/\t {nx:=λ_ H'=>Q .non H',rt:=Q } (start N vs) H):aQ P w K mg base (k+1) x ps sp:=by
 obtain⟨f,fd,F,m⟩:=a
 exact⟨f,fd,F.okX S len λcdv A outer s H vs Q E hr h=>hbody f cdv A outer s H vs Q E hr h,F.binds hb,F.kp,m⟩
end
section
variable {X:Cx}{k:Nat}{x:Str}{ps:List Str}{sp:Sp}{p pos:Pos}{e:Expr}{es:List Expr}{t:TA}
theorem abM:Passes (j4 P w) X E0:=λ_ _ _ _ _ _ _ h=>by
 obtain⟨_,_,_,_,_,_,q,_⟩:=h
 exact q.elim
end
end L2
end
section
namespace L2
open PySem PySem.Spec PyProof.Rows
noncomputable def Kq(K:FZ)(l1 l2:Addr):It where
 go:=λi H=>∃xs ys x y,bH K H l1 xs/\bH K H l2 ys/\xs[i]?=some x/\ys[i]?=some y
 oR:=λi H v H'=>∃T x y,v=.ref T/\H T=none/\H'=upd H T (.tup [x,y])/\∀xs ys,bH K H l1 xs->bH K H l2 ys->xs[i]?=some x/\ys[i]?=some y
 stop:=λi H=>∃xs ys,bH K H l1 xs/\bH K H l2 ys/\i=min xs.length ys.length
def abN(l1 l2 z TI TO i1 i2:Addr)(i:Nat)(h:Heap):Prop:=IsZip h z TI TO .none/\IsPair h TI (.ref i1) (.ref i2)/\(∃a b,IsPair h TO a b)/\h.IsListIter i1 l1 i/\h.IsListIter i2 l2 i
section
variable {P:Program}{w:World}{K:FZ}
theorem Inv.Kr{pins:List (Addr × Obj)}{tk:Nat}{fp:List Addr}{xs:List V}{its:List Value}(I:Inv X pins σ H s)(hf:∀b∈fp,gH X pins H b)(k:∀b o,b∉fp->s.heap.get? b=some o->h'.get? b=some o)
  (th:∀b∈fp,∃o,h'.get? b=some o) (hT:s.heap.objs.size<=T) (ht:IsTup h' T its.toArray) (rv:Vals xs its) (hz:xs.length<=sizeLine):Inv X pins σ (upd H T (.tup xs)) {s with heap:=h',toks:=tk }:=by
 have fT:H T=none:=I.hok.fresh hT
 have neT:∀b o,s.heap.get? b=some o->b≠T:=λb o e z=>by rw[z]at e; exact absurd (Heap.lt_size e) (Nat.not_lt.mpr hT)
 have zj:∀b o,H b=some o->b≠T:=λb o e z=>by rw[z,fT]at e; cases e
 refine I.step (g':=s.gens) (d':=s.drawn) (ch:=fp) (λb hb=>?_) (λb o _ _ hc e _=>k b o hc e) (λb o _ _ hc e _=>⟨o.slots,k b o hc e⟩) (λb o _ e n=>by rw[bA (neT b o e)]; exact n) (λb o hc e=>⟨o,k b o hc e⟩)
  (λb ys e=>by rw[bA (zj b _ e)]; exact e) (λb o u e=>by rw[bA (zj b _ e)]; exact e) (λb ps e=>⟨#[],by rw[bA (zj b _ e)]; simpa using e⟩) (λm hm=>?_) (λb u e=>?_) I.bare
 .obtain⟨f0,f1,f2,f3,f4,f5⟩:=hf b hb
  exact⟨f3,f1,f4,f5⟩
 .obtain⟨o,es,ep,ho,r⟩:=hm
  exact⟨o,es,ep,k _ o (λz=>(hf _ z).2.1 rfl) ho,r⟩
 .by_cases z:b=T
  .subst z
   rw[dM]at e
   cases e
   exact⟨hz,its,rv,ht⟩
  .rw[bA z]at e
   refine(I.hok b u e).stay (λc o hc q=>k c o (λzc=>?_) q) (λc q=>by rw[bA (zj c _ q)]; exact q) λc ys q=>by rw[bA (zj c _ q)]; exact q
   have:=(hf c zc).1
   rcases hc with rfl|hc
   .rw[this]at e; cases e
   .rw[this]at hc; cases hc
theorem Inv.Ks{pins:List (Addr × Obj)}{tk:Nat}{fp:List Addr}(I:Inv X pins σ H s)(hf:∀b∈fp,gH X pins H b)(k:∀b o,b∉fp->s.heap.get? b=some o->h'.get? b=some o):Inv X pins σ H {s with heap:=h',toks:=tk }:=by
 refine I.step (g':=s.gens) (d':=s.drawn) (ch:=fp) (λb hb=>?_) (λb o _ _ hc e _=>k b o hc e) (λb o _ _ hc e _=>⟨o.slots,k b o hc e⟩) (λb o _ e n=>n) (λb o hc e=>⟨o,k b o hc e⟩)
  (λb ys e=>e) (λb o u e=>e) (λb ps e=>⟨#[],by simpa using e⟩) (λm hm=>?_) (λb u e=>?_) I.bare
 .obtain⟨f0,f1,f2,f3,f4,f5⟩:=hf b hb
  exact⟨f3,f1,f4,f5⟩
 .obtain⟨o,es,ep,ho,r⟩:=hm
  exact⟨o,es,ep,k _ o (λz=>(hf _ z).2.1 rfl) ho,r⟩
 .refine(I.hok b u e).stay (λc o hc q=>k c o (λzc=>?_) q) (λc q=>q) λc ys q=>q
  have:=(hf c zc).1
  rcases hc with rfl|hc
  .rw[this]at e; cases e
  .rw[this]at hc; cases hc
theorem abO{elts:List Expr}{k:Nat}(l1 l2 z TI TO i1 i2:Addr)(D:ZipApart z TI TO i1 i2 l1 l2):Turn P w K (.Tuple elts k pos) (Kq K l1 l2) [z,TI,TO,i1,i2] z (abN l1 l2 z TI TO i1 i2) where
 mem:=by simp
 obj:=λi h st b hb=>by
  obtain⟨hz,hTI,⟨a,c,hTO⟩,⟨o1,e1,_,d1⟩,⟨o2,e2,_,d2⟩⟩:=st
  have hb':b=z\/b=TI\/b=TO\/b=i1\/b=i2:=by simpa using hb
  rcases hb' with rfl|rfl|rfl|rfl|rfl
  .exact⟨_,hz,λv q=>nomatch q⟩
  .exact⟨_,hTI,λv q=>nomatch q⟩
  .exact⟨_,hTO,λv q=>nomatch q⟩
  .exact⟨o1,e1,λv q=>by rw[d1]at q; cases q⟩
  .exact⟨o2,e2,λv q=>by rw[d2]at q; cases q⟩
 keep:=λi h h' st kp=>by
  obtain⟨hz,hTI,⟨a,c,hTO⟩,h1,h2⟩:=st
  exact⟨kp z (by simp) _ hz,kp TI (by simp) _ hTI,⟨a,c,kp TO (by simp) _ hTO⟩,h1.at λo e=>kp i1 (by simp) o e,h2.at λo e=>kp i2 (by simp) o e⟩
 item:=by
  intro X hP hw hK hc i pins s σ H E I hf st hg
  subst hP hw hK
  obtain⟨xs,ys,x,y,q1,q2,hx,hy⟩:=hg
  obtain⟨lK,rR,p1,_⟩:=I.list q1
  obtain⟨its2,kE,p2,_⟩:=I.list q2
  obtain⟨u,hu,ru⟩:=rR.get hx
  obtain⟨v,hv,rv⟩:=kE.get hy
  have W:=WalksT.zip2 (prog:=X.prog) (w:=X.w) (A:=X.A) (I.ok.hd hc) z TI TO i1 i2 l1 l2 D lK.toArray its2.toArray
  have lt1:i<lK.length:=(List.getElem?_eq_some_iff.mp hu).1
  have dU:i<its2.length:=(List.getElem?_eq_some_iff.mp hv).1
  refine W.item i s _ E (by simp; omega) ⟨st.1,st.2.1,st.2.2.1,st.2.2.2.1,st.2.2.2.2,p1.isList,p2.isList⟩ λT vals h' tk hp hT ht mid kk=>?_
  obtain⟨u',v',e1,e2,rfl⟩:=hp
  have eu:u'=u:=by
   have:lK[i]?=some u':=by simpa using e1
   rw[hu]at this; cases this; rfl
  have ev:v'=v:=by
   have:its2[i]?=some v':=by simpa using e2
   rw[hv]at this; cases this; rfl
  subst eu ev
  refine⟨.ref T,rfl,?_⟩
  refine W.go elts k pos i T _ _ E mid λh'' st' zm=>?_
  have nT:=W.apart i T _ mid
  have ob:=(λb hb=>(by
   obtain⟨hz,hTI,⟨a,c,hTO⟩,⟨o1,e1,_,d1⟩,⟨o2,e2,_,d2⟩⟩:=st
   have hb':b=z\/b=TI\/b=TO\/b=i1\/b=i2:=by simpa using hb
   rcases hb' with rfl|rfl|rfl|rfl|rfl
   .exact Heap.lt_size hz
   .exact Heap.lt_size hTI
   .exact Heap.lt_size hTO
   .exact Heap.lt_size e1
   .exact Heap.lt_size e2:b<s.heap.objs.size):∀b∈[z,TI,TO,i1,i2],b<s.heap.objs.size)
  have Ku:T∉[z,TI,TO,i1,i2]:=λm=>absurd (ob T m) (Nat.not_lt.mpr hT)
  have sub:∀b,b∉[z,TI,TO,i1,i2]->b∉[z,TO,i1,i2]:=λb n m=>n (by simp at m ⊢; rcases m with rfl|rfl|rfl|rfl <;> simp)
  have Ky:IsTup h'' T #[u',v']:=by
   obtain⟨o,e,r⟩:=ht
   exact⟨o,zm T o nT e,r⟩
  have th:∀b∈[z,TI,TO,i1,i2],∃o,h''.get? b=some o:=λb hb=>by
   obtain⟨hz,hTI,⟨a,c,hTO⟩,⟨o1,e1,_,d1⟩,⟨o2,e2,_,d2⟩,_⟩:=st'
   have hb':b=z\/b=TI\/b=TO\/b=i1\/b=i2:=by simpa using hb
   rcases hb' with rfl|rfl|rfl|rfl|rfl
   .exact⟨_,hz⟩
   .exact⟨_,hTI⟩
   .exact⟨_,hTO⟩
   .exact⟨_,e1⟩
   .exact⟨_,e2⟩
  have I':Inv X pins σ (upd H T (.tup [x,y])) {s with heap:=h'',toks:=tk }:=I.Kr (its:=[u',v']) hf (λb o n e=>zm b o (sub b n) (kk b o (sub b n) e)) th hT Ky (.cons ru (.cons rv .nil)) (by show 2<=sizeLine; decide)
  refine⟨.ref T,_,I',rfl,⟨T,x,y,rfl,I.hok.fresh hT,rfl,λxs' ys' a1 a2=>?_⟩,⟨st'.1,st'.2.1,st'.2.2.1,st'.2.2.2.1,st'.2.2.2.2.1⟩,λb hb=>?_⟩
  .rw[I.tY a1 q1,I.tY a2 q2]
   exact⟨hx,hy⟩
  .have nb:b≠T:=by
    intro e0
    rw[e0]at hb
    exact Ku hb
   rw[bA nb]
   exact(hf b hb).1
 done:=by
  intro X hP hw hK hc i pins s σ H E I hf st hg
  subst hP hw hK
  obtain⟨xs,ys,q1,q2,e⟩:=hg
  obtain⟨lK,rR,p1,_⟩:=I.list q1
  obtain⟨its2,kE,p2,_⟩:=I.list q2
  have W:=WalksT.zip2 (prog:=X.prog) (w:=X.w) (A:=X.A) (I.ok.hd hc) z TI TO i1 i2 l1 l2 D lK.toArray its2.toArray
  have ei:i=min lK.toArray.size its2.toArray.size:=by simp[e,rR.length,kE.length]
  subst ei
  have sub:∀b,b∉[z,TI,TO,i1,i2]->b∉[z,TO,i1,i2]:=λb n m=>n (by simp at m ⊢; rcases m with rfl|rfl|rfl|rfl <;> simp)
  exact W.done s _ E ⟨st.1,st.2.1,st.2.2.1,st.2.2.2.1,st.2.2.2.2,p1.isList,p2.isList⟩ λh' tk kk=>⟨rfl,I.Ks hf λb o n e=>kk b o (sub b n) e⟩
 self:=λA i s Q E st h=>wpAny_pyIter_zip st.1 h
end
section
variable {X:Cx}
def Ut(K:FZ)(ta:TA):TI:=λσ H R=>ta σ H λvs H1=>∃l1 l2,vs=[.ref l1,.ref l2]/\(∃xs,bH K H1 l1 xs)/\(∃ys,bH K H1 l2 ys)/\R (Kq K l1 l2) H1
theorem Kz(hm:X.mg "zip" = none) (ha:PA X [a,b] ta) (hg:Gl X "zip" := by rfl) (hs:starEach [a,b] X.env=[(false,eval a X.env),(false,eval b X.env)]:=by rfl) (hs2:starEach [b] X.env=[(false,eval b X.env)]:=by rfl) :
  PI X (.Tuple elts k tpos) (.Call (.Name "zip" p) [a,b] [] pos) (Ut X.K ta):=by
 intro pins s σ H R I h
 refine Call_ (qY I hg hm (show bootBuiltins "zip" = some (.type "zip") by decide +kernel) (PyProof.Rows.callWith_type1 (bJ (ha pos pins s σ H _ I h) λus s1 ⟨vs,H1,I1,r1,q1⟩=>?_) (by rw[hs,hs2]) (by rw[hs2]; rfl)))
 obtain⟨l1,l2,e,⟨xs,h1⟩,⟨ys,h2⟩,q⟩:=q1
 subst e
 cases r1 with
 |cons r rr =>
  cases rr with
  |cons r' rr =>
   cases rr
   cases r
   cases r'
   obtain⟨lK,rR,p1,_⟩:=I1.list h1
   obtain⟨its2,kE,p2,_⟩:=I1.list h2
   obtain⟨o1,e1,_⟩:=p1.isList
   obtain⟨o2,e2,_⟩:=p2.isList
   refine call_zip_2 p1.isList p2.isList λh' hz hTI hTO hi1 hi2 hsz hk=>?_
   refine wpAny_pyIter_zip hz ?_
   refine⟨_,[_,_,_,_,_],_,_,H1,rfl,I1.kept (t':=s1.toks) hk,abO l1 l2 _ _ _ _ _ (PySem.W.ktu_apart _ _ _ (Heap.lt_size e1) (Heap.lt_size e2)),⟨hz,hTI,⟨_,_,hTO⟩,hi1,hi2⟩,λc hc=>?_,q⟩
   have hc':c=s1.heap.objs.size+4\/c=s1.heap.objs.size+2\/c=s1.heap.objs.size+3\/c=s1.heap.objs.size\/c=s1.heap.objs.size+1:=by simpa using hc
   have hge:s1.heap.objs.size<=c:=by rcases hc' with rfl|rfl|rfl|rfl|rfl <;> omega
   exact I1.pI hge (I1.hok.fresh hge)
end
end L2
end
section
namespace L2
open PySem
def KC(r:Rat):Tr:=.tup [.int r.num,.int (r.den:Int)]
theorem den_pos(r:Rat):1<=(r.den:Int):=by have:=r.den_pos; omega
theorem Ek(r:Rat):Rat.divInt r.num (r.den:Int)=r:=Rat.num_divInt_den r
theorem add_eq(r s:Rat):Rat.divInt (r.num*s.den+s.num*r.den) (r.den*s.den)=r+s:=by
 have h:=Rat.divInt_add_divInt r.num s.num (d₁ := r.den) (d₂ := s.den) (by have:=den_pos r; omega) (by have:=den_pos s; omega)
 rw[Ek,Ek]at h
 exact h.symm
theorem mul_eq(r s:Rat):Rat.divInt (r.num*s.num) (r.den*s.den)=r*s:=by
 have h:=Rat.divInt_mul_divInt r.num s.num (d₁ := r.den) (d₂ := s.den)
 rw[Ek,Ek]at h
 exact h.symm
open PySem.Spec PyProof.Rows
inductive Rs(α : Type) where
 |bad|ex (c:Str)|ok (a : α)
def Rs.bind{α β : Type}:Rs α -> (α -> Rs β)->Rs β
 |.bad,_=>.bad
 |.ex c,_=>.ex c
 |.ok a,f=>f a
instance:Monad Rs where
 pure:=.ok
 bind:=Rs.bind
def Rs.post{α : Type}(r:Rs α)(EX:Str->Prop)(P : α -> Prop):Prop:=match r with
 |.bad=>False
 |.ex c=>EX c
 |.ok a=>P a
theorem Rs.aX{α β : Type}{r:Rs α}{f : α -> Rs β}{EX:Str->Prop}{P : β -> Prop}(h:(r.bind f).post EX P):r.post EX λa=>(f a).post EX P:=by
 cases r <;> exact h
theorem Rs.bF{α : Type}{r:Rs α}{EX:Str->Prop}{P P' : α -> Prop}(h:r.post EX P)(i:∀a,P a->P' a):r.post EX P':=by
 cases r with
 |bad=>exact h
 |ex c=>exact h
 |ok a=>exact i a h
open Classical in
def aK(W:Addr->Prop)(H:Hp):Hp:=λb=>if W b then none else H b
theorem El(h:W b):aK W H b=none:=if_pos h
theorem eG(h:¬W b):aK W H b=H b:=if_neg h
theorem iZ(h:aK W H b=some o):¬W b/\H b=some o:=by
 by_cases w:W b
 .rw[El w]at h; cases h
 .rw[eG w]at h; exact⟨w,h⟩
theorem iR(W:Addr->Prop)(H:Hp):Same (aK W H) H:=λ_ _ h=>(iZ h).2
theorem qg(hw:∀b o,H b=some o->W' b->W b)(s:∀b o,¬W b->H b=some o->H' b=some o):Same (aK W H) (aK W' H'):=λb o h=>by
 obtain⟨n,e⟩:=iZ h
 rw[eG λw=>n (hw b o e w)]
 exact s b o n e
theorem lM(h:W a):aK W (upd H a o)=aK W H:=by
 funext b
 by_cases w:W b
 .rw[El w,El w]
 .rw[eG w,eG w]
  exact bA λe=>w (e▸h)
inductive Sl where
 |un|sh (t:Tr)|ow (ts:List Tr)|rf (ts:List Tr)|dp (ts:List Tr)
abbrev En:=List Sl
inductive Rv where
 |v (T:Tr) (fr:Bool)|s (i:Nat)
abbrev EF:=En->Rs (Rv × En)
structure Tx where
 K:FZ
 Z:Addr->Prop
 R:Addr->Prop
 H0:Hp
 B:Hp
 EX:Str->Prop
def Mu(ρ : En)(i:Nat):Prop:=∃ts,ρ[i]?=some (Sl.ow ts)\/ρ[i]?=some (Sl.rf ts)
def zq:Tr->Bool
 |.lst _=>true
 |_=>false
inductive DR(K:FZ)(G H:Hp):List V->List Tr->List Addr->Prop
 |nil:DR K G H [] [] []
 |cl {x:V} {u:Tr} {xs:List V} {ts:List Tr} {bs:List Addr} (n:zq u=false) (h:Rep K G x u) (r:DR K G H xs ts bs):DR K G H (x::xs) (u::ts) bs
 |rw {b:Addr} {ys:List V} {us:List Tr} {xs:List V} {ts:List Tr} {bs:List Addr} (h:H b=some (.lst ys)) (q:aN K G ys us) (r:DR K G H xs ts bs):DR K G H (.ref b::xs) (.lst us::ts) (b::bs)
def uz(t:Tx)(W:Addr->Prop)(H:Hp)(a:Addr)(xs:List V)(ts:List Tr)(fp:List Addr):Prop :=
 ∃bs,fp=a::bs/\fp.Nodup/\(∀b∈fp,W b/\t.H0 b=none)/\H a=some (.lst xs)/\DR t.K (aK W H) H xs ts bs
theorem DR.move{K:FZ}{G a H c:Hp}(m:Same G a):∀{xs:List V} {ts:List Tr} {bs:List Addr},DR K G H xs ts bs->(∀b o,b∈bs->H b=some o->c b=some o)->DR K a c xs ts bs
 |_,_,_,.nil,_=>.nil
 |_,_,_,.cl n h r,k=>.cl n (h.mono m) (DR.move m r k)
 |_,_,_,.rw h q r,k=>.rw (k _ _ (List.mem_cons_self ..) h) (q.mono m) (DR.move m r λb o d=>k b o (List.mem_cons_of_mem _ d))
theorem uz.move(d:uz t W H a xs ts f)(g:t'.K=t.K)(h0:t'.H0=t.H0)(m:Same (aK W H) (aK W' H'))(w:∀b∈f,W' b)(k:∀b o,b∈f->H b=some o->H' b=some o):uz t' W' H' a xs ts f:=by
 obtain⟨bs,e,nd,ww,h,r⟩:=d
 refine⟨bs,e,nd,λb c=>⟨w b c,by rw[h0]; exact(ww b c).2⟩,k a _ (by rw[e]; exact List.mem_cons_self ..) h,?_⟩
 rw[g]
 exact r.move m λb o c=>k b o (by rw[e]; exact List.mem_cons_of_mem _ c)
def Lt(H:Hp)(b:Addr):Prop:=(∃xs,H b=some (.lst xs))\/(∃ps,H b=some (.eE ps))\/∃φ,H b=some (.ext φ)/\∀C,HO.ext φ≠uq b C
theorem Lt.ne(h:Lt H b):H b≠none:=by
 rcases h with⟨_,h⟩|⟨_,h⟩|⟨_,h,_⟩ <;> (rw[h]; intro z; cases z)
theorem Lt.grow(h:Lt H b)(s:∀b o,H b=some o->H' b=some o):Lt H' b:=by
 rcases h with⟨_,h⟩|⟨_,h⟩|⟨_,h,q⟩
 .exact .inl ⟨_,s _ _ h⟩
 .exact .inr (.inl ⟨_,s _ _ h⟩)
 .exact .inr (.inr ⟨_,s _ _ h,q⟩)
def jN:List Str:=["falling_places", "order_of_bounds"]
def Tb(K:FZ)(b:Addr):Prop:=∃x∈jN,∃c,PySem.W.tabIn K x=some (c,b)
def Uu(o:Obj)(q:Str):Prop:=∃vs t,o.data=.fields vs/\vs[1]?=some (.str q t)
def Em(x:Str):Str:=x++(".<locals>." : Str)++("<lambda>" : Str)
def Eo(H:Hp)(q:Str)(ps:Array Value):Prop:=TriplesOk ps.toList/\∀pos v,codeAmong pos ps.toList=some v->∃c o,v=.ref c/\H c=some (.fC o (.own 0))/\Uu o q
def gJ(K:FZ)(H:Hp):Prop:=∀x∈jN,∀c b,PySem.W.tabIn K x=some (c,b)->∃ps,H b=some (.eE ps)/\Eo H (Em x) ps
theorem gJ.eE{K:FZ}{H:Hp}(h:gJ K H){b:Addr}(t:Tb K b):∃a,H b=some (.eE a):=by
 obtain⟨x,d,c,e⟩:=t
 obtain⟨a,q,_⟩:=h x d c b e
 exact⟨a,q⟩
theorem gJ.ne{K:FZ}{H:Hp}(h:gJ K H){a b:Addr}{xs:List V}(t:Tb K b)(e:H a=some (.lst xs)):b≠a:=λz=>by
 obtain⟨c,q⟩:=h.eE t
 rw[z,e]at q
 cases q
theorem gJ.fr{K:FZ}{H a:Hp}(h:gJ K H)(s:∀b o,(∀xs,o ≠ .lst xs)->H b=some o->a b=some o):gJ K a:=λx d c b e=>by
 obtain⟨f,q,t1,g⟩:=h x d c b e
 refine⟨f,s _ _ (λ_ z=>by cases z) q,t1,λpos v k=>?_⟩
 obtain⟨c,o,i,j,l⟩:=g pos v k
 exact⟨c,o,i,s _ _ (λ_ z=>by cases z) j,l⟩
theorem gJ.same{K:FZ}{H a:Hp}(h:gJ K H)(s:Same H a):gJ K a:=h.fr λb o _=>s b o
theorem gJ.upd{K:FZ}{H:Hp}(h:gJ K H){a:Addr}{xs:List V}{o:HO}(e:H a=some (.lst xs)):gJ K (L2.upd H a o):=h.fr λb u n q=>by
 rw[bA]
 .exact q
 .rintro rfl
  rw[e]at q
  cases q
  exact n _ rfl
structure jO(t:Tx)(W:Addr->Prop)(H:Hp):Prop where
 ok:gJ t.K H
 w:∀b,Tb t.K b->W b
 r:∀b,Tb t.K b->t.R b
 B:∀b,Tb t.K b->t.B b=none
theorem jO.same(f:jO t W H)(s:Same H H'):jO t W H':=⟨f.ok.same s,f.w,f.r,f.B⟩
theorem jO.fr(f:jO t W H)(s:∀b o,(∀xs,o ≠ .lst xs)->H b=some o->H' b=some o):jO t W H':=⟨f.ok.fr s,f.w,f.r,f.B⟩
theorem jO.Uv(f:jO t W H)(h:∀b,W b->W' b):jO t W' H:=⟨f.ok,λb z=>h b (f.w b z),f.r,f.B⟩
theorem jO.cut{W:Addr->Prop}(f:jO t W H){D:Addr->Prop}(h:∀b,D b->∃xs,H b=some (.lst xs)):jO t (λb=>W b/\¬D b) H:=⟨f.ok,λb z=>⟨f.w b z,λd=>by
 obtain⟨xs,e⟩:=h b d
 exact f.ok.ne z e rfl⟩,f.r,f.B⟩
theorem jO.upd(f:jO t W H)(e:H a=some (.lst xs)):jO t W (L2.upd H a o):=⟨f.ok.upd e,f.w,f.r,f.B⟩
structure EOF(t:Tx)(W:Addr->Prop)(ρ : En)(σ : St)(H:Hp)(F:Nat->List Addr):Prop where
 len : ρ.length = σ.length
 zw:∀b,t.Z b->W b
 z0:∀b,t.Z b->t.H0 b≠none
 wl:∀b,W b->Lt H b
 f0:∀b o,t.H0 b=some o->¬t.R b->H b=some o
 n0:∀b,H b=none->t.H0 b=none
 sh:∀(i:Nat) (u:Tr),ρ[i]?=some (.sh u)->∃v,σ[i]?=some (some v)/\Rep t.K (aK W H) v u
 ow:∀(i:Nat) (ts:List Tr),ρ[i]?=some (Sl.ow ts)->∃a xs,σ[i]?=some (some (V.ref a))/\W a/\t.H0 a=none/\H a=some (.lst xs)/\aN t.K (aK W H) xs ts
 rf:∀(i:Nat) (ts:List Tr),ρ[i]?=some (Sl.rf ts)->∃a xs,σ[i]?=some (some (V.ref a))/\W a/\t.R a/\H a=some (.lst xs)/\aN t.K (aK W H) xs ts
 dis:∀(i j:Nat) (a:Addr),Mu ρ i->Mu ρ j -> σ[i]?=some (some (V.ref a)) -> σ[j]?=some (some (V.ref a))->i=j
 pn:∀b o,t.B b=some o->H b=some o
 pd:∀(i:Nat) (a:Addr),Mu ρ i -> σ[i]?=some (some (V.ref a))->t.B a=none
 dp:∀(i:Nat) (ts:List Tr),ρ[i]?=some (Sl.dp ts)->∃a xs,σ[i]?=some (some (V.ref a))/\uz t W H a xs ts (F i)
 dd:∀(i j:Nat) (ts us:List Tr),i≠j -> ρ[i]?=some (Sl.dp ts) -> ρ[j]?=some (Sl.dp us)->∀b∈F i,b∉F j
 dm:∀(i j:Nat) (ts:List Tr) (c:Addr),ρ[i]?=some (Sl.dp ts)->Mu ρ j -> σ[j]?=some (some (V.ref c))->c∉F i
 db:∀(i:Nat) (ts:List Tr),ρ[i]?=some (Sl.dp ts)->∀b∈F i,t.B b=none
 tab:jO t W H
def aO(t:Tx)(W:Addr->Prop)(ρ : En)(σ : St)(H:Hp):Prop:=∃F,EOF t W ρ σ H F
def qm(t:Tx)(W:Addr->Prop)(a:Addr)(ρ : En)(σ : St)(H:Hp):Prop:=∃F,EOF t (λb=>W b\/b=a) ρ σ H F/\∀(i:Nat) (ts:List Tr),ρ[i]?=some (Sl.dp ts)->a∉F i
theorem qm.ok(e:qm t W a ρ σ H):aO t (λb=>W b\/b=a) ρ σ H:=e.elim λF e=>⟨F,e.1⟩
section
variable {t:Tx}{W:Addr->Prop}{ρ : En}{σ : St}{H:Hp}
theorem aO.len(e:aO t W ρ σ H) : ρ.length = σ.length:=e.elim λ_ e=>e.len
theorem aO.zw(e:aO t W ρ σ H):∀b,t.Z b->W b:=e.elim λ_ e=>e.zw
theorem aO.z0(e:aO t W ρ σ H):∀b,t.Z b->t.H0 b≠none:=e.elim λ_ e=>e.z0
theorem aO.wl(e:aO t W ρ σ H):∀b,W b->Lt H b:=e.elim λ_ e=>e.wl
theorem aO.tab(e:aO t W ρ σ H):jO t W H:=e.elim λ_ e=>e.tab
theorem aO.f0(e:aO t W ρ σ H):∀b o,t.H0 b=some o->¬t.R b->H b=some o:=e.elim λ_ e=>e.f0
theorem aO.n0(e:aO t W ρ σ H):∀b,H b=none->t.H0 b=none:=e.elim λ_ e=>e.n0
theorem aO.sh(e:aO t W ρ σ H):∀(i:Nat) (u:Tr),ρ[i]?=some (.sh u)->∃v,σ[i]?=some (some v)/\Rep t.K (aK W H) v u:=e.elim λ_ e=>e.sh
theorem aO.ow(e:aO t W ρ σ H):∀(i:Nat) (ts:List Tr),ρ[i]?=some (Sl.ow ts)->∃a xs,σ[i]?=some (some (V.ref a))/\W a/\t.H0 a=none/\H a=some (.lst xs)/\aN t.K (aK W H) xs ts:=e.elim λ_ e=>e.ow
theorem aO.rf(e:aO t W ρ σ H):∀(i:Nat) (ts:List Tr),ρ[i]?=some (Sl.rf ts)->∃a xs,σ[i]?=some (some (V.ref a))/\W a/\t.R a/\H a=some (.lst xs)/\aN t.K (aK W H) xs ts:=e.elim λ_ e=>e.rf
theorem aO.dis(e:aO t W ρ σ H):∀(i j:Nat) (a:Addr),Mu ρ i->Mu ρ j -> σ[i]?=some (some (V.ref a)) -> σ[j]?=some (some (V.ref a))->i=j:=e.elim λ_ e=>e.dis
theorem aO.pn(e:aO t W ρ σ H):∀b o,t.B b=some o->H b=some o:=e.elim λ_ e=>e.pn
theorem aO.pd(e:aO t W ρ σ H):∀(i:Nat) (a:Addr),Mu ρ i -> σ[i]?=some (some (V.ref a))->t.B a=none:=e.elim λ_ e=>e.pd
end
structure bV(W:Addr->Prop)(H H':Hp):Prop where
 keep:∀b o,¬W b->H b=some o->H' b=some o
 dom:∀b,H' b=none->H b=none
theorem bV.refl(W:Addr->Prop)(H:Hp):bV W H H:=⟨λ_ _ _ h=>h,λ_ h=>h⟩
theorem bV.trans(a:bV W H H1)(b:bV W H1 H2):bV W H H2:=⟨λc o n h=>b.keep c o n (a.keep c o n h),λc h=>a.dom c (b.dom c h)⟩
theorem bV.of(s:Same H H'):bV W H H':=⟨λb o _ h=>s b o h,λ_ h=>s.free h⟩
theorem bV.off(s:bV W H H'):Same (aK W H) (aK W H'):=qg (λ_ _ _ h=>h) s.keep
theorem aO.grow(e:aO t W ρ σ H)(s:Same H H'):aO t W ρ σ H':=by
 have m:Same (aK W H) (aK W H'):=(bV.of s).off
 obtain⟨F,e⟩:=e
 refine⟨F,e.len,e.zw,e.z0,λb w=>?_,λb o h n=>s b o (e.f0 b o h n),λb h=>e.n0 b (s.free h),λi u h=>?_,λi f h=>?_,λi f h=>?_,e.dis,λb o h=>s b o (e.pn b o h),e.pd,λi f h=>?_,e.dd,e.dm,e.db,e.tab.same s⟩
 .exact(e.wl b w).grow s
 .obtain⟨v,c,g⟩:=e.sh i u h
  exact⟨v,c,g.mono m⟩
 .obtain⟨a,j,c,g,k,l,p⟩:=e.ow i f h
  exact⟨a,j,c,g,k,s _ _ l,p.mono m⟩
 .obtain⟨a,j,c,g,k,l,p⟩:=e.rf i f h
  exact⟨a,j,c,g,k,s _ _ l,p.mono m⟩
 .obtain⟨a,j,c,d⟩:=e.dp i f h
  exact⟨a,j,c,d.move rfl rfl m (λb r=>by obtain⟨_,_,_,ww,_⟩:=d; exact(ww b r).1) λb o _ q=>s b o q⟩
def fP(K:FZ)(W:Addr->Prop)(σ : St)(H H':Hp)(v:V):Rv->Prop
 |.v T false=>Rep K (aK W H') v T
 |.v T true=>∃a xs ts,v=.ref a/\T=.lst ts/\H a=none/\H' a=some (.lst xs)/\aN K (off a (aK W H')) xs ts
 |.s i=>σ[i]?=some (some v)
theorem zx(a:Addr)(H:Hp):Same (off a H) H:=λ_ _ h=>(vG h).2
theorem fP.step{K:FZ}{W:Addr->Prop}{σ : St}{H c d:Hp}{v:V}{r:Rv}(hw:∀b,W b->H b≠none)(h:fP K W σ H c v r)(s:bV W c d):fP K W σ H d v r:=by
 cases r with
 |s i=>exact h
 |v T fr =>
  cases fr with
  |false=>exact Rep.mono s.off h
  |true =>
   obtain⟨a,f,g,rfl,rfl,e,j,r⟩:=h
   refine⟨a,f,g,rfl,rfl,e,s.keep a _ (λw=>hw a w e) j,r.mono λb o q=>?_⟩
   obtain⟨n,q⟩:=vG q
   rw[off_ne n]
   exact s.off b o q
theorem fP.back{K:FZ}{W:Addr->Prop}{σ : St}{G H c:Hp}{v:V}{r:Rv}(h:fP K W σ H c v r)(d:∀b,H b=none->G b=none):fP K W σ G c v r:=by
 cases r with
 |s i=>exact h
 |v T fr =>
  cases fr with
  |false=>exact h
  |true =>
   obtain⟨a,e,f,g,j,k,r⟩:=h
   exact⟨a,e,f,g,j,d _ k,r⟩
theorem fP.rep{K:FZ}{W:Addr->Prop}{σ : St}{H c:Hp}{v:V}{T:Tr}{fr:Bool}(hw:∀b,W b->H b≠none)(h:fP K W σ H c v (.v T fr)):Rep K (aK W c) v T:=by
 cases fr with
 |false=>exact h
 |true =>
  obtain⟨a,f,g,rfl,rfl,d,e,r⟩:=h
  refine .lst (bH.of ?_) (r.mono (zx _ _))
  rw[eG λw=>hw a w d]
  exact e
def Rp(K:FZ)(W:Addr->Prop)(H:Hp)(v:V)(T:Tr):Prop :=
 Rep K (aK W H) v T\/∃a xs ts,v=.ref a/\T=.lst ts/\H a=some (.lst xs)/\aN K (aK W H) xs ts
theorem Rp.rep{K:FZ}{W:Addr->Prop}{H:Hp}{v:V}{T:Tr}(h:Rp K W H v T):Rep K H v T:=by
 rcases h with h|⟨a,b,c,rfl,rfl,e,r⟩
 .exact h.mono (iR _ _)
 .exact .lst (bH.of e) (r.mono (iR _ _))
theorem Rp.lst{K:FZ}{W:Addr->Prop}{H:Hp}{v:V}{ts:List Tr}(h:Rp K W H v (.lst ts)):∃a xs,v=.ref a/\bH K H a xs/\aN K (aK W H) xs ts:=by
 rcases h with h|⟨a,xs,c,rfl,b,e,r⟩
 .cases h with
  |lst h r=>exact⟨_,_,rfl,(iR _ _).seq h,r⟩
 .cases b
  exact⟨a,xs,rfl,bH.of e,r⟩
theorem Rp.tup{K:FZ}{W:Addr->Prop}{H:Hp}{v:V}{ts:List Tr}(h:Rp K W H v (.tup ts)):∃a xs,v=.ref a/\fL K H a xs/\aN K (aK W H) xs ts:=by
 rcases h with h|⟨a,xs,c,rfl,b,e,r⟩
 .cases h with
  |tup h r=>exact⟨_,_,rfl,(iR _ _).vC h,r⟩
 .cases b
theorem Rp.int{K:FZ}{W:Addr->Prop}{H:Hp}{v:V}{i:Int}(h:Rp K W H v (.int i)):v=.int i:=by
 cases h.rep; rfl
theorem Rp.bl{K:FZ}{W:Addr->Prop}{H:Hp}{v:V}{i:Bool}(h:Rp K W H v (.bl i)):v=.bl i:=by
 cases h.rep; rfl
theorem Rp.str{K:FZ}{W:Addr->Prop}{H:Hp}{v:V}{i:Str}(h:Rp K W H v (.str i)):v=.str i:=by
 cases h.rep; rfl
theorem Rp.non{K:FZ}{W:Addr->Prop}{H:Hp}{v:V}(h:Rp K W H v .non):v=.non:=by
 cases h.rep; rfl
def dr(ρ : En):Rv->Rs Tr
 |.v T _=>.ok T
 |.s i=>match ρ[i]? with
  |some (Sl.ow ts)=>.ok (.lst ts)
  |some (Sl.rf ts)=>.ok (.lst ts)
  |_=>.bad
theorem nC(e:aO t W ρ σ H')(hw:∀b,W b->H b≠none)(h:fP t.K W σ H H' v r)(q:dr ρ r=.ok T):Rp t.K W H' v T:=by
 cases r with
 |v U fr =>
  cases q
  exact .inl (h.rep hw)
 |s i =>
  dsimp only[dr]at q
  split at q
  .rename_i c f
   cases q
   obtain⟨a,g,d,l,m,j,k⟩:=e.ow i c f
   rw[h]at d
   cases d
   exact .inr ⟨a,g,c,rfl,rfl,j,k⟩
  .rename_i c f
   cases q
   obtain⟨a,g,d,l,m,j,k⟩:=e.rf i c f
   rw[h]at d
   cases d
   exact .inr ⟨a,g,c,rfl,rfl,j,k⟩
  .cases q
theorem aO.wn(e:aO t W ρ σ H):∀b,W b->H b≠none:=λb w=>by
 exact(e.wl b w).ne
theorem aO.hide(e:aO t W ρ σ H)(s:Same H H')(n:H a=none)(q:H' a=some (.lst xs)):qm t W a ρ σ H':=by
 have m:Same (aK W H) (aK (λb=>W b\/b=a) H'):=λb o h=>by
  obtain⟨w,h⟩:=iZ h
  rw[eG]
  .exact s b o h
  .rintro(z|rfl)
   .exact w z
   .rw[n]at h; cases h
 have na:∀b,W b->b≠a:=λb w z=>by subst z; exact e.wn b w n
 obtain⟨F,e⟩:=e
 refine⟨F,⟨e.len,λb z=>.inl (e.zw b z),e.z0,λb w=>?_,λb o h x=>s b o (e.f0 b o h x),λb h=>e.n0 b (s.free h),λi u h=>?_,λi g h=>?_,λi g h=>?_,e.dis,λb o h=>s b o (e.pn b o h),e.pd,λi g h=>?_,e.dd,e.dm,e.db,(e.tab.same s).Uv λb w=>.inl w⟩,λi g h z=>?_⟩
 .rcases w with w|rfl
  .exact(e.wl b w).grow s
  .exact .inl ⟨xs,q⟩
 .obtain⟨v,f,k⟩:=e.sh i u h
  exact⟨v,f,k.mono m⟩
 .obtain⟨c,j,f,k,l,p,r⟩:=e.ow i g h
  exact⟨c,j,f,.inl k,l,s _ _ p,r.mono m⟩
 .obtain⟨c,j,f,k,l,p,r⟩:=e.rf i g h
  exact⟨c,j,f,.inl k,l,s _ _ p,r.mono m⟩
 .obtain⟨c,j,f,d⟩:=e.dp i g h
  exact⟨c,j,f,d.move rfl rfl m (λb y=>by obtain⟨_,_,_,ww,_⟩:=d; exact .inl (ww b y).1) λb o _ q=>s b o q⟩
 .obtain⟨c,j,f,bs,_,_,ww,_⟩:=e.dp i g h
  exact na a (ww a z).1 rfl
def jh(t:Tx)(W:Addr->Prop)(ρ : En)(σ : St)(H H':Hp)(v:V)(r:Rv):Prop:=fP t.K W σ H H' v r/\∀T a,r=.v T true->v=.ref a->qm t W a ρ σ H'
theorem jh.of(e:aO t W ρ σ H)(s:Same H H')(h:fP t.K W σ' H H' v (.v T fr)):jh t W ρ σ H H' v (.v T fr):=by
 refine⟨by cases fr <;> exact h,λU a z ev=>?_⟩
 cases z
 obtain⟨b,c,d,rfl,_,n,q,_⟩:=h
 cases ev
 exact e.hide s n q
theorem jh.low(h:Rep t.K (aK W H') v T):jh t W ρ σ H H' v (.v T false):=⟨h,λ_ _ z=>by cases z⟩
theorem jh.back(h:jh t W ρ σ H H' v r)(d:∀b,H b=none->G b=none):jh t W ρ σ G H' v r:=⟨h.1.back d,h.2⟩
def SE(t:Tx)(te:TE)(f:EF):Prop:=∀W ρ σ H Q,aO t W ρ σ H->(f ρ).post t.EX (λp=>∀v H',aO t W p.2 σ H'->bV W H H'->jh t W p.2 σ H H' v p.1->Q v H')->te σ H Q
abbrev BF:=En->Rs (Bool × En)
def ST(t:Tx)(te:TT)(f:BF):Prop:=∀W ρ σ H Q,aO t W ρ σ H->(f ρ).post t.EX (λp=>∀H',aO t W p.2 σ H'->bV W H H'->Q p.1 H')->te σ H Q
abbrev AF:=En->Rs (List Rv × En)
inductive jD(K:FZ)(W:Addr->Prop)(σ : St)(H H':Hp):List V->List Rv->Prop
 |nil:jD K W σ H H' [] []
 |cons {v:V} {r:Rv} {vs:List V} {rs:List Rv} (h:fP K W σ H H' v r) (q:jD K W σ H H' vs rs):jD K W σ H H' (v::vs) (r::rs)
def SA(t:Tx)(te:TA)(f:AF):Prop:=∀W ρ σ H Q,aO t W ρ σ H->(f ρ).post t.EX (λp=>∀vs H',aO t W p.2 σ H'->bV W H H'->jD t.K W σ H H' vs p.1->Q vs H')->te σ H Q
section
variable {t:Tx}
def aj(i:Nat):EF:=λρ=>match ρ[i]? with
 |some (.sh T)=>.ok (.v T false,ρ)
 |some (.ow _)=>.ok (.s i,ρ)
 |some (.rf _)=>.ok (.s i,ρ)
 |_=>.bad
theorem aM(i:Nat):SE t (iJ i) (aj i):=λW g σ H Q e h=>by
 unfold aj at h
 split at h
 .rename_i T q
  obtain⟨v,b,d⟩:=e.sh i T q
  exact⟨v,b,h v H e (bV.refl _ _) (.low d)⟩
 .rename_i c q
  obtain⟨a,f,b,_⟩:=e.ow i c q
  exact⟨_,b,h _ H e (bV.refl _ _) ⟨b,λ_ _ z=>by cases z⟩⟩
 .rename_i c q
  obtain⟨a,f,b,_⟩:=e.rf i c q
  exact⟨_,b,h _ H e (bV.refl _ _) ⟨b,λ_ _ z=>by cases z⟩⟩
 .exact h.elim
def eC(T:Tr):EF:=λρ=>.ok (.v T false,ρ)
theorem zA(h:∀H,Rep t.K H v T):SE t (tC v) (eC T):=λW a σ H Q e q=>q v H e (bV.refl _ _) (.low (h _))
theorem eV(i:Int):SE t (tC (.int i)) (eC (.int i)):=zA λ_=>.int i
theorem vH(i:Bool):SE t (tC (.bl i)) (eC (.bl i)):=zA λ_=>.bl i
theorem qp(i:Str):SE t (tC (.str i)) (eC (.str i)):=zA λ_=>.str i
theorem abP:SE t (tC .non) (eC .non):=zA λ_=>.non
abbrev G2:=Tr->Tr->Rs (Tr × Bool)
def iG(K:FZ)(r:R2)(g:G2):Prop:=∀W x y a b H Q,(∀b,W b->Lt H b)->Rp K W H x a->Rp K W H y b ->
 (g a b).post (λ_=>False) (λp=>∀v H',Same H H'->fP K W [] H H' v (.v p.1 p.2)->Q v H')->r x y H Q
def aq(g:G2)(fa fb:EF):EF:=λρ=>(fa ρ).bind λp=>(fb p.2).bind λq=>(dr q.2 p.1).bind λa=>(dr q.2 q.1).bind λb=>(g a b).bind λz=>.ok (.v z.1 z.2,q.2)
theorem kj{α : Type}{r:Rs α}{EX:Str->Prop}{P : α -> Prop}(h:r.post EX P)(n:∀c,r ≠ .ex c):r.post (λ_=>False) P:=by
 cases r with
 |bad=>exact h
 |ex c=>exact(n c rfl).elim
 |ok a=>exact h
theorem nG(ρ : En)(r:Rv)(c:Str):dr ρ r ≠ .ex c:=by
 cases r with
 |v T fr=>intro z; cases z
 |s i =>
  dsimp only[dr]
  split <;> (intro z; cases z)
theorem mJ{r:R2}{g:G2}{j tb:TE}{k fb:EF}(o:iG t.K r g)(n:∀a b c,g a b ≠ .ex c)(u:SE t j k)(w:SE t tb fb):SE t (gU r j tb) (aq g k fb):=λW s σ H Q e h=>by
 refine u W s σ H _ e (Rs.bF (Rs.aX h) λp h x H1 l s1 v1=>?_)
 refine w W p.2 σ H1 _ l (Rs.bF (Rs.aX h) λq h y A d s2 v2=>?_)
 cases f:dr q.2 p.1 with
 |bad=>rw[f]at h; exact h.elim
 |ex c=>exact(nG _ _ _ f).elim
 |ok a =>
  rw[f]at h
  cases i:dr q.2 q.1 with
  |bad=>rw[i]at h; exact h.elim
  |ex c=>exact(nG _ _ _ i).elim
  |ok b =>
   rw[i]at h
   have B:=nC d e.wn (v1.1.step e.wn s2) f
   have C:=nC d l.wn v2.1 i
   refine o W x y a b A Q d.wl B C (Rs.bF (kj (Rs.aX h) (n a b)) λz h v m s3 D=>?_)
   have st:bV W H m:=(s1.trans s2).trans (bV.of s3)
   exact h v m (d.grow s3) st ((jh.of d s3 D).back λb q=>(s1.trans s2).dom b q)
inductive vI:V->Tr->Prop
 |non:vI .non .non
 |bl (b:Bool):vI (.bl b) (.bl b)
 |int (b:Int):vI (.int b) (.int b)
 |str (b:Str):vI (.str b) (.str b)
theorem vI.rep{K:FZ}{H:Hp}{v:V}{T:Tr}(h:vI v T):Rep K H v T:=by
 cases h <;> constructor
end
section
variable {X:Cx}
def KD(K:FZ):R2:=λx y H Q=>∃t u,Rep K H x t/\Rep K H y u/\dep t<=40/\dep u<=40/\Q (.bl (!eqT t u)) H
theorem qu(hu:X.A.units+64<cLine):dR X (compareOp .NotEq) (KD X.K):=by
 intro pins s σ H x y v u Q I G d h
 obtain⟨t,t',rx,J,hd,o,q⟩:=h
 have c:X.A.units<cLine:=by omega
 have W:X.A.in1.units+40<cLine:=by
  have:=in1_units X.A
  omega
 have fin:SeqAt.RcNeAt X.A s v u (!eqT t t')->wpAny (model X.prog X.w) X.A (compareOp .NotEq v u) (EP X pins σ Q) X.xe s:=λh=>h _ _ _ _ ⟨.bl _,H,I,rfl,q⟩
 have items:∀{Y Z:List V} {g l:List Tr} {k f:List Value},Vals Y k->Vals Z f->aN X.K H Y g->aN X.K H Z l->deps g<=40->deps l<=40->∀j (L:j<k.toArray.size) (M:j<f.toArray.size),SeqAt.EqAt X.A.in1 s k.toArray[j] f.toArray[j] (rQ g l j):=by
  intro Y Z g l k f C D q1 q2 hde Ug j L M
  obtain⟨a,ea,ra⟩:=Ed C L
  obtain⟨b,eb,rb⟩:=Ed D M
  obtain⟨ta,eta,qa⟩:=q1.get ea
  obtain⟨tb,yW,qb⟩:=q2.get eb
  rw[Ue eta yW]
  exact(Kc I 40 X.A.in1 ta tb a b _ _ W (Nat.le_trans (ur eta) hde) (by have:=ur eta; omega) (by have:=ur yW; omega) qa qb ra rb).2
 cases rx with
 |eU h m n=>unfold dep at hd; omega
 |non =>
  cases G
  cases J with
  |non=>cases d; unfold eqT at fin; exact fin .none_none
  |bl N=>cases d; unfold eqT at fin; exact fin (.none_bool _)
  |int O=>obtain⟨_,rfl⟩:=d; unfold eqT at fin; exact fin (.none_int _ _)
  |str P=>obtain⟨_,rfl⟩:=d; unfold eqT at fin; exact fin (.none_str _ _)
  |tup h r=>cases d; obtain⟨_,_,p,_⟩:=I.tuple h; unfold eqT at fin; exact fin (.none_tuple p c)
  |lst h r=>cases d; obtain⟨_,_,p,_⟩:=I.list h; unfold eqT at fin; exact fin (.none_list p.isList c)
  |eU h m n=>unfold dep at o; omega
 |bl b =>
  cases G
  cases J with
  |non=>cases d; unfold eqT at fin; exact fin (.bool_none _)
  |bl N=>cases d; unfold eqT at fin; exact fin (.bool_bool _ _)
  |int O=>obtain⟨_,rfl⟩:=d; unfold eqT at fin; exact fin (.bool_int _ _ _)
  |str P=>obtain⟨_,rfl⟩:=d; unfold eqT at fin; exact fin (.bool_str _ _ _)
  |tup h r=>cases d; obtain⟨_,_,p,_⟩:=I.tuple h; unfold eqT at fin; exact fin (.bool_tuple _ p c)
  |lst h r=>cases d; obtain⟨_,_,p,_⟩:=I.list h; unfold eqT at fin; exact fin (.bool_list _ p.isList c)
  |eU h m n=>unfold dep at o; omega
 |int i =>
  obtain⟨_,rfl⟩:=G
  cases J with
  |non=>cases d; unfold eqT at fin; exact fin (.int_none _ _)
  |bl N=>cases d; unfold eqT at fin; exact fin (.int_bool _ _ _)
  |int O=>obtain⟨_,rfl⟩:=d; unfold eqT at fin; exact fin (.int_int _ _ _ _)
  |str P=>obtain⟨_,rfl⟩:=d; unfold eqT at fin; exact fin (.int_str _ _ _ _)
  |tup h r=>cases d; obtain⟨_,_,p,_⟩:=I.tuple h; unfold eqT at fin; exact fin (.int_tuple _ _ p c)
  |lst h r=>cases d; obtain⟨_,_,p,_⟩:=I.list h; unfold eqT at fin; exact fin (.int_list _ _ p.isList c)
  |eU h m n=>unfold dep at o; omega
 |str z =>
  obtain⟨_,rfl⟩:=G
  cases J with
  |non=>cases d; unfold eqT at fin; exact fin (.str_none _ _)
  |bl N=>cases d; unfold eqT at fin; exact fin (.str_bool _ _ _)
  |int O=>obtain⟨_,rfl⟩:=d; unfold eqT at fin; exact fin (.str_int _ _ _ _)
  |str P=>obtain⟨_,rfl⟩:=d; unfold eqT at fin; exact fin (.str_str _ _ _ _)
  |tup h r=>cases d; obtain⟨_,_,p,_⟩:=I.tuple h; unfold eqT at fin; exact fin (.str_tuple _ _ p c)
  |lst h r=>cases d; obtain⟨_,_,p,_⟩:=I.list h; unfold eqT at fin; exact fin (.str_list _ _ p.isList c)
  |eU h m n=>unfold dep at o; omega
 | @tup a1 xs1 g L C =>
  cases G
  obtain⟨k,S,p,_⟩:=I.tuple L
  have E:deps g<=40:=by unfold dep at hd; omega
  cases J with
  |non=>cases d; unfold eqT at fin; exact fin (.tuple_none p c)
  |bl N=>cases d; unfold eqT at fin; exact fin (.tuple_bool _ p c)
  |int O=>obtain⟨_,rfl⟩:=d; unfold eqT at fin; exact fin (.tuple_int _ _ p c)
  |str P=>obtain⟨_,rfl⟩:=d; unfold eqT at fin; exact fin (.tuple_str _ _ p c)
  |lst h r=>cases d; obtain⟨_,_,B,_⟩:=I.list h; unfold eqT at fin; exact fin (.tuple_list p B.isList c)
  |eU h m n=>unfold dep at o; omega
  | @tup a2 xs2 l M D =>
   cases d
   obtain⟨f,T,B,_⟩:=I.tuple M
   have R:=SeqAt.RcNeAt.tuples (A:=X.A) (e:=rQ g l) p B (by omega) λj k1 k2=>items S T C D E (by unfold dep at o; omega) j k1 k2
   have U:k.toArray.size=g.length:=by simpa using(S.length.symm.trans C.length)
   have F:f.toArray.size=l.length:=by simpa using(T.length.symm.trans D.length)
   rw[U,F]at R
   have eb:((List.range (min g.length l.length)).all (rQ g l)&&g.length == l.length)=eqT (.tup g) (.tup l):=by
    unfold eqT
    by_cases e:g.length=l.length
    .rw[e,Nat.min_self,<-e,yU e,beq_self_eq_true,Bool.and_true]
    .rw[beq_false_of_ne e,Bool.and_false,yS e]
   rw[eb]at R
   exact fin R
 | @lst a1 xs1 g L C =>
  cases G
  obtain⟨k,S,p,_⟩:=I.list L
  have E:deps g<=40:=by unfold dep at hd; omega
  cases J with
  |non=>cases d; unfold eqT at fin; exact fin (.list_none p.isList c)
  |bl N=>cases d; unfold eqT at fin; exact fin (.list_bool _ p.isList c)
  |int O=>obtain⟨_,rfl⟩:=d; unfold eqT at fin; exact fin (.list_int _ _ p.isList c)
  |str P=>obtain⟨_,rfl⟩:=d; unfold eqT at fin; exact fin (.list_str _ _ p.isList c)
  |eU h m n=>unfold dep at o; omega
  |tup h r=>cases d; obtain⟨_,_,B,_⟩:=I.tuple h; unfold eqT at fin; exact fin (.list_tuple p.isList B c)
  | @lst a2 xs2 l M D =>
   cases d
   obtain⟨f,T,B,_⟩:=I.list M
   have U:k.toArray.size=g.length:=by simpa using(S.length.symm.trans C.length)
   have F:f.toArray.size=l.length:=by simpa using(T.length.symm.trans D.length)
   by_cases e:g.length=l.length
   .have R:=SeqAt.RcNeAt.lists (A:=X.A) (e:=rQ g l) p.isList B.isList (by omega) (by omega) λj k1 k2=>items S T C D E (by unfold dep at o; omega) j k1 k2
    rw[U]at R
    rw[yU e]at R
    unfold eqT at fin
    exact fin R
   .have R:=SeqAt.RcNeAt.lists_lengths (A:=X.A) p.isList B.isList (by rw[U,F]; simpa using e) (by omega)
    unfold eqT at fin
    rw[yS e]at fin
    exact fin R
end
open Classical in
def gK(o:Obj):Obj:=if o.cls=.type "list" ∧ ¬(∃its n,o={cls:=.type "list",data:=.seq its n })then{cls:=.none,data:=.fields #[] }else o
def aJ(K:FZ):FZ:=K.map λp=>(p.1,gK p.2)
theorem oU:∀(K:FZ) (a:Addr),(aJ K).lookup a=(K.lookup a).map gK
 | [],a=>rfl
 |(c,q)::r,a=>by
  show((c,gK q)::aJ r).lookup a=_
  rw[List.lookup_cons,List.lookup_cons]
  cases a == c with
  |true=>rfl
  |false=>exact oU r a
theorem abQ{K:FZ}{a:Addr}{o:Obj}(h:(aJ K).lookup a=some o)(c:o.cls=.type "tuple"):K.lookup a=some o:=by
 rw[oU]at h
 cases e:K.lookup a with
 |none=>rw[e]at h; cases h
 |some q =>
  rw[e]at h
  have h:gK q=o:=Option.some.inj h
  unfold gK at h
  split at h
  .subst h; cases c
  .rw[h]
theorem abR{K:FZ}{a:Addr}{o:Obj}(h:(aJ K).lookup a=some o)(c:o.cls=.type "list"):K.lookup a=some o∧∃its n,o={cls:=.type "list",data:=.seq its n }:=by
 rw[oU]at h
 cases e:K.lookup a with
 |none=>rw[e]at h; cases h
 |some q =>
  rw[e]at h
  have h:gK q=o:=Option.some.inj h
  unfold gK at h
  split at h
  .subst h; cases c
  .rename_i n
   subst h
   refine⟨rfl,?_⟩
   by_cases z:∃its n,q={cls:=.type "list",data:=.seq its n }
   .exact z
   .exact(n ⟨c,z⟩).elim
theorem abS{K:FZ}{a:Addr}{o:Obj}(h:K.lookup a=some o)(c:o.cls=.type "tuple"):(aJ K).lookup a=some o:=by
 rw[oU,h]
 show some (gK o)=some o
 unfold gK
 rw[if_neg (by rintro⟨z,_⟩; rw[c]at z; injection z with z; exact absurd z (by decide))]
theorem fL.toK{K:FZ}{H:Hp}{a:Addr}{xs:List V}(h:fL (aJ K) H a xs):fL K H a xs:=by
 rcases h with h|⟨o,b,n,e,c,r⟩
 .exact .inl h
 .exact .inr ⟨o,b,n,abQ e c,c,r⟩
def oV(K:FZ)(H:Hp)(a:Addr)(xs:List V):Prop:=Rd H a (.lst xs)\/∃(its:Array Value) (n:Nat),K.lookup a=some {cls:=.type "list",data:=.seq its n }/\its.size<=sizeLine/\Vals xs its.toList
theorem bH.zB{K:FZ}{H:Hp}{a:Addr}{xs:List V}(h:bH (aJ K) H a xs):oV K H a xs:=by
 rcases h with h|⟨o,f,n,e,c,_,d,r⟩
 .exact .inl h
 .obtain⟨g,b,i,rfl⟩:=abR e c
  injection d with j k
  subst j k
  exact .inr ⟨b,i,g,r⟩
theorem oV.toK{K:FZ}{H:Hp}{a:Addr}{xs:List V}(h:oV K H a xs):bH K H a xs:=by
 rcases h with h|⟨b,n,e,r⟩
 .exact .inl h
 .exact .inr ⟨_,b,n,e,rfl,rfl,rfl,r⟩
theorem oV.toN{K:FZ}{H:Hp}{a:Addr}{xs:List V}(h:oV K H a xs):bH (aJ K) H a xs:=by
 rcases h with h|⟨b,n,e,r⟩
 .exact .inl h
 .refine .inr ⟨{cls:=.type "list",data:=.seq b n },b,n,?_,rfl,rfl,rfl,r⟩
  rw[oU,e]
  show some (gK _)=_
  unfold gK
  rw[if_neg λz=>z.2 ⟨b,n,rfl⟩]
theorem bH.toK{K:FZ}{H:Hp}{a:Addr}{xs:List V}(h:bH (aJ K) H a xs):bH K H a xs:=h.zB.toK
theorem abT{K:FZ}{N:Addr}{c:Str}{v:Value}(h:PySem.W.nsIn (aJ K) N c=some (some v)):PySem.W.nsIn K N c=some (some v):=by
 unfold PySem.W.nsIn at h ⊢
 rw[oU]at h
 cases e:K.lookup N with
 |none=>rw[e]at h; cases h
 |some q =>
  rw[e]at h
  by_cases z:q.cls=.type "list" ∧ ¬(∃a n,q={cls:=.type "list",data:=.seq a n })
  .have:gK q={cls:=.none,data:=.fields #[] }:=by unfold gK; rw[if_pos z]
   rw[show(some q).map gK=some (gK q)from rfl,this]at h
   cases h
  .have:gK q=q:=by unfold gK; rw[if_neg z]
   rw[show(some q).map gK=some (gK q)from rfl,this]at h
   exact h
mutual
theorem Rep.toK{K:FZ}{H:Hp}:∀{v:V} {t:Tr},Rep (aJ K) H v t->Rep K H v t
 |_,_,.non=>.non
 |_,_,.bl b=>.bl b
 |_,_,.int i=>.int i
 |_,_,.str x=>.str x
 |_,_,.tup h r=>.tup h.toK (aN.toK r)
 |_,_,.lst h r=>.lst h.toK (aN.toK r)
 |_,_,.eU h m n=>.eU h m (abT n)
theorem aN.toK{K:FZ}{H:Hp}:∀{v:List V} {t:List Tr},aN (aJ K) H v t->aN K H v t
 |_,_,.nil=>.nil
 |_,_,.cons h r=>.cons (Rep.toK h) (aN.toK r)
end
section
variable {X:Cx}
theorem Inv.KH(I:Inv X pins σ H s)(a:oV X.K H l xs):xs.length<=sizeLine/\∃(its:List Value) (n:Nat),Vals xs its/\xs.length=its.length/\s.heap.get? l=some {cls:=.type "list",data:=.seq its.toArray n }:=by
 rcases a with a|⟨its,n,e,z,r⟩
 .obtain⟨z,its,n,r,e⟩:=a.ok I.hok
  exact⟨z,its,n,r,r.length,e⟩
 .have b:=r.length.trans Array.length_toList
  exact⟨by rw[b]; exact z,its.toList,n,r,r.length,I.mF _ _ e⟩
def Uw(K:FZ):R2:=λx y H Q=>∃l b xs zs,x=.ref l/\y=.ref b/\oV K H l xs/\oV K H b zs/\xs.length+zs.length<=sizeLine/\∀p,H p=none->Q (.ref p) (upd H p (.lst (xs++zs)))
theorem abU:dR X (binaryOp .Add) (Uw X.K):=by
 intro pins s σ H x y v u Q I d f h
 obtain⟨l,b,p,zs,rfl,rfl,g,i,t,q⟩:=h
 cases d
 cases f
 obtain⟨z,c,n,r,w,e⟩:=I.KH g
 obtain⟨A,a,B,j,k,m⟩:=I.KH i
 refine PySem.P.add_list e m ?_ (by rw[List.size_toArray,List.size_toArray]; omega)
 have o:c.toArray++a.toArray=(c++a).toArray:=by simp
 rw[o]
 exact⟨.ref _,_,I.Ea (t':=s.toks) (r.append j) (by rw[List.length_append]; omega),rfl,q _ I.fresh⟩
end
def Ux(K:FZ):R2:=λx y H Q=>∃l k xs,x=.ref l/\y=.int k/\oV K H l xs /\ -(2 ^ 63)<=k/\k<2 ^ 63/\xs.length*k.toNat<=sizeLine/\∀p,H p=none->Q (.ref p) (upd H p (.lst (List.replicate k.toNat xs).flatten))
theorem abV{X:Cx}:dR X (binaryOp .Mult) (Ux X.K):=by
 intro pins s σ H x y v u Q I p w h
 obtain⟨l,k,G,rfl,rfl,A,B,C,o,q⟩:=h
 cases p
 obtain⟨t,rfl⟩:=w
 obtain⟨z,b,n,r,D,e⟩:=I.KH A
 have hlen:b.toArray.size*k.toNat<=sizeLine:=by rw[List.size_toArray,<-D]; exact o
 have c:¬b.toArray.size*k.toNat > (2 ^ 63-1) / 8:=by
  have:(sizeLine:Nat)<=(2 ^ 63-1) / 8:=by decide
  omega
 have d:¬(!Builtin.List.listFitsIndex k)=true:=by
  rw[fitsIndex_both B C]
  exact Bool.false_ne_true
 have g:¬Builtin.List.listTooLong (b.toArray.size*k.toNat)=true:=by
  rw[abl hlen]
  exact Bool.false_ne_true
 have f:List.foldl (λi j=>i++j) #[] (List.replicate (if b.toArray.isEmpty=true then 0 else k.toNat) b.toArray)=(List.replicate k.toNat b).flatten.toArray:=by
  have f0:∀m:Nat,List.foldl (λi j=>i++j) #[] (List.replicate m b.toArray)=(List.replicate m b).flatten.toArray:=λm=>by
   have:=foldl_rep b m []
   rw[List.nil_append]at this
   exact this
  rw[f0]
  cases b with
  |nil=>simp
  |cons a J=>rw[if_neg (by simp)]
 refine wpAny_binaryOp_repeat_ref (T := "list") (U := "int") (by decide) ⟨_,e,rfl⟩ (λE=>typeIs_int E k t) noFill_list_mul F.fills_int_mul F.slot_int_rmul repeat_list F.slot_int_index.lookup
  (call_meets F.slot_int_rmul (typeIs_int s k t) F.entry_int_rmul (F.args_int_rmul_2 _ _) (int___rmul___int_list k t l b.toArray n)
   ⟨e,rfl,⟨_,e,rfl⟩,call_meets F.slot_list_mul ⟨_,e,rfl⟩ F.entry_list_mul (F.args_list_mul_2 _ _) (AutoListH.list___mul___list_int_3 l b.toArray n k t d c g) ⟨e,?_⟩⟩)
 rw[f]
 exact⟨.ref _,_,I.Ea (t':=s.toks) (r.rep k.toNat) (by rw[len_rep,Nat.mul_comm]; exact o),rfl,q _ I.fresh⟩
section
variable {K:FZ}{W:Addr->Prop}{σ : St}{H:Hp}{p:Addr}{xs:List V}{ts:List Tr}
theorem zE(a:H p=none):Same (aK W H) (off p (aK W (upd H p o))):=λb u q=>by
 obtain⟨n,e⟩:=iZ q
 have ne:b≠p:=iV e a
 rw[off_ne ne,eG n,bA ne]
 exact e
theorem fP.new(a:H p=none)(r:aN K (aK W H) xs ts):fP K W σ H (upd H p (.lst xs)) (.ref p) (.v (.lst ts) true) :=
 ⟨p,xs,ts,rfl,rfl,a,dM,r.mono (zE a)⟩
theorem fP.newT(hw:∀b,W b->Lt H b)(a:H p=none)(r:aN K (aK W H) xs ts):fP K W σ H (upd H p (.tup xs)) (.ref p) (.v (.tup ts) false):=by
 have nw:¬W p:=λw=>by
  exact(hw p w).ne a
 refine .tup (fL.of ?_) (r.mono λb u q=>(vG (zE (o:=.tup xs) a b u q)).2)
 rw[eG nw]
 exact dM
theorem fP.jc(h:vI v T):fP K W σ H H' v (.v T false):=h.rep
theorem aN.mK:∀{v:List V} {t:List Tr} {i:Nat} {u:Tr},aN K H v t->t[i]?=some u->∃x,v[i]?=some x/\Rep K H x u
 |_,_,_,_,.nil,e=>by simp at e
 |_,_,0,_,.cons h _,e=>by
  simp at e
  subst e
  exact⟨_,rfl,h⟩
 |_,_,i+1,x,.cons _ r,e=>by
  obtain⟨u,a,b⟩:=aN.mK (i:=i) (u:=x) r (by simpa using e)
  exact⟨u,by simpa using a,b⟩
theorem aN.gC(r:aN K H xs ts)(h:gC ts i=some t):∃x,L2.gC xs i=some x/\Rep K H x t:=by
 unfold L2.gC at h ⊢
 rw[r.length]
 cases e:iD ts.length i with
 |none=>rw[e]at h; cases h
 |some j =>
  rw[e]at h
  exact r.mK h
theorem Rp.abX(h:Rp K W H v (.tup ts)):Rep K (aK W H) v (.tup ts):=by
 rcases h with h|⟨a,xs,c,rfl,b,e,r⟩
 .exact h
 .cases b
theorem big(h:n<=100000):n<=sizeLine:=Nat.le_trans h (by decide)
end
section
variable {K:FZ}
def gI(p:Int->Int->Int):G2
 |.int i,.int j=>.ok (.int (p i j),false)
 |_,_=>.bad
theorem abY:iG K (jB λi j=>.int (p i j)) (gI p):=λW x y a b H Q hw c d h=>by
 cases a <;> try exact h.elim
 cases b <;> try exact h.elim
 rw[c.int,d.int]
 exact⟨_,_,rfl,rfl,h _ H (Same.refl _) (.jc (.int _))⟩
def fD(c:Int->Int->Bool)(p:Int->Int->Int):G2
 |.int i,.int j=>if c i j=true then .ok (.int (p i j),false)else .bad
 |_,_=>.bad
theorem KJ(d:∀i j,c i j=true->C i j):iG K (rI C λi j=>.int (p i j)) (fD c p):=λW x y a b H Q hw f g h=>by
 cases a <;> try exact h.elim
 cases b <;> try exact h.elim
 rw[f.int,g.int]
 dsimp only[fD]at h
 split at h
 .rename_i e
  exact⟨_,_,rfl,rfl,d _ _ e,h _ H (Same.refl _) (.jc (.int _))⟩
 .exact h.elim
def gB(p:Int->Int->Bool):G2
 |.int i,.int j=>.ok (.bl (p i j),false)
 |_,_=>.bad
theorem KN:iG K (jB λi j=>.bl (p i j)) (gB p):=λW x y a b H Q hw c d h=>by
 cases a <;> try exact h.elim
 cases b <;> try exact h.elim
 rw[c.int,d.int]
 exact⟨_,_,rfl,rfl,h _ H (Same.refl _) (.jc (.bl _))⟩
def bT:G2:=λt u=>if dep t<=40/\dep u<=40 then .ok (.bl (eqT t u),false)else .bad
theorem abZ:iG (aJ K) (Kd K) bT:=λW x y a b H Q hw c d h=>by
 unfold bT at h
 split at h
 .rename_i e
  exact⟨a,b,c.rep.toK,d.rep.toK,e.1,e.2,h _ H (Same.refl _) (.jc (.bl _))⟩
 .exact h.elim
def gq:G2:=λt u=>if dep t<=40/\dep u<=40 then .ok (.bl (!eqT t u),false)else .bad
theorem ab0:iG (aJ K) (KD K) gq:=λW x y a b H Q hw c d h=>by
 unfold gq at h
 split at h
 .rename_i e
  exact⟨a,b,c.rep.toK,d.rep.toK,e.1,e.2,h _ H (Same.refl _) (.jc (.bl _))⟩
 .exact h.elim
def jP(f:Bool->Bool):G2:=λt u=>match u with
 |.lst us=>if deps us<=40/\dep t<=40 then .ok (.bl (f (uw t us)),false)else .bad
 |.tup us=>if deps us<=40/\dep t<=40 then .ok (.bl (f (uw t us)),false)else .bad
 |_=>.bad
theorem ab1:iG (aJ K) (Kf K) (jP id):=λW x y a b H Q hw f g h=>by
 cases b <;> try exact h.elim
 .rename_i c
  dsimp only[jP]at h
  split at h
  .rename_i e
   obtain⟨p,d,rfl,q,r⟩:=g.tup
   exact⟨a,c,p,d,f.rep.toK,rfl,.inr q.toK,(r.mono (iR _ _)).toK,e.1,e.2,h _ H (Same.refl _) (.jc (.bl _))⟩
  .exact h.elim
 .rename_i c
  dsimp only[jP]at h
  split at h
  .rename_i e
   obtain⟨p,d,rfl,q,r⟩:=g.lst
   exact⟨a,c,p,d,f.rep.toK,rfl,.inl q.toK,(r.mono (iR _ _)).toK,e.1,e.2,h _ H (Same.refl _) (.jc (.bl _))⟩
  .exact h.elim
def Uy:Tr->Bool
 |.non=>true
 |_=>false
def nH(f:Bool->Bool):G2:=λt u=>match u with
 |.non=>.ok (.bl (f (Uy t)),false)
 |_=>.bad
theorem ab2(h:Rep K H x t):decide (x=.non)=Uy t:=by
 cases h <;> rfl
theorem ab3:iG K (λx y H Q=>y=.non/\Q (.bl (decide (x=.non))) H) (nH id):=λW x y a b H Q hw c d h=>by
 cases b <;> try exact h.elim
 rw[d.non,ab2 c.rep]
 exact⟨rfl,h _ H (Same.refl _) (.jc (.bl _))⟩
def KQ(K:FZ):R2:=λx y H Q=>(jB λi j=>.int (i+j)) x y H Q\/Uw K x y H Q\/(∃i j,x=.str i/\y=.str j/\i.length+j.length<=sizeLine/\Q (.str (i++j)) H)\/Tp K x y H Q
theorem ji:dR X (binaryOp .Add) (KQ X.K):=dR.or Ss (dR.or abU (dR.or aaJ aa7))
noncomputable def cC:G2
 |.int i,.int j=>.ok (.int (i+j),false)
 |.lst a,.lst b=>if a.length+b.length<=100000 then .ok (.lst (a++b),true)else .bad
 |.str a,.str b=>if a.length+b.length<=100000 then .ok (.str (a++b),false)else .bad
 |.tup a,.tup b=>if 0<a.length/\a.length+b.length<=100000 then .ok (.tup (a++b),false)else .bad
 |_,_=>.bad
theorem ab4:iG (aJ K) (KQ K) cC:=λW x y a b H Q hw d g h=>by
 cases a <;> cases b <;> try exact h.elim
 .rw[d.int,g.int]
  exact .inl ⟨_,_,rfl,rfl,h _ H (Same.refl _) (.jc (.int _))⟩
 .rename_i i j
  rw[d.str,g.str]
  dsimp only[cC]at h
  split at h
  .rename_i e
   exact .inr (.inr (.inl ⟨i,j,rfl,rfl,big e,h _ H (Same.refl _) (.jc (.str _))⟩))
  .exact h.elim
 .rename_i s ws
  dsimp only[cC]at h
  split at h
  .rename_i e
   have rt:=d.abX
   obtain⟨p,k,rfl,q,r⟩:=d.tup
   obtain⟨l,m,rfl,n,c⟩:=g.tup
   have l1:=r.length
   have l2:=c.length
   refine .inr (.inr (.inr ⟨p,l,k,m,rfl,rfl,q.toK,n.toK,?_,by rw[l1,l2]; exact big e.2,λz=>h _ H (Same.refl _) ?_,λ_ z f=>h _ _ (gD f _) (.newT hw f (r.app c))⟩))
   .rintro rfl
    have o:=e.1
    rw[<-l1]at o
    cases o
   .subst z
    cases c
    rw[List.append_nil]
    exact rt
  .exact h.elim
 .rename_i s ws
  dsimp only[cC]at h
  split at h
  .rename_i e
   obtain⟨p,k,rfl,q,r⟩:=d.lst
   obtain⟨l,m,rfl,n,c⟩:=g.lst
   refine .inr (.inl ⟨p,l,k,m,rfl,rfl,q.zB,n.zB,by rw[r.length,c.length]; exact big e,λz f=>h _ _ (gD f _) (.new f (r.app c))⟩)
  .exact h.elim
end
def fit(i:Int):Bool:=decide (i.natAbs.log2<1048575)
theorem Uz(h:fit i=true):Builtin.Int.intBits i<=2 ^ 20:=by
 have h:=of_decide_eq_true h
 unfold Builtin.Int.intBits
 split
 .decide
 .omega
def tiny(i:Int):Bool:=decide (-18446744073709551616<i)&&decide (i<18446744073709551616)
def gM(i j:Int):Bool:=(fit i&&fit j) || tiny i || tiny j
def Ep(i j:Int):Prop:=gM i j=true
theorem Ep.ok(h:Ep i j):IntMulOk i j:=by
 unfold Ep gM at h
 rw[Bool.or_eq_true,Bool.or_eq_true,Bool.and_eq_true]at h
 have a:∀{k:Int},tiny k=true -> -(2 ^ 64)<k/\k<2 ^ 64:=λ{k} h=>by
  unfold tiny at h
  rw[Bool.and_eq_true]at h
  have b:=of_decide_eq_true h.1
  have c:=of_decide_eq_true h.2
  omega
 rcases h with(⟨b,c⟩|h)|h
 .exact .of_bits (Uz b) (Uz c)
 .exact .of_left (intBits_le_64 (a h).1 (a h).2)
 .exact .of_right (intBits_le_64 (a h).1 (a h).2)
def KR(K:FZ):R2:=λx y H Q=>(rI Ep λi j=>.int (i*j)) x y H Q\/Ux K x y H Q
theorem jj:dR X (binaryOp .Mult) (KR X.K):=dR.or (Dp λ_ _ _ _ _ _ _ a q=>mul_int q a.ok) abV
def cV:G2
 |.int i,.int j=>if gM i j=true then .ok (.int (i*j),false)else .bad
 |.lst a,.int k=>if(-1000<=k/\k<=1000)/\a.length<=100 then .ok (.lst (List.replicate k.toNat a).flatten,true)else .bad
 |_,_=>.bad
def jE(_ j:Int):Bool:=decide (j≠0)&&decide (j.natAbs.log2<9000)
def Er(i j:Int):Prop:=jE i j=true
theorem kJ:dR X (binaryOp .FloorDiv) (rI Er λi j=>.int (i.fdiv j)):=Dp λi j _ _ _ _ _ a q=>by
 unfold Er jE at a
 rw[Bool.and_eq_true]at a
 exact floordiv_int (of_decide_eq_true a.1) q (.inl (PyProof.noPylong_of_log2 (of_decide_eq_true a.2)))
def cL:G2:=fD jE Int.fdiv
def cj:G2:=fD (λ_ j=>decide (j≠0)) Int.fmod
def UG(i j:Int):Bool:=decide (0<=j)&&decide (j<=1000)&&tiny i
def lN:G2:=fD UG λi j=>i ^ j.toNat
def jo:G2:=gI λi j=>i-j
section
variable {K:FZ}
theorem aN.rep(r:aN K H xs ts):∀n,aN K H (List.replicate n xs).flatten (List.replicate n ts).flatten
 | 0=>.nil
 |n+1=>by
  exact r.app (aN.rep r n)
theorem ab5:iG (aJ K) (KR K) cV:=λW x y a b H Q hw d f h=>by
 cases a <;> cases b <;> try exact h.elim
 .rw[d.int,f.int]
  dsimp only[cV]at h
  split at h
  .rename_i e
   exact .inl ⟨_,_,rfl,rfl,e,h _ H (Same.refl _) (.jc (.int _))⟩
  .exact h.elim
 .rename_i l k
  rw[f.int]
  dsimp only[cV]at h
  split at h
  .rename_i e
   obtain⟨p,g,rfl,q,r⟩:=d.lst
   by_cases m:0<=k
   .refine .inr ⟨p,k,g,rfl,rfl,q.zB,by omega,by omega,?_,λz c=>h _ _ (gD c _) (.new c (r.rep _))⟩
    rw[r.length]
    refine Nat.le_trans (Nat.mul_le_mul e.2 (show k.toNat<=1000 by omega)) (by decide)
   .have i:k.toNat=0:=by omega
    by_cases j : -(2 ^ 63)<=k
    .refine .inr ⟨p,k,g,rfl,rfl,q.zB,j,by omega,?_,λz c=>h _ _ (gD c _) (.new c (r.rep _))⟩
     rw[i,Nat.mul_zero]
     exact Nat.zero_le _
    .omega
  .exact h.elim
theorem ab6:iG K (rI Er λi j=>.int (i.fdiv j)) cL:=KJ λ_ _ h=>h
theorem ab7:iG K (rI (λ_ j=>j≠0) λi j=>.int (i.fmod j)) cj:=KJ λ_ _ h=>of_decide_eq_true h
theorem ab8:iG K (rI JH λi j=>.int (i ^ j.toNat)) lN:=KJ λi j h=>by
 unfold UG tiny at h
 rw[Bool.and_eq_true,Bool.and_eq_true,Bool.and_eq_true]at h
 have a:=of_decide_eq_true h.1.1
 have b:=of_decide_eq_true h.1.2
 have c:=of_decide_eq_true h.2.1
 have d:=of_decide_eq_true h.2.2
 exact⟨a,by omega,by omega⟩
theorem ab9:iG K (jB λi j=>.int (i-j)) jo:=abY
def jq:G2:=gB λi j=>decide (j<i)
def fG:G2:=gB λi j=>decide (i<=j)
def j5:G2:=gB λi j=>decide (j<=i)
theorem acd:iG K (jB λi j=>.bl (decide (j<i))) jq:=KN
theorem KY:iG K (jB λi j=>.bl (decide (i<=j))) fG:=KN
theorem ace:iG K (jB λi j=>.bl (decide (j<=i))) j5:=KN
def intsOf:List Tr->Option (List Int)
 | []=>some []
 |.int i::r=>(intsOf r).map (i :: ·)
 |_::_=>none
theorem ints_of:∀{ts:List Tr} {ns:List Int} {xs:List V},intsOf ts=some ns->aN K H xs ts->xs=ns.map V.int
 | [],ns,xs,h,r=>by cases h; cases r; rfl
 |.int i::q,ns,xs,h,r=>by
  unfold intsOf at h
  cases e:intsOf q with
  |none=>rw[e]at h; cases h
  |some ms =>
   rw[e]at h
   cases h
   cases r with
   |cons a b =>
    cases a
    rw[ints_of e b]
    rfl
 |.non::q,ns,xs,h,r=>by cases h
 |.bl _::q,ns,xs,h,r=>by cases h
 |.str _::q,ns,xs,h,r=>by cases h
 |.tup _::q,ns,xs,h,r=>by cases h
 |.lst _::q,ns,xs,h,r=>by cases h
def KZ(K:FZ):R2:=λx y H Q=>(jB λi j=>.bl (decide (i<j))) x y H Q\/Tn K x y H Q
theorem xu(a:X.A.units+64<cLine):dR X (compareOp .Lt) (KZ X.K):=dR.or aaG (aa6 (by omega))
def gW:G2
 |.int i,.int j=>.ok (.bl (decide (i<j)),false)
 |.tup a,.tup b=>match intsOf a,intsOf b with
  |some ns,some ms=>.ok (.bl (HT.lexLt ns ms),false)
  |_,_=>.bad
 |_,_=>.bad
theorem UJ:iG (aJ K) (KZ K) gW:=λW x y a b H Q hw c d h=>by
 cases a <;> cases b <;> try exact h.elim
 .rw[c.int,d.int]
  exact .inl ⟨_,_,rfl,rfl,h _ H (Same.refl _) (.jc (.bl _))⟩
 .rename_i m ws
  dsimp only[gW]at h
  split at h
  .rename_i ns ms e f
   obtain⟨p,n,rfl,q,r⟩:=c.tup
   obtain⟨g,o,rfl,i,j⟩:=d.tup
   have k:=ints_of e r
   have l:=ints_of f j
   subst k l
   exact .inr ⟨p,g,ns,ms,rfl,rfl,q.toK,i.toK,h _ H (Same.refl _) (.jc (.bl _))⟩
  .exact h.elim
noncomputable def aB:G2
 |.lst ts,.int i=>match gC ts i with
  |some t=>.ok (t,false)
  |none=>.bad
 |.tup ts,.int i=>match gC ts i with
  |some t=>.ok (t,false)
  |none=>.bad
 | .str z,.int i=>if z.length<=100000 then (match gC z.cps.toList i with
  |some c=>.ok (.str ⟨#[c]⟩,false)
  |none=>.bad)else .bad
 |_,_=>.bad
theorem UL:iG (aJ K) (rM K) aB:=λW x y a b H Q hw d f h=>by
 cases a <;> cases b <;> try exact h.elim
 .rename_i z i
  rw[d.str,f.int]
  dsimp only[aB]at h
  split at h
  .rename_i e
   split at h
   .rename_i c l
    exact .inr (.inr ⟨z,i,c,rfl,rfl,big e,l,h _ H (Same.refl _) (.jc (.str _))⟩)
   .exact h.elim
  .exact h.elim
 .rename_i m i
  rw[f.int]
  dsimp only[aB]at h
  split at h
  .rename_i t g
   obtain⟨p,j,rfl,q,r⟩:=d.tup
   obtain⟨v,ev,k⟩:=r.gC g
   exact .inr (.inl ⟨p,j,i,v,rfl,rfl,q.toK,ev,h _ H (Same.refl _) k⟩)
  .exact h.elim
 .rename_i m i
  rw[f.int]
  dsimp only[aB]at h
  split at h
  .rename_i t g
   obtain⟨p,j,rfl,q,r⟩:=d.lst
   obtain⟨v,ev,k⟩:=r.gC g
   exact .inl ⟨p,j,i,v,rfl,rfl,q.toK,ev,h _ H (Same.refl _) k⟩
  .exact h.elim
end
section
variable {K:FZ}{W:Addr->Prop}{σ : St}
theorem jD.step(hw:∀b,W b->H b≠none)(s:bV W H' gj):∀{vs:List V} {rs:List Rv},jD K W σ H H' vs rs->jD K W σ H gj vs rs
 |_,_,.nil=>.nil
 |_,_,.cons h q=>.cons (h.step hw s) (jD.step hw s q)
theorem jD.back(d:∀b,H b=none->G b=none):∀{vs:List V} {rs:List Rv},jD K W σ H H' vs rs->jD K W σ G H' vs rs
 |_,_,.nil=>.nil
 |_,_,.cons h q=>.cons (h.back d) (jD.back d q)
inductive uD(K:FZ)(W:Addr->Prop)(H:Hp):List V->List Tr->Prop
 |nil:uD K W H [] []
 |cons {v:V} {t:Tr} {vs:List V} {ts:List Tr} (h:Rp K W H v t) (q:uD K W H vs ts):uD K W H (v::vs) (t::ts)
def drs(ρ : En):List Rv->Rs (List Tr)
 | []=>.ok []
 |r::rs=>(dr ρ r).bind λt=>(drs ρ rs).bind λts=>.ok (t::ts)
theorem zF(ρ : En):∀(rs:List Rv) (c:Str),drs ρ rs ≠ .ex c
 | [],c=>by intro z; cases z
 |r::rs,c=>by
  unfold drs
  cases e:dr ρ r with
  |bad=>intro z; cases z
  |ex d=>exact(nG _ _ _ e).elim
  |ok t =>
   cases a:drs ρ rs with
   |bad=>intro z; cases z
   |ex d=>exact(zF ρ rs d a).elim
   |ok b=>intro z; cases z
theorem jk{α β : Type}{r:Rs α}{f : α -> Rs β}{b : β}(h:r.bind f=.ok b):∃a,r=.ok a/\f a=.ok b:=by
 cases r with
 |bad=>cases h
 |ex c=>cases h
 |ok a=>exact⟨a,rfl,h⟩
theorem Es{t:Tx}{ρ : En}{H c:Hp}(e:aO t W ρ σ c)(hw:∀b,W b->H b≠none):∀{vs:List V} {rs:List Rv} {ts:List Tr},jD t.K W σ H c vs rs->drs ρ rs=.ok ts->uD t.K W c vs ts
 |_,_,_,.nil,q=>by cases q; exact .nil
 |_,_,_,.cons h r,q=>by
  unfold drs at q
  obtain⟨a,q1,q⟩:=jk q
  obtain⟨as,q2,q⟩:=jk q
  cases q
  exact .cons (nC e hw h q1) (Es e hw r q2)
def cls:List Rv->Rs (List Tr)
 | []=>.ok []
 |.v t _::rs=>(cls rs).bind λts=>.ok (t::ts)
 |.s _::_=>.bad
theorem zG:∀(rs:List Rv) (c:Str),cls rs ≠ .ex c
 | [],c=>by intro z; cases z
 |.v t fr::rs,c=>by
  unfold cls
  cases a:cls rs with
  |bad=>intro z; cases z
  |ex d=>exact(zG rs d a).elim
  |ok b=>intro z; cases z
 |.s i::rs,c=>by intro z; cases z
theorem zH{H a:Hp}(hw:∀b,W b->H b≠none):∀{vs:List V} {rs:List Rv} {ts:List Tr},jD K W σ H a vs rs->cls rs=.ok ts->aN K (aK W a) vs ts
 |_,_,_,.nil,q=>by cases q; exact .nil
 |_,.v t fr::_,_,.cons h r,q=>by
  unfold cls at q
  obtain⟨as,q2,q⟩:=jk q
  cases q
  exact .cons (h.rep hw) (zH hw r q2)
 |_,.s i::_,_,.cons h r,q=>by cases q
end
section
variable {t:Tx}
def au:AF:=λρ=>.ok ([],ρ)
def ak(f:EF)(g:AF):AF:=λρ=>(f ρ).bind λp=>(g p.2).bind λq=>.ok (p.1::q.1,q.2)
theorem bU:SA t uf au:=λW a σ H Q e h=>h [] H e (bV.refl _ _) .nil
theorem bh(a:SE t te f)(b:SA t ta g):SA t (mG te ta) (ak f g):=λW c σ H Q e h=>by
 refine a W c σ H _ e (Rs.bF (Rs.aX h) λp h v H1 d s1 v1=>?_)
 refine b W p.2 σ H1 _ d (Rs.bF (Rs.aX h) λq h i j k s2 v2=>?_)
 exact h (v::i) j k (s1.trans s2) (.cons (v1.1.step e.wn s2) (jD.back s1.dom v2))
def dO(g:AF):EF:=λρ=>(g ρ).bind λp=>(cls p.1).bind λts=>if ts.length<=1000 then .ok (.v (.lst ts) true,p.2)else .bad
def jd(g:AF):EF:=λρ=>(g ρ).bind λp=>(cls p.1).bind λts=>if ts.length<=1000 then .ok (.v (.tup ts) false,p.2)else .bad
theorem dW{α : Type}{r:Rs α}{EX:Str->Prop}{P : α -> Prop}(h:r.post EX P)(n:∀c,r ≠ .ex c):∃a,r=.ok a/\P a:=by
 cases r with
 |bad=>exact h.elim
 |ex c=>exact(n c rfl).elim
 |ok a=>exact⟨a,rfl,h⟩
theorem xG{b:TA}{g:AF}(d:SA t b g):SE t (JN b) (dO g):=λW f σ H Q e h=>by
 refine d W f σ H _ e (Rs.bF (Rs.aX h) λp h j H1 c s1 v1=>?_)
 obtain⟨k,q,h⟩:=dW (Rs.aX h) (zG _)
 have r:=zH e.wn v1 q
 split at h
 .rename_i i
  refine⟨by rw[r.length]; exact Nat.le_trans i (by decide),λz a=>h _ _ (c.grow (gD a _)) (s1.trans (bV.of (gD a _))) ?_⟩
  exact(jh.of (σ' := σ) c (gD a _) (fP.new a r)).back s1.dom
 .exact h.elim
theorem K1{b:TA}{g:AF}(d:SA t b g):SE t (Sx b) (jd g):=λW f σ H Q e h=>by
 refine d W f σ H _ e (Rs.bF (Rs.aX h) λp h j H1 c s1 v1=>?_)
 obtain⟨k,q,h⟩:=dW (Rs.aX h) (zG _)
 have r:=zH e.wn v1 q
 split at h
 .rename_i i
  refine⟨by rw[r.length]; exact Nat.le_trans i (by decide),λz a=>h _ _ (c.grow (gD a _)) (s1.trans (bV.of (gD a _))) ?_⟩
  exact .low ((fP.newT (σ := σ) (W:=W) c.wl a r))
 .exact h.elim
abbrev G1:=Tr->Rs (Tr × Bool)
def rT(K:FZ)(r:V->Hp->VK->Prop)(g:G1):Prop:=∀W x a H Q,(∀b,W b->Lt H b)->Rp K W H x a->(g a).post (λ_=>False) (λp=>∀v H',Same H H'->fP K W [] H H' v (.v p.1 p.2)->Q v H')->r x H Q
def zJ(g:G1)(fa:EF):EF:=λρ=>(fa ρ).bind λp=>(dr p.2 p.1).bind λa=>(g a).bind λz=>.ok (.v z.1 z.2,p.2)
theorem acf{r:V->Hp->VK->Prop}{g:G1}{d:TE}{f:EF}(o:rT t.K r g)(i:∀a c,g a ≠ .ex c)(j:SE t d f):SE t (Dm r d) (zJ g f):=λW k σ H Q e h=>by
 refine j W k σ H _ e (Rs.bF (Rs.aX h) λp h x H1 b s1 v1=>?_)
 obtain⟨a,l,h⟩:=dW (Rs.aX h) (nG _ _)
 refine o W x a H1 Q b.wl (nC b e.wn v1.1 l) (Rs.bF (kj (Rs.aX h) (i a)) λz h v m s2 v2=>?_)
 exact h v m (b.grow s2) (s1.trans (bV.of s2)) ((jh.of b s2 v2).back s1.dom)
def rW:G1
 |.int i=>.ok (.int (-i),false)
 |_=>.bad
theorem UW{K:FZ}:rT K (rU λi=>.int (-i)) rW:=λW x a H Q hw b h=>by
 cases a <;> try exact h.elim
 rw[b.int]
 exact⟨_,rfl,h _ H (Same.refl _) (.jc (.int _))⟩
def cu:Tr->Rs Bool
 |.bl b=>.ok b
 |_=>.bad
theorem U0(a:Tr)(c:Str):cu a ≠ .ex c:=by cases a <;> (intro z; cases z)
def bY(fa:EF):BF:=λρ=>(fa ρ).bind λp=>(dr p.2 p.1).bind λa=>(cu a).bind λb=>.ok (b,p.2)
theorem U3{K:FZ}{W:Addr->Prop}{H:Hp}{v:V}{a:Tr}{b:Bool}(h:Rp K W H v a)(q:cu a=.ok b):v=.bl b:=by
 cases a <;> cases q
 exact h.bl
theorem lO{c:TE}{d:EF}(g:SE t c d):ST t (JL c) (bY d):=λW i σ H Q e h=>by
 refine g W i σ H _ e (Rs.bF (Rs.aX h) λp h x H1 f s1 v1=>?_)
 obtain⟨a,j,h⟩:=dW (Rs.aX h) (nG _ _)
 obtain⟨b,k,h⟩:=dW (Rs.aX h) (U0 _)
 exact⟨b,U3 (nC f e.wn v1.1 j) k,h H1 f s1⟩
def gF:Tr->Rs Bool
 |.non=>.ok false
 |.bl b=>.ok b
 |.int i=>.ok (i != 0)
 |.lst ts=>.ok (!ts.isEmpty)
 |.tup ts=>.ok (!ts.isEmpty)
 |.str x=>if x.length<=100000 then .ok ((x.length:Int) != 0)else .bad
 |.eU _=>.bad
theorem acg(a:Tr)(c:Str):gF a ≠ .ex c:=by
 cases a <;> try(intro z; cases z; done)
 dsimp only[gF]
 split <;> (intro z; cases z)
theorem U4{α β : Type}{a:List α}{b:List β}(h:a.length=b.length):a.isEmpty=b.isEmpty:=by
 cases a <;> cases b <;> first|rfl|cases h
theorem ach{K:FZ}{W:Addr->Prop}{H:Hp}{v:V}{a:Tr}{b:Bool}(h:Rp (aJ K) W H v a)(q:gF a=.ok b):wX K v H b:=by
 cases a with
 |non=>cases q; rw[h.non]; rfl
 |bl i=>cases q; rw[h.bl]; rfl
 |int i=>cases q; rw[h.int]; rfl
 |str i =>
  dsimp only[gF]at q
  split at q
  .rename_i e
   cases q
   rw[h.str]
   exact⟨big e,rfl⟩
  .cases q
 |tup f =>
  cases q
  obtain⟨p,d,rfl,q,r⟩:=h.tup
  exact .inr (.inl ⟨d,q.toK,by rw[U4 r.length]⟩)
 |lst f =>
  cases q
  obtain⟨p,d,rfl,q,r⟩:=h.lst
  exact .inl ⟨d,q.toK,by rw[U4 r.length]⟩
 |eU c=>cases q
def dJ(fa:EF):BF:=λρ=>(fa ρ).bind λp=>(dr p.2 p.1).bind λa=>(gF a).bind λb=>.ok (b,p.2)
def aci(K:FZ)(ta:TE):TT:=λσ H Q=>ta σ H λx H'=>∃k,wX K x H' k/\Q k H'
theorem jF{K:FZ}(g:t.K=aJ K){c:TE}{d:EF}(i:SE t c d):ST t (aci K c) (dJ d):=λW j σ H Q e h=>by
 refine i W j σ H _ e (Rs.bF (Rs.aX h) λp h x H1 f s1 v1=>?_)
 obtain⟨a,k,h⟩:=dW (Rs.aX h) (nG _ _)
 obtain⟨b,l,h⟩:=dW (Rs.aX h) (acg _)
 have r:=nC f e.wn v1.1 k
 rw[g]at r
 exact⟨b,ach r l,h H1 f s1⟩
def gY(f g:BF):BF:=λρ=>(f ρ).bind λp=>if p.1=true then .ok (true,p.2)else g p.2
def eX(f:BF):BF:=λρ=>(f ρ).bind λp=>.ok (!p.1,p.2)
theorem pQ(b:ST t ta f)(d:ST t tb g):ST t (RN ta tb) (gY f g):=λW i σ H Q e h=>by
 refine b W i σ H _ e (Rs.bF (Rs.aX h) λp h H1 a s1=>?_)
 split at h
 .rename_i c
  exact if_pos c▸h H1 a s1
 .rename_i c
  refine if_neg c▸d W p.2 σ H1 _ a (Rs.bF h λq h j k s2=>h j k (s1.trans s2))
theorem kO(a:ST t ta f):ST t (RP ta) (eX f):=λW b σ H Q e h =>
 a W b σ H _ e (Rs.bF (Rs.aX h) λp h H1 c s1=>h H1 c s1)
def eB(b:Bool):Rv:=.v (.bl b) false
def oW(f g:EF):EF:=λρ=>(bY f ρ).bind λp=>if p.1=true then g p.2 else .ok (eB false,p.2)
def Et(f g:EF):EF:=λρ=>(bY f ρ).bind λp=>if p.1=true then .ok (eB true,p.2)else g p.2
def K3(f:EF):EF:=λρ=>(bY f ρ).bind λp=>.ok (eB (!p.1),p.2)
theorem acj(b:SE t ta f)(d:SE t tb g):SE t (RQ ta tb) (oW f g):=λW i σ H Q e h=>by
 refine lO b W i σ H _ e (Rs.bF (Rs.aX h) λp h H1 a s1=>?_)
 split at h
 .rename_i c
  refine if_pos c▸d W p.2 σ H1 _ a (Rs.bF h λq h v j k s2 v2=>h v j k (s1.trans s2) (v2.back s1.dom))
 .rename_i c
  exact if_neg c▸h _ H1 a s1 (.low (.bl false))
theorem acn(b:SE t ta f)(d:SE t tb g):SE t (RV ta tb) (Et f g):=λW i σ H Q e h=>by
 refine lO b W i σ H _ e (Rs.bF (Rs.aX h) λp h H1 a s1=>?_)
 split at h
 .rename_i c
  exact if_pos c▸h _ H1 a s1 (.low (.bl true))
 .rename_i c
  refine if_neg c▸d W p.2 σ H1 _ a (Rs.bF h λq h v j k s2 v2=>h v j k (s1.trans s2) (v2.back s1.dom))
theorem aco(a:SE t ta f):SE t (RW ta) (K3 f):=λW b σ H Q e h =>
 lO a W b σ H _ e (Rs.bF (Rs.aX h) λp h H1 c s1=>h _ H1 c s1 (.low (.bl _)))
def uE(c:BF)(f g:EF):EF:=λρ=>(c ρ).bind λp=>if p.1=true then f p.2 else g p.2
theorem acp(j:ST t tc c)(k:SE t ta f)(m:SE t tb g):SE t (RX tc ta tb) (uE c f g):=λW l σ H Q e h=>by
 refine j W l σ H _ e (Rs.bF (Rs.aX h) λp h H1 i s1=>?_)
 split at h
 .rename_i d
  refine if_pos d▸k W p.2 σ H1 _ i (Rs.bF h λq h v a b s2 v2=>h v a b (s1.trans s2) (v2.back s1.dom))
 .rename_i d
  refine if_neg d▸m W p.2 σ H1 _ i (Rs.bF h λq h v a b s2 v2=>h v a b (s1.trans s2) (v2.back s1.dom))
end
section
variable {t:Tx}
noncomputable def rY(g g':G2)(fa fb fc:EF):EF:=λρ=>(fa ρ).bind λp=>(fb p.2).bind λq=>(dr q.2 p.1).bind λa=>(dr q.2 q.1).bind λb=>(g a b).bind λz=>(cu z.1).bind λk =>
 if k=true then(fc q.2).bind λs=>(dr s.2 q.1).bind λb=>(dr s.2 s.1).bind λc=>(g' b c).bind λz=>.ok (.v z.1 z.2,s.2)else .ok (eB false,q.2)
theorem acq(o:iG t.K r g)(B:iG t.K r' g')(C:∀a b c,g a b ≠ .ex c)(j:∀a b c,g' a b ≠ .ex c)(D:SE t ta fa)(E:SE t tb fb)(F:SE t tc fc):SE t (Dv r r' ta tb tc) (rY g g' fa fb fc):=λW G σ H Q e h=>by
 refine D W G σ H _ e (Rs.bF (Rs.aX h) λp h x H1 d s1 v1=>?_)
 refine E W p.2 σ H1 _ d (Rs.bF (Rs.aX h) λq h y I f s2 v2=>?_)
 obtain⟨a,J,h⟩:=dW (Rs.aX h) (nG _ _)
 obtain⟨b,L,h⟩:=dW (Rs.aX h) (nG _ _)
 refine o W x y a b I _ f.wl (nC f e.wn (v1.1.step e.wn s2) J) (nC f d.wn v2.1 L) (Rs.bF (kj (Rs.aX h) (C a b)) λz h v m s3 M=>?_)
 obtain⟨k,N,h⟩:=dW (Rs.aX h) (U0 _)
 have l:=f.grow s3
 have O:v=.bl k:=U3 (.inl (fP.rep (σ:=[]) f.wn M)) N
 refine⟨k,O,?_⟩
 split at h
 .rename_i c
  rw[if_pos c]
  refine F W q.2 σ m _ l (Rs.bF (Rs.aX h) λu h w n i s4 v4=>?_)
  obtain⟨s,P,h⟩:=dW (Rs.aX h) (nG _ _)
  obtain⟨A,R,h⟩:=dW (Rs.aX h) (nG _ _)
  refine B W y w s A n _ i.wl (nC i d.wn ((v2.1.step d.wn (bV.of s3)).step d.wn s4) P) (nC i l.wn v4.1 R) (Rs.bF (kj (Rs.aX h) (j s A)) λz h v S s5 T=>?_)
  have st:bV W H n:=(s1.trans (s2.trans (bV.of s3))).trans s4
  exact h v S (i.grow s5) (st.trans (bV.of s5)) ((jh.of i s5 T).back st.dom)
 .rename_i c
  rw[if_neg c]
  exact h _ m l ((s1.trans s2).trans (bV.of s3)) (.low (.bl false))
abbrev OF:=En->Rs (Option Int × En)
def SO(t:Tx)(te:TO)(f:OF):Prop:=∀W ρ σ H Q,aO t W ρ σ H->(f ρ).post t.EX (λp=>∀H',aO t W p.2 σ H'->bV W H H'->Q p.1 H')->te σ H Q
def pR:OF:=λρ=>.ok (none,ρ)
theorem U5:SO t Td pR:=λW a σ H Q e h=>h H e (bV.refl _ _)
def pU:Tr->Rs Int
 |.int i=>.ok i
 |_=>.bad
theorem acr(a:Tr)(c:Str):pU a ≠ .ex c:=by cases a <;> (intro z; cases z)
theorem acs{K:FZ}{W:Addr->Prop}{H:Hp}{v:V}{a:Tr}{b:Int}(h:Rp K W H v a)(q:pU a=.ok b):v=.int b:=by
 cases a <;> cases q
 exact h.int
def pW(fa:EF):OF:=λρ=>(fa ρ).bind λp=>(dr p.2 p.1).bind λa=>(pU a).bind λb=>.ok (some b,p.2)
theorem U6{c:TE}{d:EF}(g:SE t c d):SO t (Te c) (pW d):=λW i σ H Q e h=>by
 refine g W i σ H _ e (Rs.bF (Rs.aX h) λp h x H1 f s1 v1=>?_)
 obtain⟨a,j,h⟩:=dW (Rs.aX h) (nG _ _)
 obtain⟨b,k,h⟩:=dW (Rs.aX h) (acr _)
 exact⟨b,acs (nC f e.wn v1.1 j) k,h H1 f s1⟩
def cut{α : Type}(xs:List α)(lo hi:Option Int):List α := (xs.drop (HT.cJ xs.length 0 lo)).take (HT.cJ xs.length xs.length hi-HT.cJ xs.length 0 lo)
theorem aN.cut{K:FZ}{H:Hp}{xs:List V}{ts:List Tr}(r:aN K H xs ts)(lo hi:Option Int):aN K H (uh xs lo hi) (L2.cut ts lo hi):=by
 unfold uh L2.cut
 rw[r.length]
 exact(r.drop _).take _
def U7(K:FZ):V->Option Int->Option Int->Hp->VK->Prop:=λx lo hi H Q=>TV K x lo hi H Q\/Tj K x lo hi H Q\/Ui x lo hi H Q
theorem Eu:pL X (U7 X.K):=pL.or abh (pL.or aa5 aby)
noncomputable def qw(lo hi:Option Int):G1
 |.lst ts=>.ok (.lst (cut ts lo hi),true)
 |.tup ts=>if ¬(HT.cJ ts.length 0 lo=0/\HT.cJ ts.length ts.length hi=ts.length)then .ok (.tup (cut ts lo hi),false)else .bad
 |.str z=>if z.length<=100000 then .ok (.str (Txt.slice z lo hi),false)else .bad
 |_=>.bad
theorem acu(lo hi:Option Int)(a:Tr)(c:Str):qw lo hi a ≠ .ex c:=by
 cases a <;> dsimp only[qw] <;> (try split) <;> (intro z; cases z)
def pX(fa:EF)(fl fh:OF):EF:=λρ=>(fa ρ).bind λp=>(fl p.2).bind λl=>(fh l.2).bind λh=>(dr h.2 p.1).bind λa=>(qw l.1 h.1 a).bind λz=>.ok (.v z.1 z.2,h.2)
theorem U8{K:FZ}(k:t.K=aJ K){n:TE}{o v:TO}{w:EF}{fl A:OF}(B:SE t n w)(C:SO t o fl)(D:SO t v A):SE t (Tf (U7 K) n o v) (pX w fl A):=λW E σ H Q e h=>by
 refine B W E σ H _ e (Rs.bF (Rs.aX h) λp h x H1 F s1 v1=>?_)
 refine C W p.2 σ H1 _ F (Rs.bF (Rs.aX h) λl h G I s2=>?_)
 refine D W l.2 σ G _ I (Rs.bF (Rs.aX h) λu h s g s3=>?_)
 obtain⟨a,J,h⟩:=dW (Rs.aX h) (nG _ _)
 obtain⟨z,d,h⟩:=dW (Rs.aX h) (acu _ _ _)
 have st:bV W H s:=s1.trans (s2.trans s3)
 have j:=nC g e.wn (v1.1.step e.wn (s2.trans s3)) J
 rw[k]at j
 cases a with
 |eU c=>cases d
 |lst L =>
  cases d
  obtain⟨b,m,rfl,q,r⟩:=j.lst
  refine .inl ⟨b,m,rfl,q.toK,λy f=>h _ _ (g.grow (gD f _)) (st.trans (bV.of (gD f _))) ?_⟩
  rw[<-k]at r
  exact(jh.of (σ' := σ) g (gD f _) (fP.new f (r.cut _ _))).back st.dom
 |tup L =>
  dsimp only[qw]at d
  split at d
  .rename_i c
   cases d
   obtain⟨b,m,rfl,q,r⟩:=j.tup
   refine .inr (.inl ⟨b,m,rfl,q.toK,by rw[r.length]; exact c,λy f=>h _ _ (g.grow (gD f _)) (st.trans (bV.of (gD f _))) ?_⟩)
   rw[<-k]at r
   exact .low (fP.newT (σ := σ) (W:=W) g.wl f (r.cut _ _))
  .cases d
 |str i =>
  dsimp only[qw]at d
  split at d
  .rename_i c
   cases d
   rw[j.str]
   exact .inr (.inr ⟨i,rfl,big c,h _ s g st (.low (.str _))⟩)
  .cases d
 |non=>cases d
 |bl i=>cases d
 |int i=>cases d
abbrev GN:=List Tr->Rs (Tr × Bool)
def U9(K:FZ)(r:List V->Hp->VK->Prop)(g:GN):Prop:=∀W xs as H Q,(∀b,W b->Lt H b)->uD K W H xs as->(g as).post (λ_=>False) (λp=>∀v H',Same H H'->fP K W [] H H' v (.v p.1 p.2)->Q v H')->r xs H Q
def aZ(g:GN)(fa:AF):EF:=λρ=>(fa ρ).bind λp=>(drs p.2 p.1).bind λas=>(g as).bind λz=>.ok (.v z.1 z.2,p.2)
theorem zK(o:U9 t.K r g)(b:∀as c,g as ≠ .ex c)(d:SA t ta fa):SE t (m8 r ta) (aZ g fa):=λW f σ H Q e h=>by
 refine d W f σ H _ e (Rs.bF (Rs.aX h) λp h i H1 a s1 v1=>?_)
 obtain⟨as,j,h⟩:=dW (Rs.aX h) (zF _ _)
 refine o W i as H1 Q a.wl (Es a e.wn v1 j) (Rs.bF (kj (Rs.aX h) (b as)) λz h v k s2 v2=>?_)
 exact h v k (a.grow s2) (s1.trans (bV.of s2)) ((jh.of a s2 v2).back s1.dom)
def g1(g:G1):GN
 | [a]=>g a
 |_=>.bad
theorem zL(h:∀a c,g a ≠ .ex c)(as:List Tr)(c:Str):g1 g as ≠ .ex c:=by
 match as with
 | []=>intro z; cases z
 | [a]=>exact h a c
 |_::_::_=>intro z; cases z
theorem zM{K:FZ}{r:List V->Hp->VK->Prop}{g:G1}(h:rT K (λx=>r [x]) g):U9 K r (g1 g):=λW c as H Q hw rs q=>by
 cases rs with
 |nil=>exact q.elim
 |cons a b =>
  cases b with
  |nil=>exact h W _ _ H Q hw a q
  |cons _ _=>exact q.elim
def g2(g:G2):GN
 | [a,b]=>g a b
 |_=>.bad
end
section
variable {K:FZ}
def K4(K:FZ):List V->Hp->VK->Prop:=λxs H Q=>(∃p ys,xs=[.ref p]/\(bH K H p ys\/fL K H p ys)/\Q (.int ys.length) H)\/(∃z,xs=[.str z]/\z.length<=sizeLine/\Q (.int z.length) H)
theorem dY:jX X (.builtin "len") (K4 X.K):=jX.or abj abk
def bx:G1
 |.lst ts=>.ok (.int ts.length,false)
 |.tup ts=>.ok (.int ts.length,false)
 |.str z=>if z.length<=100000 then .ok (.int z.length,false)else .bad
 |_=>.bad
theorem acv:rT (aJ K) (λx=>K4 K [x]) bx:=λW x a H Q hw b h=>by
 cases a <;> try exact h.elim
 .rename_i z
  dsimp only[bx]at h
  split at h
  .rename_i e
   rw[b.str]
   exact .inr ⟨z,rfl,big e,h _ H (Same.refl _) (.jc (.int _))⟩
  .exact h.elim
 .obtain⟨p,c,rfl,q,r⟩:=b.tup
  refine .inl ⟨p,c,rfl,.inr q.toK,?_⟩
  rw[r.length]
  exact h _ H (Same.refl _) (.jc (.int _))
 .obtain⟨p,c,rfl,q,r⟩:=b.lst
  refine .inl ⟨p,c,rfl,.inl q.toK,?_⟩
  rw[r.length]
  exact h _ H (Same.refl _) (.jc (.int _))
def lQ:G1
 |.int i=>.ok (.int (if i<0 then -i else i),false)
 |_=>.bad
theorem acw:rT K (λx H Q=>∃i,[x]=[V.int i]/\Q (.int (if i<0 then -i else i)) H) lQ:=λW x a H Q hw b h=>by
 cases a <;> try exact h.elim
 rw[b.int]
 exact⟨_,rfl,h _ H (Same.refl _) (.jc (.int _))⟩
def lR:G1
 |.int i=>.ok (.int i,false)
 |.bl b=>.ok (.int (if b then 1 else 0),false)
 |_=>.bad
theorem acy:rT K (λx H Q=>(∃i,[x]=[V.int i]/\Q (.int i) H)\/∃k,[x]=[V.bl k]/\Q (.int (if k then 1 else 0)) H) lR:=λW x a H Q hw b h=>by
 cases a <;> try exact h.elim
 .rw[b.bl]
  exact .inr ⟨_,rfl,h _ H (Same.refl _) (.jc (.int _))⟩
 .rw[b.int]
  exact .inl ⟨_,rfl,h _ H (Same.refl _) (.jc (.int _))⟩
def kW:G1
 |.lst ts=>.ok (.lst ts,true)
 |.tup ts=>.ok (.lst ts,true)
 |_=>.bad
theorem acz:rT (aJ K) (λx H Q=>∃p ys,[x]=[V.ref p]/\(bH K H p ys\/fL K H p ys)/\∀l,H l=none->Q (.ref l) (upd H l (.lst ys))) kW:=λW x a H Q hw d h=>by
 cases a <;> try exact h.elim
 .obtain⟨p,c,rfl,q,r⟩:=d.tup
  exact⟨p,c,rfl,.inr q.toK,λz b=>h _ _ (gD b _) (.new b r)⟩
 .obtain⟨p,c,rfl,q,r⟩:=d.lst
  exact⟨p,c,rfl,.inl q.toK,λz b=>h _ _ (gD b _) (.new b r)⟩
def Ew:G1
 |.lst ts=>.ok (.tup ts,false)
 |.tup ts=>.ok (.tup ts,false)
 |_=>.bad
def Ey:G2
 |.int i,.int j=>.ok (.int (if j<i then j else i),false)
 |_,_=>.bad
def Ez:G2
 |.int i,.int j=>.ok (.int (if j > i then j else i),false)
 |_,_=>.bad
def rZ:List Tr->Option (List Bool)
 | []=>some []
 |.bl i::r=>(rZ r).map (i :: ·)
 |_::_=>none
theorem Va:∀{ts:List Tr} {ns:List Bool} {xs:List V},rZ ts=some ns->aN K H xs ts->xs=ns.map V.bl
 | [],ns,xs,h,r=>by cases h; cases r; rfl
 |.bl i::q,ns,xs,h,r=>by
  unfold rZ at h
  cases e:rZ q with
  |none=>rw[e]at h; cases h
  |some ms =>
   rw[e]at h
   cases h
   cases r with
   |cons a b =>
    cases a
    rw[Va e b]
    rfl
 |.non::q,ns,xs,h,r=>by cases h
 |.int _::q,ns,xs,h,r=>by cases h
 |.str _::q,ns,xs,h,r=>by cases h
 |.tup _::q,ns,xs,h,r=>by cases h
 |.lst _::q,ns,xs,h,r=>by cases h
def gG:G1
 |.lst ts=>match rZ ts with
  |some bs=>.ok (.bl (bs.all id),false)
  |none=>.bad
 |_=>.bad
theorem acA:rT (aJ K) (λx=>Km K [x]) gG:=λW x a H Q hw b h=>by
 cases a <;> try exact h.elim
 dsimp only[gG]at h
 split at h
 .rename_i bs e
  obtain⟨p,c,rfl,q,r⟩:=b.lst
  have z:=Va e r
  subst z
  exact⟨p,bs,rfl,q.toK,h _ H (Same.refl _) (.jc (.bl _))⟩
 .exact h.elim
def iH(c:Ty)(fa:EF):EF:=λρ=>(fa ρ).bind λp=>(dr p.2 p.1).bind λa=>.ok (eB (iz a c),p.2)
theorem uF(d:t.K=aJ K)(c:Ty)(f:SE t ta fa):SE t (m8 (Ef K) (mG ta (mG (tC (.ty c.name)) uf))) (iH c fa):=λW g σ H Q e h=>by
 refine f W g σ H _ e (Rs.bF (Rs.aX h) λp h x H1 b s1 v1=>?_)
 obtain⟨a,i,h⟩:=dW (Rs.aX h) (nG _ _)
 have r:=nC b e.wn v1.1 i
 rw[d]at r
 exact⟨x,a,c,rfl,r.rep.toK,h _ H1 b s1 (.low (.bl _))⟩
end
inductive Fl where
 |nx|rt (T:Tr) (fr:Bool)|bk|ct
abbrev SF:=En->Rs (Fl × En)
def je(W:Addr->Prop)(H:Hp)(W':Addr->Prop)(H':Hp):Prop:=∀b o,¬W b->H b=some o->¬W' b/\H' b=some o
theorem je.refl(W:Addr->Prop)(H:Hp):je W H W H:=λ_ _ n h=>⟨n,h⟩
theorem je.trans(a:je W H W1 H1)(b:je W1 H1 W2 H2):je W H W2 H2:=λc o n h=>by
 obtain⟨n1,d⟩:=a c o n h
 exact b c o n1 d
theorem bV.nxt(s:bV W H H'):je W H W H':=λb o n h=>⟨n,s.keep b o n h⟩
theorem je.same(a:je W H W' H'):Same (aK W H) (aK W' H'):=λb o h=>by
 obtain⟨n,h⟩:=iZ h
 obtain⟨c,d⟩:=a b o n h
 rw[eG c]
 exact d
def VR(t:Tx)(H':Hp)(v:V)(T:Tr):Bool->Prop
 |false=>Rep t.K (aK t.Z H') v T
 |true=>∃a xs ts,v=.ref a/\T=.lst ts/\t.H0 a=none/\H' a=some (.lst xs)/\aN t.K (off a (aK t.Z H')) xs ts
noncomputable def qx(t:Tx)(W:Addr->Prop)(H:Hp)(D:Ends)(p:Fl × En):Prop:=match p.1 with
 |.nx=>∀W' σ' H',aO t W' p.2 σ' H'->je W H W' H'->D.nx σ' H'
 |.rt T fr=>∀v W' σ' H',aO t W' p.2 σ' H'->VR t H' v T fr->D.rt v H'
 |.bk=>∀W' σ' H',aO t W' p.2 σ' H'->je W H W' H'->D.bk σ' H'
 |.ct=>∀W' σ' H',aO t W' p.2 σ' H'->je W H W' H'->D.ct σ' H'
def SS(t:Tx)(ts:TS)(f:SF):Prop:=∀W ρ σ H D,aO t W ρ σ H->(f ρ).post t.EX (qx t W H D)->ts D σ H
theorem qx.back(h:qx t W H D p)(n:je W H W' H'):qx t W' H' D p:=by
 obtain⟨fl,d⟩:=p
 cases fl with
 |nx=>exact λb a c e m=>h b a c e (n.trans m)
 |rt T fr=>exact h
 |bk=>exact λb a c e m=>h b a c e (n.trans m)
 |ct=>exact λb a c e m=>h b a c e (n.trans m)
section
variable {t:Tx}
def cD:SF:=λρ=>.ok (.nx,ρ)
theorem j6:SS t Jv cD:=λW a σ H D e h=>h W σ H e (je.refl _ _)
def aC(f g:SF):SF:=λρ=>(f ρ).bind λp=>match p.1 with
 |.nx=>g p.2
 |fl=>.ok (fl,p.2)
theorem dZ(c:SS t ta f)(d:SS t tb g):SS t (uc ta tb) (aC f g):=λW i σ H D e h=>by
 refine c W i σ H _ e (Rs.bF (Rs.aX h) λp h=>?_)
 obtain⟨fl,a⟩:=p
 cases fl with
 |nx=>exact λW1 b H1 j n1=>d W1 a b H1 D j (Rs.bF h λq h=>h.back n1)
 |rt T fr=>exact h
 |bk=>exact h
 |ct=>exact h
theorem get_set{α : Type}{l:List α}{i j:Nat}{a b : α}(h:(l.set i a)[j]?=some b):(j=i/\b=a/\i<l.length)\/(j≠i/\l[j]?=some b):=by
 by_cases e:i=j
 .subst e
  rw[List.getElem?_set_self']at h
  cases q:l[i]? with
  |none=>rw[q]at h; cases h
  |some c =>
   rw[q]at h
   cases h
   exact .inl ⟨rfl,rfl,(List.getElem?_eq_some_iff.mp q).1⟩
 .rw[List.getElem?_set_ne e]at h
  exact .inr ⟨Ne.symm e,h⟩
theorem vJ{α : Type}{l:List α}{i:Nat}{a : α}(h:i<l.length):(l.set i a)[i]?=some a:=by
 rw[List.getElem?_set_self' ,List.getElem?_eq_getElem h]
 rfl
theorem aO.EY{W:Addr->Prop}{ρ : En}{σ : St}{H:Hp}{i:Nat}{v:V}{T:Tr}(e:aO t W ρ σ H)(r:Rep t.K (aK W H) v T):aO t W (ρ.set i (.sh T)) (σ.set i (some v)) H:=by
 have o:∀j,Mu (ρ.set i (.sh T)) j->j≠i/\Mu ρ j:=λj h=>by
  obtain⟨p,h|h⟩:=h <;> rcases get_set h with⟨rfl,z,_⟩|⟨ne,h⟩
  .cases z
  .exact⟨ne,p,.inl h⟩
  .cases z
  .exact⟨ne,p,.inr h⟩
 have s:∀j b,(ρ.set i (.sh T))[j]?=some (.dp b)->j≠i/\ρ[j]?=some (.dp b):=λj b h=>by
  rcases get_set h with⟨rfl,z,_⟩|⟨ne,h⟩
  .cases z
  .exact⟨ne,h⟩
 obtain⟨F,e⟩:=e
 refine⟨F,by rw[List.length_set,List.length_set]; exact e.len,e.zw,e.z0,e.wl,e.f0,e.n0,λj u h=>?_,λj p h=>?_,λj p h=>?_,λj k a f g q1 q2=>?_,e.pn,λj a m q=>e.pd j a (o j m).2 (by rw[List.getElem?_set_ne (Ne.symm (o j m).1)]at q; exact q),
  λj b h=>?_,λj k b ws n f g=>e.dd j k b ws n (s j b f).2 (s k ws g).2,λj k b c f m q=>e.dm j k b c (s j b f).2 (o k m).2 (by rw[List.getElem?_set_ne (Ne.symm (o k m).1)]at q; exact q),λj b h=>e.db j b (s j b h).2,e.tab⟩
 .rcases get_set h with⟨rfl,z,l⟩|⟨ne,h⟩
  .cases z
   exact⟨v,vJ (by rw[<-e.len]; exact l),r⟩
  .obtain⟨w,f,g⟩:=e.sh j u h
   exact⟨w,by rw[List.getElem?_set_ne (Ne.symm ne)]; exact f,g⟩
 .rcases get_set h with⟨rfl,z,l⟩|⟨ne,h⟩
  .cases z
  .obtain⟨a,x,f,g⟩:=e.ow j p h
   exact⟨a,x,by rw[List.getElem?_set_ne (Ne.symm ne)]; exact f,g⟩
 .rcases get_set h with⟨rfl,z,l⟩|⟨ne,h⟩
  .cases z
  .obtain⟨a,x,f,g⟩:=e.rf j p h
   exact⟨a,x,by rw[List.getElem?_set_ne (Ne.symm ne)]; exact f,g⟩
 .obtain⟨n1,m1⟩:=o j f
  obtain⟨y,A⟩:=o k g
  rw[List.getElem?_set_ne (Ne.symm n1)]at q1
  rw[List.getElem?_set_ne (Ne.symm y)]at q2
  exact e.dis j k a m1 A q1 q2
 .obtain⟨ne,h⟩:=s j b h
  obtain⟨c,B,f,d⟩:=e.dp j b h
  exact⟨c,B,by rw[List.getElem?_set_ne (Ne.symm ne)]; exact f,d⟩
theorem aO.addr(e:aO t W ρ σ H)(m:Mu ρ i)(q : σ[i]?=some (some (.ref a))):W a:=by
 obtain⟨f,h|h⟩:=m
 .obtain⟨b,g,c,d,_⟩:=e.ow i f h
  rw[q]at c
  cases c
  exact d
 .obtain⟨b,g,c,d,_⟩:=e.rf i f h
  rw[q]at c
  cases c
  exact d
theorem aO.acB{W:Addr->Prop}{ρ : En}{σ : St}{H:Hp}{i:Nat}{a:Addr}{xs:List V}{ts:List Tr}(D:aO t W ρ σ H)(nw:¬W a)(e:qm t W a ρ σ H)(h0:t.H0 a=none)(E:t.B a=none)(G:H a=some (.lst xs))(r:aN t.K (off a (aK W H)) xs ts) :
  aO t (λb=>W b\/b=a) (ρ.set i (.ow ts)) (σ.set i (some (.ref a))) H:=by
 have x:∀j,Mu (ρ.set i (.ow ts)) j->j=i\/(j≠i/\Mu ρ j):=λj h=>by
  obtain⟨ts,h|h⟩:=h <;> rcases get_set h with⟨rfl,z,_⟩|⟨ne,h⟩
  .exact .inl rfl
  .exact .inr ⟨ne,ts,.inl h⟩
  .exact .inl rfl
  .exact .inr ⟨ne,ts,.inr h⟩
 have m:Same (off a (aK W H)) (aK (λb=>W b\/b=a) H):=λb o q=>by
  obtain⟨ne,q⟩:=vG q
  obtain⟨n,q⟩:=iZ q
  rw[eG]
  .exact q
  .rintro(z|z)
   .exact n z
   .exact ne z
 have s:∀j f,(ρ.set i (.ow ts))[j]?=some (.dp f)->j≠i/\ρ[j]?=some (.dp f):=λj f h=>by
  rcases get_set h with⟨rfl,z,_⟩|⟨ne,h⟩
  .cases z
  .exact⟨ne,h⟩
 obtain⟨F,e,na⟩:=e
 refine⟨F,by rw[List.length_set,List.length_set]; exact e.len,e.zw,e.z0,e.wl,e.f0,e.n0,λj u h=>?_,λj f h=>?_,λj f h=>?_,λj k c g p q1 q2=>?_,e.pn,λj c m q=>?_,
  λj f h=>?_,λj k f ws n g p=>e.dd j k f ws n (s j f g).2 (s k ws p).2,λj k f c g m q=>?_,λj f h=>e.db j f (s j f h).2,e.tab⟩
 .rcases get_set h with⟨rfl,z,l⟩|⟨ne,h⟩
  .cases z
  .obtain⟨w,g,p⟩:=e.sh j u h
   exact⟨w,by rw[List.getElem?_set_ne (Ne.symm ne)]; exact g,p⟩
 .rcases get_set h with⟨rfl,z,l⟩|⟨ne,h⟩
  .cases z
   exact⟨a,xs,vJ (by rw[<-e.len]; exact l),.inr rfl,h0,G,r.mono m⟩
  .obtain⟨c,v,g,p⟩:=e.ow j f h
   exact⟨c,v,by rw[List.getElem?_set_ne (Ne.symm ne)]; exact g,p⟩
 .rcases get_set h with⟨rfl,z,l⟩|⟨ne,h⟩
  .cases z
  .obtain⟨c,v,g,p⟩:=e.rf j f h
   exact⟨c,v,by rw[List.getElem?_set_ne (Ne.symm ne)]; exact g,p⟩
 .have old:∀j,j≠i->Mu ρ j->(σ.set i (some (.ref a)))[j]? ≠ some (some (.ref a)):=λj ne m q=>by
   rw[List.getElem?_set_ne (Ne.symm ne)]at q
   exact nw (D.addr m q)
  have self:∀c,(σ.set i (some (V.ref a)))[i]?=some (some (.ref c))->c=a:=λc q=>by
   rcases get_set q with⟨_,z,_⟩|⟨ne,_⟩
   .cases z; rfl
   .exact absurd rfl ne
  rcases x j g with rfl|⟨n1,m1⟩ <;> rcases x k p with rfl|⟨y,A⟩
  .rfl
  .have:=self c q1
   subst this
   exact(old k y A q2).elim
  .have:=self c q2
   subst this
   exact(old j n1 m1 q1).elim
  .rw[List.getElem?_set_ne (Ne.symm n1)]at q1
   rw[List.getElem?_set_ne (Ne.symm y)]at q2
   exact e.dis j k c m1 A q1 q2
 .rcases x j m with rfl|⟨n1,m1⟩
  .rcases get_set q with⟨_,z,_⟩|⟨ne,_⟩
   .cases z; exact E
   .exact absurd rfl ne
  .rw[List.getElem?_set_ne (Ne.symm n1)]at q
   exact e.pd j c m1 q
 .obtain⟨ne,h⟩:=s j f h
  obtain⟨c,v,g,d⟩:=e.dp j f h
  exact⟨c,v,by rw[List.getElem?_set_ne (Ne.symm ne)]; exact g,d⟩
 .obtain⟨J,C⟩:=s j f g
  rcases x k m with rfl|⟨y,A⟩
  .rcases get_set q with⟨_,z,_⟩|⟨I,_⟩
   .cases z
    exact na j f C
   .exact absurd rfl I
  .rw[List.getElem?_set_ne (Ne.symm y)]at q
   exact e.dm j k f c C A q
theorem aO.Fb(e:aO t W ρ σ H)(n:H a=none):t.B a=none:=by
 cases q:t.B a with
 |none=>rfl
 |some o=>rw[e.pn a o q]at n; cases n
abbrev GF:=Tr->En->Rs En
def SG(t:Tx)(g:TG)(f:GF)(js:List Nat):Prop:=∀W ρ σ H v T Q,aO t W ρ σ H->Rep t.K (aK W H) v T->(f T ρ).post (λ_=>False) (λρ'=>∀σ',aO t W ρ' σ' H->(∀k,k∉js -> σ'[k]?=σ[k]?)->Q σ' H)->g v σ H Q
def gN(i:Nat):GF:=λT ρ=>.ok (ρ.set i (.sh T))
theorem dh(i:Nat):SG t (dN i) (gN i) [i]:=λW a σ H v T Q e r h=>h _ (e.EY r) λk n=>List.getElem?_set_ne (λz=>n (by rw[z]; exact List.mem_singleton.mpr rfl))
abbrev uG:=List Tr->En->Rs En
def Fd(t:Tx)(g:rD)(f:uG)(js:List Nat):Prop:=∀W ρ σ H vs Ts Q,aO t W ρ σ H->aN t.K (aK W H) vs Ts->(f Ts ρ).post (λ_=>False) (λρ'=>∀σ',aO t W ρ' σ' H->(∀k,k∉js -> σ'[k]?=σ[k]?)->Q σ' H)->g vs σ H Q
def fO:uG:=λTs ρ=>match Ts with
 | []=>.ok ρ
 |_=>.bad
def bZ(f:GF)(g:uG):uG:=λTs ρ=>match Ts with
 |T::r=>(f T ρ).bind λρ'=>g r ρ'
 | []=>.bad
theorem xH:Fd t wO fO []:=λW a σ H b c Q e r h=>by
 cases r with
 |nil=>exact⟨rfl,h σ e λ_ _=>rfl⟩
 |cons _ _=>exact h.elim
theorem nJ(j:SG t g f js)(m:Fd t u fs ks):Fd t (rE g u) (bZ f fs) (js++ks):=λW l σ H y d Q e r h=>by
 cases r with
 |nil=>exact h.elim
 | @cons x T i d o p =>
  refine⟨x,i,rfl,j W l σ H x T _ e o (Rs.bF (Rs.aX h) λa h b q n1=>?_)⟩
  refine m W a b H i d _ q p (Rs.bF h λs h c v w=>h c v λk n=>?_)
  rw[List.mem_append,not_or]at n
  rw[w k n.2,n1 k n.1]
def gT(n:Nat)(f:uG):GF:=λT ρ=>match T with
 |.tup Ts=>if Ts.length=n then f Ts ρ else .bad
 |_=>.bad
theorem xJ{K:FZ}(f:t.K=aJ K){n:Nat}{u:rD}{fs:uG}{js:List Nat}(g:Fd t u fs js):SG t (wQ K n u) (gT n fs) js:=λW i σ H v T Q e r h=>by
 cases T <;> try exact h.elim
 rename_i j
 dsimp only[gT]at h
 split at h
 .rename_i c
  cases r with
  | @tup a b _ q r =>
   have d:=(iR W H).vC q
   rw[f]at d
   exact⟨a,b,rfl,d.toK,by rw[r.length]; exact c,g W i σ H b j Q e r h⟩
 .exact h.elim
def bw(f:EF)(g:GF):SF:=λρ=>(f ρ).bind λp=>match p.1 with
 |.v T _=>(g T p.2).bind λρ'=>.ok (.nx,ρ')
 |.s _=>.bad
theorem j7(d:SE t te f)(j:SG t g gf js)(k:∀T ρ c,gf T ρ ≠ .ex c):SS t (m6 te g) (bw f gf):=λW ρ σ H D e h=>by
 refine d W ρ σ H _ e (Rs.bF (Rs.aX h) λp h v H1 l s1 v1=>?_)
 obtain⟨r,a⟩:=p
 cases r with
 |s i=>exact h.elim
 |v T fr=>exact j W a σ H1 v T _ l (v1.1.rep e.wn) (Rs.bF (kj (Rs.aX h) (k T a)) λm h b n _=>h W b H1 n s1.nxt)
def fX(i:Nat)(f:EF):SF:=λρ=>(f ρ).bind λp=>match p.1 with
 |.v (.lst ts) true=>.ok (.nx,p.2.set i (.ow ts))
 |_=>.bad
theorem Fe(i:Nat)(d:SE t te f):SS t (m6 te (dN i)) (fX i f):=λW g σ H D e h=>by
 refine d W g σ H _ e (Rs.bF (Rs.aX h) λp h v H1 j s1 v1=>?_)
 obtain⟨r,k⟩:=p
 dsimp only at h
 split at h
 .rename_i m
  obtain⟨⟨a,s,u,rfl,z,n,q,l⟩,he⟩:=v1
  cases z
  have nw:¬W a:=λw=>e.wn a w n
  refine h _ _ H1 (j.acB nw (he _ a rfl rfl) (e.n0 a n) (e.Fb n) q l) λb o nb c=>⟨?_,s1.keep b o nb c⟩
  rintro(z|rfl)
  .exact nb z
  .rw[n]at c; cases c
 .exact h.elim
def eY(f:EF):SF:=λρ=>(f ρ).bind λp=>.ok (.nx,p.2)
theorem zN(a:SE t te f):SS t (vf te) (eY f):=λW b σ H D e h =>
 a W b σ H _ e (Rs.bF (Rs.aX h) λp h v H1 c s1 v1=>h W σ H1 c s1.nxt)
def bB(f:EF):SF:=λρ=>(f ρ).bind λp=>match p.1 with
 |.v T fr=>.ok (.rt T fr,p.2)
 |.s i=>match p.2[i]? with
  |some (.ow ts)=>.ok (.rt (.lst ts) true,p.2)
  |_=>.bad
theorem K5(e:aO t W ρ σ H):Same (aK W H) (aK t.Z H):=qg (λb _ _ z=>e.zw b z) λ_ _ _ h=>h
theorem jr(d:SE t te f):SS t (vg te) (bB f):=λW k σ H D e h=>by
 refine d W k σ H _ e (Rs.bF (Rs.aX h) λp h v H1 c s1 v1=>?_)
 obtain⟨r,l⟩:=p
 cases r with
 |v T fr =>
  refine h v W σ H1 c ?_
  cases fr with
  |false=>exact Rep.mono (K5 c) v1.1
  |true =>
   obtain⟨a,g,m,rfl,z,n,q,u⟩:=v1.1
   refine⟨a,g,m,rfl,z,e.n0 a n,q,u.mono λb o q=>?_⟩
   obtain⟨ne,q⟩:=vG q
   rw[off_ne ne]
   exact K5 c b o q
 |s i =>
  dsimp only at h
  split at h
  .rename_i j q
   obtain⟨a,g,d,w,x,y,A⟩:=c.ow i j q
   have ev:=v1.1
   rw[ev]at d
   cases d
   refine h _ W σ H1 c ⟨a,g,j,rfl,rfl,x,y,A.mono λb o q=>?_⟩
   have ne:b≠a:=λz=>by subst z; rw[El w]at q; cases q
   rw[off_ne ne]
   exact K5 c b o q
  .exact h.elim
def cA(c:BF)(f g:SF):SF:=λρ=>(c ρ).bind λp=>if p.1=true then f p.2 else g p.2
theorem j8(b:ST t tc c)(i:SS t ta f)(j:SS t tb g):SS t (Jw tc ta tb) (cA c f g):=λW k σ H D e h=>by
 refine b W k σ H _ e (Rs.bF (Rs.aX h) λp h H1 a s1=>?_)
 split at h
 .rename_i d
  refine if_pos d▸i W p.2 σ H1 D a (Rs.bF h λq h=>h.back s1.nxt)
 .rename_i d
  refine if_neg d▸j W p.2 σ H1 D a (Rs.bF h λq h=>h.back s1.nxt)
def fC(i:Nat)(ρ : En):En:=match ρ[i]? with
 |some (.ow ts)=>ρ.set i (.sh (.lst ts))
 |_=>ρ
end
section
variable {t:Tx}
theorem aO.fC(e:aO t W ρ σ H)(i:Nat):∃C,aO t C (L2.fC i ρ) σ H/\je W H C H:=by
 unfold L2.fC
 split
 .rename_i s q
  obtain⟨a,L,g,E,M,G,N⟩:=e.ow i s q
  have m:Same (aK W H) (aK (λb=>W b/\b≠a) H):=qg (λ_ _ _ z=>z.1) λ_ _ _ h=>h
  have I:Mu ρ i:=⟨s,.inl q⟩
  have v:∀j,Mu (ρ.set i (.sh (.lst s))) j->j≠i/\Mu ρ j:=λj h=>by
   obtain⟨f,h|h⟩:=h <;> rcases get_set h with⟨rfl,z,_⟩|⟨ne,h⟩
   .cases z
   .exact⟨ne,f,.inl h⟩
   .cases z
   .exact⟨ne,f,.inr h⟩
  have J:∀j c,j≠i->Mu ρ j -> σ[j]?=some (some (.ref c))->c≠a:=λj c ne O P z=>by
   subst z
   exact ne (e.dis j i c O I P g)
  have p:∀(j:Nat) (f:List Tr),(ρ.set i (.sh (.lst s)))[j]?=some (Sl.dp f) -> ρ[j]?=some (Sl.dp f):=λj f h=>by
   rcases get_set h with⟨rfl,z,_⟩|⟨ne,h⟩
   .cases z
   .exact h
  obtain⟨F,e⟩:=e
  refine⟨λb=>W b/\b≠a,⟨F,by rw[List.length_set]; exact e.len,λb z=>⟨e.zw b z,λy=>?_⟩,e.z0,λb w=>e.wl b w.1,e.f0,e.n0,λj u h=>?_,λj f h=>?_,λj f h=>?_,λj k c m1 Q q1 q2=>e.dis j k c (v j m1).2 (v k Q).2 q1 q2,e.pn,λj c m q=>e.pd j c (v j m).2 q,λj f h=>?_,λj k f ws n g E=>e.dd j k f ws n (p j f g) (p k ws E),λj k f c g m q=>e.dm j k f c (p j f g) (v k m).2 q,λj f h=>e.db j f (p j f h),e.tab.cut (D:=λb=>b=a) (λb z=>⟨L,by rw[z]; exact G⟩)⟩,λb o n h=>⟨λz=>n z.1,h⟩⟩
  .subst y
   exact e.z0 b z M
  .rcases get_set h with⟨rfl,z,l⟩|⟨ne,h⟩
   .cases z
    refine⟨.ref a,g,.lst (bH.of ?_) (N.mono m)⟩
    rw[eG λz=>z.2 rfl]
    exact G
   .obtain⟨w,q1,q2⟩:=e.sh j u h
    exact⟨w,q1,q2.mono m⟩
  .rcases get_set h with⟨rfl,z,l⟩|⟨ne,h⟩
   .cases z
   .obtain⟨c,r,q1,q2,x,A,B⟩:=e.ow j f h
    exact⟨c,r,q1,⟨q2,J j c ne ⟨f,.inl h⟩ q1⟩,x,A,B.mono m⟩
  .rcases get_set h with⟨rfl,z,l⟩|⟨ne,h⟩
   .cases z
   .obtain⟨c,r,q1,q2,x,A,B⟩:=e.rf j f h
    exact⟨c,r,q1,⟨q2,J j c ne ⟨f,.inr h⟩ q1⟩,x,A,B.mono m⟩
  .obtain⟨c,r,q1,d⟩:=e.dp j f (p j f h)
   exact⟨c,r,q1,d.move rfl rfl m (λb K=>⟨by obtain⟨_,_,_,ww,_⟩:=d; exact(ww b K).1,λz=>by subst z; exact e.dm j i f b (p j f h) I g K⟩) λ_ _ _ q=>q⟩
 .exact⟨W,e,je.refl _ _⟩
def mL(i:Nat)(f:SF):SF:=λρ=>f (fC i ρ)
theorem acC(i:Nat)(h:SS t ts f):SS t ts (mL i f):=λW c σ H D e q=>by
 obtain⟨a,b,n⟩:=e.fC i
 exact h a _ σ H D b (Rs.bF q λp q=>q.back n)
def sy(c:BF)(b:SF):Nat->SF
 | 0=>λ_=>.bad
 | n + 1=>λρ => (c ρ).bind λp=>if p.1=true then (b p.2).bind λq=>(match q.1 with
  |.nx=>sy c b n q.2
  |.ct=>sy c b n q.2
  |.bk=>.ok (.nx,q.2)
  |.rt T fr=>.ok (.rt T fr,q.2))else .ok (.nx,p.2)
def qy(fu:En->Nat)(c:BF)(b:SF):SF:=λρ=>sy c b (fu ρ) ρ
theorem acD(x:En->Nat)(C:ST t tc c)(E:SS t tb b):SS t (R8 tc tb) (qy x c b):=λW y σ H D e h=>by
 refine⟨λm f j=>∃a k,aO t k a f j/\(sy c b m a).post t.EX (qx t k j D),⟨x y,y,W,e,h⟩,?_⟩
 rintro m g H1 ⟨v,W1,F,z⟩
 cases m with
 |zero=>exact z.elim
 |succ n =>
  refine C W1 v g H1 _ F (Rs.bF (Rs.aX z) λp h A B s2=>?_)
  split at h
  .rename_i d
   rw[if_pos d]
   refine⟨λf j=>∃a k,aO t k a f j/\(sy c b n a).post t.EX (qx t k j D),λf j q=>⟨n,Nat.lt_succ_self n,q⟩,?_⟩
   refine E W1 p.2 g A _ B (Rs.bF (Rs.aX h) λq h=>?_)
   obtain⟨fl,l⟩:=q
   cases fl with
   |nx=>exact λo i w s u=>⟨l,o,s,Rs.bF h λr h=>h.back (s2.nxt.trans u)⟩
   |ct=>exact λo i w s u=>⟨l,o,s,Rs.bF h λr h=>h.back (s2.nxt.trans u)⟩
   |bk=>exact λo i w s u=>h o i w s (s2.nxt.trans u)
   |rt T fr=>exact h
  .rename_i d
   rw[if_neg d]
   exact h W1 g A B s2.nxt
def uH(K:FZ)(W:Addr->Prop)(H:Hp)(J:It)(us:List Tr):Prop:=∀W' H',Same (aK W H) (aK W' H')->(∀b,W' b->Lt H' b)->∀i,(i=us.length->J.stop i H')/\∀u,us[i]?=some u->J.go i H'/\∀x gj,J.oR i H' x gj->Same H' gj/\Rep K (aK W' gj) x u
abbrev IF:=En->Rs (List Tr × En)
def SI(t:Tx)(wi:TI)(f:IF):Prop:=∀W ρ σ H R,aO t W ρ σ H->(f ρ).post t.EX (λp=>∀J H',aO t W p.2 σ H'->bV W H H'->uH t.K W H' J p.1->R J H')->wi σ H R
def cG(g:GF)(b:SF):List Tr->SF
 | []=>λρ=>.ok (.nx,ρ)
 | u :: us=>λρ => (g u ρ).bind λρ1=>(b ρ1).bind λq=>(match q.1 with
  |.nx=>cG g b us q.2
  |.ct=>cG g b us q.2
  |.bk=>.ok (.nx,q.2)
  |.rt T fr=>.ok (.rt T fr,q.2))
def cg(fi:IF)(g:GF)(b:SF):SF:=λρ=>(fi ρ).bind λp=>cG g b p.1 p.2
theorem qz(hi:SI t wi fi)(O:SG t g gf js)(P:∀T ρ c,gf T ρ ≠ .ex c)(Q:SS t tb b):SS t (yL wi g tb) (cg fi gf b):=λW ρ σ H D e h=>by
 refine hi W ρ σ H _ e (Rs.bF (Rs.aX h) λp h J H1 R s1 S=>?_)
 obtain⟨d,B⟩:=p
 refine⟨λi m f j=>m=d.length-i/\i<=d.length/\∃a k,aO t k a f j/\je W H1 k j/\(cG gf b (d.drop i) a).post t.EX (qx t k j D),⟨d.length,by simp,Nat.zero_le _,B,W,R,je.refl _ _,by rw[List.drop_zero]; exact Rs.bF h λr h=>h.back s1.nxt⟩,?_⟩
 rintro i m o L ⟨rfl,hi,C,w,E,M,A⟩
 have q:=S w L M.same E.wl i
 by_cases l:i<d.length
 .rw[List.drop_eq_getElem_cons l]at A
  obtain⟨go,y⟩:=q.2 d[i] (by simp[l])
  refine .inr ⟨go,λf j=>∃a k,aO t k a f j/\je W H1 k j/\(cG gf b (d.drop (i+1)) a).post t.EX (qx t k j D),λf j z=>⟨d.length-(i+1),by omega,rfl,l,z⟩,λx F U=>?_⟩
  obtain⟨s3,V⟩:=y x F U
  have X:=E.grow s3
  have N:=M.trans (bV.of s3).nxt
  refine O w C o F x d[i] _ X V (Rs.bF (kj (Rs.aX A) (P _ _)) λG h I Y _=>?_)
  refine Q w G I F _ Y (Rs.bF (Rs.aX h) λr h=>?_)
  obtain⟨fl,s⟩:=r
  cases fl with
  |nx=>exact λu n K v n5=>⟨s,u,v,N.trans n5,Rs.bF h λr h=>h.back ((bV.of s3).nxt.trans n5)⟩
  |ct=>exact λu n K v n5=>⟨s,u,v,N.trans n5,Rs.bF h λr h=>h.back ((bV.of s3).nxt.trans n5)⟩
  |bk=>exact λu n K v n5=>h u n K v ((bV.of s3).nxt.trans n5)
  |rt T fr=>exact h
 .have z:i=d.length:=by omega
  subst z
  rw[List.drop_length]at A
  exact .inl ⟨q.1 rfl,A w o L E (je.refl _ _)⟩
def xK(K:FZ)(tl:TE):TI:=λσ H R=>Sd K tl σ H R\/Sg K tl σ H R
theorem gZ(a:PE X l tl):PI X tg l (xK X.K tl):=λpins s σ H R I h=>by
 rcases h with h|h
 .exact aay a pins s σ H R I h
 .exact aaz a pins s σ H R I h
def nQ:Rv->Rs (List Tr × Bool)
 |.v (.lst ts) _=>.ok (ts,true)
 |.v (.tup ts) _=>.ok (ts,false)
 |_=>.bad
def cM(f:EF):IF:=λρ=>(f ρ).bind λp=>(nQ p.1).bind λz=>.ok (z.1,p.2)
theorem acE{K:FZ}{W:Addr->Prop}{H:Hp}{a:Addr}{xs:List V}{us:List Tr}(q:bH (aJ K) (aK W H) a xs)(r:aN (aJ K) (aK W H) xs us):uH (aJ K) W H (rG K a) us:=λd e m hw i=>by
 have b:=((iR d e).seq (m.seq q)).toK
 refine⟨λz=>⟨xs,b,by rw[r.length]; omega⟩,λu f=>?_⟩
 obtain⟨x,c,g⟩:=r.mK f
 refine⟨⟨xs,x,b,c⟩,λy j h=>?_⟩
 obtain⟨rfl,z⟩:=h
 have:=z xs b
 rw[c]at this
 cases this
 exact⟨Same.refl _,g.mono m⟩
theorem acF{K:FZ}{W:Addr->Prop}{H:Hp}{a:Addr}{xs:List V}{us:List Tr}(q:fL (aJ K) (aK W H) a xs)(r:aN (aJ K) (aK W H) xs us):uH (aJ K) W H (JC K a) us:=λd e m hw i=>by
 have b:=((iR d e).vC (m.vC q)).toK
 refine⟨λz=>⟨xs,b,by rw[r.length]; omega⟩,λu f=>?_⟩
 obtain⟨x,c,g⟩:=r.mK f
 refine⟨⟨xs,x,b,c⟩,λy j h=>?_⟩
 obtain⟨rfl,z⟩:=h
 have:=z xs b
 rw[c]at this
 cases this
 exact⟨Same.refl _,g.mono m⟩
theorem nU{K:FZ}(d:t.K=aJ K){n:TE}{f:EF}(y:SE t n f):SI t (xK K n) (cM f):=λW g σ H R e h=>by
 have h:=Rs.aX h
 have key:∀b:Bool,(f g).post t.EX (λp=>∃j,nQ p.1=.ok (j,b)/\∀J l,aO t W p.2 σ l->bV W H l->uH t.K W l J j->R J l)->xK K n σ H R:=λb h=>by
  cases b with
  |true =>
   refine .inl (y W g σ H _ e (Rs.bF h λp h v H1 o s1 v1=>?_))
   obtain⟨j,q,h⟩:=h
   obtain⟨r,u⟩:=p
   cases r with
   |s i=>cases q
   |v T fr =>
    cases T <;> cases q
    have w:=v1.1.rep e.wn
    cases w with
    | @lst a x _ q r =>
     refine⟨a,rfl,⟨x,?_⟩,h _ H1 o s1 ?_⟩
     .rw[d]at q
      exact((iR _ _).seq q).toK
     .rw[d]at q r ⊢
      exact acE q r
  |false =>
   refine .inr (y W g σ H _ e (Rs.bF h λp h v H1 o s1 v1=>?_))
   obtain⟨j,q,h⟩:=h
   obtain⟨r,u⟩:=p
   cases r with
   |s i=>cases q
   |v T fr =>
    cases T <;> cases q
    have w:=v1.1.rep e.wn
    cases w with
    | @tup a x _ q r =>
     refine⟨a,rfl,⟨x,?_⟩,h _ H1 o s1 ?_⟩
     .rw[d]at q
      exact((iR _ _).vC q).toK
     .rw[d]at q r ⊢
      exact acF q r
 cases k:f g with
 |bad=>rw[k]at h; exact h.elim
 |ex c =>
  refine key true ?_
  rw[k]at h ⊢
  exact h
 |ok p =>
  rw[k]at h
  have h:((nQ p.1).bind _).post _ _:=h
  cases m:nQ p.1 with
  |bad=>rw[m]at h; exact h.elim
  |ex c =>
   exfalso
   revert m
   unfold nQ
   split <;> (intro z; cases z)
  |ok z =>
   rw[m]at h
   refine key z.2 ?_
   rw[k]
   exact⟨z.1,m,h⟩
def upTo(lo:Int):Nat->List Tr
 | 0=>[]
 |n+1=>.int lo::upTo (lo+1) n
theorem acG(lo:Int):∀n,(upTo lo n).length=n:=λn=>by
 induction n generalizing lo with
 |zero=>rfl
 |succ n a=>rw[upTo,List.length_cons,a]
theorem acH{lo:Int}{n i:Nat}(h:(upTo lo n)[i]?=some u):i<n/\u=.int (lo+i):=by
 induction n generalizing lo i with
 |zero=>simp[upTo]at h
 |succ n a =>
  rw[upTo]at h
  cases i with
  |zero =>
   simp at h
   subst h
   exact⟨Nat.zero_lt_succ _,by simp⟩
  |succ i =>
   obtain⟨b,c⟩:=a (lo:=lo+1) (i:=i) (by simpa using h)
   refine⟨Nat.succ_lt_succ b,c.trans ?_⟩
   congr 1
   omega
theorem acI{K:FZ}{W:Addr->Prop}{H:Hp}(lo:Int)(n:Nat):uH K W H (Dk lo n) (upTo lo n):=λd e m hw i=>by
 refine⟨λz=>?_,λu a=>?_⟩
 .rw[acG]at z
  exact Nat.le_of_eq z.symm
 .obtain⟨b,rfl⟩:=acH a
  refine⟨b,λx f c=>?_⟩
  obtain⟨rfl,rfl⟩:=c
  exact⟨Same.refl _,.int _⟩
def okR(i:Int):Bool:=decide (-1000000<=i)&&decide (i<=1000000)
def cR(fa:AF):IF:=λρ=>(fa ρ).bind λp=>(drs p.2 p.1).bind λas=>match as with
 | [.int j]=>if okR j=true then .ok (upTo 0 j.toNat,p.2)else .bad
 |_=>.bad
theorem Fi(b:SA t ta fa):SI t (JD ta) (cR fa):=λW d σ H R e h=>by
 refine b W d σ H _ e (Rs.bF (Rs.aX h) λp h k H1 a s1 v1=>?_)
 obtain⟨as,f,h⟩:=dW (Rs.aX h) (zF _ _)
 have r:=Es a e.wn v1 f
 split at h
 .rename_i j
  split at h
  .rename_i c
   unfold okR at c
   rw[Bool.and_eq_true]at c
   have l:=of_decide_eq_true c.1
   have m:=of_decide_eq_true c.2
   cases r with
   |cons g i =>
    cases i
    rw[g.int]
    exact⟨j,rfl,by omega,by omega,h _ H1 a s1 (acI 0 _)⟩
  .exact h.elim
 .exact h.elim
def con(ρ : En)(i:Nat):Rs (List Tr):=match ρ[i]? with
 |some (.ow ts)=>.ok ts
 |some (.rf ts)=>.ok ts
 |_=>.bad
theorem Fj(ρ : En)(i:Nat)(c:Str):con ρ i ≠ .ex c:=by
 unfold con
 split <;> (intro z; cases z)
def dD(i:Nat)(us:List Tr)(ρ : En):En:=match ρ[i]? with
 |some (.ow _)=>ρ.set i (.ow us)
 |some (.rf _)=>ρ.set i (.rf us)
 |_=>ρ
theorem aO.con(e:aO t W ρ σ H)(q:con ρ i=.ok ts):Mu ρ i/\∃a xs,σ[i]?=some (some (.ref a))/\W a/\H a=some (.lst xs)/\aN t.K (aK W H) xs ts/\(∀o,t.H0 a=some o->t.R a):=by
 unfold L2.con at q
 split at q
 .rename_i j h
  cases q
  obtain⟨a,xs,b,c,d,f,g⟩:=e.ow i ts h
  exact⟨⟨ts,.inl h⟩,a,xs,b,c,f,g,λo z=>by rw[d]at z; cases z⟩
 .rename_i j h
  cases q
  obtain⟨a,xs,b,c,d,f,g⟩:=e.rf i ts h
  exact⟨⟨ts,.inr h⟩,a,xs,b,c,f,g,λo z=>d⟩
 .cases q
theorem qC(h:Mu (dD i us ρ) j):Mu ρ j:=by
 unfold dD at h
 split at h
 .rename_i ws q
  obtain⟨a,h|h⟩:=h <;> rcases get_set h with⟨rfl,z,_⟩|⟨ne,h⟩
  .exact⟨_,.inl q⟩
  .exact⟨_,.inl h⟩
  .exact⟨_,.inl q⟩
  .exact⟨_,.inr h⟩
 .rename_i ws q
  obtain⟨a,h|h⟩:=h <;> rcases get_set h with⟨rfl,z,_⟩|⟨ne,h⟩
  .exact⟨_,.inr q⟩
  .exact⟨_,.inl h⟩
  .exact⟨_,.inr q⟩
  .exact⟨_,.inr h⟩
 .exact h
theorem K6:(dD i us ρ).length = ρ.length:=by
 unfold dD
 split
 .rw[List.length_set]
 .rw[List.length_set]
 .rfl
theorem qD(h:(dD i us ρ)[j]?=some s):(j≠i/\ρ[j]?=some s)\/(j=i/\((∃ts,ρ[i]?=some (.ow ts)/\s=.ow us)\/(∃ts,ρ[i]?=some (.rf ts)/\s=.rf us)\/(¬Mu ρ i/\ρ[i]?=some s))):=by
 unfold dD at h
 split at h
 .rename_i ws q
  rcases get_set h with⟨rfl,z,_⟩|⟨ne,h⟩
  .exact .inr ⟨rfl,.inl ⟨ws,q,z⟩⟩
  .exact .inl ⟨ne,h⟩
 .rename_i ws q
  rcases get_set h with⟨rfl,z,_⟩|⟨ne,h⟩
  .exact .inr ⟨rfl,.inr (.inl ⟨ws,q,z⟩)⟩
  .exact .inl ⟨ne,h⟩
 .rename_i n1 a
  by_cases e:j=i
  .subst e
   refine .inr ⟨rfl,.inr (.inr ⟨?_,h⟩)⟩
   rintro⟨ts,z|z⟩
   .exact n1 ts z
   .exact a ts z
  .exact .inl ⟨e,h⟩
theorem vK{i j:Nat}{us ws:List Tr}(h:(dD i us ρ)[j]?=some (.dp ws)) : ρ[j]?=some (.dp ws):=by
 rcases qD h with⟨_,h⟩|⟨rfl,⟨_,_,z⟩|⟨_,_,z⟩|⟨_,h⟩⟩
 .exact h
 .cases z
 .cases z
 .exact h
theorem DR.lst{K:FZ}{G H:Hp}:∀{xs:List V} {ts:List Tr} {bs:List Addr},DR K G H xs ts bs->∀b∈bs,∃ys,H b=some (.lst ys)
 |_,_,_,.nil,_,h=>by cases h
 |_,_,_,.cl _ _ r,b,h=>DR.lst r b h
 |_,_,_,.rw q _ r,b,h=>by
  rcases List.mem_cons.mp h with rfl|h
  .exact⟨_,q⟩
  .exact DR.lst r b h
theorem uz.lst(d:uz t W H a xs ts f):∀b∈f,∃ys,H b=some (.lst ys):=λb c=>by
 obtain⟨bs,e,_,_,g,r⟩:=d
 rw[e]at c
 rcases List.mem_cons.mp c with rfl|c
 .exact⟨_,g⟩
 .exact r.lst b c
theorem uz.nt{t:Tx}{K:FZ}{W:Addr->Prop}{H:Hp}{a:Addr}{xs:List V}{ts:List Tr}{c:List Addr}(d:uz t W H a xs ts c)(tb:gJ K H){b:Addr}(z:Tb K b)(f:b∈c):False:=by
 obtain⟨g,e⟩:=d.lst b f
 exact tb.ne z e rfl
theorem aO.K7(e:aO t W ρ σ H)(m:Mu ρ i)(q : σ[i]?=some (some (.ref a))):∃xs,H a=some (.lst xs):=by
 obtain⟨f,h|h⟩:=m
 .obtain⟨b,xs,c,_,_,d,_⟩:=e.ow i f h
  rw[q]at c
  cases c
  exact⟨xs,d⟩
 .obtain⟨b,xs,c,_,_,d,_⟩:=e.rf i f h
  rw[q]at c
  cases c
  exact⟨xs,d⟩
theorem EOF.move{W A:Addr->Prop}{i:Nat}{xs:List V}{us:List Tr}{F:Nat->List Addr}(e:EOF t W ρ σ H F)(y:Mu ρ i)(hi : σ[i]?=some (some (.ref a)))(m:Same (aK W H) (aK A H'))(sub:∀b,W b->A b)(wl:∀b,A b->Lt H' b)
  (tb:gJ t.K H') (fr:∀b o,H b=some o->b≠a->¬Tb t.K b->H' b=some o) (dom:∀b,H' b=none->H b=none) (h0:∀o,t.H0 a=some o->t.R a) (E:H' a=some (.lst xs)) (r:aN t.K (aK A H') xs us):EOF t A (dD i us ρ) σ H' F:=by
 have ne:∀j c,j≠i->Mu ρ j -> σ[j]?=some (some (.ref c))->c≠a:=λj c n G q z=>by
  subst z
  exact n (e.dis j i c G y q hi)
 have nt:∀{c:Addr} {p:List V},H c=some (.lst p)->¬Tb t.K c:=λq z=>e.tab.ok.ne z q rfl
 refine⟨by rw[K6]; exact e.len,λb z=>sub b (e.zw b z),e.z0,wl,λb o h n=>?_,λb h=>e.n0 b (dom b h),λj u h=>?_,λj s h=>?_,λj s h=>?_,λj k c f g=>e.dis j k c (qC f) (qC g),λb o h=>fr b o (e.pn b o h) (λz=>by subst z; rw[e.pd i b y hi]at h; cases h) (λz=>by rw[e.tab.B b z]at h; cases h),λj c m q=>e.pd j c (qC m) q,λj ws h=>?_,λj k ws zs n f g=>e.dd j k ws zs n (vK f) (vK g),λj k ws c f m q=>e.dm j k ws c (vK f) (qC m) q,λj ws h=>e.db j ws (vK h),⟨tb,λb z=>sub b (e.tab.w b z),e.tab.r,e.tab.B⟩⟩
 .refine fr b o (e.f0 b o h n) (λz=>?_) λz=>n (e.tab.r b z)
  subst z
  exact n (h0 o h)
 .rcases qD h with⟨n,h⟩|⟨rfl,⟨s,q,z⟩|⟨s,q,z⟩|⟨nm,h⟩⟩
  .obtain⟨w,f,g⟩:=e.sh j u h
   exact⟨w,f,g.mono m⟩
  .cases z
  .cases z
  .exact(nm y).elim
 .rcases qD h with⟨n,h⟩|⟨rfl,⟨l,q,z⟩|⟨l,q,z⟩|⟨nm,h⟩⟩
  .obtain⟨c,p,f,g,v,x,C⟩:=e.ow j s h
   exact⟨c,p,f,sub c g,v,fr c _ x (ne j c n ⟨s,.inl h⟩ f) (nt x),C.mono m⟩
  .cases z
   obtain⟨c,p,f,g,v,x,C⟩:=e.ow j l q
   rw[hi]at f
   cases f
   exact⟨a,xs,hi,sub a g,v,E,r⟩
  .cases z
  .exact(nm y).elim
 .rcases qD h with⟨n,h⟩|⟨rfl,⟨l,q,z⟩|⟨l,q,z⟩|⟨nm,h⟩⟩
  .obtain⟨c,p,f,g,v,x,C⟩:=e.rf j s h
   exact⟨c,p,f,sub c g,v,fr c _ x (ne j c n ⟨s,.inr h⟩ f) (nt x),C.mono m⟩
  .cases z
  .cases z
   obtain⟨c,p,f,g,v,x,C⟩:=e.rf j l q
   rw[hi]at f
   cases f
   exact⟨a,xs,hi,sub a g,v,E,r⟩
  .exact(nm y).elim
 .obtain⟨c,p,f,d⟩:=e.dp j ws (vK h)
  exact⟨c,p,f,d.move rfl rfl m (λb D=>sub b (by obtain⟨_,_,_,ww,_⟩:=d; exact(ww b D).1)) λb o D q=>fr b o q (λz=>by subst z; exact e.dm j i ws b (vK h) y hi D) λz=>d.nt e.tab.ok z D⟩
theorem aO.move(e:aO t W ρ σ H)(c:Mu ρ i)(hi : σ[i]?=some (some (.ref a)))(m:Same (aK W H) (aK W' H'))(sub:∀b,W b->W' b)(wl:∀b,W' b->Lt H' b)
  (tb:gJ t.K H') (fr:∀b o,H b=some o->b≠a->¬Tb t.K b->H' b=some o) (dom:∀b,H' b=none->H b=none) (h0:∀o,t.H0 a=some o->t.R a) (d:H' a=some (.lst xs)) (r:aN t.K (aK W' H') xs us):aO t W' (dD i us ρ) σ H':=by
 obtain⟨F,e⟩:=e
 exact⟨F,e.move c hi m sub wl tb fr dom h0 d r⟩
theorem aO.put(e:aO t W ρ σ H)(c:Mu ρ i)(hi : σ[i]?=some (some (.ref a)))(h0:∀o,t.H0 a=some o->t.R a)(r:aN t.K (aK W H) xs us):aO t W (dD i us ρ) σ (upd H a (.lst xs))/\bV W H (upd H a (.lst xs)):=by
 have w:=e.addr c hi
 obtain⟨zs,d⟩:=e.K7 c hi
 refine⟨e.move c hi (by rw[lM w]; exact Same.refl _) (λ_ h=>h) (λb z=>?_) (e.tab.ok.upd d) (λb o h n _=>by rw[bA n]; exact h) (λb h=>?_) h0 dM (by rw[lM w]; exact r),⟨λb o n h=>?_,λb h=>?_⟩⟩
 .by_cases q:b=a
  .subst q; exact .inl ⟨xs,dM⟩
  .unfold Lt; rw[bA q]; exact e.wl b z
 .by_cases q:b=a
  .subst q; rw[dM]at h; cases h
  .rw[bA q]at h; exact h
 .rw[bA (λz=>n (by rw[z]; exact w))]; exact h
 .by_cases q:b=a
  .subst q; rw[dM]at h; cases h
  .rw[bA q]at h; exact h
abbrev GM:=List Tr->List Tr->Rs (List Tr × Tr)
noncomputable def zQ(r:V->List V->Hp->VK->Prop)(m:GM):Prop:=∀(K:FZ) (G:Hp) a xs ts vs as H Q ts' T,H a=some (.lst xs)->aN K G xs ts->aN K G vs as->m ts as=.ok (ts',T)->(∀xs' v,aN K G xs' ts'->Rep K G v T->Q v (upd H a (.lst xs')))->r (.ref a) vs H Q
def fY(i:Nat)(m:GM)(fa:AF):EF:=λρ=>(con ρ i).bind λ_=>(fa ρ).bind λp=>(cls p.1).bind λas=>(con p.2 i).bind λts=>(m ts as).bind λz=>.ok (.v z.2 false,dD i z.1 p.2)
theorem Vc{K:FZ}{r:V->List V->Hp->VK->Prop}{m:GM}{f:TA}{g:AF}(i:Nat)(hm:zQ r m)(k:∀ts as c,m ts as ≠ .ex c)(n:SA t f g):SE t (DW K "list" r (iJ i) f) (fY i m g):=λW l σ H Q e h=>by
 obtain⟨J,o,h⟩:=dW (Rs.aX h) (Fj _ _)
 obtain⟨_,a,q,hi,_,s,_⟩:=e.con o
 refine⟨_,hi,.inl ⟨rfl,q,bH.of s⟩,?_⟩
 refine n W l σ H _ e (Rs.bF (Rs.aX h) λp h u H1 j s1 v1=>?_)
 obtain⟨as,x,h⟩:=dW (Rs.aX h) (zG _)
 obtain⟨ts,y,h⟩:=dW (Rs.aX h) (Fj _ _)
 obtain⟨⟨d,T⟩,z,h⟩:=dW (Rs.aX h) (k _ _)
 obtain⟨A,L,B,b,w,C,D,h0⟩:=j.con y
 rw[hi]at b
 cases b
 refine hm t.K (aK W H1) a B ts u as H1 Q d T C D (zH e.wn v1 x) z λE v F G=>?_
 obtain⟨I,s2⟩:=j.put A hi h0 F
 refine h v _ I (s1.trans s2) (.low ?_)
 rw[lM w]
 exact G
def zR(i:Nat)(m:GM):EF:=λρ=>(con ρ i).bind λts=>(m ts []).bind λz=>.ok (.v z.2 false,dD i z.1 ρ)
theorem acJ{K:FZ}{r:V->List V->Hp->VK->Prop}{m:GM}(i:Nat)(hm:zQ r m)(g:∀ts as c,m ts as ≠ .ex c):SE t (yN K "list" r (iJ i)) (zR i m):=λW u σ H Q e h=>by
 obtain⟨ts,j,h⟩:=dW (Rs.aX h) (Fj _ _)
 obtain⟨k,a,d,hi,w,f,l,h0⟩:=e.con j
 obtain⟨⟨b,T⟩,n,h⟩:=dW (Rs.aX h) (g _ _)
 refine⟨_,hi,.inl ⟨rfl,d,bH.of f⟩,?_⟩
 refine hm t.K (aK W H) a d ts [] [] H Q b T f l .nil n λo v p q=>?_
 obtain⟨s,s2⟩:=e.put k hi h0 p
 refine h v _ s s2 (.low ?_)
 rw[lM w]
 exact q
def dX:GM:=λts as=>match as with
 | [T]=>if ts.length<=100000 then .ok (ts++[T],.non)else .bad
 |_=>.bad
theorem acK:zQ JX dX:=λK G a b j k as H Q d T e r f q h=>by
 unfold dX at q
 split at q
 .rename_i U
  split at q
  .rename_i c
   cases q
   cases f with
   |cons g i =>
    cases i
    exact⟨a,b,_,rfl,rfl,e,Nat.lt_of_le_of_lt (by rw[r.length]; exact c) (by decide),h _ _ (r.app (.cons g .nil)) .non⟩
  .cases q
 .cases q
def vL:GM:=λts as=>match as with
 | []=>.ok ([],.non)
 |_=>.bad
theorem acL:zQ J0 vL:=λK G a b f g as H Q c T d r e q h=>by
 unfold vL at q
 split at q
 .cases q
  cases e
  exact⟨a,b,rfl,rfl,d,h _ _ .nil .non⟩
 .cases q
theorem acM(ts as:List Tr)(c:Str):dX ts as ≠ .ex c:=by
 unfold dX
 split <;> (try split) <;> (intro z; cases z)
theorem acN(ts as:List Tr)(c:Str):vL ts as ≠ .ex c:=by
 unfold vL
 split <;> (intro z; cases z)
theorem aN.set{K:FZ}{H:Hp}{v:V}{T:Tr}(h:Rep K H v T):∀{xs:List V} {ts:List Tr} (j:Nat),aN K H xs ts->aN K H (xs.set j v) (ts.set j T)
 |_,_,_,.nil=>.nil
 |_,_,0,.cons _ r=>.cons h r
 |_,_,j+1,.cons a r=>.cons a (aN.set h j r)
def acO(i:Nat)(p:Int->Int->Int)(f:EF):SF:=λρ=>match ρ[i]? with
 |some (.sh (.int x))=>(f ρ).bind λq=>(dr q.2 q.1).bind λyT=>(pU yT).bind λy=>.ok (.nx,q.2.set i (.sh (.int (p x y))))
 |_=>.bad
def vM(i j:Nat)(fa:AF):SF:=λρ=>(fa ρ).bind λp=>(cls p.1).bind λTs=>match Ts with
 | [T,U]=>.ok (.nx,(p.2.set i (.sh T)).set j (.sh U))
 |_=>.bad
theorem Vd(i j:Nat)(a:SA t ta fa):SS t (R7 i j ta) (vM i j fa):=λW b σ H D e h=>by
 refine a W b σ H _ e (Rs.bF (Rs.aX h) λp h m H1 c s1 v1=>?_)
 obtain⟨n,d,h⟩:=dW (Rs.aX h) (zG _)
 have r:=zH e.wn v1 d
 split at h
 .cases r with
  |cons f g =>
   cases g with
   |cons k l =>
    cases l
    exact⟨_,_,rfl,h W _ H1 ((c.EY f).EY k) s1.nxt⟩
 .exact h.elim
def vN(c:Str)(f:EF):SF:=λρ=>(f ρ).bind λ_=>.ex c
def F0(t:Tx)(H':Hp):Prop:=(∀b o,t.H0 b=some o->¬t.R b->H' b=some o)/\gJ t.K H'
theorem zT(d:∀a,F0 t a->t.EX c->E (.ref C) none a)(he:SE t te f):SS t (Um E C te) (vN c f):=λW g σ H D e h =>
 he W g σ H _ e (Rs.bF (Rs.aX h) λp h v H1 b s1 v1=>⟨rfl,d H1 ⟨b.f0,b.tab.ok⟩ h⟩)
end
mutual
noncomputable def xM:Tr->Bool
 |.tup ts=>uJ ts
 |.lst _=>false
 |_=>true
noncomputable def uJ:List Tr->Bool
 | []=>true
 |t::r=>xM t&&uJ r
end
def Fo(G G':Hp):Prop:=(∀b xs,(G b=some (.tup xs)->G' b=some (.tup xs))/\∀o,G b=some (.fC o (.tup xs))->G' b=some (.fC o (.tup xs)))/\∀b C,G b=some (uq b C)->G' b=some (uq b C)
mutual
theorem Rep.flat{K:FZ}{G a:Hp}(m:Fo G a):∀{v:V} {T:Tr},Rep K G v T->xM T=true->Rep K a v T
 |_,_,.non,_=>.non
 |_,_,.bl b,_=>.bl b
 |_,_,.int i,_=>.int i
 |_,_,.str x,_=>.str x
 |_,_,.tup h r,n=>by
  refine .tup ?_ (aN.flat m r (by unfold xM at n; exact n))
  rcases h with(h|⟨o,h⟩)|h
  .exact .inl (.inl ((m.1 _ _).1 h))
  .exact .inl (.inr ⟨o,(m.1 _ _).2 o h⟩)
  .exact .inr h
 |_,_,.lst h r,n=>by unfold xM at n; cases n
 |_,_,.eU h k n,_=>.eU (m.2 _ _ h) k n
theorem aN.flat{K:FZ}{G a:Hp}(m:Fo G a):∀{v:List V} {T:List Tr},aN K G v T->uJ T=true->aN K a v T
 |_,_,.nil,_=>.nil
 |_,_,.cons h r,n=>by
  unfold uJ at n
  rw[Bool.and_eq_true]at n
  exact .cons (Rep.flat m h n.1) (aN.flat m r n.2)
end
theorem acP(wl:∀b,W' b->Lt H b):Fo (aK W H) (aK W' H):=by
 have key:∀b o,aK W H b=some o->(∀a,o ≠ .lst a)->(∀a,o ≠ .eE a)->(∀c,o=.ext c -> ¬∀C,HO.ext c≠uq b C)->aK W' H b=some o:=λb o h n d f=>by
  obtain⟨_,h⟩:=iZ h
  rw[eG]
  .exact h
  .intro w
   rcases wl b w with⟨a,e⟩|⟨a,e⟩|⟨a,e,g⟩ <;> (rw[h]at e; cases e)
   .exact n a rfl
   .exact d a rfl
   .exact f a rfl g
 exact⟨λb i=>⟨λh=>key _ _ h (λa z=>by cases z) (λa z=>by cases z) (λa z=>by cases z),λo h=>key _ _ h (λa z=>by cases z) (λa z=>by cases z) (λa z=>by cases z)⟩,λb C h=>key _ _ h (λa z=>by cases z) (λa z=>by cases z) (λc z q=>q C z.symm)⟩
theorem acQ(wl:∀b,W b->Lt H b)(f:H a=some (.lst xs))(G:Hp)(g:∀b o,G b=some o->H b=some o):Fo G (off a (aK W H)):=by
 have key:∀b o,G b=some o->(∀c,o ≠ .lst c)->(∀c,o ≠ .eE c)->(∀d,o=.ext d -> ¬∀C,HO.ext d≠uq b C)->off a (aK W H) b=some o:=λb o h n i j=>by
  have h:=g b o h
  rw[off_ne,eG]
  .exact h
  .intro w
   rcases wl b w with⟨c,e⟩|⟨c,e⟩|⟨c,e,k⟩ <;> (rw[h]at e; cases e)
   .exact n c rfl
   .exact i c rfl
   .exact j c rfl k
  .rintro rfl
   rw[h]at f
   cases f
   exact n _ rfl
 exact⟨λb xs=>⟨λh=>key _ _ h (λc z=>by cases z) (λc z=>by cases z) (λc z=>by cases z),λo h=>key _ _ h (λc z=>by cases z) (λc z=>by cases z) (λc z=>by cases z)⟩,λb C h=>key _ _ h (λc z=>by cases z) (λc z=>by cases z) (λd z q=>q C z.symm)⟩
def zU(K:FZ)(Z:Addr->Prop)(H H':Hp)(v:V)(T:Tr):Bool->Prop
 |false=>Rep K (aK Z H') v T
 |true=>∃a xs ts,v=.ref a/\T=.lst ts/\H a=none/\H' a=some (.lst xs)/\aN K (off a (aK Z H')) xs ts
def jt(K:FZ)(H H':Hp):Prop:=(∀b o,H b=some o->¬Tb K b->H' b=some o)/\gJ K H'
theorem jt.dom{K:FZ}{H a:Hp}(s:jt K H a):∀b,a b=none->H b=none:=λb h=>by
 cases q:H b with
 |none=>rfl
 |some o =>
  by_cases z:Tb K b
  .obtain⟨c,e⟩:=s.2.eE z
   rw[h]at e
   cases e
  .rw[s.1 b o q z]at h
   cases h
def Fp(G G':Hp):Prop:=∀b o,(∀ps,o ≠ .eE ps)->G b=some o->G' b=some o
theorem Rd.pY(m:Fp G G')(n:∀b,u ≠ .eE b)(h:Rd G a u):Rd G' a u:=by
 rcases h with h|⟨o,h⟩
 .exact .inl (m _ _ n h)
 .exact .inr ⟨o,m _ _ (λ_ z=>by cases z) h⟩
mutual
theorem Rep.pY{K:FZ}{G a:Hp}(m:Fp G a):∀{v:V} {T:Tr},Rep K G v T->Rep K a v T
 |_,_,.non=>.non
 |_,_,.bl b=>.bl b
 |_,_,.int i=>.int i
 |_,_,.str x=>.str x
 |_,_,.tup h r=>by
  refine .tup ?_ (aN.pY m r)
  rcases h with h|h
  .exact .inl (Rd.pY m (λ_ z=>by cases z) h)
  .exact .inr h
 |_,_,.lst h r=>by
  refine .lst ?_ (aN.pY m r)
  rcases h with h|h
  .exact .inl (Rd.pY m (λ_ z=>by cases z) h)
  .exact .inr h
 |_,_,.eU h k n=>.eU (m _ _ (λ_ z=>by cases z) h) k n
theorem aN.pY{K:FZ}{G a:Hp}(m:Fp G a):∀{v:List V} {T:List Tr},aN K G v T->aN K a v T
 |_,_,.nil=>.nil
 |_,_,.cons h r=>.cons (Rep.pY m h) (aN.pY m r)
end
theorem K8{K:FZ}{Z:Addr->Prop}{H:Hp}(tb:gJ K H):Fp (aK Z H) (aK (λb=>Z b\/Tb K b) H):=λb o n h=>by
 obtain⟨a,h⟩:=iZ h
 rw[eG]
 .exact h
 .rintro(z|z)
  .exact a z
  .obtain⟨c,e⟩:=tb.eE z
   rw[h]at e
   cases e
   exact n _ rfl
theorem aO.K9(e:aO t W ρ σ H)(s:jt t.K H H'):aO t W ρ σ H'/\bV W H H':=by
 have st:bV W H H':=⟨λb o n q=>s.1 b o q λz=>n (e.tab.w b z),s.dom⟩
 refine⟨?_,st⟩
 have m:=st.off
 obtain⟨F,e⟩:=e
 have ls:∀{a:Addr} {c:List V},H a=some (.lst c)->H' a=some (.lst c):=λq=>s.1 _ _ q λz=>e.tab.ok.ne z q rfl
 refine⟨F,e.len,e.zw,e.z0,λb w=>?_,λb o h n=>s.1 b o (e.f0 b o h n) λz=>n (e.tab.r b z),λb h=>e.n0 b (s.dom b h),λi u h=>?_,λi g h=>?_,λi g h=>?_,e.dis,λb o h=>s.1 b o (e.pn b o h) λz=>(by rw[e.tab.B b z]at h; cases h),e.pd,λi g h=>?_,e.dd,e.dm,e.db,⟨s.2,e.tab.w,e.tab.r,e.tab.B⟩⟩
 .rcases e.wl b w with⟨c,q⟩|⟨k,q⟩|⟨k,q,A⟩
  .exact .inl ⟨c,ls q⟩
  .by_cases z:Tb t.K b
   .exact .inr (.inl (s.2.eE z))
   .exact .inr (.inl ⟨k,s.1 b _ q z⟩)
  .by_cases z:Tb t.K b
   .exact .inr (.inl (s.2.eE z))
   .exact .inr (.inr ⟨k,s.1 b _ q z,A⟩)
 .obtain⟨v,f,j⟩:=e.sh i u h
  exact⟨v,f,j.mono m⟩
 .obtain⟨a,c,f,j,l,p,x⟩:=e.ow i g h
  exact⟨a,c,f,j,l,ls p,x.mono m⟩
 .obtain⟨a,c,f,j,l,p,x⟩:=e.rf i g h
  exact⟨a,c,f,j,l,ls p,x.mono m⟩
 .obtain⟨a,c,f,d⟩:=e.dp i g h
  exact⟨a,c,f,d.move rfl rfl m (λb y=>by obtain⟨_,_,_,ww,_⟩:=d; exact(ww b y).1) λb o y q=>s.1 b o q λz=>d.nt e.tab.ok z y⟩
theorem aO.acR(e:aO t W ρ σ H)(s:jt t.K H H')(n:H a=none)(q:H' a=some (.lst xs)):qm t W a ρ σ H':=by
 have na:∀b,W b->b≠a:=λb w z=>by subst z; exact e.wn b w n
 obtain⟨k,st⟩:=e.K9 s
 have B:∀{v:V} {T:Tr},Rep t.K (aK W H) v T->Rep t.K (aK (λb=>W b\/b=a) H') v T:=λr=>r.mono λb o h=>by
  obtain⟨w,h⟩:=iZ h
  rw[eG]
  .exact st.keep b o w h
  .rintro(z|rfl)
   .exact w z
   .rw[n]at h; cases h
 have m:Same (aK W H) (aK (λb=>W b\/b=a) H'):=λb o h=>by
  obtain⟨w,h⟩:=iZ h
  rw[eG]
  .exact st.keep b o w h
  .rintro(z|rfl)
   .exact w z
   .rw[n]at h; cases h
 obtain⟨F,e⟩:=e
 have ls:∀{a:Addr} {xs:List V},H a=some (.lst xs)->H' a=some (.lst xs):=λq=>s.1 _ _ q λz=>e.tab.ok.ne z q rfl
 refine⟨F,⟨e.len,λb z=>.inl (e.zw b z),e.z0,λb w=>?_,k.f0,k.n0,λi u h=>?_,λi g h=>?_,λi g h=>?_,e.dis,k.pn,e.pd,λi g h=>?_,e.dd,e.dm,e.db,k.tab.Uv λb w=>.inl w⟩,λi g h z=>?_⟩
 .rcases w with w|rfl
  .exact k.wl b w
  .exact .inl ⟨xs,q⟩
 .obtain⟨v,f,l⟩:=e.sh i u h
  exact⟨v,f,B l⟩
 .obtain⟨c,j,f,l,p,x,y⟩:=e.ow i g h
  exact⟨c,j,f,.inl l,p,ls x,y.mono m⟩
 .obtain⟨c,j,f,l,p,x,y⟩:=e.rf i g h
  exact⟨c,j,f,.inl l,p,ls x,y.mono m⟩
 .obtain⟨c,j,f,d⟩:=e.dp i g h
  exact⟨c,j,f,d.move rfl rfl m (λb A=>by obtain⟨_,_,_,ww,_⟩:=d; exact .inl (ww b A).1) λb o A q=>s.1 b o q λz=>d.nt e.tab.ok z A⟩
 .obtain⟨c,j,f,bs,_,_,ww,_⟩:=e.dp i g h
  exact na a (ww a z).1 rfl
abbrev FP:=List Tr->Rs (Tr × Bool)
noncomputable def aV(K:FZ)(cl:Str->Addr)(n:Nat)(F:FP):Sp:=λvs H Q E=>∃Z ts,vs.length=n/\aN (aJ K) (aK Z H) vs ts/\(∀b,Z b->Lt H b)/\gJ (aJ K) H /\
 (F ts).post (λc=>∀H',jt (aJ K) H H'->E (.ref (cl c)) none H') (λp=>∀v H',jt (aJ K) H H'->zU (aJ K) Z H H' v p.1 p.2->Q v H')
def bQ(nl:Nat)(ts:List Tr):En:=ts.map Sl.sh++List.replicate (nl-ts.length) Sl.un
def bf(nl:Nat)(b:SF):FP:=λts=>(b (bQ nl ts)).bind λq=>match q.1 with
 |.rt T fr=>.ok (T,fr)
 |.nx=>.ok (.non,false)
 |_=>.bad
theorem lU{nl:Nat}{ts:List Tr}{i:Nat}(h:(bQ nl ts)[i]?=some s):(∃u,ts[i]?=some u/\s=.sh u)\/s=.un:=by
 unfold bQ at h
 by_cases l:i<ts.length
 .rw[List.getElem?_append_left (by simpa using l),List.getElem?_map]at h
  rw[List.getElem?_eq_getElem l]at h ⊢
  cases h
  exact .inl ⟨_,rfl,rfl⟩
 .rw[List.getElem?_append_right (by simpa using Nat.le_of_not_lt l)]at h
  rw[List.getElem?_replicate]at h
  split at h
  .cases h; exact .inr rfl
  .cases h
theorem Lb{N:List Str}{vs:List V}{i:Nat}(h:vs[i]?=some v):(start N vs)[i]?=some (some v):=by
 unfold start
 have l:=(List.getElem?_eq_some_iff.mp h).1
 rw[List.getElem?_append_left (by simpa using l),List.getElem?_map,h]
 rfl
section
variable {P:Program}{w:World}{K:FZ}{mg:Str->Option Value}{base:Heap}
theorem At.cX{k:Nat}{x:Str}{st:Stmt}{N p:List Str}{cl:Str->Addr}{b:SF}(a:At K mg x st)(S:rJ N p (bC st))(X:p.length<=N.length)
  (L:∀(kV doc pm:Value) (an:Option Addr) (g ct:Value) (us:List Value),us.length=p.length->bindArgs (PySem.W.fnOf x x (pN st) (jY st) (bC st) .none kV doc pm an g ct) ⟨us,[]⟩=pure (p.zip us))
  (m:∀(f:Addr) (g:Value) (A:Around) (outer:List Env) (s:Shared) (H:Hp) (E:XK),gQ k (A.deeper (envOfC x (bC st) s.heap.objs.size f g)) ->
   ∃ts,jV (lJ (j4 P w) P w K mg base N x (bC st) f g A outer s H E) (jY st) ts/\∀t:Tx,t.K=aJ K->(∀c d,F0 t d->t.EX c->E (.ref (cl c)) none d)->SS t ts b) :
  aQ P w K mg base (k+1) x p (aV K cl p.length (bf N.length b)):=by
 refine a.Ur S L (λF H Q E h=>?_) (λf g A outer s H F Q E M h=>?_)
 .obtain⟨_,_,h,_⟩:=h; exact h
 obtain⟨Z,as,Y,r,G,tb,h⟩:=h
 obtain⟨ts,O,R⟩:=m f g A outer s H E M
 refine⟨ts,O,?_⟩
 have I:∀(b:Addr) (W:Addr->Prop) J σ d,aO ⟨aJ K,Z,Tb (aJ K),H,λ_=>none,λc=>∀d,jt (aJ K) H d->E (.ref (cl c)) none d⟩ W J σ d->jt (aJ K) H d:=λ_ W J σ d e=>⟨λb o q n=>e.f0 b o q n,e.tab.ok⟩
 have r:=r.pY (K8 tb)
 refine R ⟨aJ K,Z,Tb (aJ K),H,λ_=>none,λc=>∀d,jt (aJ K) H d->E (.ref (cl c)) none d⟩ rfl (λc d f0 q=>q d ⟨λb o z n=>f0.1 b o z n,f0.2⟩) (λb=>Z b\/Tb (aJ K) b) (bQ N.length as) (start N F) H _ ?_ (Rs.bF (Rs.aX h) λq h=>?_)
 .have la:=r.length
  have B:∀(i:Nat) (us:List Tr),(bQ N.length as)[i]?=some (.dp us)->False:=λi us q=>by
   rcases lU q with⟨C,q1,z⟩|z <;> cases z
  refine⟨λ_=>[],?_,λ_ z=>.inl z,λb z=>?_,λb z=>z.elim (G b) (λz=>.inr (.inl (tb.eE z))),λb o q _=>q,λb q=>q,λi u q=>?_,λi us q=>?_,λi us q=>?_,λi j c m1 m2=>?_,λb o z=>(by cases z),λ_ _ _ _=>rfl,λi us q=>(B i us q).elim,λi _ us _ _ q=>(B i us q).elim,λi _ us _ q=>(B i us q).elim,λi us q=>(B i us q).elim,⟨tb,λ_ z=>.inr z,λ_ z=>z,λ_ _=>rfl⟩⟩
  .unfold bQ start
   simp only[List.length_append,List.length_map,List.length_replicate]
   omega
  .exact(G b z).ne
  .rcases lU q with⟨C,q1,z⟩|z
   .cases z
    obtain⟨v,U,V⟩:=r.mK q1
    exact⟨v,Lb U,V⟩
   .cases z
  .rcases lU q with⟨C,q1,z⟩|z <;> cases z
  .rcases lU q with⟨C,q1,z⟩|z <;> cases z
  .obtain⟨us,q|q⟩:=m1 <;> rcases lU q with⟨C,q1,z⟩|z <;> cases z
 .obtain⟨fl,y⟩:=q
  cases fl with
  |nx=>exact λD l d e n=>h .non d (I 0 D y l d e) .non
  |rt T fr =>
   refine λv D l d e n=>h v d (I 0 D y l d e) ?_
   cases fr <;> exact n
  |bk=>exact h.elim
  |ct=>exact h.elim
end
section
variable {X:Cx}{k:Nat}{x:Str}{ps:List Str}{sp:Sp}{p pos:Pos}{e:Expr}{es:List Expr}{ta:TA}{E:XK}
theorem acS(D:aQ X.prog X.w X.K X.mg X.base k x ps sp)(c:gQ k X.A)(d:Passes (j4 X.prog X.w) X E)(g:PA X (e::es) ta)(h:Gl X x:=by rfl)(a:(x == ("__debug__" : Str))=false:=by decide)
  (he:starEach (e::es) X.env=(false,eval e X.env)::starEach es X.env:=by rfl) (b:(backTo pos (starEach es X.env)).any (·.1)=false:=by rfl):PE X (.Call (.Name x p) (e::es) [] pos) (rH sp [] E ta):=by
 obtain⟨f,fd,i,j,l,m⟩:=D
 exact aaL i c h m l j .nil d g a he b
end
section
variable {t:Tx}{K:FZ}
def bN:Rv->Bool
 |.s _=>true
 |_=>false
def sE(z:Tr × Bool):Bool:=xM z.1 || (z.2&&(match z.1 with
 |.lst us=>uJ us
 |_=>false))
theorem zU.voe{W W0:Addr->Prop}(wn:∀b,W b->H b≠none)(wl:∀b,W b->Lt H' b)(zs:(∀b,W b->Z b)\/sE z=true)(h:zU t.K Z H H' v z.1 z.2)
  (ex:z.2=true->∀a xs,H a=none->H' a=some (.lst xs)->qm t W a ρ σ H'):jh t W ρ σ H H' v (.v z.1 z.2):=by
 obtain⟨T,fr⟩:=z
 cases fr with
 |false =>
  refine .low ?_
  rcases zs with zs|zs
  .exact Rep.mono (qg (λb _ _ z=>zs b z) λ_ _ _ h=>h) h
  .unfold sE at zs
   simp only[Bool.false_and,Bool.or_false]at zs
   exact Rep.flat (acP wl) h zs
 |true =>
  obtain⟨a,xs,c,rfl,d,n,q,r⟩:=h
  subst d
  refine⟨⟨a,xs,c,rfl,rfl,n,q,?_⟩,λU b z e=>?_⟩
  .rcases zs with zs|zs
   .refine r.mono λb o q=>?_
    obtain⟨ne,q⟩:=vG q
    rw[off_ne ne]
    exact qg (λb _ _ z=>zs b z) (λ_ _ _ h=>h) b o q
   .unfold sE at zs
    have zs:uJ c=true:=by
     rw[Bool.or_eq_true]at zs
     rcases zs with zs|zs
     .unfold xM at zs; cases zs
     .exact zs
    exact r.flat (acQ wl q _ λb o h=>iR _ _ b o (zx _ _ b o h)) zs
  .cases e
   exact ex rfl a xs n q
theorem jD.length:∀{vs:List V} {rs:List Rv},jD K W σ H H' vs rs->vs.length=rs.length
 |_,_,.nil=>rfl
 |_,_,.cons _ r=>by rw[List.length_cons,List.length_cons,jD.length r]
theorem post_eq{α : Type}{r:Rs α}{a : α}{EX:Str->Prop}{P : α -> Prop}(h:r=.ok a)(q:P a):r.post EX P:=by
 rw[h]
 exact q
def aR(F:FP)(fa:AF):EF:=λρ=>(fa ρ).bind λp=>(drs p.2 p.1).bind λas=>(F as).bind λz=>if p.1.any bN=true/\sE z=false then .bad else .ok (.v z.1 z.2,p.2)
theorem Ld(wn:∀b,W b->H b≠none):∀{vs:List V} {rs:List Rv} {as:List Tr},jD t.K W σ H H' vs rs->drs ρ rs=.ok as->rs.any bN=false->aN t.K (aK W H') vs as
 |_,_,_,.nil,q,_=>by cases q; exact .nil
 |_,.v T fr::_,_,.cons h r,q,n=>by
  unfold drs at q
  obtain⟨a,q1,q⟩:=jk q
  obtain⟨as,q2,q⟩:=jk q
  cases q
  cases q1
  exact .cons (h.rep wn) (Ld wn r q2 (by simpa[List.any_cons,bN]using n))
 |_,.s i::_,_,.cons h r,q,n=>by simp[bN]at n
theorem uD.reps:∀{vs:List V} {as:List Tr},uD K W H vs as->aN K (aK (λ_=>False) H) vs as
 |_,_,.nil=>.nil
 |_,_,.cons h r=>.cons (h.rep.mono λb o q=>by rw[eG id]; exact q) (uD.reps r)
theorem Ve(f:t.K=aJ K){cl:Str->Addr}{n:Nat}{F:FP}{E:XK}{u:TA}{k:AF}(B:∀c g,F0 t g->t.EX c->E (.ref (cl c)) none g)(C:∀ρ p,k ρ=.ok p->p.1.length=n)(w:SA t u k):SE t (rH (aV K cl n F) [] E u) (aR F k):=λW ρ σ H Q e h=>by
 have h:=Rs.aX h
 cases j:k ρ with
 |bad=>rw[j]at h; exact h.elim
 |ex c=>exact w W ρ σ H _ e (by rw[j]at h ⊢; exact h)
 |ok p =>
 have D:=C ρ p j
 rw[j]at h
 refine w W ρ σ H _ e (post_eq j ?_)
 intro m H1 d s1 v1
 obtain⟨as,s,h⟩:=dW (Rs.aX h) (zF _ _)
 have r:=Es d e.wn v1 s
 have lv:m.length=n:=v1.length.trans D
 have fin:∀Z:Addr->Prop,(∀b,Z b->W b)->(∀z,F as=.ok z->¬(p.1.any bN=true/\sE z=false)->(∀b,W b->Z b)\/sE z=true)->aN (aJ K) (aK Z H1) m as->aV K cl n F (m++[]) H1 Q E:=λZ zw zs G=>by
  rw[List.append_nil]
  refine⟨Z,as,lv,G,λb z=>d.wl b (zw b z),by rw[<-f]; exact d.tab.ok,?_⟩
  cases l:F as with
  |bad=>rw[l]at h; exact h.elim
  |ex c =>
   rw[l]at h
   exact λg i=>B c g ⟨λb o q x=>i.1 b o (d.f0 b o q x) λz=>x (d.tab.r b (by rw[f]; exact z)),by rw[f]; exact i.2⟩ h
  |ok z =>
   rw[l]at h
   have h:(if p.1.any bN=true/\sE z=false then Rs.bad else .ok (.v z.1 z.2,p.2):Rs (Rv × En)).post _ _:=h
   split at h
   .exact h.elim
   .rename_i c
    intro v g i y
    rw[<-f]at y i
    obtain⟨A,I⟩:=d.K9 i
    refine h v g A (s1.trans I) (jh.back (H:=H1) ?_ s1.dom)
    exact zU.voe (W0:=W) d.wn A.wl (zs z l c) y λ_ a N na J=>d.acR i na J
 by_cases an:p.1.any bN=true
 .refine fin (λ_=>False) (λ_ z=>z.elim) (λz L c=>.inr ?_) ?_
  .cases M:sE z with
   |true=>rfl
   |false=>exact(c ⟨an,M⟩).elim
  .rw[<-f]
   exact r.reps
 .refine fin W (λ_ z=>z) (λz L c=>.inl λ_ z=>z) ?_
  rw[<-f]
  exact Ld e.wn v1 s (by simpa using an)
end
def dF{α : Type}:Rs α -> Rs α
 |.bad=>.bad
 |.ex _=>.bad
 |.ok a=>.ok a
theorem zV{α : Type}{r:Rs α}{EX:Str->Prop}{P : α -> Prop}(h:(dF r).post EX P):r.post (λ_=>False) P:=by
 cases r <;> exact h
theorem Le{α : Type}(r:Rs α)(c:Str):dF r ≠ .ex c:=by
 cases r <;> (intro z; cases z)
theorem acT{α β : Type}{r:Rs α}{f : α -> Rs β}(b:∀c,r ≠ .ex c)(e:∀a c,f a ≠ .ex c)(c:Str):r.bind f ≠ .ex c:=by
 cases r with
 |bad=>intro z; cases z
 |ex d=>exact(b d rfl).elim
 |ok a=>exact e a c
section
variable {t:Tx}{K:FZ}
def others(r i:Nat)(rs:List Rv):Bool:=(rs.eraseIdx r).all λx=>match x with
 |.s j=>j != i
 |_=>true
end
section
variable {prog:Program}{w:World}{A:Around}{R:Result->Shared->Prop}{s:Shared}
theorem acU(I:Nat->Shared->Prop)
  (turn:∀n s,I n s->wpAny (model prog w) A (pyNext it) (λr a=>match r with
   |none=>R (.ok .next) a
   | some v=>wpAny (model prog w) A (letOwnedTupleGo target it v) (λ_ d=>wpAny (model prog w) A (assign target env v) (λ_ g => wpAny (model prog w) A (isTrue c env (eval c env)) (λb e=>if b=true then wpAny (model prog w) A (eval elt env) (λx i =>
     wpAny (model prog w) A (call (.builtin "list.append") [acc,x]) (λ_ j=>∃m,m<n/\I m j) (λ_ _=>False) i) (λ_ _=>False) e else ∃m,m<n/\I m e) (λ_ _=>False) g) (λ_ _=>False) d) (λ_ _=>False) a) (λ_ _=>False) s)
  (n:Nat) (h:I n s) :
  codeAny (model prog w) A (.compLoop (.ListComp elt [⟨target,iter,[c],0⟩] scope pos) 0 it acc env) R s:=by
 refine codeAny_loop rfl I (λn s y=>?_) n h
 show wpAny _ _ ((compTurn (.ListComp elt [⟨target,iter,[c],0⟩] scope pos) 0 it acc env).onRaise (λx=>do noteFrame x env; theTreesLotGoes x)) _ _ s
 refine wpAny_noted (wpAny_noRaise ?_)
 rw[compTurn_list]
 refine wpAny_bind (wpAny_standAt (wpAny_bind (wpAny_mono (turn n s y) (λr a k=>?_) λ_ _ f=>f)))
 cases r with
 |none=>exact wpAny_pure k
 |some v =>
  refine wpAny_bind (wpAny_mono k (λ_ d o=>?_) λ_ _ f=>f)
  refine wpAny_bind (wpAny_mono o (λ_ g p=>wpAny_bind (wpAny_tests_one (wpAny_mono p (λok i l=>?_) λ_ _ f=>f))) λ_ _ f=>f)
  cases ok with
  |false=>exact wpAny_pure ⟨rfl,l⟩
  |true =>
   exact wpAny_bind (wpAny_bind (wpAny_mono l (λx j q=>wpAny_bind (wpAny_mono q (λ_ u t=>wpAny_pure (wpAny_pure ⟨rfl,t⟩)) λ_ _ f=>f)) λ_ _ f=>f))
end
noncomputable def vO(wi:TI)(g:TG)(src:List (Option Nat))(tc:TT)(te:TE):TE:=λσ H Q=>wi σ H λJ H1=>∀D,H1 D=none ->
 ∃W:Nat->Nat->St->Hp->Prop,(∃m,W 0 m (gh src σ) (upd H1 D (.lst [])))/\∀i m σ' H',W i m σ' H' ->
  (J.stop i H'/\Ua Q D H')\/(J.go i H'/\∀x gj,J.oR i H' x gj->g x σ' gj λσ2 H2=>tc σ2 H2 λb Vf=>if b=true then te σ2 Vf λv H3=>∃xs,H3 D=some (.lst xs)/\xs.length<sizeLine/\∃m',m'<m/\W (i+1) m' σ2 (upd H3 D (.lst (xs++[v])))else ∃m',m'<m/\W (i+1) m' σ2 Vf)
section
variable {X:Cx}{elt tg iter zW:Expr}{scope sc:Scope}{pos:Pos}{No N:List Str}{src:List (Option Nat)}{wi:TI}{g:TG}{te:TE}{tc:TT}
theorem acV{pins:List (Addr × Obj)}{RR:Value->Addr->Result->Shared->Prop}(hsc:X.env.scope=sc)(jZ:X.N=No)(S:vA sc No N src scope)(hc:X.calm=true)
  (hi:PI X tg iter wi) (hg:∀C s H ex,PG (iy X N scope C s H ex) tg g) (hq:∀C s H ex,PT (iy X N scope C s H ex) zW tc) (he:∀C s H ex,PE (iy X N scope C s H ex) elt te) (I:Inv X pins σ H s) (h:vO wi g src tc te σ H Q)
  (hRR:∀D C k G m,Inv X pins σ k G->k C=none->C≠X.env.locals->X.s₀.heap.objs.size<=C->(∀x c,X.env.cells.lookup x=some c->c≠C)->(∀p∈X.pn++pins,p.1≠C)->G.heap.Ns C m->Q (.ref D) k->RR (.ref D) C (.ok .next) G) :
  wpAny (model X.prog X.w) X.A (eval iter X.env) (λx L=>wpAny (model X.prog X.w) X.A (pyIter x) (λit M=>wpAny (model X.prog X.w) X.A (newList []) (λacc O =>
   wpAny (model X.prog X.w) X.A (newFunctionEnv scope X.env.globals (fW X.env.cells scope.names []) [] X.env.qual none .none (some X.env)) (λE P =>
    codeAny (model X.prog X.w) X.A (.compStart (.ListComp elt [⟨tg,iter,[zW],0⟩] scope pos) 0 it acc {E with scope:=relabel scope X.env }) (RR acc E.locals) P) X.xe O) X.xe M) X.xe L) X.xe s:=by
 refine bJ (hi pins s σ H _ I h) λv s1 h1=>bJ h1 λitv s2 h2=>?_
 obtain⟨it,f,tn,J,H2,e,I2,T,R,f2,hW⟩:=h2
 subst e
 have J3:H2 s2.heap.objs.size=none:=I2.hok.fresh (Nat.le_refl _)
 obtain⟨W,⟨m0,w0⟩,turn⟩:=hW s2.heap.objs.size J3
 have yP:∀b∈f,b<s2.heap.objs.size:=λb a=>by
  obtain⟨o,e,_⟩:=T.obj 0 _ R b a
  exact Heap.lt_size e
 refine wpAny_newObj_type ?_
 have F:Inv X pins σ (upd H2 s2.heap.objs.size (.lst [])) {s2 with heap:=s2.heap.push {cls:=.type "list",dict:=none,data:=.seq ([]:List Value).toArray } }:=I2.Ea (t':=s2.toks) (ys:=[]) .nil (Nat.zero_le _)
 have f3:∀b∈f,gH X pins (upd H2 s2.heap.objs.size (.lst [])) b:=λb a=>by
  obtain⟨q,r⟩:=f2 b a
  exact⟨by rw[bA (Nat.ne_of_lt (yP b a))]; exact q,r⟩
 have st3:tn 0 (s2.heap.push {cls:=.type "list",dict:=none,data:=.seq ([]:List Value).toArray }):=T.keep _ _ _ R λb a o e=>Heap.get?_push_of_some _ e
 have rO:∀b∈f,b<(s2.heap.push {cls:=.type "list",dict:=none,data:=.seq ([]:List Value).toArray }).objs.size:=λb a=>by
  rw[Heap.size_push]; exact Nat.lt_succ_of_lt (yP b a)
 generalize hD:s2.heap.objs.size=D at *
 generalize hh3:s2.heap.push {cls:=.type "list",dict:=none,data:=.seq ([]:List Value).toArray }=h3 at *
 generalize J4:upd H2 D (.lst [])=H3 at *
 refine T9 λl U old ck=>?_
 dsimp only at U old ck ⊢
 have I4:Inv (iy X N scope h3.objs.size {s2 with heap:=h3 } H3 f) [] (gh src σ) H3 {s2 with heap:=l,toks:=s2.toks+([]:List (Str × Value)).length }:=Ub (s:={s2 with heap:=h3 }) hsc jZ S F f3 rO U old ck
 have yQ:tn 0 l := T.keep _ _ _ st3 λb a o e=>old b o e
 have loop:codeAny (model X.prog X.w) X.A (.compLoop (.ListComp elt [⟨tg,iter,[zW],0⟩] scope pos) 0 (.ref it) (.ref D) (compEnvC scope (cellsFrom (h3.objs.size+1) scope.names (fW X.env.cells scope.names [])) h3.objs.size X.env)) (RR (.ref D) h3.objs.size) {s2 with heap:=l,toks:=s2.toks+([]:List (Str × Value)).length }:=by
  have t:∀{k:Hp},(∀b∈f,k b=none)->∀b∈f,gH (iy X N scope h3.objs.size {s2 with heap:=h3 } H3 f) [] k b:=λhn b a=>by
   obtain⟨g0,g1,g2,g3,g4,g5⟩:=f3 b a
   refine⟨hn b a,Nat.ne_of_lt (rO b a),λz=>?_,.inl a,λx c e=>?_,λp hp=>absurd (show p∈([]:List (Addr × Obj))from hp) (by simp)⟩
   .rcases List.mem_cons.mp (F.yJ b z)with z|z
    .exact g1 z
    .exact g2 z
   .have e:(cellsFrom (h3.objs.size+1) scope.names (fW X.env.cells scope.names [])).lookup x=some c:=e
    rw[rN,wZ]at e
    split at e
    .rename_i z
     cases e
     exact λy=>absurd (Nat.le_trans (ck.empty x c (PySem.mem_of_lookup z)).2 (y▸Nat.le_of_lt (rO b a))) (Nat.not_succ_le_self _)
    .rcases um e with q|q
     .simp at q
     .exact g4 x c q
  refine acU (λn G=>∃i V k,Inv (iy X N scope h3.objs.size {s2 with heap:=h3 } H3 f) [] V k G/\tn i G.heap/\(∀b∈f,k b=none)/\W i n V k) ?_ m0 ⟨0,gh src σ,H3,I4,yQ,λb a=>(f3 b a).1,w0⟩
  rintro n s5 ⟨i,B,Y,I5,iW,vh,w5⟩
  rcases turn i n B Y w5 with⟨stop,qn⟩|⟨go,step⟩
  .refine bJ (T.done (iy X N scope h3.objs.size {s2 with heap:=h3 } H3 f) rfl rfl rfl hc i [] s5 B Y (λ_ _=>False) I5 (t vh) iW stop) λr s6 ⟨hr,K⟩=>?_
   subst hr
   obtain⟨mC,hnC,_⟩:=id K.loc
   have I7:Inv X pins σ Y s6:=F.call' (ch:=f) K.os K.base K.hok K.bare λb a=>by
    obtain⟨g0,g1,g2,g3,g4,g5⟩:=f3 b a
    exact⟨g3,g1,g4,g5⟩
   refine hRR D h3.objs.size Y s6 mC I7 K.free (Nat.ne_of_gt F.lt) F.sz (λx c e z=>?_) (λp hp z=>?_) hnC qn
   .obtain⟨v,q⟩:=F.cell x c e
    exact absurd q.lt (by rw[z]; exact Nat.lt_irrefl _)
   .exact absurd (Heap.lt_size (F.pin p hp).1) (by rw[z]; exact Nat.lt_irrefl _)
  .refine bJ (T.item (iy X N scope h3.objs.size {s2 with heap:=h3 } H3 f) rfl rfl rfl hc i [] s5 B Y (λ_ _=>False) I5 (t vh) iW go) λr s6 ⟨u,hr,h6⟩=>?_
   subst hr
   refine bJ h6 λ_ s7 ⟨x,H7,I7,r7,y7,Z,J5⟩=>?_
   have J6:=I7.pinned (t J5) (T.obj _ _ Z)
   refine bJ (hg _ _ _ _ _ s7 B H7 x u _ J6 r7 (step x H7 y7)) λ_ s8 ⟨j,H8,I8,q8⟩=>?_
   refine bJ (hq _ _ _ _ _ s8 j H8 _ I8 q8) λbb s8' ⟨Vg,Ft,Fv⟩=>?_
   cases bb with
   |false =>
    rw[if_neg (by decide)]at Fv ⊢
    obtain⟨m',hm,w9⟩:=Fv
    refine⟨m',hm,i+1,j,Vg,Ft.wV (pins:=[]),T.keep _ _ _ Z λb a o e=>(Ft.pin (b,o) (List.mem_append_right _ (List.mem_append_right _ (ud a e)))).1,λb a=>?_,w9⟩
    obtain⟨o,e,d⟩:=T.obj _ _ Z b a
    exact(Ft.pin (b,o) (List.mem_append_right _ (List.mem_append_right _ (ud a e)))).2.1
   |true =>
   rw[if_pos rfl]at Fv ⊢
   refine bJ (he _ _ _ _ _ s8' j Vg _ Ft Fv) λyv s9 ⟨y,H9,I9,r9,q9⟩=>?_
   obtain⟨xs,e9,l9,m',hm,w9⟩:=q9
   refine bJ (nu (X:=iy X N scope h3.objs.size {s2 with heap:=h3 } H3 f) _ s9 j H9 (.ref D) [y] (.ref D) [yv] (λ_ k=>W (i+1) m' j k) I9 rfl (.cons r9 .nil) ⟨D,xs,y,rfl,rfl,e9,l9,w9⟩) λ_ dg ⟨_,J7,vB,_,J8⟩=>?_
   refine⟨m',hm,i+1,j,J7,vB.wV (pins:=[]),T.keep _ _ _ Z λb a o e=>(vB.pin (b,o) (List.mem_append_right _ (List.mem_append_right _ (ud a e)))).1,λb a=>?_,J8⟩
   obtain⟨o,e,d⟩:=T.obj _ _ Z b a
   exact(vB.pin (b,o) (List.mem_append_right _ (List.mem_append_right _ (ud a e)))).2.1
 exact codeAny_compStart_list loop (T.self _ _ _ _ _ yQ loop)
theorem Lf(a:X.env.scope=sc)(i:X.N=No)(S:vA sc No N src scope)(j:X.calm=true)
  (hi:PI X tg iter wi) (n:∀C s H ex,PG (iy X N scope C s H ex) tg g) (p:∀C s H ex,PT (iy X N scope C s H ex) zW tc) (he:∀C s H ex,PE (iy X N scope C s H ex) elt te)
  (u:∀x,foldedSetIterable iter X.env x=pure x:=by intro _; rfl):PE X (.ListComp elt [⟨tg,iter,[zW],0⟩] scope pos) (vO wi g src tc te):=by
 refine⟨λpins s σ H Q I h=>?_⟩
 rw[eval_ListComp]
 have d:closureFor scope X.env=pure (fW X.env.cells scope.names []):=Ec λy l e=>by
  have k:=S.free y l e
  rw[<-a]at k
  obtain⟨c,q⟩:=I.ok.has y.1 k
  rw[q]; rfl
 refine wpAny_comprehension_free (use:=none) rfl u d S.kind S.names (acV (RR:=λacc C=>compPost (model X.prog X.w) X.A X.xe none (EP X pins σ Q) acc C) a i S j hi n p he I h ?_)
 intro D C r t m v n1 z B n4 n5 E q
 refine⟨m,E,λG f=>⟨.ref D,r,?_,rfl,q⟩⟩
 exact v.turned (t':=t.toks) (λb o F e=>(f.2 b F).trans e) n1 (Ne.symm (Ne.symm z)) (.inr B) n4 n5
end
def oX:Sl->Sl
 |.dp _=>.un
 |s=>s
def fQ(src:List (Option Nat))(ρ : En):En:=src.map λo=>match o with
 |some j=>oX ((ρ[j]?).getD .un)
 |none=>.un
def cN:List (Option Nat)->En->En->En
 |some j::src,.ow ts::ρi,ρ=>cN src ρi (dD j ts ρ)
 |some j::src,.rf ts::ρi,ρ=>cN src ρi (dD j ts ρ)
 |_::src,_::ρi,ρ=>cN src ρi ρ
 |_,_,ρ=>ρ
def oY:Option Sl->Bool
 |some (.ow _)=>true
 |some (.rf _)=>true
 |_=>false
def fZ:List (Option Nat)->En->En->Bool
 |some j::src,s::ρi,ρ=>(!oY ρ[j]? || oY (some s))&&fZ src ρi ρ
 |none::src,_::ρi,ρ=>fZ src ρi ρ
 | [],_,_=>true
 |_,[],_=>false
theorem Vh:oY ρ[i]?=true↔Mu ρ i:=by
 constructor
 .intro h
  unfold oY at h
  split at h <;> rename_i q
  .exact⟨_,.inl q⟩
  .exact⟨_,.inr q⟩
  .cases h
 .rintro⟨a,h|h⟩ <;> rw[h] <;> rfl
theorem Fw:∀{src:List (Option Nat)} {a ρ : En} {k j:Nat},fZ src a ρ = true->src[k]?=some (some j)->Mu ρ j->Mu a k
 | [],_,_,_,_,_,h,_=>by simp at h
 |some e::src,s::a,ρ,k,j,h,b,m=>by
  unfold fZ at h
  rw[Bool.and_eq_true]at h
  cases k with
  |zero =>
   simp at b
   subst b
   have d:=h.1
   rw[Vh.mpr m]at d
   cases s with
   |un=>cases d
   |sh _=>cases d
   |dp _=>cases d
   |ow c=>exact⟨c,.inl rfl⟩
   |rf c=>exact⟨c,.inr rfl⟩
  |succ k =>
   obtain⟨c,q⟩:=Fw (k:=k) h.2 (by simpa using b) m
   exact⟨c,by simpa using q⟩
 |none::src,s::a,ρ,k,j,h,b,m=>by
  unfold fZ at h
  cases k with
  |zero=>simp at b
  |succ k =>
   obtain⟨c,q⟩:=Fw (k:=k) h (by simpa using b) m
   exact⟨c,by simpa using q⟩
 |some e::src,[],ρ,k,j,h,b,m=>by unfold fZ at h; cases h
 |none::src,[],ρ,k,j,h,b,m=>by unfold fZ at h; cases h
def Inj(src:List (Option Nat)):Prop:=∀(k k' j:Nat),src[k]?=some (some j)->src[k']?=some (some j)->k=k'
theorem qF(h:(src.filterMap id).Nodup):Inj src:=by
 induction src with
 |nil=>intro k a j b; simp at b
 |cons o src d =>
  have tail:Inj src:=by
   cases o with
   |none=>exact d (by simpa using h)
   |some j=>exact d (by simpa using(List.nodup_cons.mp (by simpa using h)).2)
  intro k a j b c
  have no:∀{m:Nat},o=some j->src[m]?=some (some j)->False:=λ{m} e q=>by
   subst e
   have n:=(List.nodup_cons.mp (show(j::src.filterMap id).Nodup by simpa using h)).1
   exact n (List.mem_filterMap.mpr ⟨some j,List.mem_of_getElem? q,rfl⟩)
  cases k with
  |zero =>
   have f:o=some j:=by simpa using b
   cases a with
   |zero=>rfl
   |succ a=>exact(no f (by simpa using c)).elim
  |succ k =>
   cases a with
   |zero=>exact(no (by simpa using c) (by simpa using b)).elim
   |succ a=>rw[tail k a j (by simpa using b) (by simpa using c)]
theorem Vi(h:j≠i):(dD i ts ρ)[j]?=ρ[j]? := by
 unfold dD
 split
 .exact List.getElem?_set_ne (Ne.symm h)
 .exact List.getElem?_set_ne (Ne.symm h)
 .rfl
theorem acW(h : ρ[i]?=ρ'[i]?):(dD i ts ρ)[i]?=(dD i ts ρ')[i]? := by
 unfold dD
 rw[h]
 cases q : ρ'[i]? with
 |none=>dsimp only; rw[h,q]
 |some s =>
  have a:=(List.getElem?_eq_some_iff.mp q).1
  have l:=(List.getElem?_eq_some_iff.mp (h.trans q)).1
  cases s with
  |un=>dsimp only; rw[h,q]
  |sh _=>dsimp only; rw[h,q]
  |dp _=>dsimp only; rw[h,q]
  |ow _=>dsimp only; rw[vJ l,vJ a]
  |rf _=>dsimp only; rw[vJ l,vJ a]
theorem uK:∀(src:List (Option Nat)) (a ρ : En),(cN src a ρ).length = ρ.length
 | [],a,ρ=>by unfold cN; rfl
 |o::src,[],ρ=>by cases o <;> (unfold cN; rfl)
 |none::src,s::a,ρ=>by unfold cN; exact uK src a ρ
 |some j::src,.un::a,ρ=>by unfold cN; exact uK src a ρ
 |some j::src,.sh _::a,ρ=>by unfold cN; exact uK src a ρ
 |some j::src,.dp _::a,ρ=>by unfold cN; exact uK src a ρ
 |some j::src,.ow b::a,ρ=>by unfold cN; rw[uK src a,K6]
 |some j::src,.rf b::a,ρ=>by unfold cN; rw[uK src a,K6]
theorem oZ:∀{src:List (Option Nat)} {a ρ : En} {j:Nat} {s:Sl},Inj src->(cN src a ρ)[j]?=some s ->
  (∃(k:Nat) (ts:List Tr),src[k]?=some (some j)/\(a[k]?=some (.ow ts)\/a[k]?=some (.rf ts))/\(dD j ts ρ)[j]?=some s)\/((∀k:Nat,src[k]?=some (some j)->¬Mu a k)/\ρ[j]?=some s)
 | [],a,ρ,j,s,_,h=>by
  unfold cN at h
  exact .inr ⟨λk q=>by simp at q,h⟩
 |o::src,[],ρ,j,s,_,h=>by
  have h : ρ[j]?=some s:=by cases o <;> (unfold cN at h; exact h)
  refine .inr ⟨λk _ m=>?_,h⟩
  obtain⟨_,q|q⟩:=m <;> simp at q
 |o::src,x::a,ρ,j,s,I,h=>by
  have It:Inj src:=λk g j l p=>by
   have:=I (k+1) (g+1) j (by simpa using l) (by simpa using p)
   omega
  have keep:(o=none\/oY (some x)=false)->(cN src a ρ)[j]?=some s->(∃(k:Nat) (ts:List Tr),(o::src)[k]?=some (some j)/\((x::a)[k]?=some (.ow ts)\/(x::a)[k]?=some (.rf ts))/\(dD j ts ρ)[j]?=some s)\/((∀k:Nat,(o::src)[k]?=some (some j)->¬Mu (x::a) k)/\ρ[j]?=some s):=λc h=>by
   rcases oZ It h with⟨k,ts,q1,q2,d⟩|⟨n,q⟩
   .exact .inl ⟨k+1,ts,by simpa using q1,by simpa using q2,d⟩
   .refine .inr ⟨λk b m=>?_,q⟩
    cases k with
    |zero =>
     rcases c with c|c
     .subst c; simp at b
     .rw[<-Vh]at m
      have m:oY (some x)=true:=m
      rw[c]at m
      cases m
    |succ k =>
     obtain⟨ts,m⟩:=m
     exact n k (by simpa using b) ⟨ts,by simpa using m⟩
  have put:∀(i:Nat) (ts:List Tr),o=some i->(x=.ow ts\/x=.rf ts)->(cN src a (dD i ts ρ))[j]?=some s->(∃(k:Nat) (ts:List Tr),(o::src)[k]?=some (some j)/\((x::a)[k]?=some (.ow ts)\/(x::a)[k]?=some (.rf ts))/\(dD j ts ρ)[j]?=some s)\/((∀k:Nat,(o::src)[k]?=some (some j)->¬Mu (x::a) k)/\ρ[j]?=some s):=λi ts f ex h=>by
   rcases oZ It h with⟨k,r,q1,q2,d⟩|⟨n,q⟩
   .have ne:j≠i:=λz=>by
     subst z
     have:=I 0 (k+1) j (by simpa using f) (by simpa using q1)
     omega
    refine .inl ⟨k+1,r,by simpa using q1,by simpa using q2,?_⟩
    rw[<-acW (Vi ne)]
    exact d
   .by_cases e:j=i
    .subst e
     refine .inl ⟨0,ts,by simpa using f,?_,q⟩
     rcases ex with rfl|rfl
     .exact .inl rfl
     .exact .inr rfl
    .rw[Vi e]at q
     refine .inr ⟨λk b m=>?_,q⟩
     cases k with
     |zero =>
      rw[f]at b
      simp at b
      exact e b.symm
     |succ k =>
      obtain⟨ts,m⟩:=m
      exact n k (by simpa using b) ⟨ts,by simpa using m⟩
  cases o with
  |none=>unfold cN at h; exact keep (.inl rfl) h
  |some i =>
   cases x with
   |un=>unfold cN at h; exact keep (.inr rfl) h
   |sh _=>unfold cN at h; exact keep (.inr rfl) h
   |dp _=>unfold cN at h; exact keep (.inr rfl) h
   |ow ts=>unfold cN at h; exact put i ts rfl (.inl rfl) h
   |rf ts=>unfold cN at h; exact put i ts rfl (.inr rfl) h
theorem zX{src:List (Option Nat)}{k:Nat}(h:(fQ src ρ)[k]?=some s)(n:s ≠ .un):∃j,src[k]?=some (some j)/\ρ[j]?=some s:=by
 unfold fQ at h
 rw[List.getElem?_map]at h
 cases q:src[k]? with
 |none=>rw[q]at h; cases h
 |some o =>
  rw[q]at h
  cases o with
  |none=>cases h; exact(n rfl).elim
  |some j =>
   refine⟨j,rfl,?_⟩
   have h:oX ((ρ[j]?).getD .un)=s:=Option.some.inj h
   cases z : ρ[j]? with
   |none=>rw[z]at h; exact(n h.symm).elim
   |some a =>
    rw[z]at h
    cases a <;> first|exact congrArg some h|exact(n h.symm).elim
theorem Fx{src:List (Option Nat)}{k:Nat}{ts:List Tr}(h:(fQ src ρ)[k]?=some (.dp ts)):False:=by
 unfold fQ at h
 rw[List.getElem?_map]at h
 cases q:src[k]? with
 |none=>rw[q]at h; cases h
 |some o =>
  rw[q]at h
  cases o with
  |none=>cases h
  |some j =>
   have h:oX ((ρ[j]?).getD .un)=.dp ts:=Option.some.inj h
   cases z:(ρ[j]?).getD Sl.un <;> rw[z]at h <;> cases h
theorem nY{src:List (Option Nat)}{j:Nat}{ts:List Tr}(I:Inj src)(h:(cN src ρi ρ)[j]?=some (.dp ts)) : ρ[j]?=some (.dp ts):=by
 rcases oZ I h with⟨k,a,_,_,q⟩|⟨_,q⟩
 .exact vK q
 .exact q
theorem Lg{src:List (Option Nat)}{k j:Nat}(h:src[k]?=some (some j)):(gh src σ)[k]?=some ((σ[j]?).join):=by
 unfold gh
 rw[List.getElem?_map,h]
 rfl
def OU(src:List (Option Nat))(ρ : En)(σ : St)(F:Nat->List Addr)(b:Addr):Prop:=(∃j:Nat,Mu ρ j/\σ[j]?=some (some (.ref b))/\∀k:Nat,src[k]? ≠ some (some j))\/∃(j:Nat) (ts:List Tr),ρ[j]?=some (.dp ts)/\b∈F j
open Classical in
def iK(t:Tx)(src:List (Option Nat))(ρ : En)(σ : St)(F:Nat->List Addr)(H1:Hp)(D:Addr)(xs:List V):Tx:=⟨t.K,t.Z,t.R,t.H0,λb=>if b=D then some (.lst xs)else if OU src ρ σ F b then H1 b else t.B b,λ_=>False⟩
section
variable {t:Tx}{src:List (Option Nat)}{ρ1:En}{σ : St}{F:Nat->List Addr}{H1:Hp}{D:Addr}{W:Addr->Prop}
theorem qG{xs:List V}:(iK t src ρ1 σ F H1 D xs).B D=some (.lst xs):=if_pos rfl
theorem uL{xs:List V}(a:b≠D)(c:¬OU src ρ1 σ F b):(iK t src ρ1 σ F H1 D xs).B b=t.B b:=by
 unfold iK
 dsimp only
 rw[if_neg a,if_neg c]
theorem uM{xs:List V}(a:b≠D)(c:OU src ρ1 σ F b):(iK t src ρ1 σ F H1 D xs).B b=H1 b:=by
 unfold iK
 dsimp only
 rw[if_neg a,if_pos c]
theorem Lh{k:Nat}(h:Mu (fQ src ρ1) k):∃j,src[k]?=some (some j)/\Mu ρ1 j:=by
 obtain⟨c,q|q⟩:=h
 .obtain⟨j,a,b⟩:=zX q (by intro z; cases z)
  exact⟨j,a,c,.inl b⟩
 .obtain⟨j,a,b⟩:=zX q (by intro z; cases z)
  exact⟨j,a,c,.inr b⟩
theorem Li{k j:Nat}(h:src[k]?=some (some j))(q:(gh src σ)[k]?=some (some v)) : σ[j]?=some (some v):=by
 rw[Lg h]at q
 have q:=Option.some.inj q
 cases z : σ[j]? with
 |none=>rw[z]at q; cases q
 |some o =>
  rw[z]at q
  have q:o=some v:=q
  rw[q]
theorem zY{k j:Nat}(h:src[k]?=some (some j))(q : σ[j]?=some (some v)):(gh src σ)[k]?=some (some v):=by
 rw[Lg h,q]
 rfl
theorem OU.tab(c:EOF t W ρ1 σ H1 F)(z:Tb t.K b):¬OU src ρ1 σ F b:=by
 rintro(⟨j,m,q,_⟩|⟨j,e,f,y⟩)
 .obtain⟨g,h⟩:=aO.K7 ⟨F,c⟩ m q
  exact c.tab.ok.ne z h rfl
 .obtain⟨a,g,_,d⟩:=c.dp j e f
  exact d.nt c.tab.ok z y
theorem acX{xs:List V}(a:EOF t W ρ1 σ H1 F)(c:H1 D=none)(z:Tb t.K b):(iK t src ρ1 σ F H1 D xs).B b=none:=by
 have d:b≠D:=λy=>by
  obtain⟨e,h⟩:=a.tab.ok.eE z
  rw[y,c]at h
  cases h
 rw[uL d (OU.tab a z)]
 exact a.tab.B b z
theorem EOF.enter(I:Inj src)(p:EOF t W ρ1 σ H1 F)(n:H1 D=none):aO (iK t src ρ1 σ F H1 D []) (λb=>W b\/b=D) (fQ src ρ1) (gh src σ) (upd H1 D (.lst [])):=by
 have g:aO t W ρ1 σ H1:=⟨F,p⟩
 have d:=(g.hide (gD n (.lst [])) n dM).ok
 have l:=d.tab
 refine⟨λ_=>[],?_,d.zw,d.z0,d.wl,d.f0,d.n0,λk u h=>?_,λk f h=>?_,λk f h=>?_,λk x a m1 y q1 q2=>?_,λb o h=>?_,λk a m q=>?_,λk f h=>(Fx h).elim,λk _ f _ _ h=>(Fx h).elim,λk _ f _ h=>(Fx h).elim,λk f h=>(Fx h).elim,⟨l.ok,l.w,l.r,λb z=>acX p n z⟩⟩
 .unfold fQ gh
  rw[List.length_map,List.length_map]
 .obtain⟨j,c,e⟩:=zX h (by intro z; cases z)
  obtain⟨v,q1,q2⟩:=d.sh j u e
  exact⟨v,zY c q1,q2⟩
 .obtain⟨j,c,e⟩:=zX h (by intro z; cases z)
  obtain⟨a,s,q1,q2⟩:=d.ow j f e
  exact⟨a,s,zY c q1,q2⟩
 .obtain⟨j,c,e⟩:=zX h (by intro z; cases z)
  obtain⟨a,s,q1,q2⟩:=d.rf j f e
  exact⟨a,s,zY c q1,q2⟩
 .obtain⟨j,c,n1⟩:=Lh m1
  obtain⟨i,e,A⟩:=Lh y
  have:=d.dis j i a n1 A (Li c q1) (Li e q2)
  subst this
  exact I k x j c e
 .by_cases c:b=D
  .subst c
   rw[qG]at h
   rw[dM]
   exact h
  .by_cases e:OU src ρ1 σ F b
   .rw[uM c e]at h
    rw[bA c]
    exact h
   .rw[uL c e]at h
    exact d.pn b o h
 .obtain⟨j,c,n1⟩:=Lh m
  have q:=Li c q
  have B:=g.addr n1 q
  have C:a≠D:=λz=>by subst z; exact g.wn a B n
  have E:¬OU src ρ1 σ F a:=by
   rintro(⟨i,G,H,J⟩|⟨i,f,K,z⟩)
   .have:=g.dis j i a n1 G q H
    subst this
    exact J k c
   .exact p.dm i j f a K n1 q z
  rw[uL C E]
  exact g.pd j a n1 q
theorem aO.Vj(e:aO (iK t src ρ1 σ F H1 D xs) W' ρ τ H)(w:W' D)(h0:t.H0 D=none):aO (iK t src ρ1 σ F H1 D ys) W' ρ τ (upd H D (.lst ys)):=by
 have ne:∀i a,Mu ρ i -> τ[i]?=some (some (.ref a))->a≠D:=λi a m q z=>by
  subst z
  have:=e.pd i a m q
  rw[qG]at this
  cases this
 obtain⟨v,e⟩:=e
 have x:∀i c,ρ[i]?=some (Sl.dp c)->∀b∈v i,b≠D:=λi c h b g z=>by
  subst z
  have:=e.db i c h b g
  rw[qG]at this
  cases this
 refine⟨v,e.len,e.zw,e.z0,λb z=>?_,λb o h n=>?_,λb h=>?_,λi u h=>?_,λi c h=>?_,λi c h=>?_,e.dis,λb o h=>?_,λi a m q=>?_,λi c h=>?_,e.dd,e.dm,λi c h b g=>?_,⟨e.tab.ok.upd (e.pn D _ qG),e.tab.w,e.tab.r,λb z=>?_⟩⟩
 .by_cases q:b=D
  .subst q; exact .inl ⟨ys,dM⟩
  .unfold Lt; rw[bA q]; exact e.wl b z
 .rw[bA]
  .exact e.f0 b o h n
  .rintro rfl
   have h:t.H0 b=some o:=h
   rw[h0]at h
   cases h
 .by_cases q:b=D
  .subst q; exact h0
  .rw[bA q]at h; exact e.n0 b h
 .rw[lM w]
  exact e.sh i u h
 .obtain⟨a,zs,q1,q2,l,p,s⟩:=e.ow i c h
  rw[lM w]
  exact⟨a,zs,q1,q2,l,by rw[bA (ne i a ⟨c,.inl h⟩ q1)]; exact p,s⟩
 .obtain⟨a,zs,q1,q2,l,p,s⟩:=e.rf i c h
  rw[lM w]
  exact⟨a,zs,q1,q2,l,by rw[bA (ne i a ⟨c,.inr h⟩ q1)]; exact p,s⟩
 .by_cases k:b=D
  .subst k
   rw[qG]at h
   rw[dM]
   exact h
  .rw[bA k]
   refine e.pn b o ?_
   by_cases f:OU src ρ1 σ F b
   .rw[uM k f]at h ⊢; exact h
   .rw[uL k f]at h ⊢; exact h
 .have j:=ne i a m q
  have z:=e.pd i a m q
  by_cases f:OU src ρ1 σ F a
  .rw[uM j f]at z ⊢; exact z
  .rw[uL j f]at z ⊢; exact z
 .obtain⟨a,zs,q1,d⟩:=e.dp i c h
  exact⟨a,zs,q1,d.move rfl rfl (by rw[lM w]; exact Same.refl _) (λb g=>by obtain⟨_,_,_,ww,_⟩:=d; exact(ww b g).1) λb o g q=>by rw[bA (x i c h b g)]; exact q⟩
 .have j:=x i c h b g
  have z:=e.db i c h b g
  by_cases f:OU src ρ1 σ F b
  .rw[uM j f]at z ⊢; exact z
  .rw[uL j f]at z ⊢; exact z
 .have y:=e.tab.B b z
  have j:b≠D:=λq=>by
   subst q
   rw[qG]at y
   cases y
  by_cases f:OU src ρ1 σ F b
  .rw[uM j f]at y ⊢; exact y
  .rw[uL j f]at y ⊢; exact y
theorem EOF.leave{xs:List V}{Wx:Addr->Prop}{js:List Nat}(I:Inj src)(G:EOF t W ρ1 σ H1 F)(N:H1 D=none)(e:aO (iK t src ρ1 σ F H1 D xs) (λb=>W b\/b=D) ρ τ H)(nx:∀b o,¬W b->H1 b=some o->H b=some o)
  (U:∀k j:Nat,src[k]?=some (some j)->k∉js) (X:∀k,k∉js -> τ[k]?=(gh src σ)[k]?) (Y:fZ src ρ ρ1=true) (C:∀b,W b->Wx b) (P:∀b,Wx b->W b\/b=D):EOF t Wx (cN src ρ ρ1) σ H F:=by
 have l:aO t W ρ1 σ H1:=⟨F,G⟩
 have m1:Same (aK W H1) (aK Wx H):=λb o h=>by
  obtain⟨n,h⟩:=iZ h
  rw[eG]
  .exact nx b o n h
  .intro z
   rcases P b z with z|rfl
   .exact n z
   .rw[N]at h; cases h
 have T:Same (aK (λb=>W b\/b=D) H) (aK Wx H):=qg (λb _ _ z=>P b z) λ_ _ _ h=>h
 have O:∀j,Mu (cN src ρ ρ1) j->Mu ρ1 j:=λj m=>by
  obtain⟨f,m|m⟩:=m <;> rcases oZ I m with⟨k,L,q1,q2,s⟩|⟨n,q⟩
  .exact qC ⟨f,.inl s⟩
  .exact⟨f,.inl q⟩
  .exact qC ⟨f,.inr s⟩
  .exact⟨f,.inr q⟩
 have inner:∀(k j:Nat) (f:List Tr) (a:Addr),src[k]?=some (some j)->(ρ[k]?=some (.ow f)\/ρ[k]?=some (.rf f)) -> σ[j]?=some (some (.ref a))->∃i,H a=some (.lst i)/\aN t.K (aK Wx H) i f:=λk j f a q1 q2 s=>by
  have z:=X k (U k j q1)
  rw[zY q1 s]at z
  rcases q2 with q2|q2
  .obtain⟨c,i,g,p,x,y,A⟩:=e.ow k f q2
   rw[z]at g
   cases g
   exact⟨i,y,A.mono T⟩
  .obtain⟨c,i,g,p,x,y,A⟩:=e.rf k f q2
   rw[z]at g
   cases g
   exact⟨i,y,A.mono T⟩
 have outer:∀(j:Nat) (a:Addr) (i:List V),Mu ρ1 j->(∀k,src[k]?=some (some j)->¬Mu ρ k) -> σ[j]?=some (some (.ref a))->H1 a=some (.lst i)->H a=some (.lst i):=λj a i m n q h=>by
  have Z:=l.addr m q
  have M:a≠D:=λz=>by subst z; exact l.wn a Z N
  refine e.pn a _ ?_
  rw[uM M (.inl ⟨j,m,q,λk z=>n k z (Fw Y z m)⟩)]
  exact h
 refine⟨by rw[uK]; exact l.len,λb z=>C b (l.zw b z),l.z0,λb z=>e.wl b (P b z),e.f0,e.n0,λj u h=>?_,λj f h=>?_,λj f h=>?_,λj k a n1 n2=>l.dis j k a (O j n1) (O k n2),λb o h=>?_,λj a m=>l.pd j a (O j m),λj f h=>?_,λj k f L n g p=>G.dd j k f L n (nY I g) (nY I p),λj k f c g m q=>G.dm j k f c (nY I g) (O k m) q,λj f h=>G.db j f (nY I h),⟨e.tab.ok,λb z=>C b (l.tab.w b z),l.tab.r,l.tab.B⟩⟩
 .have h' : ρ1[j]?=some (.sh u):=by
   rcases oZ I h with⟨k,L,q1,q2,s⟩|⟨n,q⟩
   .rcases qD s with⟨ne,_⟩|⟨_,⟨_,_,z⟩|⟨_,_,z⟩|⟨_,q⟩⟩
    .exact(ne rfl).elim
    .cases z
    .cases z
    .exact q
   .exact q
  obtain⟨v,q1,q2⟩:=l.sh j u h'
  exact⟨v,q1,q2.mono m1⟩
 .rcases oZ I h with⟨k,L,q1,q2,s⟩|⟨n,q⟩
  .rcases qD s with⟨ne,_⟩|⟨_,⟨E,Q,z⟩|⟨_,_,z⟩|⟨nm,q⟩⟩
   .exact(ne rfl).elim
   .cases z
    obtain⟨a,i,g,p,x,y,A⟩:=l.ow j E Q
    obtain⟨zs,R,S⟩:=inner k j f a q1 q2 g
    exact⟨a,zs,g,C a p,x,R,S⟩
   .cases z
   .exact(nm ⟨f,.inl q⟩).elim
  .obtain⟨a,i,g,p,x,y,A⟩:=l.ow j f q
   exact⟨a,i,g,C a p,x,outer j a i ⟨f,.inl q⟩ n g y,A.mono m1⟩
 .rcases oZ I h with⟨k,L,q1,q2,s⟩|⟨n,q⟩
  .rcases qD s with⟨ne,_⟩|⟨_,⟨_,_,z⟩|⟨E,Q,z⟩|⟨nm,q⟩⟩
   .exact(ne rfl).elim
   .cases z
   .cases z
    obtain⟨a,i,g,p,x,y,A⟩:=l.rf j E Q
    obtain⟨zs,R,S⟩:=inner k j f a q1 q2 g
    exact⟨a,zs,g,C a p,x,R,S⟩
   .exact(nm ⟨f,.inr q⟩).elim
  .obtain⟨a,i,g,p,x,y,A⟩:=l.rf j f q
   exact⟨a,i,g,C a p,x,outer j a i ⟨f,.inr q⟩ n g y,A.mono m1⟩
 .have M:b≠D:=λz=>by
   subst z
   rw[l.Fb N]at h
   cases h
  have nO:¬OU src ρ1 σ F b:=by
   rintro(⟨j,m,q,_⟩|⟨j,f,d',z⟩)
   .rw[l.pd j b m q]at h
    cases h
   .rw[G.db j f d' b z]at h
    cases h
  refine e.pn b o ?_
  rw[uL M nO]
  exact h
 .have hd:=nY I h
  obtain⟨a,i,q1,d⟩:=G.dp j f hd
  have ww:∀b∈F j,W b:=λb J=>by obtain⟨_,_,_,ww,_⟩:=d; exact(ww b J).1
  refine⟨a,i,q1,d.move rfl rfl m1 (λb J=>C b (ww b J)) λb o J q=>?_⟩
  have M:b≠D:=λz=>by subst z; exact l.wn b (ww b J) N
  refine e.pn b o ?_
  rw[uM M (.inr ⟨j,f,hd,J⟩)]
  exact q
end
def mQ:Rv->Rs Tr
 |.v T _=>.ok T
 |.s _=>.bad
theorem Lj(r:Rv)(c:Str):mQ r ≠ .ex c:=by cases r <;> (intro z; cases z)
def jm(g:GF)(c:BF)(f:EF):List Tr->En->Rs (List Tr × En)
 | [],ρ=>.ok ([],ρ)
 |u::us,ρ=>(g u ρ).bind λρ1=>(c ρ1).bind λb=>if b.1=true then(f b.2).bind λp=>(mQ p.1).bind λT=>(jm g c f us p.2).bind λz=>.ok (T::z.1,z.2)else jm g c f us b.2
def dG(src:List (Option Nat))(fi:IF)(g:GF)(c:BF)(f:EF):EF:=λρ=>(fi ρ).bind λp=>if p.1.length<=100000 then(dF (jm g c f p.1 (fQ src p.2))).bind λz=>if fZ src z.2 p.2=true then .ok (.v (.lst z.1) true,cN src z.2 p.2)else .bad else .bad
theorem Vk{src:List (Option Nat)}{js:List Nat}(hi:SI t wi fi)(I:Inj src)(hj:∀k j:Nat,src[k]?=some (some j)->k∉js)(ng:∀T ρ c,gf T ρ ≠ .ex c)
  (hg:∀t':Tx,t'.K=t.K->(∀c,¬t'.EX c)->SG t' g gf js) (hc:∀t':Tx,t'.K=t.K->(∀c,¬t'.EX c)->ST t' tc c) (he:∀t':Tx,t'.K=t.K->(∀c,¬t'.EX c)->SE t' te f):SE t (vO wi g src tc te) (dG src fi gf c f):=λW ρ σ H Q e h=>by
 refine hi W ρ σ H _ e (Rs.bF (Rs.aX h) λp h J H1 P s1 it=>?_)
 obtain⟨u,d⟩:=p
 dsimp only at h it P
 split at h
 case isFalse=>exact h.elim
 rename_i hlen
 intro D A
 have h:=zV (Rs.aX h)
 obtain⟨F,R⟩:=id P
 have wD:∀b,W b->b≠D:=λb w z=>by subst z; exact P.wn b w A
 have uN:t.H0 D=none:=P.n0 D A
 refine⟨λi m S E=>m=u.length-i/\i<=u.length/\∃N l acc,aO (iK t src d σ F H1 D l) (λb=>W b\/b=D) N S E/\aN t.K (aK (λb=>W b\/b=D) E) l acc/\l.length<=i/\(∀b o,¬W b->H1 b=some o->E b=some o)/\(∀k,k∉js -> S[k]?=(gh src σ)[k]?) /\
   (jm gf c f (u.drop i) N).post (λ_=>False) (λz=>(if fZ src z.2 d=true then .ok (.v (.lst (acc++z.1)) true,cN src z.2 d)else .bad:Rs (Rv × En)).post t.EX (λp=>∀v E,aO t W p.2 σ E->bV W H E->jh t W p.2 σ H E v p.1->Q v E)),?_,?_⟩
 .refine⟨u.length,by simp,Nat.zero_le _,fQ src d,[],[],R.enter I A,.nil,Nat.le_refl _,λb o _ q=>?_,λ_ _=>rfl,?_⟩
  .rw[bA (iV q A)]; exact q
  .rw[List.drop_zero]; exact h
 .rintro i m S G ⟨rfl,hi,n,l,acc,L,X,l2,M,a2,B⟩
  have sm:Same (aK W H1) (aK (λb=>W b\/b=D) G):=λb o q=>by
   obtain⟨nw,q⟩:=iZ q
   rw[eG]
   .exact M b o nw q
   .rintro(z|rfl)
    .exact nw z
    .rw[A]at q; cases q
  have q:=it _ G sm L.wl i
  by_cases C:i<u.length
  .rw[List.drop_eq_getElem_cons C]at B
   obtain⟨go,y⟩:=q.2 u[i] (by simp[C])
   refine .inr ⟨go,λx Y yl=>?_⟩
   obtain⟨s3,r3⟩:=y x Y yl
   have e3:=L.grow s3
   refine hg (iK t src d σ F H1 D l) rfl (λ_=>id) _ n S Y x u[i] _ e3 r3 (Rs.bF (kj (Rs.aX B) (ng _ _)) λZ h O e4 a4=>?_)
   refine hc (iK t src d σ F H1 D l) rfl (λ_=>id) _ Z O Y _ e4 (Rs.bF (Rs.aX h) λb h H5 e5 s5=>?_)
   have iW:bV (λb=>W b\/b=D) G H5:=(bV.of s3).trans s5
   have n5:∀b o,¬W b->H1 b=some o->H5 b=some o:=λb o nw qb=>by
    have V:b≠D:=iV qb A
    refine iW.keep b o ?_ (M b o nw qb)
    rintro(z|z)
    .exact nw z
    .exact V z
   have a5:=λk nk=>(a4 k nk).trans (a2 k nk)
   split at h
   .rename_i cb
    rw[if_pos cb]
    refine he (iK t src d σ F H1 D l) rfl (λ_=>id) _ b.2 O H5 _ e5 (Rs.bF (Rs.aX h) λp h v H6 e6 s6 v6=>?_)
    obtain⟨T,kT,h⟩:=dW (Rs.aX h) (Lj _)
    have rv:Rep t.K (aK (λb=>W b\/b=D) H6) v T:=by
     obtain⟨r,ρ7⟩:=p
     cases r with
     |s i=>cases kT
     |v U fr =>
      cases kT
      exact fP.rep (K:=t.K) e5.wn v6.1
    refine⟨l,e6.pn D _ qG,Nat.lt_of_le_of_lt (show l.length<=100000 by omega) (by decide),u.length-(i+1),by omega,rfl,C,p.2,l++[v],acc++[T],e6.Vj (.inr rfl) uN,?_,by rw[List.length_append]; simp; omega,λb o nw q=>?_,a5,?_⟩
    .rw[lM (.inr rfl)]
     exact(X.mono (iW.trans s6).off).app (.cons rv .nil)
    .have V:b≠D:=iV q A
     rw[bA V]
     refine s6.keep b o ?_ (n5 b o nw q)
     rintro(z|z)
     .exact nw z
     .exact V z
    .refine Rs.bF (Rs.aX h) λz h=>?_
     rw[List.append_assoc]
     exact h
   .rename_i cb
    rw[if_neg cb]
    exact⟨u.length-(i+1),by omega,rfl,C,b.2,l,acc,e5,X.mono iW.off,by omega,n5,a5,h⟩
  .have z:i=u.length:=by omega
   subst z
   rw[List.drop_length]at B
   have B:(if fZ src n d=true then .ok (.v (.lst (acc++[])) true,cN src n d)else .bad:Rs (Rv × En)).post t.EX _:=B
   refine .inl ⟨q.1 rfl,?_⟩
   split at B
   .rename_i so
    rw[List.append_nil]at B
    have hxs:G D=some (.lst l):=L.pn D _ qG
    have eW:aO t W (cN src n d) σ G:=⟨F,R.leave (Wx:=W) I A L M hj a2 so (λ_ w=>w) λ_ w=>.inl w⟩
    have eD:qm t W D (cN src n d) σ G:=⟨F,R.leave (Wx:=λb=>W b\/b=D) I A L M hj a2 so (λ_ w=>.inl w) λ_ w=>w,λi ts hi z=>by
     obtain⟨c,ys,_,bs,_,_,ww,_⟩:=R.dp i ts (nY I hi)
     exact wD D (ww D z).1 rfl⟩
    have st:bV W H1 G:=⟨M,λb q=>by
     cases z:H1 b with
     |none=>rfl
     |some o =>
      by_cases w:W b
      .exact((L.wl b (.inl w)).ne q).elim
      .rw[M b o w z]at q
       cases q⟩
    refine B (.ref D) G eW (s1.trans st) ⟨⟨D,l,acc,rfl,rfl,s1.dom D A,hxs,X.mono λb o q=>?_⟩,λU a _ ea=>?_⟩
    .obtain⟨nb,q⟩:=iZ q
     rw[off_ne λz=>nb (.inr z),eG λz=>nb (.inl z)]
     exact q
    .cases ea
     exact eD
   .exact B.elim
def cO:BF:=λρ=>.ok (true,ρ)
theorem Vl:uo wi g src te=vO wi g src (λ_ H Q=>Q true H) te:=by
 funext σ H Q
 simp only[uo,vO,if_true]
theorem Aa(hi:SI t wi fi)(I:Inj src)(a:∀k j:Nat,src[k]?=some (some j)->k∉js)(b:∀T ρ c,gf T ρ ≠ .ex c)
  (d:∀t':Tx,t'.K=t.K->(∀c,¬t'.EX c)->SG t' g gf js) (he:∀t':Tx,t'.K=t.K->(∀c,¬t'.EX c)->SE t' te f):SE t (uo wi g src te) (dG src fi gf cO f):=by
 rw[Vl]
 exact Vk hi I a b d (λt' _ _ W ρ σ H Q e h=>h H e (bV.refl _ _)) he
theorem PS.iC{X:Cx}{st:Stmt}{t:TS}(h:PS X.iC st t):PS X st t:=⟨λpins s σ H D I hw =>
 wpAny_mono (h pins s σ H D (I.wish _) hw) (λ_ _ q=>q.tZ) λ_ _ z=>False.elim z⟩
theorem aO.ex(e:aO t W ρ σ H):aO {t with EX:=EX } W ρ σ H:=e.elim λF e=>⟨F,e.len,e.zw,e.z0,e.wl,e.f0,e.n0,e.sh,e.ow,e.rf,e.dis,e.pn,e.pd,e.dp,e.dd,e.dm,e.db,⟨e.tab.ok,e.tab.w,e.tab.r,e.tab.B⟩⟩
theorem aO.Fy(e:aO {t with EX:=EX } W ρ σ H):aO t W ρ σ H:=e.elim λF e=>⟨F,e.len,e.zw,e.z0,e.wl,e.f0,e.n0,e.sh,e.ow,e.rf,e.dis,e.pn,e.pd,e.dp,e.dd,e.dm,e.db,⟨e.tab.ok,e.tab.w,e.tab.r,e.tab.B⟩⟩
def bL(f:SF):SF:=λρ=>dF (f ρ)
theorem uO(h:∀t':Tx,t'.K=t.K->(∀c,¬t'.EX c)->SS t' ts f):SS t ts (bL f):=λW i σ H D e q=>by
 refine h {t with EX:=λ_=>False } rfl (λ_=>id) W i σ H D e.ex (Rs.bF (zV q) λp q=>?_)
 obtain⟨fl,j⟩:=p
 cases fl with
 |nx=>exact λb a d g n=>q b a d g.Fy n
 |rt T fr =>
  refine λv b a d g n=>q v b a d g.Fy ?_
  cases fr <;> exact n
 |bk=>exact λb a d g n=>q b a d g.Fy n
 |ct=>exact λb a d g n=>q b a d g.Fy n
theorem acY(a b:Tr)(c:Str):gI p a b ≠ .ex c:=by
 cases a <;> cases b <;> (intro z; cases z)
theorem Ln(a b:Tr)(c:Str):fD q p a b ≠ .ex c:=by
 cases a <;> cases b <;> first|(intro z; cases z; done)|(dsimp only[fD]; split <;> (intro z; cases z))
theorem Lp(a b:Tr)(c:Str):gB p a b ≠ .ex c:=by
 cases a <;> cases b <;> (intro z; cases z)
theorem acZ(a b:Tr)(c:Str):bT a b ≠ .ex c:=by unfold bT; split <;> (intro z; cases z)
theorem ac0(a b:Tr)(c:Str):gq a b ≠ .ex c:=by unfold gq; split <;> (intro z; cases z)
theorem ac1(a b:Tr)(c:Str):jP f a b ≠ .ex c:=by
 cases b <;> first|(intro z; cases z; done)|(dsimp only[jP]; split <;> (intro z; cases z))
theorem ac2(a b:Tr)(c:Str):nH f a b ≠ .ex c:=by
 cases b <;> (intro z; cases z)
theorem ac3(a b:Tr)(c:Str):cC a b ≠ .ex c:=by
 cases a <;> cases b <;> first|(intro z; cases z; done)|(dsimp only[cC]; split <;> (intro z; cases z))
theorem ac4(a b:Tr)(c:Str):cV a b ≠ .ex c:=by
 cases a <;> cases b <;> first|(intro z; cases z; done)|(dsimp only[cV]; split <;> (intro z; cases z))
theorem ac5(a b:Tr)(c:Str):cL a b ≠ .ex c:=Ln a b c
theorem ac6(a b:Tr)(c:Str):cj a b ≠ .ex c:=Ln a b c
theorem ac7(a b:Tr)(c:Str):lN a b ≠ .ex c:=Ln a b c
theorem ac8(a b:Tr)(c:Str):jo a b ≠ .ex c:=acY a b c
theorem ac9(a b:Tr)(c:Str):jq a b ≠ .ex c:=Lp a b c
theorem Lr(a b:Tr)(c:Str):fG a b ≠ .ex c:=Lp a b c
theorem ada(a b:Tr)(c:Str):j5 a b ≠ .ex c:=Lp a b c
theorem Vm(a b:Tr)(c:Str):gW a b ≠ .ex c:=by
 cases a <;> cases b <;> first|(intro z; cases z; done)|(dsimp only[gW]; split <;> (intro z; cases z))
theorem adb(a b:Tr)(c:Str):aB a b ≠ .ex c:=by
 cases a <;> cases b <;> first|(intro z; cases z; done)|(dsimp only[aB]; split <;> first|(intro z; cases z; done)|(split <;> (intro z; cases z)))
theorem ade(a:Tr)(c:Str):rW a ≠ .ex c:=by cases a <;> (intro z; cases z)
theorem adf(a:Tr)(c:Str):bx a ≠ .ex c:=by
 cases a <;> first|(intro z; cases z; done)|(dsimp only[bx]; split <;> (intro z; cases z))
theorem adg(a:Tr)(c:Str):lQ a ≠ .ex c:=by cases a <;> (intro z; cases z)
theorem adh(a:Tr)(c:Str):lR a ≠ .ex c:=by cases a <;> (intro z; cases z)
theorem adi(a:Tr)(c:Str):kW a ≠ .ex c:=by cases a <;> (intro z; cases z)
theorem adk(a:Tr)(c:Str):gG a ≠ .ex c:=by
 cases a <;> first|(intro z; cases z; done)|(dsimp only[gG]; split <;> (intro z; cases z))
theorem d7(T:Tr)(ρ : En)(c:Str):gN i T ρ ≠ .ex c:=by intro z; cases z
theorem Ab(Ts:List Tr)(ρ : En)(c:Str):fO Ts ρ ≠ .ex c:=by cases Ts <;> (intro z; cases z)
theorem sH(b:∀T ρ c,f T ρ ≠ .ex c)(d:∀T ρ c,g T ρ ≠ .ex c)(Ts:List Tr)(ρ : En)(c:Str):bZ f g Ts ρ ≠ .ex c:=by
 cases Ts with
 |nil=>intro z; cases z
 |cons T r=>exact acT (b T ρ) (λa=>d r a) c
theorem Ac(h:∀T ρ c,f T ρ ≠ .ex c)(T:Tr)(ρ : En)(c:Str):gT n f T ρ ≠ .ex c:=by
 cases T <;> first|(intro z; cases z; done)|(dsimp only[gT]; split <;> first|exact h _ _ _|(intro z; cases z))
def Ad(f:AF)(n:Nat):Prop:=∀ρ p,f ρ=.ok p->p.1.length=n
theorem gw:Ad au 0:=λa p h=>by cases h; rfl
theorem cB(h:Ad g n):Ad (ak f g) (n+1):=λc p q=>by
 obtain⟨a,q1,q⟩:=jk q
 obtain⟨b,q2,q⟩:=jk q
 cases q
 rw[List.length_cons,h _ _ q2]
def Gk(K:FZ)(mg:Str->Option Value)(x:Str)(v:V)(T:Tr):Prop:=∃u,mg x=some u/\RelV v u/\∀H,Rep (aJ K) H v T
theorem adl(h:Gk X.K X.mg x v T)(a:Gl X x:=by rfl)(hd:(x == ("__debug__" : Str))=false:=by decide):PE X (.Name x pos) (tC v):=by
 obtain⟨u,b,c,_⟩:=h
 exact aap a b c hd
theorem Ls{t:Tx}{K:FZ}{mg:Str->Option Value}{x:Str}{v:V}{T:Tr}(a:t.K=aJ K)(h:Gk K mg x v T):SE t (tC v) (eC T):=by
 obtain⟨u,_,_,h⟩:=h
 exact zA λH=>by rw[a]; exact h H
section
variable {t:Tx}{K:FZ}{ta tb tc:TE}{fa fb fc:EF}
theorem adn(a:t.K=aJ K)(b:SE t ta fa)(c:SE t tb fb):SE t (gU (KQ K) ta tb) (aq cC fa fb):=mJ (by rw[a]; exact ab4) ac3 b c
theorem Vn(a:t.K=aJ K)(b:SE t ta fa)(c:SE t tb fb):SE t (gU (jB λi j=>.int (i-j)) ta tb) (aq jo fa fb):=mJ (by rw[a]; exact ab9) ac8 b c
theorem Vo(a:t.K=aJ K)(b:SE t ta fa)(c:SE t tb fb):SE t (gU (KR K) ta tb) (aq cV fa fb):=mJ (by rw[a]; exact ab5 (K:=K)) ac4 b c
theorem Lw(a:t.K=aJ K)(b:SE t ta fa)(c:SE t tb fb):SE t (gU (rI Er λi j=>.int (i.fdiv j)) ta tb) (aq cL fa fb):=mJ (by rw[a]; exact ab6) ac5 b c
theorem ado(a:t.K=aJ K)(b:SE t ta fa)(c:SE t tb fb):SE t (gU (rI (λ_ j=>j≠0) λi j=>.int (i.fmod j)) ta tb) (aq cj fa fb):=mJ (by rw[a]; exact ab7) ac6 b c
theorem adp(a:t.K=aJ K)(b:SE t ta fa)(c:SE t tb fb):SE t (gU (rI JH λi j=>.int (i ^ j.toNat)) ta tb) (aq lN fa fb):=mJ (by rw[a]; exact ab8) ac7 b c
theorem x_eq(a:t.K=aJ K)(b:SE t ta fa)(c:SE t tb fb):SE t (gU (Kd K) ta tb) (aq bT fa fb):=mJ (by rw[a]; exact abZ) acZ b c
theorem Ae(a:t.K=aJ K)(b:SE t ta fa)(c:SE t tb fb):SE t (gU (KD K) ta tb) (aq gq fa fb):=mJ (by rw[a]; exact ab0) ac0 b c
theorem adq(a:t.K=aJ K)(b:SE t ta fa)(c:SE t tb fb):SE t (gU (Kf K) ta tb) (aq (jP id) fa fb):=mJ (by rw[a]; exact ab1) ac1 b c
theorem adt(a:t.K=aJ K)(b:SE t ta fa)(c:SE t tb fb):SE t (gU (λx y H Q=>y=.non/\Q (.bl (decide (x=.non))) H) ta tb) (aq (nH id) fa fb):=mJ (by rw[a]; exact ab3) ac2 b c
theorem x_lt(a:t.K=aJ K)(b:SE t ta fa)(c:SE t tb fb):SE t (gU (KZ K) ta tb) (aq gW fa fb):=mJ (by rw[a]; exact UJ) Vm b c
theorem adu(a:t.K=aJ K)(b:SE t ta fa)(c:SE t tb fb):SE t (gU (jB λi j=>.bl (decide (j<i))) ta tb) (aq jq fa fb):=mJ (by rw[a]; exact acd) ac9 b c
theorem x_ge(a:t.K=aJ K)(b:SE t ta fa)(c:SE t tb fb):SE t (gU (jB λi j=>.bl (decide (j<=i))) ta tb) (aq j5 fa fb):=mJ (by rw[a]; exact ace) ada b c
theorem eH(a:t.K=aJ K)(b:SE t ta fa)(c:SE t tb fb):SE t (gU (rM K) ta tb) (aq aB fa fb):=mJ (by rw[a]; exact UL) adb b c
theorem Vp(d:t.K=aJ K)(o:iG (aJ K) r g)(e:iG (aJ K) r' g')(n:∀a b c,g a b ≠ .ex c)(f:∀a b c,g' a b ≠ .ex c)(h:SE t ta fa)(i:SE t tb fb)(j:SE t tc fc):SE t (Dv r r' ta tb tc) (rY g g' fa fb fc):=acq (by rw[d]; exact o) (by rw[d]; exact e) n f h i j
theorem Vq(a:SE t ta fa):SE t (Dm (rU λi=>.int (-i)) ta) (zJ rW fa):=acf UW ade a
variable {tl:TA}{fl:AF}
theorem x_len(a:t.K=aJ K)(b:SA t tl fl):SE t (m8 (K4 K) tl) (aZ (g1 bx) fl):=zK (by rw[a]; exact zM acv) (zL adf) b
theorem adv(a:t.K=aJ K)(b:SA t tl fl):SE t (m8 (λxs H Q=>∃i,xs=[.int i]/\Q (.int (if i<0 then -i else i)) H) tl) (aZ (g1 lQ) fl):=zK (by rw[a]; exact zM acw) (zL adg) b
theorem adw(a:t.K=aJ K)(b:SA t tl fl):SE t (m8 (λxs H Q=>(∃i,xs=[.int i]/\Q (.int i) H)\/∃k,xs=[.bl k]/\Q (.int (if k then 1 else 0)) H) tl) (aZ (g1 lR) fl):=zK (by rw[a]; exact zM acy) (zL adh) b
theorem Fz(a:t.K=aJ K)(b:SA t tl fl):SE t (m8 (λxs H Q=>∃p ys,xs=[.ref p]/\(bH K H p ys\/fL K H p ys)/\∀l,H l=none->Q (.ref l) (upd H l (.lst ys))) tl) (aZ (g1 kW) fl):=zK (by rw[a]; exact zM acz) (zL adi) b
theorem Ly(a:t.K=aJ K)(b:SA t tl fl):SE t (m8 (Km K) tl) (aZ (g1 gG) fl):=zK (by rw[a]; exact zM acA) (zL adk) b
theorem kY(b:t.K=aJ K)(d:∀c a,F0 t a->t.EX c->E (.ref (cl c)) none a)(e:Ad fl n)(f:SA t tl fl):SE t (rH (aV K cl n F) [] E tl) (aR F fl):=Ve b d e f
theorem lV(a:t.K=aJ K)(b:∀c,¬t.EX c)(d:Ad fl n)(e:SA t tl fl):SE t (rH (aV K cl n F) [] E tl) (aR F fl):=Ve a (λc f _ q=>(b c q).elim) d e
theorem adx(i:Nat)(h:SE t te f):SE t (DW K "list" JX (iJ i) (mG te uf)) (fY i dX (ak f au)):=Vc i acK acM (bh h bU)
theorem ady(i:Nat):SE t (yN K "list" J0 (iJ i)) (zR i vL):=acJ i acL acN
end
def sI(i:Nat)(ρ : En):Nat:=match ρ[i]? with
 |some (.sh (.int n))=>n.natAbs+1
 |_=>0
theorem qH{src:List (Option Nat)}{js:List Nat}(h:js.all (λk=>(src[k]?).join.isNone)=true):∀k j:Nat,src[k]?=some (some j)->k∉js:=λk j q m=>by
 have:=List.all_eq_true.mp h k m
 rw[q]at this
 cases this
abbrev uP:List Value:=[.type "ValueError",.type "Exception",.type "BaseException",.type "object"]
theorem aN.rev{K:FZ}{H:Hp}:∀{xs:List V} {ts:List Tr},aN K H xs ts->aN K H xs.reverse ts.reverse
 |_,_,.nil=>.nil
 |_,_,.cons h r=>by
  rw[List.reverse_cons,List.reverse_cons]
  exact(aN.rev r).app (.cons h .nil)
def vP(i:Int):TE:=λ_ H Q=>Q (.int i) H
def kI:Const->Option Int
 |.int i=>some i
 |_=>none
def bI(o:Operator)(i j:Int):Option Int:=match o with
 |.Sub=>some (i-j)
 |.Add=>some (i+j)
 |.Pow=>if 0<=j/\j<=100/\i.natAbs<=1000 then some (i ^ j.toNat)else none
 |_=>none
def uI(o:UnaryOp)(i:Int):Option Int:=match o with
 |.USub=>some (-i)
 |_=>none
def cI:Expr->Option Int
 |.Constant c _ _=>kI c
 |.UnaryOp o e _=>(cI e).bind (uI o)
 |.BinOp a o b _=>(cI a).bind λi=>(cI b).bind λj=>bI o i j
 |_=>none
theorem adz(h:kI c=some i):PE X (.Constant c k p) (vP i):=by
 cases c <;> first|(cases h; exact aL)|cases h
theorem adA(h:uI o i=some k)(he:PE X e (vP i)):PE X (.UnaryOp o e p) (vP k):=by
 cases o <;> first|(cases h; exact(Dn Ds he).imp λσ H Q q=>⟨i,rfl,q⟩)|cases h
theorem adB(h:bI o i j=some k)(d:PE X a (vP i))(e:PE X b (vP j)):PE X (.BinOp a o b p) (vP k):=by
 cases o <;> try cases h
 .exact(bG Ss d e).imp λσ H Q q=>⟨i,j,rfl,rfl,q⟩
 .exact(bG vm d e).imp λσ H Q q=>⟨i,j,rfl,rfl,q⟩
 .dsimp only[bI]at h
  split at h
  .rename_i c
   cases h
   exact(bG Dr d e).imp λσ H Q q=>⟨i,j,rfl,rfl,⟨c.1,by omega,by omega⟩,q⟩
  .cases h
theorem FJ(e:Expr)(k:Int)(h:cI e=some k):PE X e (vP k):=by
 cases e with
 |Constant c _ _=>exact adz h
 |UnaryOp o a _ =>
  have h:(cI a).bind (uI o)=some k:=h
  cases d:cI a with
  |none=>rw[d]at h; cases h
  |some i=>rw[d]at h; exact adA h (FJ a i d)
 |BinOp a o b _ =>
  have h:((cI a).bind λi=>(cI b).bind λj=>bI o i j)=some k:=h
  cases d:cI a with
  |none=>rw[d]at h; cases h
  |some i =>
   cases f:cI b with
   |none=>rw[d,f]at h; cases h
   |some j=>rw[d,f]at h; exact adB h (FJ a i d) (FJ b j f)
 |_=>cases h
def kT:Const->Option Tr
 |.none=>some .non
 |.bool b=>some (.bl b)
 |.str x=>some (.str x)
 |.int i=>some (.int i)
 |_=>none
mutual
noncomputable def cT:Expr->Option Tr
 |.Constant c _ _=>kT c
 |.Tuple es _ _=>(nZ es).map .tup
 |.List es _=>(nZ es).map .lst
 |.UnaryOp o a p=>(cI (.UnaryOp o a p)).map .int
 |.BinOp a o b p=>(cI (.BinOp a o b p)).map .int
 |_=>none
noncomputable def nZ:List Expr->Option (List Tr)
 | []=>some []
 |e::r=>match cT e,nZ r with
  |some T,some Ts=>if Ts.length<1000 then some (T::Ts)else none
  |_,_=>none
end
theorem FN:∀{a:List Expr} {Ts:List Tr},nZ a=some Ts->Ts.length<=1000
 | [],Ts,h=>by
  cases h
  decide
 |e::r,Ts,h=>by
  unfold nZ at h
  split at h
  .split at h
   .cases h
    rename_i b
    rw[List.length_cons]
    omega
   .cases h
  .cases h
section
variable {X:Cx}{e:Expr}{es:List Expr}{T:Tr}{Ts:List Tr}{pos:Pos}{k:Nat}{G:FZ}
theorem adC:PA X [] (xr G []):=aG.imp λσ H Q q=>q [] H (Same.refl _) λ_ _=>.nil
theorem adD(h:PE X e (uy G T))(r:PA X es (xr G Ts))(a:starEach (e::es) X.env=(false,eval e X.env)::starEach es X.env):PA X (e::es) (xr G (T::Ts)) :=
 (iY h r a).imp λσ H Q q v H1 s1 b c d s2 rs=>q (v::c) d (s1.trans s2) λPr p=>.cons ((b Pr p).mono (p.mono s2)) (rs Pr (p.le s1))
theorem Vr(h:PA X es (xr G Ts))(d:Ts.length<=1000):PE X (.Tuple es k pos) (uy G (.tup Ts)) :=
 (pK h).imp λσ H Q q f H1 s1 rs=>by
  by_cases c:f.length<=sizeLine
  .exact⟨c,λa b=>q (.ref a) _ (s1.trans (gD b _)) λPr p=>.tup (fL.of ((p.le s1).new (Same.refl _) b)) ((rs Pr p).mono (p.mono (gD b _)))⟩
  .exact absurd (Nat.le_of_lt (J1 (by rw[(rs _ (Pj.id H)).length]; exact d))) c
theorem Vs(h:PA X es (xr G Ts))(b:Ts.length<=1000):PE X (.List es pos) (Ei G Ts) :=
 (iM h).imp λσ H Q q c H1 s1 rs=>by
  have e:=(rs _ (Pj.id H)).length
  exact⟨Nat.le_of_lt (J1 (by rw[e]; exact b)),λa d=>q a c H1 s1 d rs e⟩
theorem adE(h:PE X e (Ei G Ts)):PE X e (uy G (.lst Ts)) :=
 h.imp λσ H Q q a c H1 s1 b rs _=>q (.ref a) _ (s1.trans (gD b _)) λPr p=>.lst (bH.of ((p.le s1).new (Same.refl _) b)) ((rs Pr p).mono (p.mono (gD b _)))
theorem Vt(h:(cI e).map Tr.int=some T):PE X e (uy G T):=by
 cases a:cI e with
 |none=>rw[a]at h; cases h
 |some i =>
  rw[a]at h; cases h
  exact(FJ e i a).imp λσ H Q q=>q _ H (Same.refl _) λ_ _=>.int i
end
theorem adF(h:cT e=some T):starEach (e::es) env=(false,eval e env)::starEach es env:=by
 cases e <;> first|rfl|(unfold cT at h; cases h)
theorem adG(h:kT c=some T):PE X (.Constant c k p) (uy G T):=by
 cases c <;> try cases h
 .exact wN.imp λσ H Q q=>q _ H (Same.refl _) λ_ _=>.non
 .exact lF.imp λσ H Q q=>q _ H (Same.refl _) λ_ _=>.bl _
 .exact aL.imp λσ H Q q=>q _ H (Same.refl _) λ_ _=>.int _
 .exact jK.imp λσ H Q q=>q _ H (Same.refl _) λ_ _=>.str _
mutual
theorem adH(e:Expr)(T:Tr)(h:cT e=some T):PE X e (uy G T):=by
 cases e with
 |Constant c _ _=>exact adG (by unfold cT at h; exact h)
 |Tuple d _ _ =>
  unfold cT at h
  cases e:nZ d with
  |none=>rw[e]at h; cases h
  |some f =>
   rw[e]at h
   cases h
   exact Vr (Af d f e) (FN e)
 |List d _ =>
  unfold cT at h
  cases e:nZ d with
  |none=>rw[e]at h; cases h
  |some f =>
   rw[e]at h
   cases h
   exact adE (Vs (Af d f e) (FN e))
 |UnaryOp o a p=>exact Vt (by unfold cT at h; exact h)
 |BinOp a o b p=>exact Vt (by unfold cT at h; exact h)
 |_=>unfold cT at h; cases h
theorem Af:∀(c:List Expr) (Ts:List Tr),nZ c=some Ts->PA X c (xr G Ts)
 | [],Ts,h=>by
  unfold nZ at h; cases h
  exact adC
 |e::r,Ts,h=>by
  unfold nZ at h
  cases a:cT e with
  |none=>rw[a]at h; cases h
  |some T =>
   cases b:nZ r with
   |none=>rw[a,b]at h; cases h
   |some d =>
    rw[a,b]at h
    dsimp only at h
    split at h
    .cases h
     exact adD (adH e T a) (Af r d b) (adF a)
    .cases h
end
theorem Lz(h:nZ es=some Ts):PE X (.List es pos) (Ei G Ts):=Vs (Af es Ts h) (FN h)
theorem sJ(h:nZ es=some Ts):PE X (.Tuple es k pos) (uy G (.tup Ts)):=Vr (Af es Ts h) (FN h)
theorem Pj.aK(hw:∀b,W b->H b≠none):Pj (L2.aK W) H where
 mono:=λs=>(bV.of s).off
 sub:=λH=>iR W H
 new:=λ{a r o} s h=>by
  rw[eG λw=>hw r w (s.free h)]
  exact dM
def sO(Ts:List Tr):EF:=λρ=>.ok (.v (.lst Ts) true,ρ)
theorem LC{t:Tx}{K:FZ}(a:t.K=aJ K){T:Tr}:SE t (uy (aJ K) T) (eC T):=λW c σ H Q e h=>λv b s r=>by
 rw[<-a]at r
 exact h v b (e.grow s) (bV.of s) (.low (r _ (Pj.aK e.wn)))
theorem Vu{t:Tx}{K:FZ}(f:t.K=aJ K){Ts:List Tr}:SE t (Ei (aJ K) Ts) (sO Ts):=λW g σ H Q e h=>λa i H1 s c r _=>by
 rw[<-f]at r
 have d:=e.grow s
 exact h _ _ (d.grow (gD c _)) ((bV.of s).trans (bV.of (gD c _))) ((jh.of (σ' := σ) d (gD c _) (fP.new c (r _ (Pj.aK e.wn)))).back λb q=>s.free q)
def Ah:Expr->Bool
 |.ListComp .. => false
 |.SetComp .. => false
 |.DictComp .. => false
 |_=>true
theorem LK(h:Ah e=true):swapsWith e t l env=pure false:=by
 cases e <;> first|rfl|(unfold Ah at h; cases h)
section
variable {X:Cx}{x:Str}{e:Expr}{es:List Expr}{te:TE}{ta:TA}{pos pos' p:Pos}{k:Nat}{ps:List Str}{sp:Sp}{E:XK}
theorem ao(i:Nat)(a:X.N[i]?=some x:=by kernel_rfl)(b:X.env.scope.names.lookup x=some .local:=by kernel_rfl)(hd:(x == ("__debug__" : Str))=false:=by kernel_rfl) (c:(x == ("__classdict__" : Str))=false:=by kernel_rfl):PE X (.Name x pos) (iJ i):=Js a (.inl b) hd c
theorem f9(i:Nat)(a:X.N[i]?=some x:=by kernel_rfl)(b:X.env.scope.names.lookup x=some .cell:=by kernel_rfl)(hd:(x == ("__debug__" : Str))=false:=by kernel_rfl) (c:(x == ("__classdict__" : Str))=false:=by kernel_rfl):PE X (.Name x pos) (iJ i):=Js a (.inr (.inl b)) hd c
theorem pvF(i:Nat)(a:X.N[i]?=some x:=by kernel_rfl)(b:X.env.scope.names.lookup x=some .free:=by kernel_rfl)(hd:(x == ("__debug__" : Str))=false:=by kernel_rfl) (c:(x == ("__classdict__" : Str))=false:=by kernel_rfl):PE X (.Name x pos) (iJ i):=Js a (.inr (.inr b)) hd c
theorem cF(i:Nat)(b:X.N.Nodup)(he:PE X e te)(hi:X.N[i]?=some x:=by kernel_rfl)(a:X.env.scope.names.lookup x=some .local:=by kernel_rfl)(h:Ah e=true:=by kernel_rfl):PS X (.Assign [.Name x pos'] e pos) (m6 te (dN i)):=R6 b hi (.inl a) he (LK h) (.inr a)
theorem FQ(i:Nat)(a:X.N.Nodup)(hf:X.fn x=true)(he:PE X e te)(hi:X.N[i]?=some x:=by kernel_rfl)(b:X.env.scope.names.lookup x=some .cell:=by kernel_rfl)(h:Ah e=true:=by kernel_rfl):PS X (.Assign [.Name x pos'] e pos) (m6 te (dN i)):=R6 a hi (.inr b) he (LK h) (.inl hf)
theorem FT{K:FZ}(b:PE X e te)(c:X.K=K)(he:∀whole,isTrue e X.env whole=(do let v <-whole; standAt e.pos; holding [v] (truthy v))):PT X e (λσ H Q=>te σ H λx a=>∃k,wX K x a k/\Q k a):=c▸iw b he
theorem psE(he:PE X e te)(h:Ah e=true:=by kernel_rfl):PS X (.Expr e pos) (vf te):=aau he (LK h)
theorem cH(i:Nat)(b:X.N.Nodup)(hi:X.N[i]?=some x:=by kernel_rfl)(a:X.env.scope.names.lookup x=some .local:=by kernel_rfl):PG X (.Name x pos) (dN i):=R3 b hi (.inl a) (.inr a)
theorem Ai(i:Nat)(a:X.N.Nodup)(hf:X.fn x=true)(hi:X.N[i]?=some x:=by kernel_rfl)(b:X.env.scope.names.lookup x=some .cell:=by kernel_rfl):PG X (.Name x pos) (dN i):=R3 a hi (.inr b) (.inl hf)
theorem Vv(D:aQ X.prog X.w X.K X.mg X.base k x ps sp)(c:gQ k X.A)(d:Passes (j4 X.prog X.w) X E)(f:PA X (e::es) ta)(g:X.env.kindOf x=some .globalImplicit:=by kernel_rfl)(a:(x == ("__debug__" : Str))=false:=by kernel_rfl)
  (he:notStar e=true:=by kernel_rfl) (b:(backTo pos (starEach es X.env)).any (·.1)=false:=by kernel_rfl):PE X (.Call (.Name x p) (e::es) [] pos) (rH sp [] E ta):=acS D c d f g a (ux he) b
theorem cW{r:List V->Hp->VK->Prop}{id:String}(c:jX X (.builtin id) r)(hm:X.mg x=none)(d:PA X (e::es) ta)(f:bootBuiltins x=some (.builtin id):=by decide +kernel)(g:X.env.kindOf x=some .globalImplicit:=by kernel_rfl)(h:x ≠ "__name__" := by decide +kernel) (a:(x == ("__debug__" : Str))=false:=by kernel_rfl)
  (he:notStar e=true:=by kernel_rfl) (b:(backTo pos (starEach es X.env)).any (·.1)=false:=by kernel_rfl):PE X (.Call (.Name x p) (e::es) [] pos) (m8 r ta):=S8 c g hm f d h a (ux he) b
theorem uQ(c:jX X (.type T) r)(hm:X.mg x=none)(d:PA X (e::es) ta)(f:bootBuiltins x=some (.type T):=by decide +kernel)(g:X.env.kindOf x=some .globalImplicit:=by kernel_rfl)(h:x ≠ "__name__" := by decide +kernel) (a:(x == ("__debug__" : Str))=false:=by kernel_rfl)
  (he:notStar e=true:=by kernel_rfl) (b:(backTo pos (starEach es X.env)).any (·.1)=false:=by kernel_rfl):PE X (.Call (.Name x p) (e::es) [] pos) (m8 r ta):=aaN c g hm f d h a (ux he) b
theorem kZ(d:Eh X.K)(c:Ty)(he:PE X e te)(f:X.mg "isinstance" = none) (g:X.mg x=none) (h:bootBuiltins x=some (.type c.name):=by decide +kernel) (a:X.env.kindOf "isinstance" = some .globalImplicit:=by kernel_rfl) (b:X.env.kindOf x=some .globalImplicit:=by kernel_rfl) (i:x ≠ "__name__" := by decide +kernel) (hd:(x == ("__debug__" : Str))=false:=by kernel_rfl)
  (j:notStar e=true:=by kernel_rfl):PE X (.Call (.Name "isinstance" p) [e,.Name x q] [] pos) (m8 (Ef X.K) (mG te (mG (tC (.ty c.name)) uf))):=abx d c he f g h a b i hd (ux j)
theorem aA(a:PE X e te)(b:PA X es t)(h:notStar e=true:=by kernel_rfl):PA X (e::es) (mG te t):=iY a b (ux h)
theorem Aj(h:Gk X.K X.mg x v T)(a:X.env.kindOf x=some .globalImplicit:=by kernel_rfl)(hd:(x == ("__debug__" : Str))=false:=by kernel_rfl):PE X (.Name x pos) (tC v):=adl h a hd
theorem lg(hm:X.mg "range" = none) (b:PA X [a] ta) (c:X.env.kindOf "range" = some .globalImplicit:=by kernel_rfl) (d:notStar a=true:=by kernel_rfl):PI X tg (.Call (.Name "range" p) [a] [] pos) (JD ta):=aaB c hm b (ux d)
end
section
variable {t:Tx}{W:Addr->Prop}{ρ : En}{σ : St}{H:Hp}
theorem DR.len{K:FZ}{G H:Hp}:∀{xs:List V} {ts:List Tr} {bs:List Addr},DR K G H xs ts bs->xs.length=ts.length
 |_,_,_,.nil=>rfl
 |_,_,_,.cl _ _ r=>by rw[List.length_cons,List.length_cons,r.len]
 |_,_,_,.rw _ _ r=>by rw[List.length_cons,List.length_cons,r.len]
theorem DR.reps{K:FZ}{G a H:Hp}(m:Same G a):∀{xs:List V} {ts:List Tr} {bs:List Addr},DR K G H xs ts bs->(∀b ys,b∈bs->H b=some (.lst ys)->a b=some (.lst ys))->aN K a xs ts
 |_,_,_,.nil,_=>.nil
 |_,_,_,.cl _ h r,k=>.cons (h.mono m) (DR.reps m r k)
 |_,_,_,.rw h q r,k=>.cons (.lst (bH.of (k _ _ (List.mem_cons_self ..) h)) (q.mono m)) (DR.reps m r λb ys c=>k b ys (List.mem_cons_of_mem _ c))
theorem DR.row{K:FZ}{G H:Hp}:∀{xs:List V} {ts:List Tr} {bs:List Addr} {k:Nat} {us:List Tr},DR K G H xs ts bs->ts[k]?=some (.lst us)->bs.Nodup->∃b ys,xs[k]?=some (.ref b)/\b∈bs/\H b=some (.lst ys)/\aN K G ys us /\
  ∀(a:List V) (d:List Tr),aN K G a d->DR K G (upd H b (.lst a)) xs (ts.set k (.lst d)) bs
 |_,_,_,_,_,.nil,h,_=>by simp at h
 |_,_,_,0,_,.cl n h r,e,nd=>by
  simp at e
  subst e
  cases n
 |_,_,_,0,us,.rw (b:=b) (ys:=ys) (us:=p) (xs:=xs) (ts:=ts) (bs:=bs) h q r,e,nd=>by
  have e:Tr.lst p=.lst us:=by simpa using e
  cases e
  refine⟨b,ys,rfl,List.mem_cons_self ..,h,q,λa d f=>?_⟩
  refine .rw dM f (r.move (Same.refl _) λc o s z=>?_)
  rw[bA (show c≠b from λy=>(List.nodup_cons.mp nd).1 (by rw[<-y]; exact s))]
  exact z
 |_,_,_,k+1,us,.cl n h r,e,nd=>by
  obtain⟨b,ys,i,g,j,l,m⟩:=DR.row (k:=k) r (by simpa using e) nd
  exact⟨b,ys,by simpa using i,g,j,l,λa d f=>.cl n h (m a d f)⟩
 |_,_,_,k+1,us,.rw (b:=c) h q r,e,nd=>by
  obtain⟨b,ys,i,g,j,l,m⟩:=DR.row (k:=k) r (by simpa using e) (List.nodup_cons.mp nd).2
  refine⟨b,ys,by simpa using i,List.mem_cons_of_mem _ g,j,l,λa d f=>.rw ?_ q (m a d f)⟩
  rw[bA λy=>(List.nodup_cons.mp nd).1 (by rw[y]; exact g)]
  exact h
def oh(ρ : En)(i:Nat):Rs (List Tr):=match ρ[i]? with
 |some (.dp ts)=>.ok ts
 |_=>.bad
theorem Vw(ρ : En)(i:Nat)(c:Str):oh ρ i ≠ .ex c:=by
 unfold oh
 split <;> (intro z; cases z)
theorem Vx(h:oh ρ i=.ok ts) : ρ[i]?=some (.dp ts):=by
 unfold oh at h
 split at h
 .rename_i q; cases h; exact q
 .cases h
theorem aO.putD{i k:Nat}{ts us:List Tr}(e:aO t W ρ σ H)(hi : ρ[i]?=some (.dp ts))(X:ts[k]?=some (.lst us)):∃a xs b ys,σ[i]?=some (some (.ref a))/\H a=some (.lst xs)/\xs.length=ts.length/\xs[k]?=some (.ref b)/\H b=some (.lst ys)/\aN t.K (aK W H) ys us /\
  ∀f g,aN t.K (aK W H) f g->aO t W (ρ.set i (.dp (ts.set k (.lst g)))) σ (upd H b (.lst f))/\bV W H (upd H b (.lst f))/\aK W (upd H b (.lst f))=aK W H:=by
 obtain⟨F,e⟩:=e
 obtain⟨a,xs,Q,d⟩:=e.dp i ts hi
 have d':=d
 obtain⟨bs,D,nd,ww,R,r⟩:=d
 rw[D]at nd
 have C:=List.nodup_cons.mp nd
 obtain⟨b,ys,Y,S,T,Z,k5⟩:=r.row X C.2
 have A:b∈F i:=by rw[D]; exact List.mem_cons_of_mem _ S
 have wb:=(ww b A).1
 have I:a≠b:=λz=>C.1 (z▸S)
 have lt:i < ρ.length:=(List.getElem?_eq_some_iff.mp hi).1
 refine⟨a,xs,b,ys,Q,R,r.len,Y,T,Z,λf g r'=>?_⟩
 have o:aK W (upd H b (.lst f))=aK W H:=lM wb
 have B:∀(j:Nat) (s:Sl),(ρ.set i (.dp (ts.set k (.lst g))))[j]?=some s->(j=i/\s=.dp (ts.set k (.lst g)))\/(j≠i/\ρ[j]?=some s):=λj s h=>by
  rcases get_set h with⟨p,J,_⟩|z
  .exact .inl ⟨p,J⟩
  .exact .inr z
 have E:∀j,Mu (ρ.set i (.dp (ts.set k (.lst g)))) j->j≠i/\Mu ρ j:=λj m=>by
  obtain⟨zs,q|q⟩:=m <;> rcases B _ _ q with⟨_,z⟩|⟨n,q⟩
  .cases z
  .exact⟨n,zs,.inl q⟩
  .cases z
  .exact⟨n,zs,.inr q⟩
 have ne:∀j c,Mu ρ j -> σ[j]?=some (some (V.ref c))->c≠b:=λj c m q z=>by
  subst z
  exact e.dm i j ts c hi m q A
 have G:∀(j:Nat) (zs:List Tr),(ρ.set i (.dp (ts.set k (.lst g))))[j]?=some (Sl.dp zs)->∃L,ρ[j]?=some (Sl.dp L):=λj zs h=>by
  rcases B _ _ h with⟨rfl,_⟩|⟨_,h⟩
  .exact⟨ts,hi⟩
  .exact⟨zs,h⟩
 refine⟨⟨F,by rw[List.length_set]; exact e.len,e.zw,e.z0,λc w=>?_,λc q h n=>?_,λc h=>?_,λj u h=>?_,λj zs h=>?_,λj zs h=>?_,λj l c m1 m2=>e.dis j l c (E j m1).2 (E l m2).2,λc q h=>?_,λj c m=>e.pd j c (E j m).2,λj zs h=>?_,λj l zs v n q1 q2=>?_,λj l zs c q1 m q=>?_,λj zs h=>?_,e.tab.upd T⟩,⟨λc q n h=>?_,λc h=>?_⟩,o⟩
 .by_cases z:c=b
  .subst z; exact .inl ⟨f,dM⟩
  .unfold Lt; rw[bA z]; exact e.wl c w
 .rw[bA]
  .exact e.f0 c q h n
  .rintro rfl
   rw[(ww c A).2]at h
   cases h
 .by_cases z:c=b
  .subst z; exact(ww c A).2
  .rw[bA z]at h; exact e.n0 c h
 .rw[o]
  rcases B _ _ h with⟨_,z⟩|⟨_,h⟩
  .cases z
  .exact e.sh j u h
 .rw[o]
  rcases B _ _ h with⟨_,z⟩|⟨_,h⟩
  .cases z
  .obtain⟨c,v,q1,q2,M,N,O⟩:=e.ow j zs h
   exact⟨c,v,q1,q2,M,by rw[bA (ne j c ⟨zs,.inl h⟩ q1)]; exact N,O⟩
 .rw[o]
  rcases B _ _ h with⟨_,z⟩|⟨_,h⟩
  .cases z
  .obtain⟨c,v,q1,q2,M,N,O⟩:=e.rf j zs h
   exact⟨c,v,q1,q2,M,by rw[bA (ne j c ⟨zs,.inr h⟩ q1)]; exact N,O⟩
 .rw[bA]
  .exact e.pn c q h
  .rintro rfl
   rw[e.db i ts hi c A]at h
   cases h
 .rcases B _ _ h with⟨rfl,z⟩|⟨nj,h⟩
  .cases z
   refine⟨a,xs,Q,bs,D,by rw[D]; exact nd,ww,by rw[bA I]; exact R,?_⟩
   rw[o]
   exact k5 f g r'
  .obtain⟨c,v,q1,U⟩:=e.dp j zs h
   refine⟨c,v,q1,U.move rfl rfl (by rw[o]; exact Same.refl _) (λx P=>by obtain⟨_,_,_,w2,_⟩:=U; exact(w2 x P).1) λx q P z=>?_⟩
   rw[bA (show x≠b from λy=>e.dd i j ts zs (Ne.symm nj) hi h b A (by rw[<-y]; exact P))]
   exact z
 .obtain⟨_,p⟩:=G j zs q1
  obtain⟨_,J⟩:=G l v q2
  exact e.dd j l _ _ n p J
 .obtain⟨_,p⟩:=G j zs q1
  exact e.dm j l _ c p (E l m).2 q
 .obtain⟨_,p⟩:=G j zs h
  exact e.db j _ p
 .rw[bA λz=>n (by rw[z]; exact wb)]; exact h
 .by_cases z:c=b
  .subst z; rw[dM]at h; cases h
  .rw[bA z]at h; exact h
end
abbrev QF:=En->Rs Tr
def SQ(t:Tx)(te:TE)(f:QF):Prop:=∀W ρ σ H Q,aO t W ρ σ H->(f ρ).post (λ_=>False) (λT=>∀v,Rep t.K (aK W H) v T->Q v H)->te σ H Q
section
variable {t:Tx}{K:FZ}
def sS(i:Nat):QF:=λρ=>match ρ[i]? with
 |some (.sh T)=>.ok T
 |_=>.bad
theorem FW(i:Nat):SQ t (iJ i) (sS i):=λW c σ H Q e h=>by
 unfold sS at h
 split at h
 .rename_i T q
  obtain⟨v,a,b⟩:=e.sh i T q
  exact⟨v,a,h v b⟩
 .exact h.elim
def oA(ts:List Tr)(k:Tr):Rs (Nat × Tr):=match k with
 | .int i=>(match iD ts.length i with
  | some j=>(match ts[j]? with
   |some u=>.ok (j,u)
   |none=>.bad)
  |none=>.bad)
 |_=>.bad
theorem Vy(h:oA ts k=.ok (j,u)):∃i,k=.int i/\iD ts.length i=some j/\ts[j]?=some u:=by
 unfold oA at h
 split at h
 .rename_i i
  split at h
  .rename_i b e
   split at h
   .rename_i c a
    cases h
    exact⟨i,rfl,e,a⟩
   .cases h
  .cases h
 .cases h
theorem Vz(ts:List Tr)(k:Tr)(c:Str):oA ts k ≠ .ex c:=by
 unfold oA
 split <;> (try split) <;> (try split) <;> (intro z; cases z)
theorem adI(z:t.K=aJ K){W:Addr->Prop}{ρ : En}{σ : St}{H:Hp}{i j:Nat}{ts us:List Tr}{tk:TE}{f:QF}{kT:Tr}{Q:VK}(e:aO t W ρ σ H)(hi : ρ[i]?=some (.dp ts))(m:SQ t tk f)(n:f ρ=.ok kT)(o:oA ts kT=.ok (j,.lst us))
  (q:∀a xs b ys,σ[i]?=some (some (.ref a))->H a=some (.lst xs)->xs[j]?=some (.ref b)->H b=some (.lst ys)->aN t.K (aK W H) ys us->(∀c d,aN t.K (aK W H) c d->aO t W (ρ.set i (.dp (ts.set j (.lst d)))) σ (upd H b (.lst c))/\bV W H (upd H b (.lst c))/\aK W (upd H b (.lst c))=aK W H)->Q (.ref b) H):gU (rM K) (iJ i) tk σ H Q:=by
 obtain⟨k,rfl,p,r⟩:=Vy o
 obtain⟨a,xs,b,ys,g,h,s,l,u,w,x⟩:=e.putD hi r
 refine⟨_,g,m W ρ σ H _ e ?_⟩
 rw[n]
 intro v y
 cases y
 refine .inl ⟨a,xs,k,.ref b,rfl,rfl,bH.of h,?_,q a xs b ys g h l u w x⟩
 unfold gC
 rw[s,p]
 exact l
noncomputable def Al(i:Nat)(fk fj:QF)(fe:EF):SF:=λρ=>(fe ρ).bind λp=>(mQ p.1).bind λT=>(oh p.2 i).bind λts=>(dF (fk p.2)).bind λk=>(oA ts k).bind λz=>match z.2 with
 |.lst us=>(dF (fj p.2)).bind λj=>(oA us j).bind λy=>.ok (.nx,p.2.set i (.dp (ts.set z.1 (.lst (us.set y.1 T)))))
 |_=>.bad
theorem VB(q:t.K=aJ K)(i:Nat){te tk c:TE}{d f:QF}{fe:EF}(he:SE t te fe)(y:SQ t tk d)(A:SQ t c f):SS t (m6 te (R4 (gU (rM K) (iJ i) tk) c TQ)) (Al i d f fe):=λW B σ H D e h=>by
 refine he W B σ H _ e (Rs.bF (Rs.aX h) λp h v H1 g s1 v1=>?_)
 obtain⟨T,kT,h⟩:=dW (Rs.aX h) (Lj _)
 have C:Rep t.K (aK W H1) v T:=by
  obtain⟨r,E⟩:=p
  cases r with
  |s i=>cases kT
  |v U fr=>cases kT; exact v1.1.rep e.wn
 obtain⟨Q,F,h⟩:=dW (Rs.aX h) (Vw _ _)
 obtain⟨k,g1,h⟩:=dW (Rs.aX h) (Le _)
 obtain⟨⟨m,u⟩,G,h⟩:=dW (Rs.aX h) (Vz _ _)
 cases u <;> try exact h.elim
 rename_i R
 obtain⟨j,g2,h⟩:=dW (Rs.aX h) (Le _)
 obtain⟨⟨l,S⟩,I,hf⟩:=dW (Rs.aX h) (Vz _ _)
 obtain⟨z,rfl,J,V⟩:=Vy I
 have un:∀{α : Type} {x:Rs α} {a : α},dF x=.ok a->x=.ok a:=λ{α x a} z=>by cases x <;> first|exact z|cases z
 have g1:=un g1
 have g2:=un g2
 show gU (rM K) (iJ i) tk σ H1 λo H1=>_
 refine adI q g (Vx F) y g1 G λa X b L q1 q2 Y M n N=>?_
 refine A W p.2 σ H1 _ g ?_
 rw[g2]
 intro w O
 cases O
 obtain⟨P,s3,_⟩:=N _ _ (n.set C l)
 exact⟨b,L,z,l,rfl,rfl,M,by rw[n.length]; exact J,hf W σ _ P (s1.trans s3).nxt⟩
def pZ(i:Nat)(ρ : En):En:=match ρ[i]? with
 |some (.dp ts)=>ρ.set i (.ow ts)
 |_=>ρ
theorem aO.pZ(e:aO t W ρ σ H)(i:Nat):∃N,aO t N (L2.pZ i ρ) σ H/\je W H N H:=by
 unfold L2.pZ
 split
 .rename_i p q
  obtain⟨F,e⟩:=e
  obtain⟨a,R,C,bs,G,nd,ww,S,r⟩:=e.dp i p q
  have A:=nd
  rw[G]at A
  have I:=(List.nodup_cons.mp A).1
  have m:Same (aK W H) (aK (λb=>W b/\b∉bs) H):=qg (λ_ _ _ z=>z.1) λ_ _ _ h=>h
  have s:∀b∈bs,b∈F i:=λb g=>by rw[G]; exact List.mem_cons_of_mem _ g
  have v:a∈F i:=by rw[G]; exact List.mem_cons_self ..
  have lt:i < ρ.length:=(List.getElem?_eq_some_iff.mp q).1
  have E:∀j,Mu (ρ.set i (.ow p)) j->j=i\/(j≠i/\Mu ρ j):=λj h=>by
   obtain⟨f,h|h⟩:=h <;> rcases get_set h with⟨rfl,z,_⟩|⟨ne,h⟩
   .exact .inl rfl
   .exact .inr ⟨ne,f,.inl h⟩
   .exact .inl rfl
   .exact .inr ⟨ne,f,.inr h⟩
  have B:∀(j:Nat) (f:List Tr),(ρ.set i (.ow p))[j]?=some (Sl.dp f)->j≠i/\ρ[j]?=some (Sl.dp f):=λj f h=>by
   rcases get_set h with⟨rfl,z,_⟩|⟨ne,h⟩
   .cases z
   .exact⟨ne,h⟩
  have O:∀j c,Mu ρ j -> σ[j]?=some (some (V.ref c))->c∉bs:=λj c T U z=>e.dm i j p c q T U (s c z)
  refine⟨λb=>W b/\b∉bs,⟨F,by rw[List.length_set]; exact e.len,λb z=>⟨e.zw b z,λg=>e.z0 b z (ww b (s b g)).2⟩,e.z0,λb w=>e.wl b w.1,e.f0,e.n0,λj u h=>?_,λj f h=>?_,λj f h=>?_,λj k c m1 X q1 q2=>?_,e.pn,λj c m1 q1=>?_,λj f h=>?_,λj k f P n g1 g2=>e.dd j k f P n (B j f g1).2 (B k P g2).2,λj k f c g1 m1 q1=>?_,λj f h=>e.db j f (B j f h).2,e.tab.cut (D:=λb=>b∈bs) (λb g=>r.lst b g)⟩,λb o n h=>⟨λz=>n z.1,h⟩⟩
  .rcases get_set h with⟨rfl,z,l⟩|⟨ne,h⟩
   .cases z
   .obtain⟨w,g1,g2⟩:=e.sh j u h
    exact⟨w,g1,g2.mono m⟩
  .rcases get_set h with⟨rfl,z,l⟩|⟨ne,h⟩
   .cases z
    refine⟨a,R,C,⟨(ww a v).1,I⟩,(ww a v).2,S,r.reps m λb x g Y=>?_⟩
    rw[eG λz=>z.2 g]
    exact Y
   .obtain⟨c,x,g1,g2,g3,J,L⟩:=e.ow j f h
    exact⟨c,x,g1,⟨g2,O j c ⟨f,.inl h⟩ g1⟩,g3,J,L.mono m⟩
  .rcases get_set h with⟨rfl,z,l⟩|⟨ne,h⟩
   .cases z
   .obtain⟨c,x,g1,g2,g3,J,L⟩:=e.rf j f h
    exact⟨c,x,g1,⟨g2,O j c ⟨f,.inr h⟩ g1⟩,g3,J,L.mono m⟩
  .have self:∀c,σ[i]?=some (some (V.ref c))->c=a:=λc z=>by rw[C]at z; cases z; rfl
   rcases E j m1 with y|⟨n1,v1⟩ <;> rcases E k X with Q|⟨n2,v2⟩
   .rw[y,Q]
   .rw[y]at q1
    have:=self c q1
    subst this
    exact(e.dm i k p c q v2 q2 v).elim
   .rw[Q]at q2
    have:=self c q2
    subst this
    exact(e.dm i j p c q v1 q1 v).elim
   .exact e.dis j k c v1 v2 q1 q2
  .rcases E j m1 with y|⟨n1,v1⟩
   .rw[y,C]at q1
    cases q1
    exact e.db i p q a v
   .exact e.pd j c v1 q1
  .obtain⟨M,h⟩:=B j f h
   obtain⟨c,x,g1,d⟩:=e.dp j f h
   refine⟨c,x,g1,d.move rfl rfl m (λb g=>⟨by obtain⟨_,_,_,Z,_⟩:=d; exact(Z b g).1,λz=>e.dd j i f p M h q b g (s b z)⟩) λ_ _ _ z=>z⟩
  .obtain⟨M,g2⟩:=B j f g1
   rcases E k m1 with y|⟨n1,v1⟩
   .rw[y,C]at q1
    cases q1
    exact λz=>e.dd i j p f (Ne.symm M) q g2 a v z
   .exact e.dm j k f c g2 v1 q1
 .exact⟨W,e,je.refl _ _⟩
def Ga(i:Nat)(f:SF):SF:=λρ=>f (pZ i ρ)
theorem adJ(i:Nat)(h:SS t ts f):SS t ts (Ga i f):=λW c σ H D e q=>by
 obtain⟨a,b,n⟩:=e.pZ i
 exact h a _ σ H D b (Rs.bF q λp q=>q.back n)
end
open Classical in
def tP(t:Tx)(src:List (Option Nat))(ρ : En)(σ : St)(F:Nat->List Addr)(H1 P:Hp):Tx:=⟨t.K,t.Z,t.R,t.H0,λb=>if P b=none then(if OU src ρ σ F b then H1 b else t.B b)else P b,λ_=>False⟩
section
variable {t:Tx}{src:List (Option Nat)}{ρ1:En}{σ : St}{F:Nat->List Addr}{H1 P:Hp}{D:Addr}{W:Addr->Prop}
theorem oE(h:P b=some o):(tP t src ρ1 σ F H1 P).B b=some o:=by
 unfold tP
 dsimp only
 rw[if_neg (by rw[h]; intro z; cases z),h]
theorem Am(a:P b=none)(c:¬OU src ρ1 σ F b):(tP t src ρ1 σ F H1 P).B b=t.B b:=by
 unfold tP
 dsimp only
 rw[if_pos a,if_neg c]
theorem xO(a:P b=none)(c:OU src ρ1 σ F b):(tP t src ρ1 σ F H1 P).B b=H1 b:=by
 unfold tP
 dsimp only
 rw[if_pos a,if_pos c]
theorem adK:tP t src ρ1 σ F H1 (upd (λ_=>none) D (.lst []))=iK t src ρ1 σ F H1 D []:=by
 unfold tP iK
 congr 1
 funext b
 by_cases e:b=D
 .subst e
  rw[dM,if_neg (by intro z; cases z),if_pos rfl]
 .rw[bA e,if_pos rfl,if_neg e]
theorem EOF.adL{js:List Nat}(I:Inj src)(J:EOF t W ρ1 σ H1 F)(U:∀b,P b≠none->H1 b=none)(e:aO (tP t src ρ1 σ F H1 P) (λb=>W b\/P b≠none) ρ τ H)(nx:∀b o,¬W b->H1 b=some o->H b=some o)
  (Y:∀k j:Nat,src[k]?=some (some j)->k∉js) (Z:∀k,k∉js -> τ[k]?=(gh src σ)[k]?) (so:fZ src ρ ρ1=true):EOF t (λb=>W b\/P b≠none) (cN src ρ ρ1) σ H F:=by
 have E:∀b,W b->W b\/P b≠none:=λ_ w=>.inl w
 have l:aO t W ρ1 σ H1:=⟨F,J⟩
 have m1:Same (aK W H1) (aK (λb=>W b\/P b≠none) H):=λb o h=>by
  obtain⟨n,h⟩:=iZ h
  rw[eG]
  .exact nx b o n h
  .rintro(z|z)
   .exact n z
   .rw[U b z]at h; cases h
 have X:Same (aK (λb=>W b\/P b≠none) H) (aK (λb=>W b\/P b≠none) H):=Same.refl _
 have Q:∀b,H1 b≠none->P b=none:=λb n=>by
  cases z:P b with
  |none=>rfl
  |some o=>exact(n (U b (by rw[z]; intro y; cases y))).elim
 have O:∀j,Mu (cN src ρ ρ1) j->Mu ρ1 j:=λj m=>by
  obtain⟨f,m|m⟩:=m <;> rcases oZ I m with⟨k,M,q1,q2,s⟩|⟨n,q⟩
  .exact qC ⟨f,.inl s⟩
  .exact⟨f,.inl q⟩
  .exact qC ⟨f,.inr s⟩
  .exact⟨f,.inr q⟩
 have inner:∀(k j:Nat) (f:List Tr) (a:Addr),src[k]?=some (some j)->(ρ[k]?=some (.ow f)\/ρ[k]?=some (.rf f)) -> σ[j]?=some (some (.ref a))->∃i,H a=some (.lst i)/\aN t.K (aK (λb=>W b\/P b≠none) H) i f:=λk j f a q1 q2 s=>by
  have z:=Z k (Y k j q1)
  rw[zY q1 s]at z
  rcases q2 with q2|q2
  .obtain⟨c,i,g,p,x,A,C⟩:=e.ow k f q2
   rw[z]at g
   cases g
   exact⟨i,A,C.mono X⟩
  .obtain⟨c,i,g,p,x,A,C⟩:=e.rf k f q2
   rw[z]at g
   cases g
   exact⟨i,A,C.mono X⟩
 have outer:∀(j:Nat) (a:Addr) (i:List V),Mu ρ1 j->(∀k,src[k]?=some (some j)->¬Mu ρ k) -> σ[j]?=some (some (.ref a))->H1 a=some (.lst i)->H a=some (.lst i):=λj a i m n q h=>by
  have wa:=l.addr m q
  have N:P a=none:=Q a (l.wn a wa)
  refine e.pn a _ ?_
  rw[xO N (.inl ⟨j,m,q,λk z=>n k z (Fw so z m)⟩)]
  exact h
 refine⟨by rw[uK]; exact l.len,λb z=>E b (l.zw b z),l.z0,e.wl,e.f0,e.n0,λj u h=>?_,λj f h=>?_,λj f h=>?_,λj k a n1 n2=>l.dis j k a (O j n1) (O k n2),λb o h=>?_,λj a m=>l.pd j a (O j m),λj f h=>?_,λj k f M n g p=>J.dd j k f M n (nY I g) (nY I p),λj k f c g m q=>J.dm j k f c (nY I g) (O k m) q,λj f h=>J.db j f (nY I h),⟨e.tab.ok,λb z=>E b (l.tab.w b z),l.tab.r,l.tab.B⟩⟩
 .have h' : ρ1[j]?=some (.sh u):=by
   rcases oZ I h with⟨k,M,q1,q2,s⟩|⟨n,q⟩
   .rcases qD s with⟨ne,_⟩|⟨_,⟨_,_,z⟩|⟨_,_,z⟩|⟨_,q⟩⟩
    .exact(ne rfl).elim
    .cases z
    .cases z
    .exact q
   .exact q
  obtain⟨v,q1,q2⟩:=l.sh j u h'
  exact⟨v,q1,q2.mono m1⟩
 .rcases oZ I h with⟨k,M,q1,q2,s⟩|⟨n,q⟩
  .rcases qD s with⟨ne,_⟩|⟨_,⟨G,R,z⟩|⟨_,_,z⟩|⟨nm,q⟩⟩
   .exact(ne rfl).elim
   .cases z
    obtain⟨a,i,g,p,x,A,C⟩:=l.ow j G R
    obtain⟨zs,S,T⟩:=inner k j f a q1 q2 g
    exact⟨a,zs,g,E a p,x,S,T⟩
   .cases z
   .exact(nm ⟨f,.inl q⟩).elim
  .obtain⟨a,i,g,p,x,A,C⟩:=l.ow j f q
   exact⟨a,i,g,E a p,x,outer j a i ⟨f,.inl q⟩ n g A,C.mono m1⟩
 .rcases oZ I h with⟨k,M,q1,q2,s⟩|⟨n,q⟩
  .rcases qD s with⟨ne,_⟩|⟨_,⟨_,_,z⟩|⟨G,R,z⟩|⟨nm,q⟩⟩
   .exact(ne rfl).elim
   .cases z
   .cases z
    obtain⟨a,i,g,p,x,A,C⟩:=l.rf j G R
    obtain⟨zs,S,T⟩:=inner k j f a q1 q2 g
    exact⟨a,zs,g,E a p,x,S,T⟩
   .exact(nm ⟨f,.inr q⟩).elim
  .obtain⟨a,i,g,p,x,A,C⟩:=l.rf j f q
   exact⟨a,i,g,E a p,x,outer j a i ⟨f,.inr q⟩ n g A,C.mono m1⟩
 .have N:P b=none:=Q b λz=>by
   rw[l.Fb z]at h
   cases h
  have nO:¬OU src ρ1 σ F b:=by
   rintro(⟨j,m,q,_⟩|⟨j,f,d',z⟩)
   .rw[l.pd j b m q]at h
    cases h
   .rw[J.db j f d' b z]at h
    cases h
  refine e.pn b o ?_
  rw[Am N nO]
  exact h
 .have hd:=nY I h
  obtain⟨a,i,q1,d⟩:=J.dp j f hd
  have ww:∀b∈F j,W b:=λb L=>by obtain⟨_,_,_,ww,_⟩:=d; exact(ww b L).1
  refine⟨a,i,q1,d.move rfl rfl m1 (λb L=>E b (ww b L)) λb o L q=>?_⟩
  have N:P b=none:=Q b (l.wn b (ww b L))
  refine e.pn b o ?_
  rw[xO N (.inr ⟨j,f,hd,L⟩)]
  exact q
theorem aO.adM(M:aO (tP t src ρ1 σ F H1 P) W' ρ τ H)(na:¬W' a)(e:qm (tP t src ρ1 σ F H1 P) W' a ρ τ H)(G:W' D)(k:∃o:List V,P D=some (.lst o))(I:t.H0 D=none)(Q:t.H0 a=none)(J:H a=some (.lst ys)) :
  aO (tP t src ρ1 σ F H1 (upd (upd P a (.lst ys)) D (.lst zs))) (λb=>W' b\/b=a) ρ τ (upd H D (.lst zs)):=by
 obtain⟨R,k⟩:=k
 have S:a≠D:=λz=>na (by rw[z]; exact G)
 have N:∀i c,Mu ρ i -> τ[i]?=some (some (V.ref c))->c≠a:=λi c m q z=>na (by rw[<-z]; exact M.addr m q)
 obtain⟨K,e,O⟩:=e
 have v:∀i c,Mu ρ i -> τ[i]?=some (some (V.ref c))->c≠D:=λi c m q z=>by
  subst z
  have:=e.pd i c m q
  rw[oE k]at this
  cases this
 have L:∀i f,ρ[i]?=some (Sl.dp f)->∀b∈K i,b≠D:=λi f h b g z=>by
  subst z
  have:=e.db i f h b g
  rw[oE k]at this
  cases this
 have x:∀c,c≠D->c≠a->(tP t src ρ1 σ F H1 P).B c=none->(tP t src ρ1 σ F H1 (upd (upd P a (.lst ys)) D (.lst zs))).B c=none:=λc l s z=>by
  have pc:(upd (upd P a (.lst ys)) D (.lst zs)) c=P c:=by rw[bA l,bA s]
  cases q:P c with
  |some o=>rw[oE q]at z; cases z
  |none =>
   by_cases j:OU src ρ1 σ F c
   .rw[xO q j]at z
    rw[xO (pc.trans q) j]
    exact z
   .rw[Am q j]at z
    rw[Am (pc.trans q) j]
    exact z
 have w:W' D\/D=a:=.inl G
 refine⟨K,e.len,e.zw,e.z0,λb z=>?_,λb o h n=>?_,λb h=>?_,λi u h=>?_,λi f h=>?_,λi f h=>?_,e.dis,λb o h=>?_,λi c m q=>x c (v i c m q) (N i c m q) (e.pd i c m q),λi f h=>?_,e.dd,e.dm,λi f h b g=>x b (L i f h b g) (λz=>O i f h (by rw[<-z]; exact g)) (e.db i f h b g),⟨?_,e.tab.w,e.tab.r,λb z=>x b (λy=>?_) (λy=>?_) (e.tab.B b z)⟩⟩
 .by_cases q:b=D
  .subst q; exact .inl ⟨zs,dM⟩
  .unfold Lt; rw[bA q]; exact e.wl b z
 .rw[bA]
  .exact e.f0 b o h n
  .rintro rfl
   have h:t.H0 b=some o:=h
   rw[I]at h
   cases h
 .by_cases q:b=D
  .subst q; exact I
  .rw[bA q]at h; exact e.n0 b h
 .rw[lM w]
  exact e.sh i u h
 .obtain⟨c,p,q1,q2,A,C,E⟩:=e.ow i f h
  rw[lM w]
  exact⟨c,p,q1,q2,A,by rw[bA (v i c ⟨f,.inl h⟩ q1)]; exact C,E⟩
 .obtain⟨c,p,q1,q2,A,C,E⟩:=e.rf i f h
  rw[lM w]
  exact⟨c,p,q1,q2,A,by rw[bA (v i c ⟨f,.inr h⟩ q1)]; exact C,E⟩
 .by_cases l:b=D
  .subst l
   rw[oE dM]at h
   rw[dM]
   exact h
  .rw[bA l]
   by_cases s:b=a
   .subst s
    rw[oE (by rw[bA l]; exact dM)]at h
    rw[J]
    exact h
   .refine e.pn b o ?_
    have pc:(upd (upd P a (.lst ys)) D (.lst zs)) b=P b:=by rw[bA l,bA s]
    cases q:P b with
    |some T=>rw[oE (pc.trans q)]at h; rw[oE q]; exact h
    |none =>
     by_cases j:OU src ρ1 σ F b
     .rw[xO (pc.trans q) j]at h; rw[xO q j]; exact h
     .rw[Am (pc.trans q) j]at h; rw[Am q j]; exact h
 .obtain⟨c,p,q1,d⟩:=e.dp i f h
  exact⟨c,p,q1,d.move rfl rfl (by rw[lM w]; exact Same.refl _) (λb g=>by obtain⟨_,_,_,ww,_⟩:=d; exact(ww b g).1) λb o g q=>by rw[bA (L i f h b g)]; exact q⟩
 .exact e.tab.ok.upd (e.pn D _ (oE k))
 .subst y
  have y:=e.tab.B b z
  rw[oE k]at y
  cases y
 .subst y
  exact e.tab.ok.ne z J rfl
theorem EOF.adN(e:EOF t W ρ σ H F)(nd:(D::bs).Nodup)(ww:∀b∈D::bs,W b/\t.H0 b=none)(x:∀b∈D::bs,t.B b=none)(p:∀(j:Nat) (us:List Tr),ρ[j]?=some (Sl.dp us)->∀b∈D::bs,b∉F j)
  (A:∀(j:Nat) (c:Addr),Mu ρ j -> σ[j]?=some (some (V.ref c))->c∉D::bs) (C:H D=some (.lst xs)) (r:DR t.K (aK W H) H xs ts bs):aO t W (ρ.set i (.dp ts)) (σ.set i (some (.ref D))) H:=by
 have a:∀(j:Nat) (s:Sl),(ρ.set i (.dp ts))[j]?=some s->(j=i/\s=.dp ts/\i < ρ.length)\/(j≠i/\ρ[j]?=some s):=λj s h=>get_set h
 have g:∀j,Mu (ρ.set i (.dp ts)) j->j≠i/\Mu ρ j:=λj m=>by
  obtain⟨zs,q|q⟩:=m <;> rcases a _ _ q with⟨_,z,_⟩|⟨n,q⟩
  .cases z
  .exact⟨n,zs,.inl q⟩
  .cases z
  .exact⟨n,zs,.inr q⟩
 have keep:∀(j:Nat),j≠i->(σ.set i (some (V.ref D)))[j]?=σ[j]? := λj n=>List.getElem?_set_ne (Ne.symm n)
 refine⟨λj=>if j=i then D::bs else F j,by rw[List.length_set,List.length_set]; exact e.len,e.zw,e.z0,e.wl,e.f0,e.n0,λj u h=>?_,λj zs h=>?_,λj zs h=>?_,λj k c m1 E q1 q2=>?_,e.pn,λj c m q=>?_,λj zs h=>?_,λj k zs v n q1 q2=>?_,λj k zs c q1 m q=>?_,λj zs h=>?_,e.tab⟩
 .rcases a _ _ h with⟨_,z,_⟩|⟨n,h⟩
  .cases z
  .rw[keep j n]; exact e.sh j u h
 .rcases a _ _ h with⟨_,z,_⟩|⟨n,h⟩
  .cases z
  .rw[keep j n]; exact e.ow j zs h
 .rcases a _ _ h with⟨_,z,_⟩|⟨n,h⟩
  .cases z
  .rw[keep j n]; exact e.rf j zs h
 .obtain⟨n1,v1⟩:=g j m1
  obtain⟨d,v2⟩:=g k E
  rw[keep j n1]at q1
  rw[keep k d]at q2
  exact e.dis j k c v1 v2 q1 q2
 .obtain⟨n1,v1⟩:=g j m
  rw[keep j n1]at q
  exact e.pd j c v1 q
 .rcases a _ _ h with⟨y,z,l⟩|⟨n,h⟩
  .cases z
   subst y
   refine⟨D,xs,vJ (by rw[<-e.len]; exact l),?_⟩
   rw[if_pos rfl]
   exact⟨bs,rfl,nd,ww,C,r⟩
  .rw[keep j n,if_neg n]
   exact e.dp j zs h
 .rcases a _ _ q1 with⟨f,_,_⟩|⟨n1,q1⟩ <;> rcases a _ _ q2 with⟨w,_,_⟩|⟨d,q2⟩
  .exact(n (f.trans w.symm)).elim
  .rw[if_pos f,if_neg d]
   exact λb o=>p k v q2 b o
  .rw[if_neg n1,if_pos w]
   exact λb o z=>p j zs q1 b z o
  .rw[if_neg n1,if_neg d]
   exact e.dd j k zs v n q1 q2
 .obtain⟨d,v2⟩:=g k m
  rw[keep k d]at q
  rcases a _ _ q1 with⟨f,_,_⟩|⟨n1,q1⟩
  .rw[if_pos f]
   exact A k c v2 q
  .rw[if_neg n1]
   exact e.dm j k zs c q1 v2 q
 .rcases a _ _ h with⟨f,_,_⟩|⟨n1,q1⟩
  .rw[if_pos f]
   exact x
  .rw[if_neg n1]
   exact e.db j zs q1
theorem DR.app{K:FZ}{G H:Hp}:∀{xs ys:List V} {ts us:List Tr} {bs cs:List Addr},DR K G H xs ts bs->DR K G H ys us cs->DR K G H (xs++ys) (ts++us) (bs++cs)
 |_,_,_,_,_,_,.nil,s=>s
 |_,_,_,_,_,_,.cl n h r,s=>.cl n h (DR.app r s)
 |_,_,_,_,_,_,.rw h q r,s=>.rw h q (DR.app r s)
end
end L2
end
section
namespace L2
open PySem PySem.Spec PyProof.Rows
def uR:Rv->Rs Tr
 |.v (.lst us) true=>.ok (.lst us)
 |_=>.bad
theorem adO(r:Rv)(c:Str):uR r ≠ .ex c:=by
 unfold uR
 split <;> (intro z; cases z)
def vQ(g:GF)(c:BF)(f:EF):List Tr->En->Rs (List Tr × En)
 | [],ρ=>.ok ([],ρ)
 |u::us,ρ=>(g u ρ).bind λρ1=>(c ρ1).bind λb=>if b.1=true then(f b.2).bind λp=>(uR p.1).bind λT=>(vQ g c f us p.2).bind λz=>.ok (T::z.1,z.2)else vQ g c f us b.2
def sU(i:Nat)(src:List (Option Nat))(fi:IF)(g:GF)(c:BF)(f:EF):SF:=λρ=>(fi ρ).bind λp=>if p.1.length<=100000 then(dF (vQ g c f p.1 (fQ src p.2))).bind λz=>if fZ src z.2 p.2=true then .ok (.nx,(cN src z.2 p.2).set i (.dp z.1))else .bad else .bad
theorem adP(n:Nat)(hi:SI t wi fi)(I:Inj src)(hj:∀k j:Nat,src[k]?=some (some j)->k∉js)(ng:∀T ρ c,gf T ρ ≠ .ex c)
  (hg:∀t':Tx,t'.K=t.K->(∀c,¬t'.EX c)->SG t' g gf js) (hc:∀t':Tx,t'.K=t.K->(∀c,¬t'.EX c)->ST t' tc c) (he:∀t':Tx,t'.K=t.K->(∀c,¬t'.EX c)->SE t' te f):SS t (m6 (vO wi g src tc te) (dN n)) (sU n src fi gf c f):=λW ρ σ H E e h=>by
 refine hi W ρ σ H _ e (Rs.bF (Rs.aX h) λp h J H1 C s1 it=>?_)
 obtain⟨u,d⟩:=p
 dsimp only at h it C
 split at h
 case isFalse=>exact h.elim
 rename_i hlen
 intro D X
 have h:=zV (Rs.aX h)
 obtain⟨F,fK⟩:=id C
 have uN:t.H0 D=none:=C.n0 D X
 refine⟨λi m τ H'=>m=u.length-i/\i<=u.length/\∃Y A acc bs P,aO (tP t src d σ F H1 P) (λb=>W b\/P b≠none) Y τ H'/\P D=some (.lst A)/\(∀b,P b≠none↔b∈D::bs)/\(D::bs).Nodup/\DR t.K (aK (λb=>W b\/P b≠none) H') H' A acc bs/\(∀b∈D::bs,H1 b=none)/\A.length<=i/\(∀b o,¬W b->H1 b=some o->H' b=some o)/\(∀k,k∉js -> τ[k]?=(gh src σ)[k]?) /\
   (vQ gf c f (u.drop i) Y).post (λ_=>False) (λz=>(if fZ src z.2 d=true then .ok (.nx,(cN src z.2 d).set n (.dp (acc++z.1)))else .bad:Rs (Fl × En)).post t.EX (qx t W H E)),?_,?_⟩
 .have hs:(λb=>W b\/(upd (λ_=>none) D (HO.lst []):Hp) b≠none)=λb=>W b\/b=D:=by
   funext b
   by_cases z:b=D
   .subst z; rw[dM]; simp
   .rw[bA z]; simp[z]
  refine⟨u.length,by simp,Nat.zero_le _,fQ src d,[],[],[],upd (λ_=>none) D (.lst []),?_,dM,λb=>?_,List.nodup_cons.mpr ⟨by simp,List.nodup_nil⟩,.nil,λb l=>?_,Nat.le_refl _,λb o _ q=>?_,λ_ _=>rfl,?_⟩
  .rw[adK,hs]
   exact fK.enter I X
  .by_cases z:b=D
   .subst z; rw[dM]; simp
   .rw[bA z]; simp[z]
  .have:b=D:=by simpa using l
   rw[this]
   exact X
  .rw[bA (iV q X)]; exact q
  .rw[List.drop_zero]; exact h
 .rintro i m τ O ⟨rfl,hi,G,A,acc,bs,P,Z,pD,B,nd,r2,new,l2,n2,a2,L⟩
  have wD:W D\/P D≠none:=.inr (by rw[pD]; intro z; cases z)
  have sm:Same (aK W H1) (aK (λb=>W b\/P b≠none) O):=λb o q=>by
   obtain⟨nw,q⟩:=iZ q
   rw[eG]
   .exact n2 b o nw q
   .rintro(z|z)
    .exact nw z
    .rw[new b ((B b).mp z)]at q; cases q
  have q:=it _ O sm Z.wl i
  by_cases M:i<u.length
  .rw[List.drop_eq_getElem_cons M]at L
   obtain⟨go,y⟩:=q.2 u[i] (by simp[M])
   refine .inr ⟨go,λx H3 yl=>?_⟩
   obtain⟨s3,r3⟩:=y x H3 yl
   have e3:=Z.grow s3
   refine hg (tP t src d σ F H1 P) rfl (λ_=>id) _ G τ H3 x u[i] _ e3 r3 (Rs.bF (kj (Rs.aX L) (ng _ _)) λρ4 h Q e4 a4=>?_)
   refine hc (tP t src d σ F H1 P) rfl (λ_=>id) _ ρ4 Q H3 _ e4 (Rs.bF (Rs.aX h) λb h H5 e5 s5=>?_)
   have iW:bV (λb=>W b\/P b≠none) O H5:=(bV.of s3).trans s5
   have n5:∀b o,¬W b->H1 b=some o->H5 b=some o:=λb o nw qb=>by
    refine iW.keep b o ?_ (n2 b o nw qb)
    rintro(z|z)
    .exact nw z
    .rw[new b ((B b).mp z)]at qb; cases qb
   have a5:∀k,k∉js -> Q[k]?=(gh src σ)[k]? := λk nk=>(a4 k nk).trans (a2 k nk)
   have pin:∀{Hx:Hp} {ρx:En} {τx:St},aO (tP t src d σ F H1 P) (λb=>W b\/P b≠none) ρx τx Hx->∀b o,b∈bs->O b=some o->Hx b=some o:=λ{Hx ρx τx} ex b o l z=>by
    have pe:P b≠none:=(B b).mpr (List.mem_cons_of_mem _ l)
    cases zP:P b with
    |none=>exact(pe zP).elim
    |some o' =>
     have N:=Z.pn b o' (oE zP)
     rw[N]at z
     rw[<-z]
     exact ex.pn b o' (oE zP)
   split at h
   .rename_i cb
    rw[if_pos cb]
    refine he (tP t src d σ F H1 P) rfl (λ_=>id) _ b.2 Q H5 _ e5 (Rs.bF (Rs.aX h) λp h v H6 e6 s6 v6=>?_)
    obtain⟨T,kT,h⟩:=dW (Rs.aX h) (adO _)
    obtain⟨r,ρ7⟩:=p
    have sh:∃vs,r=.v (.lst vs) true/\T=.lst vs:=by
     cases r with
     |s i=>cases kT
     |v U fr =>
      cases U <;> cases fr <;> first|(cases kT; exact⟨_,rfl,rfl⟩)|cases kT
    obtain⟨vs,rfl,rfl⟩:=sh
    obtain⟨⟨a,ys,vs',rfl,ev,na,qa,ra⟩,eh⟩:=v6
    cases ev
    have eh:=eh _ a rfl rfl
    have Gb:¬(W a\/P a≠none):=λz=>e5.wn a z na
    have LR:O a=none:=iW.dom a na
    have VG:H1 a=none:=by
     cases z:H1 a with
     |none=>rfl
     |some o=>rw[n2 a o (λw=>Gb (.inl w)) z]at LR; cases LR
    have aD:a≠D:=λz=>Gb (by rw[z]; exact wD)
    have abs:a∉D::bs:=λz=>Gb (.inr ((B a).mpr z))
    have VF:t.H0 a=none:=C.n0 a VG
    have eN:=e6.adM (zs:=A++[.ref a]) (D:=D) Gb eh wD ⟨_,pD⟩ uN VF qa
    have ws:(λb=>(W b\/P b≠none)\/b=a)=λb=>W b\/(upd (upd P a (HO.lst ys)) D (HO.lst (A++[.ref a])):Hp) b≠none:=by
     funext b
     by_cases N:b=D
     .subst N; rw[dM]; simp[wD]
     .rw[bA N]
      by_cases R:b=a
      .subst R; rw[dM]; simp
      .rw[bA R]; simp[R]
    rw[ws]at eN
    have mv:Same (aK (λb=>W b\/P b≠none) O) (aK (λb=>W b\/(upd (upd P a (HO.lst ys)) D (HO.lst (A++[.ref a])):Hp) b≠none) (upd H6 D (.lst (A++[.ref a])))):=λb o z=>by
     obtain⟨nb,z⟩:=iZ z
     have S:b≠D:=λy=>nb (by rw[y]; exact wD)
     have b2:b≠a:=iV z LR
     rw[eG]
     .rw[bA S]
      exact s6.keep b o nb (iW.keep b o nb z)
     .rw[bA S,bA b2]
      exact nb
    refine⟨A,e6.pn D _ (oE pD),Nat.lt_of_le_of_lt (show A.length<=100000 by omega) (by decide),u.length-(i+1),by omega,rfl,M,ρ7,A++[.ref a],acc++[.lst vs],bs++[a],_,eN,dM,λb=>?_,?_,?_,λb l=>?_,by rw[List.length_append]; simp; omega,λb o nw q=>?_,a5,?_⟩
    .by_cases N:b=D
     .subst N; rw[dM]; simp
     .rw[bA N]
      by_cases R:b=a
      .subst R; rw[dM]; simp
      .rw[bA R,B b]; simp[N,R]
    .rw[<-List.cons_append]
     exact List.nodup_append.mpr ⟨nd,by simp,λx hx y hy z=>by
      have:y=a:=by simpa using hy
      subst this
      subst z
      exact abs hx⟩
    .refine DR.app (r2.move mv λb o l z=>?_) (.rw (by rw[bA aD]; exact qa) (ra.mono λb o z=>?_) .nil)
     .have S:b≠D:=λy=>by
       subst y
       exact(List.nodup_cons.mp nd).1 l
      rw[bA S]
      exact pin e6 b o l z
     .obtain⟨b2,z⟩:=vG z
      obtain⟨nb,z⟩:=iZ z
      have S:b≠D:=λy=>nb (by rw[y]; exact wD)
      rw[eG]
      .rw[bA S]; exact z
      .rw[bA S,bA b2]; exact nb
    .rw[<-List.cons_append,List.mem_append]at l
     rcases l with l|l
     .exact new b l
     .have:b=a:=by simpa using l
      rw[this]; exact VG
    .have nD:b≠D:=iV q X
     rw[bA nD]
     refine s6.keep b o ?_ (n5 b o nw q)
     rintro(z|z)
     .exact nw z
     .rw[new b ((B b).mp z)]at q; cases q
    .refine Rs.bF (Rs.aX h) λz h=>?_
     rw[List.append_assoc]
     exact h
   .rename_i cb
    rw[if_neg cb]
    exact⟨u.length-(i+1),by omega,rfl,M,b.2,A,acc,bs,P,e5,pD,B,nd,r2.move iW.off (pin e5),new,by omega,n5,a5,h⟩
  .have z:i=u.length:=by omega
   subst z
   rw[List.drop_length]at L
   have L:(if fZ src G d=true then .ok (.nx,(cN src G d).set n (.dp (acc++[])))else .bad:Rs (Fl × En)).post t.EX _:=L
   refine .inl ⟨q.1 rfl,?_⟩
   split at L
   .rename_i so
    rw[List.append_nil]at L
    have eW:=fK.adL I (λb z=>new b ((B b).mp z)) Z n2 hj a2 so
    have mu1:∀j,Mu (cN src G d) j->Mu d j:=λj m=>by
     obtain⟨ts,m|m⟩:=m <;> rcases oZ I m with⟨k,u,q1,q2,q3⟩|⟨n,q⟩
     .exact qC ⟨ts,.inl q3⟩
     .exact⟨ts,.inl q⟩
     .exact qC ⟨ts,.inr q3⟩
     .exact⟨ts,.inr q⟩
    refine L _ _ O (eW.adN (bs:=bs) nd (λb l=>⟨.inr ((B b).mpr l),C.n0 b (new b l)⟩) (λb l=>C.Fb (new b l)) (λj u hj b l z=>?_) (λj c m q z=>?_) (Z.pn D _ (oE pD)) r2) λb o nb l=>?_
    .obtain⟨c,ys,_,cs,_,_,ww,_⟩:=fK.dp j u (nY I hj)
     exact C.wn b (ww b z).1 (new b l)
    .exact C.wn c (C.addr (mu1 j m) q) (new c z)
    .have V:=s1.keep b o nb l
     refine⟨?_,n2 b o nb V⟩
     rintro(z|z)
     .exact nb z
     .rw[new b ((B b).mp z)]at V; cases V
   .exact L.elim
theorem VH(n:Nat)(hi:SI t wi fi)(I:Inj src)(a:∀k j:Nat,src[k]?=some (some j)->k∉js)(b:∀T ρ c,gf T ρ ≠ .ex c)
  (d:∀t':Tx,t'.K=t.K->(∀c,¬t'.EX c)->SG t' g gf js) (he:∀t':Tx,t'.K=t.K->(∀c,¬t'.EX c)->SE t' te f):SS t (m6 (uo wi g src te) (dN n)) (sU n src fi gf cO f):=by
 rw[Vl]
 exact adP n hi I a b d (λt' _ _ W ρ σ H Q e h=>h H e (bV.refl _ _)) he
variable {t:Tx}
def o7(us vs:List Tr):List Tr:=(us.zip vs).map λp=>.tup [p.1,p.2]
theorem adQ{K:FZ}{W:Addr->Prop}{H:Hp}{a b:Addr}{xs ys:List V}{us vs:List Tr}(q1:bH (aJ K) (aK W H) a xs)(h:aN (aJ K) (aK W H) xs us)(q2:bH (aJ K) (aK W H) b ys)(j:aN (aJ K) (aK W H) ys vs):uH (aJ K) W H (Kq K a b) (o7 us vs):=λd c m hw i=>by
 have e:bH K c a xs:=((iR d c).seq (m.seq q1)).toK
 have f:bH K c b ys:=((iR d c).seq (m.seq q2)).toK
 refine⟨λz=>⟨xs,ys,e,f,by rw[h.length,j.length,z]; simp[o7]⟩,λu g=>?_⟩
 unfold o7 at g
 rw[List.getElem?_map]at g
 obtain⟨p,A,rfl⟩:=Option.map_eq_some_iff.mp g
 obtain⟨B,C⟩:=List.getElem?_zip_eq_some.mp A
 obtain⟨x,k,D⟩:=h.mK B
 obtain⟨y,l,E⟩:=j.mK C
 refine⟨⟨xs,ys,x,y,e,f,k,l⟩,λv J F=>?_⟩
 obtain⟨T,L,M,rfl,fT,rfl,z⟩:=F
 obtain⟨n,r⟩:=z xs ys e f
 rw[k]at n
 rw[l]at r
 cases n
 cases r
 have G:¬d T:=λw=>(hw T w).ne fT
 have I:Same c (upd c T (.tup [x,y])):=gD fT _
 have s:Same (aK d c) (aK d (upd c T (.tup [x,y]))):=λb u q=>(zE (o:=.tup [x,y]) fT b u q |> λz=>(zx _ _ b u z))
 refine⟨I,.tup (xs:=[x,y]) (.inl (.inl ?_)) (.cons ((D.mono m).mono s) (.cons ((E.mono m).mono s) .nil))⟩
 unfold aK
 rw[if_neg G,dM]
def o8(fa:AF):IF:=λρ=>(fa ρ).bind λp=>match p.1 with
 | [.v (.lst us) _,.v (.lst vs) _]=>.ok (o7 us vs,p.2)
 |_=>.bad
theorem adR{K:FZ}(c:t.K=aJ K){d:TA}{f:AF}(g:SA t d f):SI t (Ut K d) (o8 f):=λW i σ H R e h=>by
 refine g W i σ H _ e (Rs.bF (Rs.aX h) λp h q H1 j s1 v1=>?_)
 split at h
 .rename_i r _ ws _ k
  rw[k]at v1
  cases v1 with
  |cons a l =>
   cases l with
   |cons b m =>
    cases m
    have a:=a.rep e.wn
    have b:=b.rep e.wn
    rw[c]at a b
    cases a with
    |lst q1 n =>
     cases b with
     |lst q2 o =>
      refine⟨_,_,rfl,⟨_,((iR _ _).seq q1).toK⟩,⟨_,((iR _ _).seq q2).toK⟩,h _ H1 j s1 ?_⟩
      rw[c]
      exact adQ q1 n q2 o
 .exact h.elim
end L2
end
section
namespace L2
open PySem PySem.Spec PyProof.Rows
class NF where
 f:Value->Int
section
variable [NF]{kf:Value->Int × Int}
def q1(kf:Value->Int × Int)(xs:Array Keyed)(i:Nat):Int:=match xs[i]? with|some p=>(kf p.1).1|none=>0
def q2(kf:Value->Int × Int)(xs:Array Keyed)(i:Nat):Int:=match xs[i]? with|some p=>(kf p.1).2|none=>0
def qr(xs:Array Keyed)(i:Nat):Int:=match xs[i]? with|some p=>NF.f p.2|none=>0
def Kl(kf:Value->Int × Int)(xs:Array Keyed)(i j:Nat):Prop:=q1 kf xs i<q1 kf xs j\/(q1 kf xs i=q1 kf xs j/\q2 kf xs i<q2 kf xs j)
instance {kf:Value->Int × Int}{xs:Array Keyed}{i j:Nat}:Decidable (Kl kf xs i j):=by unfold Kl; infer_instance
def Ke(kf:Value->Int × Int)(xs:Array Keyed)(i j:Nat):Prop:=q1 kf xs i=q1 kf xs j/\q2 kf xs i=q2 kf xs j
def Lq(kf:Value->Int × Int)(xs:Array Keyed)(i j:Nat):Prop:=Kl kf xs i j\/(Ke kf xs i j/\qr xs i<qr xs j)
def jQ(kf:Value->Int × Int)(xs:Array Keyed)(m:Nat):Prop:=∀i j,i<j->j<m->Lq kf xs i j
def ju(kf:Value->Int × Int)(xs:Array Keyed)(m:Nat):Prop:=∀i j,i<j->j<m->Lq kf xs j i
def qI(kf:Value->Int × Int)(xs:Array Keyed)(m q:Nat):Prop:=(∀i j,i<j->j<m->i<q->Lq kf xs j i/\(q<=j->Kl kf xs j i))/\∀i j,q<=i->i<j->j<m->Ke kf xs i j/\qr xs i<qr xs j
def Pre(N:Nat)(xs:Array Keyed)(m:Nat):Prop:=(∀k:Nat,k<m->qr xs k<m)/\∀k:Nat,m<=k->k<N->qr xs k=k
theorem sV(h:xs[i]?=ys[j]?):qr xs i=qr ys j:=by unfold qr; rw[h]
theorem Gd(h:xs[i]?=ys[j]?):q1 kf xs i=q1 kf ys j:=by unfold q1; rw[h]
theorem Ge(h:xs[i]?=ys[j]?):q2 kf xs i=q2 kf ys j:=by unfold q2; rw[h]
theorem lW(a:j<=xs.size)(k:Nat):(i<=k/\k<j/\(mirror xs i j ((j-i) / 2))[k]?=xs[i+j-1-k]?)\/(¬(i<=k/\k<j)/\(mirror xs i j ((j-i) / 2))[k]?=xs[k]?):=by
 have e:=getElem?_mirror_all (i:=i) a k
 by_cases h:i<=k/\k<j
 .rw[if_pos h]at e; exact .inl ⟨h.1,h.2,e⟩
 .rw[if_neg h]at e; exact .inr ⟨h,e⟩
theorem sW(a:xs[i]?=ys[i']?)(b:xs[j]?=ys[j']?):Lq kf xs i j↔Lq kf ys i' j':=by
 unfold Lq Kl Ke; rw[sV a,sV b,Gd a,Gd b,Ge a,Ge b]
theorem Gf(a:xs[i]?=ys[i']?)(b:xs[j]?=ys[j']?):Kl kf xs i j↔Kl kf ys i' j':=by
 unfold Kl; rw[Gd a,Gd b,Ge a,Ge b]
theorem Kl.tr(a:Kl kf xs i j)(b:Kl kf xs j k):Kl kf xs i k:=by
 unfold Kl at *
 generalize q1 kf xs i=a1,q2 kf xs i=a2,q1 kf xs j=b1,q2 kf xs j=b2,q1 kf xs k=c1,q2 kf xs k=c2 at *
 omega
theorem Kl.no(a:¬Kl kf xs i j)(b:¬Kl kf xs j i):Ke kf xs i j:=by
 unfold Kl at *
 unfold Ke
 generalize q1 kf xs i=a1,q2 kf xs i=a2,q1 kf xs j=b1,q2 kf xs j=b2 at *
 omega
theorem Ke.s(a:Ke kf xs i j):Ke kf xs j i:=⟨a.1.symm,a.2.symm⟩
theorem Ke.t(a:Ke kf xs i j)(b:Ke kf xs j k):Ke kf xs i k:=⟨a.1.trans b.1,a.2.trans b.2⟩
theorem Ke.l(a:Ke kf xs i j)(b:Kl kf xs j k):Kl kf xs i k:=by
 unfold Kl at *
 rw[a.1,a.2]
 exact b
theorem Ke.r(a:Kl kf xs i j)(b:Ke kf xs j k):Kl kf xs i k:=by
 unfold Kl at *
 rw[<-b.1,<-b.2]
 exact a
theorem Kl.tq(a:Kl kf xs i j)(b:Lq kf xs j k):Kl kf xs i k:=b.elim a.tr λz=>Ke.r a z.1
theorem Kl.qt(a:Lq kf xs i j)(b:Kl kf xs j k):Kl kf xs i k:=a.elim (λz=>z.tr b) λz=>z.1.l b
theorem Lq.mk(a:¬Kl kf xs j i)(b:qr xs i<qr xs j):Lq kf xs i j:=by
 by_cases h:Kl kf xs i j
 .exact .inl h
 .exact .inr ⟨Kl.no h a,b⟩
theorem Pre.lW(h:Pre N xs m)(d:j<=xs.size)(hm:j<=m):Pre N (mirror xs i j ((j-i) / 2)) m:=by
 refine⟨λk c=>?_,λk c f=>?_⟩
 .rcases L2.lW d k with⟨a,b,e⟩|⟨n,e⟩
  .rw[sV e]; exact h.1 _ (by omega)
  .rw[sV e]; exact h.1 _ c
 .rcases L2.lW d k with⟨a,b,e⟩|⟨n,e⟩
  .omega
  .rw[sV e]; exact h.2 _ c f
theorem ju.turn(h:ju kf xs m)(hm:m<=xs.size):jQ kf (mirror xs 0 m ((m-0) / 2)) m:=λi j a d=>by
 rcases lW (i:=0) hm i with⟨_,_,b⟩|⟨n,_⟩
 .rcases lW (i:=0) hm j with⟨_,_,c⟩|⟨n,_⟩
  .rw[sW b c]; exact h _ _ (by omega) (by omega)
  .omega
 .omega
theorem qI.turn(h:qI kf xs m q)(hm:m<=xs.size)(g:q<m):ju kf (mirror xs q m ((m-q) / 2)) m:=λi j e f=>by
 rcases lW (i:=q) hm i with⟨a,b,c⟩|⟨n,c⟩ <;> rcases lW (i:=q) hm j with⟨k,l,d⟩|⟨o,d⟩
 .rw[sW d c]
  have z:=h.2 (q+m-1-j) (q+m-1-i) (by omega) (by omega) (by omega)
  exact .inr z
 .omega
 .rw[sW d c]
  exact(h.1 i (q+m-1-j) (by omega) (by omega) (by omega)).1
 .rw[sW d c]
  exact(h.1 i j e f (by omega)).1
theorem qI.one(h:qI kf xs m q)(c:m<=q+1):ju kf xs m:=λi j a b=>(h.1 i j a b (by omega)).1
end
section
variable [NF]{prog:Program}{w:World}{A:Around}{E:Value->Shared->Prop}{s:Shared}{N:Nat}{kd:SortKind}{kf:Value->Int × Int}
structure SB(a₀ : Array Keyed)(kd:SortKind)(st:SortSt):Prop where
 pm:(arrOf st).Perm a₀
 kn:kindOf st=kd
 fl:failedOf st=none
 pd:pendingOf st = #[]
theorem SB.sz{st:SortSt}(h:SB a₀ kd st):(arrOf st).size=a₀.size:=h.pm.size_eq
theorem SB.put{st:SortSt}(h:SB a₀ kd st)(p:xs.Perm (arrOf st)):SB a₀ kd (setArr st xs):=⟨p.trans h.pm,h.kn,h.fl,h.pd⟩
noncomputable def Asks(prog:Program)(w:World)(A:Around)(E:Value->Shared->Prop)(s:Shared)(a₀ : Array Keyed)(kd:SortKind)(kf:Value->Int × Int):Prop :=
 ∀(st:SortSt) (i j:Nat) (Q:Option Bool->SortSt->Prop),SB a₀ kd st->i<a₀.size->j<a₀.size->Q (some (decide (Kl kf (arrOf st) i j))) st->wpS (model prog w) A E s (ltAt' i j) Q st
variable {a₀ : Array Keyed}(ask:Asks prog w A E s a₀ kd kf)
include ask
theorem VJ{st:SortSt}(v:n<=a₀.size)(C:1<=a)(b:a<=n)(B:SB a₀ kd st)(p:Pre a₀.size (arrOf st) a)(h0:jQ kf (arrOf st) a)
  (h:∀m,a<=m->m<=n->jQ kf (arrOf st) m->Pre a₀.size (arrOf st) m->(m=n\/(m<n/\Kl kf (arrOf st) m (m-1)))->Q (none,m) st):wpS (model prog w) A E s (ascLoop a n) Q st:=by
 have up:∀x,a<=x->x<=n->Pre a₀.size (arrOf st) x:=λx e g=>⟨λk D=>by
  by_cases z:k<a
  .have:=p.1 k z; omega
  .rw[p.2 k (by omega) (by omega)]; omega,λk F r=>p.2 k (by omega) r⟩
 refine wpS_forRange (I:=λx c t=>t=st/\c=(none,x)/\x<=n/\jQ kf (arrOf st) x) ?_ ?_ ⟨rfl,rfl,b,h0⟩
 .rintro x c t e g ⟨rfl,rfl,_,d⟩
  refine wpS_bind (ask _ _ _ _ B (by omega) (by omega) ?_)
  by_cases l:Kl kf (arrOf t) x (x-1)
  .rw[decide_eq_true l]
   exact wpS_pure (h x e (by omega) d (up x e (by omega)) (.inr ⟨g,l⟩))
  .rw[decide_eq_false l]
   refine wpS_pure ⟨rfl,rfl,g,λi j f G=>?_⟩
   by_cases z:j<x
   .exact d i j f z
   .have u:j=x:=by omega
    subst u
    have o:=(up j e (by omega)).1 i f
    have q:=(up j e (by omega)).2 j (Nat.le_refl _) (by omega)
    by_cases z:i=j-1
    .subst z
     exact Lq.mk l (by rw[q]; exact o)
    .have y:=d i (j-1) (by omega) (by omega)
     exact Lq.mk (λz=>l (z.tq y)) (by rw[q]; exact o)
 .rintro c t ⟨rfl,rfl,_,d⟩
  rw[show max a n=n by omega]at d ⊢
  exact h n b (Nat.le_refl _) d (up n b (Nat.le_refl _)) (.inl rfl)
theorem VL{st:SortSt}(b:n<=a₀.size)(c:1<=m)(hm:m<=n)(B:SB a₀ kd st)(p:Pre a₀.size (arrOf st) m)(d:ju kf (arrOf st) m)
  (h:∀m t,SB a₀ kd t->1<=m->m<=n->jQ kf (arrOf t) m->Pre a₀.size (arrOf t) m->Q (some m) t):wpS (model prog w) A E s (tail3 m n) Q st:=by
 unfold tail3
 have z:m<=(arrOf st).size:=by rw[B.sz]; omega
 refine wpS_bind (wpS_reverse ?_)
 have a:SB a₀ kd (setArr st (mirror (arrOf st) 0 m ((m-0) / 2))):=B.put (mirror_perm _ _ _ _)
 exact wpS_bind (VJ ask b c hm a (p.lW z (Nat.le_refl _)) (d.turn z) λk i e f g _=>wpS_pure (h k _ a (by omega) e f g))
theorem adS{st:SortSt}(S:n<=a₀.size)(L:1<=m)(hm:m<=n)(B:SB a₀ kd st)(p:Pre a₀.size (arrOf st) m)(d:qI kf (arrOf st) m (m-1))
  (h:∀x e t,SB a₀ kd t->m<=x->x<=n->e+1<=x->qI kf (arrOf t) x (x-(e+1))->Pre a₀.size (arrOf t) x->Q (none,x,e) t):wpS (model prog w) A E s (descLoop m n) Q st:=by
 unfold descLoop
 refine wpS_forRange (I:=λx c t=>∃e,c=(none,x,e)/\SB a₀ kd t/\x<=n/\e+1<=x/\qI kf (arrOf t) x (x-(e+1))/\Pre a₀.size (arrOf t) x) ?_ ?_ ⟨0,rfl,B,hm,by omega,d,p⟩
 .rintro x c t M F ⟨e,rfl,o,_,C,f,u⟩
  dsimp only
  have z:x<=(arrOf t).size:=by rw[o.sz]; omega
  have pu:∀v:Array Keyed,Pre a₀.size v x->Pre a₀.size v (x+1):=λv q=>⟨λk T=>by
   by_cases y:k<x
   .have:=q.1 k y; omega
   .rw[q.2 k (by omega) (by omega)]; omega,λk O P=>q.2 k (by omega) P⟩
  refine wpS_bind (ask _ _ _ _ o (by omega) (by omega) ?_)
  by_cases l:Kl kf (arrOf t) x (x-1)
  .rw[decide_eq_true l]
   have next:∀v:Array Keyed,ju kf v x->(∀i,i<x->Kl kf v x i)->qI kf v (x+1) x:=λv R D=>⟨λi j a H hi=>by
    by_cases y:j<x
    .exact⟨R i j a y,λz=>by omega⟩
    .have:j=x:=by omega
     subst this
     exact⟨.inl (D i hi),λ_=>D i hi⟩,λi j L U O=>by omega⟩
   have low:∀i,i<x->Kl kf (arrOf t) x i:=λi hi=>by
    by_cases y:i=x-1
    .rw[y]; exact l
    .by_cases D:i<x-(e+1)
     .exact l.tq (f.1 i (x-1) (by omega) (by omega) D).1
     .exact Ke.r l (f.2 i (x-1) (by omega) (by omega) (by omega)).1.s
   by_cases g:e > 0
   .rw[if_pos g]
    refine wpS_bind (wpS_reverse (wpS_pure ⟨0,rfl,o.put (mirror_perm _ _ _ _),F,by omega,?_,pu _ (u.lW z (Nat.le_refl _))⟩))
    rw[show x+1-(0+1)=x by omega]
    refine next _ (f.turn z (by omega)) λi hi=>?_
    rcases lW (i:=x-(e+1)) z x with⟨_,b,_⟩|⟨_,J⟩
    .omega
    .rcases lW (i:=x-(e+1)) z i with⟨_,_,G⟩|⟨_,G⟩
     .rw[Gf J G]; exact low _ (by omega)
     .rw[Gf J G]; exact low _ hi
   .rw[if_neg g]
    refine wpS_pure ⟨0,rfl,o,F,by omega,?_,pu _ u⟩
    rw[show x+1-(0+1)=x by omega]
    exact next _ (f.one (by omega)) low
  .rw[decide_eq_false l]
   refine wpS_bind (ask _ _ _ _ o (by omega) (by omega) ?_)
   by_cases g:Kl kf (arrOf t) (x-1) x
   .rw[decide_eq_true g]
    exact wpS_pure (h x e t o M (by omega) C f u)
   .rw[decide_eq_false g]
    have eq:Ke kf (arrOf t) (x-1) x:=Kl.no g l
    refine wpS_pure ⟨e+1,rfl,o,F,by omega,?_,pu _ u⟩
    rw[show x+1-(e+1+1)=x-(e+1) by omega]
    refine⟨λi j a H hi=>?_,λi j hi a H=>?_⟩
    .by_cases y:j<x
     .exact f.1 i j a y hi
     .have:j=x:=by omega
      subst this
      have y:=(f.1 i (j-1) (by omega) (by omega) hi).2 (by omega)
      have K:Kl kf (arrOf t) j i:=eq.s.l y
      exact⟨.inl K,λ_=>K⟩
    .by_cases y:j<x
     .exact f.2 i j hi a y
     .have:j=x:=by omega
      subst this
      have V:=u.1 i a
      have W:=u.2 j (Nat.le_refl _) (by omega)
      refine⟨?_,by omega⟩
      by_cases y:i=j-1
      .rw[y]; exact eq
      .exact(f.2 i (j-1) hi (by omega) (by omega)).1.t eq
 .rintro c t ⟨e,rfl,o,_,C,f,u⟩
  rw[show max m n=n by omega]at C f u ⊢
  exact h n e t o hm (Nat.le_refl _) C f u
theorem VN{st:SortSt}(a:n<=a₀.size)(hm:m+1<=n)(B:SB a₀ kd st)(p:Pre a₀.size (arrOf st) (m+1))(d:qI kf (arrOf st) (m+1) m)
  (h:∀m t,SB a₀ kd t->1<=m->m<=n->jQ kf (arrOf t) m->Pre a₀.size (arrOf t) m->Q (some m) t):wpS (model prog w) A E s (descPart m n) Q st:=by
 refine wpS_bind (wpS_lift (wpAny_rule ⟨rfl,?_⟩))
 refine wpS_bind (adS ask a (by omega) hm B p (by rw[show m+1-1=m by omega]; exact d) λx e t b j c k f i=>?_)
 have z:x<=(arrOf t).size:=by rw[b.sz]; omega
 show wpS _ _ _ _ (if e > 0 then(reverseSlice' (x-(e+1)) x >>= λ_=>tail3 x n)else tail3 x n) _ _
 by_cases g:e > 0
 .rw[if_pos g]
  exact wpS_bind (wpS_reverse (VL ask a (by omega) c (b.put (mirror_perm _ _ _ _)) (i.lW z (Nat.le_refl _)) (f.turn z (by omega)) h))
 .rw[if_neg g]
  exact VL ask a (by omega) c b i (f.one (by omega)) h
theorem adT{st:SortSt}(v:n<=a₀.size)(I:1<=n)(B:SB a₀ kd st)(p:Pre a₀.size (arrOf st) 0)
  (h:∀m t,SB a₀ kd t->1<=m->m<=n->jQ kf (arrOf t) m->Pre a₀.size (arrOf t) m->Q (some m) t):wpS (model prog w) A E s (countRun' 0 n) Q st:=by
 rw[countRun0_eq]
 have J:Pre a₀.size (arrOf st) 1:=⟨λk K=>by rw[p.2 k (by omega) (by omega)]; omega,λk L x=>p.2 k (by omega) x⟩
 refine wpS_bind (VJ ask v (Nat.le_refl 1) I B J (λi j _ _=>by omega) λm m1 G c o M=>?_)
 by_cases e:m=n
 .rw[if_pos (by simpa using e)]
  exact wpS_pure (h m st B m1 G c o)
 .rw[if_neg (by simpa using e)]
  obtain⟨S,l⟩:=M.resolve_left e
  have pn:∀C:Array Keyed,Pre a₀.size C m->Pre a₀.size C (m+1):=λC q=>⟨λk K=>by
   by_cases y:k<m
   .have:=q.1 k y; omega
   .rw[q.2 k (by omega) (by omega)]; omega,λk L x=>q.2 k (by omega) x⟩
  by_cases g:m > 1
  .rw[if_pos g]
   refine wpS_bind (ask _ _ _ _ B (by omega) (by omega) ?_)
   by_cases r:Kl kf (arrOf st) 0 (m-1)
   .rw[decide_eq_true r]
    exact wpS_pure (h m st B m1 G c o)
   .rw[decide_eq_false r]
    have z:m<=(arrOf st).size:=by rw[B.sz]; omega
    have all:∀i j,i<j->j<m->Ke kf (arrOf st) i j/\qr (arrOf st) i<qr (arrOf st) j:=λi j a d=>by
     have a1:=c i j a d
     have a2:i=0\/Lq kf (arrOf st) 0 i:=by
      by_cases y:i=0
      .exact .inl y
      .exact .inr (c 0 i (by omega) (by omega))
     have O:j=m-1\/Lq kf (arrOf st) j (m-1):=by
      by_cases y:j=m-1
      .exact .inl y
      .exact .inr (c j (m-1) (by omega) (by omega))
     rcases a1 with f|f
     .have D:Kl kf (arrOf st) 0 j:=by
       rcases a2 with y|y
       .rw[y]at f; exact f
       .exact Kl.qt y f
      refine absurd ?_ r
      rcases O with y|y
      .rw[y]at D; exact D
      .exact D.tq y
     .exact f
    have ds:qI kf (arrOf st) m 0:=⟨λi j _ _ hi=>by omega,λi j _ a d=>all i j a d⟩
    refine wpS_bind (wpS_reverse (VN ask v (by omega) (B.put (mirror_perm _ _ _ _)) (pn _ (o.lW z (Nat.le_refl _))) ?_ h))
    have dd:=ds.turn z (by omega)
    have low:∀i,i<m->Kl kf (arrOf st) m i:=λi hi=>by
     by_cases y:i=m-1
     .rw[y]; exact l
     .exact Ke.r l (all i (m-1) (by omega) (by omega)).1.s
    have H:∀i,i<m->Kl kf (mirror (arrOf st) 0 m ((m-0) / 2)) m i:=λi hi=>by
     rcases lW (i:=0) z m with⟨_,b,_⟩|⟨_,u⟩
     .omega
     .rcases lW (i:=0) z i with⟨_,_,F⟩|⟨_,F⟩
      .rw[Gf u F]; exact low _ (by omega)
      .rw[Gf u F]; exact low _ hi
    refine⟨λi j a d hi=>?_,λi j _ _ _=>by omega⟩
    by_cases y:j<m
    .exact⟨dd i j a y,λz=>by omega⟩
    .have:j=m:=by omega
     subst this
     exact⟨.inl (H i hi),λ_=>H i hi⟩
  .rw[if_neg g]
   have u:m=1:=by omega
   subst u
   refine VN ask v (by omega) B (pn _ o) ⟨λi j a d hi=>?_,λi j _ _ _=>by omega⟩ h
   have P:i=0:=by omega
   have R:j=1:=by omega
   subst P R
   exact⟨.inl l,λ_=>l⟩
theorem adU{st:SortSt}(O:n<=a₀.size)(F:1<=ok)(hok:ok<=n)(B:SB a₀ kd st)(p:Pre a₀.size (arrOf st) ok)(d:jQ kf (arrOf st) ok)
  (h:∀t,SB a₀ kd t->jQ kf (arrOf t) n->Q true t):wpS (model prog w) A E s (binarySort' 0 n ok) Q st:=by
 rw[binarySort'_eq]
 simp only[Nat.zero_add]
 refine wpS_bind (wpS_mono (wpS_forRange (I:=λk c t=>c=(none,())/\SB a₀ kd t/\k<=n/\jQ kf (arrOf t) k/\Pre a₀.size (arrOf t) k) (Q:=λc t=>c=(none,())/\SB a₀ kd t/\jQ kf (arrOf t) n) ?_ ?_ ?_) ?_)
 .rintro k c t P H ⟨rfl,b,_,a,f⟩
  have v:k<a₀.size:=by omega
  have G:=f.2 k (Nat.le_refl _) v
  refine wpS_bind (wpS_mono (wpS_forRange (I:=λx c u=>u=t/\∃l r,c=(none,l,r)/\l<=r/\r<=k/\r-l<=k-x/\(∀i,i<l->¬Kl kf (arrOf t) k i)/\∀i,r<=i->i<k->Kl kf (arrOf t) k i)
   (Q:=λc u=>u=t/\∃l r,c=(none,l,r)/\l<=k/\(∀i,i<l->¬Kl kf (arrOf t) k i)/\∀i,l<=i->i<k->Kl kf (arrOf t) k i) ?_ ?_ ?_) ?_)
  .rintro x c u _ R ⟨rfl,l,r,rfl,g1,g2,g3,lo,hi⟩
   dsimp only
   by_cases g:l >= r
   .rw[if_pos g]
    have:l=r:=by omega
    subst this
    exact wpS_pure ⟨rfl,l,l,rfl,g2,lo,hi⟩
   .rw[if_neg g]
    refine wpS_bind (ask _ _ _ _ b v (by omega) ?_)
    by_cases le:Kl kf (arrOf u) k ((l+r) / 2)
    .rw[decide_eq_true le]
     refine wpS_pure ⟨rfl,l,(l+r) / 2,rfl,by omega,by omega,by omega,lo,λi F J=>?_⟩
     by_cases y:i=(l+r) / 2
     .rw[y]; exact le
     .exact le.tq (a ((l+r) / 2) i (by omega) J)
    .rw[decide_eq_false le]
     refine wpS_pure ⟨rfl,(l+r) / 2+1,r,rfl,by omega,by omega,by omega,λi F=>?_,hi⟩
     by_cases y:i=(l+r) / 2
     .rw[y]; exact le
     .exact λz=>le (z.tq (a i ((l+r) / 2) (by omega) (by omega)))
  .rintro c u ⟨rfl,l,r,rfl,g1,g2,g3,lo,hi⟩
   have:l=r:=by omega
   subst this
   exact⟨rfl,l,l,rfl,g2,lo,hi⟩
  .exact⟨rfl,0,k,rfl,by omega,by omega,by omega,λi hi=>by omega,λi g1 g2=>by omega⟩
  .rintro c u ⟨rfl,l,r,rfl,lk,lo,hi⟩
   rw[moveDown'_eq]
   refine wpS_bind (wpS_modify (wpS_pure ⟨rfl,b.put (bubble_perm _ _ _),H,?_,?_⟩))
   all_goals
    have K:k<(arrOf u).size:=by rw[b.sz]; exact v
    have m:=getElem?_bubble K (k-l) (by omega)
    rw[show k-(k-l)=l by omega]at m
    have C:(bubble (arrOf u) k (k-l))[l]?=(arrOf u)[k]? := by rw[m,if_pos rfl]
    have o:∀i,l<i->i<=k->(bubble (arrOf u) k (k-l))[i]?=(arrOf u)[i-1]? := λi g1 g2=>by rw[m,if_neg (by omega),if_pos ⟨g1,g2⟩]
    have q:∀i,i<l->(bubble (arrOf u) k (k-l))[i]?=(arrOf u)[i]? := λi g1=>by rw[m,if_neg (by omega),if_neg (by omega)]
    have L:∀i,k<i->(bubble (arrOf u) k (k-l))[i]?=(arrOf u)[i]? := λi g1=>by rw[m,if_neg (by omega),if_neg (by omega)]
   .intro i j D S
    show Lq kf (bubble (arrOf u) k (k-l)) i j
    rcases Nat.lt_trichotomy i l with y|y|y <;> rcases Nat.lt_trichotomy j l with e|e|e
    .rw[sW (q i y) (q j e)]; exact a i j D (by omega)
    .subst e
     rw[sW (q i y) C]
     exact Lq.mk (lo i y) (by rw[G]; exact f.1 i (by omega))
    .rw[sW (q i y) (o j e (by omega))]; exact a i (j-1) (by omega) (by omega)
    .omega
    .omega
    .subst y
     rw[sW C (o j e (by omega))]
     exact .inl (hi _ (by omega) (by omega))
    .omega
    .omega
    .rw[sW (o i y (by omega)) (o j e (by omega))]; exact a _ _ (by omega) (by omega)
   .refine⟨λi M=>?_,λi g1 g2=>?_⟩
    .show qr (bubble (arrOf u) k (k-l)) i<_
     rcases Nat.lt_trichotomy i l with y|y|y
     .rw[sV (q i y)]; have:=f.1 i (by omega); omega
     .subst y; rw[sV C,G]; omega
     .rw[sV (o i y (by omega))]; have:=f.1 (i-1) (by omega); omega
    .show qr (bubble (arrOf u) k (k-l)) i=_
     rw[sV (L i (by omega))]
     exact f.2 i (by omega) g2
 .rintro c t ⟨rfl,b,kn,a,f⟩
  refine⟨rfl,b,?_⟩
  rwa[show max (max ok 1) n=n by omega]at a
 .rw[show max ok 1=ok by omega]
  exact⟨rfl,B,hok,d,p⟩
 .rintro c t ⟨rfl,b,a⟩
  exact wpS_pure (h t b a)
theorem adV{st:SortSt}(B:SB a₀ kd st)(G:2<=a₀.size)(j:a₀.size<64)(p:Pre a₀.size (arrOf st) 0)
  (h:∀t,(arrOf t).Perm a₀ -> failedOf t=none->jQ kf (arrOf t) a₀.size->Q () t):wpS (model prog w) A E s sortRuns' Q st:=by
 rw[sortRuns'_eq]
 refine wpS_bind (wpS_get ?_)
 have k:minRun' (arrOf st).size (arrOf st).size 0=a₀.size:=by
  rw[B.sz]
  obtain⟨f,hf⟩:∃f,a₀.size=f+1:=⟨a₀.size-1,by omega⟩
  have:minRun' (f+1) (f+1) 0=f+1:=by rw[minRun'_succ,if_pos (by omega)]
  rw[hf]; exact this
 dsimp only
 rw[k,B.sz]
 have fin:∀t,SB a₀ kd t->jQ kf (arrOf t) a₀.size->(arrOf (setPending t ((pendingOf t).push (0,a₀.size,0)))).Perm a₀/\failedOf (setPending t ((pendingOf t).push (0,a₀.size,0)))=none/\pendingOf (setPending t ((pendingOf t).push (0,a₀.size,0))) = #[(0,a₀.size,0)]/\jQ kf (arrOf (setPending t ((pendingOf t).push (0,a₀.size,0)))) a₀.size :=
  λt a l=>⟨a.pm,a.fl,by show(pendingOf t).push _=_; rw[a.pd]; rfl,l⟩
 refine wpS_bind (wpS_mono (wpS_forRange (I:=λx c t=>(x=0/\c=(none,0)/\SB a₀ kd t/\Pre a₀.size (arrOf t) 0)\/(1<=x/\c=(none,a₀.size)/\(arrOf t).Perm a₀/\failedOf t=none/\pendingOf t = #[(0,a₀.size,0)]/\jQ kf (arrOf t) a₀.size))
  (Q:=λc t=>c=(none,a₀.size)/\(arrOf t).Perm a₀/\failedOf t=none/\pendingOf t = #[(0,a₀.size,0)]/\jQ kf (arrOf t) a₀.size) ?_ ?_ (.inl ⟨rfl,rfl,B,p⟩)) ?_)
 .rintro x c t _ n (⟨rfl,rfl,a,o⟩|⟨q,rfl,D⟩)
  .skip
   rw[if_neg (by omega)]
   simp only[Nat.sub_zero,Nat.min_self,Nat.zero_add]
   refine wpS_bind (adT ask (Nat.le_refl _) (by omega) a o λm u b m1 r d y=>?_)
   show wpS _ _ _ _ (if m<a₀.size then _ else _) _ _
   by_cases g:m<a₀.size
   .rw[if_pos g]
    refine wpS_bind (wpS_lift (wpAny_rule ⟨rfl,?_⟩))
    refine wpS_bind (adU ask (Nat.le_refl _) m1 r b y d λv i C=>?_)
    refine wpS_bind (wpS_get ?_)
    rw[show(pendingOf v).back? = none by rw[i.pd]; rfl]
    exact wpS_bind (wpS_modify (wpS_pure (.inr ⟨by omega,rfl,fin v i C⟩)))
   .rw[if_neg g]
    have e:m=a₀.size:=by omega
    subst e
    refine wpS_bind (wpS_get ?_)
    rw[show(pendingOf u).back? = none by rw[b.pd]; rfl]
    exact wpS_bind (wpS_modify (wpS_pure (.inr ⟨by omega,rfl,fin u b d⟩)))
  .skip
   rw[if_pos (Nat.le_refl _)]
   exact wpS_pure ⟨rfl,D⟩
 .rintro c t (⟨n,_,_⟩|⟨_,F,D⟩)
  .omega
  .exact⟨F,D⟩
 .rintro c t ⟨rfl,D⟩
  refine wpS_bind (wpS_mono (wpS_forRange (I:=λ_ c u=>u=t/\c=(none,())) (Q:=λc u=>u=t/\c=(none,())) ?_ (λ_ _ z=>z) ⟨rfl,rfl⟩) ?_)
  .rintro x c u _ _ ⟨rfl,rfl⟩
   refine wpS_bind (wpS_get ?_)
   rw[if_pos (by rw[D.2.2.1]; exact Nat.le_refl 1)]
   exact wpS_pure ⟨rfl,rfl⟩
  .rintro c u ⟨rfl,rfl⟩
   exact wpS_pure (h _ D.1 D.2.1 D.2.2.2)
end
open PySem.W
section
variable {X:Cx}{pins:List (Addr × Obj)}{σ : St}{H:Hp}{s:Shared}
theorem Inv.track(I:Inv X pins σ H s)(f:gH X pins H a)(e:s.heap.get? a=some {cls:=.type "list",data:=.seq its.toArray n }) (r:Vals xs its) (g:xs.length<=sizeLine):Inv X pins σ (upd H a (.lst xs)) s:=by
 obtain⟨f0,f1,f2,h,f4,i⟩:=f
 have ok:gO X.prog X.w (upd H a (.lst xs)) s.heap:=λb u q=>by
  by_cases d:b=a
  .subst d; rw[dM]at q; cases q; exact⟨g,its,n,r,e⟩
  .rw[bA d]at q
   exact(I.hok b u q).stay (λc v _ z=>z) (λc z=>by rw[bA (iV z f0)]; exact z) λc j z=>by rw[bA (iV z f0)]; exact z
 exact I.step (h':=s.heap) (g':=s.gens) (t':=s.toks) (d':=s.drawn) (ch:=[a]) (λb d=>by
   have:b=a:=by simpa using d
   subst this
   exact⟨h,f1,f4,i⟩) (λb o _ _ _ q _=>q) (λb o _ _ _ q _=>⟨o.slots,q⟩) (λb o d _ q=>by rw[bA (by simpa using d)]; exact q) (λb o _ q=>⟨o,q⟩)
  (λb j q=>by rw[bA (iV q f0)]; exact q) (λb o u q=>by rw[bA (iV q f0)]; exact q) (λb k q=>⟨#[],by rw[bA (iV q f0),q]; simp⟩) (λm q=>q) ok I.bare
theorem Inv.sub(I:Inv X pins σ H s)(h:∀p∈a,p∈pins):Inv X a σ H s:=I.Dh λp b=>I.pin p (List.mem_append_right _ (h p b))
theorem Inv.vU(I:Inv X pins σ H s)(f:gH X pins H a)(e:s.heap.get? a=some o)(d:∀v,o.data ≠ .cell v):Inv X ((a,o)::pins) σ H s:=I.Dh λp b=>by
 rcases List.mem_cons.mp b with rfl|b
 .exact⟨e,f.1,f.2.1,f.2.2.1,d⟩
 .exact I.pin p (List.mem_append_right _ b)
theorem gH.vU(f:gH X pins H b)(n:a≠b):gH X ((a,o)::pins) H b:=⟨f.1,f.2.1,f.2.2.1,f.2.2.2.1,f.2.2.2.2.1,λp c=>by
 rcases List.mem_append.mp c with c|c
 .exact f.2.2.2.2.2 p (List.mem_append_left _ c)
 .rcases List.mem_cons.mp c with rfl|c
  .exact n
  .exact f.2.2.2.2.2 p (List.mem_append_right _ c)⟩
theorem Inv.wr(I:Inv X pins σ H s)(f:gH X pins H a):Inv X pins σ H {s with heap:=s.heap.update a (Obj.mapSeq g),toks:=t' }:=by
 obtain⟨f0,f1,f2,c,f4,d⟩:=f
 exact I.turned (it:=a) (λb o h e=>((Heap.SameBut.update s.heap a _).2 b h).trans e) f0 f1 c f4 d
end
instance nfI:NF:=⟨numOf⟩
def sX(n:Nat)(kz:Nat->Int × Int)(ys:List Nat):Prop:=ys.Perm (List.range n)/\ys.Pairwise λi j=>((kz i).1<(kz j).1\/((kz i).1=(kz j).1/\(kz i).2<(kz j).2))\/(((kz i).1=(kz j).1/\(kz i).2=(kz j).2)/\i<j)
structure vV(X:Cx)(Kv:Hp->Value->Int × Int->Prop)(kd:SortKind):Prop where
 kind:∀(H:Hp) (keys:Array Value) (kz:Nat->Int × Int),2<=keys.size->(∀i v,keys[i]?=some v->Kv H v (kz i))->∀{pins σ s Q E},Inv X pins σ H s->Q kd s->wpAny (model X.prog X.w) X.A.in1.in1 (keyKind' keys) Q E s
 ask:∀{pins σ H s} {E:Value->Shared->Prop} (a₀ : Array Keyed) (kf:Value->Int × Int),Inv X pins σ H s->(∀p,p∈a₀.toList->Kv H p.1 (kf p.1))->Asks X.prog X.w X.A.in1.in1 E s a₀ kd kf
section
variable {X:Cx}
theorem V0:vV X (λ_ v k=>∃t,v=.int k.1 t/\k.2=0) oneType' where
 kind:=λH keys w l m pins σ s Q E I q=>by
  have hi:IntsAre keys.toList (keys.toList.map numOf):=by
   refine intsAre_map _ λv n=>?_
   obtain⟨i,hi,e⟩:=List.getElem_of_mem n
   obtain⟨t,z,_⟩:=m i v (by rw[<-e]; simp[Array.getElem?_eq_getElem (show i<keys.size by simpa using hi)])
   exact⟨_,t,z⟩
  rw[ksk_kind hi l]
  exact wpAny_pure q
 ask:=λa b I h st i j Q B hi c q=>by
  have h0:IntKeys a := λp o=>by
   obtain⟨t,z,_⟩:=h p o
   exact⟨_,t,z⟩
  have f:SBase a st:=⟨B.pm,B.kn,B.fl,B.pd⟩
  have at_:∀i,i<a.size->q1 b (arrOf st) i=K (arrOf st) i/\q2 b (arrOf st) i=0:=λi hi=>by
   obtain⟨t,p,e⟩:=f.at h0 hi
   have d:i<(arrOf st).size:=by rw[B.sz]; exact hi
   have hm:(arrOf st)[i]∈a.toList:=(Array.perm_iff_toList_perm.mp B.pm).mem_iff.mp (by simp)
   obtain⟨x,z,g⟩:=h _ hm
   have r:(arrOf st)[i]?=some (arrOf st)[i]:=getElem?_pos _ i d
   have u:(arrOf st)[i]=(Value.int (K (arrOf st) i) t,p):=by rw[r]at e; exact Option.some.inj e
   rw[u]at z g
   unfold q1 q2
   rw[e]
   refine⟨?_,g⟩
   injection z with z
   exact z.symm
  refine wpS_ltK f h0 hi c ?_
  have:decide (Kl b (arrOf st) i j)=decide (K (arrOf st) i<K (arrOf st) j):=by
   rw[decide_eq_decide]
   unfold Kl
   rw[(at_ i hi).1,(at_ j c).1,(at_ i hi).2,(at_ j c).2]
   omega
  rw[this]at q
  exact q
end
section
variable {X:Cx}{pins:List (Addr × Obj)}{σ : St}{H:Hp}{s:Shared}{Kv:Hp->Value->Int × Int->Prop}{kd:SortKind}{a kS:Addr}{n:Nat}{kz:Nat->Int × Int}{vs:List Value}
theorem V1{st:SortSt}(I:Inv X pins σ H s)(f:gH X pins H kS)(i:gH X pins H a)(ne:kS≠a)(j:s.heap.get? kS=some (seqObj "list" keys e)) (k:s.heap.get? a=some (seqObj "list" #[] e1)) (m:keys.size<=64) (o:(arrOf st).size<=64) (fl:failedOf st=none)
  (h:∀d c,Inv X pins σ H d->d.heap.get? a=some (seqObj "list" ((arrOf st).map (·.2)) c)->P (.done (.ret .none)) d):wpAny (model X.prog X.w) X.A.in1.in1 (ksk_tail a false e1 (.ref kS) st) P E s:=by
 refine wpAny_bind (listUpdate_at j rfl ?_ (by rw[sizeLine_eq]; omega) (Nat.zero_le _))
 refine wpAny_bind (wpAny_letGo ?_)
 have l:=I.wr (g:=λ_=>#[]) (t':=s.toks) f
 have b:(s.heap.update kS (Obj.mapSeq λ_=>(#[]:Array Value))).get? a=some (seqObj "list" #[] e1):=((Heap.SameBut.update s.heap kS _).2 a (Ne.symm ne)).trans k
 refine wpAny_bind (seqEpoch_at b rfl ?_)
 refine wpAny_bind (listUpdate_at b rfl ?_ (Nat.zero_le _) (by simp only[Bool.false_eq_true,if_false,Array.size_map]; rw[sizeLine_eq]; omega))
 rw[fl]
 simp only[bne_self_eq_false,Bool.false_eq_true,if_false]
 exact wpAny_pure (h _ _ (l.wr (t':=s.toks) i) (get?_update_seq b _))
theorem adW(T:vV X Kv kd)(I:Inv X pins σ H s)(W:gH X pins H kS)(Y:gH X pins H a)(ne:kS≠a)(x:s.heap.get? kS=some (seqObj "list" keys e)) (Z:s.heap.get? a=some (seqObj "list" #[] b))
  (hv:∀(i:Nat) (v:Value),vs[i]?=some v->∃t,v=Value.int i t) (N:vs.length=n) (O:keys.size=n) (h64:n<64) (hK:∀i v,keys[i]?=some v->Kv H v (kz i)) (inj:∀v k k',Kv H v k->Kv H v k'->k=k')
  (h:∀u c out,Inv X pins σ H u->u.heap.get? a=some (seqObj "list" out c)->(∃ys,sX n kz ys/\Vals (ys.map λi:Nat=>V.int i) out.toList)->P (.done (.ret .none)) u):wpAny (model X.prog X.w) X.A.in1.in1 (ksk_end a false vs.toArray b (.ref kS) keys) P E s:=by
 have D:(keys.zip vs.toArray).size=n:=by rw[Array.size_zip,O,List.size_toArray,N,Nat.min_self]
 have F:∀i,i<n->∃v t,(keys.zip vs.toArray)[i]?=some (v,.int i t)/\Kv H v (kz i):=λi hi=>by
  obtain⟨t,y⟩:=hv i vs[i] (by simp[N,hi])
  have b:keys[i]?=some keys[i]:=getElem?_pos _ _ (by omega)
  refine⟨keys[i],t,?_,hK i _ b⟩
  rw[<-Array.getElem?_toList,ksk_zip,List.getElem?_zip_eq_some]
  refine⟨by simp[Array.getElem?_toList,b],?_⟩
  show vs[i]?=some (Value.int i t)
  rw[List.getElem?_eq_getElem (by omega),y]
 -- what the sorted array says
 have fin:∀(d:Value->Int × Int) (g:Array Keyed),(∀(i:Nat) v t,(keys.zip vs.toArray)[i]?=some (v,Value.int i t)->d v=kz i)->g.Perm (keys.zip vs.toArray)->jQ d g n->∃ys,sX n kz ys/\Vals (ys.map λi:Nat=>V.int i) (g.map (·.2)).toList:=λd g o C K=>by
  have G:=Array.perm_iff_toList_perm.mp C
  have mem:∀p∈g.toList,∃i t,i<n/\p.2=.int (i:Nat) t/\d p.1=kz i:=λp R=>by
   obtain⟨i,hi,e⟩:=List.getElem_of_mem (G.mem_iff.mp R)
   have m:i<n:=by rw[Array.length_toList,D]at hi; exact hi
   obtain⟨v,t,b,_⟩:=F i m
   have y:(keys.zip vs.toArray)[i]?=some p:=by rw[<-Array.getElem?_toList,List.getElem?_eq_getElem hi,e]
   rw[b]at y
   cases y
   exact⟨i,t,m,rfl,o i v t b⟩
  refine⟨g.toList.map λp=>(numOf p.2).toNat,⟨?_,?_⟩,?_⟩
  .have h1:=G.map λp:Keyed=>(numOf p.2).toNat
   refine h1.trans (List.Perm.of_eq ?_)
   refine List.ext_getElem? λi=>?_
   by_cases hi:i<n
   .obtain⟨v,t,b,_⟩:=F i hi
    rw[List.getElem?_map,Array.getElem?_toList,b,List.getElem?_range hi]
    simp[numOf]
   .rw[List.getElem?_eq_none (by simp[D]; omega),List.getElem?_eq_none (by simp; omega)]
  .rw[List.pairwise_map,List.pairwise_iff_getElem]
   intro i j hi L J
   have sz:g.size=n:=by rw[C.size_eq,D]
   have m:i<g.size:=by simpa using hi
   have hj':j<g.size:=by simpa using L
   have z:=K i j J (by omega)
   obtain⟨a1,t1,_,b1,c1⟩:=mem _ (List.getElem_mem hi)
   obtain⟨a2,t2,_,b2,c2⟩:=mem _ (List.getElem_mem L)
   have x1:g[i]?=some g.toList[i]:=by rw[<-Array.getElem?_toList,List.getElem?_eq_getElem hi]
   have x2:g[j]?=some g.toList[j]:=by rw[<-Array.getElem?_toList,List.getElem?_eq_getElem L]
   unfold Lq Kl Ke q1 q2 qr at z
   rw[x1,x2]at z
   dsimp only at z
   rw[b1,b2,c1,c2]at z
   rw[b1,b2]
   simp only[NF.f,nfI,numOf,Int.toNat_natCast]at z ⊢
   omega
  .rw[Array.toList_map,List.map_map]
   have go:∀l:List Keyed,(∀p∈l,∃i t,i<n/\p.2=.int (i:Nat) t/\d p.1=kz i)->Vals (l.map ((λi:Nat=>V.int i) ∘ λp:Keyed=>(numOf p.2).toNat)) (l.map (·.2)):=λl=>by
    induction l with
    |nil=>intro _; exact .nil
    |cons p r ih =>
     intro hm
     refine .cons ?_ (ih λq hq=>hm q (List.mem_cons_of_mem _ hq))
     obtain⟨i,t,_,e,_⟩:=hm p (List.mem_cons_self ..)
     exact⟨t,by simp[e,numOf]⟩
   exact go _ mem
 -- a function of the keys
 obtain⟨d,o⟩:∃d:Value->Int × Int,∀v k,Kv H v k->d v=k:=by
  classical
  refine⟨λv=>if q:∃k,Kv H v k then q.choose else(0,0),λv k x=>?_⟩
  have q:∃k,Kv H v k:=⟨k,x⟩
  dsimp only
  rw[dif_pos q]
  exact inj v _ _ q.choose_spec x
 have V2:∀(i:Nat) v t,(keys.zip vs.toArray)[i]?=some (v,Value.int i t)->d v=kz i:=λi v t e=>by
  have hi:i<n:=by
   have:=(Array.getElem?_eq_some_iff.mp e).1
   omega
  obtain⟨v',t',b,q⟩:=F i hi
  rw[b]at e
  cases e
  exact o _ _ q
 unfold ksk_end
 simp only[Bool.false_eq_true,if_false]
 rw[List.size_toArray,N]
 by_cases M:n<2
 .rw[if_pos M,if_pos M]
  refine wpAny_bind (wpAny_pure ?_)
  rw[StateT.run_pure]
  refine wpAny_bind (wpAny_pure ?_)
  refine V1 (st:=SortSt.mk' general' (keys.zip vs.toArray) #[] 7 none) I W Y ne x Z (by omega) (by show(keys.zip vs.toArray).size<=64; omega) rfl λu c S U=>h u c _ S U (fin d _ V2 (Array.Perm.refl _) λi j J L=>by omega)
 .rw[if_neg M,if_neg M]
  refine wpAny_bind (T.kind H keys kz (by omega) hK I ?_)
  have ask:=T.ask (E:=E) (s:=s) (keys.zip vs.toArray) d I (λp C=>by
   obtain⟨i,hi,e⟩:=List.getElem_of_mem C
   have m:i<n:=by rw[Array.length_toList,D]at hi; exact hi
   obtain⟨v,t,b,q⟩:=F i m
   have y:(keys.zip vs.toArray)[i]?=some p:=by rw[<-Array.getElem?_toList,List.getElem?_eq_getElem hi,e]
   rw[b]at y
   cases y
   rw[o _ _ q]
   exact q)
  have B:SB (keys.zip vs.toArray) kd (SortSt.mk' kd (keys.zip vs.toArray) #[] 7 none):=⟨Array.Perm.refl _,rfl,rfl,rfl⟩
  have p0:Pre (keys.zip vs.toArray).size (arrOf (SortSt.mk' kd (keys.zip vs.toArray) #[] 7 none)) 0:=⟨λk x=>by omega,λk _ x=>by
   obtain⟨v,t,b,_⟩:=F k (by omega)
   show qr (keys.zip vs.toArray) k=k
   unfold qr
   rw[b]
   rfl⟩
  refine wpAny_bind (wpAny_mono (adV (Q:=λ_ t=>(arrOf t).Perm (keys.zip vs.toArray)/\failedOf t=none/\jQ d (arrOf t) (keys.zip vs.toArray).size) ask B (by omega) (by omega) p0 λt a1 a2 a3=>⟨a1,a2,a3⟩) ?_ λ_ _ z=>z)
  rintro⟨⟨⟩,t⟩ u ⟨rfl,C,hf,K⟩
  rw[D]at K
  exact V1 I W Y ne x Z (by omega) (by rw[C.size_eq,D]; omega) hf λu c S U=>h u c _ S U (fin d _ V2 C K)
end
section
variable {X:Cx}{pins:List (Addr × Obj)}{σ : St}{H:Hp}{s:Shared}{Kv:Hp->Value->Int × Int->Prop}{kd:SortKind}{n:Nat}{kz:Nat->Int × Int}{vs:List Value}{f:Value}
theorem gH.up(h:gH X pins H b)(e:H' b=none):gH X pins H' b:=⟨e,h.2⟩
noncomputable def Mf(X:Cx)(pins:List (Addr × Obj))(σ : St)(H:Hp)(Kv:Hp->Value->Int × Int->Prop)(n:Nat)(kz:Nat->Int × Int)(f:Value):Prop :=
 ∀(tX:List (Addr × Obj)) (i:Nat) (t:Tok) (s':Shared) (H':Hp),i<n->(∀p∈pins,p∈tX)->Same H H'->Inv X tX σ H' s' ->
  wpAny (model X.prog X.w) X.A.in1.in1 (call f [.int i t]) (λv s''=>∃gj,Same H' gj/\Kv gj v (kz i)/\Inv X tX σ gj s'') (λ_ _=>False) s'
theorem adX(T:vV X Kv kd)(mono:∀{H b:Hp} {v k},Same H b->Kv H v k->Kv b v k)(inj:∀{pins:List (Addr × Obj)} {σ : St} {H:Hp} {s:Shared},Inv X pins σ H s->∀v k Q,Kv H v k->Kv H v Q->k=Q)
  (I:Inv X pins σ H s) (y:gH X pins H kS) (D:gH X pins H a) (ne:kS≠a) (Y:s.heap.get? kS=some (seqObj "list" #[] 0)) (Z:s.heap.get? a=some (seqObj "list" #[] e1))
  (R:∀(i:Nat) (v:Value),vs[i]?=some v->∃t,v=Value.int i t) (hl:vs.length=n) (F:n<64) (key:Mf X pins σ H Kv n kz f)
  (h:∀d c out b,Same H b->b a=none->Inv X pins σ b d->d.heap.get? a=some (seqObj "list" out c)->(∃ys,sX n kz ys/\Vals (ys.map λi:Nat=>V.int i) out.toList)->P (.done (.ret .none)) d) :
  wpAny (model X.prog X.w) X.A.in1.in1 (ksk_rest a f false vs.toArray e1 (.ref kS)) P E s:=by
 unfold ksk_rest
 refine wpAny_bind (wpAny_rule ?_)
 rw[<-Array.forIn_toList]
 refine wpAny_bind (ksk_fold (λi d=>∃b m e,Same H b∧b kS=none∧b a=none∧Inv X pins σ b d∧d.heap.get? kS=some (seqObj "list" m e)∧d.heap.get? a=some (seqObj "list" #[] e1)∧m.size=i∧∀(j:Nat) v,m[j]?=some v→Kv b v (kz j)) vs 0 s
  ⟨H,#[],0,Same.refl _,y.1,D.1,I,Y,Z,rfl,λj v z=>by simp at z⟩ ?_ ?_)
 .rintro j x d S ⟨b,m,e,r,G,na,B,g,o,sz,J⟩
  rw[Nat.zero_add]at sz ⊢
  have hj:j<vs.length:=(List.getElem?_eq_some_iff.mp S).1
  obtain⟨t,rfl⟩:=R j x S
  have K:=y.up G
  have L:=D.up na
  have I2:=(B.vU L o (λv z=>by cases z)).vU (K.vU (Ne.symm ne)) g (λv z=>by cases z)
  refine wpAny_bind (wpAny_attempt (wpAny_mono (key _ j t d b (by omega) (λp M=>List.mem_cons_of_mem _ (List.mem_cons_of_mem _ M)) r I2) (λv l he=>?_) λ_ _ z=>z.elim))
  obtain⟨gj,U,kv,N⟩:=he
  have C:=N.pin (kS,seqObj "list" m e) (List.mem_append_right _ (List.mem_cons_self ..))
  have W:=N.pin (a,seqObj "list" #[] e1) (List.mem_append_right _ (List.mem_cons_of_mem _ (List.mem_cons_self ..)))
  have I4:=N.sub λp M=>List.mem_cons_of_mem _ (List.mem_cons_of_mem _ M)
  refine wpAny_bind (listUpdate_at C.1 rfl ?_ (by rw[sizeLine_eq]; omega) (Nat.le_trans (Nat.le_of_eq (Array.size_push ..)) (by rw[sizeLine_eq]; omega)))
  refine wpAny_pure ⟨rfl,gj,m.push v,_,r.trans U,C.2.1,W.2.1,I4.wr (t':=l.toks) (y.up C.2.1),get?_update_seq C.1 _,((Heap.SameBut.update l.heap kS _).2 a (Ne.symm ne)).trans W.1,by rw[Array.size_push,sz],λi u q=>?_⟩
  rw[Array.getElem?_push]at q
  split at q
  .rename_i z
   cases q
   rw[z,sz]
   exact kv
  .exact mono U (J i u q)
 .rintro d ⟨b,m,e,r,G,na,B,g,o,sz,J⟩
  refine wpAny_bind (listItems_at g rfl ?_)
  exact adW T B (y.up G) (D.up na) ne g o R hl (by omega) F J (inj B) λl c out Mg O q=>h l c out b r na Mg O q
theorem adY(T:vV X Kv kd)(mono:∀{H d:Hp} {v k},Same H d->Kv H v k->Kv d v k)(inj:∀{pins:List (Addr × Obj)} {σ : St} {H:Hp} {s:Shared},Inv X pins σ H s->∀v k u,Kv H v k->Kv H v u->k=u)
  (I:Inv X pins σ H s) (x:gH X pins H a) (m:s.heap.get? a=some (seqObj "list" vs.toArray c0))
  (y:∀(i:Nat) (v:Value),vs[i]?=some v->∃t,v=Value.int i t) (z:vs.length=n) (p:n<64) (key:Mf X pins σ H Kv n kz f)
  (h:∀q c out d,Same H d->d a=none->Inv X pins σ d q->q.heap.get? a=some (seqObj "list" out c)->(∃ys,sX n kz ys/\Vals (ys.map λi:Nat=>V.int i) out.toList)->P (.done (.ret .none)) q) :
  wpAny (model X.prog X.w) X.A.in1.in1 (ksk_tree a f false) P E s:=by
 refine wpAny_bind (listItems_at m rfl ?_)
 refine wpAny_bind (listUpdate_at m rfl ?_ (by rw[List.size_toArray,sizeLine_eq]; omega) (Nat.zero_le _))
 have B:=I.wr (g:=λ_=>#[]) (t':=s.toks) x
 obtain⟨r,j⟩:∃r,(s.heap.update a (Obj.mapSeq λ_=>(#[]:Array Value))).get? a=some (seqObj "list" #[] r):=⟨_,get?_update_seq m _⟩
 refine wpAny_bind (seqEpoch_at j rfl ?_)
 refine wpAny_bind (wpAny_newTuple ?_ (by show vs.toArray.toList.length<=_; rw[List.toList_toArray,sizeLine_eq]; omega))
 refine wpAny_bind (wpAny_newList ?_ (Nat.zero_le _))
 have l:Inv X pins σ H {s with heap:=(s.heap.update a (Obj.mapSeq λ_=>(#[]:Array Value))).push {cls:=.type "tuple",data:=.seq vs.toArray.toList.toArray } }:=B.kept (t':=s.toks) λb o e=>Heap.get?_push_of_some _ e
 have C:Inv X pins σ H {s with heap:=((s.heap.update a (Obj.mapSeq λ_=>(#[]:Array Value))).push {cls:=.type "tuple",data:=.seq vs.toArray.toList.toArray }).push {cls:=.type "list",data:=.seq ([]:List Value).toArray } }:=l.kept (t':=s.toks) λb o e=>Heap.get?_push_of_some _ e
 have lt:a<((s.heap.update a (Obj.mapSeq λ_=>(#[]:Array Value))).push {cls:=.type "tuple",data:=.seq vs.toArray.toList.toArray }).objs.size:=by
  rw[size_push',Heap.size_update]
  exact Nat.lt_succ_of_lt (Heap.lt_size m)
 refine wpAny_holding ?_
 exact adX T mono inj C (l.pI (Nat.le_refl _) (l.hok.fresh (Nat.le_refl _))) x (Nat.ne_of_gt lt) (Heap.get?_push_size _ rfl) (Heap.get?_push_of_some _ (Heap.get?_push_of_some _ j)) y z p key h
theorem adZ(k:A.handled=none)(m:IsRange s.heap r 0 n 1 t u v)(y:n<=1000)
  (h:∀h' tk (vs:List Value),(∀b o,s.heap.get? b=some o->h'.get? b=some o)->vs.length=n->(∀(i:Nat) (v:Value),vs[i]?=some v->∃t,v=Value.int i t)->Q vs {s with heap:=h',toks:=tk }) :
  wpAny (model P w) A (collect (.ref r)) Q E s:=by
 refine wpAny_bind (wpAny_runValue (codeAny_builtin F.entry_proto_collect ?_))
 refine wpAny_bind (wpAny_newList ?_ (Nat.zero_le _))
 refine wpAny_pure ⟨plainId_quiet F.plain_list_iadd _,codeAny_builtin F.entry_list_iadd ?_⟩
 have d:Builtin.Range.rangeSize 0 (n:Int) 1=n:=by rw[rangeSize_one]; split <;> omega
 have keep:∀b o,s.heap.get? b=some o->(s.heap.push {cls:=.type "list",data:=.seq ([]:List Value).toArray }).get? b=some o:=λb o e=>Heap.get?_push_of_some _ e
 refine wpAny_extend_range (A:=A) (R:=λr j=>match r with
  | Except.ok (Flow.ret v)=>wpAny (model P w) A (match v with
   |Value.ref a=>do
    let __do_lift <-load a
    match __do_lift.data with
     |Data.seq l g=>pure l.toList
     |x=>unsupported "internal:collect"
   |x=>unsupported "internal:collect") Q E j
  |Except.ok a=>False
  |Except.error e=>E e j) (s:={s with heap:=s.heap.push {cls:=.type "list",data:=.seq ([]:List Value).toArray } }) k (keep _ _ m) (small_one (by omega) (by omega) (by omega) (by omega)) d (by omega) s.heap.objs.size (.ref s.heap.objs.size) 0 (Heap.get?_push_size _ rfl) λh' tk acc c p q hi=>?_
 refine wpAny_bind (wpAny_load q ?_)
 refine wpAny_pure (h h' tk acc.toList (λb o e=>p b o (Nat.ne_of_lt (Heap.lt_size e)) (keep b o e)) (by rw[Array.length_toList]; exact hi.1) λi v e=>?_)
 rw[Array.getElem?_toList]at e
 obtain⟨t,z⟩:=hi.2 i v e
 exact⟨t,by rw[z]; simp⟩
theorem ad0(T:vV X Kv kd)(mono:∀{H a:Hp} {v k},Same H a->Kv H v k->Kv a v k)(inj:∀{pins:List (Addr × Obj)} {σ : St} {H:Hp} {s:Shared},Inv X pins σ H s->∀v k y,Kv H v k->Kv H v y->k=y)
  (I:Inv X pins σ H s) (F:X.A.handled=none) (G:IsRange s.heap r 0 n 1 t u v) (j:n<64) (key:Mf X pins σ H Kv n kz (.ref q))
  (h:∀d D ys a,Same H a->a D=none->Inv X pins σ (upd a D (.lst (ys.map λi:Nat=>V.int i))) d->sX n kz ys->Q (.ref D) d) :
  wpAny (model X.prog X.w) X.A (call (.builtin "sorted") [.ref r] [(Str.ofString "key",.ref q)]) Q E s:=by
 refine call_function_entry_kw kind_sorted plain_sorted entry_sorted (ksk_s1 _ _) ?_
 refine wpAny_bind (m:=checkCount "sorted" 1 1 _) (wpAny_pure ?_)
 refine wpAny_bind (adZ (A:=X.A.in1) F G (by omega) λg l vs keep J K=>?_)
 have p:Inv X pins σ H {s with heap:=g,toks:=l }:=I.kept keep
 refine wpAny_bind (wpAny_newList ?_ (by rw[sizeLine_eq]; omega))
 have L:Inv X pins σ H {s with heap:=g.push {cls:=.type "list",data:=.seq vs.toArray },toks:=l }:=p.kept (t':=l) λb o e=>Heap.get?_push_of_some _ e
 have z:(g.push {cls:=.type "list",data:=.seq vs.toArray }).get? g.objs.size=some (seqObj "list" vs.toArray 0):=Heap.get?_push_size _ rfl
 refine wpAny_bind (wpAny_holding (wpAny_call_entry_kw slot_list_sort ⟨_,z,rfl⟩ entry_list_sort ?_ (ksk_l1 _ _)))
 rw[ksk_t1]
 have B:=p.pI (Nat.le_refl _) (p.hok.fresh (Nat.le_refl _))
 refine adY T mono inj L B z K J j key λd c out a M na N O ⟨ys,C,x⟩=>⟨_,rfl,?_⟩
 refine wpAny_pure ⟨_,rfl,h d _ ys a M na (N.track (its:=out.toList) (n:=c) (B.up na) O x ?_) C⟩
 have:=C.1.length_eq
 rw[List.length_map,this,List.length_range,sizeLine_eq]
 omega
end
noncomputable def Mh(X:Cx)(A:Around)(N:List Str)(qual:Str)(scope:Scope)(f:Addr)(cd:Value)(s:Shared)(H:Hp):Cx where
 prog:=X.prog
 w:=X.w
 K:=X.K
 mg:=X.mg
 base:=X.base
 A:=A.deeper (envX qual scope s.heap.objs.size f cd (fW X.env.cells scope.names []))
 N:=N
 s₀ := s
 H₀ := H
 env:=envX qual scope s.heap.objs.size f cd (fW X.env.cells scope.names [])
 outer:=X.stack
 stack:=envX qual scope s.heap.objs.size f cd (fW X.env.cells scope.names [])::X.stack
 ex:=[]
 fn:=λ_=>false
 calm:=true
 pn:=[]
 xe:=λ_ _=>False
structure Gg(sc:Scope)(No:List Str)(x:Str)(Ns:List Str)(src:List (Option Nat))(scope:Scope):Prop where
 c:vA sc No (x::Ns) (none::src) scope
 V4:∀y∈scope.names,y.2 ≠ .cell
 par:scope.names.lookup x=some .local
 co:scope.isCoroutine=false
 gen:scope.isGenerator=false
section
variable {X:Cx}{pins:List (Addr × Obj)}{σ : St}{H:Hp}{s:Shared}{sc scope:Scope}{No Ns:List Str}{src:List (Option Nat)}{x qual:Str}
theorem ad1(w:X.env.scope=sc)(P:X.N=No)(S:Gg sc No x Ns src scope)(B:A.frames=some X.stack)(C:A.handled=none)(I:Inv X pins σ H s)(Q:RelV v u)
  (D:h₁.Ns s.heap.objs.size (λy=>([(x,u)]:List (Str × Value)).reverse.lookup y)) (old:∀b o,s.heap.get? b=some o->h₁.get? b=some o) :
  Inv (Mh X A (x::Ns) qual scope f cd s H) [] (some v::gh src σ) H {s with heap:=h₁,toks:=tk }:=by
 subst w
 subst P
 have n:∀x c,(fW X.env.cells scope.names []).lookup x=some c->X.env.cells.lookup x=some c:=λx c h=>by
  rcases um h with q|q
  .simp at q
  .exact q
 refine⟨⟨I.ok.mod,S.c.kind,rfl,rfl,Nat.le_refl _,λx y c g a=>I.ok.inj x y c (n _ _ g) (n _ _ a),λy R=>?_,λx c h=>(Bool.false_ne_true h).elim,λ_=>C,Around.frames_deeper B,.inr ⟨rfl,rfl⟩,λb t=>absurd (show b∈([]:List Addr)from t) (by simp),
   I.bs,Nat.le_trans I.ok.tW I.sz,λb o e=>by intro t; exact absurd (show b∈([]:List Addr)from t) (by simp),λb t=>absurd (show b∈([]:List Addr)from t) (by simp),I.stack,I.Df⟩,
  rfl,I.bare,Un.kept old,⟨_,D,λi y l g a h3=>?_⟩,λy c e=>?_,I.hok.fresh (Nat.le_refl _),λy c e=>I.pH y c (n y c e),λp T=>absurd (show p∈([]:List (Addr × Obj))from T) (by simp),I.hok.kept old,?_⟩
 .skip
  have m:(y,NameKind.free)∈scope.names:=by
   rcases R with z|z
   .exact absurd rfl (S.V4 _ (PySem.mem_of_lookup z))
   .exact PySem.mem_of_lookup z
  have q:=vq (cells:=X.env.cells) (acc:=[]) (.inr ⟨m,by
   obtain⟨c,e⟩:=I.ok.has y (S.c.free _ m rfl)
   rw[e]; rfl⟩)
  exact Option.isSome_iff_exists.mp q
 .cases i with
  |zero =>
   have g:some x=some y:=g
   cases g
   cases a
   exact⟨u,Q,.inl ⟨S.par,by show([(x,u)]:List (Str × Value)).reverse.lookup x=some u; simp⟩⟩
  |succ i =>
   have g:Ns[i]?=some y:=g
   have a:(gh src σ)[i]?=some (some l):=a
   have hi:i<src.length:=by
    unfold gh at a
    have:=(List.getElem?_eq_some_iff.mp a).1
    simpa using this
   have d:((src[i]).bind λj=>(σ[j]?).join)=some l:=by
    unfold gh at a
    rw[List.getElem?_map,List.getElem?_eq_getElem hi]at a
    exact Option.some.inj a
   cases E:src[i]with
   |none=>rw[E]at d; cases d
   |some j =>
    rw[E]at d
    have U : σ[j]?=some (some l):=by
     have z:(σ[j]?).join=some l:=d
     cases q : σ[j]? with
     |none=>rw[q]at z; cases z
     |some o=>rw[q]at z; have V:o=some l:=z; rw[V]
    have W:(y,some j)∈(x::Ns).zip (none::src):=by
     refine List.mem_of_getElem? (i:=i+1) ?_
     rw[List.getElem?_zip_eq_some]
     exact⟨by simpa using g,by simp[List.getElem?_eq_getElem hi,E]⟩
    obtain⟨Y,J⟩:=S.c.up _ W j rfl
    have m:(y,NameKind.free)∈scope.names:=PySem.mem_of_lookup J
    have K:=S.c.free _ m rfl
    obtain⟨m0,Z,F⟩:=id I.loc
    obtain⟨u',r,lk⟩:=F j y l Y U (K.elim (λz=>.inr (.inl z)) λz=>.inr (.inr z))
    refine⟨u',r,?_⟩
    rcases lk with⟨k,_⟩|⟨_,c,e,ic⟩
    .have L:X.env.scope.names.lookup y=some .local:=k
     rcases K with z|z <;> (rw[z]at L; cases L)
    .refine .inr ⟨.inr J,c,?_,?_⟩
     .have q:=vq (cells:=X.env.cells) (acc:=[]) (.inr ⟨m,by rw[e]; rfl⟩)
      obtain⟨c',M⟩:=Option.isSome_iff_exists.mp q
      have O:=n y c' M
      rw[e]at O; cases O
      exact M
     .obtain⟨o,G,hd⟩:=ic
      exact⟨o,old _ _ G,hd⟩
 .obtain⟨v,o,G,hd⟩:=I.cell y c (n y c e)
  exact⟨v,o,old _ _ G,hd⟩
 .have:=S.c.len
  show _=(x::Ns).length
  rw[List.length_cons]at this ⊢
  rw[List.length_cons]
  unfold gh
  rw[List.length_map]
  exact this
theorem ad2(i:X.env.scope=sc)(p:X.N=No)(S:Gg sc No x Ns src scope)(j:A.frames=some X.stack)(k:A.handled=none)(a:A.depth<recursionLimit)
  (I:Inv X pins σ H s) (q:s.heap.get? f=some (kla_obj "<lambda>" qual params body scope (fW X.env.cells scope.names []) pm c' ctv)) (m:s.heap.CodeRec (.ref c') qual) (B:RelV v u)
  (d:bindArgs (kla_fn "<lambda>" qual params body scope (fW X.env.cells scope.names []) pm (.ref c') ctv) ⟨[u],[]⟩=pure [(x,u)])
  (he:∀s H,PE (Mh X A (x::Ns) qual scope f (.ref c') s H) body te) (C:te (some v::gh src σ) H Q):wpAny (model X.prog X.w) A (call (.ref f) [u]) (EP X pins σ Q) E s:=by
 refine wpAny_call (kla_callFunE a q rfl S.co S.gen rfl m ?_)
 rw[d]
 refine wpAny_pure (wpAny_newFunctionEnv S.V4 (λy r=>?_) (λn l g=>⟨I.nolimit.fresh _ g,?_⟩) S.c.kind)
 .have:y=(x,u):=by simpa using r
  subst this
  exact S.par
 have old:=λb o e=>g.extBut b o (Nat.ne_of_lt (Heap.lt_size e)) (Heap.get?_push_of_some _ e)
 have J:=ad1 (A:=A) (f:=f) (cd:=.ref c') (qual:=qual) (tk:=s.toks+[(x,u)].length) i p S j k I B l old
 refine kla_codeExpr (wpAny_mono (he s H [] _ _ H Q J C) (λL M hw=>?_) λ_ _ z=>z.elim)
 obtain⟨t,D,h,F,G⟩:=hw
 exact⟨t,D,I.call' (ch:=[]) h.os h.base h.hok h.bare (λb K=>absurd K (by simp)),F,G⟩
end
def sY(mg:Str→Option Value)(base:Heap):Prop:=∃bm ob,mg "__builtins__" = some (.ref bm)∧bm≠builtinsNs∧bm≠mainGlobals∧base.get? bm=some ob∧ob.cls=.type "module" ∧ ob.dict=some builtinsNs∧ob.data=.plain
theorem V5:∀{l:List Value},TriplesOk l->TriplesOk (l++[.int a t,.int b u,c])
 | [],_=>trivial
 |.int _ _ :: .int _ _::_::r,h=>V5 (l:=r) h
theorem V6:∀{l:List Value},TriplesOk l->codeAmong pos (l++[.int a t,.int b u,c])=some v->codeAmong pos l=some v\/v=c
 | [],_,h=>by
  have h:(if _ then some c else none)=some v:=h
  split at h
  .cases h; exact .inr rfl
  .cases h
 |.int x _ :: .int y _::z::r,o,h=>by
  have h:(if(x == pos.line&&y == pos.col)=true then some z else codeAmong pos (r++[.int a t,.int b u,c]))=some v:=h
  show(if(x == pos.line&&y == pos.col)=true then some z else codeAmong pos r)=some v\/_
  split at h
  .rename_i q
   rw[if_pos q]
   exact .inl h
  .rename_i q
   rw[if_neg q]
   exact V6 (l:=r) o h
section
variable {X:Cx}{pins:List (Addr × Obj)}{σ : St}{H:Hp}{s:Shared}{sc scope:Scope}{No Ns:List Str}{src:List (Option Nat)}{x:Str}
structure Gh(P:Addr)(q:Str)(H H':Hp):Prop where
 kp:∀b o,H b=some o->b≠P->H' b=some o
 tb:∃ps,H' P=some (.eE ps)/\Eo H' q ps
theorem ad3(T:X.env.scope=sc)(S:Gg sc No x Ns src scope)(p:X.env.code=.ref c)(C:CodeHd X.base c P)(B:sY X.mg X.base)
  (J:defaultsOf params X.env=([],[])) (I:Inv X pins σ H s) (i:H P=some (.eE ps)) (ok:Eo H (X.env.qual++("<lambda>" : Str)) ps)
  (h:∀f a g pm U s' j,Gh P (X.env.qual++("<lambda>" : Str)) H U→Inv X ((f,kla_obj "<lambda>" (X.env.qual++("<lambda>" : Str)) params body scope (fW X.env.cells scope.names []) pm a g)::pins) σ U s'→U a=some (.fC j (.own 0))→Uu j (X.env.qual++("<lambda>" : Str))→Q (.ref f) s') :
  wpAny (model X.prog X.w) A (eval (.Lambda params body scope pos) X.env) Q E s:=by
 have K:closureFor scope X.env=pure (fW X.env.cells scope.names []):=Ec λy hy e=>by
  have k:=S.c.free y hy e
  rw[<-T]at k
  obtain⟨c,q⟩:=I.ok.has y.1 k
  rw[q]; rfl
 have oP:s.heap.get? P=some (tabObj ps):=I.hok P _ i
 have nP:mainGlobals≠P:=λz=>by
  obtain⟨o,es,ep,e,hd,_⟩:=I.ok.mod.glob
  have:=(I.bs _ _ e).2
  rw[z,i]at this
  cases this
 have hg:s.heap.Ns mainGlobals X.mg:=let⟨o,es,ep,e,r⟩:=I.ok.mod.glob; ⟨o,es,ep,I.bk _ _ e,r⟩
 have hB:s.heap.BuiltinsAt X.mg P:=by
  obtain⟨bm,ob,b1,b2,b3,b4,b5,b6,b7⟩:=B
  refine⟨bm,ob,b1,b2,b3,λz=>?_,I.bk _ _ b4,b5,b6,b7⟩
  have:=(I.bs _ _ b4).2
  rw[z,i]at this
  cases this
 have C':CodeHd s.heap c P:=C.keeps I.bk
 refine kla_eval J ?_
 cases hf:codeAmong pos ps.toList with
 |some cv =>
  obtain⟨a,j,rfl,e1,V⟩:=ok.2 pos cv hf
  refine kla_makeFunctionHit (mg:=X.mg) K I.ok.glob hg p C' oP ok.1 hf hB λg h' D keep hsz=>?_
  have F:Inv X pins σ H {s with heap:=h',toks:=D }:=I.kept keep
  have W:Inv X pins σ H {s with heap:=h'.push (kla_obj "<lambda>" (X.env.qual++("<lambda>" : Str)) params body scope (fW X.env.cells scope.names []) ((X.mg "__name__").getD .none) a g),toks:=D }:=F.kept (t':=D) λb o e=>Heap.get?_push_of_some _ e
  refine h _ a g _ H _ j ⟨λ_ _ q _=>q,ps,i,ok⟩ (W.vU (F.pI (Nat.le_refl _) (F.hok.fresh (Nat.le_refl _))) (Heap.get?_push_size _ rfl) (λv z=>by cases z)) e1 V
 |none =>
  refine kla_makeFunction (mg:=X.mg) K I.ok.glob hg p C' oP ok.1 hf nP hB λa g h' D ext L hlt M N=>?_
  obtain⟨c2,j,vs,t,V,O,hd,hv⟩:=M
  cases V
  have Y:H a=none:=I.hok.fresh L
  have cP:a≠P:=λz=>by rw[z,i]at Y; cases Y
  have ne:∀b u,H b=some u->b≠a:=λb u q=>iV q Y
  have up:∀b u,H b=some u->b≠P->(upd (upd H P (.eE (ps ++ #[rawInt pos.line,rawInt pos.col,.ref a]))) a (.fC j (.own 0))) b=some u:=λb u q z=>by rw[bA (ne b u q),bA z]; exact q
  have Z:(upd (upd H P (.eE (ps ++ #[rawInt pos.line,rawInt pos.col,.ref a]))) a (.fC j (.own 0))) P=some (.eE (ps ++ #[rawInt pos.line,rawInt pos.col,.ref a])):=by rw[bA (Ne.symm cP)]; exact dM
  have keep:∀b o,b≠P->s.heap.get? b=some o->h'.get? b=some o:=λb o z e=>ext b o z e
  have hok:gO X.prog X.w (upd (upd H P (.eE (ps ++ #[rawInt pos.line,rawInt pos.col,.ref a]))) a (.fC j (.own 0))) h':=λb u q=>by
   by_cases R:b=a
   .subst R
    rw[dM]at q
    cases q
    exact⟨O,j,O⟩
   .by_cases G:b=P
    .subst G
     rw[Z]at q
     cases q
     exact N
    .rw[bA R,bA G]at q
     refine(I.hok b u q).stay (λd v l e=>keep d v ?_ e) (λd z=>up d _ z ?_) λd ys z=>up d _ z ?_
     .rcases l with rfl|l
      .exact G
      .rintro rfl
       rw[i]at l
       cases l
     .rintro rfl
      rw[i]at z
      cases z
     .rintro rfl
      rw[i]at z
      cases z
  have wM:∀b,H b=none->b≠P:=λb n z=>by rw[z,i]at n; cases n
  have F:Inv X pins σ (upd (upd H P (.eE (ps ++ #[rawInt pos.line,rawInt pos.col,.ref a]))) a (.fC j (.own 0))) {s with heap:=h',toks:=D } :=
   I.step (h':=h') (g':=s.gens) (d':=s.drawn) (t':=D) (ch:=[]) (λ_ z=>nomatch z) (λb o _ _ _ e n=>keep b o (wM b n) e) (λb o _ _ _ e n=>⟨o.slots,keep b o (wM b n) e⟩)
    (λb o _ e n=>by
     rw[bA (λz=>by rw[z]at e; exact absurd (Heap.lt_size e) (Nat.not_lt.mpr L)),bA (wM b n)]; exact n)
    (λb o _ e=>by
     by_cases z:b=P
     .subst z; exact⟨_,N⟩
     .exact⟨o,keep b o z e⟩)
    (λb ys q=>up b _ q (by rintro rfl; rw[i]at q; cases q)) (λb o u q=>up b _ q (by rintro rfl; rw[i]at q; cases q))
    (λb qs q=>by
     by_cases z:b=P
     .subst z
      rw[i]at q
      cases q
      exact⟨_,Z⟩
     .exact⟨#[],by rw[up b _ q z]; simp⟩)
    (λm q=>q.extBut ext (wM _ I.free)) hok I.bare
  have W:=F.kept (t':=D) (h':=h'.push (kla_obj "<lambda>" (X.env.qual++("<lambda>" : Str)) params body scope (fW X.env.cells scope.names []) ((X.mg "__name__").getD .none) a g)) λb o e=>Heap.get?_push_of_some _ e
  refine h _ a g _ _ _ j ⟨up,_,Z,?_,λpos' v q=>?_⟩ (W.vU (F.pI (Nat.le_refl _) (F.hok.fresh (Nat.le_refl _))) (Heap.get?_push_size _ rfl) (λv z=>by cases z)) dM ⟨vs,t,hd,hv⟩
  .have:(ps ++ #[rawInt pos.line,rawInt pos.col,.ref a]).toList=ps.toList++[rawInt pos.line,rawInt pos.col,.ref a]:=by simp
   rw[this]
   exact V5 ok.1
  .have:(ps ++ #[rawInt pos.line,rawInt pos.col,.ref a]).toList=ps.toList++[rawInt pos.line,rawInt pos.col,.ref a]:=by simp
   rw[this]at q
   rcases V6 ok.1 q with q|q
   .obtain⟨d,o,R,G,z3⟩:=ok.2 pos' v q
    exact⟨d,o,R,up d _ G (by rintro rfl; rw[i]at G; cases G),z3⟩
   .exact⟨a,j,q,dM,vs,t,hd,hv⟩
end
abbrev KW:=Hp->V->Int × Int->Prop
def Ar:KW:=λ_ v k=>v=.int k.1/\k.2=0
noncomputable def Mj(Kw:KW)(P:Addr)(q:Str)(src:List (Option Nat))(ta:TA)(te:TE):TE:=λσ H Q=>ta σ H λvs H1=>∃(n:Nat) (kz:Nat->Int × Int),vs=[.int n]/\n<64/\(∃ps,H1 P=some (.eE ps)/\Eo H1 q ps)/\∀H2,Gh P q H1 H2 ->
 (∀(i:Nat),i<n->∀H3,Same H2 H3->te (some (.int i)::gh src σ) H3 λv H4=>Kw H4 v (kz i)/\Same H3 H4)/\∀D (ys:List Nat) H3,Same H2 H3->H3 D=none->sX n kz ys->Q (.ref D) (upd H3 D (.lst (ys.map λi:Nat=>V.int i)))
section
variable {X:Cx}{sc scope:Scope}{No Ns:List Str}{src:List (Option Nat)}{x:Str}{Kw:KW}{kd:SortKind}
theorem ad4(T:vV X (λH u k=>∃v,RelV v u/\Kw H v k) kd)(mono:∀{H g:Hp} {v k},Same H g->Kw H v k->Kw g v k)(inj:∀{pins:List (Addr × Obj)} {σ : St} {H:Hp} {s:Shared},Inv X pins σ H s->∀u k O,(∃v,RelV v u/\Kw H v k)->(∃v,RelV v u/\Kw H v O)->k=O)
  (y:gQ k X.A) (W:X.mg "sorted" = none) (Y:X.mg "range" = none) (m:X.env.scope=sc) (Z:X.N=No) (S:Gg sc No x Ns src scope) (a:X.env.code=.ref c) (C:CodeHd X.base c P) (B:sY X.mg X.base) (q:defaultsOf params X.env=([],[]))
  (ha:PA X [e] ta) (d:∀(pm cd w u:Value),bindArgs (kla_fn "<lambda>" (X.env.qual++("<lambda>" : Str)) params body scope (fW X.env.cells scope.names []) pm cd w) ⟨[u],[]⟩=pure [(x,u)])
  (he:∀A f cd s H,PE (Mh X A (x::Ns) (X.env.qual++("<lambda>" : Str)) scope f cd s H) body te)
  (hg:X.env.kindOf "sorted" = some .globalImplicit:=by kernel_rfl) (E:X.env.kindOf "range" = some .globalImplicit:=by kernel_rfl) (hs:notStar e=true:=by kernel_rfl) :
  PE X (.Call (.Name "sorted" p) [.Call (.Name "range" p2) [e] [] pos2] [⟨some (Str.ofString "key"),.Lambda params body scope alz,kp⟩] pos) (Mj Kw P (X.env.qual++("<lambda>" : Str)) src ta te):=by
 refine⟨λpins s σ H Q I h=>?_⟩
 refine wpAny_Call_Name_kw (qY I hg W (by decide +kernel:bootBuiltins "sorted" = some (.builtin "sorted")) ?_ (by decide +kernel) (by kernel_rfl))
 refine callWith_kw (Calls.spliced_cons (wpAny_Call_Name_kw (qY I E Y boot_range (PyProof.Rows.callWith_type1 (bJ (ha pos2 pins s σ H _ I h) λus s1 ⟨R,H1,F,r1,q1⟩=>?_) (ux hs) rfl) (by decide +kernel) (by kernel_rfl))))
 obtain⟨n,kz,rfl,G,⟨ps,hP,ok⟩,hq⟩:=q1
 obtain⟨u1,rfl,t1,rfl⟩:=vals1 r1
 refine call_range_1 ?_
 have J:=F.pI (Nat.le_refl _) (F.hok.fresh (Nat.le_refl _))
 have I2:Inv X pins σ H1 {s1 with heap:=s1.heap.push {cls:=.type "range",data:=.fields #[.int 0 s1.toks,.int n t1,.int 1 (s1.toks+1)] },toks:=s1.toks+1+1 }:=F.kept λb o e=>Heap.get?_push_of_some _ e
 have I3:=I2.vU J (Heap.get?_push_size _ rfl) (λv z=>by cases z)
 refine Calls.spliced_nil ?_
 refine kws_cons (ad3 m S a C B q I3 hP ok λf K w pm H2 s2 oc lh U e1 e2=>?_)
 refine kws_nil ?_
 have pr:=U.pin _ (List.mem_append_right _ (List.mem_cons_of_mem _ (List.mem_cons_self ..)))
 obtain⟨key,fin⟩:=hq H2 lh
 refine ad0 T (λ{H g u k} j ⟨v,a1,a2⟩=>⟨v,a1,mono j a2⟩) inj U y.hd pr.1 G (λtX i t V g hi sub j l=>?_) λV D ys H3 j nD l L=>⟨.ref D,_,l.sub λp hp=>List.mem_cons_of_mem _ (List.mem_cons_of_mem _ hp),rfl,fin D ys H3 j nD L⟩
 have pf:=l.pin _ (List.mem_append_right _ (sub _ (List.mem_cons_self ..)))
 have M:V.heap.CodeRec (.ref K) (X.env.qual++("<lambda>" : Str)):=by
  obtain⟨R,t,a1,a2⟩:=e2
  exact⟨K,oc,R,t,rfl,(l.hok K _ (j _ _ e1)).1,a1,a2⟩
 refine bJ (ad2 (A:=X.A.in1.in1) (v:=.int i) (te:=te) (Q:=λv r=>Kw r v (kz i)/\Same g r) m Z S I.ok.frames y.hd y.depth l pf.1 M ⟨t,rfl⟩ (d _ _ _ _) (λs H=>he _ _ _ _ _) (key i hi g j)) λu s'' ⟨v,r,Mg,rv,q1,q2⟩=>⟨r,q2,⟨v,rv,q1⟩,Mg⟩
theorem ad5:vV X (λH u k=>∃v,RelV v u/\Ar H v k) oneType' where
 kind:=λH keys b c d pins σ s Q E I q=>V0.kind H keys b c (λi v e=>by
  obtain⟨w,r,rfl,z⟩:=d i v e
  obtain⟨t,rfl⟩:=r
  exact⟨t,rfl,z⟩) I q
 ask:=λa f I h=>V0.ask a f I λp g=>by
  obtain⟨w,r,j,z⟩:=h p g
  subst j
  obtain⟨t,r⟩:=r
  exact⟨t,r,z⟩
theorem ad6(_:Inv X pins σ H s)(u:Value)(k b:Int × Int)(h:∃v,RelV v u/\Ar H v k)(h':∃v,RelV v u/\Ar H v b):k=b:=by
 obtain⟨v,r,rfl,z⟩:=h
 obtain⟨d,a,rfl,c⟩:=h'
 obtain⟨t,rfl⟩:=r
 obtain⟨e,a⟩:=a
 injection a with a _
 exact Prod.ext a (z.trans c.symm)
end
def qJ(kz:Nat->Int × Int)(i j:Nat):Prop:=((kz i).1<(kz j).1\/((kz i).1=(kz j).1/\(kz i).2<(kz j).2))\/(((kz i).1=(kz j).1/\(kz i).2=(kz j).2)/\i<j)
instance {kz:Nat->Int × Int}{i j:Nat}:Decidable (qJ kz i j):=by unfold qJ; infer_instance
def sZ(kz:Nat->Int × Int)(i:Nat):List Nat->List Nat
 | []=>[i]
 |j::r=>if qJ kz i j then i::j::r else j::sZ kz i r
def Av(n:Nat)(kz:Nat->Int × Int):List Nat:=(List.range n).foldr (sZ kz) []
theorem Ml(a:Nat->Int × Int)(i:Nat):∀l,(sZ a i l).Perm (i::l)
 | []=>.refl _
 |j::r=>by
  unfold sZ
  split
  .exact .refl _
  .exact((Ml a i r).cons j).trans (.swap i j r)
theorem V7(d:Nat->Int × Int)(i:Nat):∀l,(∀j∈l,i≠j)->l.Pairwise (qJ d)->(sZ d i l).Pairwise (qJ d)
 | [],_,_=>by simp[sZ]
 |j::r,e,f=>by
  have c:=List.pairwise_cons.mp f
  unfold sZ
  split
  .rename_i b
   refine List.pairwise_cons.mpr ⟨λk a=>?_,f⟩
   rcases List.mem_cons.mp a with rfl|a
   .exact b
   .have:=c.1 k a
    unfold qJ at b this ⊢
    omega
  .rename_i b
   refine List.pairwise_cons.mpr ⟨λk a=>?_,V7 d i r (λk a=>e k (List.mem_cons_of_mem _ a)) c.2⟩
   rcases List.mem_cons.mp ((Ml d i r).mem_iff.mp a)with rfl|a
   .have:=e j (List.mem_cons_self ..)
    unfold qJ at b ⊢
    omega
   .exact c.1 k a
theorem V8(a:Nat->Int × Int):∀l:List Nat,l.Nodup->(l.foldr (sZ a) []).Perm l/\(l.foldr (sZ a) []).Pairwise (qJ a)
 | [],_=>⟨.refl _,.nil⟩
 |i::r,nd=>by
  have b:=List.nodup_cons.mp nd
  obtain⟨c,d⟩:=V8 a r b.2
  exact⟨(Ml a i _).trans (c.cons i),V7 a i _ (λj e z=>b.1 (by rw[z]; exact c.mem_iff.mp e)) d⟩
theorem V9(n:Nat)(a:Nat->Int × Int):sX n a (Av n a):=V8 a _ List.nodup_range
theorem Wa(as:∀a b,R a b->¬R b a):∀{l m:List Nat},l.Perm m->l.Pairwise R->m.Pairwise R->l=m
 | [],m,p,_,_=>by rw[List.nil_perm.mp p]
 |a::l,[],p,_,_=>by simpa using p.length_eq
 |a::l,b::m,p,f,g=>by
  have c:=List.pairwise_cons.mp f
  have d:=List.pairwise_cons.mp g
  have e:a=b:=by
   rcases List.mem_cons.mp (p.mem_iff.mp (List.mem_cons_self ..))with z|z
   .exact z
   .rcases List.mem_cons.mp (p.mem_iff.mpr (List.mem_cons_self (a:=b)))with y|y
    .exact y.symm
    .exact(as _ _ (c.1 b y) (d.1 a z)).elim
  subst e
  rw[Wa as p.cons_inv c.2 d.2]
theorem sX.eq(h:sX n kz ys):ys=Av n kz:=by
 have g:=V9 n kz
 refine Wa (R:=qJ kz) (λa b c d=>?_) (h.1.trans g.1.symm) h.2 g.2
 unfold qJ at c d
 omega
abbrev RF:=List (Option Tr)->Rs Tr
noncomputable def QS(K:FZ)(te:TE)(f:RF):Prop:=∀(W:Addr->Prop) (σ : St) (H:Hp) (Q:VK) (ts:List (Option Tr)) (T:Tr),(∀b,W b->Lt H b)->(∀(i:Nat) U,ts[i]?=some (some U)->∃v,σ[i]?=some (some v)/\Rp K W H v U)->f ts=.ok T ->
 (∀v H',Same H H'->Rp K W H' v T->Q v H')->te σ H Q
theorem Rp.up{K:FZ}{W:Addr->Prop}{H b:Hp}{v:V}{T:Tr}(h:Rp K W H v T)(s:Same H b):Rp K W b v T:=by
 have m:Same (aK W H) (aK W b):=(bV.of s).off
 rcases h with h|⟨a,c,d,f,g,e,r⟩
 .exact .inl (h.mono m)
 .exact .inr ⟨a,c,d,f,g,s _ _ e,r.mono m⟩
section
variable {K:FZ}{ta tb:TE}{fa fb:RF}
def tB(i:Nat):RF:=λts=>match ts[i]? with
 |some (some U)=>.ok U
 |_=>.bad
theorem Wb(i:Nat):QS K (iJ i) (tB i):=λW σ H Q c T hw h e q=>by
 unfold tB at e
 split at e
 .rename_i U z
  cases e
  obtain⟨v,a,b⟩:=h i _ z
  exact⟨v,a,q v H (Same.refl _) b⟩
 .cases e
def Aw(g:G2)(fa fb:RF):RF:=λts=>(fa ts).bind λa=>(fb ts).bind λb=>(g a b).bind λz=>.ok z.1
theorem ad7(o:iG K r g)(d:QS K ta fa)(f:QS K tb fb):QS K (gU r ta tb) (Aw g fa fb):=λW σ H Q c T hw h e q=>by
 obtain⟨a,j,e⟩:=jk e
 obtain⟨b,k,e⟩:=jk e
 obtain⟨z,l,e⟩:=jk e
 cases e
 refine d W σ H _ c a hw h j λx H1 s1 m=>?_
 refine f W σ H1 _ c b (λb w=>(hw b w).grow s1) (λi U z=>let⟨v,h1,h2⟩:=h i U z; ⟨v,h1,h2.up s1⟩) k λy n s2 p=>?_
 refine o W x y a b n Q (λb w=>(hw b w).grow (s1.trans s2)) (m.up s2) p ?_
 rw[l]
 intro v s s3 t
 refine q v s ((s1.trans s2).trans s3) (.inl ?_)
 exact fP.rep (λb w=>((hw b w).grow (s1.trans s2)).ne) t
def Ax(g:G1)(fa:RF):RF:=λts=>(fa ts).bind λa=>(g a).bind λz=>.ok z.1
theorem ad8(o:rT K r g)(c:QS K ta fa):QS K (Dm r ta) (Ax g fa):=λW σ H Q d T hw h e q=>by
 obtain⟨a,f,e⟩:=jk e
 obtain⟨z,i,e⟩:=jk e
 cases e
 refine c W σ H _ d a hw h f λx H1 s1 j=>?_
 refine o W x a H1 Q (λb w=>(hw b w).grow s1) j ?_
 rw[i]
 intro v k s3 l
 refine q v k (s1.trans s3) (.inl ?_)
 exact fP.rep (λb w=>((hw b w).grow s1).ne) l
end
def Ay(ρ : En)(j:Nat):Option Tr:=match ρ[j]? with
 |some (.sh T)=>some T
 |some (.ow ts)=>some (.lst ts)
 |some (.rf ts)=>some (.lst ts)
 |_=>none
def Az(src:List (Option Nat))(ρ : En):List (Option Tr):=src.map λo=>o.bind (Ay ρ)
def Ba:Tr->Option (Int × Int)
 |.int i=>some (i,0)
 |_=>none
def vW(kt:Tr->Option (Int × Int))(fb:RF)(ts:List (Option Tr)):List Nat->Rs (List (Int × Int))
 | []=>.ok []
 |i::r=>(fb (some (Tr.int i)::ts)).bind λT=>match kt T with
  |some k=>(vW kt fb ts r).bind λks=>.ok (k::ks)
  |none=>.bad
theorem Wc:∀{l:List Nat} {b:List (Int × Int)},vW kt fb ts l=.ok b->b.length=l.length/\∀(j i:Nat),l[j]?=some i->∃T k,fb (some (Tr.int i)::ts)=.ok T/\kt T=some k/\b[j]?=some k
 | [],b,h=>by cases h; exact⟨rfl,λj i z=>by simp at z⟩
 |a::l,b,h=>by
  unfold vW at h
  obtain⟨T,c,h⟩:=jk h
  split at h
  .rename_i k d
   obtain⟨e,f,h⟩:=jk h
   cases h
   obtain⟨g,m⟩:=Wc f
   refine⟨by simp[g],λj i z=>?_⟩
   cases j with
   |zero=>simp at z; subst z; exact⟨T,k,c,d,by simp⟩
   |succ j=>simpa using m j i (by simpa using z)
  .cases h
noncomputable def Gi(kt:Tr->Option (Int × Int))(src:List (Option Nat))(fa:AF)(fb:RF):EF:=λρ=>(fa ρ).bind λp=>match p.1 with
 | [.v (.int n) _]=>if 0<=n/\n<64 then(dF (vW kt fb (Az src p.2) (List.range n.toNat))).bind λks=>.ok (.v (.lst ((Av n.toNat λi=>ks.getD i (0,0)).map λi:Nat=>Tr.int i)) true,p.2)else .bad
 |_=>.bad
theorem Wd{K:FZ}{H:Hp}:∀l:List Nat,aN K H (l.map λi:Nat=>V.int i) (l.map λi:Nat=>Tr.int i)
 | []=>.nil
 |n::l=>.cons (.int n) (Wd l)
theorem ad9(e:aO t W ρ σ H)(h:Ay ρ j=some U):∃v,σ[j]?=some (some v)/\Rp t.K W H v U:=by
 unfold Ay at h
 split at h
 .rename_i T q
  cases h
  obtain⟨v,b,i⟩:=e.sh j _ q
  exact⟨v,b,.inl i⟩
 .rename_i c q
  cases h
  obtain⟨a,d,b,_,_,f,g⟩:=e.ow j _ q
  exact⟨_,b,.inr ⟨a,d,c,rfl,rfl,f,g⟩⟩
 .rename_i c q
  cases h
  obtain⟨a,d,b,_,_,f,g⟩:=e.rf j _ q
  exact⟨_,b,.inr ⟨a,d,c,rfl,rfl,f,g⟩⟩
 .cases h
theorem Gh.smt{K:FZ}{P c:Addr}{x:Str}{H i:Hp}(tb:gJ K H)(j:x∈jN)(m:tabIn K x=some (c,P))(p:∀a∈jN,∀g,tabIn K a=some (g,P)->a=x)(l:Gh P (Em x) H i):jt K H i:=by
 refine⟨λb o q n=>l.kp b o q λz=>n ?_,λa f g b e=>?_⟩
 .subst z
  exact⟨x,j,c,m⟩
 .by_cases z:b=P
  .subst z
   have:=p a f g e
   subst this
   exact l.tb
  .obtain⟨r,q,t1,s⟩:=tb a f g b e
   refine⟨r,l.kp _ _ q z,t1,λpos v k=>?_⟩
   obtain⟨d,o,t,h,u⟩:=s pos v k
   refine⟨d,o,t,l.kp _ _ h ?_,u⟩
   rintro rfl
   obtain⟨w,y,_⟩:=tb x j c d m
   rw[y]at h
   cases h
theorem aea(y:x∈jN)(A:tabIn t.K x=some (c,P))(F:∀B∈jN,∀G,tabIn t.K B=some (G,P)->B=x)
  (u:∀(W:Addr->Prop) (H:Hp) v T k,Rp t.K W H v T->kt T=some k->Kw H v k) (I:SA t ta fa) (J:QS t.K te fb):SE t (Mj Kw P (Em x) src ta te) (Gi kt src fa fb):=λW L σ H Q e h=>by
 refine I W L σ H _ e (Rs.bF (Rs.aX h) λp h M H1 g s1 v1=>?_)
 obtain⟨rs,d⟩:=p
 dsimp only at h g v1
 split at h
 case h_2=>exact h.elim
 rename_i n fr
 split at h
 case isFalse=>exact h.elim
 rename_i hn
 have ev:M=[.int n]:=by
  cases v1 with
  |cons m N =>
   cases N
   cases fr with
   |false =>
    cases m
    rfl
   |true =>
    obtain⟨_,_,_,_,z,_⟩:=m
    cases z
 obtain⟨C,O,h⟩:=dW (Rs.aX h) (Le _)
 have un:∀{α : Type} {x:Rs α} {a : α},dF x=.ok a->x=.ok a:=λ{α x a} z=>by cases x <;> first|exact z|cases z
 obtain⟨kl,R⟩:=Wc (un O)
 have nn:((n.toNat:Nat):Int)=n:=by omega
 refine⟨n.toNat,λi=>C.getD i (0,0),by rw[ev,nn],by omega,g.tab.ok x y c P A,λH2 S=>?_⟩
 obtain⟨E,s2⟩:=g.K9 (S.smt g.tab.ok y A F)
 refine⟨λi hi r s3=>?_,λD ys r s3 s V=>?_⟩
 .obtain⟨T,k,f1,f2,X⟩:=R i i (List.getElem?_range hi)
  have f:=E.grow s3
  refine J W _ r _ _ T f.wl (λj U z=>?_) f1 λv Y s4 Z=>⟨u W Y v T _ Z ?_,s4⟩
  .cases j with
   |zero=>simp at z; subst z; exact⟨.int i,by simp,.inl (.int i)⟩
   |succ j =>
    have z:(Az src d)[j]?=some (some U):=z
    unfold Az at z
    rw[List.getElem?_map]at z
    cases eq:src[j]? with
    |none=>rw[eq]at z; cases z
    |some o =>
     rw[eq]at z
     have z:=Option.some.inj z
     cases o with
     |none=>cases z
     |some l =>
      obtain⟨v,m,h2⟩:=ad9 f (show Ay d l=some U from z)
      refine⟨v,?_,h2⟩
      show(gh src σ)[j]?=some (some v)
      rw[Lg eq,m]
      rfl
  .rw[f2]
   show some k=some (C.getD i (0,0))
   rw[List.getD_eq_getElem?_getD,X]
   rfl
 .have f:=E.grow s3
  have w:=V.eq
  have st:bV W H1 r:=s2.trans (bV.of s3)
  refine h (.ref D) _ (f.grow (gD s _)) ((s1.trans st).trans (bV.of (gD s _))) (jh.back (H:=r) (jh.of (σ' := σ) f (gD s _) (fP.new s ?_)) λb q=>(s1.trans st).dom b q)
  rw[w]
  exact Wd _
theorem aeb(K:FZ)(W:Addr->Prop)(H:Hp)(v:V)(T:Tr)(k:Int × Int)(r:Rp K W H v T)(e:Ba T=some k):Ar H v k:=by
 unfold Ba at e
 split at e
 .cases e
  exact⟨r.int,rfl⟩
 .cases e
def vX(K:FZ)(mg:Str->Option Value)(x:Str)(st:Stmt)(c:Addr):Prop:=∃f fd,vp K x x st f fd/\mg x=some (.ref f)/\fd.code=.ref c
section
variable {P:Program}{w:World}{K:FZ}{mg:Str->Option Value}{base:Heap}
theorem vX.aec{c:Addr}{k:Nat}{x:Str}{st:Stmt}{N e:List Str}{sp:Sp}(a:vX K mg x st c)(S:rJ N e (bC st))
  (j:∀(kV doc pm:Value) (an:Option Addr) (b ct:Value) (us:List Value),us.length=e.length->bindArgs (fnOf x x (pN st) (jY st) (bC st) .none kV doc pm an b ct) ⟨us,[]⟩=pure (e.zip us))
  (len:∀vs H Q E,sp vs H Q E->vs.length=e.length)
  (d:∀(f:Addr) (A:Around) (outer:List Env) (s:Shared) (H:Hp) (vs:List V) (Q:VK) (E:XK),gQ k (A.deeper (envOfC x (bC st) s.heap.objs.size f (.ref c)))->sp vs H Q E ->
   ∃t,jV (lJ (j4 P w) P w K mg base N x (bC st) f (.ref c) A outer s H E) (jY st) t/\t {nx:=λ_ n=>Q .non n,rt:=Q } (start N vs) H):aQ P w K mg base (k+1) x e sp:=by
 obtain⟨f,fd,F,m,g⟩:=a
 refine⟨f,fd,?_,F.binds j,F.kp,m⟩
 obtain⟨p,od,kV,doc,pm,an,b,ct,l,rfl,lk,i⟩:=F.ex
 have g:b=.ref c:=g
 subst g
 exact S7 lk i S len λA outer s H vs Q E o h=>d f A outer s H vs Q E o h
theorem vX.aed{c:Addr}{k:Nat}{x:Str}{st:Stmt}{N m:List Str}{cl:Str->Addr}{b:SF}(a:vX K mg x st c)(S:rJ N m (bC st))(X:m.length<=N.length)
  (L:∀(kV doc pm:Value) (an:Option Addr) (C ct:Value) (us:List Value),us.length=m.length->bindArgs (PySem.W.fnOf x x (pN st) (jY st) (bC st) .none kV doc pm an C ct) ⟨us,[]⟩=pure (m.zip us))
  (g:∀(f:Addr) (A:Around) (outer:List Env) (s:Shared) (H:Hp) (E:XK),gQ k (A.deeper (envOfC x (bC st) s.heap.objs.size f (.ref c))) ->
   ∃ts,jV (lJ (j4 P w) P w K mg base N x (bC st) f (.ref c) A outer s H E) (jY st) ts/\∀t:Tx,t.K=aJ K->(∀c d,F0 t d->t.EX c->E (.ref (cl c)) none d)->SS t ts b) :
  aQ P w K mg base (k+1) x m (aV K cl m.length (bf N.length b)):=by
 refine a.aec S L (λF H Q E h=>?_) (λf A outer s H F Q E M h=>?_)
 .obtain⟨_,_,h,_⟩:=h; exact h
 obtain⟨Z,as,Y,r,G,tb,h⟩:=h
 obtain⟨ts,O,R⟩:=g f A outer s H E M
 refine⟨ts,O,?_⟩
 have I:∀(b:Addr) (W:Addr->Prop) J σ d,aO ⟨aJ K,Z,Tb (aJ K),H,λ_=>none,λc=>∀d,jt (aJ K) H d->E (.ref (cl c)) none d⟩ W J σ d->jt (aJ K) H d:=λ_ W J σ d e=>⟨λb o q n=>e.f0 b o q n,e.tab.ok⟩
 have r:=r.pY (K8 tb)
 refine R ⟨aJ K,Z,Tb (aJ K),H,λ_=>none,λc=>∀d,jt (aJ K) H d->E (.ref (cl c)) none d⟩ rfl (λc d f0 q=>q d ⟨λb o z n=>f0.1 b o z n,f0.2⟩) (λb=>Z b\/Tb (aJ K) b) (bQ N.length as) (start N F) H _ ?_ (Rs.bF (Rs.aX h) λq h=>?_)
 .have la:=r.length
  have y:∀(i:Nat) (us:List Tr),(bQ N.length as)[i]?=some (.dp us)->False:=λi us q=>by
   rcases lU q with⟨B,q1,z⟩|z <;> cases z
  refine⟨λ_=>[],?_,λ_ z=>.inl z,λb z=>?_,λb z=>z.elim (G b) (λz=>.inr (.inl (tb.eE z))),λb o q _=>q,λb q=>q,λi u q=>?_,λi us q=>?_,λi us q=>?_,λi j c m1 m2=>?_,λb o z=>(by cases z),λ_ _ _ _=>rfl,λi us q=>(y i us q).elim,λi _ us _ _ q=>(y i us q).elim,λi _ us _ q=>(y i us q).elim,λi us q=>(y i us q).elim,⟨tb,λ_ z=>.inr z,λ_ z=>z,λ_ _=>rfl⟩⟩
  .unfold bQ start
   simp only[List.length_append,List.length_map,List.length_replicate]
   omega
  .exact(G b z).ne
  .rcases lU q with⟨B,q1,z⟩|z
   .cases z
    obtain⟨v,U,V⟩:=r.mK q1
    exact⟨v,Lb U,V⟩
   .cases z
  .rcases lU q with⟨B,q1,z⟩|z <;> cases z
  .rcases lU q with⟨B,q1,z⟩|z <;> cases z
  .obtain⟨us,q|q⟩:=m1 <;> rcases lU q with⟨B,q1,z⟩|z <;> cases z
 .obtain⟨fl,p⟩:=q
  cases fl with
  |nx=>exact λD l d e n=>h .non d (I 0 D p l d e) .non
  |rt T fr =>
   refine λv D l d e n=>h v d (I 0 D p l d e) ?_
   cases fr <;> exact n
  |bk=>exact h.elim
  |ct=>exact h.elim
end
noncomputable def Bb(K:FZ)(x:Str):Option (Addr × Addr):=match K.lookup mainGlobals with
 |some o=>if o.cls == .type "list" then none else(match nsIn K mainGlobals x with
  | some (some (.ref f))=>(match K.lookup f with
   |some o=>if o.cls == .type "list" then none else(match o.data with
    | .func fd=>(match fd.code with
     | .ref c=>(match K.lookup c with
      |some o=>if o.cls == .type "list" then none else tabIn K x
      |_=>none)
     |_=>none)
    |_=>none)
   |_=>none)
  |_=>none)
 |_=>none
theorem Mp{o:Obj}(h:(o.cls == .type "list")=false):gK o=o:=by
 unfold gK
 rw[if_neg]
 rintro⟨z,_⟩
 rw[z]at h
 exact absurd h (by decide +kernel)
theorem aee{K:FZ}{x:Str}{o:Obj}(h:K.lookup mainGlobals=some o)(n:(o.cls == .type "list")=false):nsIn (aJ K) mainGlobals x=nsIn K mainGlobals x:=by
 have e:(aJ K).lookup mainGlobals=K.lookup mainGlobals:=by
  rw[oU,h]
  show some (gK o)=some o
  rw[Mp n]
 unfold nsIn
 rw[e]
theorem Wf{K:FZ}{x:Str}{z:Addr × Addr}(h:Bb K x=some z):tabIn K x=some z/\tabIn (aJ K) x=some z:=by
 unfold Bb at h
 split at h
 .rename_i k a
  split at h
  .cases h
  .rename_i n1
   split at h
   .rename_i f hf
    split at h
    .rename_i b d
     split at h
     .cases h
     .rename_i e
      split at h
      .rename_i fd hd
       split at h
       .rename_i c g
        split at h
        .rename_i l i
         split at h
         .cases h
         .rename_i j
          refine⟨h,?_⟩
          rw[<-h]
          unfold tabIn
          rw[aee a (by simpa using n1),hf]
          dsimp only
          rw[oU,d]
          dsimp only[Option.map]
          rw[Mp (by simpa using e)]
          obtain⟨a1,a2,m,n⟩:=b
          dsimp only at hd
          subst hd
          dsimp only
          rw[g]
          dsimp only
          rw[oU,i]
          dsimp only[Option.map]
          rw[Mp (by simpa using j)]
        .cases h
       .cases h
      .cases h
    .cases h
   .cases h
 .cases h
theorem Mq{o:Obj}{d:Data}(h:(gK o).data=d)(n:d ≠ .fields #[]):gK o=o:=by
 unfold gK at h ⊢
 split at h
 .exact(n h.symm).elim
 .rename_i q
  rw[if_neg q]
theorem Wg{K:FZ}{x:Str}{z:Addr × Addr}(h:tabIn (aJ K) x=some z):tabIn K x=some z:=by
 unfold tabIn at h
 split at h
 .rename_i f hf
  have g1:nsIn K mainGlobals x=some (some (.ref f)):=by
   unfold nsIn at hf
   rw[oU]at hf
   cases e:K.lookup mainGlobals with
   |none=>rw[e]at hf; cases hf
   |some o =>
    rw[e]at hf
    unfold nsIn
    rw[e]
    have q:gK o=o:=by
     dsimp only[Option.map]at hf
     split at hf
     .rename_i a b l m c eq
      have eq:gK o=⟨a,b,.dict l m,c⟩:=Option.some.inj eq
      exact Mq (d:=.dict l m) (by rw[eq]) (by intro z; cases z)
     .cases hf
    dsimp only[Option.map]at hf
    rw[q]at hf
    exact hf
  split at h
  .rename_i a b fd j g
   have g2:K.lookup f=some ⟨a,b,.func fd,j⟩:=by
    rw[oU]at g
    cases e:K.lookup f with
    |none=>rw[e]at g; cases g
    |some o =>
     rw[e]at g
     have eq:gK o=⟨a,b,.func fd,j⟩:=Option.some.inj g
     rw[Mq (d:=.func fd) (by rw[eq]) (by intro z; cases z)]at eq
     rw[eq]
   split at h
   .rename_i c t
    split at h
    .rename_i n p k r i
     split at h
     .rename_i u s
      cases h
      have g3:K.lookup c=some ⟨n,p,.fields k,r⟩:=by
       rw[oU]at i
       cases e:K.lookup c with
       |none=>rw[e]at i; cases i
       |some o =>
        rw[e]at i
        have eq:gK o=⟨n,p,.fields k,r⟩:=Option.some.inj i
        rw[Mq (d:=.fields k) (by rw[eq]) (by intro z; injection z with z; subst z; simp at s)]at eq
        rw[eq]
      unfold tabIn
      rw[g1]
      dsimp only
      rw[g2]
      dsimp only
      rw[t]
      dsimp only
      rw[g3]
      dsimp only
      rw[s]
     .cases h
    .cases h
   .cases h
  .cases h
 .cases h
structure Gj(K:FZ)(mg:Str->Option Value)(base:Heap)(x:Str)(c P:Addr):Prop where
 nm:x∈jN
 hd:CodeHd base c P
 bm:sY mg base
 tab:tabIn (aJ K) x=some (c,P)
 un:∀x'∈jN,∀c',tabIn (aJ K) x'=some (c',P)->x'=x
theorem aef{t:Tx}{K:FZ}{mg:Str->Option Value}{base:Heap}{x:Str}{c P:Addr}{src:List (Option Nat)}{b:TA}{d:AF}{te:TE}{fb:RF}(L:Gj K mg base x c P)(a:t.K=aJ K)(e:SA t b d)(f:QS (aJ K) te fb):SE t (Mj Ar P (Em x) src b te) (Gi Ba src d fb) :=
 aea (c:=c) L.nm (by rw[a]; exact L.tab) (by rw[a]; exact L.un) (aeb _) e (by rw[a]; exact f)
theorem aeg{K:FZ}{x:Str}{f c P:Addr}{b:Obj}{d:Value}{od:Option Addr}{fd:FuncData}{h:Array (Option Value)}{e:Value}{cd:Option Addr}{vs:Array Value}{cs:Array (Option Value)}(a:nsIn K mainGlobals x=some (some (.ref f)))(l1:K.lookup mainGlobals=some b)(n1:(b.cls == .type "list")=false)
  (l2:K.lookup f=some ⟨d,od,.func fd,h⟩) (i:(d == .type "list")=false) (g:fd.code=.ref c) (l3:K.lookup c=some ⟨e,cd,.fields vs,cs⟩) (j:(e == .type "list")=false) (k:vs[11]?=some (.ref P)):Bb K x=some (c,P):=by
 unfold Bb
 rw[l1]
 dsimp only
 rw[if_neg (by rw[n1]; exact Bool.false_ne_true),a]
 dsimp only
 rw[l2]
 dsimp only
 rw[if_neg (by rw[i]; exact Bool.false_ne_true),g]
 dsimp only
 rw[l3]
 dsimp only
 rw[if_neg (by rw[j]; exact Bool.false_ne_true)]
 unfold tabIn
 rw[a]
 dsimp only
 rw[l2]
 dsimp only
 rw[g]
 dsimp only
 rw[l3]
 dsimp only
 rw[k]
theorem Wi{K:FZ}{x:Str}(a:nsIn K mainGlobals x=some none):tabIn K x=none:=by
 unfold tabIn
 rw[a]
theorem aeh{K:FZ}{mg:Str->Option Value}{base:Heap}{x:Str}{c P:Addr}(nm:x∈jN)(g:∀x∈jN,∀c b,tabIn K x=some (c,b)->CodeHd base c b)(bm:sY mg base)(q:Bb K x=some (c,P))(h:∀a∈jN,a=x\/∀d,tabIn K a≠some (d,P)):Gj K mg base x c P :=
 ⟨nm,g x nm c P (Wf q).1,bm,(Wf q).2,λa f d e=>(h a f).elim id λz=>(z d (Wg e)).elim⟩
end L2
end
section
namespace L2
open PySem PySem.Spec PyProof.Rows
section
variable {X:Cx}
def Mr:V->List V->Hp->VK->Prop:=λx vs H Q=>∃(l:Addr) (xs:List V) (k:Nat) (y:V),x=.ref l/\vs=[.int (k:Int),y]/\H l=some (.lst xs)/\k<=xs.length/\xs.length<=100000/\Q .non (upd H l (.lst (xs.take k++y::xs.drop k)))
theorem Wj:DX X "list.insert" Mr:=by
 intro pins s σ H x B v C Q I p b h
 obtain⟨l,g,k,y,rfl,rfl,j,D,E,q⟩:=h
 cases p
 cases b with
 |cons w b =>
 cases b with
 |cons A b =>
 cases b
 obtain⟨t,rfl⟩:=w
 rename_i u
 obtain⟨z,a,n,r,G,e⟩:=I.Eb j
 have big:100000+1<=sizeLine:=Nat.le_of_lt (show 100001<sizeLine from by unfold sizeLine; omega)
 have d:a.toArray.size<=sizeLine:=by rw[List.size_toArray]; omega
 have f:(if(k:Int)<0 then((k:Int)+(a.toArray.size:Int)).toNat else min (k:Int).toNat a.toArray.size)=k:=by
  rw[if_neg (by omega),Int.toNat_natCast,List.size_toArray]
  omega
 have m : -(2 ^ 63)<=(k:Int):=by omega
 have o:(k:Int)<2 ^ 63:=by omega
 have c:¬(!Builtin.List.listFitsIndex (k:Int))=true:=by rw[fitsIndex_both m o]; exact Bool.false_ne_true
 have hlen:(g.take k++y::g.drop k).length<=sizeLine:=by
  rw[List.length_append,List.length_cons,List.length_take,List.length_drop]
  omega
 clear m o big
 generalize (k:Int)=i at *
 refine call_meets F.slot_list_insert ⟨_,e,rfl⟩ F.entry_list_insert (F.args_list_insert_3 _ _ _)
  (AutoSeq1.list_insert_list_int_val_1 l a.toArray n i t u c d) ⟨e,?_⟩
 refine⟨.non,_,I.DY (its':=a.take k++u::a.drop k) j e ?_ (Vals.append (r.take _) (.cons A (r.drop _))) hlen,rfl,q⟩
 show(a.toArray.extract 0 (if i<0 then(i+(a.toArray.size:Int)).toNat else min i.toNat a.toArray.size)).push u++a.toArray.extract (if i<0 then(i+(a.toArray.size:Int)).toNat else min i.toNat a.toArray.size)=_
 rw[f]
 exact PySem.W.kl_ins_eq a k u
end
def p7:GM:=λts as=>match as with
 | [.int i,T]=>if 0<=i/\i.toNat<=ts.length/\ts.length<=100000 then .ok (ts.take i.toNat++T::ts.drop i.toNat,.non)else .bad
 |_=>.bad
theorem aei:zQ Mr p7:=λK G a b n o as H Q d T e r f q h=>by
 unfold p7 at q
 split at q
 .rename_i i U
  split at q
  .rename_i c
   cases q
   cases f with
   |cons g j =>
    cases j with
    |cons l m =>
     cases m
     cases g
     obtain⟨k,rfl⟩:∃k:Nat,(k:Int)=i:=⟨i.toNat,by omega⟩
     rw[Int.toNat_natCast]at c h
     exact⟨a,b,k,_,rfl,rfl,e,by rw[r.length]; exact c.2.1,by rw[r.length]; exact c.2.2,h _ _ ((r.take k).app (.cons l (r.drop k))) .non⟩
  .cases q
 .cases q
theorem aej(ts as:List Tr)(c:Str):p7 ts as ≠ .ex c:=by
 unfold p7
 split <;> (try split) <;> (intro z; cases z)
theorem Wk{t:Tx}{K:FZ}{te a:TE}{f f2:EF}(i:Nat)(h:SE t te f)(b:SE t a f2):SE t (DW K "list" Mr (iJ i) (mG te (mG a uf))) (fY i p7 (ak f (ak f2 au))):=Vc i aei aej (bh h (bh b bU))
noncomputable def Ite(K:FZ)(l:Addr):It where
 go:=λi H=>∃xs x,bH K H l xs/\xs[i]?=some x
 oR:=λi H v H'=>∃(T:Addr) (x:V),v=.ref T/\H T=none/\H'=upd H T (.tup [.int (i:Int),x])/\∀xs,bH K H l xs->xs[i]?=some x
 stop:=λi H=>∃xs,bH K H l xs/\i=xs.length
def aek(l e it:Addr)(i:Nat)(h:Heap):Prop:=(∃old,IsEnum h e it i old)/\h.IsListIter it l i
section
variable {P:Program}{w:World}{K:FZ}
theorem ael(l e it:Addr)(p:e≠it)(hle:l≠e)(y:l≠it):Turn P w K (.Tuple elts k pos) (Ite K l) [e,it] e (aek l e it) where
 mem:=by simp
 obj:=λi h st b c=>by
  obtain⟨⟨old,he⟩,⟨z,d,_,B⟩⟩:=st
  have a:b=e\/b=it:=by simpa using c
  rcases a with rfl|rfl
  .exact⟨_,he,λv q=>nomatch q⟩
  .exact⟨z,d,λv q=>by rw[B]at q; cases q⟩
 keep:=λi h O st kp=>by
  obtain⟨⟨old,he⟩,Y⟩:=st
  exact⟨⟨old,kp e (by simp) _ he⟩,Y.at λo q=>kp it (by simp) o q⟩
 item:=by
  intro X C hw D F i pins s σ H E I hf st G
  subst C hw D
  obtain⟨Z,x,q1,R⟩:=G
  obtain⟨j,J,L,_⟩:=I.list q1
  obtain⟨u,S,ru⟩:=J.get R
  have W:=WalksT.enumerate (prog:=X.prog) (w:=X.w) (A:=X.A) (I.ok.hd F) e it l p hle y j.toArray
  have lt1:i<j.length:=(List.getElem?_eq_some_iff.mp S).1
  refine W.item i s _ E (by simp; omega) ⟨st.1,st.2,L.isList⟩ λT vals O U hp M ht mid N=>?_
  obtain⟨t0,t,d,rfl⟩:=hp
  have eu:t=u:=by
   have:j[i]?=some t:=by simpa using d
   rw[S]at this; cases this; rfl
  subst eu
  refine⟨.ref T,rfl,?_⟩
  refine W.go elts k pos i T _ _ E mid λf g V=>?_
  have nT:=W.apart i T _ mid
  have ob:∀b∈[e,it],b<s.heap.objs.size:=λb c=>by
   obtain⟨⟨old,he⟩,⟨z,d,_,B⟩⟩:=st
   have a:b=e\/b=it:=by simpa using c
   rcases a with rfl|rfl
   .exact Heap.lt_size he
   .exact Heap.lt_size d
  have Ku:T∉[e,it]:=λm=>absurd (ob T m) (Nat.not_lt.mpr M)
  have Ky:IsTup f T #[.int i t0,t]:=by
   obtain⟨o,e',r⟩:=ht
   exact⟨o,V T o nT e',r⟩
  have th:∀b∈[e,it],∃o,f.get? b=some o:=λb c=>by
   obtain⟨⟨old,he⟩,⟨z,d,_,B⟩,_⟩:=g
   have a:b=e\/b=it:=by simpa using c
   rcases a with rfl|rfl
   .exact⟨_,he⟩
   .exact⟨_,d⟩
  have I':Inv X pins σ (upd H T (.tup [.int (i:Int),x])) {s with heap:=f,toks:=U }:=I.Kr (its:=[.int i t0,t]) hf (λb o n e=>V b o n (N b o n e)) th M Ky (.cons ⟨_,rfl⟩ (.cons ru .nil)) (by show 2<=sizeLine; decide)
  refine⟨.ref T,_,I',rfl,⟨T,x,rfl,I.hok.fresh M,rfl,λxs' a1=>?_⟩,⟨g.1,g.2.1⟩,λb c=>?_⟩
  .rw[I.tY a1 q1]
   exact R
  .have nb:b≠T:=by
    intro e0
    rw[e0]at c
    exact Ku c
   rw[bA nb]
   exact(hf b c).1
 done:=by
  intro X C hw D F i pins s σ H E I hf st G
  subst C hw D
  obtain⟨Z,q1,d⟩:=G
  obtain⟨j,J,L,_⟩:=I.list q1
  have W:=WalksT.enumerate (prog:=X.prog) (w:=X.w) (A:=X.A) (I.ok.hd F) e it l p hle y j.toArray
  have ei:i=j.toArray.size:=by simp[d,J.length]
  subst ei
  exact W.done s _ E ⟨st.1,st.2,L.isList⟩ λO U N=>⟨rfl,I.Ks hf λb o n e=>N b o n e⟩
 self:=λA i s Q E st h=>by
  obtain⟨⟨old,he⟩,_⟩:=st
  exact wpAny_pyIter_enum he h
end
section
variable {X:Cx}
def Wm(K:FZ)(ta:TA):TI:=λσ H R=>ta σ H λvs H1=>∃l,vs=[.ref l]/\(∃xs,bH K H1 l xs)/\R (Ite K l) H1
theorem aem(hm:X.mg "enumerate" = none) (i:PA X [a] ta) (j:X.env.kindOf "enumerate" = some .globalImplicit:=by kernel_rfl) (m:notStar a=true:=by kernel_rfl) :
  PI X (.Tuple elts k tpos) (.Call (.Name "enumerate" p) [a] [] pos) (Wm X.K ta):=by
 intro pins s σ H R I h
 refine Call_ (qY I j hm (show bootBuiltins "enumerate" = some (.type "enumerate") by decide +kernel) (PyProof.Rows.callWith_type1 (bJ (i pos pins s σ H _ I h) λy s1 ⟨z,H1,d,n,q1⟩=>?_) (ux m) rfl) (by decide +kernel) (by kernel_rfl))
 obtain⟨l,e,⟨A,o⟩,q⟩:=q1
 subst e
 cases n with
 |cons r t =>
  cases t
  cases r
  obtain⟨B,C,g,_⟩:=d.list o
  obtain⟨D,u,_⟩:=g.isList
  have lt:=Heap.lt_size u
  refine call_enumerate_list g.isList λE he hit v w=>?_
  refine wpAny_pyIter_enum he ?_
  refine⟨_,[_,_],_,_,H1,rfl,d.kept (t':=s1.toks) w,ael l _ _ (Nat.succ_ne_self _) (Nat.ne_of_lt (Nat.lt_succ_of_lt lt)) (Nat.ne_of_lt lt),⟨⟨_,he⟩,hit⟩,λc x=>?_,q⟩
  have f:c=s1.heap.objs.size+1\/c=s1.heap.objs.size:=by simpa using x
  have b:s1.heap.objs.size<=c:=by rcases f with rfl|rfl <;> omega
  exact d.pI b (d.hok.fresh b)
end
section
variable {t:Tx}
def xQ(us:List Tr):List Tr:=us.zipIdx.map λp=>.tup [.int (p.2:Nat),p.1]
theorem aen{K:FZ}{W:Addr->Prop}{H:Hp}{a:Addr}{xs:List V}{us:List Tr}(q1:bH (aJ K) (aK W H) a xs)(g:aN (aJ K) (aK W H) xs us):uH (aJ K) W H (Ite K a) (xQ us):=λd c m hw i=>by
 have e:bH K c a xs:=((iR d c).seq (m.seq q1)).toK
 refine⟨λz=>⟨xs,e,by rw[g.length,z]; simp[xQ]⟩,λu f=>?_⟩
 unfold xQ at f
 rw[List.getElem?_map]at f
 obtain⟨p,h,rfl⟩:=Option.map_eq_some_iff.mp f
 rw[List.getElem?_zipIdx]at h
 obtain⟨y,l,rfl⟩:=Option.map_eq_some_iff.mp h
 obtain⟨x,j,n⟩:=g.mK l
 refine⟨⟨xs,x,e,j⟩,λv C r=>?_⟩
 obtain⟨T,D,rfl,fT,rfl,z⟩:=r
 have k:=z xs e
 rw[j]at k
 cases k
 have s:¬d T:=λw=>(hw T w).ne fT
 have A:Same c (upd c T (.tup [.int (i:Int),x])):=gD fT _
 have B:Same (aK d c) (aK d (upd c T (.tup [.int (i:Int),x]))):=λb u q=>(zE (o:=.tup [.int (i:Int),x]) fT b u q |> λz=>(zx _ _ b u z))
 refine⟨A,?_⟩
 show Rep _ _ (.ref T) (.tup [.int ((0+i:Nat):Int),y])
 rw[Nat.zero_add]
 refine .tup (xs:=[.int (i:Int),x]) (.inl (.inl ?_)) (.cons (.int _) (.cons ((n.mono m).mono B) .nil))
 unfold aK
 rw[if_neg s,dM]
def Ms(fa:AF):IF:=λρ=>(fa ρ).bind λp=>match p.1 with
 | [.v (.lst us) _]=>.ok (xQ us,p.2)
 |_=>.bad
theorem aeo{K:FZ}(b:t.K=aJ K){c:TA}{d:AF}(f:SA t c d):SI t (Wm K c) (Ms d):=λW g σ H R e h=>by
 refine f W g σ H _ e (Rs.bF (Rs.aX h) λp h m H1 i s1 v1=>?_)
 split at h
 .rename_i n _ j
  rw[j]at v1
  cases v1 with
  |cons a k =>
   cases k
   have a:=a.rep e.wn
   rw[b]at a
   cases a with
   |lst q1 l =>
    refine⟨_,rfl,⟨_,((iR _ _).seq q1).toK⟩,h _ H1 i s1 ?_⟩
    rw[b]
    exact aen q1 l
 .exact h.elim
end
def tD(src:List (Option Nat))(n:Nat)(g:GF)(c:BF)(f:EF):EF:=λρ=>(con ρ n).bind λus=>if us.length<=100000 then(dF (jm g c f us (fQ src ρ))).bind λz=>if fZ src z.2 ρ = true then .ok (.v (.lst z.1) true,cN src z.2 ρ)else .bad else .bad
theorem Wn{t:Tx}{K:FZ}(hK:t.K=aJ K){g:TG}{src:List (Option Nat)}{tc:TT}{te:TE}{S:GF}{c:BF}{f:EF}{js:List Nat}(n:Nat)(hn:∀k:Nat,src[k]? ≠ some (some n))(I:Inj src)(hj:∀k j:Nat,src[k]?=some (some j)->k∉js)(ng:∀T ρ c,S T ρ ≠ .ex c)
  (hg:∀t':Tx,t'.K=t.K->(∀c,¬t'.EX c)->SG t' g S js) (hc:∀t':Tx,t'.K=t.K->(∀c,¬t'.EX c)->ST t' tc c) (he:∀t':Tx,t'.K=t.K->(∀c,¬t'.EX c)->SE t' te f):SE t (vO (xK K (iJ n)) g src tc te) (tD src n S c f):=λW ρ σ H Q e h=>by
 obtain⟨A,kc,h⟩:=dW (Rs.aX h) (Fj _ _)
 obtain⟨mu,a,L,P,wa,ha,ra,_⟩:=e.con kc
 refine .inl ⟨.ref a,P,a,rfl,⟨L,bH.of ha⟩,?_⟩
 split at h
 case isFalse=>exact h.elim
 rename_i hlen
 intro D C
 have h:=zV (Rs.aX h)
 obtain⟨F,V⟩:=id e
 have wD:∀b,W b->b≠D:=λb w z=>by subst z; exact e.wn b w C
 have uN:t.H0 D=none:=e.n0 D C
 refine⟨λi m X J=>m=A.length-i/\i<=A.length/\∃R d acc,aO (iK t src ρ σ F H D d) (λb=>W b\/b=D) R X J/\aN t.K (aK (λb=>W b\/b=D) J) d acc/\d.length<=i/\(∀b o,¬W b->H b=some o->J b=some o)/\(∀k,k∉js -> X[k]?=(gh src σ)[k]?) /\
   (jm S c f (A.drop i) R).post (λ_=>False) (λz=>(if fZ src z.2 ρ = true then .ok (.v (.lst (acc++z.1)) true,cN src z.2 ρ)else .bad:Rs (Rv × En)).post t.EX (λp=>∀v J,aO t W p.2 σ J->bV W H J->jh t W p.2 σ H J v p.1->Q v J)),?_,?_⟩
 .refine⟨A.length,by simp,Nat.zero_le _,fQ src ρ,[],[],V.enter I C,.nil,Nat.le_refl _,λb o _ q=>?_,λ_ _=>rfl,?_⟩
  .rw[bA (iV q C)]; exact q
  .rw[List.drop_zero]; exact h
 .rintro i m X l ⟨rfl,hi,B,d,acc,N,r2,l2,O,a2,E⟩
  have sm:Same (aK W H) (aK (λb=>W b\/b=D) l):=λb o q=>by
   obtain⟨nw,q⟩:=iZ q
   rw[eG]
   .exact O b o nw q
   .rintro(z|rfl)
    .exact nw z
    .rw[C]at q; cases q
  have nD0:a≠D:=wD a wa
  have h2a:l a=some (.lst L):=N.pn a _ ((uM nD0 (.inl ⟨n,mu,P,hn⟩)).trans ha)
  have q':bH K l a L:=bH.of h2a
  have q:(i=A.length->(rG K a).stop i l)/\∀u,A[i]?=some u->(rG K a).go i l/\∀x Y,(rG K a).oR i l x Y->Same l Y/\Rep t.K (aK (λb=>W b\/b=D) Y) x u:=by
   refine⟨λz=>⟨L,q',by rw[ra.length]; omega⟩,λu hu=>?_⟩
   obtain⟨x,hx,rx⟩:=ra.mK hu
   refine⟨⟨L,x,q',hx⟩,λy Y yl=>?_⟩
   obtain⟨rfl,z⟩:=yl
   have:=z L q'
   rw[hx]at this
   cases this
   exact⟨Same.refl _,rx.mono sm⟩
  by_cases G:i<A.length
  .rw[List.drop_eq_getElem_cons G]at E
   obtain⟨go,y⟩:=q.2 A[i] (by simp[G])
   refine .inr ⟨go,λx H3 yl=>?_⟩
   obtain⟨s3,r3⟩:=y x H3 yl
   have e3:=N.grow s3
   refine hg (iK t src ρ σ F H D d) rfl (λ_=>id) _ B X H3 x A[i] _ e3 r3 (Rs.bF (kj (Rs.aX E) (ng _ _)) λρ4 h M e4 a4=>?_)
   refine hc (iK t src ρ σ F H D d) rfl (λ_=>id) _ ρ4 M H3 _ e4 (Rs.bF (Rs.aX h) λb h H5 e5 s5=>?_)
   have iW:bV (λb=>W b\/b=D) l H5:=(bV.of s3).trans s5
   have n5:∀b o,¬W b->H b=some o->H5 b=some o:=λb o nw qb=>by
    have Z:b≠D:=iV qb C
    refine iW.keep b o ?_ (O b o nw qb)
    rintro(z|z)
    .exact nw z
    .exact Z z
   have a5:∀k,k∉js -> M[k]?=(gh src σ)[k]? := λk nk=>(a4 k nk).trans (a2 k nk)
   split at h
   .rename_i cb
    rw[if_pos cb]
    refine he (iK t src ρ σ F H D d) rfl (λ_=>id) _ b.2 M H5 _ e5 (Rs.bF (Rs.aX h) λp h v H6 e6 s6 v6=>?_)
    obtain⟨T,kT,h⟩:=dW (Rs.aX h) (Lj _)
    have rv:Rep t.K (aK (λb=>W b\/b=D) H6) v T:=by
     obtain⟨r,ρ7⟩:=p
     cases r with
     |s i=>cases kT
     |v U fr =>
      cases kT
      exact fP.rep (K:=t.K) e5.wn v6.1
    refine⟨d,e6.pn D _ qG,Nat.lt_of_le_of_lt (show d.length<=100000 by omega) (by decide),A.length-(i+1),by omega,rfl,G,p.2,d++[v],acc++[T],e6.Vj (.inr rfl) uN,?_,by rw[List.length_append]; simp; omega,λb o nw q=>?_,a5,?_⟩
    .rw[lM (.inr rfl)]
     exact(r2.mono (iW.trans s6).off).app (.cons rv .nil)
    .have Z:b≠D:=iV q C
     rw[bA Z]
     refine s6.keep b o ?_ (n5 b o nw q)
     rintro(z|z)
     .exact nw z
     .exact Z z
    .refine Rs.bF (Rs.aX h) λz h=>?_
     rw[List.append_assoc]
     exact h
   .rename_i cb
    rw[if_neg cb]
    exact⟨A.length-(i+1),by omega,rfl,G,b.2,d,acc,e5,r2.mono iW.off,by omega,n5,a5,h⟩
  .have z:i=A.length:=by omega
   subst z
   rw[List.drop_length]at E
   have E:(if fZ src B ρ = true then .ok (.v (.lst (acc++[])) true,cN src B ρ)else .bad:Rs (Rv × En)).post t.EX _:=E
   refine .inl ⟨q.1 rfl,?_⟩
   split at E
   .rename_i so
    rw[List.append_nil]at E
    have hxs:l D=some (.lst d):=N.pn D _ qG
    have eW:aO t W (cN src B ρ) σ l:=⟨F,V.leave (Wx:=W) I C N O hj a2 so (λ_ w=>w) λ_ w=>.inl w⟩
    have eD:qm t W D (cN src B ρ) σ l:=⟨F,V.leave (Wx:=λb=>W b\/b=D) I C N O hj a2 so (λ_ w=>.inl w) λ_ w=>w,λi ts hi z=>by
     obtain⟨c,L,_,bs,_,_,ww,_⟩:=V.dp i ts (nY I hi)
     exact wD D (ww D z).1 rfl⟩
    have st:bV W H l:=⟨O,λb q=>by
     cases z:H b with
     |none=>rfl
     |some o =>
      by_cases w:W b
      .exact((N.wl b (.inl w)).ne q).elim
      .rw[O b o w z]at q
       cases q⟩
    refine E (.ref D) l eW st ⟨⟨D,d,acc,rfl,rfl,C,hxs,r2.mono λb o q=>?_⟩,λU a _ ea=>?_⟩
    .obtain⟨nb,q⟩:=iZ q
     rw[off_ne λz=>nb (.inr z),eG λz=>nb (.inl z)]
     exact q
    .cases ea
     exact eD
   .exact E.elim
theorem Wq{src:List (Option Nat)}{n:Nat}(h:src.all (λo=>o != some n)=true):∀k:Nat,src[k]? ≠ some (some n):=λk e=>by
 have:=List.all_eq_true.mp h _ (List.mem_of_getElem? e)
 simp at this
open PySem.W
def Gm:List Str := "HeadError" :: pO
def isub(c d:Str):Bool:=c == d || d == ("HeadError" : Str)
def Wr:List Ty:=[.int,.bool,.str,.tuple,.list]
def Gn(K:Frag)(cs:List Str)(p:Str->Addr->Bool):Bool:=cs.all λc=>match nsIn K mainGlobals c with
 |some (some (.ref C))=>p c C
 |_=>true
theorem Mt{K:Frag}{cs:List Str}{p:Str->Addr->Bool}(h:Gn K cs p=true){c:Str}(m:c∈cs){C:Addr}(n:nsIn K mainGlobals c=some (some (.ref C))):p c C=true:=by
 have:=List.all_eq_true.mp h c m
 rw[n]at this
 exact this
noncomputable def Mv(K:Frag)(C:Addr):Bool:=findIn K (.ref C) "__getattribute__" == some (some (.builtin "BaseException.__getattribute__"))&&findIn K (.ref C) "__getattr__" == some none&&findIn K (.ref C) "__class__" == some (some (.builtin "object.__class__"))&&mroIn K C (.type "object") == some true&&mroIn K C (.type "BaseException") == some true&&(clsIn K C).isSome
theorem aep{K:Frag}{C:Addr}(h:Mv K C=true):qe K C:=by
 unfold Mv at h
 simp only[Bool.and_eq_true]at h
 obtain⟨⟨⟨⟨⟨a,b⟩,c⟩,d⟩,e⟩,f⟩:=h
 exact⟨beq_iff_eq.mp a,beq_iff_eq.mp b,beq_iff_eq.mp c,beq_iff_eq.mp d,beq_iff_eq.mp e,f⟩
noncomputable def Ws(K:Frag):Bool :=
 Gn K pO (λ_ C=>Mv K C&&Wr.all (λy=>kitOne K (.ref C) (.type y.name) == some false)&&kitOne K (.ref C) (.type "ValueError") == some true) &&
 Gn K Gm (λd D=>kitOne K (.type "NoneType") (.ref D) == some false&&Gn K pO (λc C=>kitOne K (.ref C) (.ref D) == some (isub c d)&&(!(d == ("HeadError" : Str)) || exmOne K (.ref C) (.ref D) == some true))) &&
 kitOne K (.type "NoneType") (.type "ValueError") == some false&&(match K.lookup mainGlobals with
  |some o=>o.cls != .type "list"
  |none=>true)
structure lu(K:Frag):Prop where
 o:Eh K
 n:∀d∈Gm,∀D,nsIn K mainGlobals d=some (some (.ref D))->kitOne K (.type "NoneType") (.ref D)=some false
 k:∀d∈Gm,∀D,nsIn K mainGlobals d=some (some (.ref D))->∀c∈pO,∀C,nsIn K mainGlobals c=some (some (.ref C))->kitOne K (.ref C) (.ref D)=some (isub c d)
 v:∀c∈pO,∀C,nsIn K mainGlobals c=some (some (.ref C))->kitOne K (.ref C) (.type "ValueError")=some true
 vn:kitOne K (.type "NoneType") (.type "ValueError")=some false
 h:∀D,nsIn K mainGlobals "HeadError" = some (some (.ref D))->∀c∈pO,∀C,nsIn K mainGlobals c=some (some (.ref C))->exmOne K (.ref C) (.ref D)=some true
 x:∀c∈pO,∀C,nsIn K mainGlobals c=some (some (.ref C))->qe K C
 mc:∀o,K.lookup mainGlobals=some o->o.cls ≠ .type "list"
theorem lu.of{K:Frag}(h:Ws K=true):lu K:=by
 unfold Ws at h
 simp only[Bool.and_eq_true]at h
 obtain⟨⟨⟨g,i⟩,j⟩,f⟩:=h
 have a1:∀c∈pO,∀C,nsIn K mainGlobals c=some (some (.ref C))->qe K C/\(∀y:Ty,kitOne K (.ref C) (.type y.name)=some false)/\kitOne K (.ref C) (.type "ValueError")=some true:=λc m C n=>by
  have:=Mt g m n
  simp only[Bool.and_eq_true]at this
  obtain⟨⟨k,l⟩,p⟩:=this
  refine⟨aep k,λy=>?_,beq_iff_eq.mp p⟩
  have:=List.all_eq_true.mp l y (by cases y <;> simp[Wr])
  exact beq_iff_eq.mp this
 have a2:∀d∈Gm,∀D,nsIn K mainGlobals d=some (some (.ref D))→kitOne K (.type "NoneType") (.ref D)=some false∧∀c∈pO,∀C,nsIn K mainGlobals c=some (some (.ref C))→kitOne K (.ref C) (.ref D)=some (isub c d)∧(d = "HeadError" → exmOne K (.ref C) (.ref D)=some true):=λd m D n=>by
  have:=Mt i m n
  rw[Bool.and_eq_true]at this
  refine⟨beq_iff_eq.mp this.1,λc mc C b=>?_⟩
  have:=Mt this.2 mc b
  rw[Bool.and_eq_true]at this
  refine⟨beq_iff_eq.mp this.1,λe=>?_⟩
  have z:=this.2
  rw[Bool.or_eq_true]at z
  rcases z with z|z
  .rw[e]at z; cases z
  .exact beq_iff_eq.mp z
 refine⟨λc m C n=>⟨λa=>abI (a1 c m C n).1,(a1 c m C n).2.1⟩,λd m D n=>(a2 d m D n).1,λd m D n c mc C b=>((a2 d m D n).2 c mc C b).1,λc m C n=>(a1 c m C n).2.2,beq_iff_eq.mp j,λD n c mc C b=>((a2 "HeadError" (List.mem_cons_self ..) D n).2 c mc C b).2 rfl,λc m C n=>(a1 c m C n).1,λo e=>?_⟩
 rw[e]at f
 simpa using f
section
variable {t:Tx}{K:Frag}
def Pr{α : Type}(f:En->Rs (α × En)):Prop:=∀ρ,(∀p,f ρ=.ok p->p.2 = ρ)/\∀c,f ρ ≠ .ex c
end
end L2
end
section
namespace BH
open PySem L2
abbrev Wt:SF:=(aC (bL (qy (sI 1) (bY (aq gq (aj 1) (eC (.int 0)))) (vM 0 1 (ak (aj 1) (ak (aq cj (aj 0) (aj 1)) au))))) (bB (aZ (g1 lQ) (ak (aj 0) au))))
def tE:FP:=bf 2 Wt
noncomputable abbrev Wu:SF:=(aC (cA (bY (aq bT (aj 1) (eC (.int 0)))) (vN "NoBottom" (eC (.str "a fraction has no bottom of 0"))) cD) (aC (bw (aR tE (ak (aj 0) (ak (aj 1) au))) (gN 2)) (aC (cA (bY (aq gW (aj 1) (eC (.int 0)))) (bw (zJ rW (aj 2)) (gN 2)) cD) (bB (jd (ak (aq cL (aj 0) (aj 2)) (ak (aq cL (aj 1) (aj 2)) au)))))))
def vY:FP:=bf 3 Wu
noncomputable abbrev Mw:SF:=(bB (aR vY (ak (aq cC (aq cV (aq aB (aj 0) (eC (.int 0))) (aq aB (aj 1) (eC (.int 1)))) (aq cV (aq aB (aj 1) (eC (.int 0))) (aq aB (aj 0) (eC (.int 1))))) (ak (aq cV (aq aB (aj 0) (eC (.int 1))) (aq aB (aj 1) (eC (.int 1)))) au))))
def xR:FP:=bf 2 Mw
abbrev Mx:SF:=(bB (aR vY (ak (aq cV (aq aB (aj 0) (eC (.int 0))) (aq aB (aj 1) (eC (.int 0)))) (ak (aq cV (aq aB (aj 0) (eC (.int 1))) (aq aB (aj 1) (eC (.int 1)))) au))))
def tG:FP:=bf 2 Mx
abbrev Ww:SF:=(bB (oW (iH .int (aj 0)) (K3 (iH .bool (aj 0)))))
def p8:FP:=bf 1 Ww
noncomputable abbrev Mz:SF:=(aC (cA (gY (eX (dJ (iH .tuple (aj 0)))) (bY (aq gq (aZ (g1 bx) (ak (aj 0) au)) (eC (.int 2))))) (bB (eC (.bl false))) cD) (aC (bw (aj 0) (gT 2 (bZ (gN 1) (bZ (gN 2) fO)))) (aC (cA (gY (eX (dJ (aR p8 (ak (aj 1) au)))) (eX (dJ (aR p8 (ak (aj 2) au))))) (bB (eC (.bl false))) cD) (bB (oW (aq j5 (aj 2) (eC (.int 1))) (aq bT (aR tE (ak (aj 1) (ak (aj 2) au))) (eC (.int 1))))))))
def uT:FP:=bf 3 Mz
abbrev MF:SF:=(bB (oW (aR uT (ak (aj 0) au)) (rY fG fG (eC (.int 0)) (aq aB (aj 0) (eC (.int 0))) (aq aB (aj 0) (eC (.int 1))))))
def tH:FP:=bf 1 MF
abbrev MJ:SF:=(aC (cA (gY (eX (dJ (iH .list (aj 0)))) (eX (bY (rY fG fG (eC (.int 1)) (aZ (g1 bx) (ak (aj 0) au)) (aj 1))))) (bB (eC (.bl false))) cD) (bB (aZ (g1 gG) (ak (dG [none] (cM (aj 0)) (gN 0) cO (aR tH (ak (aj 0) au))) au))))
def vZ:FP:=bf 2 MJ
noncomputable abbrev Wy:SF:=(aC (cA (gY (eX (dJ (iH .list (aj 0)))) (eX (bY (rY fG fG (eC (.int 1)) (aZ (g1 bx) (ak (aj 0) au)) (eC (.int 4)))))) (bB (eC (.bl false))) cD) (aC (cA (eX (dJ (aZ (g1 gG) (ak (dG [none] (cM (aj 0)) (gN 0) cO (aR vZ (ak (aj 0) (ak (eC (.int 12)) au)))) au)))) (bB (eC (.bl false))) cD) (bB (aZ (g1 gG) (ak (dG [none,some 0] (cM (aj 0)) (gN 0) cO (aq bT (aZ (g1 bx) (ak (aj 0) au)) (aZ (g1 bx) (ak (aq aB (aj 1) (eC (.int 0))) au)))) au)))))
def Bc:FP:=bf 1 Wy
abbrev Wz:SF:=(aC (bw (eC (.int 1)) (gN 1)) (aC (bL (cg (cM (aj 0)) (gT 2 (bZ (gN 2) (bZ (gN 3) fO))) (bw (aq cL (aq cV (aj 1) (aj 3)) (aR tE (ak (aj 1) (ak (aj 3) au)))) (gN 1)))) (bB (aj 1))))
def Bd:FP:=bf 4 Wz
abbrev WD:SF:=(aC (bw (aR Bd (ak (aj 0) au)) (gN 1)) (bB (dG [none,none,some 1] (cM (aj 0)) (gT 2 (bZ (gN 0) (bZ (gN 1) fO))) cO (aq cV (aj 0) (aq cL (aj 2) (aj 1))))))
def Gp:FP:=bf 2 WD
abbrev WK:SF:=(aC (bw (aR Gp (ak (aj 0) au)) (gN 1)) (bB (Gi Ba [some 1] (ak (aZ (g1 bx) (ak (aj 1) au)) au) (Ax rW (Aw aB (tB 1) (tB 0))))))
def mR:FP:=bf 2 WK
abbrev MK:SF:=(bB (oW (aR p8 (ak (aj 0) au)) (rY fG gW (eC (.int 0)) (aj 0) (aj 1))))
def v7:FP:=bf 2 MK
abbrev WL:SF:=(cA (eX (dJ (aR Bc (ak (aj 0) au)))) (vN "NoBook" (eC (.str "this is no book"))) cD)
def xT:FP:=bf 1 WL
abbrev WM:SF:=(cA (eX (dJ (aR v7 (ak (aj 1) (ak (aZ (g1 bx) (ak (aj 0) au)) au))))) (vN "NoList" (eC (.str "the book has no list of this number"))) cD)
def MN:FP:=bf 2 WM
abbrev WQ:SF:=(aC (eY (aR xT (ak (aj 0) au))) (aC (eY (aR MN (ak (aj 0) (ak (aj 1) au)))) (bB (aR mR (ak (aq aB (aj 0) (aj 1)) au)))))
def MP:FP:=bf 2 WQ
noncomputable abbrev WR:SF:=(aC (cA (gY (eX (dJ (iH .list (aj 0)))) (bY (aq gq (aZ (g1 bx) (ak (aj 0) au)) (aj 1)))) (bB (eC (.bl false))) cD) (bB (aZ (g1 gG) (ak (dG [none] (cM (aj 0)) (gN 0) cO (oW (aR uT (ak (aj 0) au)) (aq j5 (aq aB (aj 0) (eC (.int 0))) (eC (.int 0))))) au))))
def Gq:FP:=bf 2 WR
noncomputable abbrev xU:SF:=(aC (cA (eX (dJ (iH .tuple (aj 0)))) (bB (eC (.bl false))) cD) (aC (cA (bY (aq gq (aZ (g1 bx) (ak (aj 0) au)) (eC (.int 2)))) (bB (aq (jP id) (aj 0) (eC (.tup [(.tup [(.str "least")]),(.tup [(.str "greatest")]),(.tup [(.str "product")])])))) cD) (aC (bw (aj 0) (gT 2 (bZ (gN 2) (bZ (gN 3) fO)))) (aC (cA (bY (aq bT (aj 2) (eC (.str "shares")))) (bB (aR Gq (ak (aj 3) (ak (aj 1) au)))) cD) (bB (oW (aq bT (aj 2) (eC (.str "middle"))) (oW (aR p8 (ak (aj 3) au)) (rY fG fG (eC (.int 1)) (aj 3) (aj 1)))))))))
def v8:FP:=bf 4 xU
abbrev WT:SF:=(aC (bw (eC (.tup [.int 0,.int 1])) (gN 2)) (aC (bL (cg (o8 (ak (aj 0) (ak (aj 1) au))) (gT 2 (bZ (gN 3) (bZ (gN 4) fO))) (bw (aR xR (ak (aj 2) (ak (aR tG (ak (aj 3) (ak (aj 4) au))) au))) (gN 2)))) (bB (aj 2))))
def Gs:FP:=bf 5 WT
abbrev WW:SF:=(aC (bw (eC (.tup [.int 1,.int 1])) (gN 1)) (aC (bL (cg (cM (aj 0)) (gN 2) (bw (aR tG (ak (aj 1) (ak (aj 2) au))) (gN 1)))) (bB (aj 1))))
def Gu:FP:=bf 3 WW
abbrev Bg:SF:=(aC (cA (bY (aq bT (aq aB (aj 0) (eC (.int 0))) (eC (.str "greatest")))) (bB (eC (.int 1))) cD) (aC (cA (bY (aq bT (aq aB (aj 0) (eC (.int 0))) (eC (.str "least")))) (bB (aj 1)) cD) (bB (aq aB (aj 0) (eC (.int 1))))))
def v9:FP:=bf 2 Bg
noncomputable abbrev Bh:SF:=(aC (cA (bY (aq bT (aq aB (aj 0) (eC (.int 0))) (eC (.str "shares")))) (bB (aR Gs (ak (aq aB (aj 0) (eC (.int 1))) (ak (aj 1) au)))) cD) (aC (cA (bY (aq bT (aq aB (aj 0) (eC (.int 0))) (eC (.str "product")))) (bB (aR Gu (ak (aj 1) au))) cD) (bB (aq aB (aj 1) (aq aB (aR mR (ak (aj 1) au)) (aq jo (aR v9 (ak (aj 0) (ak (aZ (g1 bx) (ak (aj 1) au)) au))) (eC (.int 1))))))))
def g8:FP:=bf 2 Bh
abbrev aer:SF:=(aC (eY (aR xT (ak (aj 0) au))) (cA (eX (dJ (aR v8 (ak (aj 1) (ak (aZ (g1 bx) (ak (aj 0) au)) au))))) (vN "NoRule" (eC (.str "this is no rule for the book's lists"))) cD))
def Gv:FP:=bf 2 aer
abbrev WX:SF:=(bB (dG [none,some 1] (cM (aj 0)) (gN 0) cO (aq aB (aj 0) (aj 1))))
def Bj:FP:=bf 2 WX
abbrev M4:SF:=(bB (oW (aR p8 (ak (aj 0) au)) (rY fG fG (eC (.int 0)) (aj 0) (aj 1))))
def xV:FP:=bf 2 M4
abbrev WY:SF:=(bB (aZ (g1 gG) (ak (dG [none,none] (o8 (ak (aj 0) (ak (pX (aj 0) (pW (eC (.int 1))) pR) au))) (gT 2 (bZ (gN 0) (bZ (gN 1) fO))) cO (aq gW (aj 0) (aj 1))) au)))
def Gw:FP:=bf 1 WY
abbrev W4:SF:=(bB (dG [none] (cM (aj 0)) (gN 0) cO (aR mR (ak (aj 0) au))))
def uU:FP:=bf 1 W4
abbrev W6:SF:=(aC (cA (gY (eX (dJ (iH .list (aj 0)))) (bY (aq gq (aZ (g1 bx) (ak (aj 0) au)) (aj 1)))) (bB (eC (.bl false))) cD) (bB (aZ (g1 gG) (ak (dG [none,some 2] (cM (aj 0)) (gN 0) cO (aR xV (ak (aj 0) (ak (aj 1) au)))) au))))
def Gx:FP:=bf 3 W6
noncomputable abbrev M5:SF:=(aC (cA (gY (eX (dJ (iH .tuple (aj 0)))) (bY (aq gq (aZ (g1 bx) (ak (aj 0) au)) (eC (.int 2))))) (bB (eC (.bl false))) cD) (bB (oW (aR v7 (ak (aq aB (aj 0) (eC (.int 0))) (ak (aj 1) au))) (aR v7 (ak (aq aB (aj 0) (eC (.int 1))) (ak (aj 2) au))))))
def xW:FP:=bf 3 M5
abbrev W7:SF:=(aC (cA (gY (eX (dJ (iH .list (aj 0)))) (eX (dJ (aZ (g1 gG) (ak (dG [none,some 1,some 2] (cM (aj 0)) (gN 0) cO (aR xW (ak (aj 0) (ak (aj 1) (ak (aj 2) au))))) au))))) (bB (eC (.bl false))) cD) (bB (aR Gw (ak (aj 0) au))))
def Gy:FP:=bf 3 W7
noncomputable abbrev W8:SF:=(aC (vM 2 3 (ak (aZ (g1 bx) (ak (aj 0) au)) (ak (aZ (g1 bx) (ak (aq aB (aj 0) (eC (.int 0))) au)) au))) (aC (cA (gY (eX (dJ (iH .tuple (aj 1)))) (bY (aq gq (aZ (g1 bx) (ak (aj 1) au)) (eC (.int 2))))) (vN "NoLooks" (eC (.str "looks are a tuple of depths and what is asked"))) cD) (cA (gY (eX (dJ (aR Gx (ak (aq aB (aj 1) (eC (.int 0))) (ak (aj 2) (ak (aj 3) au)))))) (eX (dJ (aR Gy (ak (aq aB (aj 1) (eC (.int 1))) (ak (aj 2) (ak (aj 3) au))))))) (vN "NoLooks" (eC (.str "these are no looks of the book"))) cD)))
def Bl:FP:=bf 4 W8
noncomputable abbrev W9:SF:=(aC (bw (aj 1) (gT 2 (bZ (gN 2) (bZ (gN 3) fO)))) (aC (sU 4 [none] (cM (aj 0)) (gN 0) cO (aq cV (sO [.non]) (aZ (g1 bx) (ak (aj 0) au)))) (aC (bL (cg (Ms (ak (aR uU (ak (aj 0) au)) au)) (gT 2 (bZ (gN 5) (bZ (gN 6) fO))) (cg (cM (pX (aj 6) pR (pW (aq aB (aj 2) (aj 5))))) (gN 7) (Al 4 (sS 5) (sS 7) (aq aB (aq aB (aj 0) (aj 5)) (aj 7)))))) (aC (bL (cg (cM (aj 3)) (gT 2 (bZ (gN 5) (bZ (gN 7) fO))) (Al 4 (sS 5) (sS 7) (aq aB (aq aB (aj 0) (aj 5)) (aj 7))))) (Ga 4 (bB (aj 4)))))))
def Bm:FP:=bf 8 W9
noncomputable abbrev M6:SF:=(aC (fX 3 (dO au)) (aC (bL (cg (cR (ak (aZ (g1 bx) (ak (aq aB (aj 1) (eC (.int 0))) au)) au)) (gN 4) (aC (bw (aR Bj (ak (aj 1) (ak (aj 4) au))) (gN 5)) (aC (bw (dG [none] (cM (aj 5)) (gN 0) cO (uE (bY (aq (nH id) (aj 0) (eC .non))) (eC (.tup [(.int 0),(.int 1)])) (aj 0))) (gN 6)) (aC (bw (dG [none,none] (o8 (ak (aj 5) (ak (aj 2) au))) (gT 2 (bZ (gN 0) (bZ (gN 1) fO))) cO (uE (bY (aq (nH id) (aj 0) (eC .non))) (aj 1) (aj 0))) (gN 7)) (eY (fY 3 dX (ak (jd (ak (aR g8 (ak (aj 0) (ak (aj 6) au))) (ak (aR g8 (ak (aj 0) (ak (aj 7) au))) au))) au)))))))) (bB (aj 3))))
def Bo:FP:=bf 8 M6
end BH
end
section
namespace L2
open PySem PySem.Spec PyProof.Rows
abbrev iU(h:Heap)(T:Addr)(a b c:Value):Prop:=h.get? T=some {cls:=.type "tuple",data:=.seq #[a,b,c] }
structure Gz(y I O j1 j2 j3 m1 m2 m3:Addr):Prop where
 nd : [y,I,O,j1,j2,j3].Nodup
 l1:m1∉[y,O,j1,j2,j3]
 l2:m2∉[y,O,j1,j2,j3]
 l3:m3∉[y,O,j1,j2,j3]
section
variable {prog:Program}{w:World}{s:Shared}{A:Around}{E:Value->Shared->Prop}
theorem M7(t:iU s.heap T a b c)
  (q:∀g,g.get? T=some {cls:=.type "tuple",data:=.seq ((#[a,b,c]:Array Value).setIfInBounds k x) }->Heap.SameBut T s.heap g->Q () {s with heap:=g }):wpAny (model prog w) A (updateSeq T (·.setIfInBounds k x)) Q E s:=by
 refine wpAny_updateSeq t rfl (q _ ?_ (.update ..))
 rw[Heap.get?_update_self _ t rfl]
 simp[Obj.mapSeq]
def Xa(y O j1 j2 j3:Addr)(h g:Heap):Prop:=∀c o,c∉[y,O,j1,j2,j3]->h.get? c=some o->g.get? c=some o
theorem aes{n:Nat}{as bs cs:Array Value}{Q:Value->Shared->Prop}(D:Gz y I O j1 j2 j3 m1 m2 m3)
  (z:IsZip s.heap y I O .none) (hI:iU s.heap I (.ref j1) (.ref j2) (.ref j3)) (hO:iU s.heap O p q r) (k1:s.heap.IsListIter j1 m1 n) (k2:s.heap.IsListIter j2 m2 n) (k3:s.heap.IsListIter j3 m3 n)
  (e1:s.heap.IsList m1 as) (e2:s.heap.IsList m2 bs) (e3:s.heap.IsList m3 cs) (ga:as[n]?=some a) (gb:bs[n]?=some b) (gc:cs[n]?=some c)
  (fin:∀g,IsZip g y I O (rawInt s.heap.objs.size)->iU g O a b c->g.IsListIter j1 m1 (n+1)->g.IsListIter j2 m2 (n+1)->g.IsListIter j3 m3 (n+1)->iU g s.heap.objs.size a b c->Xa y O j1 j2 j3 s.heap g->Q (.ref s.heap.objs.size) {s with heap:=g }) :
  wpAny (model prog w) A (Builtin.«zip.__next__» ⟨[.ref y],[]⟩) (λf u=>∃v,f=.done (.ret v)/\Q v u) E s:=by
 have nd:=D.nd
 have d1:=D.l1
 have d2:=D.l2
 have d3:=D.l3
 simp only[List.nodup_cons,List.mem_cons,List.not_mem_nil,or_false,not_or,List.nodup_nil,and_true,not_false_eq_true]at nd d1 d2 d3
 obtain⟨⟨zI,B,P,R,S⟩,⟨IO,I1,I2,I3⟩,⟨H,J,K⟩,⟨C,F⟩,G⟩:=nd
 obtain⟨T,x1O,x11,x12,x13⟩:=d1
 obtain⟨U,V,W,x22,x23⟩:=d2
 obtain⟨X,Xb,Y,Z,x33⟩:=d3
 show wpAny _ _ (field (.ref y) 2 >>= _) _ _ _
 refine wpAny_bind (wpAny_field z rfl (x:=.bool false) rfl ?_)
 show wpAny _ _ (field (.ref y) 3 >>= _) _ _ _
 refine wpAny_bind (wpAny_field z rfl (x:=.ref I) rfl ?_)
 refine wpAny_bind (wpAny_seqItems hI rfl ?_)
 show wpAny _ _ (Builtin.SmallTypes.ownedTupleIsFree (.ref y) >>= _) _ _ _
 refine wpAny_bind ?_; unfold Builtin.SmallTypes.ownedTupleIsFree
 refine wpAny_bind (wpAny_field z rfl (x:=.none) rfl (wpAny_pure ?_))
 simp only[if_true]
 refine wpAny_bind <| wpAny_rule ?_
 refine wpAny_bind (wpAny_field z rfl (x:=.ref O) rfl ?_)
 refine wpAny_bind (wpAny_setField_rec z (by simp) λha za e=>?_)
 replace za:IsZip ha y I O .ellipsis:=za
 refine wpAny_bind ?_
 simp only[List.forIn_cons,List.forIn_nil,List.zipIdx_nil,List.zipIdx_cons]
 refine wpAny_bind <| wpAny_bind <| wpAny_onRaise ?_
 show wpAny _ _ (Builtin.SmallTypes.nextOf (.ref j1) >>= _) _ _ _
 refine wpAny_bind (wpAny_nextOf_list_item (k1.extBut e.extBut (Ne.symm P)) (e1.extBut e.extBut T) ga λhb kb i=>wpAny_pure ?_)
 have Ob:iU hb O p q r:=i.extBut _ _ H (e.extBut _ _ (Ne.symm B) hO)
 refine wpAny_bind (wpAny_seqItems Ob rfl ?_)
 refine wpAny_bind (M7 Ob λhc Oc sc=>?_)
 replace Oc:iU hc O a q r:=Oc
 refine wpAny_bind <| wpAny_letGo <| wpAny_pure ?_
 refine wpAny_bind <| wpAny_bind <| wpAny_onRaise ?_
 show wpAny _ _ (Builtin.SmallTypes.nextOf (.ref j2) >>= _) _ _ _
 refine wpAny_bind (wpAny_nextOf_list_item (((k2.extBut e.extBut (Ne.symm R)).extBut i.extBut (Ne.symm C)).extBut sc.extBut (Ne.symm J)) (((e2.extBut e.extBut U).extBut i.extBut W).extBut sc.extBut V) gb λhd kd j=>wpAny_pure ?_)
 have Od:iU hd O a q r:=j.extBut _ _ J Oc
 refine wpAny_bind (wpAny_seqItems Od rfl ?_)
 refine wpAny_bind (M7 Od λhe Oe k=>?_)
 replace Oe:iU he O a b r:=Oe
 refine wpAny_bind <| wpAny_letGo <| wpAny_pure ?_
 refine wpAny_bind <| wpAny_bind <| wpAny_onRaise ?_
 show wpAny _ _ (Builtin.SmallTypes.nextOf (.ref j3) >>= _) _ _ _
 refine wpAny_bind (wpAny_nextOf_list_item (((((k3.extBut e.extBut (Ne.symm S)).extBut i.extBut (Ne.symm F)).extBut sc.extBut (Ne.symm K)).extBut j.extBut (Ne.symm G)).extBut k.extBut (Ne.symm K)) (((((e3.extBut e.extBut X).extBut i.extBut Y).extBut sc.extBut Xb).extBut j.extBut Z).extBut k.extBut Xb) gc λhf kf l=>wpAny_pure ?_)
 have Of:iU hf O a b r:=l.extBut _ _ K Oe
 refine wpAny_bind (wpAny_seqItems Of rfl ?_)
 refine wpAny_bind (M7 Of λd L m=>?_)
 replace L:iU d O a b c:=L
 refine wpAny_bind <| wpAny_letGo <| wpAny_pure <| wpAny_pure ?_
 refine wpAny_bind (wpAny_seqItems L rfl ?_)
 refine wpAny_bind <| wpAny_newTuple ?_
 have size:d.objs.size=s.heap.objs.size:=by rw[m.1,l.1,k.1,j.1,sc.1,i.1,e.1]
 have up:∀x o,x∉[y,O,j1,j2,j3]->s.heap.get? x=some o->d.get? x=some o:=λx o h t=>by
  simp only[List.mem_cons,List.not_mem_nil,or_false,not_or]at h
  obtain⟨u1,u2,u3,u4,u5⟩:=h
  exact m.extBut _ _ u2 (l.extBut _ _ u5 (k.extBut _ _ u2 (j.extBut _ _ u4 (sc.extBut _ _ u2 (i.extBut _ _ u3 (e.extBut _ _ u1 t))))))
 have zg:IsZip d y I O .ellipsis:=m.extBut _ _ B (l.extBut _ _ S (k.extBut _ _ B (j.extBut _ _ R (sc.extBut _ _ B (i.extBut _ _ P za)))))
 have M8:d.IsListIter j1 m1 (n+1):=((((kb.extBut sc.extBut (Ne.symm H)).extBut j.extBut C).extBut k.extBut (Ne.symm H)).extBut l.extBut F).extBut m.extBut (Ne.symm H)
 have M9:d.IsListIter j2 m2 (n+1):=((kd.extBut k.extBut (Ne.symm J)).extBut l.extBut G).extBut m.extBut (Ne.symm J)
 have Nb:d.IsListIter j3 m3 (n+1):=kf.extBut m.extBut (Ne.symm K)
 have zl:y<d.objs.size:=Heap.lt_size zg
 show wpAny _ _ (Builtin.SmallTypes.ownedTupleHandOut (.ref y) (.ref d.objs.size) >>= _) _ _ _
 refine wpAny_bind ?_; unfold Builtin.SmallTypes.ownedTupleHandOut
 have zp:IsZip (d.push {cls:=.type "tuple",data:=.seq #[a,b,c] }) y I O .ellipsis:=Heap.get?_push_of_some _ zg
 refine wpAny_bind (wpAny_setField_rec zp (by simp) λhu zu su=>?_)
 replace zu:IsZip hu y I O (rawInt d.objs.size):=zu
 refine wpAny_setField_rec zu (by simp) λM N sv=>?_
 replace N:IsZip M y I O (rawInt d.objs.size):=N
 have top:∀x o,x≠y->d.get? x=some o->M.get? x=some o:=λx o v t=>sv.extBut _ _ v (su.extBut _ _ v (Heap.get?_push_of_some _ t))
 have Tv:iU M d.objs.size a b c:=sv.extBut _ _ (Nat.ne_of_gt zl) (su.extBut _ _ (Nat.ne_of_gt zl) (Heap.get?_push_size _ rfl))
 rw[size]at N Tv
 apply wpAny_pure; refine⟨_,rfl,?_⟩
 show Q (.ref d.objs.size) _
 rw[size]
 exact fin M N (top _ _ (Ne.symm B) L) (M8.at λo t=>top _ o (Ne.symm P) t) (M9.at λo t=>top _ o (Ne.symm R) t) (Nb.at λo t=>top _ o (Ne.symm S) t) Tv λx o h t=>top x o (λv=>h (by simp[v])) (up x o h t)
end
section
variable {prog:Program}{w:World}{s:Shared}{A:Around}{E:Value->Shared->Prop}
theorem aeu(m:A.handled=none)(f:j1≠y)(p:m1≠y)(a:IsZip s.heap y I O .none)(q:iU s.heap I (.ref j1) (.ref j2) (.ref j3))(k1:s.heap.IsListIter j1 m1 n)(u:s.heap.IsList m1 as)(ga:as[n]?=none)
  (fin:∀g x,(∀c o,c≠y->c≠j1->s.heap.get? c=some o->g.get? c=some o)->(∃o,g.get? x=some o/\o.cls=.type "StopIteration")->E (.ref x) {s with heap:=g }):wpAny (model prog w) A (Builtin.«zip.__next__» ⟨[.ref y],[]⟩) Q E s:=by
 show wpAny _ _ (field (.ref y) 2 >>= _) _ _ _
 refine wpAny_bind (wpAny_field a rfl (x:=.bool false) rfl ?_)
 show wpAny _ _ (field (.ref y) 3 >>= _) _ _ _
 refine wpAny_bind (wpAny_field a rfl (x:=.ref I) rfl ?_)
 refine wpAny_bind (wpAny_seqItems q rfl ?_)
 show wpAny _ _ (Builtin.SmallTypes.ownedTupleIsFree (.ref y) >>= _) _ _ _
 refine wpAny_bind ?_; unfold Builtin.SmallTypes.ownedTupleIsFree
 refine wpAny_bind (wpAny_field a rfl (x:=.none) rfl (wpAny_pure ?_))
 simp only[if_true]
 refine wpAny_bind <| wpAny_rule ?_
 refine wpAny_bind (wpAny_field a rfl (x:=.ref O) rfl ?_)
 refine wpAny_bind (wpAny_setField_rec a (by simp) λr b d=>?_)
 replace b:IsZip r y I O .ellipsis:=b
 refine wpAny_bind ?_
 simp only[List.forIn_cons,List.forIn_nil,List.zipIdx_nil,List.zipIdx_cons]
 refine wpAny_bind <| wpAny_bind <| wpAny_onRaise ?_
 show wpAny _ _ (Builtin.SmallTypes.nextOf (.ref j1) >>= _) _ _ _
 refine wpAny_bind (wpAny_nextOf_list_end m (k1.extBut d.extBut f) (u.extBut d.extBut p) ga λz x h B=>?_)
 obtain⟨o,e,i⟩:=B
 have j:IsZip z y I O .ellipsis:=h _ _ (Ne.symm f) b
 have C:x≠y:=λv=>by subst v; rw[j]at e; cases e; simp at i
 exact wpAny_setField_rec j (by simp) λhd _ k=>fin hd x (λc o l D t=>k.extBut _ _ l (h _ _ D (d.extBut _ _ l t))) ⟨o,k.extBut _ _ C e,i⟩
theorem aev(D:Gz y I O j1 j2 j3 m1 m2 m3)
  (d:IsZip s.heap y I O .none) (e:iU s.heap I (.ref j1) (.ref j2) (.ref j3)) (f:iU s.heap O p q r) (k1:s.heap.IsListIter j1 m1 n) (k2:s.heap.IsListIter j2 m2 n) (k3:s.heap.IsListIter j3 m3 n)
  (h:s.heap.IsList m1 as) (i:s.heap.IsList m2 bs) (j:s.heap.IsList m3 cs) (ga:as[n]?=some a) (k:bs[n]?=some b) (m:cs[n]?=some c)
  (fin:∀g,IsZip g y I O (rawInt s.heap.objs.size)->iU g O a b c->g.IsListIter j1 m1 (n+1)->g.IsListIter j2 m2 (n+1)->g.IsListIter j3 m3 (n+1)->iU g s.heap.objs.size a b c->Xa y O j1 j2 j3 s.heap g->Q (some (.ref s.heap.objs.size)) {s with heap:=g }) :
  wpAny (model prog w) A (pyNext (.ref y)) Q E s:=by
 have ty:s.TypeIs (.ref y) "zip" := ⟨_,d,rfl⟩
 unfold pyNext
 exact wpAny_bind (wpAny_attempt (wpAny_callSpecial?_slot (name:=Str.ofString "__next__") ty F.slot_zip_next (wpAny_call_entry F.slot_zip_next ty F.entry_zip_next (aes D d e f k1 k2 k3 h i j ga k m λg q1 q2 l o t u v=>wpAny_pure (fin g q1 q2 l o t u v)) (F.args_zip_next_1 _))))
theorem aew(d:A.handled=none)(e:j1≠y)(f:m1≠y)(a:IsZip s.heap y I O .none)(h:iU s.heap I (.ref j1) (.ref j2) (.ref j3))(k1:s.heap.IsListIter j1 m1 n)(i:s.heap.IsList m1 as)(ga:as[n]?=none)
  (fin:∀g,(∀c o,c≠y->c≠j1->s.heap.get? c=some o->g.get? c=some o)->Q none {s with heap:=g }):wpAny (model prog w) A (pyNext (.ref y)) Q E s:=by
 have ty:s.TypeIs (.ref y) "zip" := ⟨_,a,rfl⟩
 unfold pyNext
 refine wpAny_bind (wpAny_attempt (wpAny_callSpecial?_slot (name:=Str.ofString "__next__") ty F.slot_zip_next (wpAny_call_entry F.slot_zip_next ty F.entry_zip_next (aeu d e f a h k1 i ga λg x k j=>?_) (F.args_zip_next_1 _))))
 obtain⟨o,l,m⟩:=j
 exact wpAny_bind (wpAny_isInstance (T := "StopIteration") (b:=true) ⟨o,l,m⟩ isSubtype_stop (wpAny_pure (fin _ k)))
end
theorem tc3(a b c:Value):checkTypeCall "zip" ⟨[a,b,c],[]⟩=pure ():=by kernel_rfl
theorem nc3(a b c:Value):checkBuiltinCall "zip.__new__" ⟨[.type "zip",a,b,c],[]⟩=pure ():=by kernel_rfl
abbrev Bp(h:Heap)(m1:Addr):Heap:=h.push {cls:=.type "list_iterator",data:=.fields #[.ref m1,.int 0 0] }
abbrev Bq(h:Heap)(m1 m2:Addr):Heap:=(Bp h m1).push {cls:=.type "list_iterator",data:=.fields #[.ref m2,.int 0 0] }
abbrev GC(h:Heap)(m1 m2 m3:Addr):Heap:=(Bq h m1 m2).push {cls:=.type "list_iterator",data:=.fields #[.ref m3,.int 0 0] }
abbrev GD(h:Heap)(m1 m2 m3:Addr):Heap:=(GC h m1 m2 m3).push {cls:=.type "tuple",data:=.seq #[.ref h.objs.size,.ref (Bp h m1).objs.size,.ref (Bq h m1 m2).objs.size] }
abbrev GJ(h:Heap)(m1 m2 m3:Addr):Heap:=(GD h m1 m2 m3).push {cls:=.type "tuple",data:=.seq #[.none,.none,.none] }
abbrev wg(h:Heap)(m1 m2 m3:Addr):Heap:=(GJ h m1 m2 m3).push {cls:=.type "zip",data:=.fields #[.none,.bool false,.bool false,.ref (GC h m1 m2 m3).objs.size,.ref (GD h m1 m2 m3).objs.size] }
theorem aex(m1 a b:Addr)(as bs cs:Array Value):Meets (Builtin.«zip.__new__» ⟨[.type "zip",.ref m1,.ref a,.ref b],[]⟩) (λ_ R s=>s.heap.IsList m1 as/\s.heap.IsList a bs/\s.heap.IsList b cs/\R (.ok (.ret (.ref (GJ s.heap m1 a b).objs.size))) {s with heap:=wg s.heap m1 a b }) :=
 .of_wp λprog w A R s h=>by
  obtain⟨c,g,d,e,os⟩:=s; obtain⟨f,i,j,h⟩:=h
  have sub:=sub_zip
  have f1:Heap.IsList (Shared.heap ⟨c,g,d,e,os⟩) m1 as:=f
  have f2:Heap.IsList (Shared.heap ⟨Bp c m1,g,d,e,os⟩) a bs:=Heap.IsList.push i _
  have k:Heap.IsList (Shared.heap ⟨Bq c m1 a,g,d,e,os⟩) b cs:=Heap.IsList.push (Heap.IsList.push j _) _
  wp_walk using wpAny_pyIter_list f1,wpAny_pyIter_list f2,wpAny_pyIter_list k
  exact⟨_,rfl,h⟩
theorem oi4(a b c d:Value):argsOk "object.__init__" ⟨[a,b,c,d],[]⟩:=by
 unfold argsOk
 rw[signature?_of (id := "object.__init__") (o:=['t','c','e','j','b','o']) (n:=['_','_','t','i','n','i','_','_']) (by kernel_rfl) F.owner_object]
 kernel_rfl
section
variable {prog:Program}{w:World}{s:Shared}{A:Around}{E:Value->Shared->Prop}
theorem aey(n:s.heap.IsList m1 as)(p:s.heap.IsList m2 bs)(v:s.heap.IsList m3 cs)
  (fin:∀g,IsZip g (s.heap.objs.size+5) (s.heap.objs.size+3) (s.heap.objs.size+4) .none->iU g (s.heap.objs.size+3) (.ref s.heap.objs.size) (.ref (s.heap.objs.size+1)) (.ref (s.heap.objs.size+2)) ->
   iU g (s.heap.objs.size+4) .none .none .none->g.IsListIter s.heap.objs.size m1 0->g.IsListIter (s.heap.objs.size+1) m2 0->g.IsListIter (s.heap.objs.size+2) m3 0->(∀c o,s.heap.get? c=some o->g.get? c=some o)->Q (.ref (s.heap.objs.size+5)) {s with heap:=g }) :
  wpAny (model prog w) A (call (.type "zip") [.ref m1,.ref m2,.ref m3]) Q E s:=by
 refine callType_new F.called_zip (by decide) (tc3 _ _ _) (nc3 _ _ _) (λobj=>oi4 obj _ _ _) F.entry_zip_new (aex m1 m2 m3 as bs cs) ⟨n,p,v,?_⟩
 have a:(Bp s.heap m1).objs.size=s.heap.objs.size+1:=Heap.size_push ..
 have b:(Bq s.heap m1 m2).objs.size=s.heap.objs.size+2:=by rw[Heap.size_push,a]
 have d:(GC s.heap m1 m2 m3).objs.size=s.heap.objs.size+3:=by rw[Heap.size_push,b]
 have e:(GD s.heap m1 m2 m3).objs.size=s.heap.objs.size+4:=by rw[Heap.size_push,d]
 have i:(GJ s.heap m1 m2 m3).objs.size=s.heap.objs.size+5:=by rw[Heap.size_push,e]
 have up:∀{h:Heap} {o:Obj} {c:Addr} {u:Obj},h.get? c=some u->(h.push o).get? c=some u:=λq=>Heap.get?_push_of_some _ q
 have f:(wg s.heap m1 m2 m3).get? (GJ s.heap m1 m2 m3).objs.size=some _:=Heap.get?_push_size _ rfl
 have j:(wg s.heap m1 m2 m3).get? (GD s.heap m1 m2 m3).objs.size=some _:=up (Heap.get?_push_size _ rfl)
 have k:(wg s.heap m1 m2 m3).get? (GC s.heap m1 m2 m3).objs.size=some _:=up (up (Heap.get?_push_size _ rfl))
 have l:(wg s.heap m1 m2 m3).get? (Bq s.heap m1 m2).objs.size=some _:=up (up (up (Heap.get?_push_size _ rfl)))
 have m:(wg s.heap m1 m2 m3).get? (Bp s.heap m1).objs.size=some _:=up (up (up (up (Heap.get?_push_size _ rfl))))
 have r:(wg s.heap m1 m2 m3).get? s.heap.objs.size=some _:=up (up (up (up (up (Heap.get?_push_size _ rfl)))))
 show _/\_
 rw[d,e,i]at f
 rw[a,b,d]at k
 rw[e]at j
 rw[b]at l
 rw[a]at m
 rw[i]
 exact⟨⟨_,f,rfl⟩,fin _ f k j ⟨_,r,rfl,rfl⟩ ⟨_,m,rfl,rfl⟩ ⟨_,l,rfl,rfl⟩ λc o q=>up (up (up (up (up (up q)))))⟩
end
noncomputable def Ng(K:FZ)(m1 m2 m3:Addr):It where
 go:=λi H=>∃xs ys ws x y u,bH K H m1 xs/\bH K H m2 ys/\bH K H m3 ws/\xs[i]?=some x/\ys[i]?=some y/\ws[i]?=some u
 oR:=λi H v H'=>∃T x y u,v=.ref T/\H T=none/\H'=upd H T (.tup [x,y,u])/\∀xs ys ws,bH K H m1 xs->bH K H m2 ys->bH K H m3 ws->xs[i]?=some x/\ys[i]?=some y/\ws[i]?=some u
 stop:=λi H=>∃xs,bH K H m1 xs/\xs.length<=i
def GK(m1 m2 m3 y I O j1 j2 j3:Addr)(i:Nat)(h:Heap):Prop:=IsZip h y I O .none/\iU h I (.ref j1) (.ref j2) (.ref j3)/\(∃a b c,iU h O a b c)/\h.IsListIter j1 m1 i/\h.IsListIter j2 m2 i/\h.IsListIter j3 m3 i
section
variable {P:Program}{w:World}{K:FZ}
theorem GK.at(st:GK m1 m2 m3 y I O j1 j2 j3 i h):∀b∈[y,I,O,j1,j2,j3],∃o,h.get? b=some o/\∀v,o.data ≠ .cell v:=λb d=>by
 obtain⟨e,f,⟨a,u,c,g⟩,⟨j,k,_,l⟩,⟨m,n,_,p⟩,⟨r,s,_,t⟩⟩:=st
 simp only[List.mem_cons,List.not_mem_nil,or_false]at d
 rcases d with rfl|rfl|rfl|rfl|rfl|rfl
 .exact⟨_,e,λv q=>nomatch q⟩
 .exact⟨_,f,λv q=>nomatch q⟩
 .exact⟨_,g,λv q=>nomatch q⟩
 .exact⟨j,k,λv q=>by rw[l]at q; cases q⟩
 .exact⟨m,n,λv q=>by rw[p]at q; cases q⟩
 .exact⟨r,s,λv q=>by rw[t]at q; cases q⟩
theorem aez(m1 L M y I O f j p:Addr)(D:Gz y I O f j p m1 L M):Turn P w K (.Tuple elts k pos) (Ng K m1 L M) [y,I,O,f,j,p] y (GK m1 L M y I O f j p) where
 mem:=by simp
 obj:=λi h st b l=>st.at b l
 keep:=λi h h' st kp=>by
  obtain⟨F,C,⟨a,b,c,R⟩,G,S,T⟩:=st
  exact⟨kp y (by simp) _ F,kp I (by simp) _ C,⟨a,b,c,kp O (by simp) _ R⟩,G.at λo e=>kp f (by simp) o e,S.at λo e=>kp j (by simp) o e,T.at λo e=>kp p (by simp) o e⟩
 item:=by
  intro X U r V hc i pins s σ H E d hf st W
  subst U r V
  obtain⟨xs,ys,ws,x,v,u,q1,q2,q3,hx,hv,hu⟩:=W
  obtain⟨t1,Y,Z,_⟩:=d.list q1
  obtain⟨t2,r2,p2,_⟩:=d.list q2
  obtain⟨t3,r3,p3,_⟩:=d.list q3
  obtain⟨x',gx,rx⟩:=Y.get hx
  obtain⟨v',gv,rv⟩:=r2.get hv
  obtain⟨u',gu,ru⟩:=r3.get hu
  obtain⟨F,C,⟨a,b,c,R⟩,G,S,T⟩:=id st
  refine aev D F C R G S T Z.isList p2.isList p3.isList (by simpa using gx) (by simpa using gv) (by simpa using gu) λg zg Og M8 M9 Nb Tg ch=>?_
  refine⟨.ref s.heap.objs.size,rfl,?_⟩
  refine wpAny_letOwnedTupleGo_zip zg λN zg' B=>?_
  have lt:∀b∈[y,I,O,f,j,p],b<s.heap.objs.size:=λb l=>by
   obtain⟨o,e,_⟩:=st.at b l
   exact Heap.lt_size e
  have nT:s.heap.objs.size∉[y,I,O,f,j,p]:=λm=>absurd (lt _ m) (Nat.lt_irrefl _)
  have nTy:s.heap.objs.size≠y:=λz=>nT (by simp[z])
  have nd:=D.nd
  simp only[List.nodup_cons,List.mem_cons,List.not_mem_nil,or_false,not_or,List.nodup_nil,and_true,not_false_eq_true]at nd
  obtain⟨⟨yI,yO,y1,y2,y3⟩,⟨IO,I1,I2,I3⟩,_⟩:=nd
  have hI':iU N I (.ref f) (.ref j) (.ref p):=B.extBut _ _ (Ne.symm yI) (ch I _ (by simp only[List.mem_cons,List.not_mem_nil,or_false,not_or]; exact⟨Ne.symm yI,IO,I1,I2,I3⟩) C)
  have J:GK m1 L M y I O f j p (i+1) N:=⟨zg',hI',⟨_,_,_,B.extBut _ _ (Ne.symm yO) Og⟩,M8.extBut B.extBut (Ne.symm y1),M9.extBut B.extBut (Ne.symm y2),Nb.extBut B.extBut (Ne.symm y3)⟩
  have kk:∀b o,b∉[y,I,O,f,j,p]->s.heap.get? b=some o->N.get? b=some o:=λb o n e=>by
   simp only[List.mem_cons,List.not_mem_nil,or_false,not_or]at n
   exact B.extBut _ _ n.1 (ch b o (by simp only[List.mem_cons,List.not_mem_nil,or_false,not_or]; exact⟨n.1,n.2.2⟩) e)
  have ht:IsTup N s.heap.objs.size #[x',v',u']:=⟨_,B.extBut _ _ nTy Tg,rfl,_,rfl⟩
  have I':=d.Kr (tk:=s.toks) (xs:=[x,v,u]) (its:=[x',v',u']) hf kk (λb l=>(J.at b l).imp λo q=>q.1) (Nat.le_refl _) ht (.cons rx (.cons rv (.cons ru .nil))) (by show 3<=sizeLine; decide)
  refine⟨.ref s.heap.objs.size,_,I',rfl,⟨s.heap.objs.size,x,v,u,rfl,d.hok.fresh (Nat.le_refl _),rfl,λa1 a2 a3 z1 z2 z3=>?_⟩,J,λb l=>?_⟩
  .rw[d.tY z1 q1,d.tY z2 q2,d.tY z3 q3]
   exact⟨hx,hv,hu⟩
  .have nb:b≠s.heap.objs.size:=λe0=>nT (e0▸l)
   rw[bA nb]
   exact(hf b l).1
 done:=by
  intro X U r V hc i pins s σ H E d hf st W
  subst U r V
  obtain⟨xs,q1,e⟩:=W
  obtain⟨t1,Y,Z,_⟩:=d.list q1
  obtain⟨F,C,_,G,_,_⟩:=id st
  have nd:=D.nd
  have d1:=D.l1
  simp only[List.nodup_cons,List.mem_cons,List.not_mem_nil,or_false,not_or,List.nodup_nil,and_true,not_false_eq_true]at nd d1
  refine aew (d.ok.hd hc) (Ne.symm nd.1.2.2.1) d1.1 F C G Z.isList (by simp; rw[<-Y.length]; exact e) λg ch=>⟨rfl,d.Ks (tk:=s.toks) hf λb o n t=>?_⟩
  simp only[List.mem_cons,List.not_mem_nil,or_false,not_or]at n
  exact ch b o n.1 n.2.2.2.1 t
 self:=λA i s Q E st h=>wpAny_pyIter_zip st.1 h
end
theorem n5(n m:Nat)(h:m<n):m∉[n+5,n+4,n,n+1,n+2]:=by
 simp only[List.mem_cons,List.not_mem_nil,or_false,not_or]
 omega
theorem n6(n d:Nat)(h:d∈[n+5,n+3,n+4,n,n+1,n+2]):n<=d:=by
 simp only[List.mem_cons,List.not_mem_nil,or_false]at h
 omega
theorem nd6(n:Nat) : [n+5,n+3,n+4,n,n+1,n+2].Nodup:=by simp
section
variable {X:Cx}
def Xc(K:FZ)(ta:TA):TI:=λσ H R=>ta σ H λvs H1=>∃m1 m2 m3,vs=[.ref m1,.ref m2,.ref m3]/\(∃xs,bH K H1 m1 xs)/\(∃xs,bH K H1 m2 xs)/\(∃xs,bH K H1 m3 xs)/\R (Ng K m1 m2 m3) H1
theorem aeA(hm:X.mg "zip" = none) (w:PA X [a,b,c] ta) (x:Gl X "zip" := by rfl) (y:starEach [a,b,c] X.env=[(false,eval a X.env),(false,eval b X.env),(false,eval c X.env)]:=by rfl) (i:starEach [b,c] X.env=[(false,eval b X.env),(false,eval c X.env)]:=by rfl) :
  PI X (.Tuple elts k tpos) (.Call (.Name "zip" p) [a,b,c] [] pos) (Xc X.K ta):=by
 intro pins s σ H R I h
 refine Call_ (qY I x hm (show bootBuiltins "zip" = some (.type "zip") by decide +kernel) (PyProof.Rows.callWith_type1 (bJ (w pos pins s σ H _ I h) λQ s1 ⟨S,H1,f,z,q1⟩=>?_) (by rw[y,i]) (by rw[i]; rfl)))
 obtain⟨m1,m,n,e,⟨T,A⟩,⟨U,B⟩,⟨ws,C⟩,q⟩:=q1
 subst e
 cases z with
 |cons r j =>
  cases j with
  |cons E j =>
   cases j with
   |cons l j =>
    cases j
    cases r
    cases E
    cases l
    obtain⟨t1,_,o,_⟩:=f.list A
    obtain⟨V,_,t,_⟩:=f.list B
    obtain⟨t3,_,u,_⟩:=f.list C
    obtain⟨W,F,_⟩:=o.isList
    obtain⟨Y,G,_⟩:=t.isList
    obtain⟨Z,J,_⟩:=u.isList
    have l1:=Heap.lt_size F
    have l2:=Heap.lt_size G
    have l3:=Heap.lt_size J
    refine aey o.isList t.isList u.isList λg v L M N O P ch=>?_
    refine wpAny_pyIter_zip v ?_
    have D:Gz (s1.heap.objs.size+5) (s1.heap.objs.size+3) (s1.heap.objs.size+4) s1.heap.objs.size (s1.heap.objs.size+1) (s1.heap.objs.size+2) m1 m n:=⟨nd6 _,n5 _ _ l1,n5 _ _ l2,n5 _ _ l3⟩
    refine⟨_,[_,_,_,_,_,_],_,_,H1,rfl,f.kept (t':=s1.toks) ch,aez m1 m n _ _ _ _ _ _ D,⟨v,L,⟨_,_,_,M⟩,N,O,P⟩,λd hd=>?_,q⟩
    have ge:s1.heap.objs.size<=d:=n6 _ _ hd
    exact f.pI ge (f.hok.fresh ge)
end
variable {t:Tx}
def lX:List Tr->List Tr->List Tr->List Tr
 |u::us,v::vs,w::ws=>.tup [u,v,w]::lX us vs ws
 |_,_,_=>[]
theorem Xd:∀{us vs ws:List Tr},us.length<=vs.length->us.length<=ws.length->(lX us vs ws).length=us.length
 | [],_,_,_,_=>rfl
 |_::us,[],_,h,_=>absurd h (by simp)
 |_::us,_::vs,[],_,h=>absurd h (by simp)
 |_::us,_::vs,_::ws,h,a=>by
  simp only[lX,List.length_cons]
  rw[Xd (by simpa using h) (by simpa using a)]
theorem Xe:∀{us vs ws:List Tr} {i:Nat} {d:Tr},(lX us vs ws)[i]?=some d->∃u v w,us[i]?=some u/\vs[i]?=some v/\ws[i]?=some w/\d=.tup [u,v,w]
 | [],_,_,i,d,h=>by simp[lX]at h
 |_::us,[],_,i,d,h=>by simp[lX]at h
 |_::us,_::vs,[],i,d,h=>by simp[lX]at h
 |u::us,v::vs,w::ws,0,d,h=>⟨u,v,w,rfl,rfl,rfl,by simpa[lX,eq_comm]using h⟩
 |_::us,_::vs,_::ws,i+1,d,h=>Xe (us:=us) (vs:=vs) (ws:=ws) (i:=i) (by simpa[lX]using h)
theorem aeB{K:FZ}{W:Addr->Prop}{H:Hp}{a b c:Addr}{xs ys zs:List V}{us vs ws:List Tr}(q1:bH (aJ K) (aK W H) a xs)(j:aN (aJ K) (aK W H) xs us)(q2:bH (aJ K) (aK W H) b ys)(A:aN (aJ K) (aK W H) ys vs)
  (k:bH (aJ K) (aK W H) c zs) (B:aN (aJ K) (aK W H) zs ws) (C:us.length<=vs.length) (D:us.length<=ws.length):uH (aJ K) W H (Ng K a b c) (lX us vs ws):=λg h m hw i=>by
 have toK:∀{d:Addr} {ds:List V},bH (aJ K) (aK W H) d ds->bH K h d ds:=λq=>((iR g h).seq (m.seq q)).toK
 refine⟨λz=>⟨xs,toK q1,by rw[z,Xd C D,j.length]; exact Nat.le_refl _⟩,λd hd=>?_⟩
 obtain⟨u,v,w,g1,g2,g3,rfl⟩:=Xe hd
 obtain⟨x,l,E⟩:=j.mK g1
 obtain⟨y,n,F⟩:=A.mK g2
 obtain⟨z,p,G⟩:=B.mK g3
 refine⟨⟨xs,ys,zs,x,y,z,toK q1,toK q2,toK k,l,n,p⟩,λo M I=>?_⟩
 obtain⟨T,N,O,P,rfl,fT,rfl,al⟩:=I
 obtain⟨a1,a2,s⟩:=al xs ys zs (toK q1) (toK q2) (toK k)
 rw[l]at a1
 rw[n]at a2
 rw[p]at s
 cases a1
 cases a2
 cases s
 have J:¬g T:=λw=>(hw T w).ne fT
 have L:Same (aK g h) (aK g (upd h T (.tup [x,y,z]))):=λb u q=>zx _ _ b u (zE (o:=.tup [x,y,z]) fT b u q)
 have up:∀{e:V} {f:Tr},Rep (aJ K) (aK W H) e f->Rep (aJ K) (aK g (upd h T (.tup [x,y,z]))) e f:=λr=>(r.mono m).mono L
 refine⟨gD fT _,.tup (xs:=[x,y,z]) (.inl (.inl ?_)) (.cons (up E) (.cons (up F) (.cons (up G) .nil)))⟩
 unfold aK
 rw[if_neg J,dM]
def GP(fa:AF):IF:=λρ=>(fa ρ).bind λp=>match p.1 with
 | [.v (.lst us) _,.v (.lst vs) _,.v (.lst ws) _]=>if us.length<=vs.length/\us.length<=ws.length then .ok (lX us vs ws,p.2)else .bad
 |_=>.bad
theorem aeC{K:FZ}(f:t.K=aJ K){g:TA}{i:AF}(m:SA t g i):SI t (Xc K g) (GP i):=λW l σ H R e h=>by
 refine m W l σ H _ e (Rs.bF (Rs.aX h) λp h x H1 n s1 v1=>?_)
 split at h
 .rename_i j _ ws _ zs _ o
  rw[o]at v1
  by_cases a:j.length<=ws.length/\j.length<=zs.length
  .rw[if_pos a]at h
   cases v1 with
   |cons b q =>
    cases q with
    |cons c r =>
     cases r with
     |cons d s =>
      cases s
      have b:=b.rep e.wn
      have c:=c.rep e.wn
      have d:=d.rep e.wn
      rw[f]at b c d
      cases b with
      |lst q1 u =>
       cases c with
       |lst q2 v =>
        cases d with
        |lst k w =>
         refine⟨_,_,_,rfl,⟨_,((iR _ _).seq q1).toK⟩,⟨_,((iR _ _).seq q2).toK⟩,⟨_,((iR _ _).seq k).toK⟩,h _ H1 n s1 ?_⟩
         rw[f]
         exact aeB q1 u q2 v k w a.1 a.2
  .rw[if_neg a]at h
   exact h.elim
 .exact h.elim
end L2
end
section
namespace L2
open PySem PySem.Spec PyProof.Rows
section
variable {X:Cx}{k j:Nat}{x:Str}{ps:List Str}{sp:Sp}{p pos:Pos}{a b e:Expr}{es:List Expr}{ta tb:TE}{tl:TA}{E:XK}
theorem bD(c:PE X a ta)(d:PE X b tb)(f:Tt b:=by exact λ_ _=>rfl):PE X (.Subscript a b pos) (gU (rM X.K) ta tb):=jL jM c d f
theorem pc1(D:aQ X.prog X.w X.K X.mg X.base j x ps sp)(f:gQ k X.A)(g:Passes (j4 X.prog X.w) X E)(h:PA X (e::es) tl)(i:j<=k:=by decide)(m:X.env.kindOf x=some .globalImplicit:=by kernel_rfl)(c:(x == ("__debug__" : Str))=false:=by kernel_rfl)
  (he:notStar e=true:=by kernel_rfl) (d:(backTo pos (starEach es X.env)).any (·.1)=false:=by kernel_rfl):PE X (.Call (.Name x p) (e::es) [] pos) (rH sp [] E tl):=Vv (D.mono i) f g h m c he d
theorem eZ(D:aQ X.prog X.w X.K X.mg X.base j x ps sp)(f:gQ k X.A)(g:PA X (e::es) tl)(h:j<=k:=by decide)(i:X.env.kindOf x=some .globalImplicit:=by kernel_rfl)(c:(x == ("__debug__" : Str))=false:=by kernel_rfl)
  (he:notStar e=true:=by kernel_rfl) (d:(backTo pos (starEach es X.env)).any (·.1)=false:=by kernel_rfl):PE X (.Call (.Name x p) (e::es) [] pos) (rH sp [] E0 tl):=Vv (D.mono h) f abM g i c he d
end
theorem fS(N P:List Str)(sc:Scope)(kind:sc.kind=.function:=by rfl)(co:sc.isCoroutine=false:=by rfl)(gen:sc.isGenerator=false:=by rfl)(nd:N.Nodup:=by decide +kernel)(pre:N.take P.length=P:=by rfl)(par:∀x∈P,sc.names.lookup x=some .local\/sc.names.lookup x=some .cell:=by decide +kernel)(JQ:∀y∈sc.names,y.2 ≠ .free:=by decide +kernel):rJ N P sc:=⟨kind,co,gen,nd,pre,par,JQ⟩
section
variable {t:Tx}{K:FZ}
theorem aeD(b:t.K=aJ K)(c:SE t ta fa):L2.ST t (λσ H Q=>ta σ H λx a=>∃k,wX K x a k/\Q k a) (dJ fa):=jF b c
theorem aeE(a:t.K=aJ K)(h:∀t':Tx,t'.K=aJ K->(∀c,¬t'.EX c)->SS t' ts f):SS t ts (bL f):=uO λt' b k=>h t' (b.trans a) k
theorem aeF(a:t.K=aJ K)(hi:SI t wi fi)(b:∀T ρ c,gf T ρ ≠ .ex c)(d:∀t':Tx,t'.K=aJ K->(∀c,¬t'.EX c)->SG t' g gf js)(he:∀t':Tx,t'.K=aJ K->(∀c,¬t'.EX c)->SE t' te f)(e:∀k j:Nat,src[k]?=some (some j)->k∉js)(I:(src.filterMap id).Nodup):SE t (uo wi g src te) (dG src fi gf cO f) :=
 Aa hi (qF I) e b (λt' h k=>d t' (h.trans a) k) (λt' h k=>he t' (h.trans a) k)
end
section
variable {α : Type}{P:List α -> Prop}{us:List α}
theorem ar1(h:us.length=1)(k:∀a,P [a]):P us:=by
 obtain⟨a,rfl⟩:=List.length_eq_one_iff.mp h
 exact k a
theorem ar2(h:us.length=2)(k:∀a b,P [a,b]):P us:=by
 cases us with
 |nil=>cases h
 |cons a us=>exact ar1 (P:=λl=>P (a::l)) (Nat.succ.inj h) (k a)
theorem Xf(h:us.length=3)(k:∀a b c,P [a,b,c]):P us:=by
 cases us with
 |nil=>cases h
 |cons a us=>exact ar2 (P:=λl=>P (a::l)) (Nat.succ.inj h) (k a)
theorem ar4(h:us.length=4)(k:∀a b c d,P [a,b,c,d]):P us:=by
 cases us with
 |nil=>cases h
 |cons a us=>exact Xf (P:=λl=>P (a::l)) (Nat.succ.inj h) (k a)
theorem au1(k:∀a,P [a]):∀us:List α,us.length=1->P us:=λ_ h=>ar1 h k
theorem au2(k:∀a b,P [a,b]):∀us:List α,us.length=2->P us:=λ_ h=>ar2 h k
theorem au3(k:∀a b c,P [a,b,c]):∀us:List α,us.length=3->P us:=λ_ h=>Xf h k
theorem au4(k:∀a b c d,P [a,b,c,d]):∀us:List α,us.length=4->P us:=λ_ h=>ar4 h k
end
open PySem.Builtin PySem.Builtin.Str
end L2
end
section
namespace L2
open PySem PySem.Spec PyProof.Rows
open PySem.W
def vC(a:Int)(n:Nat):List Tr:=(List.range' 0 n).map λi:Nat=>Tr.int (a+i)
end L2
end
section
namespace L2
open PySem PySem.Spec PyProof.Rows
section
variable {t:Tx}{W W':Addr->Prop}{ρ ρ':En}{σ : St}{H H':Hp}{F:Nat->List Addr}
theorem EOF.weak(e:EOF t W ρ σ H F)(p:∀(i:Nat) (s:Sl),ρ'[i]?=some s->s=.un\/ρ[i]?=some s)(I : ρ'.length = ρ.length)(m:Same (aK W H) (aK W' H'))(sub:∀b,W b->W' b)(wl:∀b,W' b->Lt H' b)(tb:gJ t.K H')
  (f0:∀b o,t.H0 b=some o->¬t.R b->H' b=some o) (dom:∀b,H' b=none->t.H0 b=none) (pn:∀b o,t.B b=some o->H' b=some o)
  (G:∀(i:Nat) (a:Addr) (o:HO),Mu ρ' i -> σ[i]?=some (some (.ref a))->H a=some o->H' a=some o) (J:∀(i:Nat) (ts:List Tr) (b:Addr) (o:HO),ρ'[i]?=some (.dp ts)->b∈F i->H b=some o->H' b=some o):EOF t W' ρ' σ H' F:=by
 have x:∀j,Mu ρ' j->Mu ρ j:=λj h=>by
  obtain⟨ts,h|h⟩:=h <;> rcases p j _ h with z|h
  .cases z
  .exact⟨ts,.inl h⟩
  .cases z
  .exact⟨ts,.inr h⟩
 have v:∀(j:Nat) (f:List Tr),ρ'[j]?=some (Sl.dp f) -> ρ[j]?=some (Sl.dp f):=λj f h=>by
  rcases p j _ h with z|h
  .cases z
  .exact h
 refine⟨by rw[I]; exact e.len,λb z=>sub b (e.zw b z),e.z0,wl,f0,dom,λj u h=>?_,λj ts h=>?_,λj ts h=>?_,λj k a g l q1 q2=>e.dis j k a (x j g) (x k l) q1 q2,pn,λj a m q=>e.pd j a (x j m) q,λj f h=>?_,λj k f ws n g l=>e.dd j k f ws n (v j f g) (v k ws l),λj k f c g m q=>e.dm j k f c (v j f g) (x k m) q,λj f h=>e.db j f (v j f h),⟨tb,λb z=>sub b (e.tab.w b z),e.tab.r,e.tab.B⟩⟩
 .rcases p j _ h with z|h
  .cases z
  .obtain⟨w,g,l⟩:=e.sh j u h
   exact⟨w,g,l.mono m⟩
 .rcases p j _ h with z|q
  .cases z
  .obtain⟨a,y,g,l,A,C,D⟩:=e.ow j ts q
   exact⟨a,y,g,sub a l,A,G j a _ ⟨ts,.inl h⟩ g C,D.mono m⟩
 .rcases p j _ h with z|q
  .cases z
  .obtain⟨a,y,g,l,A,C,D⟩:=e.rf j ts q
   exact⟨a,y,g,sub a l,A,G j a _ ⟨ts,.inr h⟩ g C,D.mono m⟩
 .obtain⟨c,L,g,d⟩:=e.dp j f (v j f h)
  exact⟨c,L,g,d.move rfl rfl m (λb E=>sub b (by obtain⟨_,_,_,ww,_⟩:=d; exact(ww b E).1)) λb o E q=>J j f b o h E q⟩
def OwA(ρ : En)(σ : St)(F:Nat->List Addr)(b:Addr):Prop:=(∃(i:Nat) (ts:List Tr),ρ[i]?=some (Sl.ow ts)/\σ[i]?=some (some (.ref b)))\/∃(i:Nat) (ts:List Tr),ρ[i]?=some (Sl.dp ts)/\b∈F i
def Wv(W:Addr->Prop)(ρ : En)(σ : St)(F:Nat->List Addr)(b:Addr):Prop:=W b/\¬OwA ρ σ F b
end
abbrev FD:=List Tr->Rs (List Tr)
def Xg(K:FZ)(Z:Addr->Prop)(H H':Hp)(v:V)(ts:List Tr):Prop:=∃a xs bs,v=.ref a/\(a::bs).Nodup/\(∀b∈a::bs,H b=none/\∃ys,H' b=some (.lst ys))/\H' a=some (.lst xs)/\DR K (aK (λb=>Z b\/b∈a::bs) H') H' xs ts bs
noncomputable def Br(K:FZ)(cl:Str->Addr)(n:Nat)(F:FD):Sp:=λvs H Q E=>∃Z ts,vs.length=n/\aN (aJ K) (aK Z H) vs ts/\(∀b,Z b->Lt H b)/\gJ (aJ K) H /\
 (F ts).post (λc=>∀H',jt (aJ K) H H'->E (.ref (cl c)) none H') (λp=>∀v H',jt (aJ K) H H'->Xg (aJ K) Z H H' v p->Q v H')
abbrev DF:=En->Rs (List Tr)
def SD(t:Tx)(ts:TS)(f:DF):Prop:=∀W ρ σ H D,aO t W ρ σ H->(f ρ).post t.EX (λus=>∀v W' ρ' σ' H',aO t W' ρ' σ' H'->Xg t.K t.Z t.H0 H' v us->D.rt v H')->ts D σ H
section
variable {t:Tx}
theorem aeG(i:Nat):SD t (vg (iJ i)) (λρ=>oh ρ i):=λW ρ σ H D e h=>by
 obtain⟨g,k,h⟩:=dW h (Vw _ _)
 have j:=e
 obtain⟨F,e⟩:=e
 obtain⟨a,d,q1,bs,l,nd,ww,f,r⟩:=e.dp i g (Vx k)
 rw[l]at nd ww
 refine⟨.ref a,q1,h _ W ρ σ H j ⟨a,d,bs,rfl,nd,λb c=>⟨(ww b c).2,?_⟩,f,r.move (qg (λb _ _ z=>?_) λ_ _ _ h=>h) λ_ _ _ h=>h⟩⟩
 .rcases List.mem_cons.mp c with rfl|c
  .exact⟨d,f⟩
  .exact r.lst b c
 .rcases z with z|z
  .exact e.zw b z
  .exact(ww b z).1
def Xh(f:SF)(g:DF):DF:=λρ=>(f ρ).bind λp=>match p.1 with
 |.nx=>g p.2
 |_=>.bad
theorem aeH(c:SS t ta f)(d:SD t tb g):SD t (uc ta tb) (Xh f g):=λW i σ H D e h=>by
 refine c W i σ H _ e (Rs.bF (Rs.aX h) λp h=>?_)
 obtain⟨fl,a⟩:=p
 cases fl with
 |nx=>exact λW1 b H1 j n1=>d W1 a b H1 D j h
 |rt T fr=>exact h.elim
 |bk=>exact h.elim
 |ct=>exact h.elim
end
def Xi(nl:Nat)(b:DF):FD:=λts=>b (bQ nl ts)
section
variable {P:Program}{w:World}{K:FZ}{mg:Str->Option Value}{base:Heap}
theorem At.dfD{k:Nat}{x:Str}{st:Stmt}{N p:List Str}{cl:Str->Addr}{b:DF}(a:At K mg x st)(S:rJ N p (bC st))(X:p.length<=N.length)
  (I:∀(kV doc pm:Value) (an:Option Addr) (g ct:Value) (us:List Value),us.length=p.length->bindArgs (PySem.W.fnOf x x (pN st) (jY st) (bC st) .none kV doc pm an g ct) ⟨us,[]⟩=pure (p.zip us))
  (m:∀(f:Addr) (g:Value) (A:Around) (outer:List Env) (s:Shared) (H:Hp) (E:XK),gQ k (A.deeper (envOfC x (bC st) s.heap.objs.size f g)) ->
   ∃ts,jV (lJ (j4 P w) P w K mg base N x (bC st) f g A outer s H E) (jY st) ts/\∀t:Tx,t.K=aJ K->(∀c d,F0 t d->t.EX c->E (.ref (cl c)) none d)->SD t ts b) :
  aQ P w K mg base (k+1) x p (Br K cl p.length (Xi N.length b)):=by
 refine a.Ur S I (λD H Q E h=>?_) (λf g A outer s H D Q E J h=>?_)
 .obtain⟨_,_,h,_⟩:=h; exact h
 obtain⟨Z,as,V,r,F,tb,h⟩:=h
 obtain⟨ts,L,M⟩:=m f g A outer s H E J
 refine⟨ts,L,?_⟩
 have O:∀(W:Addr->Prop) G σ d,aO ⟨aJ K,Z,Tb (aJ K),H,λ_=>none,λc=>∀d,jt (aJ K) H d->E (.ref (cl c)) none d⟩ W G σ d->jt (aJ K) H d:=λW G σ d e=>⟨λb o q n=>e.f0 b o q n,e.tab.ok⟩
 have r:=r.pY (K8 tb)
 refine M ⟨aJ K,Z,Tb (aJ K),H,λ_=>none,λc=>∀d,jt (aJ K) H d->E (.ref (cl c)) none d⟩ rfl (λc d f0 q=>q d ⟨λb o z n=>f0.1 b o z n,f0.2⟩) (λb=>Z b\/Tb (aJ K) b) (bQ N.length as) (start N D) H _ ?_ (Rs.bF h λq h=>?_)
 .have Y:=r.length
  have l:∀(i:Nat) (us:List Tr),(bQ N.length as)[i]?=some (.dp us)->False:=λi us q=>by
   rcases lU q with⟨y,q1,z⟩|z <;> cases z
  refine⟨λ_=>[],?_,λ_ z=>.inl z,λb z=>?_,λb z=>z.elim (F b) (λz=>.inr (.inl (tb.eE z))),λb o q _=>q,λb q=>q,λi u q=>?_,λi us q=>?_,λi us q=>?_,λi j c m1 m2=>?_,λb o z=>(by cases z),λ_ _ _ _=>rfl,λi us q=>(l i us q).elim,λi _ us _ _ q=>(l i us q).elim,λi _ us _ q=>(l i us q).elim,λi us q=>(l i us q).elim,⟨tb,λ_ z=>.inr z,λ_ z=>z,λ_ _=>rfl⟩⟩
  .unfold bQ start
   simp only[List.length_append,List.length_map,List.length_replicate]
   omega
  .exact(F b z).ne
  .rcases lU q with⟨y,q1,z⟩|z
   .cases z
    obtain⟨v,R,T⟩:=r.mK q1
    exact⟨v,Lb R,T⟩
   .cases z
  .rcases lU q with⟨y,q1,z⟩|z <;> cases z
  .rcases lU q with⟨y,q1,z⟩|z <;> cases z
  .obtain⟨us,q|q⟩:=m1 <;> rcases lU q with⟨y,q1,z⟩|z <;> cases z
 .exact λv U B C d e n=>h v d (O U B C d e) n
end
section
variable {t:Tx}{K:FZ}
theorem EOF.aeI{W D:Addr->Prop}{F:Nat->List Addr}(e:EOF t W ρ σ H F)(s:jt t.K H H')(g:∀b,D b->H b=none/\∃xs,H' b=some (.lst xs)):EOF t (λb=>W b\/D b) ρ σ H' F:=by
 have ls:∀{a:Addr} {xs:List V},H a=some (.lst xs)->H' a=some (.lst xs):=λq=>s.1 _ _ q λz=>e.tab.ok.ne z q rfl
 refine e.weak (λ_ _ h=>.inr h) rfl (λb o h=>?_) (λb w=>.inl w) (λb w=>?_) s.2 (λb o h n=>s.1 b o (e.f0 b o h n) λz=>n (e.tab.r b z)) (λb h=>e.n0 b (s.dom b h)) (λb o h=>s.1 b o (e.pn b o h) λz=>(by rw[e.tab.B b z]at h; cases h)) (λi a o j hi h=>?_) (λi k b o hi l h=>?_)
 .obtain⟨n,h⟩:=iZ h
  rw[eG]
  .exact s.1 b o h λz=>n (e.tab.w b z)
  .rintro(z|z)
   .exact n z
   .rw[(g b z).1]at h; cases h
 .rcases w with w|w
  .rcases e.wl b w with⟨xs,q⟩|⟨f,q⟩|⟨f,q,m⟩
   .exact .inl ⟨xs,ls q⟩
   .by_cases z:Tb t.K b
    .exact .inr (.inl (s.2.eE z))
    .exact .inr (.inl ⟨f,s.1 b _ q z⟩)
   .by_cases z:Tb t.K b
    .exact .inr (.inl (s.2.eE z))
    .exact .inr (.inr ⟨f,s.1 b _ q z,m⟩)
  .exact .inl (g b w).2
 .obtain⟨xs,q⟩:=aO.K7 ⟨F,e⟩ j hi
  rw[q]at h
  cases h
  exact ls q
 .obtain⟨c,p,u,d⟩:=e.dp i k hi
  exact s.1 b o h λz=>d.nt e.tab.ok z l
end
def Ag(J:List Nat)(σ σ':St):Prop:=∀i,i∉J -> σ'[i]?=σ[i]?
def Ends.gd(D:Ends)(J:List Nat)(σ : St):Ends where
 nx:=λσ' H'=>Ag J σ σ'->D.nx σ' H'
 rt:=D.rt
 bk:=λσ' H'=>Ag J σ σ'->D.bk σ' H'
 ct:=λσ' H'=>Ag J σ σ'->D.ct σ' H'
def Fm(J:List Nat)(ts:TS):Prop:=∀D σ H,ts (D.gd J σ) σ H=ts D σ H
def Fg(J:List Nat)(g:TG):Prop:=∀x σ H Q,g x σ H (λσ' H'=>Ag J σ σ'->Q σ' H')=g x σ H Q
def GQ(J:List Nat)(g:rD):Prop:=∀x σ H Q,g x σ H (λσ' H'=>Ag J σ σ'->Q σ' H')=g x σ H Q
section
variable {J:List Nat}{σ σ' GR:St}
theorem Ag.refl(J:List Nat)(σ : St):Ag J σ σ := λ_ _=>rfl
theorem Ag.trans(h:Ag J σ σ')(h':Ag J σ' GR):Ag J σ GR:=λi n=>(h' i n).trans (h i n)
theorem Ag.left(h:Ag J σ σ'):Ag J σ GR=Ag J σ' GR:=propext ⟨λa i n=>(a i n).trans (h i n).symm,λa=>h.trans a⟩
theorem Ag.name(h:i∈J)(v:Option V):Ag J σ (σ.set i v):=λj n=>List.getElem?_set_ne (λz:i=j=>n (z▸h))
theorem imp_eq{a p q:Prop}(h:a->p=q):(a->p)=(a->q):=propext ⟨λx y=>h y▸x y,λx y=>(h y).symm▸x y⟩
theorem imp_self{a p:Prop}(h:a):(a->p)=p:=propext ⟨λx=>x h,λx _=>x⟩
theorem Ends.aeJ{D:Ends}(h:Ag J σ σ'):D.gd J σ = D.gd J σ':=by
 unfold Ends.gd
 congr 1
 all_goals
  funext τ H
  rw[h.left]
theorem aeK:Fm J Jv:=λD σ H=>imp_self (Ag.refl J σ)
theorem aeL(te:TE):Fm J (vg te):=λD σ H=>rfl
theorem aeM(te:TE):Fm J (vf te):=λD σ H=>by
 show te σ H _=te σ H _
 congr 1
 funext x H1
 exact imp_self (Ag.refl J σ)
theorem aeN(te:TE)(h:Fg J g):Fm J (m6 te g):=λD σ H=>by
 show te σ H _=te σ H _
 congr 1
 funext x H1
 exact h x σ H1 D.nx
theorem aeO(c:TT)(a:Fm J t)(d:Fm J u):Fm J (Jw c t u):=λD σ H=>by
 show c σ H _=c σ H _
 congr 1
 funext b H1
 rw[a,d]
theorem aeP{t u:TS}(b:Fm J t)(c:Fm J u):Fm J (uc t u):=λD σ H=>by
 show t {D.gd J σ with nx:=u (D.gd J σ) } σ H=t {D with nx:=u D } σ H
 rw[<-b {D.gd J σ with nx:=u (D.gd J σ) },<-b {D with nx:=u D }]
 congr 1
 unfold Ends.gd
 dsimp only
 congr 1
 .funext τ H1
  refine imp_eq λa=>?_
  have:=c D τ H1
  rw[<-Ends.aeJ a]at this
  exact this
 .funext τ H1
  exact imp_eq λa=>imp_self a
 .funext τ H1
  exact imp_eq λa=>imp_self a
theorem aeQ{i:Nat}(h:i∈J):Fg J (dN i):=λx σ H Q=>imp_self (Ag.name h _)
theorem aeR:GQ J wO:=λx σ H Q=>by
 show(_/\(Ag J σ σ -> Q σ H))=(_/\_)
 rw[imp_self (Ag.refl J σ)]
theorem aeS(d:Fg J g)(e:GQ J u):GQ J (rE g u):=λx σ H Q=>by
 show(∃v r,_/\g v σ H λc b=>u r c b λσ' b=>Ag J σ σ'->Q σ' b)=∃v r,_/\g v σ H λc b=>u r c b Q
 congr 1
 funext v
 congr 1
 funext r
 congr 1
 rw[<-d v σ H λc b=>u r c b λσ' b=>Ag J σ σ'->Q σ' b,<-d v σ H λc b=>u r c b Q]
 congr 1
 funext c b
 refine imp_eq λa=>?_
 rw[<-e r c b Q]
 congr 1
 funext τ' H2
 rw[a.left]
theorem aeT(K:FZ)(n:Nat)(h:GQ J u):Fg J (wQ K n u):=λx σ H Q=>by
 show(∃a b,_/\_/\_/\u b σ H _)=∃a b,_/\_/\_/\u b σ H _
 congr 1
 funext a
 congr 1
 funext b
 rw[h]
theorem Xj{g:TG}{tb:TS}(u:Fg J g)(q:Fm J tb){I:It}{D j:Ends}{H1:Hp}(v:∀τ H,Ag J σ τ -> D.nx τ H->j.nx τ H)(he:∀τ,Ag J σ τ -> ∀o H,Ag J τ o->D.nx o H=j.nx o H)(A:D.rt=j.rt)
  (h:∃W:Nat->Nat->St->Hp->Prop,(∃m,W 0 m σ H1)/\∀i m σ H,W i m σ H->(I.stop i H/\D.nx σ H)\/(I.go i H/\∃N:St->Hp->Prop,(∀σ' c,N σ' c->∃p,p<m/\W (i+1) p σ' c)/\∀x c,I.oR i H x c->g x σ c λf k=>tb {D with nx:=N,ct:=N,bk:=D.nx } f k)) :
  ∃W:Nat->Nat->St->Hp->Prop,(∃m,W 0 m σ H1)/\∀i m σ H,W i m σ H->(I.stop i H/\j.nx σ H)\/(I.go i H/\∃N:St->Hp->Prop,(∀σ' c,N σ' c->∃p,p<m/\W (i+1) p σ' c)/\∀x c,I.oR i H x c->g x σ c λf k=>tb {j with nx:=N,ct:=N,bk:=j.nx } f k):=by
 obtain⟨W,⟨m,h0⟩,h⟩:=h
 refine⟨λi m τ H=>W i m τ H/\Ag J σ τ,⟨m,h0,Ag.refl J σ⟩,λi m τ H w=>?_⟩
 rcases h i m τ H w.1 with⟨s,d⟩|⟨go,N,l,r⟩
 .exact .inl ⟨s,v τ H w.2 d⟩
 .refine .inr ⟨go,λσ' c=>N σ' c/\Ag J σ σ',λσ' c n=>?_,λx c y=>?_⟩
  .obtain⟨p,lt,t⟩:=l σ' c n.1
   exact⟨p,lt,t,n.2⟩
  .have z:=r x c y
   rw[<-u]at z ⊢
   have e:(λf k=>Ag J τ f->tb {D with nx:=N,ct:=N,bk:=D.nx } f k)=λf k=>Ag J τ f->tb {j with nx:=λσ' c=>N σ' c/\Ag J σ σ',ct:=λσ' c=>N σ' c/\Ag J σ σ',bk:=j.nx } f k:=by
    funext f k
    refine imp_eq λa=>?_
    have a2:=w.2.trans a
    rw[<-q,<-q {j with nx:=λσ' c=>N σ' c/\Ag J σ σ',ct:=λσ' c=>N σ' c/\Ag J σ σ',bk:=j.nx }]
    congr 1
    unfold Ends.gd
    dsimp only
    have B:(λσ' c=>Ag J f σ'->N σ' c)=λσ' c=>Ag J f σ'->(N σ' c/\Ag J σ σ'):=by
     funext σ' c
     exact imp_eq λb=>propext ⟨λn=>⟨n,a2.trans b⟩,λn=>n.1⟩
    rw[B,A]
    congr 1
    funext σ' c
    exact imp_eq λb=>he f a2 σ' c b
   rw[e]at z
   exact z
theorem aeU(c:TI){g:TG}{tb:TS}(h:Fg J g)(i:Fm J tb):Fm J (yL c g tb):=λD σ H=>by
 show c σ H _=c σ H _
 congr 1
 funext I H1
 exact propext ⟨Xj h i (λe H a d=>d a) (λe a f H b=>imp_self (a.trans b)) rfl,Xj h i (λe H a d _=>d) (λe a f H b=>(imp_self (a.trans b)).symm) rfl⟩
end
def xX:Tr->Tr
 |.lst us=>.lst us.reverse
 |u=>u
def j9(rs:List (Addr × List V))(H:Hp):Hp:=rs.foldl (λH p=>upd H p.1 (.lst p.2.reverse)) H
theorem Bu:∀{rs:List (Addr × List V)} {H:Hp} {b:Addr},b∉rs.map Prod.fst->j9 rs H b=H b
 | [],_,_,_=>rfl
 |p::rs,H,b,n=>by
  have a:b≠p.1/\b∉rs.map Prod.fst:=by simpa only[List.map_cons,List.mem_cons,not_or]using n
  show j9 rs (upd H p.1 (.lst p.2.reverse)) b=_
  rw[Bu a.2,bA a.1]
theorem Nh:∀{rs:List (Addr × List V)} {H:Hp} {p:Addr × List V},(rs.map Prod.fst).Nodup->p∈rs->j9 rs H p.1=some (.lst p.2.reverse)
 | [],_,_,_,m=>by cases m
 |q::rs,H,p,nd,m=>by
  rw[List.map_cons,List.nodup_cons]at nd
  show j9 rs (upd H q.1 (.lst q.2.reverse)) p.1=_
  rcases List.mem_cons.mp m with rfl|m
  .rw[Bu nd.1,dM]
  .exact Nh nd.2 m
theorem DR.flip{K:FZ}{G H:Hp}:∀{xs:List V} {ts:List Tr} {bs:List Addr},DR K G H xs ts bs->ts.all zq=true ->
  ∃rs:List (Addr × List V),xs=rs.map (λp=>V.ref p.1)/\bs=rs.map Prod.fst/\(∀p∈rs,H p.1=some (.lst p.2))/\∀c,Same G c->(∀p∈rs,c p.1=some (.lst p.2.reverse))->aN K c xs (ts.map xX)
 |_,_,_,.nil,_=>⟨[],rfl,rfl,(λp m=>by cases m),λ_ _ _=>.nil⟩
 |_,_,_,.cl n _ _,a=>by rw[List.all_cons,n]at a; cases a
 |_,_,_,@DR.rw _ _ _ b d j xs ts bs h q r,a=>by
  obtain⟨rs,e,f,g,i⟩:=DR.flip r (by rw[List.all_cons]at a; exact(Bool.and_eq_true_iff.mp a).2)
  refine⟨(b,d)::rs,by rw[e]; rfl,by rw[f]; rfl,λp m=>?_,λc m k=>?_⟩
  .rcases List.mem_cons.mp m with rfl|m
   .exact h
   .exact g p m
  .exact .cons (.lst (bH.of (k (b,d) (List.mem_cons_self ..))) (q.rev.mono m)) (i c m λp z=>k p (List.mem_cons_of_mem _ z))
section
variable {t:Tx}{K:FZ}
structure Bs(t:Tx)(W:Addr->Prop)(H:Hp):Prop where
 zw:∀b,t.Z b->W b
 z0:∀b,t.Z b->t.H0 b≠none
 wl:∀b,W b->Lt H b
 f0:∀b o,t.H0 b=some o->¬t.R b->H b=some o
 n0:∀b,H b=none->t.H0 b=none
 pn:∀b o,t.B b=some o->H b=some o
 tab:jO t W H
theorem Bs.Ni(b:Bs t W H)(len : ρ.length = σ.length)(f:∀(i:Nat) (s:Sl),ρ[i]?=some s->s=.un\/∃u v,s=.sh u/\σ[i]?=some (some v)/\Rep t.K (aK W H) v u):aO t W ρ σ H:=by
 have no:∀(i:Nat) (s:Sl),(∀u,s ≠ .sh u)->s ≠ .un -> ρ[i]?=some s->False:=λi s n1 g q=>by
  rcases f i s q with z|⟨u,v,z,_⟩
  .exact g z
  .exact n1 u z
 have e:∀i,Mu ρ i->False:=λi m=>by
  obtain⟨d,q|q⟩:=m
  .exact no i (.ow d) (by intro u z; cases z) (by intro z; cases z) q
  .exact no i (.rf d) (by intro u z; cases z) (by intro z; cases z) q
 have dp:∀(i:Nat) (d:List Tr),ρ[i]?=some (Sl.dp d)->False:=λi d q=>no i (.dp d) (by intro u z; cases z) (by intro z; cases z) q
 refine⟨λ_=>[],len,b.zw,b.z0,b.wl,b.f0,b.n0,λi u q=>?_,λi d q=>(e i ⟨d,.inl q⟩).elim,λi d q=>(e i ⟨d,.inr q⟩).elim,λi j a m=>(e i m).elim,b.pn,λi a m=>(e i m).elim,λi d q=>(dp i d q).elim,λi j d h n q=>(dp i d q).elim,λi j d c q=>(dp i d q).elim,λi d q=>(dp i d q).elim,b.tab⟩
 rcases f i _ q with z|⟨k,v,z,r⟩
 .cases z
 .cases z
  exact⟨v,r⟩
def shO(J:List Nat)(i:Nat):Sl->Sl
 |.sh T=>if i∈J then .un else .sh T
 |_=>.un
def lA(J:List Nat)(ρ : En):En := ρ.mapIdx (shO J)
theorem Nj(J:List Nat)(ρ : En):(lA J ρ).length = ρ.length:=List.length_mapIdx ..
theorem Nk(h:(lA J ρ)[i]?=some s):s=.un\/(i∉J/\∃T,ρ[i]?=some (.sh T)/\s=.sh T):=by
 unfold lA at h
 rw[List.getElem?_mapIdx]at h
 obtain⟨o,b,rfl⟩:=Option.map_eq_some_iff.mp h
 cases o with
 |sh T =>
  show(if i∈J then Sl.un else .sh T)=.un\/_
  by_cases m:i∈J
  .exact .inl (if_pos m)
  .exact .inr ⟨m,T,b,if_neg m⟩
 |un=>exact .inl rfl
 |ow a=>exact .inl rfl
 |rf a=>exact .inl rfl
 |dp a=>exact .inl rfl
noncomputable def Np(h r:Nat)(J:List Nat)(ρ : En)(ts:List Tr)(u:Tr)(m:Fl × En):Rs (Fl × En):=match m.1 with
 |.nx=>if r < ρ.length/\m.2.length = ρ.length then .ok (.nx,(lA J ρ).set h (.sh (.lst [.lst (ts.map xX),u])))else .bad
 |.rt T b=>.ok (.rt T b,m.2)
 |_=>.bad
def GX(h r:Nat)(J:List Nat)(fm:SF)(ts:List Tr)(q:Rv × En):Rs (Fl × En):=match q.1 with
 |.v u _=>if ts.all zq=true/\h<q.2.length then(fm ((lA [] q.2).set h (.sh (.lst [.lst ts,u])))).bind (Np h r J q.2 ts u)else .bad
 |_=>.bad
def GZ(h r:Nat)(J:List Nat)(F:FD)(fa:AF)(fu:EF)(fm:SF):SF:=λρ=>(fa ρ).bind λp=>if p.1.any bN=true then .bad else(drs p.2 p.1).bind λas=>(F as).bind λts=>(dF (fu (lA [] p.2))).bind (GX h r J fm ts)
theorem aeV{a b p:Addr}(u : σ[h]?=some (some (.ref p)))(v:H p=some (.lst [.ref a,y]))(k:H a=some (.lst (rs.map λq=>V.ref q.1)))(w:∀q∈rs,H q.1=some (.lst q.2))(nd:(a::rs.map Prod.fst).Nodup)(A:r < σ.length)
  (fin:∀σ',σ'.length = σ.length->(∀j,j≠r -> σ'[j]?=σ[j]?)->D.nx σ' (j9 rs H)):yL (xK K (gU (rM K) (iJ h) (tC (.int 0)))) (dN r) (vf (yN K "list" JZ (iJ r))) D σ H:=by
 rw[List.nodup_cons]at nd
 refine .inl ⟨_,u,.inl ⟨p,_,0,.ref a,rfl,rfl,bH.of v,by simp[gC,iD],a,rfl,⟨_,bH.of k⟩,?_⟩⟩
 have s:∀(i:Nat) (b:Addr),b∉rs.map Prod.fst->j9 (rs.take i) H b=H b:=λi b n=>Bu λz=>n (by
  rw[List.map_take]at z
  exact List.mem_of_mem_take z)
 refine aaD (xs:=rs.map λq=>V.ref q.1) (λi c G=>G=j9 (rs.take i) H/\c.length = σ.length/\∀j,j≠r -> c[j]?=σ[j]?) ⟨rfl,rfl,λ_ _=>rfl⟩ (λi c G _ z=>?_) (λi x c G l z=>?_) (λc G z=>?_)
 .rw[z.1]
  exact bH.of ((s i a nd.1).trans k)
 .obtain⟨rfl,f,g⟩:=z
  rw[List.getElem?_map]at l
  obtain⟨q,d,rfl⟩:=Option.map_eq_some_iff.mp l
  have lt:i<rs.length:=(List.getElem?_eq_some_iff.mp d).1
  have B:q∈rs:=List.mem_of_getElem? d
  have m:j9 (rs.take i) H q.1=some (.lst q.2):=by
   rw[<-w q B]
   refine Bu λz=>?_
   have e:rs=rs.take i++q::rs.drop (i+1):=by
    rw[List.getElem?_eq_getElem lt]at d
    cases d
    rw[List.getElem_cons_drop,List.take_append_drop]
   have o:=nd.2
   rw[e,List.map_append,List.map_cons]at o
   have:=(List.nodup_append.mp o).2.2 _ z _ (List.mem_cons_self ..)
   exact this rfl
  show vf _ _ (c.set r (some (.ref q.1))) (j9 (rs.take i) H)
  refine⟨.ref q.1,List.getElem?_set_self (by rw[f]; exact A),.inl ⟨rfl,_,bH.of m⟩,q.1,q.2,rfl,rfl,m,?_,?_,λj n=>?_⟩
  .rw[List.take_add_one,d]
   unfold j9
   rw[List.foldl_append]
   rfl
  .rw[List.length_set,f]
  .rw[List.getElem?_set_ne (Ne.symm n),g j n]
 .obtain⟨rfl,f,g⟩:=z
  have:=fin c f g
  rw[List.length_map,List.take_length]
  exact this
end
section
variable {t:Tx}{K:FZ}
open Classical in
def G5(t:Tx)(R:Addr->Prop)(H:Hp):Tx:={t with B:=λb=>if R b then H b else t.B b,EX:=λ_=>False }
theorem Xl(h:R b):(G5 t R H).B b=H b:=if_pos h
theorem Nq(h:¬R b):(G5 t R H).B b=t.B b:=if_neg h
theorem aeW(R:t.K=aJ K)(h r:Nat)(J:List Nat)(hr:r∈J)(hh:h∉J)(hx:∀c j,F0 t j->t.EX c->E (.ref (cl c)) none j)(hn:∀ρ p,fa ρ=.ok p->p.1.length=n)(ha:SA t ta fa)
  (hu:∀t':Tx,t'.K=t.K->(∀c,¬t'.EX c)->SE t' tu fu) (hM:SS t tM fm) (hF:Fm J tM) (hR:SS t tR fr) :
  SS t (uc (m6 (JN (mG (rH (Br K cl n F) [] E ta) (mG tu uf))) (dN h)) (uc tM (uc (yL (xK K (gU (rM K) (iJ h) (tC (.int 0)))) (dN r) (vf (yN K "list" JZ (iJ r)))) tR))) (aC (GZ h r J F fa fu fm) fr):=λW ρ σ H D e d=>by
 have d:=Rs.aX d
 unfold GZ at d
 have d:=Rs.aX d
 cases S:fa ρ with
 |bad=>rw[S]at d; exact d.elim
 |ex c=>exact ha W ρ σ H _ e (by rw[S]at d ⊢; exact d)
 |ok p =>
 have hl:=hn ρ p S
 rw[S]at d
 refine ha W ρ σ H _ e (post_eq S ?_)
 intro vs H1 g s1 v1
 have d:((if p.1.any bN=true then Rs.bad else((drs p.2 p.1).bind λas=>(F as).bind λA=>(dF (fu (lA [] p.2))).bind (GX h r J fm A))):Rs (Fl × En)).post _ _:=d
 split at d
 .exact d.elim
 rename_i an
 obtain⟨as,k1,d⟩:=dW (Rs.aX d) (zF _ _)
 have rr:aN (aJ K) (aK W H1) vs as:=by
  rw[<-R]
  exact Ld e.wn v1 k1 (by simpa using an)
 show Br K cl n F (vs++[]) H1 _ E
 rw[List.append_nil]
 refine⟨W,as,v1.length.trans hl,rr,g.wl,by rw[<-R]; exact g.tab.ok,?_⟩
 have d:=Rs.aX d
 cases ef:F as with
 |bad=>rw[ef]at d; exact d.elim
 |ex c =>
  rw[ef]at d
  exact λj P=>hx c j ⟨λb o q Q=>P.1 b o (g.f0 b o q Q) λz=>Q (g.tab.r b (by rw[R]; exact z)),by rw[R]; exact P.2⟩ d
 |ok A =>
 rw[ef]at d
 have d:((dF (fu (lA [] p.2))).bind (GX h r J fm A)).post _ _:=d
 intro v j P vr
 rw[<-R]at vr P
 obtain⟨a,xs,bs,rfl,nd,nw,U,dr⟩:=vr
 have wn1:=g.wn
 obtain⟨G,g⟩:=g
 have k:=g.aeI (D:=λb=>b∈a::bs) P nw
 have nR:∀b o,H1 b=some o->b∉a::bs:=λb o q m=>by rw[(nw b m).1]at q; cases q
 have nW:∀b,b∈a::bs->¬W b:=λb m w=>wn1 b w (nw b m).1
 have V:aO (G5 t (λb=>b∈a::bs) j) (λb=>W b\/b∈a::bs) (lA [] p.2) σ j:=by
  refine Bs.Ni ⟨k.zw,k.z0,k.wl,k.f0,k.n0,λb o q=>?_,⟨k.tab.ok,k.tab.w,k.tab.r,λb z=>?_⟩⟩ (by rw[Nj]; exact k.len) λi s q=>?_
  .by_cases m:b∈a::bs
   .rw[Xl m]at q; exact q
   .rw[Nq m]at q; exact k.pn b o q
  .rw[Nq λm=>nW b m (g.tab.w b z)]
   exact k.tab.B b z
  .rcases Nk q with z|⟨_,T,q,z⟩
   .exact .inl z
   .obtain⟨v,q1,q2⟩:=k.sh i T q
    exact .inr ⟨T,v,z,q1,q2⟩
 refine hu (G5 t (λb=>b∈a::bs) j) rfl (λc z=>z) (λb=>W b\/b∈a::bs) (lA [] p.2) σ j _ V (Rs.bF (zV (Rs.aX d)) λq d y L l s3 v3=>?_)
 obtain⟨rv,f⟩:=q
 cases rv with
 |s i=>exact d.elim
 |v u b0 =>
 have d:((if A.all zq=true/\h < f.length then(fm ((lA [] f).set h (.sh (.lst [.lst A,u])))).bind (Np h r J f A u)else .bad):Rs (Fl × En)).post _ _:=d
 split at d
 case isFalse=>exact d.elim
 rename_i hc
 obtain⟨al,lh⟩:=hc
 have ru:Rep t.K (aK (λb=>W b\/b∈a::bs) L) y u:=fP.rep V.wn v3.1
 have wn3:=l.wn
 obtain⟨G3,l⟩:=l
 have l3 : f.length = σ.length:=l.len
 refine⟨by rw[sizeLine_eq]; show 2<=_; decide,λw hw=>?_⟩
 have kp:∀b∈a::bs,L b=j b:=λb m=>by
  obtain⟨C,q⟩:=(nw b m).2
  rw[q]
  exact l.pn b _ (by rw[Xl m]; exact q)
 have wR:w∉a::bs:=λm=>by
  obtain⟨C,q⟩:=(nw w m).2
  rw[kp w m,q]at hw
  cases hw
 have wW:¬W w:=λm=>wn3 w (.inl m) hw
 have up:∀b o,L b=some o->upd L w (.lst [.ref a,y]) b=some o:=λb o q=>by
  rw[bA λz=>by rw[z,hw]at q; cases q]
  exact q
 generalize J4:upd L w (.lst [.ref a,y])=H3 at up
 have Nr:H3 w=some (.lst [.ref a,y]):=by rw[<-J4,dM]
 have n3:∀b,H3 b=none->L b=none:=λb q=>by
  cases z:L b with
  |none=>rfl
  |some o=>rw[up b o z]at q; cases q
 have X:Same (aK (λb=>W b\/b∈a::bs) L) (aK W H3):=qg (λb o _ w=>.inl w) λb o _ q=>up b o q
 have smG:Same (aK (λb=>W b\/b∈a::bs) j) (aK W H3):=qg (λb o _ w=>.inl w) λb o n q=>up b o (s3.keep b o n q)
 have Nt:∀b∈a::bs,∀o,j b=some o->H3 b=some o:=λb m o q=>up b o ((kp b m).trans q)
 have bs3:Bs t W H3:=⟨g.zw,g.z0,λb w=>(l.wl b (.inl w)).grow up,λb o q Q=>up b o (l.f0 b o q Q),λb q=>l.n0 b (n3 b q),λb o q=>up b o (l.pn b o (by
  rw[Nq (nR b o (g.pn b o q))]
  exact q)),⟨l.tab.ok.same up,g.tab.w,g.tab.r,g.tab.B⟩⟩
 have eo:aO t W ((lA [] f).set h (.sh (.lst [.lst A,u]))) (σ.set h (some (.ref w))) H3:=by
  refine(bs3.Ni (ρ := lA [] f) (σ := σ) (by rw[Nj]; exact l3) λi s q=>?_).EY ?_
  .rcases Nk q with z|⟨_,T,q,z⟩
   .exact .inl z
   .obtain⟨v,q1,q2⟩:=l.sh i T q
    exact .inr ⟨T,v,z,q1,q2.mono X⟩
  .refine .lst (bH.of ((eG wW).trans Nr)) (.cons (.lst (bH.of ((eG (nW a (List.mem_cons_self ..))).trans (Nt a (List.mem_cons_self ..) _ U))) ?_) (.cons (ru.mono X) .nil))
   exact dr.reps smG λb C m q=>(eG (nW b (List.mem_cons_of_mem _ m))).trans (Nt b (List.mem_cons_of_mem _ m) _ q)
 show tM {D with nx:=uc _ tR D } (σ.set h (some (.ref w))) H3
 rw[<-hF]
 refine hM W _ _ H3 _ eo (Rs.bF (Rs.aX d) λm d=>?_)
 obtain⟨fl,Y⟩:=m
 cases fl with
 |rt T b=>exact d
 |bk=>exact d.elim
 |ct=>exact d.elim
 |nx =>
 have d:((if r < f.length/\Y.length = f.length then Rs.ok (Fl.nx,(lA J f).set h (.sh (.lst [.lst (A.map xX),u])))else .bad):Rs (Fl × En)).post _ _:=d
 split at d
 case isFalse=>exact d.elim
 rename_i hc
 obtain⟨lr,l1⟩:=hc
 have d:(fr ((lA J f).set h (.sh (.lst [.lst (A.map xX),u])))).post t.EX (qx t W H D):=d
 intro W1 Z x I n4 ag
 obtain⟨F4,I⟩:=I
 have l4 : Y.length = Z.length:=I.len
 obtain⟨rs,rfl,rfl,rh,rb⟩:=dr.flip al
 have hv : Z[h]?=some (some (.ref w)):=(ag h hh).trans (List.getElem?_set_self (by rw[<-l3]; exact lh))
 have Nu:∀b∈a::rs.map Prod.fst,∀o,j b=some o->¬W1 b/\x b=some o:=λb m o q=>n4 b o (nW b m) (Nt b m o q)
 have inR:∀q∈rs,q.1∈a::rs.map Prod.fst:=λq m=>List.mem_cons_of_mem _ (List.mem_map.mpr ⟨q,m,rfl⟩)
 have r4:∀q∈rs,¬W1 q.1/\x q.1=some (.lst q.2):=λq m=>Nu q.1 (inR q m) _ (rh q m)
 have nrs:∀b,b∉a::rs.map Prod.fst->b∉rs.map Prod.fst:=λb n m=>n (List.mem_cons_of_mem _ m)
 have hnr:h≠r:=λz=>hh (z▸hr)
 refine aeV (a:=a) (b:=a) (p:=w) (y:=y) (rs:=rs) hv (n4 w _ wW Nr).2 (Nu a (List.mem_cons_self ..) _ U).2 (λq m=>(r4 q m).2) nd (by rw[<-l4,l1]; exact lr) λσ2 l2 k2=>?_
 have M:∀b o,b∉rs.map Prod.fst->x b=some o->j9 rs x b=some o:=λb o n q=>(Bu n).trans q
 have Nv:∀b,b∈rs.map Prod.fst->∃C,x b=some (.lst C)/\j9 rs x b=some (.lst C.reverse)/\¬W1 b:=λb m=>by
  obtain⟨q,mq,rfl⟩:=List.mem_map.mp m
  exact⟨q.2,(r4 q mq).2,Nh (List.nodup_cons.mp nd).2 mq,(r4 q mq).1⟩
 have old:∀b o,¬W b->b∉a::rs.map Prod.fst->H3 b=some o->¬W1 b/\j9 rs x b=some o:=λb o n m q=>by
  obtain⟨N,O⟩:=n4 b o n q
  exact⟨N,M b o (nrs b m) O⟩
 have Nx:Same (aK (λb=>W b\/b∈a::rs.map Prod.fst) L) (aK W1 (j9 rs x)):=λb o q=>by
  obtain⟨N,O⟩:=iZ q
  obtain⟨y1,y2⟩:=old b o (λz=>N (.inl z)) (λz=>N (.inr z)) (up b o O)
  rw[eG y1]
  exact y2
 have smC:Same (aK (λb=>W b\/b∈a::rs.map Prod.fst) j) (aK W1 (j9 rs x)):=λb o q=>by
  obtain⟨N,O⟩:=iZ q
  exact Nx b o ((eG N).trans (s3.keep b o N O))
 have na:a∉rs.map Prod.fst:=(List.nodup_cons.mp nd).1
 have bs5:Bs t W1 (j9 rs x):=by
  refine⟨I.zw,I.z0,λb w=>?_,λb o q Q=>M b o (λm=>?_) (I.f0 b o q Q),λb q=>I.n0 b ?_,λb o q=>M b o (λm=>?_) (I.pn b o q),I.tab.fr λb o no q=>M b o (λm=>?_) q⟩
  .have nb:b∉rs.map Prod.fst:=λm=>(Nv b m).choose_spec.2.2 w
   rcases I.wl b w with⟨C,q⟩|⟨ps,q⟩|⟨ps,q,nq⟩
   .exact .inl ⟨C,M b _ nb q⟩
   .exact .inr (.inl ⟨ps,M b _ nb q⟩)
   .exact .inr (.inr ⟨ps,M b _ nb q,nq⟩)
  .have:=g.n0 b (nw b (List.mem_cons_of_mem _ m)).1
   rw[this]at q
   cases q
  .cases z:x b with
   |none=>rfl
   |some o =>
    by_cases m:b∈rs.map Prod.fst
    .obtain⟨C,_,O,_⟩:=Nv b m
     rw[O]at q
     cases q
    .rw[M b o m z]at q
     cases q
  .exact nR b o (g.pn b o q) (List.mem_cons_of_mem _ m)
  .obtain⟨C,z,_⟩:=Nv b m
   rw[z]at q
   cases q
   exact no C rfl
 have e5:aO t W1 ((lA J f).set h (.sh (.lst [.lst (A.map xX),u]))) σ2 (j9 rs x):=by
  refine bs5.Ni (by rw[List.length_set,Nj,l2,<-l4,l1]) λi s q=>?_
  rcases get_set q with⟨rfl,rfl,_⟩|⟨ni,q⟩
  .refine .inr ⟨_,.ref w,rfl,(k2 _ hnr).trans hv,.lst (a:=w) (xs:=[.ref a,y]) (bH.of ?_) (.cons (.lst (a:=a) (bH.of ?_) (rb _ smC λq m=>?_)) (.cons (ru.mono Nx) .nil))⟩
   .obtain⟨y1,y2⟩:=old w _ wW wR Nr
    rw[eG y1]
    exact y2
   .obtain⟨y1,y2⟩:=Nu a (List.mem_cons_self ..) _ U
    rw[eG y1]
    exact M a _ na y2
   .rw[eG (r4 q m).1]
    exact Nh (List.nodup_cons.mp nd).2 m
  .rcases Nk q with z|⟨nj,T,q,z⟩
   .exact .inl z
   .obtain⟨v,q1,q2⟩:=l.sh i T q
    refine .inr ⟨T,v,z,?_,q2.mono Nx⟩
    rw[k2 i λz=>nj (z▸hr),ag i nj,List.getElem?_set_ne (Ne.symm ni)]
    exact q1
 refine hR W1 _ σ2 _ D e5 (Rs.bF d λq U=>U.back λb o n q=>?_)
 have q1:=s1.keep b o n q
 have nb:=nR b o q1
 exact old b o n nb (up b o (s3.keep b o (λz=>z.elim n nb) (P.1 b o q1 λz=>n (g.tab.w b z))))
end
section
variable {t:Tx}{K:FZ}
def Bv(n:Nat)(f:SF):DF:=λρ=>if n < ρ.length then Xh f (λρ=>oh ρ n) ρ else .bad
theorem aeX(n:Nat)(h:SS t (m6 te (dN n)) f):SD t (vg te) (Bv n f):=λW a σ H D e q=>by
 unfold Bv at q
 split at q
 case isFalse=>exact q.elim
 rename_i l
 have ln : a.length = σ.length:=e.elim λ_ e=>e.len
 have z:=(aeH h (aeG n)) W a σ H D e q
 have e:(λx H1=>vg (iJ n) D (σ.set n (some x)) H1)=D.rt:=by
  funext x H1
  have g:(σ.set n (some x))[n]?=some (some x):=List.getElem?_set_self (by rw[<-ln]; exact l)
  refine propext ⟨λ⟨v,k,d⟩=>?_,λd=>⟨x,g,d⟩⟩
  rw[g]at k
  cases k
  exact d
 have z:te σ H (λx H1=>vg (iJ n) D (σ.set n (some x)) H1):=z
 rw[e]at z
 exact z
end
end L2
namespace L2
open PySem PySem.Spec PyProof.Rows PySem.W
end L2
end
section
namespace L2
open PySem PySem.Spec PyProof.Rows
end L2
end
section
namespace BH
open PySem L2
noncomputable abbrev Ny:SF:=(aC (fX 3 (dO au)) (aC (bL (cg (GP (ak (aj 0) (ak (aR uU (ak (aj 0) au)) (ak (aj 1) au)))) (gT 3 (bZ (gN 4) (bZ (gN 5) (bZ (gN 6) fO)))) (eY (fY 3 dX (ak (uE (bY (aq jq (aj 6) (eC (.int 0)))) (aq aB (aj 4) (aq aB (aj 5) (aq jo (aj 6) (eC (.int 1))))) (aj 2)) au))))) (bB (aj 3))))
def Bw:FP:=bf 7 Ny
abbrev Xm:SF:=(bB (aR Bo (ak (aj 1) (ak (aR Bm (ak (aj 0) (ak (aj 2) au))) (ak (aR Bw (ak (aj 0) (ak (aq aB (aj 2) (eC (.int 0))) (ak (aj 3) au)))) au)))))
def G6:FP:=bf 4 Xm
abbrev Xn:SF:=(aC (eY (aR Gv (ak (aj 0) (ak (aj 1) au)))) (aC (eY (aR Bl (ak (aj 0) (ak (aj 2) au)))) (bB (aR G6 (ak (aj 0) (ak (aj 1) (ak (aj 2) (ak (eC (.tup [(.int 1),(.int 1)])) au))))))))
def wk:FP:=bf 3 Xn
end BH
end
section
namespace K21
open PySem L2 BH
def top(i:Nat):Stmt:=PySem.Challenge.pw_bestheads_k21_bounds.main.body.getD i (.Pass ⟨0,0,0,0⟩)
abbrev Nz:Stmt:=top 7
abbrev NK:Stmt:=top 8
abbrev NP:Stmt:=top 9
abbrev NQ:Stmt:=top 10
abbrev NT:Stmt:=top 11
abbrev NZ:Stmt:=top 12
abbrev N5:Stmt:=top 13
abbrev G7:Stmt:=top 14
abbrev G8:Stmt:=top 15
abbrev N6:Stmt:=top 19
abbrev G9:Stmt:=top 20
abbrev Bx:Stmt:=top 21
abbrev N7:Stmt:=top 22
abbrev N8:Stmt:=top 23
abbrev Hf:Stmt:=top 24
abbrev Oa:Stmt:=top 25
abbrev Hg:Stmt:=top 26
abbrev Hh:Stmt:=top 29
abbrev Oh:Stmt:=top 30
abbrev Oi:Stmt:=top 31
abbrev Oj:Stmt:=top 32
abbrev Ol:Stmt:=top 33
abbrev Om:Stmt:=top 34
abbrev Oo:Stmt:=top 35
abbrev Hi:Stmt:=top 37
abbrev Hj:Stmt:=top 41
abbrev Oq:Stmt:=top 42
abbrev Hl:Stmt:=top 43
abbrev Ot:Stmt:=top 44
abbrev Ho:Stmt:=top 45
abbrev Ou:Stmt:=top 46
abbrev BJ:Stmt:=top 47
abbrev Ov:Stmt:=top 48
abbrev Ow:Stmt:=top 49
abbrev Ox:Stmt:=top 51
abbrev Oz:Stmt:=top 52
abbrev OD:Stmt:=top 53
abbrev OJ:Stmt:=top 54
abbrev O4:Stmt:=top 55
abbrev O5:Stmt:=top 56
abbrev O6:Stmt:=top 57
abbrev Hq:Stmt:=top 58
abbrev Hr:Stmt:=top 59
abbrev Hs:Stmt:=top 60
abbrev O7:Stmt:=top 61
abbrev BK:Stmt:=top 62
abbrev Ht:Stmt:=top 63
abbrev Hu:Stmt:=top 64
abbrev Hv:Stmt:=top 64
abbrev Hw:Stmt:=top 65
structure Nm(mg:Str->Option Value):Prop where
 O8:mg "abs" = none
 wu:mg "all" = none
 Xo:mg "bool" = none
 aeY:mg "enumerate" = none
 xY:mg "int" = none
 lB:mg "isinstance" = none
 d8:mg "len" = none
 qK:mg "list" = none
 kh:mg "range" = none
 aeZ:mg "sorted" = none
 xZ:mg "tuple" = none
 Hy:mg "zip" = none
noncomputable abbrev O9:SF:=(aC (bw (eC (.int 0)) (gN 2)) (aC (cA (bY (aq gW (aj 1) (aZ (g1 bx) (ak (aj 0) au)))) (bw (aq aB (aj 0) (aj 1)) (gN 2)) cD) (aC (cA (bY (aq j5 (aj 2) (aq lN (eC (.int 10)) (eC (.int 18))))) (bB (aq cj (aq jo (aj 2) (aq lN (eC (.int 10)) (eC (.int 18)))) (aq lN (eC (.int 10)) (eC (.int 60))))) cD) (aC (bw (aq cj (aq cC (aq cC (aq cV (aj 2) (eC (.int 48271))) (aq cV (aj 1) (eC (.int 69621)))) (eC (.int 11))) (eC (.int 2147483629))) (gN 3)) (aC (bw (aq cj (aq cV (aj 3) (aj 3)) (eC (.int 2147483587))) (gN 3)) (bB (aq cC (aq cV (aj 3) (eC (.int 2147483563))) (aq cj (aq cV (aj 3) (aj 3)) (eC (.int 2147483563))))))))))
def jz:FP:=bf 4 O9
noncomputable abbrev Pa:SF:=(aC (bw (aZ (g1 lQ) (ak (aj 0) au)) (gN 2)) (aC (bw (aZ (g1 lQ) (ak (aj 1) au)) (gN 3)) (aC (bL (qy (sI 3) (bY (aq jq (aj 3) (eC (.int 0)))) (vM 2 3 (ak (aj 3) (ak (aq cj (aj 2) (aj 3)) au))))) (aC (cA (bY (aq gW (aj 1) (eC (.int 0)))) (bw (aq jo (eC (.int 0)) (aj 2)) (gN 2)) cD) (bB (jd (ak (aq cL (aj 0) (aj 2)) (ak (aq cL (aj 1) (aj 2)) au))))))))
def oF:FP:=bf 4 Pa
noncomputable abbrev Pb:SF:=(bB (aR oF (ak (aq cC (aq cV (aq aB (aj 0) (eC (.int 0))) (aq aB (aj 1) (eC (.int 1)))) (aq cV (aq aB (aj 1) (eC (.int 0))) (aq aB (aj 0) (eC (.int 1))))) (ak (aq cV (aq aB (aj 0) (eC (.int 1))) (aq aB (aj 1) (eC (.int 1)))) au))))
def yc:FP:=bf 2 Pb
abbrev Pg:SF:=(bB (aR oF (ak (aq cV (aq aB (aj 0) (eC (.int 0))) (aq aB (aj 1) (eC (.int 0)))) (ak (aq cV (aq aB (aj 0) (eC (.int 1))) (aq aB (aj 1) (eC (.int 1)))) au))))
def uV:FP:=bf 2 Pg
abbrev Ph:SF:=(bB (aq gW (aq cV (aq aB (aj 0) (eC (.int 0))) (aq aB (aj 1) (eC (.int 1)))) (aq cV (aq aB (aj 1) (eC (.int 0))) (aq aB (aj 0) (eC (.int 1))))))
def mU:FP:=bf 2 Ph
noncomputable abbrev Pk:SF:=(aC (bw (aR jz (ak (aj 0) (ak (aj 1) au))) (gN 4)) (aC (bw (aq cC (eC (.int 1)) (aq cj (aj 4) (aj 3))) (gN 5)) (aC (bw (aq cC (eC (.int 1)) (aq cj (aq cL (aj 4) (aj 3)) (aj 2))) (gN 6)) (aC (bw (aq aB (sO [.int 2,.int 3,.int 4,.int 6,.int 10,.int 24,.int 97,.int 999999999999]) (aq cj (aq cL (aj 4) (eC (.int 1000))) (eC (.int 8)))) (gN 7)) (aC (fX 8 (dO au)) (aC (bL (cg (cR (ak (aj 6) au)) (gN 9) (aC (bw (aR jz (ak (aj 0) (ak (aq cC (aq cC (aj 1) (eC (.int 1))) (aj 9)) au))) (gN 10)) (aC (fX 11 (dO au)) (aC (cg (cR (ak (aj 5) au)) (gN 12) (aC (cA (bY (aq jq (aj 7) (eC (.int 100)))) (bw (aR jz (ak (aj 0) (ak (aq cj (aq cC (aq cC (aq cC (aj 1) (eC (.int 1))) (aj 9)) (aq cV (eC (.int 5)) (aj 12))) (eC (.int 63))) au))) (gN 10)) cD) (aC (eY (fY 11 dX (ak (aR oF (ak (aq cj (aj 10) (aq cC (aj 7) (eC (.int 1)))) (ak (aj 7) au))) au))) (bw (aq cL (aj 10) (aq cC (aj 7) (eC (.int 1)))) (gN 10))))) (mL 11 (eY (fY 8 dX (ak (aj 11) au))))))))) (bB (aj 8))))))))
def BL:FP:=bf 13 Pk
noncomputable abbrev Pn:SF:=(aC (bw (aq cj (aj 0) (eC (.int 7))) (gN 2)) (aC (bw (aq cL (aj 0) (eC (.int 7))) (gN 0)) (aC (cA (bY (aq bT (aj 2) (eC (.int 0)))) (bB (eC (.tup [.str "least"]))) cD) (aC (cA (bY (aq bT (aj 2) (eC (.int 1)))) (bB (eC (.tup [.str "greatest"]))) cD) (aC (cA (bY (aq bT (aj 2) (eC (.int 2)))) (bB (jd (ak (eC (.str "middle")) (ak (aq cC (eC (.int 1)) (aq cj (aj 0) (aj 1))) au)))) cD) (aC (cA (bY (aq bT (aj 2) (eC (.int 3)))) (bB (eC (.tup [.str "product"]))) cD) (aC (fX 3 (dO au)) (aC (bL (cg (cR (ak (aj 1) au)) (gN 4) (aC (eY (fY 3 dX (ak (aR oF (ak (aq cj (aj 0) (eC (.int 7))) (ak (aq cC (eC (.int 1)) (aq cj (aq cL (aj 0) (eC (.int 7))) (eC (.int 4)))) au))) au))) (bw (aq cL (aj 0) (eC (.int 28))) (gN 0))))) (mL 3 (bB (jd (ak (eC (.str "shares")) (ak (aj 3) au)))))))))))))
def yd:FP:=bf 5 Pn
noncomputable abbrev ae0:SF:=(aC (cA (bY (aq bT (aq aB (aj 0) (eC (.int 0))) (eC (.str "shares")))) (aC (bw (eC (.tup [.int 0,.int 1])) (gN 2)) (aC (bL (cg (cR (ak (aZ (g1 bx) (ak (aj 1) au)) au)) (gN 3) (bw (aR yc (ak (aj 2) (ak (aR uV (ak (aq aB (aq aB (aj 0) (eC (.int 1))) (aj 3)) (ak (aq aB (aj 1) (aj 3)) au))) au))) (gN 2)))) (bB (aj 2)))) cD) (aC (cA (bY (aq bT (aq aB (aj 0) (eC (.int 0))) (eC (.str "product")))) (aC (bw (eC (.tup [.int 1,.int 1])) (gN 2)) (aC (bL (cg (cM (aj 1)) (gN 4) (bw (aR uV (ak (aj 2) (ak (aj 4) au))) (gN 2)))) (bB (aj 2)))) cD) (aC (fX 5 (dO au)) (aC (bL (cg (cM (aj 1)) (gN 4) (aC (bw (aZ (g1 bx) (ak (tD [none,some 4] 5 (gN 0) (dJ (aR mU (ak (aj 0) (ak (aj 1) au)))) (aj 0)) au)) (gN 6)) (eY (fY 5 p7 (ak (aj 6) (ak (aj 4) au))))))) (aC (cA (bY (aq bT (aq aB (aj 0) (eC (.int 0))) (eC (.str "least")))) (bB (aq aB (aj 5) (eC (.int 0)))) cD) (aC (cA (bY (aq bT (aq aB (aj 0) (eC (.int 0))) (eC (.str "greatest")))) (bB (aq aB (aj 5) (zJ rW (eC (.int 1))))) cD) (bB (aq aB (aj 5) (aq jo (aZ (g1 bx) (ak (aj 5) au)) (aq aB (aj 0) (eC (.int 1))))))))))))
def lC:FP:=bf 7 ae0
noncomputable abbrev ae1:SF:=(aC (fX 1 (dO au)) (aC (bL (cg (cR (ak (aZ (g1 bx) (ak (aj 0) au)) au)) (gN 2) (aC (bw (aZ (g1 bx) (ak (tD [none,some 0,some 2] 1 (gN 0) (eX (dJ (aR mU (ak (aq aB (aj 1) (aj 0)) (ak (aq aB (aj 1) (aj 2)) au))))) (aj 0)) au)) (gN 3)) (eY (fY 1 p7 (ak (aj 3) (ak (aj 2) au))))))) (bB (aj 1))))
def qL:FP:=bf 4 ae1
noncomputable abbrev Pq:SF:=(aC (bw (aR jz (ak (aj 0) (ak (aj 1) au))) (gN 3)) (aC (bw (aZ (g1 bx) (ak (aq aB (aj 2) (eC (.int 0))) au)) (gN 4)) (aC (fX 5 (dO au)) (aC (bL (cg (cR (ak (aZ (g1 bx) (ak (aj 2) au)) au)) (gN 6) (aC (eY (fY 5 dX (ak (aq cj (aj 3) (aq cC (aj 4) (eC (.int 1)))) au))) (bw (aq cL (aj 3) (aq cC (aj 4) (eC (.int 1)))) (gN 3))))) (aC (cA (bY (aq bT (aq cj (aj 3) (eC (.int 4))) (eC (.int 0)))) (mL 5 (fX 5 (dG [none] (cM (aj 5)) (gN 0) cO (aq cL (aj 0) (eC (.int 2)))))) cD) (aC (fX 7 (dO au)) (aC (bw (aR jz (ak (aj 0) (ak (aq cC (aj 1) (eC (.int 1))) au))) (gN 8)) (aC (bL (cg (cR (ak (aZ (g1 bx) (ak (aj 2) au)) au)) (gN 6) (aC (cA (bY (aq bT (aj 6) (eC (.int 2)))) (bw (aR jz (ak (aj 0) (ak (aq cC (aj 1) (eC (.int 50))) au))) (gN 8)) cD) (cg (cR (ak (aj 4) au)) (gN 9) (aC (cA (bY (aq bT (aq cj (aj 8) (eC (.int 5))) (eC (.int 1)))) (eY (fY 7 dX (ak (jd (ak (aj 6) (ak (aj 9) au))) au))) cD) (bw (aq cL (aj 8) (eC (.int 5))) (gN 8))))))) (aC (cA (bY (aq bT (aq cj (aq cL (aj 3) (eC (.int 4))) (eC (.int 3))) (eC (.int 0)))) (fX 7 (dO au)) cD) (mL 7 (mL 5 (bB (jd (ak (aj 5) (ak (aj 7) au)))))))))))))))
def BP:FP:=bf 10 Pq
noncomputable abbrev Pu:SF:=(aC (fX 2 (dO au)) (aC (bL (cg (cR (ak (aZ (g1 bx) (ak (aj 0) au)) au)) (gN 3) (aC (bw (pX (aR qL (ak (aq aB (aj 0) (aj 3)) au)) pR (pW (aq aB (aq aB (aj 1) (eC (.int 0))) (aj 3)))) (gN 4)) (aC (fX 5 (dO au)) (aC (cg (cR (ak (aZ (g1 bx) (ak (aq aB (aj 0) (aj 3)) au)) au)) (gN 6) (aC (bw (Et (aq (jP id) (aj 6) (aj 4)) (aq (jP id) (jd (ak (aj 3) (ak (aj 6) au))) (aq aB (aj 1) (eC (.int 1))))) (gN 7)) (eY (fY 5 dX (ak (aq aB (dO (ak (eC .non) (ak (aq aB (aq aB (aj 0) (aj 3)) (aj 6)) au))) (aZ (g1 lR) (ak (aj 7) au))) au))))) (mL 5 (eY (fY 2 dX (ak (aj 5) au))))))))) (bB (aj 2))))
def yg:FP:=bf 8 Pu
noncomputable abbrev Xp:SF:=(aC (bw (aR yg (ak (aj 0) (ak (aj 2) au))) (gN 3)) (aC (fX 4 (dO au)) (aC (bL (cg (cR (ak (aZ (g1 bx) (ak (aj 0) au)) au)) (gN 5) (aC (bw (pX (aR qL (ak (aq aB (aj 0) (aj 5)) au)) pR (pW (aq aB (aq aB (aj 2) (eC (.int 0))) (aj 5)))) (gN 6)) (eY (fY 4 dX (ak (aq aB (dO (ak (eC (.tup [.int 1,.int 1])) (ak (aq aB (aq aB (aj 0) (aj 5)) (aq aB (aq cC (aj 6) (sO [.int 0])) (aq jo (aZ (g1 bx) (ak (aj 6) au)) (eC (.int 1))))) au))) (aZ (g1 lR) (ak (aq jq (aZ (g1 bx) (ak (aj 6) au)) (eC (.int 0))) au))) au)))))) (aC (fX 7 (dO au)) (aC (bL (cg (cR (ak (aZ (g1 bx) (ak (aq aB (aj 0) (eC (.int 0))) au)) au)) (gN 8) (aC (bw (dG [none,some 3,some 8] (cR (ak (aZ (g1 bx) (ak (aj 0) au)) au)) (gN 0) cO (aq aB (dO (ak (aq aB (aq aB (aj 1) (aj 0)) (aj 2)) (ak (eC (.tup [.int 0,.int 1])) au))) (aZ (g1 lR) (ak (aq (nH id) (aq aB (aq aB (aj 1) (aj 0)) (aj 2)) (eC .non)) au)))) (gN 9)) (aC (bw (dG [none,some 3,some 8,some 4] (cR (ak (aZ (g1 bx) (ak (aj 0) au)) au)) (gN 0) cO (aq aB (dO (ak (aq aB (aq aB (aj 1) (aj 0)) (aj 2)) (ak (aq aB (aj 3) (aj 0)) au))) (aZ (g1 lR) (ak (aq (nH id) (aq aB (aq aB (aj 1) (aj 0)) (aj 2)) (eC .non)) au)))) (gN 10)) (eY (fY 7 dX (ak (jd (ak (aR lC (ak (aj 1) (ak (aj 9) au))) (ak (aR lC (ak (aj 1) (ak (aj 10) au))) au))) au))))))) (bB (aj 7)))))))
def yh:FP:=bf 11 Xp
noncomputable abbrev ae2:SF:=(aC (cA (gY (eX (dJ (iH .tuple (aj 0)))) (bY (aq gq (aZ (g1 bx) (ak (aj 0) au)) (eC (.int 2))))) (bB (eC (.bl false))) cD) (bB (aq bT (aZ (g1 bx) (ak (dG [none] (cM (aj 0)) (gN 0) (gY (eX (dJ (iH .int (aj 0)))) (dJ (iH .bool (aj 0)))) (aj 0)) au)) (eC (.int 0)))))
def wz:FP:=bf 1 ae2
abbrev ae3:SF:=(bB (dG [none] (cM (aj 0)) (gN 0) cO (aZ (g1 kW) (ak (aj 0) au))))
def Xq:FP:=bf 1 ae3
abbrev ae4:DF:=(Bv 0 (sU 0 [none] (cM (aj 0)) (gN 0) cO (aZ (g1 kW) (ak (aj 0) au))))
def BR:FD:=Xi 1 ae4
noncomputable abbrev ae5:SF:=(aC (bw (aR BL (ak (aj 0) (ak (eC (.int 0)) (ak (eC (.int 4)) (ak (eC (.int 12)) au))))) (gN 1)) (aC (bw (aR BP (ak (aj 0) (ak (eC (.int 5)) (ak (aj 1) au)))) (gN 2)) (aC (bw (dO (ak (aR yd (ak (aR jz (ak (aj 0) (ak (eC (.int 7)) au))) (ak (aZ (g1 bx) (ak (aj 1) au)) au))) (ak (aR yd (ak (aR jz (ak (aj 0) (ak (eC (.int 8)) au))) (ak (aZ (g1 bx) (ak (aj 1) au)) au))) au))) (gN 3)) (aC (GZ 4 12 [5,6,7,8,9,10,11,12] BR (ak (aj 1) au) (jd (ak (aZ (g1 kW) (ak (aq aB (aj 2) (eC (.int 0))) au)) (ak (aZ (g1 kW) (ak (aq aB (aj 2) (eC (.int 1))) au)) au))) (bL (cg (cM (dO (ak (aq aB (aj 3) (eC (.int 0))) (ak (aq aB (aj 3) (eC (.int 1))) (ak (aq aB (aj 3) (eC (.int 0))) au))))) (gN 5) (aC (bw (aR yh (ak (aj 1) (ak (aj 5) (ak (aj 2) au)))) (gN 6)) (aC (fX 7 (aR wk (ak (aq aB (aj 4) (eC (.int 0))) (ak (aj 5) (ak (aq aB (aj 4) (eC (.int 1))) au))))) (aC (cA (gY (eX (dJ (iH .list (aj 7)))) (gY (bY (aq gq (aj 7) (aj 6))) (bY (aq gq (aj 4) (dO (ak (aj 1) (ak (aj 2) au))))))) (bB (eC (.bl false))) cD) (aC (cg (cR (ak (aZ (g1 bx) (ak (aj 7) au)) au)) (gN 8) (aC (bw (aq aB (aj 7) (aj 8)) (gT 2 (bZ (gN 9) (bZ (gN 10) fO)))) (aC (bw (aR lC (ak (aj 5) (ak (dG [none,some 8] (cM (aj 1)) (gN 0) cO (aq aB (aj 0) (aj 1))) au))) (gN 11)) (aC (cA (gY (eX (dJ (iH .tuple (aq aB (aj 7) (aj 8))))) (gY (eX (dJ (aR wz (ak (aj 9) au)))) (eX (dJ (aR wz (ak (aj 10) au)))))) (bB (eC (.bl false))) cD) (cA (gY (dJ (aR mU (ak (aj 11) (ak (aj 9) au)))) (dJ (aR mU (ak (aj 10) (ak (aj 11) au))))) (bB (eC (.bl false))) cD))))) (eY (zR 7 vL))))))))) (bB (aq bT (aR wk (ak (aq aB (aj 4) (eC (.int 0))) (ak (aq aB (aj 3) (eC (.int 0))) (ak (aq aB (aj 4) (eC (.int 1))) au)))) (aR yh (ak (aq aB (aj 4) (eC (.int 0))) (ak (aq aB (aj 3) (eC (.int 0))) (ak (aj 2) au))))))))))
def BW:FP:=bf 13 ae5
local macro_rules | `(tactic| walk_at "1")=>`(tactic| exact λ_ _ _ _ _ _=>L2.au1 λ_=>by kernel_rfl)
local macro_rules | `(tactic| walk_at "2")=>`(tactic| exact λ_ _ _ _ _ _=>L2.au2 λ_ _=>by kernel_rfl)
local macro_rules | `(tactic| walk_at "3")=>`(tactic| exact λ_ _ _ _ _ _=>L2.au3 λ_ _ _=>by kernel_rfl)
local macro_rules | `(tactic| walk_at "4")=>`(tactic| exact λ_ _ _ _ _ _=>L2.au4 λ_ _ _ _=>by kernel_rfl)
local macro_rules | `(tactic| walk_at "s")=>`(tactic| first|(refine xJ (by assumption) ?_; exact nJ (dh _) (nJ (dh _) (nJ (dh _) xH)))|(refine xJ (by assumption) ?_; exact nJ (dh _) (nJ (dh _) xH)))
local macro_rules | `(tactic| walk_at "s")=>`(tactic| with_reducible first|exact aM _|refine bh ?_ ?_|exact bU|refine cB ?_|exact gw|exact eV _|refine dZ ?_ ?_|exact dh _|exact d7|refine eH (by assumption) ?_ ?_|refine jr ?_|refine j7 (js:=?_) ?_ ?_ ?_|refine lV (by assumption) (by assumption) ?_ ?_|refine kY (by assumption) (by assumption) ?_ ?_|refine Ac ?_|refine sH ?_ ?_|exact Ab|exact Lr|exact Vm|exact KY|exact UJ|refine acj ?_ ?_|exact vH _|exact Vu (by assumption)|exact LC (by assumption)|refine aeF (js:=?_) (by assumption) ?_ ?_ (λ_ _ _=>?_) (λ_ _ _=>?_) ?_ (by decide)|exact Ls (by assumption) (by assumption)|refine acp ?_ ?_ ?_|refine uF (by assumption) _ ?_|refine xG ?_|exact abP|refine aco ?_|refine acn ?_ ?_|refine U8 (by assumption) ?_ ?_ ?_|exact qp _|refine K1 ?_|refine Fi ?_|refine nU (by assumption) ?_|refine adR (by assumption) ?_|refine aeC (by assumption) ?_|exact U5|refine U6 ?_|exact qH (by decide)|refine zN ?_|refine qz (js:=?_) ?_ ?_ ?_ ?_|refine acC _ ?_|refine j8 ?_ ?_ ?_|exact j6|refine aeE (by assumption) (λ_ _ _=>?_)|refine Fe _ ?_|refine Vd _ _ ?_|refine acD _ ?_ ?_|refine kO ?_|refine pQ ?_ ?_|refine lO ?_|refine aeD (by assumption) ?_|refine adv (by assumption) ?_|refine adn (by assumption) ?_ ?_|refine Ly (by assumption) ?_|refine adx _ ?_|refine Vp (by assumption) ?_ ?_ ?_ ?_ ?_ ?_ ?_|refine Lw (by assumption) ?_ ?_|refine x_eq (by assumption) ?_ ?_|refine x_ge (by assumption) ?_ ?_|refine adu (by assumption) ?_ ?_|refine adq (by assumption) ?_ ?_|refine adw (by assumption) ?_|refine adt (by assumption) ?_ ?_|refine x_len (by assumption) ?_|refine x_lt (by assumption) ?_ ?_|refine ado (by assumption) ?_ ?_|refine Vo (by assumption) ?_ ?_|refine Ae (by assumption) ?_ ?_|refine adp (by assumption) ?_ ?_|refine Vn (by assumption) ?_ ?_)
local macro_rules | `(tactic| walk_at "t")=>`(tactic| ((try dsimp only[lJ]); repeat' walk_at "s"))
section
variable {P:Program}{w:World}{K:FZ}{mg:Str->Option Value}{base:Heap}{cl:Str->Addr}
theorem ae6(a:At K mg "_law_add" OD) (M:Nm mg) (b:aQ P w K mg base 1 "_law_frac" (["_law_top", "_law_bottom"]:List Str) (aV K cl 2 oF)):aQ P w K mg base 2 "_law_add" (["_law_one", "_law_other"]:List Str) (aV K cl 2 yc):=by
 have S:=fS (["_law_one", "_law_other"]:List Str) (["_law_one", "_law_other"]:List Str) (bC OD)
 exact a.cX S (cl:=cl) (by decide) (by walk_at "2") (λf c A outer s H E d=>⟨_,(aW (bR (pc1 (E:=E) b d cY (aA (bG ji (bG jj (bD (ao 0) aL) (bD (ao 1) aL)) (bG jj (bD (ao 1) aL) (bD (ao 0) aL))) (aA (bG jj (bD (ao 0) aL) (bD (ao 1) aL)) aG))))),λt e g=>by delta Pb; walk_at "t"⟩)
theorem ae7(a:At K mg "_law_below" O4) (M:Nm mg):aQ P w K mg base 1 "_law_below" (["_law_one", "_law_other"]:List Str) (aV K cl 2 mU):=by
 have S:=fS (["_law_one", "_law_other"]:List Str) (["_law_one", "_law_other"]:List Str) (bC O4)
 exact a.cX S (cl:=cl) (by decide) (by walk_at "2") (λf b A outer s H E c=>⟨_,(aW (bR (lH (xu c.units) (bG jj (bD (ao 0) aL) (bD (ao 1) aL)) (bG jj (bD (ao 1) aL) (bD (ao 0) aL)) (cU _)))),λt d e=>by delta Ph; walk_at "t"⟩)
theorem ae8(a:At K mg "_law_book" O5) (M:Nm mg) (c:aQ P w K mg base 1 "_law_cell" (["_law_script", "_law_k"]:List Str) (aV K cl 2 jz)) (d:aQ P w K mg base 1 "_law_frac" (["_law_top", "_law_bottom"]:List Str) (aV K cl 2 oF)):aQ P w K mg base 2 "_law_book" (["_law_script", "_law_at", "_law_lists", "_law_most"]:List Str) (aV K cl 4 BL):=by
 have S:=fS (["_law_script", "_law_at", "_law_lists", "_law_most", "_law_number", "_law_many", "_law_wide", "_law_bottom", "_law_book_here", "_law_k", "_law_other", "_law_row", "_law_thing"]:List Str) (["_law_script", "_law_at", "_law_lists", "_law_most"]:List Str) (bC O5)
 exact a.cX S (cl:=cl) (by decide) (by walk_at "4") (λf e A outer s H E b=>⟨_,(aU (cF 4 S.nd (pc1 (E:=E) c b cY (aA (ao 0) (aA (ao 1) aG)))) (aU (cF 5 S.nd (bG ji aL (bG jC (ao 4) (ao 3)))) (aU (cF 6 S.nd (bG ji aL (bG jC (bG kJ (ao 4) (ao 3)) (ao 2)))) (aU (cF 7 S.nd (bD (Lz (G:=aJ K) (Ts:=[.int 2,.int 3,.int 4,.int 6,.int 10,.int 24,.int 97,.int 999999999999]) (by kernel_rfl)) (bG jC (bG kJ (ao 4) aL) aL))) (aU (cF 8 S.nd (iM aG)) (aU (PS.iC (iu PassesOwn.never rfl (lg M.kh (aA (ao 6) aG)) (cH 9 S.nd) (aU (cF 10 S.nd (eZ c b (aA (ao 0) (aA (bG ji (bG ji (ao 1) aL) (ao 9)) aG)))) (aU (cF 11 S.nd (iM aG)) (aU (iu PassesOwn.never rfl (lg M.kh (aA (ao 5) aG)) (cH 12 S.nd) (aU (dI (eO Dt (ao 7) aL (cU _)) (aW (cF 10 S.nd (eZ c b (aA (ao 0) (aA (bG jC (bG ji (bG ji (bG ji (ao 1) aL) (ao 9)) (bG jj aL (ao 12))) aL) aG))))) dH) (aU (psE (m9 PySem.F.plainAttrs_list PySem.F.slot_list_append PySem.F.type_list_append nu (ao 11) (iY (eZ d b (aA (bG jC (ao 10) (bG ji (ao 7) aL)) (aA (ao 7) aG))) aG))) (aW (cF 10 S.nd (bG kJ (ao 10) (bG ji (ao 7) aL))))))) (aW (psE (m9 PySem.F.plainAttrs_list PySem.F.slot_list_append PySem.F.type_list_append nu (ao 8) (iY (ao 11) aG))))))))) (aW (bR (ao 8))))))))),λt g h=>by delta Pk; walk_at "t"⟩)
theorem ae9(a:At K mg "_law_bounds" BK) (M:Nm mg) (c:aQ P w K mg base 3 "_law_seen" (["_law_book_here", "_law_looks_here"]:List Str) (aV K cl 2 yg)) (e:aQ P w K mg base 2 "_law_order" (["_law_worths"]:List Str) (aV K cl 1 qL)) (d:aQ P w K mg base 3 "_law_worth" (["_law_rule_here", "_law_worths"]:List Str) (aV K cl 2 lC)):aQ P w K mg base 4 "_law_bounds" (["_law_book_here", "_law_rule_here", "_law_looks_here"]:List Str) (aV K cl 3 yh):=by
 have S:=fS (["_law_book_here", "_law_rule_here", "_law_looks_here", "_law_seen_here", "_law_last", "_law_k", "_law_lines", "_law_found", "_law_thing", "_law_low", "_law_high"]:List Str) (["_law_book_here", "_law_rule_here", "_law_looks_here"]:List Str) (bC BK)
 exact a.cX S (cl:=cl) (by decide) (by walk_at "3") (λf h A outer s H E b=>⟨_,(aU (FQ 3 S.nd rfl (pc1 (E:=E) c b cY (aA (ao 0) (aA (ao 2) aG)))) (aU (FQ 4 S.nd rfl (iM aG)) (aU (PS.iC (iu PassesOwn.never rfl (lg M.kh (aA (cW dY M.d8 (aA (ao 0) aG)) aG)) (cH 5 S.nd) (aU (cF 6 S.nd (DP Eu (eZ e b (aA (bD (ao 0) (ao 5)) aG)) DK (DN (bD (bD (ao 2) aL) (ao 5))))) (aW (psE (m9 PySem.F.plainAttrs_list PySem.F.slot_list_append PySem.F.type_list_append nu (f9 4) (iY (bD (iM (aA (sJ (G:=aJ K) (Ts:=[.int 1,.int 1]) (by kernel_rfl)) (aA (bD (bD (ao 0) (ao 5)) (bD (bG ji (ao 6) (Lz (G:=aJ K) (Ts:=[.int 0]) (by kernel_rfl))) (bG vm (cW dY M.d8 (aA (ao 6) aG)) aL))) aG))) (uQ Dy M.xY (aA (lH Dt (cW dY M.d8 (aA (ao 6) aG)) aL (cU _)) aG))) aG))))))) (aU (cF 7 S.nd (iM aG)) (aU (PS.iC (iu PassesOwn.never rfl (lg M.kh (aA (cW dY M.d8 (aA (bD (ao 0) aL) aG)) aG)) (Ai 8 S.nd rfl) (aU (xg (i:=9) (sc:=bC BK) (No:=(["_law_book_here", "_law_rule_here", "_law_looks_here", "_law_seen_here", "_law_last", "_law_k", "_law_lines", "_law_found", "_law_thing", "_law_low", "_law_high"]:List Str)) (N:=(["_law_k", "_law_seen_here", "_law_thing"]:List Str)) (src:=[none,some 3,some 8]) (g:=(dN 0)) S.nd rfl (Or.inl rfl) rfl rfl ⟨by rfl,by decide +kernel,by decide +kernel,by decide +kernel,by rfl,by decide +kernel⟩ rfl (lg M.kh (aA (cW dY M.d8 (aA (ao 0) aG)) aG)) (λC s H ex=>(cH 0 (show List.Nodup (["_law_k", "_law_seen_here", "_law_thing"]:List Str) by decide +kernel))) (λC s H ex=>(jL jM (iM (aA (jL jM (jL jM (f9 1) (ao 0) (λ_ _=>rfl)) (f9 2) (λ_ _=>rfl)) (aA (sJ (G:=aJ K) (Ts:=[.int 0,.int 1]) (by kernel_rfl)) aG))) (uQ Dy M.xY (aA (lH Du (jL jM (jL jM (f9 1) (ao 0) (λ_ _=>rfl)) (f9 2) (λ_ _=>rfl)) wN (cU _)) aG)) (λ_ _=>rfl)))) (aU (xg (i:=10) (sc:=bC BK) (No:=(["_law_book_here", "_law_rule_here", "_law_looks_here", "_law_seen_here", "_law_last", "_law_k", "_law_lines", "_law_found", "_law_thing", "_law_low", "_law_high"]:List Str)) (N:=(["_law_k", "_law_seen_here", "_law_thing", "_law_last"]:List Str)) (src:=[none,some 3,some 8,some 4]) (g:=(dN 0)) S.nd rfl (Or.inl rfl) rfl rfl ⟨by rfl,by decide +kernel,by decide +kernel,by decide +kernel,by rfl,by decide +kernel⟩ rfl (lg M.kh (aA (cW dY M.d8 (aA (ao 0) aG)) aG)) (λC s H ex=>(cH 0 (show List.Nodup (["_law_k", "_law_seen_here", "_law_thing", "_law_last"]:List Str) by decide +kernel))) (λC s H ex=>(jL jM (iM (aA (jL jM (jL jM (f9 1) (ao 0) (λ_ _=>rfl)) (f9 2) (λ_ _=>rfl)) (aA (jL jM (f9 3) (ao 0) (λ_ _=>rfl)) aG))) (uQ Dy M.xY (aA (lH Du (jL jM (jL jM (f9 1) (ao 0) (λ_ _=>rfl)) (f9 2) (λ_ _=>rfl)) wN (cU _)) aG)) (λ_ _=>rfl)))) (aW (psE (m9 PySem.F.plainAttrs_list PySem.F.slot_list_append PySem.F.type_list_append nu (ao 7) (iY (pK (aA (eZ d b (aA (ao 1) (aA (ao 9) aG))) (aA (eZ d b (aA (ao 1) (aA (ao 10) aG))) aG))) aG)))))))) (aW (bR (ao 7)))))))),λt j k=>by delta Xp; walk_at "t"⟩)
theorem afb(a:At K mg "_law_cell" Ox) (M:Nm mg):aQ P w K mg base 1 "_law_cell" (["_law_script", "_law_k"]:List Str) (aV K cl 2 jz):=by
 have S:=fS (["_law_script", "_law_k", "_law_cell_here", "_law_number"]:List Str) (["_law_script", "_law_k"]:List Str) (bC Ox)
 exact a.cX S (cl:=cl) (by decide) (by walk_at "2") (λf b A outer s H E c=>⟨_,(aU (cF 2 S.nd aL) (aU (dI (eO (xu c.units) (ao 1) (cW dY M.d8 (aA (ao 0) aG)) (cU _)) (aW (cF 2 S.nd (bD (ao 0) (ao 1)))) dH) (aU (dI (eO JK (ao 2) (bG Dr aL aL) (cU _)) (aW (bR (bG jC (bG vm (ao 2) (bG Dr aL aL)) (bG Dr aL aL)))) dH) (aU (cF 3 S.nd (bG jC (bG ji (bG ji (bG jj (ao 2) aL) (bG jj (ao 1) aL)) aL) aL)) (aU (cF 3 S.nd (bG jC (bG jj (ao 3) (ao 3)) aL)) (aW (bR (bG ji (bG jj (ao 3) aL) (bG jC (bG jj (ao 3) (ao 3)) aL))))))))),λt d e=>by delta O9; walk_at "t"⟩)
theorem afc(a:At K mg "_law_copied" Hu) (M:Nm mg):aQ P w K mg base 1 "_law_copied" (["_law_book_here"]:List Str) (aV K cl 1 Xq):=by
 have S:=fS (["_law_book_here"]:List Str) (["_law_book_here"]:List Str) (bC Hu)
 exact a.cX S (cl:=cl) (by decide) (by walk_at "1") (λf d A outer s H E h=>⟨_,(aW (bR (nA (sc:=bC Hu) (No:=(["_law_book_here"]:List Str)) (N:=(["_law_row"]:List Str)) (src:=[none]) (g:=(dN 0)) rfl rfl ⟨by rfl,by decide +kernel,by decide +kernel,by decide +kernel,by rfl,by decide +kernel⟩ rfl (gZ (ao 0)) (λC s H ex=>(cH 0 (show List.Nodup (["_law_row"]:List Str) by decide +kernel))) (λC s H ex=>(uQ DQ M.qK (aA (ao 0) aG)))))),λt b i=>(jr (Aa (nU b (aM 0)) (qF (by decide)) (qH (js:=[0]) (by decide)) d7 (λt1 c e=>(dh 0)) (λt1 c e=>(Fz (c.trans b) (bh (aM 0) bU)))))⟩)
theorem afd(a:At K mg "_law_copied" Hv) (M:Nm mg):aQ P w K mg base 1 "_law_copied" (["_law_book_here"]:List Str) (Br K cl 1 BR):=by
 have S:=fS (["_law_book_here"]:List Str) (["_law_book_here"]:List Str) (bC Hv)
 exact a.dfD S (cl:=cl) (by decide) (by walk_at "1") (λf d A outer s H E h=>⟨_,(aW (bR (nA (sc:=bC Hv) (No:=(["_law_book_here"]:List Str)) (N:=(["_law_row"]:List Str)) (src:=[none]) (g:=(dN 0)) rfl rfl ⟨by rfl,by decide +kernel,by decide +kernel,by decide +kernel,by rfl,by decide +kernel⟩ rfl (gZ (ao 0)) (λC s H ex=>(cH 0 (show List.Nodup (["_law_row"]:List Str) by decide +kernel))) (λC s H ex=>(uQ DQ M.qK (aA (ao 0) aG)))))),λt b i=>(aeX 0 (VH 0 (nU b (aM 0)) (qF (by decide)) (qH (js:=[0]) (by decide)) d7 (λt1 c e=>(dh 0)) (λt1 c e=>(Fz (c.trans b) (bh (aM 0) bU)))))⟩)
theorem afe(a:At K mg "_law_frac" Oz) (M:Nm mg):aQ P w K mg base 1 "_law_frac" (["_law_top", "_law_bottom"]:List Str) (aV K cl 2 oF):=by
 have S:=fS (["_law_top", "_law_bottom", "_law_one", "_law_other"]:List Str) (["_law_top", "_law_bottom"]:List Str) (bC Oz)
 exact a.cX S (cl:=cl) (by decide) (by walk_at "2") (λf b A outer s H E c=>⟨_,(aU (cF 2 S.nd (cW JM M.O8 (aA (ao 0) aG))) (aU (cF 3 S.nd (cW JM M.O8 (aA (ao 1) aG))) (aU (PS.iC (R9 PassesOwn.never (eO Dt (ao 3) aL (cU _)) (aW (Jy (i:=2) (j:=3) rfl S.nd rfl rfl (by decide) rfl rfl (aA (ao 3) (aA (bG jC (ao 2) (ao 3)) aG)) rfl)))) (aU (dI (eO (xu c.units) (ao 1) aL (cU _)) (aW (cF 2 S.nd (bG vm aL (ao 2)))) dH) (aW (bR (pK (aA (bG kJ (ao 0) (ao 2)) (aA (bG kJ (ao 1) (ao 2)) aG))))))))),λt d e=>by delta Pa; walk_at "t"⟩)
theorem afg(a:At K mg "_law_is" Ht) (M:Nm mg) (d:lu K):aQ P w K mg base 1 "_law_is" (["_law_found"]:List Str) (aV K cl 1 wz):=by
 have S:=fS (["_law_found"]:List Str) (["_law_found"]:List Str) (bC Ht)
 exact a.cX S (cl:=cl) (by decide) (by walk_at "1") (λf i A outer s H E e=>⟨_,(aU (dI (PW.pt (jW (gR (iw (kZ d.o .tuple (ao 0) M.lB M.xZ) (by intro _; rfl))) (lG (eO (qu e.units) (cW dY M.d8 (aA (ao 0) aG)) aL (cU _))))) (aW (bR lF)) dH) (aW (bR (lH (iQ e.units) (cW dY M.d8 (aA (Lf (sc:=bC Ht) (No:=(["_law_found"]:List Str)) (N:=(["_law_one"]:List Str)) (src:=[none]) (g:=(dN 0)) rfl rfl ⟨by rfl,by decide +kernel,by decide +kernel,by decide +kernel,by rfl,by decide +kernel⟩ rfl (gZ (ao 0)) (λC s H ex=>(cH 0 (show List.Nodup (["_law_one"]:List Str) by decide +kernel))) (λC s H ex=>(PW.pt (jW (gR (FT (K:=K) (kZ d.o .int (ao 0) M.lB M.xY) rfl (by intro _; rfl))) (lG (FT (K:=K) (kZ d.o .bool (ao 0) M.lB M.Xo) rfl (by intro _; rfl)))))) (λC s H ex=>(ao 0))) aG)) aL (cU _))))),λt b j=>(dZ (j8 (pQ (kO (jF b (uF b .tuple (aM 0)))) (lO (Ae b (x_len b (bh (aM 0) bU)) (eV _)))) (jr (vH _)) j6) (jr (x_eq b (x_len b (bh (Vk (nU b (aM 0)) (qF (by decide)) (qH (js:=[0]) (by decide)) d7 (λt1 c h=>(dh 0)) (λt1 c h=>(pQ (kO (jF (c.trans b) (uF (c.trans b) .int (aM 0)))) (jF (c.trans b) (uF (c.trans b) .bool (aM 0))))) (λt1 c h=>(aM 0))) bU)) (eV _))))⟩)
theorem afh(a:At K mg "_law_looks" Hs) (M:Nm mg) (c:aQ P w K mg base 1 "_law_cell" (["_law_script", "_law_k"]:List Str) (aV K cl 2 jz)):aQ P w K mg base 2 "_law_looks" (["_law_script", "_law_at", "_law_book_here"]:List Str) (aV K cl 3 BP):=by
 have S:=fS (["_law_script", "_law_at", "_law_book_here", "_law_number", "_law_many", "_law_depths", "_law_k", "_law_asked", "_law_other", "_law_thing"]:List Str) (["_law_script", "_law_at", "_law_book_here"]:List Str) (bC Hs)
 exact a.cX S (cl:=cl) (by decide) (by walk_at "3") (λf d A outer s H E b=>⟨_,(aU (cF 3 S.nd (pc1 (E:=E) c b cY (aA (ao 0) (aA (ao 1) aG)))) (aU (cF 4 S.nd (cW dY M.d8 (aA (bD (ao 2) aL) aG))) (aU (cF 5 S.nd (iM aG)) (aU (PS.iC (iu PassesOwn.never rfl (lg M.kh (aA (cW dY M.d8 (aA (ao 2) aG)) aG)) (cH 6 S.nd) (aU (psE (m9 PySem.F.plainAttrs_list PySem.F.slot_list_append PySem.F.type_list_append nu (ao 5) (iY (bG jC (ao 3) (bG ji (ao 4) aL)) aG))) (aW (cF 3 S.nd (bG kJ (ao 3) (bG ji (ao 4) aL))))))) (aU (dI (eO (iQ b.units) (bG jC (ao 3) aL) aL (cU _)) (aW (xg (i:=5) (sc:=bC Hs) (No:=(["_law_script", "_law_at", "_law_book_here", "_law_number", "_law_many", "_law_depths", "_law_k", "_law_asked", "_law_other", "_law_thing"]:List Str)) (N:=(["_law_depth"]:List Str)) (src:=[none]) (g:=(dN 0)) S.nd rfl (Or.inl rfl) rfl rfl ⟨by rfl,by decide +kernel,by decide +kernel,by decide +kernel,by rfl,by decide +kernel⟩ rfl (gZ (ao 5)) (λC s H ex=>(cH 0 (show List.Nodup (["_law_depth"]:List Str) by decide +kernel))) (λC s H ex=>(bG kJ (ao 0) aL)))) dH) (aU (cF 7 S.nd (iM aG)) (aU (cF 8 S.nd (pc1 (E:=E) c b cY (aA (ao 0) (aA (bG ji (ao 1) aL) aG)))) (aU (PS.iC (iu PassesOwn.never rfl (lg M.kh (aA (cW dY M.d8 (aA (ao 2) aG)) aG)) (cH 6 S.nd) (aU (dI (eO (iQ b.units) (ao 6) aL (cU _)) (aW (cF 8 S.nd (eZ c b (aA (ao 0) (aA (bG ji (ao 1) aL) aG))))) dH) (aW (iu PassesOwn.never rfl (lg M.kh (aA (ao 4) aG)) (cH 9 S.nd) (aU (dI (eO (iQ b.units) (bG jC (ao 8) aL) aL (cU _)) (aW (psE (m9 PySem.F.plainAttrs_list PySem.F.slot_list_append PySem.F.type_list_append nu (ao 7) (iY (pK (aA (ao 6) (aA (ao 9) aG))) aG)))) dH) (aW (cF 8 S.nd (bG kJ (ao 8) aL))))))))) (aU (dI (eO (iQ b.units) (bG jC (bG kJ (ao 3) aL) aL) aL (cU _)) (aW (cF 7 S.nd (iM aG))) dH) (aW (bR (pK (aA (ao 5) (aA (ao 7) aG)))))))))))))),λt e h=>by delta Pq; walk_at "t"⟩)
theorem afi(a:At K mg "_law_mul" OJ) (M:Nm mg) (b:aQ P w K mg base 1 "_law_frac" (["_law_top", "_law_bottom"]:List Str) (aV K cl 2 oF)):aQ P w K mg base 2 "_law_mul" (["_law_one", "_law_other"]:List Str) (aV K cl 2 uV):=by
 have S:=fS (["_law_one", "_law_other"]:List Str) (["_law_one", "_law_other"]:List Str) (bC OJ)
 exact a.cX S (cl:=cl) (by decide) (by walk_at "2") (λf c A outer s H E d=>⟨_,(aW (bR (pc1 (E:=E) b d cY (aA (bG jj (bD (ao 0) aL) (bD (ao 1) aL)) (aA (bG jj (bD (ao 0) aL) (bD (ao 1) aL)) aG))))),λt e g=>by delta Pg; walk_at "t"⟩)
theorem afj(a:At K mg "_law_order" Hr) (M:Nm mg) (i:aQ P w K mg base 1 "_law_below" (["_law_one", "_law_other"]:List Str) (aV K cl 2 mU)):aQ P w K mg base 2 "_law_order" (["_law_worths"]:List Str) (aV K cl 1 qL):=by
 have S:=fS (["_law_worths", "_law_found", "_law_thing", "_law_place"]:List Str) (["_law_worths"]:List Str) (bC Hr)
 exact a.cX S (cl:=cl) (by decide) (by walk_at "1") (λf j A outer s H E k=>⟨_,(aU (cF 1 S.nd (iM aG)) (aU (PS.iC (iu PassesOwn.never rfl (lg M.kh (aA (cW dY M.d8 (aA (f9 0) aG)) aG)) (Ai 2 S.nd rfl) (aU (cF 3 S.nd (cW dY M.d8 (aA (Lf (sc:=bC Hr) (No:=(["_law_worths", "_law_found", "_law_thing", "_law_place"]:List Str)) (N:=(["_law_one", "_law_worths", "_law_thing"]:List Str)) (src:=[none,some 0,some 2]) (g:=(dN 0)) rfl rfl ⟨by rfl,by decide +kernel,by decide +kernel,by decide +kernel,by rfl,by decide +kernel⟩ rfl (gZ (ao 1)) (λC s H ex=>(cH 0 (show List.Nodup (["_law_one", "_law_worths", "_law_thing"]:List Str) by decide +kernel))) (λC s H ex=>(gR (FT (K:=K) (eZ i k (aA (jL jM (f9 1) (ao 0) (λ_ _=>rfl)) (aA (jL jM (f9 1) (f9 2) (λ_ _=>rfl)) aG))) rfl (by intro _; rfl)))) (λC s H ex=>(ao 0))) aG))) (aW (psE (m9 PySem.F.plainAttrs_list PySem.F.slot_list_insert PySem.F.type_list_insert Wj (ao 1) (iY (ao 3) (iY (f9 2) aG)))))))) (aW (bR (ao 1))))),λt b l=>(dZ (Fe 1 (xG bU)) (dZ (uO (λt1 c m=>(qz (Fi (bh (x_len (c.trans b) (bh (aM 0) bU)) bU)) (dh 2) d7 (dZ (j7 (x_len (c.trans b) (bh (Wn (c.trans b) 1 (Wq (by decide)) (qF (by decide)) (qH (js:=[0]) (by decide)) d7 (λh d e=>(dh 0)) (λh d e=>(kO (jF (d.trans (c.trans b)) (lV (d.trans (c.trans b)) e (cB (cB gw)) (bh (eH (d.trans (c.trans b)) (aM 1) (aM 0)) (bh (eH (d.trans (c.trans b)) (aM 1) (aM 2)) bU)))))) (λh d e=>(aM 0))) bU)) (dh 3) d7) (zN (Wk 1 (aM 3) (aM 2))))))) (jr (aM 1))))⟩)
theorem afk(a:At K mg "_law_rule" O6) (M:Nm mg) (c:aQ P w K mg base 1 "_law_frac" (["_law_top", "_law_bottom"]:List Str) (aV K cl 2 oF)):aQ P w K mg base 2 "_law_rule" (["_law_number", "_law_lists"]:List Str) (aV K cl 2 yd):=by
 have S:=fS (["_law_number", "_law_lists", "_law_way", "_law_weights", "_law_k"]:List Str) (["_law_number", "_law_lists"]:List Str) (bC O6)
 exact a.cX S (cl:=cl) (by decide) (by walk_at "2") (λf d A outer s H E b=>⟨_,(aU (cF 2 S.nd (bG jC (ao 0) aL)) (aU (cF 0 S.nd (bG kJ (ao 0) aL)) (aU (dI (eO (iQ b.units) (ao 2) aL (cU _)) (aW (bR (sJ (G:=aJ K) (Ts:=[.str "least"]) (by kernel_rfl)))) dH) (aU (dI (eO (iQ b.units) (ao 2) aL (cU _)) (aW (bR (sJ (G:=aJ K) (Ts:=[.str "greatest"]) (by kernel_rfl)))) dH) (aU (dI (eO (iQ b.units) (ao 2) aL (cU _)) (aW (bR (pK (aA jK (aA (bG ji aL (bG jC (ao 0) (ao 1))) aG))))) dH) (aU (dI (eO (iQ b.units) (ao 2) aL (cU _)) (aW (bR (sJ (G:=aJ K) (Ts:=[.str "product"]) (by kernel_rfl)))) dH) (aU (cF 3 S.nd (iM aG)) (aU (PS.iC (iu PassesOwn.never rfl (lg M.kh (aA (ao 1) aG)) (cH 4 S.nd) (aU (psE (m9 PySem.F.plainAttrs_list PySem.F.slot_list_append PySem.F.type_list_append nu (ao 3) (iY (eZ c b (aA (bG jC (ao 0) aL) (aA (bG ji aL (bG jC (bG kJ (ao 0) aL) aL)) aG))) aG))) (aW (cF 0 S.nd (bG kJ (ao 0) aL)))))) (aW (bR (pK (aA jK (aA (ao 3) aG))))))))))))),λt e g=>by delta Pn; walk_at "t"⟩)
theorem afl(a:At K mg "_law_seen" O7) (M:Nm mg) (c:aQ P w K mg base 2 "_law_order" (["_law_worths"]:List Str) (aV K cl 1 qL)):aQ P w K mg base 3 "_law_seen" (["_law_book_here", "_law_looks_here"]:List Str) (aV K cl 2 yg):=by
 have S:=fS (["_law_book_here", "_law_looks_here", "_law_found", "_law_k", "_law_lines", "_law_row", "_law_thing", "_law_seen_here"]:List Str) (["_law_book_here", "_law_looks_here"]:List Str) (bC O7)
 exact a.cX S (cl:=cl) (by decide) (by walk_at "2") (λf d A outer s H E b=>⟨_,(aU (cF 2 S.nd (iM aG)) (aU (PS.iC (iu PassesOwn.never rfl (lg M.kh (aA (cW dY M.d8 (aA (ao 0) aG)) aG)) (cH 3 S.nd) (aU (cF 4 S.nd (DP Eu (eZ c b (aA (bD (ao 0) (ao 3)) aG)) DK (DN (bD (bD (ao 1) aL) (ao 3))))) (aU (cF 5 S.nd (iM aG)) (aU (iu PassesOwn.never rfl (lg M.kh (aA (cW dY M.d8 (aA (bD (ao 0) (ao 3)) aG)) aG)) (cH 6 S.nd) (aU (cF 7 S.nd (aar (lH (Kh b.units) (ao 6) (ao 4) (by with_unfolding_all rfl)) (qZ (lH (Kh b.units) (pK (aA (ao 3) (aA (ao 6) aG))) (bD (ao 1) aL) (by with_unfolding_all rfl))))) (aW (psE (m9 PySem.F.plainAttrs_list PySem.F.slot_list_append PySem.F.type_list_append nu (ao 5) (iY (bD (iM (aA wN (aA (bD (bD (ao 0) (ao 3)) (ao 6)) aG))) (uQ Dy M.xY (aA (ao 7) aG))) aG)))))) (aW (psE (m9 PySem.F.plainAttrs_list PySem.F.slot_list_append PySem.F.type_list_append nu (ao 2) (iY (ao 5) aG))))))))) (aW (bR (ao 2))))),λt e g=>by delta Pu; walk_at "t"⟩)
theorem afm(a:At K mg "_law_worth" Hq) (M:Nm mg) (i:aQ P w K mg base 2 "_law_add" (["_law_one", "_law_other"]:List Str) (aV K cl 2 yc)) (k:aQ P w K mg base 2 "_law_mul" (["_law_one", "_law_other"]:List Str) (aV K cl 2 uV)) (o:aQ P w K mg base 1 "_law_below" (["_law_one", "_law_other"]:List Str) (aV K cl 2 mU)):aQ P w K mg base 3 "_law_worth" (["_law_rule_here", "_law_worths"]:List Str) (aV K cl 2 lC):=by
 have S:=fS (["_law_rule_here", "_law_worths", "_law_found", "_law_k", "_law_worth_here", "_law_rising", "_law_place"]:List Str) (["_law_rule_here", "_law_worths"]:List Str) (bC Hq)
 exact a.cX S (cl:=cl) (by decide) (by walk_at "2") (λf p A outer s H E c=>⟨_,(aU (dI (eO (iQ c.units) (bD (ao 0) aL) jK (cU _)) (aU (cF 2 S.nd (sJ (G:=aJ K) (Ts:=[.int 0,.int 1]) (by kernel_rfl))) (aU (PS.iC (iu PassesOwn.never rfl (lg M.kh (aA (cW dY M.d8 (aA (ao 1) aG)) aG)) (cH 3 S.nd) (aW (cF 2 S.nd (eZ i c (aA (ao 2) (aA (eZ k c (aA (bD (bD (ao 0) aL) (ao 3)) (aA (bD (ao 1) (ao 3)) aG))) aG))))))) (aW (bR (ao 2))))) dH) (aU (dI (eO (iQ c.units) (bD (ao 0) aL) jK (cU _)) (aU (cF 2 S.nd (sJ (G:=aJ K) (Ts:=[.int 1,.int 1]) (by kernel_rfl))) (aU (PS.iC (iu PassesOwn.never rfl (gZ (ao 1)) (Ai 4 S.nd rfl) (aW (cF 2 S.nd (eZ k c (aA (ao 2) (aA (f9 4) aG))))))) (aW (bR (ao 2))))) dH) (aU (cF 5 S.nd (iM aG)) (aU (PS.iC (iu PassesOwn.never rfl (gZ (ao 1)) (Ai 4 S.nd rfl) (aU (cF 6 S.nd (cW dY M.d8 (aA (Lf (sc:=bC Hq) (No:=(["_law_rule_here", "_law_worths", "_law_found", "_law_k", "_law_worth_here", "_law_rising", "_law_place"]:List Str)) (N:=(["_law_one", "_law_worth_here"]:List Str)) (src:=[none,some 4]) (g:=(dN 0)) rfl rfl ⟨by rfl,by decide +kernel,by decide +kernel,by decide +kernel,by rfl,by decide +kernel⟩ rfl (gZ (ao 5)) (λC s H ex=>(cH 0 (show List.Nodup (["_law_one", "_law_worth_here"]:List Str) by decide +kernel))) (λC s H ex=>(FT (K:=K) (eZ o c (aA (ao 0) (aA (f9 1) aG))) rfl (by intro _; rfl))) (λC s H ex=>(ao 0))) aG))) (aW (psE (m9 PySem.F.plainAttrs_list PySem.F.slot_list_insert PySem.F.type_list_insert Wj (ao 5) (iY (ao 6) (iY (f9 4) aG)))))))) (aU (dI (eO (iQ c.units) (bD (ao 0) aL) jK (cU _)) (aW (bR (bD (ao 5) aL))) dH) (aU (dI (eO (iQ c.units) (bD (ao 0) aL) jK (cU _)) (aW (bR (bD (ao 5) (Dn Ds aL)))) dH) (aW (bR (bD (ao 5) (bG vm (cW dY M.d8 (aA (ao 5) aG)) (bD (ao 0) aL))))))))))),λt b r=>(dZ (j8 (lO (x_eq b (eH b (aM 0) (eV _)) (qp _))) (dZ (j7 (LC b) (dh 2) d7) (dZ (uO (λt1 d l=>(qz (Fi (bh (x_len (d.trans b) (bh (aM 1) bU)) bU)) (dh 3) d7 (j7 (lV (d.trans b) l (cB (cB gw)) (bh (aM 2) (bh (lV (d.trans b) l (cB (cB gw)) (bh (eH (d.trans b) (eH (d.trans b) (aM 0) (eV _)) (aM 3)) (bh (eH (d.trans b) (aM 1) (aM 3)) bU))) bU))) (dh 2) d7)))) (jr (aM 2)))) j6) (dZ (j8 (lO (x_eq b (eH b (aM 0) (eV _)) (qp _))) (dZ (j7 (LC b) (dh 2) d7) (dZ (uO (λu m q=>(qz (nU (m.trans b) (aM 1)) (dh 4) d7 (j7 (lV (m.trans b) q (cB (cB gw)) (bh (aM 2) (bh (aM 4) bU))) (dh 2) d7)))) (jr (aM 2)))) j6) (dZ (Fe 5 (xG bU)) (dZ (uO (λt3 e v=>(qz (nU (e.trans b) (aM 1)) (dh 4) d7 (dZ (j7 (x_len (e.trans b) (bh (Wn (e.trans b) 5 (Wq (by decide)) (qF (by decide)) (qH (js:=[0]) (by decide)) d7 (λn h j=>(dh 0)) (λn h j=>(jF (h.trans (e.trans b)) (lV (h.trans (e.trans b)) j (cB (cB gw)) (bh (aM 0) (bh (aM 1) bU))))) (λn h j=>(aM 0))) bU)) (dh 6) d7) (zN (Wk 5 (aM 6) (aM 4))))))) (dZ (j8 (lO (x_eq b (eH b (aM 0) (eV _)) (qp _))) (jr (eH b (aM 5) (eV _))) j6) (dZ (j8 (lO (x_eq b (eH b (aM 0) (eV _)) (qp _))) (jr (eH b (aM 5) (Vq (eV _)))) j6) (jr (eH b (aM 5) (Vn b (x_len b (bh (aM 5) bU)) (eH b (aM 0) (eV _)))))))))))⟩)
theorem afo(a:At K mg "are_asked" Hl) (M:Nm mg) (e:lu K) (b:aQ P w K mg base 1 "are_rising" (["parts"]:List Str) (aV K cl 1 Gw)) (c:aQ P w K mg base 3 "is_ask" (["thing", "lists", "many"]:List Str) (aV K cl 3 xW)):aQ P w K mg base 4 "are_asked" (["thing", "lists", "many"]:List Str) (aV K cl 3 Gy):=by
 have S:=fS (["thing", "lists", "many"]:List Str) (["thing", "lists", "many"]:List Str) (bC Hl)
 exact a.cX S (cl:=cl) (by decide) (by walk_at "3") (λf h A outer s H E d=>⟨_,(aU (dI (PW.pt (jW (gR (iw (kZ e.o .list (ao 0) M.lB M.qK) (by intro _; rfl))) (lG (gR (iw (cW (vD rfl) M.wu (aA (nA (sc:=bC Hl) (No:=(["thing", "lists", "many"]:List Str)) (N:=(["part", "lists", "many"]:List Str)) (src:=[none,some 1,some 2]) (g:=(dN 0)) rfl rfl ⟨by rfl,by decide +kernel,by decide +kernel,by decide +kernel,by rfl,by decide +kernel⟩ rfl (gZ (ao 0)) (λC s H ex=>(cH 0 (show List.Nodup (["part", "lists", "many"]:List Str) by decide +kernel))) (λC s H ex=>(eZ c d (aA (ao 0) (aA (f9 1) (aA (f9 2) aG)))))) aG)) (by intro _; rfl)))))) (aW (bR lF)) dH) (aW (bR (pc1 (E:=E) b d cY (aA (ao 0) aG))))),λt i j=>by delta W7; walk_at "t"⟩)
theorem afr(a:At K mg "are_depths" Hj) (M:Nm mg) (d:lu K) (b:aQ P w K mg base 2 "is_count" (["thing", "many"]:List Str) (aV K cl 2 xV)):aQ P w K mg base 3 "are_depths" (["thing", "lists", "many"]:List Str) (aV K cl 3 Gx):=by
 have S:=fS (["thing", "lists", "many"]:List Str) (["thing", "lists", "many"]:List Str) (bC Hj)
 exact a.cX S (cl:=cl) (by decide) (by walk_at "3") (λf e A outer s H E c=>⟨_,(aU (dI (PW.pt (jW (gR (iw (kZ d.o .list (ao 0) M.lB M.qK) (by intro _; rfl))) (lG (eO (qu c.units) (cW dY M.d8 (aA (ao 0) aG)) (ao 1) (cU _))))) (aW (bR lF)) dH) (aW (bR (cW (vD rfl) M.wu (aA (nA (sc:=bC Hj) (No:=(["thing", "lists", "many"]:List Str)) (N:=(["part", "many"]:List Str)) (src:=[none,some 2]) (g:=(dN 0)) rfl rfl ⟨by rfl,by decide +kernel,by decide +kernel,by decide +kernel,by rfl,by decide +kernel⟩ rfl (gZ (ao 0)) (λC s H ex=>(cH 0 (show List.Nodup (["part", "many"]:List Str) by decide +kernel))) (λC s H ex=>(eZ b c (aA (ao 0) (aA (f9 1) aG))))) aG))))),λt h i=>by delta W6; walk_at "t"⟩)
theorem aft(a:At K mg "are_rising" Hf) (M:Nm mg):aQ P w K mg base 1 "are_rising" (["parts"]:List Str) (aV K cl 1 Gw):=by
 have S:=fS (["parts"]:List Str) (["parts"]:List Str) (bC Hf)
 exact a.cX S (cl:=cl) (by decide) (by walk_at "1") (λf b A outer s H E c=>⟨_,(aW (bR (cW (vD rfl) M.wu (aA (nA (sc:=bC Hf) (No:=(["parts"]:List Str)) (N:=(["one", "other"]:List Str)) (src:=[none,none]) (g:=(wQ K 2 (rE (dN 0) (rE (dN 1) wO)))) rfl rfl ⟨by rfl,by decide +kernel,by decide +kernel,by decide +kernel,by rfl,by decide +kernel⟩ rfl (Kz M.Hy (aA (ao 0) (aA (DP Eu (ao 0) (DN aL) DK) aG))) (λC s H ex=>(oO rfl (ig (cH 0 (show List.Nodup (["one", "other"]:List Str) by decide +kernel)) (ig (cH 1 (show List.Nodup (["one", "other"]:List Str) by decide +kernel)) oN)))) (λC s H ex=>(lH (xu c.units) (ao 0) (ao 1) (cU _)))) aG)))),λt d e=>by delta WY; walk_at "t"⟩)
theorem afu(a:At K mg "are_weights" Hh) (M:Nm mg) (c:lu K) (d:aQ P w K mg base 2 "is_fraction" (["thing"]:List Str) (aV K cl 1 uT)):aQ P w K mg base 3 "are_weights" (["thing", "many"]:List Str) (aV K cl 2 Gq):=by
 have S:=fS (["thing", "many"]:List Str) (["thing", "many"]:List Str) (bC Hh)
 exact a.cX S (cl:=cl) (by decide) (by walk_at "2") (λf e A outer s H E b=>⟨_,(aU (dI (PW.pt (jW (gR (iw (kZ c.o .list (ao 0) M.lB M.qK) (by intro _; rfl))) (lG (eO (qu b.units) (cW dY M.d8 (aA (ao 0) aG)) (ao 1) (cU _))))) (aW (bR lF)) dH) (aW (bR (cW (vD rfl) M.wu (aA (nA (sc:=bC Hh) (No:=(["thing", "many"]:List Str)) (N:=(["part"]:List Str)) (src:=[none]) (g:=(dN 0)) rfl rfl ⟨by rfl,by decide +kernel,by decide +kernel,by decide +kernel,by rfl,by decide +kernel⟩ rfl (gZ (ao 0)) (λC s H ex=>(cH 0 (show List.Nodup (["part"]:List Str) by decide +kernel))) (λC s H ex=>(rm (eZ d b (aA (ao 0) aG)) (qZ (lH JK (jL jM (ao 0) aL (λ_ _=>rfl)) aL (cU _)))))) aG))))),λt h i=>by delta WR; walk_at "t"⟩)
theorem afv(a:At K mg "are_worths" G9) (M:Nm mg) (c:lu K) (b:aQ P w K mg base 3 "is_worth" (["thing"]:List Str) (aV K cl 1 tH)):aQ P w K mg base 4 "are_worths" (["thing", "most"]:List Str) (aV K cl 2 vZ):=by
 have S:=fS (["thing", "most"]:List Str) (["thing", "most"]:List Str) (bC G9)
 exact a.cX S (cl:=cl) (by decide) (by walk_at "2") (λf d A outer s H E e=>⟨_,(aU (dI (PW.pt (jW (gR (iw (kZ c.o .list (ao 0) M.lB M.qK) (by intro _; rfl))) (lG (gR (Sv pJ pJ aL (cW dY M.d8 (aA (ao 0) aG)) (ao 1)))))) (aW (bR lF)) dH) (aW (bR (cW (vD rfl) M.wu (aA (nA (sc:=bC G9) (No:=(["thing", "most"]:List Str)) (N:=(["part"]:List Str)) (src:=[none]) (g:=(dN 0)) rfl rfl ⟨by rfl,by decide +kernel,by decide +kernel,by decide +kernel,by rfl,by decide +kernel⟩ rfl (gZ (ao 0)) (λC s H ex=>(cH 0 (show List.Nodup (["part"]:List Str) by decide +kernel))) (λC s H ex=>(eZ b e (aA (ao 0) aG)))) aG))))),λt h i=>by delta MJ; walk_at "t"⟩)
theorem afx(a:At K mg "bounds_by" BJ) (M:Nm mg) {e:V} (h:Gk K mg "NOTHING" e (.tup [(.int 0),(.int 1)])) (b:aQ P w K mg base 1 "worths_of" (["book", "thing"]:List Str) (aV K cl 2 Bj)) (d:aQ P w K mg base 5 "worth_by" (["rule", "worths"]:List Str) (aV K cl 2 g8)):aQ P w K mg base 6 "bounds_by" (["rule", "seen", "lasts"]:List Str) (aV K cl 3 Bo):=by
 have S:=fS (["rule", "seen", "lasts", "bounds", "thing", "worths", "low", "high"]:List Str) (["rule", "seen", "lasts"]:List Str) (bC BJ)
 exact a.cX S (cl:=cl) (by decide) (by walk_at "3") (λf j A outer s H E c=>⟨_,(aU (cF 3 S.nd (iM aG)) (aU (PS.iC (iu PassesOwn.never rfl (lg M.kh (aA (cW dY M.d8 (aA (bD (ao 1) aL) aG)) aG)) (cH 4 S.nd) (aU (cF 5 S.nd (eZ b c (aA (ao 1) (aA (ao 4) aG)))) (aU (xg (i:=6) (sc:=bC BJ) (No:=(["rule", "seen", "lasts", "bounds", "thing", "worths", "low", "high"]:List Str)) (N:=(["worth"]:List Str)) (src:=[none]) (g:=(dN 0)) S.nd rfl (Or.inl rfl) rfl rfl ⟨by rfl,by decide +kernel,by decide +kernel,by decide +kernel,by rfl,by decide +kernel⟩ rfl (gZ (ao 5)) (λC s H ex=>(cH 0 (show List.Nodup (["worth"]:List Str) by decide +kernel))) (λC s H ex=>(Ju (eO Du (ao 0) wN (cU _)) (Aj h) (ao 0)))) (aU (xg (i:=7) (sc:=bC BJ) (No:=(["rule", "seen", "lasts", "bounds", "thing", "worths", "low", "high"]:List Str)) (N:=(["worth", "last"]:List Str)) (src:=[none,none]) (g:=(wQ K 2 (rE (dN 0) (rE (dN 1) wO)))) S.nd rfl (Or.inl rfl) rfl rfl ⟨by rfl,by decide +kernel,by decide +kernel,by decide +kernel,by rfl,by decide +kernel⟩ rfl (Kz M.Hy (aA (ao 5) (aA (ao 2) aG))) (λC s H ex=>(oO rfl (ig (cH 0 (show List.Nodup (["worth", "last"]:List Str) by decide +kernel)) (ig (cH 1 (show List.Nodup (["worth", "last"]:List Str) by decide +kernel)) oN)))) (λC s H ex=>(Ju (eO Du (ao 0) wN (cU _)) (ao 1) (ao 0)))) (aW (psE (m9 PySem.F.plainAttrs_list PySem.F.slot_list_append PySem.F.type_list_append nu (ao 3) (iY (pK (aA (eZ d c (aA (ao 0) (aA (ao 6) aG))) (aA (eZ d c (aA (ao 0) (aA (ao 7) aG))) aG))) aG))))))))) (aW (bR (ao 3))))),λt k l=>by delta M6; walk_at "t"⟩)
theorem afz(a:At K mg "bounds_of" Ov) (M:Nm mg) (b:aQ P w K mg base 6 "bounds_by" (["rule", "seen", "lasts"]:List Str) (aV K cl 3 Bo)) (c:aQ P w K mg base 6 "seen_by" (["book", "looks"]:List Str) (aV K cl 2 Bm)) (d:aQ P w K mg base 6 "last_worths" (["book", "depths", "one"]:List Str) (aV K cl 3 Bw)):aQ P w K mg base 7 "bounds_of" (["book", "rule", "looks", "one"]:List Str) (aV K cl 4 G6):=by
 have S:=fS (["book", "rule", "looks", "one"]:List Str) (["book", "rule", "looks", "one"]:List Str) (bC Ov)
 exact a.cX S (cl:=cl) (by decide) (by walk_at "4") (λf g A outer s H E e=>⟨_,(aW (bR (pc1 (E:=E) b e cY (aA (ao 1) (aA (pc1 (E:=E) c e cY (aA (ao 0) (aA (ao 2) aG))) (aA (pc1 (E:=E) d e cY (aA (ao 0) (aA (bD (ao 2) aL) (aA (ao 3) aG)))) aG)))))),λt h i=>by delta Xm; walk_at "t"⟩)
theorem afD(a:At K mg "common_bottom" N5) (M:Nm mg) (b:aQ P w K mg base 1 "common_divisor" (["one", "other"]:List Str) (aV K cl 2 tE)):aQ P w K mg base 2 "common_bottom" (["fractions"]:List Str) (aV K cl 1 Bd):=by
 have S:=fS (["fractions", "bottom", "top", "own"]:List Str) (["fractions"]:List Str) (bC N5)
 exact a.cX S (cl:=cl) (by decide) (by walk_at "1") (λf c A outer s H E d=>⟨_,(aU (cF 1 S.nd aL) (aU (PS.iC (iu PassesOwn.never rfl (gZ (ao 0)) (oO rfl (ig (cH 2 S.nd) (ig (cH 3 S.nd) oN))) (aW (cF 1 S.nd (bG kJ (bG jj (ao 1) (ao 3)) (eZ b d (aA (ao 1) (aA (ao 3) aG)))))))) (aW (bR (ao 1))))),λt e g=>by delta Wz; walk_at "t"⟩)
theorem afE(a:At K mg "common_divisor" NK) (M:Nm mg):aQ P w K mg base 1 "common_divisor" (["one", "other"]:List Str) (aV K cl 2 tE):=by
 have S:=fS (["one", "other"]:List Str) (["one", "other"]:List Str) (bC NK)
 exact a.cX S (cl:=cl) (by decide) (by walk_at "2") (λf b A outer s H E c=>⟨_,(aU (PS.iC (R9 PassesOwn.never (eO (qu c.units) (ao 1) aL (cU _)) (aW (Jy (i:=0) (j:=1) rfl S.nd rfl rfl (by decide) rfl rfl (aA (ao 1) (aA (bG jC (ao 0) (ao 1)) aG)) rfl)))) (aW (bR (cW JM M.O8 (aA (ao 0) aG))))),λt d e=>by delta Wt; walk_at "t"⟩)
theorem afF{c_ P_:Addr}(a:vX K mg "falling_places" G8 c_) (L:Gj K mg base "falling_places" c_ P_) (M:Nm mg) (b:aQ P w K mg base 3 "tops_on_one_bottom" (["fractions"]:List Str) (aV K cl 1 Gp)):aQ P w K mg base 4 "falling_places" (["fractions"]:List Str) (aV K cl 1 mR):=by
 have S:=fS (["fractions", "tops"]:List Str) (["fractions"]:List Str) (bC G8)
 exact a.aed S (cl:=cl) (by decide) (by walk_at "1") (λf A outer s H E d=>⟨_,(aU (FQ 1 S.nd rfl (pc1 (E:=E) b d cY (aA (ao 0) aG))) (aW (bR (ad4 (sc:=bC G8) (No:=(["fractions", "tops"]:List Str)) (x := "place") (Ns:=(["tops"]:List Str)) (src:=[some 1]) ad5 (λ_ h=>h) ad6 d M.aeZ M.kh rfl rfl ⟨⟨by rfl,by decide +kernel,by decide +kernel,by decide +kernel,by rfl,by decide +kernel⟩,by decide +kernel,by rfl,by rfl,by rfl⟩ rfl L.hd L.bm rfl (aA (cW dY M.d8 (aA (f9 1) aG)) aG) (λ_ _ _ _=>by kernel_rfl) (λA f cd s H=>(Dn Ds (bD (pvF 1) (ao 0)))))))),λt c e=>(dZ (j7 (kY c e (cB gw) (bh (aM 0) bU)) (dh 1) d7) (jr (aef L c (bh (x_len c (bh (aM 1) bU)) bU) (ad8 UW (ad7 UL (Wb 1) (Wb 0))))))⟩)
theorem afH(a:At K mg "frac_sum" NQ) (M:Nm mg) (b:aQ P w K mg base 2 "fraction_of" (["top", "bottom"]:List Str) (aV K cl 2 vY)):aQ P w K mg base 3 "frac_sum" (["one", "other"]:List Str) (aV K cl 2 xR):=by
 have S:=fS (["one", "other"]:List Str) (["one", "other"]:List Str) (bC NQ)
 exact a.cX S (cl:=cl) (by decide) (by walk_at "2") (λf c A outer s H E d=>⟨_,(aW (bR (pc1 (E:=E) b d cY (aA (bG ji (bG jj (bD (ao 0) aL) (bD (ao 1) aL)) (bG jj (bD (ao 1) aL) (bD (ao 0) aL))) (aA (bG jj (bD (ao 0) aL) (bD (ao 1) aL)) aG))))),λt e g=>by delta Mw; walk_at "t"⟩)
theorem afI(a:At K mg "frac_times" NT) (M:Nm mg) (b:aQ P w K mg base 2 "fraction_of" (["top", "bottom"]:List Str) (aV K cl 2 vY)):aQ P w K mg base 3 "frac_times" (["one", "other"]:List Str) (aV K cl 2 tG):=by
 have S:=fS (["one", "other"]:List Str) (["one", "other"]:List Str) (bC NT)
 exact a.cX S (cl:=cl) (by decide) (by walk_at "2") (λf c A outer s H E d=>⟨_,(aW (bR (pc1 (E:=E) b d cY (aA (bG jj (bD (ao 0) aL) (bD (ao 1) aL)) (aA (bG jj (bD (ao 0) aL) (bD (ao 1) aL)) aG))))),λt e g=>by delta Mx; walk_at "t"⟩)
theorem afJ(a:At K mg "fraction_of" NP) (M:Nm mg) (e:PyProof.Rows.OwnCls "NoBottom" (cl "NoBottom") uP "ValueError.__new__" mg base) (g:aQ P w K mg base 1 "common_divisor" (["one", "other"]:List Str) (aV K cl 2 tE)):aQ P w K mg base 2 "fraction_of" (["top", "bottom"]:List Str) (aV K cl 2 vY):=by
 have S:=fS (["top", "bottom", "divisor"]:List Str) (["top", "bottom"]:List Str) (bC NP)
 exact a.cX S (cl:=cl) (by decide) (by walk_at "2") (λf h A outer s H E c=>⟨_,(aU (dI (eO (iQ c.units) (ao 1) aL (cU _)) (aW (yZ yX e PySem.F.excBase_ValueError rfl jK)) dH) (aU (cF 2 S.nd (pc1 (E:=E) g c cY (aA (ao 0) (aA (ao 1) aG)))) (aU (dI (eO (xu c.units) (ao 1) aL (cU _)) (aW (cF 2 S.nd (Dn Ds (ao 2)))) dH) (aW (bR (pK (aA (bG kJ (ao 0) (ao 2)) (aA (bG kJ (ao 1) (ao 2)) aG)))))))),λt b d=>(dZ (j8 (lO (x_eq b (aM 1) (eV _))) (zT (λi=>d "NoBottom" i) (qp _)) j6) (dZ (j7 (kY b d (cB (cB gw)) (bh (aM 0) (bh (aM 1) bU))) (dh 2) d7) (dZ (j8 (lO (x_lt b (aM 1) (eV _))) (j7 (Vq (aM 2)) (dh 2) d7) j6) (jr (K1 (bh (Lw b (aM 0) (aM 2)) (bh (Lw b (aM 1) (aM 2)) bU)))))))⟩)
theorem afK(a:At K mg "is_ask" Oq) (M:Nm mg) (d:lu K) (c:aQ P w K mg base 2 "is_place" (["thing", "many"]:List Str) (aV K cl 2 v7)):aQ P w K mg base 3 "is_ask" (["thing", "lists", "many"]:List Str) (aV K cl 3 xW):=by
 have S:=fS (["thing", "lists", "many"]:List Str) (["thing", "lists", "many"]:List Str) (bC Oq)
 exact a.cX S (cl:=cl) (by decide) (by walk_at "3") (λf e A outer s H E b=>⟨_,(aU (dI (PW.pt (jW (gR (iw (kZ d.o .tuple (ao 0) M.lB M.xZ) (by intro _; rfl))) (lG (eO (qu b.units) (cW dY M.d8 (aA (ao 0) aG)) aL (cU _))))) (aW (bR lF)) dH) (aW (bR (rm (pc1 (E:=E) c b cY (aA (bD (ao 0) aL) (aA (ao 1) aG))) (qZ (pc1 (E:=E) c b cY (aA (bD (ao 0) aL) (aA (ao 2) aG)))))))),λt g h=>by delta M5; walk_at "t"⟩)
theorem afL(a:At K mg "is_book" Bx) (M:Nm mg) {m:V} (h:Gk K mg "MOST_LISTS" m (.int 4)) {n:V} (i:Gk K mg "MOST_THINGS" n (.int 12)) (p:lu K) (d:aQ P w K mg base 4 "are_worths" (["thing", "most"]:List Str) (aV K cl 2 vZ)):aQ P w K mg base 5 "is_book" (["thing"]:List Str) (aV K cl 1 Bc):=by
 have S:=fS (["thing"]:List Str) (["thing"]:List Str) (bC Bx)
 exact a.cX S (cl:=cl) (by decide) (by walk_at "1") (λf l A outer s H E j=>⟨_,(aU (dI (PW.pt (jW (gR (iw (kZ p.o .list (f9 0) M.lB M.qK) (by intro _; rfl))) (lG (gR (Sv pJ pJ aL (cW dY M.d8 (aA (f9 0) aG)) (Aj h)))))) (aW (bR lF)) dH) (aU (dI (gR (iw (cW (vD rfl) M.wu (aA (nA (sc:=bC Bx) (No:=(["thing"]:List Str)) (N:=(["row"]:List Str)) (src:=[none]) (g:=(dN 0)) rfl rfl ⟨by rfl,by decide +kernel,by decide +kernel,by decide +kernel,by rfl,by decide +kernel⟩ rfl (gZ (f9 0)) (λC s H ex=>(cH 0 (show List.Nodup (["row"]:List Str) by decide +kernel))) (λC s H ex=>(eZ d j (aA (ao 0) (aA (Aj i) aG))))) aG)) (by intro _; rfl))) (aW (bR lF)) dH) (aW (bR (cW (vD rfl) M.wu (aA (nA (sc:=bC Bx) (No:=(["thing"]:List Str)) (N:=(["row", "thing"]:List Str)) (src:=[none,some 0]) (g:=(dN 0)) rfl rfl ⟨by rfl,by decide +kernel,by decide +kernel,by decide +kernel,by rfl,by decide +kernel⟩ rfl (gZ (f9 0)) (λC s H ex=>(cH 0 (show List.Nodup (["row", "thing"]:List Str) by decide +kernel))) (λC s H ex=>(lH (iQ j.units) (cW dY M.d8 (aA (ao 0) aG)) (cW dY M.d8 (aA (jL jM (f9 1) aL (λ_ _=>rfl)) aG)) (cU _)))) aG)))))),λt b u=>(dZ (j8 (pQ (kO (jF b (uF b .list (aM 0)))) (kO (lO (Vp b KY KY Lr Lr (eV _) (x_len b (bh (aM 0) bU)) (Ls b h))))) (jr (vH _)) j6) (dZ (j8 (kO (jF b (Ly b (bh (Aa (nU b (aM 0)) (qF (by decide)) (qH (js:=[0]) (by decide)) d7 (λt1 e k=>(dh 0)) (λt1 e k=>(lV (e.trans b) k (cB (cB gw)) (bh (aM 0) (bh (Ls (e.trans b) i) bU))))) bU)))) (jr (vH _)) j6) (jr (Ly b (bh (Aa (nU b (aM 0)) (qF (by decide)) (qH (js:=[0]) (by decide)) d7 (λq c r=>(dh 0)) (λq c r=>(x_eq (c.trans b) (x_len (c.trans b) (bh (aM 0) bU)) (x_len (c.trans b) (bh (eH (c.trans b) (aM 1) (eV _)) bU))))) bU)))))⟩)
theorem afN(a:At K mg "is_count" N8) (M:Nm mg) (b:aQ P w K mg base 1 "is_whole" (["thing"]:List Str) (aV K cl 1 p8)):aQ P w K mg base 2 "is_count" (["thing", "many"]:List Str) (aV K cl 2 xV):=by
 have S:=fS (["thing", "many"]:List Str) (["thing", "many"]:List Str) (bC N8)
 exact a.cX S (cl:=cl) (by decide) (by walk_at "2") (λf c A outer s H E d=>⟨_,(aW (bR (rm (pc1 (E:=E) b d cY (aA (ao 0) aG)) (qZ (Dw pJ pJ aL (ao 0) (ao 1)))))),λt e g=>by delta M4; walk_at "t"⟩)
theorem afO(a:At K mg "is_fraction" NZ) (M:Nm mg) (d:lu K) (c:aQ P w K mg base 1 "is_whole" (["thing"]:List Str) (aV K cl 1 p8)) (e:aQ P w K mg base 1 "common_divisor" (["one", "other"]:List Str) (aV K cl 2 tE)):aQ P w K mg base 2 "is_fraction" (["thing"]:List Str) (aV K cl 1 uT):=by
 have S:=fS (["thing", "top", "bottom"]:List Str) (["thing"]:List Str) (bC NZ)
 exact a.cX S (cl:=cl) (by decide) (by walk_at "1") (λf g A outer s H E b=>⟨_,(aU (dI (PW.pt (jW (gR (iw (kZ d.o .tuple (ao 0) M.lB M.xZ) (by intro _; rfl))) (lG (eO (qu b.units) (cW dY M.d8 (aA (ao 0) aG)) aL (cU _))))) (aW (bR lF)) dH) (aU (wU (ao 0) (oO rfl (ig (cH 1 S.nd) (ig (cH 2 S.nd) oN)))) (aU (dI (PW.pt (jW (gR (iw (pc1 (E:=E) c b cY (aA (ao 1) aG)) (by intro _; rfl))) (lG (gR (iw (pc1 (E:=E) c b cY (aA (ao 2) aG)) (by intro _; rfl)))))) (aW (bR lF)) dH) (aW (bR (rm (lH JK (ao 2) aL (cU _)) (qZ (lH (iQ b.units) (pc1 (E:=E) e b cY (aA (ao 1) (aA (ao 2) aG))) aL (cU _))))))))),λt h i=>by delta Mz; walk_at "t"⟩)
theorem afP(a:At K mg "is_place" N7) (M:Nm mg) (c:aQ P w K mg base 1 "is_whole" (["thing"]:List Str) (aV K cl 1 p8)):aQ P w K mg base 2 "is_place" (["thing", "many"]:List Str) (aV K cl 2 v7):=by
 have S:=fS (["thing", "many"]:List Str) (["thing", "many"]:List Str) (bC N7)
 exact a.cX S (cl:=cl) (by decide) (by walk_at "2") (λf d A outer s H E b=>⟨_,(aW (bR (rm (pc1 (E:=E) c b cY (aA (ao 0) aG)) (qZ (Dw pJ (xu b.units) aL (ao 0) (ao 1)))))),λt e g=>by delta MK; walk_at "t"⟩)
theorem afQ(a:At K mg "is_rule" Oh) (M:Nm mg) {d:V} (e:Gk K mg "BARE_RULES" d (.tup [(.tup [(.str "least")]),(.tup [(.str "greatest")]),(.tup [(.str "product")])])) (g:lu K) (c:aQ P w K mg base 3 "are_weights" (["thing", "many"]:List Str) (aV K cl 2 Gq)) (h:aQ P w K mg base 1 "is_whole" (["thing"]:List Str) (aV K cl 1 p8)):aQ P w K mg base 4 "is_rule" (["thing", "many"]:List Str) (aV K cl 2 v8):=by
 have S:=fS (["thing", "many", "word", "rest"]:List Str) (["thing", "many"]:List Str) (bC Oh)
 exact a.cX S (cl:=cl) (by decide) (by walk_at "2") (λf i A outer s H E b=>⟨_,(aU (dI (gR (iw (kZ g.o .tuple (ao 0) M.lB M.xZ) (by intro _; rfl))) (aW (bR lF)) dH) (aU (dI (eO (qu b.units) (cW dY M.d8 (aA (ao 0) aG)) aL (cU _)) (aW (bR (lH (Kh b.units) (ao 0) (Aj e) (by with_unfolding_all rfl)))) dH) (aU (wU (ao 0) (oO rfl (ig (cH 2 S.nd) (ig (cH 3 S.nd) oN)))) (aU (dI (eO (iQ b.units) (ao 2) jK (cU _)) (aW (bR (pc1 (E:=E) c b cY (aA (ao 3) (aA (ao 1) aG))))) dH) (aW (bR (rm (lH (iQ b.units) (ao 2) jK (cU _)) (rm (pc1 (E:=E) h b cY (aA (ao 3) aG)) (qZ (Dw pJ pJ aL (ao 3) (ao 1))))))))))),λt j k=>by delta xU; walk_at "t"⟩)
theorem afS(a:At K mg "is_whole" Nz) (M:Nm mg) (b:lu K):aQ P w K mg base 1 "is_whole" (["thing"]:List Str) (aV K cl 1 p8):=by
 have S:=fS (["thing"]:List Str) (["thing"]:List Str) (bC Nz)
 exact a.cX S (cl:=cl) (by decide) (by walk_at "1") (λf c A outer s H E d=>⟨_,(aW (bR (rm (kZ b.o .int (ao 0) M.lB M.xY) (qZ (aas (kZ b.o .bool (ao 0) M.lB M.Xo)))))),λt e g=>by delta Ww; walk_at "t"⟩)
theorem afT(a:At K mg "is_worth" N6) (M:Nm mg) (b:aQ P w K mg base 2 "is_fraction" (["thing"]:List Str) (aV K cl 1 uT)):aQ P w K mg base 3 "is_worth" (["thing"]:List Str) (aV K cl 1 tH):=by
 have S:=fS (["thing"]:List Str) (["thing"]:List Str) (bC N6)
 exact a.cX S (cl:=cl) (by decide) (by walk_at "1") (λf c A outer s H E d=>⟨_,(aW (bR (rm (pc1 (E:=E) b d cY (aA (ao 0) aG)) (qZ (Dw pJ pJ aL (bD (ao 0) aL) (bD (ao 0) aL)))))),λt e g=>by delta MF; walk_at "t"⟩)
theorem afU(a:At K mg "last_worths" Ou) (M:Nm mg) (b:aQ P w K mg base 5 "read_orders" (["book"]:List Str) (aV K cl 1 uU)):aQ P w K mg base 6 "last_worths" (["book", "depths", "one"]:List Str) (aV K cl 3 Bw):=by
 have S:=fS (["book", "depths", "one", "lasts", "row", "order", "depth"]:List Str) (["book", "depths", "one"]:List Str) (bC Ou)
 exact a.cX S (cl:=cl) (by decide) (by walk_at "3") (λf c A outer s H E d=>⟨_,(aU (cF 3 S.nd (iM aG)) (aU (PS.iC (iu PassesOwn.never rfl (aeA M.Hy (aA (ao 0) (aA (eZ b d (aA (ao 0) aG)) (aA (ao 1) aG)))) (oO rfl (ig (cH 4 S.nd) (ig (cH 5 S.nd) (ig (cH 6 S.nd) oN)))) (aW (psE (m9 PySem.F.plainAttrs_list PySem.F.slot_list_append PySem.F.type_list_append nu (ao 3) (iY (Ju (eO Dt (ao 6) aL (cU _)) (bD (ao 4) (bD (ao 5) (bG vm (ao 6) aL))) (ao 2)) aG)))))) (aW (bR (ao 3))))),λt e g=>by delta Ny; walk_at "t"⟩)
theorem afV(a:At K mg "law" Hw) (M:Nm mg) (n:lu K) (j:aQ P w K mg base 2 "_law_book" (["_law_script", "_law_at", "_law_lists", "_law_most"]:List Str) (aV K cl 4 BL)) (k:aQ P w K mg base 2 "_law_looks" (["_law_script", "_law_at", "_law_book_here"]:List Str) (aV K cl 3 BP)) (p:aQ P w K mg base 2 "_law_rule" (["_law_number", "_law_lists"]:List Str) (aV K cl 2 yd)) (z:aQ P w K mg base 1 "_law_copied" (["_law_book_here"]:List Str) (aV K cl 1 Xq)) (q:aQ P w K mg base 4 "_law_bounds" (["_law_book_here", "_law_rule_here", "_law_looks_here"]:List Str) (aV K cl 3 yh)) (u:aQ P w K mg base 8 "worth_bounds" (["book", "rule", "looks"]:List Str) (aV K cl 3 wk)) (v:aQ P w K mg base 1 "_law_cell" (["_law_script", "_law_k"]:List Str) (aV K cl 2 jz)) (B:aQ P w K mg base 3 "_law_worth" (["_law_rule_here", "_law_worths"]:List Str) (aV K cl 2 lC)) (x:aQ P w K mg base 1 "_law_below" (["_law_one", "_law_other"]:List Str) (aV K cl 2 mU)) (y:aQ P w K mg base 1 "_law_is" (["_law_found"]:List Str) (aV K cl 1 wz)) (m:aQ P w K mg base 1 "_law_copied" (["_law_book_here"]:List Str) (Br K cl 1 BR)):aQ P w K mg base 9 "law" (["_law_script"]:List Str) (aV K cl 1 BW):=by
 have S:=fS (["_law_script", "_law_book_here", "_law_looks_here", "_law_rules", "_law_handed", "_law_rule_here", "_law_due", "_law_found", "_law_thing", "_law_low", "_law_high", "_law_own", "_law_row"]:List Str) (["_law_script"]:List Str) (bC Hw)
 exact a.cX S (cl:=cl) (by decide) (by walk_at "1") (λf r A outer s H E d=>⟨_,(aU (cF 1 S.nd (pc1 (E:=E) j d cY (aA (ao 0) (aA aL (aA aL (aA aL aG)))))) (aU (cF 2 S.nd (pc1 (E:=E) k d cY (aA (ao 0) (aA aL (aA (ao 1) aG))))) (aU (cF 3 S.nd (iM (aA (pc1 (E:=E) p d cY (aA (pc1 (E:=E) v d cY (aA (ao 0) (aA aL aG))) (aA (cW dY M.d8 (aA (ao 1) aG)) aG))) (aA (pc1 (E:=E) p d cY (aA (pc1 (E:=E) v d cY (aA (ao 0) (aA aL aG))) (aA (cW dY M.d8 (aA (ao 1) aG)) aG))) aG)))) (aU (cF 4 S.nd (iM (iY (pc1 (E:=E) m d cY (aA (ao 1) aG)) (iY (pK (aA (uQ DQ M.qK (aA (bD (ao 2) aL) aG)) (aA (uQ DQ M.qK (aA (bD (ao 2) aL) aG)) aG))) aG)))) (aU (PS.iC (iu PassesOwn.never rfl (gZ (iM (aA (bD (ao 3) aL) (aA (bD (ao 3) aL) (aA (bD (ao 3) aL) aG))))) (cH 5 S.nd) (aU (cF 6 S.nd (eZ q d (aA (ao 1) (aA (ao 5) (aA (ao 2) aG))))) (aU (cF 7 S.nd (eZ u d (aA (bD (ao 4) aL) (aA (ao 5) (aA (bD (ao 4) aL) aG))))) (aU (dI (PW.pt (jW (gR (iw (kZ n.o .list (ao 7) M.lB M.qK) (by intro _; rfl))) (jW (eO (qu d.units) (ao 7) (ao 6) (cU _)) (lG (eO (qu d.units) (ao 4) (iM (aA (ao 1) (aA (ao 2) aG))) (cU _)))))) (aW (bR lF)) dH) (aU (iu PassesOwn.never rfl (lg M.kh (aA (cW dY M.d8 (aA (ao 7) aG)) aG)) (Ai 8 S.nd rfl) (aU (wU (bD (ao 7) (f9 8)) (oO rfl (ig (cH 9 S.nd) (ig (cH 10 S.nd) oN)))) (aU (cF 11 S.nd (eZ B d (aA (ao 5) (aA (nA (sc:=bC Hw) (No:=(["_law_script", "_law_book_here", "_law_looks_here", "_law_rules", "_law_handed", "_law_rule_here", "_law_due", "_law_found", "_law_thing", "_law_low", "_law_high", "_law_own", "_law_row"]:List Str)) (N:=(["_law_worths", "_law_thing"]:List Str)) (src:=[none,some 8]) (g:=(dN 0)) rfl rfl ⟨by rfl,by decide +kernel,by decide +kernel,by decide +kernel,by rfl,by decide +kernel⟩ rfl (gZ (ao 1)) (λC s H ex=>(cH 0 (show List.Nodup (["_law_worths", "_law_thing"]:List Str) by decide +kernel))) (λC s H ex=>(jL jM (ao 0) (f9 1) (λ_ _=>rfl)))) aG)))) (aU (dI (PW.pt (jW (gR (iw (kZ n.o .tuple (bD (ao 7) (f9 8)) M.lB M.xZ) (by intro _; rfl))) (jW (gR (iw (eZ y d (aA (ao 9) aG)) (by intro _; rfl))) (lG (gR (iw (eZ y d (aA (ao 10) aG)) (by intro _; rfl))))))) (aW (bR lF)) dH) (aW (dI (PW.pt (jW (iw (eZ x d (aA (ao 11) (aA (ao 9) aG))) (by intro _; rfl)) (lG (iw (eZ x d (aA (ao 10) (aA (ao 11) aG))) (by intro _; rfl))))) (aW (bR lF)) dH)))))) (aW (psE (T3 PySem.F.plainAttrs_list PySem.F.slot_list_clear PySem.F.type_list_clear abn (ao 7)))))))))) (aU (PS.iC (iu PassesOwn.never rfl (gZ (bD (ao 4) aL)) (cH 12 S.nd) (aW (psE (T3 PySem.F.plainAttrs_list PySem.F.slot_list_reverse PySem.F.type_list_reverse abm (ao 12)))))) (aW (bR (lH (iQ d.units) (pc1 (E:=E) u d cY (aA (bD (ao 4) aL) (aA (bD (ao 3) aL) (aA (bD (ao 4) aL) aG)))) (pc1 (E:=E) q d cY (aA (bD (ao 4) aL) (aA (bD (ao 3) aL) (aA (ao 2) aG)))) (cU _)))))))))),λt b e=>(dZ (j7 (kY b e (cB (cB (cB (cB gw)))) (bh (aM 0) (bh (eV _) (bh (eV _) (bh (eV _) bU))))) (dh 1) d7) (dZ (j7 (kY b e (cB (cB (cB gw))) (bh (aM 0) (bh (eV _) (bh (aM 1) bU)))) (dh 2) d7) (dZ (j7 (xG (bh (kY b e (cB (cB gw)) (bh (kY b e (cB (cB gw)) (bh (aM 0) (bh (eV _) bU))) (bh (x_len b (bh (aM 1) bU)) bU))) (bh (kY b e (cB (cB gw)) (bh (kY b e (cB (cB gw)) (bh (aM 0) (bh (eV _) bU))) (bh (x_len b (bh (aM 1) bU)) bU))) bU))) (dh 3) d7) (aeW (cl:=cl) b 4 12 [5,6,7,8,9,10,11,12] (by decide) (by decide) e (cB gw) (bh (aM 1) bU) (λt1 i G=>(K1 (bh (Fz (i.trans b) (bh (eH (i.trans b) (aM 2) (eV _)) bU)) (bh (Fz (i.trans b) (bh (eH (i.trans b) (aM 2) (eV _)) bU)) bU)))) (uO (λI c h=>(qz (nU (c.trans b) (xG (bh (eH (c.trans b) (aM 3) (eV _)) (bh (eH (c.trans b) (aM 3) (eV _)) (bh (eH (c.trans b) (aM 3) (eV _)) bU))))) (dh 5) d7 (dZ (j7 (lV (c.trans b) h (cB (cB (cB gw))) (bh (aM 1) (bh (aM 5) (bh (aM 2) bU)))) (dh 6) d7) (dZ (Fe 7 (lV (c.trans b) h (cB (cB (cB gw))) (bh (eH (c.trans b) (aM 4) (eV _)) (bh (aM 5) (bh (eH (c.trans b) (aM 4) (eV _)) bU))))) (dZ (j8 (pQ (kO (jF (c.trans b) (uF (c.trans b) .list (aM 7)))) (pQ (lO (Ae (c.trans b) (aM 7) (aM 6))) (lO (Ae (c.trans b) (aM 4) (xG (bh (aM 1) (bh (aM 2) bU))))))) (jr (vH _)) j6) (dZ (qz (Fi (bh (x_len (c.trans b) (bh (aM 7) bU)) bU)) (dh 8) d7 (dZ (j7 (eH (c.trans b) (aM 7) (aM 8)) (xJ (c.trans b) (nJ (dh 9) (nJ (dh 10) xH))) (Ac (sH d7 (sH d7 Ab)))) (dZ (j7 (lV (c.trans b) h (cB (cB gw)) (bh (aM 5) (bh (Aa (nU (c.trans b) (aM 1)) (qF (by decide)) (qH (js:=[0]) (by decide)) d7 (λt3 l D=>(dh 0)) (λt3 l D=>(eH (l.trans (c.trans b)) (aM 0) (aM 1)))) bU))) (dh 11) d7) (dZ (j8 (pQ (kO (jF (c.trans b) (uF (c.trans b) .tuple (eH (c.trans b) (aM 7) (aM 8))))) (pQ (kO (jF (c.trans b) (lV (c.trans b) h (cB gw) (bh (aM 9) bU)))) (kO (jF (c.trans b) (lV (c.trans b) h (cB gw) (bh (aM 10) bU)))))) (jr (vH _)) j6) (j8 (pQ (jF (c.trans b) (lV (c.trans b) h (cB (cB gw)) (bh (aM 11) (bh (aM 9) bU)))) (jF (c.trans b) (lV (c.trans b) h (cB (cB gw)) (bh (aM 10) (bh (aM 11) bU))))) (jr (vH _)) j6))))) (zN (ady 7))))))))) (by repeat first|exact L2.aeL _|exact L2.aeK|exact L2.aeR|exact L2.aeQ (by decide)|refine L2.aeP ?_ ?_|refine L2.aeN _ ?_|exact L2.aeM _|refine L2.aeO _ ?_ ?_|refine L2.aeU _ ?_ ?_|refine L2.aeT _ _ ?_|refine L2.aeS ?_ ?_) (jr (x_eq b (kY b e (cB (cB (cB gw))) (bh (eH b (aM 4) (eV _)) (bh (eH b (aM 3) (eV _)) (bh (eH b (aM 4) (eV _)) bU)))) (kY b e (cB (cB (cB gw))) (bh (eH b (aM 4) (eV _)) (bh (eH b (aM 3) (eV _)) (bh (aM 2) bU))))))))))⟩)
theorem afZ(a:At K mg "need_book" Oa) (M:Nm mg) (e:PyProof.Rows.OwnCls "NoBook" (cl "NoBook") uP "ValueError.__new__" mg base) (b:aQ P w K mg base 5 "is_book" (["thing"]:List Str) (aV K cl 1 Bc)):aQ P w K mg base 6 "need_book" (["book"]:List Str) (aV K cl 1 xT):=by
 have S:=fS (["book"]:List Str) (["book"]:List Str) (bC Oa)
 exact a.cX S (cl:=cl) (by decide) (by walk_at "1") (λf g A outer s H E h=>⟨_,(aW (dI (gR (iw (pc1 (E:=E) b h cY (aA (ao 0) aG)) (by intro _; rfl))) (aW (yZ yX e PySem.F.excBase_ValueError rfl jK)) dH)),λt c d=>(j8 (kO (jF c (kY c d (cB gw) (bh (aM 0) bU)))) (zT (λi=>d "NoBook" i) (qp _)) j6)⟩)
theorem af2(a:At K mg "need_book_and_rule" Oo) (M:Nm mg) (h:PyProof.Rows.OwnCls "NoRule" (cl "NoRule") uP "ValueError.__new__" mg base) (c:aQ P w K mg base 6 "need_book" (["book"]:List Str) (aV K cl 1 xT)) (d:aQ P w K mg base 4 "is_rule" (["thing", "many"]:List Str) (aV K cl 2 v8)):aQ P w K mg base 7 "need_book_and_rule" (["book", "rule"]:List Str) (aV K cl 2 Gv):=by
 have S:=fS (["book", "rule"]:List Str) (["book", "rule"]:List Str) (bC Oo)
 exact a.cX S (cl:=cl) (by decide) (by walk_at "2") (λf i A outer s H E g=>⟨_,(aU (psE (pc1 (E:=E) c g cY (aA (ao 0) aG))) (aW (dI (gR (iw (pc1 (E:=E) d g cY (aA (ao 1) (aA (cW dY M.d8 (aA (ao 0) aG)) aG))) (by intro _; rfl))) (aW (yZ yX h PySem.F.excBase_ValueError rfl jK)) dH))),λt b e=>(dZ (zN (kY b e (cB gw) (bh (aM 0) bU))) (j8 (kO (jF b (kY b e (cB (cB gw)) (bh (aM 1) (bh (x_len b (bh (aM 0) bU)) bU))))) (zT (λj=>e "NoRule" j) (qp _)) j6))⟩)
theorem af5(a:At K mg "need_looks" Ot) (M:Nm mg) (k:PyProof.Rows.OwnCls "NoLooks" (cl "NoLooks") uP "ValueError.__new__" mg base) (m:lu K) (d:aQ P w K mg base 3 "are_depths" (["thing", "lists", "many"]:List Str) (aV K cl 3 Gx)) (e:aQ P w K mg base 4 "are_asked" (["thing", "lists", "many"]:List Str) (aV K cl 3 Gy)):aQ P w K mg base 5 "need_looks" (["book", "looks"]:List Str) (aV K cl 2 Bl):=by
 have S:=fS (["book", "looks", "lists", "many"]:List Str) (["book", "looks"]:List Str) (bC Ot)
 exact a.cX S (cl:=cl) (by decide) (by walk_at "2") (λf l A outer s H E g=>⟨_,(aU (Jy (i:=2) (j:=3) rfl S.nd rfl rfl (by decide) rfl rfl (aA (cW dY M.d8 (aA (ao 0) aG)) (aA (cW dY M.d8 (aA (bD (ao 0) aL) aG)) aG)) rfl) (aU (dI (PW.pt (jW (gR (iw (kZ m.o .tuple (ao 1) M.lB M.xZ) (by intro _; rfl))) (lG (eO (qu g.units) (cW dY M.d8 (aA (ao 1) aG)) aL (cU _))))) (aW (yZ yX k PySem.F.excBase_ValueError rfl jK)) dH) (aW (dI (PW.pt (jW (gR (iw (pc1 (E:=E) d g cY (aA (bD (ao 1) aL) (aA (ao 2) (aA (ao 3) aG)))) (by intro _; rfl))) (lG (gR (iw (pc1 (E:=E) e g cY (aA (bD (ao 1) aL) (aA (ao 2) (aA (ao 3) aG)))) (by intro _; rfl)))))) (aW (yZ yX k PySem.F.excBase_ValueError rfl jK)) dH)))),λt b c=>(dZ (Vd 2 3 (bh (x_len b (bh (aM 0) bU)) (bh (x_len b (bh (eH b (aM 0) (eV _)) bU)) bU))) (dZ (j8 (pQ (kO (jF b (uF b .tuple (aM 1)))) (lO (Ae b (x_len b (bh (aM 1) bU)) (eV _)))) (zT (λh=>c "NoLooks" h) (qp _)) j6) (j8 (pQ (kO (jF b (kY b c (cB (cB (cB gw))) (bh (eH b (aM 1) (eV _)) (bh (aM 2) (bh (aM 3) bU)))))) (kO (jF b (kY b c (cB (cB (cB gw))) (bh (eH b (aM 1) (eV _)) (bh (aM 2) (bh (aM 3) bU))))))) (zT (λh=>c "NoLooks" h) (qp _)) j6)))⟩)
theorem af8(a:At K mg "place_of" Ol) (M:Nm mg):aQ P w K mg base 1 "place_of" (["rule", "many"]:List Str) (aV K cl 2 v9):=by
 have S:=fS (["rule", "many"]:List Str) (["rule", "many"]:List Str) (bC Ol)
 exact a.cX S (cl:=cl) (by decide) (by walk_at "2") (λf c A outer s H E b=>⟨_,(aU (dI (eO (iQ b.units) (bD (ao 0) aL) jK (cU _)) (aW (bR aL)) dH) (aU (dI (eO (iQ b.units) (bD (ao 0) aL) jK (cU _)) (aW (bR (ao 1))) dH) (aW (bR (bD (ao 0) aL))))),λt d e=>by delta Bg; walk_at "t"⟩)
theorem af9(a:At K mg "product_worth" Oj) (M:Nm mg) (b:aQ P w K mg base 3 "frac_times" (["one", "other"]:List Str) (aV K cl 2 tG)):aQ P w K mg base 4 "product_worth" (["worths"]:List Str) (aV K cl 1 Gu):=by
 have S:=fS (["worths", "product", "worth"]:List Str) (["worths"]:List Str) (bC Oj)
 exact a.cX S (cl:=cl) (by decide) (by walk_at "1") (λf c A outer s H E d=>⟨_,(aU (cF 1 S.nd (sJ (G:=aJ K) (Ts:=[.int 1,.int 1]) (by kernel_rfl))) (aU (PS.iC (iu PassesOwn.never rfl (gZ (ao 0)) (cH 2 S.nd) (aW (cF 1 S.nd (eZ b d (aA (ao 1) (aA (ao 2) aG))))))) (aW (bR (ao 1))))),λt e g=>by delta WW; walk_at "t"⟩)
theorem aga(a:At K mg "read_orders" Hg) (M:Nm mg) (b:aQ P w K mg base 4 "falling_places" (["fractions"]:List Str) (aV K cl 1 mR)):aQ P w K mg base 5 "read_orders" (["book"]:List Str) (aV K cl 1 uU):=by
 have S:=fS (["book"]:List Str) (["book"]:List Str) (bC Hg)
 exact a.cX S (cl:=cl) (by decide) (by walk_at "1") (λf c A outer s H E d=>⟨_,(aW (bR (nA (sc:=bC Hg) (No:=(["book"]:List Str)) (N:=(["row"]:List Str)) (src:=[none]) (g:=(dN 0)) rfl rfl ⟨by rfl,by decide +kernel,by decide +kernel,by decide +kernel,by rfl,by decide +kernel⟩ rfl (gZ (ao 0)) (λC s H ex=>(cH 0 (show List.Nodup (["row"]:List Str) by decide +kernel))) (λC s H ex=>(eZ b d (aA (ao 0) aG)))))),λt e h=>by delta W4; walk_at "t"⟩)
theorem agb(a:At K mg "seen_by" Ho) (M:Nm mg) (h:aQ P w K mg base 5 "read_orders" (["book"]:List Str) (aV K cl 1 uU)):aQ P w K mg base 6 "seen_by" (["book", "looks"]:List Str) (aV K cl 2 Bm):=by
 have S:=fS (["book", "looks", "depths", "asked", "seen", "place", "order", "thing"]:List Str) (["book", "looks"]:List Str) (bC Ho)
 exact a.cX S (cl:=cl) (by decide) (by walk_at "2") (λf j A outer s H E k=>⟨_,(aU (wU (ao 1) (oO rfl (ig (cH 2 S.nd) (ig (cH 3 S.nd) oN)))) (aU (xg (i:=4) (sc:=bC Ho) (No:=(["book", "looks", "depths", "asked", "seen", "place", "order", "thing"]:List Str)) (N:=(["row"]:List Str)) (src:=[none]) (g:=(dN 0)) S.nd rfl (Or.inl rfl) rfl rfl ⟨by rfl,by decide +kernel,by decide +kernel,by decide +kernel,by rfl,by decide +kernel⟩ rfl (gZ (ao 0)) (λC s H ex=>(cH 0 (show List.Nodup (["row"]:List Str) by decide +kernel))) (λC s H ex=>(bG jj (Lz (G:=aJ K) (Ts:=[.non]) (by kernel_rfl)) (cW dY M.d8 (aA (ao 0) aG))))) (aU (PS.iC (iu PassesOwn.never rfl (aem M.aeY (aA (eZ h k (aA (ao 0) aG)) aG)) (oO rfl (ig (cH 5 S.nd) (ig (cH 6 S.nd) oN))) (aW (iu PassesOwn.never rfl (gZ (DP Eu (ao 6) DK (DN (bD (ao 2) (ao 5))))) (cH 7 S.nd) (aW (wU (bD (bD (ao 0) (ao 5)) (ao 7)) (R5 (bD (ao 4) (ao 5)) (ao 7) set_list))))))) (aU (PS.iC (iu PassesOwn.never rfl (gZ (ao 3)) (oO rfl (ig (cH 5 S.nd) (ig (cH 7 S.nd) oN))) (aW (wU (bD (bD (ao 0) (ao 5)) (ao 7)) (R5 (bD (ao 4) (ao 5)) (ao 7) set_list))))) (aW (bR (ao 4))))))),λt b n=>(dZ (j7 (aM 1) (xJ b (nJ (dh 2) (nJ (dh 3) xH))) (Ac (sH d7 (sH d7 Ab)))) (dZ (VH 4 (nU b (aM 0)) (qF (by decide)) (qH (js:=[0]) (by decide)) d7 (λt1 e l=>(dh 0)) (λt1 e l=>(Vo (e.trans b) (Vu (e.trans b)) (x_len (e.trans b) (bh (aM 0) bU))))) (dZ (uO (λo c m=>(qz (aeo (c.trans b) (bh (lV (c.trans b) m (cB gw) (bh (aM 0) bU)) bU)) (xJ (c.trans b) (nJ (dh 5) (nJ (dh 6) xH))) (Ac (sH d7 (sH d7 Ab))) (qz (nU (c.trans b) (U8 (c.trans b) (aM 6) U5 (U6 (eH (c.trans b) (aM 2) (aM 5))))) (dh 7) d7 (VB (c.trans b) 4 (eH (c.trans b) (eH (c.trans b) (aM 0) (aM 5)) (aM 7)) (FW 5) (FW 7)))))) (dZ (uO (λt3 d p=>(qz (nU (d.trans b) (aM 3)) (xJ (d.trans b) (nJ (dh 5) (nJ (dh 7) xH))) (Ac (sH d7 (sH d7 Ab))) (VB (d.trans b) 4 (eH (d.trans b) (eH (d.trans b) (aM 0) (aM 5)) (aM 7)) (FW 5) (FW 7))))) (adJ 4 (jr (aM 4)))))))⟩)
theorem agc(a:At K mg "shares_worth" Oi) (M:Nm mg) (b:aQ P w K mg base 3 "frac_sum" (["one", "other"]:List Str) (aV K cl 2 xR)) (d:aQ P w K mg base 3 "frac_times" (["one", "other"]:List Str) (aV K cl 2 tG)):aQ P w K mg base 4 "shares_worth" (["weights", "worths"]:List Str) (aV K cl 2 Gs):=by
 have S:=fS (["weights", "worths", "total", "weight", "worth"]:List Str) (["weights", "worths"]:List Str) (bC Oi)
 exact a.cX S (cl:=cl) (by decide) (by walk_at "2") (λf e A outer s H E c=>⟨_,(aU (cF 2 S.nd (sJ (G:=aJ K) (Ts:=[.int 0,.int 1]) (by kernel_rfl))) (aU (PS.iC (iu PassesOwn.never rfl (Kz M.Hy (aA (ao 0) (aA (ao 1) aG))) (oO rfl (ig (cH 3 S.nd) (ig (cH 4 S.nd) oN))) (aW (cF 2 S.nd (eZ b c (aA (ao 2) (aA (eZ d c (aA (ao 3) (aA (ao 4) aG))) aG))))))) (aW (bR (ao 2))))),λt g h=>by delta WT; walk_at "t"⟩)
theorem agf(a:At K mg "tops_on_one_bottom" G7) (M:Nm mg) (b:aQ P w K mg base 2 "common_bottom" (["fractions"]:List Str) (aV K cl 1 Bd)):aQ P w K mg base 3 "tops_on_one_bottom" (["fractions"]:List Str) (aV K cl 1 Gp):=by
 have S:=fS (["fractions", "bottom"]:List Str) (["fractions"]:List Str) (bC G7)
 exact a.cX S (cl:=cl) (by decide) (by walk_at "1") (λf c A outer s H E d=>⟨_,(aU (FQ 1 S.nd rfl (pc1 (E:=E) b d cY (aA (ao 0) aG))) (aW (bR (nA (sc:=bC G7) (No:=(["fractions", "bottom"]:List Str)) (N:=(["top", "own", "bottom"]:List Str)) (src:=[none,none,some 1]) (g:=(wQ K 2 (rE (dN 0) (rE (dN 1) wO)))) rfl rfl ⟨by rfl,by decide +kernel,by decide +kernel,by decide +kernel,by rfl,by decide +kernel⟩ rfl (gZ (ao 0)) (λC s H ex=>(oO rfl (ig (cH 0 (show List.Nodup (["top", "own", "bottom"]:List Str) by decide +kernel)) (ig (cH 1 (show List.Nodup (["top", "own", "bottom"]:List Str) by decide +kernel)) oN)))) (λC s H ex=>(bG jj (ao 0) (bG kJ (f9 2) (ao 1)))))))),λt e h=>by delta WD; walk_at "t"⟩)
theorem agh(a:At K mg "worth_bounds" Ow) (M:Nm mg) {g:V} (h:Gk K mg "FULL" g (.tup [(.int 1),(.int 1)])) (b:aQ P w K mg base 7 "need_book_and_rule" (["book", "rule"]:List Str) (aV K cl 2 Gv)) (c:aQ P w K mg base 5 "need_looks" (["book", "looks"]:List Str) (aV K cl 2 Bl)) (d:aQ P w K mg base 7 "bounds_of" (["book", "rule", "looks", "one"]:List Str) (aV K cl 4 G6)):aQ P w K mg base 8 "worth_bounds" (["book", "rule", "looks"]:List Str) (aV K cl 3 wk):=by
 have S:=fS (["book", "rule", "looks"]:List Str) (["book", "rule", "looks"]:List Str) (bC Ow)
 exact a.cX S (cl:=cl) (by decide) (by walk_at "3") (λf i A outer s H E e=>⟨_,(aU (psE (pc1 (E:=E) b e cY (aA (ao 0) (aA (ao 1) aG)))) (aU (psE (pc1 (E:=E) c e cY (aA (ao 0) (aA (ao 2) aG)))) (aW (bR (pc1 (E:=E) d e cY (aA (ao 0) (aA (ao 1) (aA (ao 2) (aA (Aj h) aG))))))))),λt j k=>by delta Xn; walk_at "t"⟩)
theorem agl(a:At K mg "worth_by" Om) (M:Nm mg) (c:aQ P w K mg base 4 "shares_worth" (["weights", "worths"]:List Str) (aV K cl 2 Gs)) (d:aQ P w K mg base 4 "product_worth" (["worths"]:List Str) (aV K cl 1 Gu)) (g:aQ P w K mg base 4 "falling_places" (["fractions"]:List Str) (aV K cl 1 mR)) (e:aQ P w K mg base 1 "place_of" (["rule", "many"]:List Str) (aV K cl 2 v9)):aQ P w K mg base 5 "worth_by" (["rule", "worths"]:List Str) (aV K cl 2 g8):=by
 have S:=fS (["rule", "worths"]:List Str) (["rule", "worths"]:List Str) (bC Om)
 exact a.cX S (cl:=cl) (by decide) (by walk_at "2") (λf h A outer s H E b=>⟨_,(aU (dI (eO (iQ b.units) (bD (ao 0) aL) jK (cU _)) (aW (bR (pc1 (E:=E) c b cY (aA (bD (ao 0) aL) (aA (ao 1) aG))))) dH) (aU (dI (eO (iQ b.units) (bD (ao 0) aL) jK (cU _)) (aW (bR (pc1 (E:=E) d b cY (aA (ao 1) aG)))) dH) (aW (bR (bD (ao 1) (bD (pc1 (E:=E) g b cY (aA (ao 1) aG)) (bG vm (pc1 (E:=E) e b cY (aA (ao 0) (aA (cW dY M.d8 (aA (ao 1) aG)) aG))) aL))))))),λt i j=>by delta Bh; walk_at "t"⟩)
theorem agp(a:At K mg "worths_of" Hi) (M:Nm mg):aQ P w K mg base 1 "worths_of" (["book", "thing"]:List Str) (aV K cl 2 Bj):=by
 have S:=fS (["book", "thing"]:List Str) (["book", "thing"]:List Str) (bC Hi)
 exact a.cX S (cl:=cl) (by decide) (by walk_at "2") (λf b A outer s H E c=>⟨_,(aW (bR (nA (sc:=bC Hi) (No:=(["book", "thing"]:List Str)) (N:=(["row", "thing"]:List Str)) (src:=[none,some 1]) (g:=(dN 0)) rfl rfl ⟨by rfl,by decide +kernel,by decide +kernel,by decide +kernel,by rfl,by decide +kernel⟩ rfl (gZ (ao 0)) (λC s H ex=>(cH 0 (show List.Nodup (["row", "thing"]:List Str) by decide +kernel))) (λC s H ex=>(jL jM (ao 0) (f9 1) (λ_ _=>rfl)))))),λt d e=>by delta WX; walk_at "t"⟩)
end
end K21
end
section
namespace L2
open PySem
@[simp] theorem Rs.jk{α β : Type}(a : α)(f : α -> Rs β):(Rs.ok a).bind f=f a:=rfl
@[simp] theorem Rs.alB{α β : Type}(f : α -> Rs β):(Rs.bad:Rs α).bind f=.bad:=rfl
@[simp] theorem Rs.alC{α β : Type}(c:Str)(f : α -> Rs β):(Rs.ex c:Rs α).bind f=.ex c:=rfl
inductive Tg{α β : Type}(f : α -> Rs β):Type
 |mk
def bd{α β : Type}(r:Rs α)(f : α -> Rs β)(_:Tg f):Rs β := r.bind f
@[simp] theorem yp{α β : Type}(f : α -> Rs β)(a : α)(u:Tg f):bd (.ok a) f u=f a:=rfl
@[simp] theorem alD{α β : Type}(f : α -> Rs β)(u:Tg f):bd .bad f u=.bad:=rfl
@[simp] theorem alE{α β : Type}(f : α -> Rs β)(c:Str)(u:Tg f):bd (.ex c) f u=.ex c:=rfl
@[simp] theorem alF(f g:SF)(ρ : En):aC f g ρ = ((bd (f ρ) (λp=>match p.1 with
 |.nx=>g p.2
 |fl=>.ok (fl,p.2)) .mk)):=rfl
@[simp] theorem alG(c:BF)(f g:SF)(ρ : En):cA c f g ρ = ((bd (c ρ) (λp=>if p.1=true then f p.2 else g p.2) .mk)):=rfl
@[simp] theorem alH(f:EF)(ρ : En):bB f ρ = ((bd (f ρ) (λp=>match p.1 with
 |.v T fr=>.ok (.rt T fr,p.2)
 |.s i=>match p.2[i]? with
  |some (.ow ts)=>.ok (.rt (.lst ts) true,p.2)
  |_=>.bad) .mk)):=rfl
@[simp] theorem alI(f:EF)(g:GF)(ρ : En):bw f g ρ = ((bd (f ρ) (λp=>match p.1 with
 |.v T _=>(bd (g T p.2) (λa=>.ok (.nx,a)) .mk)
 |.s _=>.bad) .mk)):=rfl
@[simp] theorem alJ(i:Nat)(f:EF)(ρ : En):fX i f ρ = ((bd (f ρ) (λp=>match p.1 with
 |.v (.lst ts) true=>.ok (.nx,p.2.set i (.ow ts))
 |_=>.bad) .mk)):=rfl
@[simp] theorem alK  (ρ : En):cD  ρ = (.ok (.nx,ρ)):=rfl
@[simp] theorem alL(f:SF)(ρ : En):bL f ρ = (dF (f ρ)):=rfl
@[simp] theorem alM(i j:Nat)(a:AF)(ρ : En):vM i j a ρ = ((bd (a ρ) (λp=>(bd (cls p.1) (λTs=>match Ts with
 | [T,U]=>.ok (.nx,(p.2.set i (.sh T)).set j (.sh U))
 |_=>.bad) .mk)) .mk)):=rfl
@[simp] theorem alN(f:EF)(ρ : En):eY f ρ = ((bd (f ρ) (λp=>.ok (.nx,p.2)) .mk)):=rfl
@[simp] theorem alO(a:IF)(g:GF)(b:SF)(ρ : En):cg a g b ρ = ((bd (a ρ) (λp=>cG g b p.1 p.2) .mk)):=rfl
@[simp] theorem alP(i:Nat)(f:SF)(ρ : En):mL i f ρ = (f (fC i ρ)):=rfl
@[simp] theorem alQ(i:Nat)(f:SF)(ρ : En):Ga i f ρ = (f (pZ i ρ)):=rfl
@[simp] theorem alR(i:Nat)(p:Int->Int->Int)(f:EF)(ρ : En):acO i p f ρ = (match ρ[i]? with
 |some (.sh (.int x))=>(bd (f ρ) (λq=>(bd (dr q.2 q.1) (λa=>(bd (pU a) (λy=>.ok (.nx,q.2.set i (.sh (.int (p x y))))) .mk)) .mk)) .mk)
 |_=>.bad):=rfl
@[simp] theorem alS(i:Nat)(a b:QF)(fe:EF)(ρ : En):Al i a b fe ρ = ((bd (fe ρ) (λp=>(bd (mQ p.1) (λT=>(bd (oh p.2 i) (λts=>(bd (dF (a p.2)) (λk=>(bd (oA ts k) (λz=>match z.2 with
 |.lst us=>(bd (dF (b p.2)) (λj=>(bd (oA us j) (λy=>.ok (.nx,p.2.set i (.dp (ts.set z.1 (.lst (us.set y.1 T)))))) .mk)) .mk)
 |_=>.bad) .mk)) .mk)) .mk)) .mk)) .mk)):=rfl
@[simp] theorem agq(i:Nat)(src:List (Option Nat))(a:IF)(g:GF)(c:BF)(f:EF)(ρ : En):sU i src a g c f ρ = ((bd (a ρ) (λp=>if p.1.length<=100000 then(bd (dF (vQ g c f p.1 (fQ src p.2))) (λz=>if fZ src z.2 p.2=true then .ok (.nx,(cN src z.2 p.2).set i (.dp z.1))else .bad) .mk)else .bad) .mk)):=rfl
@[simp] theorem alT(i:Nat)(ρ : En):sS i ρ = (match ρ[i]? with
 |some (.sh T)=>.ok T
 |_=>.bad):=rfl
@[simp] theorem alU(i:Nat)(ρ : En):aj i ρ = (match ρ[i]? with
 |some (.sh T)=>.ok (.v T false,ρ)
 |some (.ow _)=>.ok (.s i,ρ)
 |some (.rf _)=>.ok (.s i,ρ)
 |_=>.bad):=rfl
@[simp] theorem alV(T:Tr)(ρ : En):eC T ρ = (.ok (.v T false,ρ)):=rfl
@[simp] theorem alW(Ts:List Tr)(ρ : En):sO Ts ρ=.ok (.v (.lst Ts) true,ρ):=rfl
@[simp] theorem alX(g:G2)(c fb:EF)(ρ : En):aq g c fb ρ = ((bd (c ρ) (λp=>(bd (fb p.2) (λq=>(bd (dr q.2 p.1) (λa=>(bd (dr q.2 q.1) (λb=>(bd (g a b) (λz=>.ok (.v z.1 z.2,q.2)) .mk)) .mk)) .mk)) .mk)) .mk)):=rfl
@[simp] theorem alY(g:G1)(b:EF)(ρ : En):zJ g b ρ = ((bd (b ρ) (λp=>(bd (dr p.2 p.1) (λa=>(bd (g a) (λz=>.ok (.v z.1 z.2,p.2)) .mk)) .mk)) .mk)):=rfl
@[simp] theorem alZ(g:GN)(a:AF)(ρ : En):aZ g a ρ = ((bd (a ρ) (λp=>(bd (drs p.2 p.1) (λas=>(bd (g as) (λz=>.ok (.v z.1 z.2,p.2)) .mk)) .mk)) .mk)):=rfl
@[simp] theorem al0(F:FP)(a:AF)(ρ : En):aR F a ρ = ((bd (a ρ) (λp=>(bd (drs p.2 p.1) (λas=>(bd (F as) (λz=>if p.1.any bN=true/\sE z=false then .bad else .ok (.v z.1 z.2,p.2)) .mk)) .mk)) .mk)):=rfl
@[simp] theorem al1(a:Int):uJ [.int a]=true:=rfl
@[simp] theorem al2(a b:Int):uJ [.int a,.int b]=true:=rfl
@[simp] theorem al3(g:AF)(ρ : En):dO g ρ = ((bd (g ρ) (λp=>(bd (cls p.1) (λts=>if ts.length<=1000 then .ok (.v (.lst ts) true,p.2)else .bad) .mk)) .mk)):=rfl
@[simp] theorem al4(g:AF)(ρ : En):jd g ρ = ((bd (g ρ) (λp=>(bd (cls p.1) (λts=>if ts.length<=1000 then .ok (.v (.tup ts) false,p.2)else .bad) .mk)) .mk)):=rfl
@[simp] theorem al5(f g:EF)(ρ : En):oW f g ρ = ((bd (bY f ρ) (λp=>if p.1=true then g p.2 else .ok (eB false,p.2)) .mk)):=rfl
@[simp] theorem al6(f g:EF)(ρ : En):Et f g ρ = ((bd (bY f ρ) (λp=>if p.1=true then .ok (eB true,p.2)else g p.2) .mk)):=rfl
@[simp] theorem al7(f:EF)(ρ : En):K3 f ρ = ((bd (bY f ρ) (λp=>.ok (eB (!p.1),p.2)) .mk)):=rfl
@[simp] theorem al8(c:BF)(f g:EF)(ρ : En):uE c f g ρ = ((bd (c ρ) (λp=>if p.1=true then f p.2 else g p.2) .mk)):=rfl
@[simp] theorem al9(c:Ty)(b:EF)(ρ : En):iH c b ρ = ((bd (b ρ) (λp=>(bd (dr p.2 p.1) (λa=>.ok (eB (iz a c),p.2)) .mk)) .mk)):=rfl
@[simp] theorem ama(g g':G2)(d fb fc:EF)(ρ : En):rY g g' d fb fc ρ = ((bd (d ρ) (λp=>(bd (fb p.2) (λq=>(bd (dr q.2 p.1) (λa=>(bd (dr q.2 q.1) (λb=>(bd (g a b) (λz=>(bd (cu z.1) (λk=>if k=true then(bd (fc q.2) (λs=>(bd (dr s.2 q.1) (λb=>(bd (dr s.2 s.1) (λc=>(bd (g' b c) (λz=>.ok (.v z.1 z.2,s.2)) .mk)) .mk)) .mk)) .mk)else .ok (eB false,q.2)) .mk)) .mk)) .mk)) .mk)) .mk)) .mk)):=rfl
@[simp] theorem amb(b:EF)(fl c:OF)(ρ : En):pX b fl c ρ = ((bd (b ρ) (λp=>(bd (fl p.2) (λl=>(bd (c l.2) (λh=>(bd (dr h.2 p.1) (λa=>(bd (qw l.1 h.1 a) (λz=>.ok (.v z.1 z.2,h.2)) .mk)) .mk)) .mk)) .mk)) .mk)):=rfl
@[simp] theorem XC(src:List (Option Nat))(a:IF)(g:GF)(c:BF)(f:EF)(ρ : En):dG src a g c f ρ = ((bd (a ρ) (λp=>if p.1.length<=100000 then(bd (dF (jm g c f p.1 (fQ src p.2))) (λz=>if fZ src z.2 p.2=true then .ok (.v (.lst z.1) true,cN src z.2 p.2)else .bad) .mk)else .bad) .mk)):=rfl
@[simp] theorem amc(i:Nat)(m:GM)(a:AF)(ρ : En):fY i m a ρ = ((bd (con ρ i) (λ_=>(bd (a ρ) (λp=>(bd (cls p.1) (λas=>(bd (con p.2 i) (λts=>(bd (m ts as) (λz=>.ok (.v z.2 false,dD i z.1 p.2)) .mk)) .mk)) .mk)) .mk)) .mk)):=rfl
@[simp] theorem amd(i:Nat)(m:GM)(ρ : En):zR i m ρ = ((bd (con ρ i) (λts=>(bd (m ts []) (λz=>.ok (.v z.2 false,dD i z.1 ρ)) .mk)) .mk)):=rfl
@[simp] theorem ame(c:EF)(ρ : En):bY c ρ = ((bd (c ρ) (λp=>(bd (dr p.2 p.1) (λa=>(bd (cu a) (λb=>.ok (b,p.2)) .mk)) .mk)) .mk)):=rfl
@[simp] theorem amf(c:EF)(ρ : En):dJ c ρ = ((bd (c ρ) (λp=>(bd (dr p.2 p.1) (λa=>(bd (gF a) (λb=>.ok (b,p.2)) .mk)) .mk)) .mk)):=rfl
@[simp] theorem amg(f g:BF)(ρ : En):gY f g ρ = ((bd (f ρ) (λp=>if p.1=true then .ok (true,p.2)else g p.2) .mk)):=rfl
@[simp] theorem amh(f:BF)(ρ : En):eX f ρ = ((bd (f ρ) (λp=>.ok (!p.1,p.2)) .mk)):=rfl
@[simp] theorem agr  (ρ : En):cO  ρ = (.ok (true,ρ)):=rfl
@[simp] theorem ami  (ρ : En):au  ρ = (.ok ([],ρ)):=rfl
@[simp] theorem amj(f:EF)(g:AF)(ρ : En):ak f g ρ = ((bd (f ρ) (λp=>(bd (g p.2) (λq=>.ok (p.1::q.1,q.2)) .mk)) .mk)):=rfl
@[simp] theorem amk(f:EF)(ρ : En):cM f ρ = ((bd (f ρ) (λp=>(bd (nQ p.1) (λz=>.ok (z.1,p.2)) .mk)) .mk)):=rfl
@[simp] theorem aml(a:AF)(ρ : En):cR a ρ = ((bd (a ρ) (λp=>(bd (drs p.2 p.1) (λas=>match as with
 | [.int j]=>if okR j=true then .ok (upTo 0 j.toNat,p.2)else .bad
 |_=>.bad) .mk)) .mk)):=rfl
@[simp] theorem amm(a:AF)(ρ : En):o8 a ρ = ((bd (a ρ) (λp=>match p.1 with
 | [.v (.lst us) _,.v (.lst vs) _]=>.ok (o7 us vs,p.2)
 |_=>.bad) .mk)):=rfl
@[simp] theorem amn  (ρ : En):pR  ρ = (.ok (none,ρ)):=rfl
@[simp] theorem amo(c:EF)(ρ : En):pW c ρ = ((bd (c ρ) (λp=>(bd (dr p.2 p.1) (λa=>(bd (pU a) (λb=>.ok (some b,p.2)) .mk)) .mk)) .mk)):=rfl
@[simp] theorem amq(i:Nat)(T:Tr)(ρ : En):gN i T ρ = (.ok (ρ.set i (.sh T))):=rfl
@[simp] theorem amr(n:Nat)(f:uG)(T:Tr)(ρ : En):gT n f T ρ = (match T with
 |.tup Ts=>if Ts.length=n then f Ts ρ else .bad
 |_=>.bad):=rfl
@[simp] theorem ams  (Ts:List Tr)(ρ : En):fO  Ts ρ = (match Ts with
 | []=>.ok ρ
 |_=>.bad):=rfl
@[simp] theorem amt(f:GF)(g:uG)(Ts:List Tr)(ρ : En):bZ f g Ts ρ = (match Ts with
 |T::r=>(bd (f T ρ) (λa=>g r a) .mk)
 | []=>.bad):=rfl
@[simp] theorem amu(a:Tr):bQ 1 [a]=[.sh a]:=rfl
end L2
end
section
namespace BH
open PySem L2
theorem mV(i:Int):dep (.int i)=0:=rfl
theorem HS(i:Bool):dep (.bl i)=0:=rfl
theorem wB(i:Str):dep (.str i)=0:=rfl
theorem HW:dep .non=0:=rfl
theorem wC(ts:List Tr):dep (.tup ts)=deps ts+1:=by simp only[dep]
theorem qO(ts:List Tr):dep (.lst ts)=deps ts+1:=by simp only[dep]
theorem tK:deps []=0:=rfl
theorem oG(t:Tr)(ts:List Tr):deps (t::ts)=max (dep t) (deps ts):=by simp only[deps]
theorem tL(i j:Int):eqT (.int i) (.int j)=(i == j):=by simp only[eqT]
theorem HX(i j:Bool):eqT (.bl i) (.bl j)=(i == j):=by simp only[eqT]
theorem Ca(i j:Str):eqT (.str i) (.str j)=(i == j):=by simp only[eqT]
def isW:Tr->Bool
 |.int _=>true
 |_=>false
theorem HY(T:Tr):p8 [T]=.ok (.bl (isW T),false):=by cases T <;> rfl
def wc:BF:=bY (aq gq (aj 1) (eC (.int 0)))
def wb:SF:=vM 0 1 (ak (aj 1) (ak (aq cj (aj 0) (aj 1)) au))
theorem ags(a b:Int):wc [.sh (.int a),.sh (.int b)]=.ok (!(b == 0),[.sh (.int a),.sh (.int b)]):=rfl
theorem agt(a b:Int)(h:b≠0):wb [.sh (.int a),.sh (.int b)]=.ok (.nx,[.sh (.int b),.sh (.int (a.fmod b))]):=by
 unfold wb; simp -dsimp[dr,cls,fD,cj,h]
theorem XD:∀(n:Nat) (a b:Int),b.natAbs<n->∃g:Int,sy wc wb n [.sh (.int a),.sh (.int b)]=.ok (.nx,[.sh (.int g),.sh (.int 0)])/\(if g<0 then -g else g)=((Int.gcd a b:Nat):Int)
 | 0,a,b,h=>by omega
 |n+1,a,b,h=>by
  unfold sy
  rw[ags]
  by_cases z:b=0
  .subst z
   exact⟨a,rfl,abK a⟩
  .obtain⟨g,c,d⟩:=XD n b (a.fmod b) (by have:=Uo a b z; omega)
   refine⟨g,?_,by rw[d,Uq]⟩
   have e:(!(b == 0))=true:=by simp[z]
   simp only[Rs.bind,e,if_true]
   rw[agt a b z]
   exact c
def XF:SF:=(aC (bL (qy (sI 1) wc wb)) (bB (aZ (g1 lQ) (ak (aj 0) au))))
theorem agu(a b:Int):bf 2 XF [.int a,.int b]=.ok (.int (Int.gcd a b:Nat),false):=by
 obtain⟨g,c,d⟩:=XD (b.natAbs+1) a b (by omega)
 have h0:bQ 2 [.int a,.int b]=[.sh (.int a),.sh (.int b)]:=rfl
 have e:bL (qy (sI 1) wc wb) [.sh (.int a),.sh (.int b)]=.ok (.nx,[.sh (.int g),.sh (.int 0)]):=by
  unfold bL qy
  rw[show sI 1 [.sh (.int a),.sh (.int b)]=b.natAbs+1 from rfl,c]
  rfl
 rw[<-d]
 unfold bf XF aC
 rw[h0,e]
 rfl
theorem Qf(a b:Int):tE [.int a,.int b]=.ok (.int (Int.gcd a b:Nat),false):=agu a b
def Ia:Tr->Tr->Bool
 |.int p,.int q=>decide (1<=q)&&(Int.gcd p q == 1)
 |_,_=>false
def o9:Tr->Bool
 |.tup [a,b]=>Ia a b
 |_=>false
theorem agv(n:Nat):((n:Int) == 1)=(n == 1):=by
 rw[Bool.eq_iff_iff]; simp; omega
theorem wF(T:Tr):uT [T]=.ok (.bl (o9 T),false):=by
 unfold uT Mz bf
 cases T with
 |tup d =>
  match d with
  | []=>rfl
  | [_]=>rfl
  | [a,b] =>
   cases a <;> cases b <;> try rfl
   rename_i p q
   simp -dsimp[eB,cu,gF,dr,drs,g1,gB,bT,gq,j5,bx,bN,mV,tL,iz,bQ,HY,isW,Qf,o9,Ia,agv]
   by_cases h:1<=q <;> simp[h]
  |a::b::c::r =>
   have:((r.length:Int)+1+1+1 == 2)=false:=by simp; omega
   simp -dsimp[eB,cu,gF,dr,drs,g1,gq,j5,bx,mV,tL,iz,bQ,o9,this]
 |_=>rfl
def Qg:Tr->Tr->Bool
 |.int p,.int q=>decide (0<=p)&&decide (p<=q)&&decide (1<=q)&&(Int.gcd p q == 1)
 |_,_=>false
def oH:Tr->Bool
 |.tup [a,b]=>Qg a b
 |_=>false
theorem agw(T:Tr):tH [T]=.ok (.bl (oH T),false):=by
 unfold tH MF bf
 cases T with
 |tup d =>
  match d with
  | []=>simp -dsimp[eB,cu,dr,drs,fG,bN,bQ,wF,o9,oH]
  | [_]=>simp -dsimp[eB,cu,dr,drs,fG,bN,bQ,wF,o9,oH]
  | [a,b] =>
   by_cases w:isW a=true/\isW b=true
   case neg =>
    have e:Ia a b=false:=by cases a <;> cases b <;> first|rfl|exact absurd ⟨rfl,rfl⟩ w
    have f:Qg a b=false:=by cases a <;> cases b <;> first|rfl|exact absurd ⟨rfl,rfl⟩ w
    simp -dsimp[eB,cu,dr,drs,fG,bN,bQ,wF,o9,oH,e,f]
   cases a <;> try cases w.1
   cases b <;> try cases w.2
   rename_i p q
   simp -dsimp[eB,cu,dr,drs,gB,fG,aB,bN,gC,iD,bQ,wF,o9,oH,Ia,Qg]
   by_cases h:1<=q <;> by_cases g:p.gcd q=1 <;> by_cases i:0<=p <;> simp[h,g,i]
  |a::b::c::r=>simp -dsimp[eB,cu,dr,drs,fG,bN,bQ,wF,o9,oH]
 |_=>simp -dsimp[eB,cu,dr,drs,fG,bN,bQ,wF,o9,oH]
theorem comp_map:∀(us:List Tr) (s:Sl),(∀u∈us,∃fr,f (.sh u::τ)=.ok (.v (h u) fr,.sh u::τ))->∃a,jm (gN 0) cO f us (s::τ)=.ok (us.map h,a::τ)
 | [],s,_=>⟨s,rfl⟩
 |u::us,s,q=>by
  obtain⟨fr,e⟩:=q u (by simp)
  obtain⟨a,b⟩:=comp_map us (.sh u) λv c=>q v (by simp[c])
  refine⟨a,?_⟩
  unfold jm
  simp[e,mQ,b]
theorem Qh:∀us:List Tr,rZ (us.map λu=>.bl (p u))=some (us.map p)
 | []=>rfl
 |u::us=>by simp[rZ,Qh us]
theorem XH{F:FP}(a:us.length<=100000)(hi:i ρ=.ok (us,ρ))(hf:∀u∈us,∃fr,fe [.sh u]=.ok (.v (.bl (p u)) fr,[.sh u])):aZ (g1 gG) (ak (dG [none] i (gN 0) cO fe) au) ρ=.ok (.v (.bl (us.all p)) false,ρ):=by
 obtain⟨b,e⟩:=comp_map (h:=λu=>.bl (p u)) us .un hf
 simp -dsimp[dF,dr,drs,g1,gG,fQ,cN,fZ,oX,hi,a,e,Qh]
theorem agx(a:us.length<=100000)(hi:i ρ=.ok (us,ρ))(b : ρ[j]?=some (.sh T))(hf:∀u∈us,∃fr,fe [.sh u,.sh T]=.ok (.v (.bl (p u)) fr,[.sh u,.sh T])):aZ (g1 gG) (ak (dG [none,some j] i (gN 0) cO fe) au) ρ=.ok (.v (.bl (us.all p)) false,ρ):=by
 obtain⟨c,e⟩:=comp_map (h:=λu=>.bl (p u)) us .un hf
 simp -dsimp[dF,dr,drs,g1,gG,fQ,cN,fZ,oY,oX,hi,a,b,e,Qh]
def pq(m:Int):Tr->Bool
 |.lst ts=>decide (1<=(ts.length:Int))&&decide ((ts.length:Int)<=m)&&ts.all oH
 |_=>false
theorem agy(T:Tr)(m:Int)(hm:m<=1000):vZ [T,.int m]=.ok (.bl (pq m T),false):=by
 unfold vZ MJ bf
 cases T with
 |lst a =>
  by_cases b:1<=(a.length:Int)
  .by_cases c:(a.length:Int)<=m
   .have e:=XH (F:=tH) (p:=oH) (us:=a) (ρ:=[.sh (.lst a),.sh (.int m)]) (i:=cM (aj 0)) (fe:=aR tH (ak (aj 0) au)) (by omega) rfl (λu _=>⟨false,by simp -dsimp[dr,drs,bN,agw]⟩)
    generalize aZ (g1 gG) (ak (dG [none] (cM (aj 0)) (gN 0) cO (aR tH (ak (aj 0) au))) au)=G at e ⊢
    simp -dsimp[eB,cu,gF,dr,drs,g1,gB,fG,bx,iz,bQ,b,c,e,pq]
   .simp -dsimp[eB,cu,gF,dr,drs,g1,gB,fG,bx,iz,bQ,b,c,pq]
  .simp -dsimp[eB,cu,gF,dr,drs,g1,gB,fG,bx,iz,bQ,b,pq]
 |_=>simp -dsimp[eB,gF,dr,fG,iz,bQ,pq]
def qP:Tr->Int
 |.lst ts=>ts.length
 |_=>-1
def pA:Tr->Bool
 |.lst rs=>decide (1<=(rs.length:Int))&&decide ((rs.length:Int)<=4)&&rs.all (pq 12)&&rs.all λr=>qP r == qP (rs.headD .non)
 |_=>false
theorem XJ(h:pq m T=true):∃ts,T=.lst ts:=by
 cases T <;> first|exact⟨_,rfl⟩|cases h
theorem agz(T:Tr):Bc [T]=.ok (.bl (pA T),false):=by
 unfold Bc Wy bf
 cases T with
 |lst d =>
  by_cases f:1<=(d.length:Int)
  .by_cases h:(d.length:Int)<=4
   .have e:=XH (F:=tH) (p:=pq 12) (us:=d) (ρ:=[.sh (.lst d)]) (i:=cM (aj 0)) (fe:=(aR vZ (ak (aj 0) (ak (eC (.int 12)) au)))) (by omega) rfl (λu _=>⟨false,by simp -dsimp[dr,drs,bN,agy]⟩)
    generalize aZ (g1 gG) (ak (dG [none] (cM (aj 0)) (gN 0) cO (aR vZ (ak (aj 0) (ak (eC (.int 12)) au)))) au)=G at e ⊢
    cases g:d.all (pq 12)with
    |false=>rw[g]at e; simp -dsimp[eB,cu,gF,dr,drs,g1,gB,fG,bx,iz,bQ,f,h,e,pA,g]
    |true =>
     have q:=List.all_eq_true.mp g
     obtain⟨k,rs,rfl⟩:∃k rs,d=k::rs:=by cases d with
      |nil=>simp at f
      |cons a b=>exact⟨a,b,rfl⟩
     obtain⟨c,rfl⟩:=XJ (q k (by simp))
     have m:=agx (p:=λr=>qP r == (c.length:Int)) (us:=.lst c::rs) (ρ:=[.sh (.lst (.lst c::rs))]) (j:=0) (T:=.lst (.lst c::rs)) (i:=cM (aj 0)) (fe:=(aq bT (aZ (g1 bx) (ak (aj 0) au)) (aZ (g1 bx) (ak (aq aB (aj 1) (eC (.int 0))) au)))) (by omega) rfl rfl (λu s=>⟨false,by
      obtain⟨l,rfl⟩:=XJ (q u s)
      have:(0:Int)<(rs.length:Int)+1:=by omega
      simp -dsimp[dr,drs,g1,bT,aB,bx,mV,tL,gC,iD,qP,this]⟩)
     generalize aZ (g1 gG) (ak (dG [none,some 0] (cM (aj 0)) (gN 0) cO (aq bT (aZ (g1 bx) (ak (aj 0) au)) (aZ (g1 bx) (ak (aq aB (aj 1) (eC (.int 0))) au)))) au)=G2 at m ⊢
     rw[g]at e
     have t:pA (.lst (.lst c::rs))=(Tr.lst c::rs).all (λr=>qP r == (c.length:Int)):=by
      show(decide (1<=((Tr.lst c::rs).length:Int))&&decide (((Tr.lst c::rs).length:Int)<=4)&&(Tr.lst c::rs).all (pq 12)&&(Tr.lst c::rs).all λr=>qP r == qP (.lst c))=_
      rw[g,decide_eq_true f,decide_eq_true h]
      rfl
     rw[t]
     generalize (Tr.lst c::rs).all (λr=>qP r == (c.length:Int))=bb at m
     have n:(1:Int)<=(rs.length:Int)+1:=by omega
     have o:(rs.length:Int)+1<=4:=by simp only[List.length_cons]at h; omega
     simp -dsimp[eB,cu,gF,dr,drs,g1,gB,fG,bx,iz,bQ,n,o,e,m]
   .simp -dsimp[eB,cu,gF,dr,drs,g1,gB,fG,bx,iz,bQ,f,h,pA]
  .simp -dsimp[eB,cu,gF,dr,drs,g1,gB,fG,bx,iz,bQ,f,pA]
 |_=>simp -dsimp[eB,gF,dr,fG,iz,bQ,pA]
end BH
end
section
namespace L2
open PySem
@[simp] theorem amv(kt:Tr->Option (Int × Int))(src:List (Option Nat))(a:AF)(fb:RF)(ρ : En):Gi kt src a fb ρ = bd (a ρ) (λp=>match p.1 with
 | [.v (.int n) _]=>if 0<=n/\n<64 then bd (dF (vW kt fb (Az src p.2) (List.range n.toNat))) (λb=>.ok (.v (.lst ((Av n.toNat λi=>b.getD i (0,0)).map λi:Nat=>Tr.int i)) true,p.2)) .mk else .bad
 |_=>.bad) .mk:=rfl
end L2
namespace BH
open PySem L2
def fT(x:Int × Int):Tr:=.tup [.int x.1,.int x.2]
theorem XM{k:Int}{M:Nat}(h:k.natAbs<2 ^ M)(a:M<=8900):k.natAbs.log2<9000:=by
 by_cases z:k.natAbs=0
 .rw[z]; decide
 .have:=(Nat.log2_lt (n:=k.natAbs) (k:=M) z).mpr h
  omega
theorem XQ(h:k.natAbs<2 ^ M)(a:M<=8900):fit k=true:=by
 have:=XM h a
 unfold fit
 rw[decide_eq_true_eq]
 omega
theorem lD(a:i.natAbs<2 ^ M)(b:M<=8900)(c:j.natAbs<2 ^ N)(d:N<=8900):gM i j=true:=by
 unfold gM
 rw[XQ a b,XQ c d]
 rfl
theorem mW(h0:j≠0)(h:j.natAbs<2 ^ M)(a:M<=8900):jE i j=true:=by
 unfold jE
 rw[Bool.and_eq_true,decide_eq_true_eq,decide_eq_true_eq]
 exact⟨h0,XM h a⟩
theorem agA{B q:Int}(j:1<=B)(k:1<=q):let d:=(B*q).fdiv ((Int.gcd B q:Nat):Int); 1<=d/\B∣d/\q∣d/\d<=B*q:=by
 have l:0<Int.gcd B q:=Int.gcd_pos_of_ne_zero_left _ (by omega)
 obtain⟨b,h⟩:=Int.gcd_dvd_left (a:=B) (b:=q)
 obtain⟨o,f⟩:=Int.gcd_dvd_right (a:=B) (b:=q)
 generalize m:((Int.gcd B q:Nat):Int)=g at h f
 have n:0<b:=by
  rcases Int.lt_or_le 0 b with z|z
  .exact z
  .have:=Int.mul_nonpos_of_nonneg_of_nonpos (a:=g) (b:=b) (by omega) z; omega
 have i:0<o:=by
  rcases Int.lt_or_le 0 o with z|z
  .exact z
  .have:=Int.mul_nonpos_of_nonneg_of_nonpos (a:=g) (b:=o) (by omega) z; omega
 have e:(B*q).fdiv g=B*o:=by
  rw[Int.fdiv_eq_ediv_of_nonneg _ (by omega)]
  have:B*q=g*(B*o):=by rw[f]; ac_rfl
  rw[this]
  exact Int.mul_ediv_cancel_left _ (by omega)
 dsimp only
 rw[e]
 refine⟨?_,⟨o,rfl⟩,⟨b,?_⟩,?_⟩
 .have:=Int.mul_pos (a:=B) (b:=o) (by omega) i; omega
 .conv=>lhs; rw[h]
  conv=>rhs; rw[f]
  ac_rfl
 .refine Int.mul_le_mul_of_nonneg_left ?_ (by omega)
  rw[f]
  have:=Int.mul_le_mul_of_nonneg_right (a:=1) (b:=g) (c:=o) (by omega) (by omega)
  omega
theorem agB{B q D:Int}(c:1<=B)(d:1<=q)(a:B∣D)(b:q∣D):(B*q).fdiv ((Int.gcd B q:Nat):Int)∣D:=by
 have f:0<Int.gcd B q:=Int.gcd_pos_of_ne_zero_left _ (by omega)
 rw[Int.fdiv_eq_ediv_of_nonneg _ (by omega)]
 have e:B*q / ((Int.gcd B q:Nat):Int)=((Int.lcm B q:Nat):Int):=by
  refine Int.ediv_eq_of_eq_mul_left (by omega) ?_
  have:=Int.gcd_mul_lcm B q
  have p:((B*q).natAbs:Int)=B*q:=Int.natAbs_of_nonneg (Int.mul_nonneg (by omega) (by omega))
  rw[<-p,Int.natAbs_mul,<-this,Nat.mul_comm]
  push_cast
  rfl
 rw[e]
 rw[<-Int.dvd_natAbs]at a b ⊢
 exact Int.natCast_dvd_natCast.mpr (Int.lcm_dvd a b)
def wG:SF:=(bw (aq cL (aq cV (aj 1) (aj 3)) (aR tE (ak (aj 1) (ak (aj 3) au)))) (gN 1))
theorem agC(s0:Sl)(B p q:Int)(g:1<=B)(h:1<=q)(b:B<2 ^ M)(c:M<=8900)(d:q<2 ^ N)(a:N<=8900):wG [s0,.sh (.int B),.sh (.int p),.sh (.int q)]=.ok (.nx,[s0,.sh (.int ((B*q).fdiv ((Int.gcd B q:Nat):Int))),.sh (.int p),.sh (.int q)]):=by
 have j:0<Int.gcd B q:=Int.gcd_pos_of_ne_zero_left _ (by omega)
 have gl:Int.gcd B q<=q.natAbs:=Nat.le_of_dvd (by omega) (Int.gcd_dvd_natAbs_right ..)
 have k:((2 ^ M:Nat):Int)=2 ^ M:=by push_cast; rfl
 have l:((2 ^ N:Nat):Int)=2 ^ N:=by push_cast; rfl
 have e:gM B q=true:=lD (M:=M) (N:=N) (by omega) c (by omega) a
 have f:∀i,jE i ((Int.gcd B q:Nat):Int)=true:=λi=>mW (M:=N) (by omega) (by omega) a
 unfold wG
 simp -dsimp[dr,drs,fD,cV,cL,bN,Qf,e,f]
def Fr(N:Nat)(l:List (Int × Int)):Prop:=∀x∈l,1<=x.2/\x.2<2 ^ N
theorem XR{N:Nat}(s0:Sl):∀(l:List (Int × Int)) (B:Int) (M:Nat) (s2 s3:Sl),Fr N l->1<=B->B<2 ^ M->M+N*l.length<=8900->N<=8900->∃a g t3,cG (gT 2 (bZ (gN 2) (bZ (gN 3) fO))) wG (l.map fT) [s0,.sh (.int B),s2,s3]=.ok (.nx,[s0,.sh (.int a),g,t3])/\1<=a/\a<2 ^ (M+N*l.length)/\B∣a/\(∀x∈l,x.2∣a)/\∀D,B∣D->(∀x∈l,x.2∣D)->a∣D
 | [],B,M,s2,s3,_,c,d,_,_=>⟨B,s2,s3,rfl,c,by simpa using d,Int.dvd_refl _,by simp,λ_ h _=>h⟩
 |x::l,B,M,s2,s3,h,c,d,p,j=>by
  obtain⟨a1,a2⟩:=h x (by simp)
  obtain⟨k,m,n,q⟩:=agA c a1
  have e:=agC s0 B x.1 x.2 c a1 d (by omega) a2 j
  have ls:∀D,B∣D->x.2∣D->(B*x.2).fdiv ((Int.gcd B x.2:Nat):Int)∣D:=λD i f=>agB c a1 i f
  generalize (B*x.2).fdiv ((Int.gcd B x.2:Nat):Int)=B1 at k m n q e ls
  have lt:B1<2 ^ (M+N):=by
   have r:(0:Int)<2 ^ N:=Int.pow_pos (by omega)
   have q1:B*x.2<=B*2 ^ N:=Int.mul_le_mul_of_nonneg_left (by omega) (by omega)
   have q2:=Int.mul_lt_mul_of_pos_right d r
   rw[Int.pow_add]
   omega
  rw[List.length_cons]at p
  have hm:M+N+N*l.length=M+N*(l.length+1):=by rw[Nat.mul_succ]; omega
  obtain⟨a,g,t3,s,t,u,o,v,w⟩:=XR s0 l B1 (M+N) (.sh (.int x.1)) (.sh (.int x.2)) (λy b=>h y (by simp[b])) k lt (by omega) j
  refine⟨a,g,t3,?_,t,by rw[List.length_cons,<-hm]; exact u,Int.dvd_trans m o,λy b=>?_,λD i f=>w D (ls D i (f x (by simp))) λy b=>f y (by simp[b])⟩
  .show cG _ wG (fT x::l.map fT) _=_
   unfold cG
   rw[show(gT 2 (bZ (gN 2) (bZ (gN 3) fO))) (fT x) [s0,.sh (.int B),s2,s3]=.ok [s0,.sh (.int B),.sh (.int x.1),.sh (.int x.2)]from rfl]
   simp only[Rs.jk]
   rw[e]
   exact s
  .rcases List.mem_cons.mp b with rfl|b
   .exact Int.dvd_trans n o
   .exact v y b
theorem agD(l:List (Int × Int))(h:Fr N l)(b:1+N*l.length<=8900)(c:N<=8900):∃B,Bd [.lst (l.map fT)]=.ok (.int B,false)/\1<=B/\B<2 ^ (1+N*l.length)/\(∀x∈l,x.2∣B)/\∀D,(∀x∈l,x.2∣D)->B∣D:=by
 obtain⟨B,f,t3,e,g,i,_,j,k⟩:=XR (.sh (.lst (l.map fT))) l 1 1 .un .un h (by omega) (by omega) b c
 refine⟨B,?_,g,i,j,λD d=>k D (Int.one_dvd _) d⟩
 show bf 4 (aC (bw (eC (.int 1)) (gN 1)) (aC (bL (cg (cM (aj 0)) (gT 2 (bZ (gN 2) (bZ (gN 3) fO))) wG)) (bB (aj 1)))) [.lst (l.map fT)]=_
 have a:bL (cg (cM (aj 0)) (gT 2 (bZ (gN 2) (bZ (gN 3) fO))) wG) [.sh (.lst (l.map fT)),.sh (.int 1),.un,.un]=.ok (.nx,[.sh (.lst (l.map fT)),.sh (.int B),f,t3]):=by
  show dF (cG _ wG (l.map fT) _)=_
  rw[e]
  rfl
 generalize bL _=G at a ⊢
 generalize Tr.lst (l.map fT)=T at a ⊢
 unfold bf
 simp -dsimp[bQ,a]
def Cd:EF:=(aq cV (aj 0) (aq cL (aj 2) (aj 1)))
theorem XS(j:1<=B)(c:B<2 ^ M)(g:M<=8900)(d:N<=8900):∀(l:List (Int × Int)) (s0 s1:Sl),Fr N l->(∀x∈l,x.1.natAbs<2 ^ N)->∃t0 t1,jm (gT 2 (bZ (gN 0) (bZ (gN 1) fO))) cO Cd (l.map fT) [s0,s1,.sh (.int B)]=.ok (l.map λx=>.int (x.1*(B / x.2)),[t0,t1,.sh (.int B)])
 | [],s0,s1,_,_=>⟨s0,s1,rfl⟩
 |x::l,s0,s1,h,i=>by
  obtain⟨a1,a2⟩:=h x (by simp)
  have k:=i x (by simp)
  obtain⟨t0,t1,e⟩:=XS j c g d l (.sh (.int x.1)) (.sh (.int x.2)) (λy f=>h y (by simp[f])) (λy f=>i y (by simp[f]))
  refine⟨t0,t1,?_⟩
  have q:((2 ^ M:Nat):Int)=2 ^ M:=by push_cast; rfl
  have r:((2 ^ N:Nat):Int)=2 ^ N:=by push_cast; rfl
  have s:=Int.ediv_nonneg (a:=B) (b:=x.2) (by omega) (by omega)
  have t:=Int.ediv_le_self (a:=B) x.2 (by omega)
  have m:jE B x.2=true:=mW (M:=N) (by omega) (by omega) d
  have n:gM x.1 (B / x.2)=true:=lD (M:=N) (N:=M) k d (by omega) g
  have o:Cd [.sh (.int x.1),.sh (.int x.2),.sh (.int B)]=.ok (.v (.int (x.1*(B / x.2))) false,[.sh (.int x.1),.sh (.int x.2),.sh (.int B)]):=by
   unfold Cd
   have p:B.fdiv x.2=B / x.2:=Int.fdiv_eq_ediv_of_nonneg _ (by omega)
   simp -dsimp[dr,fD,cV,cL,m,p,n]
  show jm _ cO Cd (fT x::l.map fT) _=_
  unfold jm
  rw[show(gT 2 (bZ (gN 0) (bZ (gN 1) fO))) (fT x) [s0,s1,.sh (.int B)]=.ok [.sh (.int x.1),.sh (.int x.2),.sh (.int B)]from rfl]
  simp only[Rs.jk,agr,if_true]
  rw[o]
  simp only[Rs.jk,mQ]
  rw[e]
  rfl
def Frs(N:Nat)(l:List (Int × Int)):Prop:=∀x∈l,1<=x.2/\x.2<2 ^ N/\x.1.natAbs<2 ^ N
theorem Frs.fr(h:Frs N l):Fr N l:=λx a=>⟨(h x a).1,(h x a).2.1⟩
theorem agE(l:List (Int × Int))(h:Frs N l)(a:1+N*l.length<=8900)(b:N<=8900)(d:l.length<=1000):∃B,Gp [.lst (l.map fT)]=.ok (.lst (l.map λx=>.int (x.1*(B / x.2))),true)/\1<=B/\∀x∈l,x.2∣B:=by
 obtain⟨B,e,c,f,g,_⟩:=agD l h.fr a b
 obtain⟨t0,t1,i⟩:=XS c f a b l .un .un h.fr λx j=>(h x j).2.2
 refine⟨B,?_,c,g⟩
 show bf 2 (aC (bw (aR Bd (ak (aj 0) au)) (gN 1)) (bB (dG [none,none,some 1] (cM (aj 0)) (gT 2 (bZ (gN 0) (bZ (gN 1) fO))) cO Cd))) [.lst (l.map fT)]=_
 unfold bf
 simp -dsimp[dF,dr,drs,nQ,bN,fQ,cN,fZ,oY,oX,bQ,e,i,show l.length<=100000 by omega]
def Ce(l:List (Int × Int))(i j:Nat):Prop:=(l.getD j (0,1)).1*(l.getD i (0,1)).2<(l.getD i (0,1)).1*(l.getD j (0,1)).2\/((l.getD j (0,1)).1*(l.getD i (0,1)).2=(l.getD i (0,1)).1*(l.getD j (0,1)).2/\i<j)
def Fall(l:List (Int × Int))(ys:List Nat):Prop:=ys.Perm (List.range l.length)/\ys.Pairwise (Ce l)
theorem X3(ts:List Int):∀(is:List Nat),(∀i∈is,i<ts.length)->vW Ba (Ax rW (Aw aB (tB 1) (tB 0))) [some (.lst (ts.map Tr.int))] is=.ok (is.map λi=>(-(ts.getD i 0),0))
 | [],_=>rfl
 |i::is,h=>by
  have hi:=h i (by simp)
  have e:(Ax rW (Aw aB (tB 1) (tB 0))) [some (Tr.int i),some (.lst (ts.map Tr.int))]=.ok (.int (-(ts.getD i 0))):=by
   unfold Ax Aw tB
   have a:gC (ts.map Tr.int) (i:Int)=some (.int (ts.getD i 0)):=by
    unfold gC iD
    simp[hi]
   simp[aB,a,rW]
  unfold vW
  rw[e,X3 ts is λj b=>h j (by simp[b])]
  rfl
theorem top_lt{B p q r s:Int}(m:1<=B)(n:1<=q)(o:1<=s)(g:q∣B)(ds:s∣B):(p*(B / q)<r*(B / s)↔p*s<r*q)/\(p*(B / q)=r*(B / s)↔p*s=r*q):=by
 obtain⟨a,e⟩:=g
 obtain⟨b,f⟩:=ds
 have i:B / q=a:=by rw[e]; exact Int.mul_ediv_cancel_left _ (by omega)
 have j:B / s=b:=by rw[f]; exact Int.mul_ediv_cancel_left _ (by omega)
 rw[i,j]
 have c:(p*a)*(q*s)=(p*s)*B:=by rw[e]; ac_rfl
 have d:(r*b)*(q*s)=(r*q)*B:=by rw[f]; ac_rfl
 have k:0<q*s:=Int.mul_pos (by omega) (by omega)
 constructor
 .constructor
  .intro h
   have:=Int.mul_lt_mul_of_pos_right h k
   rw[c,d]at this
   exact Int.lt_of_mul_lt_mul_right this (by omega)
  .intro h
   have:=Int.mul_lt_mul_of_pos_right h (show 0<B by omega)
   rw[<-c,<-d]at this
   exact Int.lt_of_mul_lt_mul_right this (by omega)
 .constructor
  .intro h
   rw[h,d]at c
   exact(Int.eq_of_mul_eq_mul_right (by omega) c).symm
  .intro h
   rw[h,<-d]at c
   exact Int.eq_of_mul_eq_mul_right (by omega) c
theorem Qi{N:Nat}(l:List (Int × Int))(h:Frs N l)(o:1+N*l.length<=8900)(q:N<=8900)(u:l.length<64):∃ys,mR [.lst (l.map fT)]=.ok (.lst (ys.map λi:Nat=>Tr.int i),true)/\Fall l ys:=by
 obtain⟨B,e,s,f⟩:=agE l h o q (by omega)
 have m:=X3 (l.map λx=>x.1*(B / x.2)) (List.range l.length) λi hi=>by simpa using hi
 refine⟨Av l.length λi=>((List.range l.length).map λi=>(-((l.map λx=>x.1*(B / x.2)).getD i 0),(0:Int))).getD i (0,0),?_,?_⟩
 .unfold mR WK bf
  have v:(l.map λx=>Tr.int (x.1*(B / x.2)))=(l.map λx=>x.1*(B / x.2)).map Tr.int:=by rw[List.map_map]; rfl
  rw[v]at e
  generalize d:(l.map λx=>x.1*(B / x.2))=ts at e m ⊢
  have w:ts.length=l.length:=by rw[<-d,List.length_map]
  generalize Tr.lst (l.map fT)=T at e ⊢
  have q1:(l.length:Int)<64:=by omega
  simp -dsimp[dF,dr,drs,g1,bx,bN,bQ,e,w,q1,Az,Ay,m]
 .have c:=V9 l.length λi=>((List.range l.length).map λi=>(-((l.map λx=>x.1*(B / x.2)).getD i 0),(0:Int))).getD i (0,0)
  refine⟨c.1,?_⟩
  refine c.2.imp_of_mem λ{i j} hi y z=>?_
  have a:i<l.length:=by simpa using c.1.mem_iff.mp hi
  have b:j<l.length:=by simpa using c.1.mem_iff.mp y
  have k:∀i,i<l.length->((List.range l.length).map λi=>(-((l.map λx=>x.1*(B / x.2)).getD i 0),(0:Int))).getD i (0,0)=(-(l[i]!.1*(B / l[i]!.2)),0):=λi hi=>by
   simp[hi]
  simp only[k i a,k j b]at z
  have g:∀i,i<l.length->l.getD i (0,1)=l[i]! /\ l[i]! ∈ l:=λi hi=>by
   refine⟨by simp[hi],by simp[hi]⟩
  obtain⟨g1,m1⟩:=g i a
  obtain⟨g2,n⟩:=g j b
  unfold Ce
  rw[g1,g2]
  have t:=top_lt (p:=l[j]!.1) (r:=l[i]!.1) s (h _ n).1 (h _ m1).1 (f _ n) (f _ m1)
  rw[<-t.1,<-t.2]
  omega
theorem X4(h:pA T=true):xT [T]=.ok (.non,false):=by
 unfold xT WL bf
 simp -dsimp[gF,dr,drs,bN,bQ,agz,h]
theorem Qj(k n:Int):v7 [.int k,.int n]=.ok (.bl (decide (0<=k)&&decide (k<n)),false):=by
 unfold v7 MK bf
 by_cases h:0<=k <;> simp -dsimp[eB,cu,dr,drs,gB,gW,fG,bN,bQ,HY,isW,h]
theorem agF{rows:List Tr}{k:Nat}(h:k<rows.length):MN [.lst rows,.int k]=.ok (.non,false):=by
 unfold MN WM bf
 have a:(k:Int)<rows.length:=by omega
 simp -dsimp[gF,dr,drs,g1,bx,bN,bQ,Qj,a]
theorem Ib{xs:List Tr}{i:Nat}(h:xs[i]?=some T):aB (.lst xs) (.int i)=.ok (T,false):=by
 obtain⟨hi,e⟩:=List.getElem?_eq_some_iff.mp h
 show(match gC xs i with
  |some t=>Rs.ok (t,false)
  |none=>.bad)=_
 have:gC xs (i:Int)=some T:=by
  unfold gC iD
  simp[hi,e]
 rw[this]
theorem jG{xs:List Tr}{i:Nat}(h:xs[i]?=some T):aB (.lst xs) (.int i)=.ok (T,false):=Ib h
theorem agG{N:Nat}{rows:List Tr}{k:Nat}{l:List (Int × Int)}(j:pA (.lst rows)=true)(d:rows[k]?=some (.lst (l.map fT)))(h:Frs N l)(m:1+N*l.length<=8900)(n:N<=8900)(a:l.length<64):∃ys,MP [.lst rows,.int k]=.ok (.lst (ys.map λi:Nat=>Tr.int i),true)/\Fall l ys:=by
 obtain⟨ys,e,hf⟩:=Qi l h m n a
 refine⟨ys,?_,hf⟩
 have b:=(List.getElem?_eq_some_iff.mp d).1
 have c:=Ib d
 have f:=agF b
 have g:=X4 j
 generalize Tr.lst rows=R at c f g
 generalize Tr.lst (l.map fT)=T at e c
 unfold MP WQ bf
 simp -dsimp[bQ,drs,dr,bN,c,f,g,e]
def Wo(x:Int × Int):Prop:=0<=x.1/\x.1<=x.2/\1<=x.2/\x.2<=1000000000000/\Int.gcd x.1 x.2=1
instance (x:Int × Int):Decidable (Wo x):=by unfold Wo; infer_instance
def aH(l:List (Int × Int)):Tr:=.lst (l.map fT)
def aP(ls:List (List (Int × Int))):Tr:=.lst (ls.map aH)
def Qk(c:Nat)(ls:List (List (Int × Int))):Prop:=∀l∈ls,l.length=c/\∀x∈l,Wo x
def Bk(c:Nat)(ls:List (List (Int × Int))):Prop:=1<=ls.length/\ls.length<=4/\1<=c/\c<=12/\Qk c ls
theorem Wo.oH(h:Wo x):oH (fT x)=true:=by
 obtain⟨a,b,c,e,d⟩:=h
 show(decide (0<=x.1)&&decide (x.1<=x.2)&&decide (1<=x.2)&&(Int.gcd x.1 x.2 == 1))=true
 simp[a,b,c,d]
theorem Wo.frs(h:∀x∈l,Wo x):Frs 40 l:=λx a=>by
 obtain⟨c,d,b,e,f⟩:=h x a
 exact⟨b,by omega,by omega⟩
theorem agH(h:∀x∈l,Wo x)(c:1<=l.length)(d:l.length<=12):pq 12 (aH l)=true:=by
 show(decide (1<=((l.map fT).length:Int))&&decide (((l.map fT).length:Int)<=12)&&(l.map fT).all oH)=true
 rw[List.length_map,decide_eq_true (by omega),decide_eq_true (by omega)]
 simp only[Bool.true_and,List.all_eq_true]
 intro t a
 obtain⟨x,b,rfl⟩:=List.mem_map.mp a
 exact(h x b).oH
theorem Bk.pA(h:Bk c ls):pA (aP ls)=true:=by
 obtain⟨f,g,i,j,b⟩:=h
 show(decide (1<=((ls.map aH).length:Int))&&decide (((ls.map aH).length:Int)<=4)&&(ls.map aH).all (pq 12)&&(ls.map aH).all λr=>qP r == qP ((ls.map aH).headD .non))=true
 rw[List.length_map,decide_eq_true (by omega),decide_eq_true (by omega)]
 simp only[Bool.true_and,Bool.and_eq_true,List.all_eq_true]
 refine⟨λt d=>?_,λt d=>?_⟩
 .obtain⟨l,a,rfl⟩:=List.mem_map.mp d
  exact agH (b l a).2 (by have:=(b l a).1; omega) (by have:=(b l a).1; omega)
 .obtain⟨l,a,rfl⟩:=List.mem_map.mp d
  cases ls with
  |nil=>simp at a
  |cons e r =>
   show(((l.map fT).length:Int) == ((e.map fT).length:Int))=true
   rw[List.length_map,List.length_map,(b l a).1,(b e (by simp)).1]
   simp
theorem order_eq{c:Nat}{ls:List (List (Int × Int))}(h:Bk c ls){k:Nat}{l:List (Int × Int)}(b:ls[k]?=some l):∃ys,MP [aP ls,.int k]=.ok (.lst (ys.map λi:Nat=>Tr.int i),true)/\Fall l ys:=by
 have a:=h.2.2.2.2 l (List.mem_of_getElem? b)
 have:=h.2.2.2.1
 exact agG (N:=40) h.pA (by rw[List.getElem?_map,b]; rfl) (Wo.frs a.2) (by rw[a.1]; omega) (by omega) (by rw[a.1]; omega)
end BH
end
section
namespace L2
open PySem
end L2
namespace BH
open PySem L2
theorem agI{α : Type}(xs:List α)(k:Nat):L2.cut xs (some (k:Int)) none=xs.drop k:=by
 unfold L2.cut HT.cJ
 by_cases h:(k:Int)<0
 .omega
 .simp only[h,if_false,Int.toNat_natCast]
  by_cases z:k<=xs.length
  .rw[Nat.min_eq_left z]
   exact List.take_of_length_le (by simp)
  .rw[Nat.min_eq_right (by omega),List.drop_eq_nil_of_le (by omega),List.drop_eq_nil_of_le (by omega)]
   simp
theorem Ql{α : Type}(xs:List α)(k:Nat):L2.cut xs none (some (k:Int))=xs.take k:=by
 unfold L2.cut HT.cJ
 by_cases h:(k:Int)<0
 .omega
 .simp only[h,if_false,Int.toNat_natCast,Nat.sub_zero,List.drop_zero]
  by_cases z:k<=xs.length
  .rw[Nat.min_eq_left z]
  .rw[Nat.min_eq_right (by omega),List.take_of_length_le (by omega),List.take_of_length_le (by omega)]
def nT(ys:List Nat):Tr:=.lst (ys.map λi:Nat=>Tr.int i)
theorem Ie:∀{ts:List Tr},(∀t∈ts,dep t<=n)->deps ts<=n
 | [],_=>by rw[tK]; omega
 |t::ts,h=>by
  rw[oG]
  have b:=h t (by simp)
  have c:=Ie (ts:=ts) λu a=>h u (by simp[a])
  omega
theorem Qm(x:Int × Int):dep (fT x)=1:=by unfold fT; rw[wC,oG,oG,mV,mV,tK]; rfl
theorem agJ(l:List (Int × Int)):dep (aH l)<=2:=by
 unfold aH
 rw[qO]
 have:=Ie (n:=1) (ts:=l.map fT) λt a=>by
  obtain⟨x,_,rfl⟩:=List.mem_map.mp a
  rw[Qm]; omega
 omega
theorem agK(ls:List (List (Int × Int))):dep (aP ls)<=3:=by
 unfold aP
 rw[qO]
 have:=Ie (n:=2) (ts:=ls.map aH) λt a=>by
  obtain⟨x,_,rfl⟩:=List.mem_map.mp a
  exact agJ x
 omega
theorem Ig(h:dep T<=40):gq T T=.ok (.bl false,false):=by
 unfold gq
 rw[if_pos ⟨h,h⟩,yR]
 rfl
theorem X5(h:dep T<=40):bT T T=.ok (.bl true,false):=by
 unfold bT
 rw[if_pos ⟨h,h⟩,yR]
theorem jR(h:b (ρ.set i (.sh u))=.ok (.nx,ρ1))(h':cG (gN i) b us ρ1=r):cG (gN i) b (u::us) ρ = r:=by
 unfold cG
 show(b (ρ.set i (.sh u))).bind _=_
 rw[h]
 exact h'
theorem Cg{l:List (Int × Int)}{i:Nat}(h:i<l.length):aB (aH l) (.int i)=.ok (fT (l.getD i (0,1)),false):=Ib (by simp[h])
theorem X6{α : Type}{r h : α -> Tr}:∀(xs:List α) (s:Sl),(∀x∈xs,∃fr,f (.sh (r x)::τ)=.ok (.v (h x) fr,.sh (r x)::τ))->∃a,jm (gN 0) cO f (xs.map r) (s::τ)=.ok (xs.map h,a::τ)
 | [],s,_=>⟨s,rfl⟩
 |x::xs,s,q=>by
  obtain⟨fr,e⟩:=q x (by simp)
  obtain⟨a,b⟩:=X6 xs (.sh (r x)) λv c=>q v (by simp[c])
  refine⟨a,?_⟩
  rw[List.map_cons]
  unfold jm
  simp[e,mQ,b]
theorem X7{α : Type}{r : α -> Tr}{p : α -> Bool}:∀(xs:List α) (s:Sl),(∀x∈xs,c (.sh (r x)::τ)=.ok (p x,.sh (r x)::τ))->∃a,jm (gN 0) c (aj 0) (xs.map r) (s::τ)=.ok ((xs.filter p).map r,a::τ)
 | [],s,_=>⟨s,rfl⟩
 |x::xs,s,q=>by
  have e:=q x (by simp)
  obtain⟨a,b⟩:=X7 xs (.sh (r x)) λv d=>q v (by simp[d])
  refine⟨a,?_⟩
  rw[List.map_cons]
  unfold jm
  cases h:p x with
  |false=>rw[h]at e; simp[e,b,h]
  |true=>rw[h]at e; simp[e,b,h,mQ]
theorem Qn{α : Type}{p : α -> Bool}:∀xs:List α,rZ (xs.map λx=>.bl (p x))=some (xs.map p)
 | []=>rfl
 |x::xs=>by simp[rZ,Qn xs]
theorem qQ{α : Type}{r h : α -> Tr}{xs:List α}{rest:List (Option Nat)}(d:xs.length<=100000)(hi:i ρ=.ok (xs.map r,ρ))(b : fQ rest ρ = τ)(f:∀a,fZ (none::rest) (a::τ) ρ = true)(hd:∀a,cN (none::rest) (a::τ) ρ = ρ)
  (hf:∀x∈xs,∃fr,fe (.sh (r x)::τ)=.ok (.v (h x) fr,.sh (r x)::τ)):dG (none::rest) i (gN 0) cO fe ρ=.ok (.v (.lst (xs.map h)) true,ρ):=by
 obtain⟨a,e⟩:=X6 xs .un hf
 have g:fQ (none::rest) ρ=.un::τ := by rw[<-b]; rfl
 have c:(xs.map r).length<=100000:=by rw[List.length_map]; exact d
 rw[XC,hi]
 simp only[yp]
 rw[if_pos c,g,e]
 simp only[dF,yp]
 rw[if_pos (f a),hd a]
def dU(x y:Int × Int):Bool:=decide (x.1*y.2<y.1*x.2)
theorem X8(i j:Int):cC (.int i) (.int j)=.ok (.int (i+j),false):=rfl
theorem lY(n k:Int)(h:0<k):0<=n.fmod k/\n.fmod k<k:=⟨Int.fmod_nonneg_of_pos n h,Int.fmod_lt_of_pos n h⟩
theorem Yb(h : -1000000000000000000<i/\i<1000000000000000000):tiny i=true:=by
 unfold tiny
 rw[Bool.and_eq_true]
 exact⟨decide_eq_true (by omega),decide_eq_true (by omega)⟩
theorem agL(h : -1000000000000000000<i/\i<1000000000000000000):gM i j=true:=by unfold gM; rw[Yb h]; simp
theorem Qo(h : -1000000000000000000<j/\j<1000000000000000000):gM i j=true:=by unfold gM; rw[Yb h]; simp
theorem Yc:∀(n m:Nat),L2.upTo (m:Int) n=(List.range' m n).map λi:Nat=>Tr.int i
 | 0,_=>rfl
 |n+1,m=>by
  unfold L2.upTo
  rw[show((m:Int)+1)=((m+1:Nat):Int) by omega,Yc n (m+1),List.range'_succ]
  rfl
theorem qR(n:Nat):L2.upTo 0 n=(List.range n).map λi:Nat=>Tr.int i:=by
 rw[List.range_eq_range']
 exact Yc n 0
def red(a b:Int):Int × Int:=(a / ((Int.gcd a b:Nat):Int),b / ((Int.gcd a b:Nat):Int))
def Fq(M:Nat)(x:Int × Int):Prop:=0<=x.1/\x.1<2 ^ M/\1<=x.2/\x.2<2 ^ M/\Int.gcd x.1 x.2=1
theorem lZ(M:Nat):((2 ^ M:Nat):Int)=2 ^ M:=by push_cast; rfl
theorem Qp(c:0<=a)(d:a<2 ^ M)(h:1<=b)(e:b<2 ^ M):Fq M (red a b):=by
 obtain⟨g1,g2,g3,f,g,i,j⟩:=zf (a:=a) (b:=b) (by omega)
 have k:=Int.ediv_le_self (a:=a) ((Int.gcd a b:Nat):Int) c
 have l:=Int.ediv_le_self (a:=b) ((Int.gcd a b:Nat):Int) (by omega)
 exact⟨g c,by unfold red; dsimp only; omega,g3,by unfold red; dsimp only; omega,f⟩
theorem Ci(f:1<=b):a*(red a b).2=(red a b).1*b/\1<=(red a b).2/\Int.gcd (red a b).1 (red a b).2=1:=by
 obtain⟨g1,g2,g3,c,h,d,e⟩:=zf (a:=a) (b:=b) (by omega)
 refine⟨?_,g3,c⟩
 show a*(b / ((Int.gcd a b:Nat):Int))=(a / ((Int.gcd a b:Nat):Int))*b
 generalize ((Int.gcd a b:Nat):Int)=g at *
 generalize b / g=q,a / g=p at *
 rw[d,e]
 ac_rfl
def le2(x y:Int × Int):Prop:=x.1*y.2<=y.1*x.2
theorem qT:dU x y=false↔le2 y x:=by
 unfold dU le2
 rw[decide_eq_false_iff_not,Int.not_lt]
theorem tO(x:Int × Int):le2 x x:=Int.le_refl _
theorem Ih(f:1<=x.2)(g:1<=y.2)(h:1<=z.2)(a:le2 x y)(b:le2 y z):le2 x z:=by
 unfold le2 at *
 have a1:=Int.mul_le_mul_of_nonneg_right a (show 0<=z.2 by omega)
 have a2:=Int.mul_le_mul_of_nonneg_right b (show 0<=x.2 by omega)
 have c:x.1*y.2*z.2=(x.1*z.2)*y.2:=by ac_rfl
 have d:y.1*x.2*z.2=y.1*z.2*x.2:=by ac_rfl
 have e:z.1*y.2*x.2=(z.1*x.2)*y.2:=by ac_rfl
 rw[c,d]at a1
 rw[e]at a2
 exact Int.le_of_mul_le_mul_right (Int.le_trans a1 a2) (by omega)
theorem agM(a:1<=x.2)(b:1<=y.2)(c:Int.gcd x.1 x.2=1)(d:Int.gcd y.1 y.2=1)(e:le2 x y)(f:le2 y x):x=y:=by
 unfold le2 at *
 have:=abL a b c d (Int.le_antisymm e f)
 exact Prod.ext this.1 this.2
theorem Qq(e:1<=b)(hd:1<=d)(h:a*d<=c*b):le2 (red a b) (red c d):=by
 obtain⟨f,m,_⟩:=Ci (a:=a) e
 obtain⟨g,n,_⟩:=Ci (a:=c) hd
 generalize red c d=y,red a b=x at *
 unfold le2
 have a1:=Int.mul_le_mul_of_nonneg_right h (Int.mul_nonneg (show 0<=x.2 by omega) (show 0<=y.2 by omega))
 have i:a*d*(x.2*y.2)=(a*x.2)*(d*y.2):=by ac_rfl
 have j:c*b*(x.2*y.2)=(c*y.2)*(b*x.2):=by ac_rfl
 rw[i,j,f,g]at a1
 have k:x.1*b*(d*y.2)=(x.1*y.2)*(b*d):=by ac_rfl
 have l:y.1*d*(b*x.2)=(y.1*x.2)*(b*d):=by ac_rfl
 rw[k,l]at a1
 exact Int.le_of_mul_le_mul_right a1 (Int.mul_pos (by omega) (by omega))
def sumF(x y:Int × Int):Int × Int:=red (x.1*y.2+y.1*x.2) (x.2*y.2)
def gA(x y:Int × Int):Int × Int:=red (x.1*y.1) (x.2*y.2)
theorem tQ{a b:Int}{M N:Nat}(d:0<=a)(c:a<2 ^ M)(g:0<=b)(e:b<2 ^ N):a*b<2 ^ (M+N):=by
 have f:(0:Int)<2 ^ N:=Int.pow_pos (by omega)
 have q1:a*b<=a*2 ^ N:=Int.mul_le_mul_of_nonneg_left (by omega) d
 have q2:a*2 ^ N<2 ^ M*2 ^ N:=Int.mul_lt_mul_of_pos_right c f
 rw[Int.pow_add]
 omega
theorem tU{x y:Int × Int}{M N:Nat}(c:Fq M x)(d:Fq N y):Fq (M+N) (gA x y) :=
 Qp (Int.mul_nonneg c.1 d.1) (tQ c.1 c.2.1 d.1 d.2.1) (by have:=Int.mul_pos (a:=x.2) (b:=y.2) (by have:=c.2.2.1; omega) (by have:=d.2.2.1; omega); omega) (tQ (by have:=c.2.2.1; omega) c.2.2.2.1 (by have:=d.2.2.1; omega) d.2.2.2.1)
theorem Qs{x y:Int × Int}{M N:Nat}(h:Fq M x)(i:Fq N y):Fq (M+N+1) (sumF x y):=by
 obtain⟨c,j,m,d,_⟩:=h
 obtain⟨f,k,n,g,_⟩:=i
 have m1:=tQ c j (by omega) g
 have l:=tQ f k (by omega) d
 have o:=tQ (by omega) d (by omega) g
 rw[Nat.add_comm N M]at l
 have p:=Int.mul_pos (a:=x.2) (b:=y.2) (by omega) (by omega)
 have n1:=Int.mul_nonneg c (show 0<=y.2 by omega)
 have q:=Int.mul_nonneg f (show 0<=x.2 by omega)
 have e:(2:Int) ^ (M+N+1)=2 ^ (M+N)*2:=Int.pow_succ ..
 exact Qp (by omega) (by rw[e]; omega) (by omega) (by rw[e]; omega)
theorem agN(hw:0<=w.1)(c:1<=w.2)(f:1<=x.2)(g:1<=y.2)(h:le2 x y):le2 (gA w x) (gA w y):=by
 have i:=Int.mul_pos (a:=w.2) (b:=x.2) (by omega) (by omega)
 have j:=Int.mul_pos (a:=w.2) (b:=y.2) (by omega) (by omega)
 refine Qq (by omega) (by omega) ?_
 unfold le2 at h
 have a1:=Int.mul_le_mul_of_nonneg_left h (Int.mul_nonneg hw (show 0<=w.2 by omega))
 have d:w.1*x.1*(w.2*y.2)=w.1*w.2*(x.1*y.2):=by ac_rfl
 have e:w.1*y.1*(w.2*x.2)=w.1*w.2*(y.1*x.2):=by ac_rfl
 rw[d,e]
 exact a1
theorem Yd(hw:0<=w.1)(d:1<=w.2)(e:0<=v.1)(f:1<=v.2)(c:0<=x.1)(g:0<=y.1)(k:1<=x.2)(m:1<=y.2)(h:le2 w v)(h':le2 x y):le2 (gA w x) (gA v y):=by
 have l:=Int.mul_pos (a:=w.2) (b:=x.2) (by omega) (by omega)
 have n:=Int.mul_pos (a:=v.2) (b:=y.2) (by omega) (by omega)
 refine Qq (by omega) (by omega) ?_
 unfold le2 at h h'
 have i:w.1*x.1*(v.2*y.2)=(w.1*v.2)*(x.1*y.2):=by ac_rfl
 have j:v.1*y.1*(w.2*x.2)=(v.1*w.2)*(y.1*x.2):=by ac_rfl
 rw[i,j]
 exact Int.mul_le_mul h h' (Int.mul_nonneg c (by omega)) (Int.mul_nonneg e (by omega))
theorem Ye(c:1<=w.2)(d:1<=v.2)(g:1<=x.2)(i:1<=y.2)(h:le2 w v)(h':le2 x y):le2 (sumF w x) (sumF v y):=by
 have j:=Int.mul_pos (a:=w.2) (b:=x.2) (by omega) (by omega)
 have k:=Int.mul_pos (a:=v.2) (b:=y.2) (by omega) (by omega)
 refine Qq (by omega) (by omega) ?_
 unfold le2 at h h'
 have a1:=Int.mul_le_mul_of_nonneg_right h (Int.mul_nonneg (show 0<=x.2 by omega) (show 0<=y.2 by omega))
 have a2:=Int.mul_le_mul_of_nonneg_right h' (Int.mul_nonneg (show 0<=w.2 by omega) (show 0<=v.2 by omega))
 have e:(w.1*x.2+x.1*w.2)*(v.2*y.2)=w.1*v.2*(x.2*y.2)+x.1*y.2*(w.2*v.2):=by rw[Int.add_mul]; ac_rfl
 have f:(v.1*y.2+y.1*v.2)*(w.2*x.2)=v.1*w.2*(x.2*y.2)+y.1*x.2*(w.2*v.2):=by rw[Int.add_mul]; ac_rfl
 rw[e,f]
 omega
theorem Yg(m:1<=b)(c:b<2 ^ M)(d:M<=8900):vY [.int a,.int b]=.ok (fT (red a b),false):=by
 obtain⟨g1,g2,_⟩:=zf (a:=a) (b:=b) (by omega)
 have e:a.fdiv (Int.gcd a b:Nat)=a / (Int.gcd a b:Nat):=Int.fdiv_eq_ediv_of_nonneg _ (by omega)
 have f:b.fdiv (Int.gcd a b:Nat)=b / (Int.gcd a b:Nat):=Int.fdiv_eq_ediv_of_nonneg _ (by omega)
 have h:=Qf a b
 have np:=lZ M
 unfold vY Wu bf fT red
 generalize l:((Int.gcd a b:Nat):Int)=g at *
 have i:¬b<0:=by omega
 have j:(b == 0)=false:=by simp; omega
 have k:∀n,jE n g=true:=λn=>mW (M:=M) (by omega) (by omega) d
 simp -dsimp[cu,dr,drs,cls,fD,bT,cL,gW,bN,mV,tL,bQ,h,i,j,k,e,f]
theorem Yh{x y:Int × Int}{M N:Nat}(c:Fq M x)(d:Fq N y)(f:M+N<=8900):tG [fT x,fT y]=.ok (fT (gA x y),false):=by
 have q:=tU c d
 obtain⟨k,l,m,g,_⟩:=c
 obtain⟨n,o,r,h,_⟩:=d
 have s:=lZ M
 have t:=lZ N
 have i:gM x.1 y.1=true:=lD (M:=M) (N:=N) (by omega) (by omega) (by omega) (by omega)
 have j:gM x.2 y.2=true:=lD (M:=M) (N:=N) (by omega) (by omega) (by omega) (by omega)
 have p:=Int.mul_pos (a:=x.2) (b:=y.2) (by omega) (by omega)
 have e:=Yg (a:=x.1*y.1) (b:=x.2*y.2) (M:=M+N) (by omega) (tQ (by omega) g (by omega) h) f
 unfold tG Mx bf
 show _=Rs.ok (fT (red (x.1*y.1) (x.2*y.2)),false)
 generalize fT (red (x.1*y.1) (x.2*y.2))=R at e ⊢
 unfold fT
 simp -dsimp[dr,drs,cV,aB,bN,gC,iD,bQ,i,j,e]
theorem agO{x y:Int × Int}{M N:Nat}(c:Fq M x)(d:Fq N y)(f:M+N<=8900):xR [fT x,fT y]=.ok (fT (sumF x y),false):=by
 obtain⟨l,m,n,g,_⟩:=c
 obtain⟨o,q,r,h,_⟩:=d
 have s:=lZ M
 have t:=lZ N
 have i:gM x.1 y.2=true:=lD (M:=M) (N:=N) (by omega) (by omega) (by omega) (by omega)
 have j:gM y.1 x.2=true:=lD (M:=N) (N:=M) (by omega) (by omega) (by omega) (by omega)
 have k:gM x.2 y.2=true:=lD (M:=M) (N:=N) (by omega) (by omega) (by omega) (by omega)
 have p:=Int.mul_pos (a:=x.2) (b:=y.2) (by omega) (by omega)
 have e:=Yg (a:=x.1*y.2+y.1*x.2) (b:=x.2*y.2) (M:=M+N) (by omega) (tQ (by omega) g (by omega) h) f
 unfold xR Mw bf
 show _=Rs.ok (fT (red (x.1*y.2+y.1*x.2) (x.2*y.2)),false)
 generalize fT (red (x.1*y.2+y.1*x.2) (x.2*y.2))=R at e ⊢
 unfold fT
 simp -dsimp[dr,drs,cC,cV,aB,bN,gC,iD,bQ,i,j,k,e]
def jH(ps:List ((Int × Int) × (Int × Int)))(t:Int × Int):Int × Int:=ps.foldl (λt p=>sumF t (gA p.1 p.2)) t
def jT(xs:List (Int × Int))(t:Int × Int):Int × Int:=xs.foldl gA t
theorem Yi:∀(a:List ((Int × Int) × (Int × Int))) (t:Int × Int) (M:Nat),Fq M t->(∀p∈a,Fq 45 p.1/\Fq 45 p.2)->Fq (M+91*a.length) (jH a t)
 | [],t,M,h,_=>h
 |p::a,t,M,h,b=>by
  have c:=tU (b p (by simp)).1 (b p (by simp)).2
  have d:=Qs h c
  have:=Yi a _ _ d λq e=>b q (by simp[e])
  rw[show M+91*(p::a).length=M+(45+45)+1+91*a.length by rw[List.length_cons]; omega]
  exact this
theorem Yj:∀(a:List (Int × Int)) (t:Int × Int) (M:Nat),Fq M t->(∀p∈a,Fq 45 p)->Fq (M+45*a.length) (jT a t)
 | [],t,M,h,_=>h
 |p::a,t,M,h,b=>by
  have c:=tU h (b p (by simp))
  have:=Yj a _ _ c λq d=>b q (by simp[d])
  rw[show M+45*(p::a).length=M+45+45*a.length by rw[List.length_cons]; omega]
  exact this
theorem Wo.fq(h:Wo x):Fq 45 x:=by
 obtain⟨a,d,b,e,c⟩:=h
 exact⟨a,by omega,b,by omega,c⟩
def Yk(B:SF):Prop:=∀(t w x:Int × Int) (M:Nat) (s0 s1:Sl) (τ : En),Fq M t->Fq 45 w->Fq 45 x->M+90<=8900->B (s0::s1 :: .sh (fT t) :: .sh (fT w) :: .sh (fT x)::τ)=.ok (.nx,s0::s1 :: .sh (fT (sumF t (gA w x))) :: .sh (fT w) :: .sh (fT x)::τ)
theorem Yl(d:Yk B)(s0 s1:Sl)(τ : En):∀(a:List ((Int × Int) × (Int × Int))) (t:Int × Int) (M:Nat) (s3 s4:Sl),Fq M t->(∀p∈a,Fq 45 p.1/\Fq 45 p.2)->M+91*a.length<=8900 ->
  ∃t3 c,cG (gT 2 (bZ (gN 3) (bZ (gN 4) fO))) B (a.map λp=>Tr.tup [fT p.1,fT p.2]) (s0::s1 :: .sh (fT t)::s3::s4::τ)=.ok (.nx,s0::s1 :: .sh (fT (jH a t))::t3::c::τ)
 | [],t,M,s3,s4,_,_,_=>⟨s3,s4,rfl⟩
 |p::a,t,M,s3,s4,h,b,f=>by
  rw[List.length_cons]at f
  have g:=tU (b p (by simp)).1 (b p (by simp)).2
  have i:=Qs h g
  have e:=d t p.1 p.2 M s0 s1 τ h (b p (by simp)).1 (b p (by simp)).2 (by omega)
  obtain⟨t3,c,j⟩:=Yl d s0 s1 τ a _ _ (.sh (fT p.1)) (.sh (fT p.2)) i (λq k=>b q (by simp[k])) (by omega)
  refine⟨t3,c,?_⟩
  rw[List.map_cons]
  unfold cG
  rw[show(gT 2 (bZ (gN 3) (bZ (gN 4) fO))) (Tr.tup [fT p.1,fT p.2]) (s0::s1 :: .sh (fT t)::s3::s4::τ)=.ok (s0::s1 :: .sh (fT t) :: .sh (fT p.1) :: .sh (fT p.2)::τ)from rfl]
  simp only[Rs.jk]
  rw[e]
  exact j
theorem agP(ws xs:List (Int × Int)):o7 (ws.map fT) (xs.map fT)=(ws.zip xs).map λp=>Tr.tup [fT p.1,fT p.2]:=by
 unfold o7
 rw[List.zip_map,List.map_map]
 rfl
def Cj:SF:=(bw (aR xR (ak (aj 2) (ak (aR tG (ak (aj 3) (ak (aj 4) au))) au))) (gN 2))
theorem agQ:Yk Cj:=λt w x M s0 s1 e d hw b f=>by
 have c:=Yh hw b (by omega)
 have a:=agO d (tU hw b) (by omega)
 generalize fT (sumF t (gA w x))=R at a ⊢
 generalize fT (gA w x)=P at c a
 generalize fT x=Y,fT w=W,fT t=T at *
 unfold Cj
 simp -dsimp[drs,dr,bN,c,a]
theorem Qt:Fq 1 (0,1):=by unfold Fq; decide
theorem Qu:Fq 1 (1,1):=by unfold Fq; decide
theorem Ym{ws xs:List (Int × Int)}(hw:∀w∈ws,Fq 45 w)(b:∀x∈xs,Fq 45 x):∀p∈ws.zip xs,Fq 45 p.1/\Fq 45 p.2:=λp a=>⟨hw _ (List.of_mem_zip a).1,b _ (List.of_mem_zip a).2⟩
theorem agR{ws xs:List (Int × Int)}(hw:∀w∈ws,Fq 45 w)(b:∀x∈xs,Fq 45 x)(f:xs.length<=12):Gs [aH ws,aH xs]=.ok (fT (jH (ws.zip xs) (0,1)),false):=by
 have g:(ws.zip xs).length<=12:=by rw[List.length_zip]; omega
 obtain⟨t3,c,e⟩:=Yl agQ (.sh (aH ws)) (.sh (aH xs)) [] (ws.zip xs) (0,1) 1 .un .un Qt (Ym hw b) (by omega)
 rw[<-agP]at e
 have a:bL (cg (o8 (ak (aj 0) (ak (aj 1) au))) (gT 2 (bZ (gN 3) (bZ (gN 4) fO))) Cj) [.sh (aH ws),.sh (aH xs),.sh (fT (0,1)),.un,.un]=.ok (.nx,[.sh (aH ws),.sh (aH xs),.sh (fT (jH (ws.zip xs) (0,1))),t3,c]):=by
  show dF (cG _ Cj (o7 (ws.map fT) (xs.map fT)) _)=_
  rw[e]
  rfl
 show bf 5 (aC (bw (eC (.tup [.int 0,.int 1])) (gN 2)) (aC (bL (cg (o8 (ak (aj 0) (ak (aj 1) au))) (gT 2 (bZ (gN 3) (bZ (gN 4) fO))) Cj)) (bB (aj 2)))) [aH ws,aH xs]=_
 have d:Tr.tup [.int 0,.int 1]=fT (0,1):=rfl
 rw[d]
 generalize bL _=G at a ⊢
 generalize aH xs=Y,aH ws=W,fT (0,1)=Z,fT (jH (ws.zip xs) (0,1))=R at *
 unfold bf
 simp -dsimp[bQ,a]
def yq:SF:=(bw (aR tG (ak (aj 1) (ak (aj 2) au))) (gN 1))
theorem Yn(s0:Sl):∀(xs:List (Int × Int)) (t:Int × Int) (M:Nat) (s2:Sl),Fq M t->(∀p∈xs,Fq 45 p)->M+45*xs.length<=8900 ->
  ∃a,cG (gN 2) yq (xs.map fT) [s0,.sh (fT t),s2]=.ok (.nx,[s0,.sh (fT (jT xs t)),a])
 | [],t,M,s2,_,_,_=>⟨s2,rfl⟩
 |x::xs,t,M,s2,h,b,c=>by
  rw[List.length_cons]at c
  have e:=Yh h (b x (by simp)) (by omega)
  obtain⟨a,d⟩:=Yn s0 xs _ _ (.sh (fT x)) (tU h (b x (by simp))) (λq f=>b q (by simp[f])) (by omega)
  refine⟨a,?_⟩
  have g:yq [s0,.sh (fT t),.sh (fT x)]=.ok (.nx,[s0,.sh (fT (gA t x)),.sh (fT x)]):=by
   generalize fT (gA t x)=R at e ⊢
   generalize fT x=Y,fT t=T at *
   unfold yq
   simp -dsimp[drs,dr,bN,e]
  rw[List.map_cons]
  unfold cG
  rw[show gN 2 (fT x) [s0,.sh (fT t),s2]=.ok [s0,.sh (fT t),.sh (fT x)]from rfl]
  simp only[Rs.jk]
  rw[g]
  exact d
theorem agS(b:∀x∈xs,Fq 45 x)(f:xs.length<=12):Gu [aH xs]=.ok (fT (jT xs (1,1)),false):=by
 obtain⟨c,e⟩:=Yn (.sh (aH xs)) xs (1,1) 1 .un Qu b (by omega)
 have a:bL (cg (cM (aj 0)) (gN 2) yq) [.sh (aH xs),.sh (fT (1,1)),.un]=.ok (.nx,[.sh (aH xs),.sh (fT (jT xs (1,1))),c]):=by
  show dF (cG _ yq (xs.map fT) _)=_
  rw[e]
  rfl
 show bf 3 (aC (bw (eC (.tup [.int 1,.int 1])) (gN 1)) (aC (bL (cg (cM (aj 0)) (gN 2) yq)) (bB (aj 1)))) [aH xs]=_
 have d:Tr.tup [.int 1,.int 1]=fT (1,1):=rfl
 rw[d]
 generalize bL _=G at a ⊢
 generalize aH xs=Y,fT (1,1)=Z,fT (jT xs (1,1))=R at *
 unfold bf
 simp -dsimp[bQ,a]
def ju(xs zs:List (Int × Int)):Prop:=zs.Perm xs/\zs.Pairwise λa b=>le2 b a
def LT(xs:List (Int × Int)):Prop:=∀x∈xs,1<=x.2/\Int.gcd x.1 x.2=1
theorem Yo:∀{l m:List (Int × Int)},LT l->l.Perm m->l.Pairwise (λa b=>le2 b a)->m.Pairwise (λa b=>le2 b a)->l=m
 | [],m,_,p,_,_=>by rw[List.nil_perm.mp p]
 |a::l,[],_,p,_,_=>by simpa using p.length_eq
 |a::l,b::m,f,p,i,j=>by
  have c:=List.pairwise_cons.mp i
  have d:=List.pairwise_cons.mp j
  have e:a=b:=by
   rcases List.mem_cons.mp (p.mem_iff.mp (List.mem_cons_self ..))with z|z
   .exact z
   .rcases List.mem_cons.mp (p.mem_iff.mpr (List.mem_cons_self (a:=b)))with y|y
    .exact y.symm
    .have a1:=c.1 b y
     have a2:=d.1 a z
     have g:=f a (by simp)
     have h:=f b (by simp[y])
     exact agM g.1 h.1 g.2 h.2 a2 a1
  subst e
  rw[Yo (λx k=>f x (by simp[k])) p.cons_inv c.2 d.2]
theorem ju.uniq(h:LT xs)(a:ju xs l)(b:ju xs m):l=m:=Yo (λx c=>h x (a.1.mem_iff.mp c)) (a.1.trans b.1.symm) a.2 b.2
theorem agT(xs:List (Int × Int)):(List.range xs.length).map (λi=>xs.getD i (0,1))=xs:=by
 apply List.ext_getElem
 .simp
 .intro i b a
  simp[List.getD_eq_getElem?_getD,a]
theorem Fall.dsc(h:Fall xs ys):ju xs (ys.map λi=>xs.getD i (0,1)):=by
 refine⟨?_,?_⟩
 .have:=h.1.map λi=>xs.getD i (0,1)
  rw[agT]at this
  exact this
 .rw[List.pairwise_map]
  refine h.2.imp λ{i j} a=>?_
  unfold Ce at a
  unfold le2
  omega
def ov(t x:Int × Int):Bool:=dU t x
theorem Yp:∀(xs:List (Int × Int)) (i:Nat) (v:Int × Int),(∀x,xs[i]?=some x->p x=true->p v=true)->xs.countP p<=(xs.set i v).countP p
 | [],i,v,_=>by simp
 |x::xs,0,v,h=>by
  have:=h x (by simp)
  simp only[List.set_cons_zero,List.countP_cons]
  cases e:p x with
  |false=>simp
  |true=>rw[this e]; simp
 |x::xs,i+1,v,h=>by
  have:=Yp xs i v λy a=>h y (by simpa using a)
  simp only[List.set_cons_succ,List.countP_cons]
  omega
theorem ju.mono{xs zs c:List (Int × Int)}{i:Nat}{v:Int × Int}(u:LT xs)(C:1<=v.2)(hi:∀x,xs[i]?=some x->le2 x v)(a:ju xs zs)(b:ju (xs.set i v) c){k:Nat}{z d:Int × Int}(D:zs[k]?=some z)(g:c[k]?=some d):le2 z d:=by
 refine Classical.byContradiction λE=>?_
 have t:∀x∈xs.set i v,1<=x.2:=λx m=>by
  rcases List.mem_or_eq_of_mem_set m with m|rfl
  .exact(u x m).1
  .exact C
 have G:1<=z.2:=(u z (a.1.mem_iff.mp (List.mem_of_getElem? D))).1
 have n:1<=d.2:=t d (b.1.mem_iff.mp (List.mem_of_getElem? g))
 have H:dU d z=true:=by
  cases e:dU d z with
  |true=>rfl
  |false=>exact absurd (qT.mp e) E
 obtain⟨I,F⟩:=List.getElem?_eq_some_iff.mp D
 obtain⟨w,o⟩:=List.getElem?_eq_some_iff.mp g
 have J:=List.pairwise_iff_getElem.mp a.2
 have y:=List.pairwise_iff_getElem.mp b.2
 have up:∀x:Int × Int,1<=x.2->le2 z x->dU d x=true:=λx A h=>by
  cases e:dU d x with
  |true=>rfl
  |false=>exact absurd (Ih G A n h (qT.mp e)) E
 have K:k+1<=zs.countP (dU d):=by
  rw[<-List.take_append_drop (k+1) zs,List.countP_append]
  have:(zs.take (k+1)).countP (dU d)=(zs.take (k+1)).length:=by
   rw[List.countP_eq_length]
   intro x m
   obtain⟨j,B,rfl⟩:=List.getElem_of_mem m
   rw[List.getElem_take]
   have L:j<k+1:=by rw[List.length_take]at B; omega
   have s:j<zs.length:=by omega
   refine up _ (u _ (a.1.mem_iff.mp (List.getElem_mem s))).1 ?_
   by_cases q:j=k
   .subst q; rw[F]; exact tO _
   .have:=J j k s I (by omega)
    rw[F]at this
    exact this
  rw[this,List.length_take]
  omega
 have M:c.countP (dU d)<=k:=by
  rw[<-List.take_append_drop k c,List.countP_append]
  have:(c.drop k).countP (dU d)=0:=by
   rw[List.countP_eq_zero]
   intro x m f
   obtain⟨j,B,rfl⟩:=List.getElem_of_mem m
   rw[List.getElem_drop]at f
   have s:k+j<c.length:=by rw[List.length_drop]at B; omega
   have:le2 c[k+j] d:=by
    by_cases q:j=0
    .subst q
     have:c[k+0]=d:=o
     rw[this]; exact tO _
    .have:=y k (k+j) w s (by omega)
     rw[o]at this
     exact this
   rw[qT.mpr this]at f
   cases f
  rw[this]
  have:=List.countP_le_length (p:=dU d) (l:=c.take k)
  rw[List.length_take]at this
  omega
 rw[a.1.countP_eq]at K
 rw[b.1.countP_eq]at M
 have:=Yp (p:=dU d) xs i v λx r f=>by
  cases e:dU d v with
  |true=>rfl
  |false =>
   have A:=(u x (List.mem_of_getElem? r)).1
   have:=Ih A C n (hi x r) (qT.mp e)
   rw[qT.mpr this]at f
   cases f
 omega
theorem Qv:∀(ws xs:List (Int × Int)) (i:Nat) (v t t':Int × Int),(∀w∈ws,Fq 45 w)->(∀x∈xs,1<=x.2)->1<=v.2->(∀x,xs[i]?=some x->le2 x v)->1<=t.2->1<=t'.2->le2 t t'->le2 (jH (ws.zip xs) t) (jH (ws.zip (xs.set i v)) t')
 | [],xs,i,v,t,t',_,_,_,_,_,_,h=>by simpa[jH]using h
 |w::ws,[],i,v,t,t',_,_,_,_,_,_,h=>by simpa[jH]using h
 |w::ws,x::xs,i,v,t,t',hw,k,g,hi,j,d,h=>by
  have l:=hw w (by simp)
  have f:=k x (by simp)
  have e:∀y:Int × Int,1<=y.2->1<=(gA w y).2:=λy py=>(Ci (a:=w.1*y.1) (by have:=Int.mul_pos (a:=w.2) (b:=y.2) (by have:=l.2.2.1; omega) (by omega); omega)).2.1
  have sp:∀s y:Int × Int,1<=s.2->1<=y.2->1<=(sumF s y).2:=λs y n py=>(Ci (a:=s.1*y.2+y.1*s.2) (by have:=Int.mul_pos (a:=s.2) (b:=y.2) (by omega) (by omega); omega)).2.1
  cases i with
  |zero =>
   have m:=hi x (by simp)
   show le2 (jH (ws.zip xs) (sumF t (gA w x))) (jH (ws.zip xs) (sumF t' (gA w v)))
   have:=Qv ws xs xs.length v (sumF t (gA w x)) (sumF t' (gA w v)) (λy c=>hw y (by simp[c])) (λy c=>k y (by simp[c])) g (λy c=>by simp at c) (sp _ _ j (e x f)) (sp _ _ d (e v g)) (Ye j d (e x f) (e v g) h (agN l.1 l.2.2.1 f g m))
   rw[List.set_eq_of_length_le (by omega)]at this
   exact this
  |succ i =>
   show le2 (jH (ws.zip xs) (sumF t (gA w x))) (jH (ws.zip (xs.set i v)) (sumF t' (gA w x)))
   exact Qv ws xs i v _ _ (λy c=>hw y (by simp[c])) (λy c=>k y (by simp[c])) g (λy c=>hi y (by simpa using c)) (sp _ _ j (e x f)) (sp _ _ d (e x f)) (Ye j d (e x f) (e x f) h (tO _))
theorem Qw:∀(xs:List (Int × Int)) (i:Nat) (v t t':Int × Int),(∀x∈xs,1<=x.2/\0<=x.1)->1<=v.2->0<=v.1->(∀x,xs[i]?=some x->le2 x v)->1<=t.2->0<=t.1->1<=t'.2->0<=t'.1->le2 t t'->le2 (jT xs t) (jT (xs.set i v) t')
 | [],i,v,t,t',_,_,_,_,_,_,_,_,h=>by simpa[jT]using h
 |x::xs,i,v,t,t',p,k,c,hi,l,d,e,n,h=>by
  obtain⟨g,j⟩:=p x (by simp)
  have o:∀s y:Int × Int,1<=s.2->0<=s.1->1<=y.2->0<=y.1->1<=(gA s y).2/\0<=(gA s y).1:=λs y w q py r=>by
   have m:=Int.mul_pos (a:=s.2) (b:=y.2) (by omega) (by omega)
   refine⟨(Ci (a:=s.1*y.1) (by omega)).2.1,?_⟩
   exact Int.ediv_nonneg (Int.mul_nonneg q r) (by omega)
  cases i with
  |zero =>
   have u:=hi x (by simp)
   show le2 (jT xs (gA t x)) (jT xs (gA t' v))
   have a:=o t x l d g j
   have b:=o t' v e n k c
   have:=Qw xs xs.length v (gA t x) (gA t' v) (λy f=>p y (by simp[f])) k c (λy f=>by simp at f) a.1 a.2 b.1 b.2 (Yd d l n e j c g k h u)
   rw[List.set_eq_of_length_le (by omega)]at this
   exact this
  |succ i =>
   have a:=o t x l d g j
   have b:=o t' x e n g j
   show le2 (jT xs (gA t x)) (jT (xs.set i v) (gA t' x))
   exact Qw xs i v _ _ (λy f=>p y (by simp[f])) k c (λy f=>hi y (by simpa using f)) a.1 a.2 b.1 b.2 (Yd d l n e j j g g h (tO _))
inductive Ru where
 |sh (ws:List (Int × Int))|mid (k:Nat)|least|greatest|product
def bO:Ru->Tr
 |.sh ws=>.tup [.str "shares",aH ws]
 |.mid k=>.tup [.str "middle",.int k]
 |.least=>.tup [.str "least"]
 |.greatest=>.tup [.str "greatest"]
 |.product=>.tup [.str "product"]
def gP(n:Nat):Ru->Prop
 |.sh ws=>ws.length=n/\∀w∈ws,Fq 45 w
 |.mid k=>1<=k/\k<=n
 |_=>True
theorem sEq(a:Str):bT (.str a) (.str a)=.ok (.bl true,false):=X5 (T:=.str a) (by rw[wB]; omega)
theorem sNe(h:(a == b)=false):bT (.str a) (.str b)=.ok (.bl false,false):=by
 unfold bT
 rw[if_pos ⟨by rw[wB]; omega,by rw[wB]; omega⟩,Ca,h]
theorem agU{α : Type}{r : α -> Tr}{xs:List α}{rest:List (Option Nat)}(d:xs.length<=100000)(hi:i ρ=.ok (xs.map r,ρ))(a : fQ rest ρ = τ)(f:∀b,fZ (none::rest) (b::τ) ρ = true)(hd:∀b,cN (none::rest) (b::τ) ρ = ρ)
  (hf:∀x∈xs,∃fr,fe (.sh (r x)::τ)=.ok (.v (.bl true) fr,.sh (r x)::τ)):aZ (g1 gG) (ak (dG (none::rest) i (gN 0) cO fe) au) ρ=.ok (.v (.bl true) false,ρ):=by
 have e:=qQ (h:=λx=>.bl ((λ_ : α=>true) x)) d hi a f hd hf
 have c:gG (.lst (xs.map λx=>.bl ((λ_ : α=>true) x)))=.ok (.bl true,false):=by
  unfold gG
  simp only[Qn]
  rw[show(xs.map λ_=>true).all id=true by simp]
 generalize dG _ _ _ _ _=G at e ⊢
 generalize Tr.lst (xs.map λx=>.bl ((λ_ : α=>true) x))=T at e c
 simp[e,c,drs,dr,g1]
theorem Fq.o9(h:Fq M x):o9 (fT x)=true:=by
 show(decide (1<=x.2)&&(Int.gcd x.1 x.2 == 1))=true
 simp[h.2.2.1,h.2.2.2.2]
def Qx:EF:=(oW (aR uT (ak (aj 0) au)) (aq j5 (aq aB (aj 0) (eC (.int 0))) (eC (.int 0))))
theorem agV{M:Nat}{ws:List (Int × Int)}(hw:∀w∈ws,Fq M w)(k:ws.length<=12):Gq [aH ws,.int ws.length]=.ok (.bl true,false):=by
 have b:=agU (r:=fT) (xs:=ws) (ρ:=[.sh (aH ws),.sh (.int ws.length)]) (rest:=[]) (i:=cM (aj 0)) (fe:=Qx) (by omega) rfl rfl (λd=>rfl) (λd=>rfl) (λw a=>⟨false,by
  have h:=hw w a
  have e:=wF (fT w)
  rw[h.o9]at e
  have h0:=h.1
  unfold Qx
  dsimp only[fQ,List.map]
  have f:aB (fT w) (.int 0)=.ok (.int w.1,false):=rfl
  generalize fT w=T at *
  simp -dsimp[drs,dr,bN,e,cu,f,j5,gB,h0]⟩)
 have g:bx (aH ws)=.ok (.int (ws.length:Int),false):=by
  show Rs.ok (Tr.int ((ws.map fT).length:Int),false)=_
  rw[List.length_map]
 have c:iH .list (aj 0) [.sh (aH ws),.sh (.int ws.length)]=.ok (.v (.bl true) false,[.sh (aH ws),.sh (.int ws.length)]):=by
  simp[aH,iz,dr,eB]
 have j:=Ig (T:=.int (ws.length:Int)) (by rw[mV]; omega)
 show bf 2 (aC (cA (gY (eX (dJ (iH .list (aj 0)))) (bY (aq gq (aZ (g1 bx) (ak (aj 0) au)) (aj 1)))) (bB (eC (.bl false))) cD) (bB (aZ (g1 gG) (ak (dG [none] (cM (aj 0)) (gN 0) cO Qx) au)))) [aH ws,.int ws.length]=_
 generalize aZ (g1 gG) _=G at b ⊢
 generalize iH _ _=G2 at c ⊢
 generalize (ws.length:Int)=N,aH ws=T at *
 unfold bf
 simp -dsimp[bQ,b,c,dr,drs,g1,g,j,cu,gF]
theorem agW(h:T=.tup [.str "least"]∨T=.tup [.str "greatest"]∨T=.tup [.str "product"]):jP id T (.tup [(.tup [(.str "least")]),(.tup [(.str "greatest")]),(.tup [(.str "product")])])=.ok (.bl true,false):=by
 rcases h with rfl|rfl|rfl <;> kernel_rfl
theorem agX(h:gP n r)(i:n<=12):v8 [bO r,.int n]=.ok (.bl true,false):=by
 have bare:∀T:Tr,(T=.tup [.str "least"]∨T=.tup [.str "greatest"]∨T=.tup [.str "product"])→v8 [T,.int n]=.ok (.bl true,false):=λT c=>by
  have e:=agW c
  have j:iz T .tuple=true:=by rcases c with rfl|rfl|rfl <;> rfl
  have a:bx T=.ok (.int 1,false):=by rcases c with rfl|rfl|rfl <;> rfl
  have b:gq (.int 1) (.int 2)=.ok (.bl true,false):=rfl
  unfold v8 xU bf
  simp -dsimp[bQ,eB,j,a,b,e,dr,drs,g1,cu,gF]
 cases r with
 |least=>exact bare _ (.inl rfl)
 |greatest=>exact bare _ (.inr (.inl rfl))
 |product=>exact bare _ (.inr (.inr rfl))
 |sh ws =>
  obtain⟨f,g⟩:=h
  subst f
  have e:=agV g i
  have a:∀N:Tr,bx (.tup [.str "shares",N])=.ok (.int 2,false):=λ_=>rfl
  have b:gq (.int 2) (.int 2)=.ok (.bl false,false):=rfl
  have d:=sEq "shares"
  show bf 4 xU [.tup [.str "shares",aH ws],.int ws.length]=_
  unfold xU bf
  generalize aH ws=T at *
  simp -dsimp[bQ,eB,iz,a,b,d,e,bN,dr,drs,g1,cu,gF]
 |mid k =>
  obtain⟨f,g⟩:=h
  have a:∀N:Tr,bx (.tup [.str "middle",N])=.ok (.int 2,false):=λ_=>rfl
  have b:gq (.int 2) (.int 2)=.ok (.bl false,false):=rfl
  have d:bT (.str "middle") (.str "shares")=.ok (.bl false,false):=sNe (by decide +kernel)
  have l:=sEq "middle"
  have m:=HY (.int k)
  have q1:(1:Int)<=k:=by omega
  have q2:(k:Int)<=n:=by omega
  unfold v8 xU bf bO
  simp -dsimp[bQ,eB,iz,a,b,d,l,m,isW,bN,dr,drs,g1,cu,gF,fG,gB,q1,q2]
def jf(n:Nat):Ru->Nat
 |.mid k=>k
 |.least=>n
 |.greatest=>1
 |_=>0
def Wv(r:Ru)(xs:List (Int × Int))(v:Int × Int):Prop:=match r with
 |.sh ws=>v=jH (ws.zip xs) (0,1)
 |.product=>v=jT xs (1,1)
 |r=>∃zs,ju xs zs/\zs[jf xs.length r-1]?=some v
def placed:Ru->Bool
 |.mid _=>true
 |.least=>true
 |.greatest=>true
 |_=>false
theorem Qy(r:Ru):∃w:Str,aB (bO r) (.int 0)=.ok (.str w,false)∧bT (.str w) (.str "shares")=.ok (.bl (match r with|.sh _=>true|_=>false),false)∧bT (.str w) (.str "product")=.ok (.bl (match r with|.product=>true|_=>false),false) ∧
  bT (.str w) (.str "greatest")=.ok (.bl (match r with|.greatest=>true|_=>false),false)∧bT (.str w) (.str "least")=.ok (.bl (match r with|.least=>true|_=>false),false)∧bT (.str w) (.str "middle")=.ok (.bl (match r with|.mid _=>true|_=>false),false):=by
 cases r with
 |sh ws=>exact⟨"shares",rfl,sEq _,sNe (by decide +kernel),sNe (by decide +kernel),sNe (by decide +kernel),sNe (by decide +kernel)⟩
 |mid k=>exact⟨"middle",rfl,sNe (by decide +kernel),sNe (by decide +kernel),sNe (by decide +kernel),sNe (by decide +kernel),sEq _⟩
 |least=>exact⟨"least",rfl,sNe (by decide +kernel),sNe (by decide +kernel),sNe (by decide +kernel),sEq _,sNe (by decide +kernel)⟩
 |greatest=>exact⟨"greatest",rfl,sNe (by decide +kernel),sNe (by decide +kernel),sEq _,sNe (by decide +kernel),sNe (by decide +kernel)⟩
 |product=>exact⟨"product",rfl,sNe (by decide +kernel),sEq _,sNe (by decide +kernel),sNe (by decide +kernel),sNe (by decide +kernel)⟩
theorem agY{n:Nat}(h:placed r=true):v9 [bO r,.int n]=.ok (.int (jf n r:Nat),false):=by
 obtain⟨w,a,_,_,b,c,_⟩:=Qy r
 cases r with
 |sh ws=>cases h
 |product=>cases h
 |least =>
  unfold v9 Bg bf jf
  generalize bO .least=T at *
  simp -dsimp[bQ,dr,a,b,c,cu]
 |greatest =>
  unfold v9 Bg bf jf
  generalize bO .greatest=T at *
  simp -dsimp[bQ,dr,a,b,c,cu]
 |mid k =>
  have d:aB (bO (.mid k)) (.int 1)=.ok (.int k,false):=rfl
  unfold v9 Bg bf jf
  generalize bO (.mid k)=T at *
  simp -dsimp[bQ,dr,a,b,c,d,cu]
theorem Yq(h:placed r=true)(b:gP n r)(a:1<=n):1<=jf n r/\jf n r<=n:=by
 cases r with
 |sh ws=>cases h
 |product=>cases h
 |least=>exact⟨a,Nat.le_refl _⟩
 |greatest=>exact⟨Nat.le_refl _,a⟩
 |mid k=>exact b
theorem Fq.frs(h:∀x∈l,Fq 45 x):Frs 45 l:=λx a=>by
 obtain⟨d,e,b,c,_⟩:=h x a
 have:=lZ 45
 exact⟨b,c,by omega⟩
theorem agZ{xs:List (Int × Int)}(e:∀x∈xs,Fq 45 x)(p:1<=xs.length)(m:xs.length<=12)(o:gP xs.length r):∃v,g8 [bO r,aH xs]=.ok (fT v,false)/\Wv r xs v:=by
 obtain⟨w,f,a,c,_⟩:=Qy r
 have g:placed r=true->∃v,g8 [bO r,aH xs]=.ok (fT v,false)/\∃zs,ju xs zs/\zs[jf xs.length r-1]?=some v:=λd=>by
  obtain⟨b,q,hf⟩:=Qi (N:=45) xs (Fq.frs e) (by omega) (by omega) (by omega)
  have pr:=Yq d o p
  have s:=agY (n:=xs.length) d
  have z:b.length=xs.length:=by have:=hf.1.length_eq; simpa using this
  obtain⟨i,hi⟩:∃i,b[jf xs.length r-1]?=some i:=⟨_,List.getElem?_eq_getElem (by omega)⟩
  have t:i<xs.length:=by simpa using hf.1.mem_iff.mp (List.mem_of_getElem? hi)
  refine⟨xs.getD i (0,1),?_,_,hf.dsc,by rw[List.getElem?_map,hi]; rfl⟩
  have l:aB (.lst (b.map λi:Nat=>Tr.int i)) (.int ((jf xs.length r-1:Nat):Int))=.ok (.int (i:Int),false):=Ib (by rw[List.getElem?_map,hi]; rfl)
  have g2:=Cg t
  have u:bx (aH xs)=.ok (.int (xs.length:Int),false):=by
   show Rs.ok (Tr.int ((xs.map fT).length:Int),false)=_
   rw[List.length_map]
  have sub:((jf xs.length r:Nat):Int)-1=((jf xs.length r-1:Nat):Int):=by omega
  have h:mR [aH xs]=.ok (.lst (b.map λi:Nat=>Tr.int i),true):=q
  have a:bT (.str w) (.str "shares")=.ok (.bl false,false):=by cases r <;> first|exact a|cases d
  have c:bT (.str w) (.str "product")=.ok (.bl false,false):=by cases r <;> first|exact c|cases d
  unfold g8 Bh bf
  generalize aH xs=X,bO r=T,Tr.lst (b.map λi:Nat=>Tr.int i)=Y,fT (xs.getD i (0,1))=R at *
  rw[<-sub]at l
  simp -dsimp[bQ,dr,drs,bN,f,a,c,cu,h,u,s,g1,jo,gI,l,g2]
 cases r with
 |sh ws =>
  have j:=agR o.2 e m
  refine⟨_,?_,rfl⟩
  have y:aB (bO (.sh ws)) (.int 1)=.ok (aH ws,false):=rfl
  unfold g8 Bh bf
  generalize aH xs=X,aH ws=W,fT (jH (ws.zip xs) (0,1))=R,bO (.sh ws)=T at *
  simp -dsimp[bQ,dr,drs,bN,f,a,cu,y,j]
 |product =>
  have j:=agS e m
  refine⟨_,?_,rfl⟩
  unfold g8 Bh bf
  generalize aH xs=X,fT (jT xs (1,1))=R,bO .product=T at *
  simp -dsimp[bQ,dr,drs,bN,f,a,c,cu,j]
 |least=>exact g rfl
 |greatest=>exact g rfl
 |mid k=>exact g rfl
theorem ag0(a:∀x∈xs,Wo x)(b:1<=xs.length)(c:xs.length<=12)(d:gP xs.length r):∃v,g8 [bO r,aH xs]=.ok (fT v,false)/\Wv r xs v:=agZ (λx m=>(a x m).fq) b c d
theorem Ij(a:∀x∈xs,Wo x):LT xs:=λx m=>⟨(a x m).2.2.1,(a x m).2.2.2.2⟩
theorem Wv.uniq(g:∀x∈xs,Wo x)(a:Wv r xs v)(b:Wv r xs v'):v=v':=by
 cases r with
 |sh ws=>exact a.trans b.symm
 |product=>exact a.trans b.symm
 |least =>
  obtain⟨z,d,e⟩:=a
  obtain⟨h,c,f⟩:=b
  rw[d.uniq (Ij g) c,f]at e
  exact(Option.some.inj e).symm
 |greatest =>
  obtain⟨z,d,e⟩:=a
  obtain⟨h,c,f⟩:=b
  rw[d.uniq (Ij g) c,f]at e
  exact(Option.some.inj e).symm
 |mid k =>
  obtain⟨z,d,e⟩:=a
  obtain⟨h,c,f⟩:=b
  rw[d.uniq (Ij g) c,f]at e
  exact(Option.some.inj e).symm
theorem Fq.up(h:Fq M x)(c:M<=N):Fq N x:=by
 obtain⟨d,g,e,i,f⟩:=h
 have:(2:Int) ^ M<=2 ^ N:=by
  have:=Nat.pow_le_pow_right (n:=2) (by omega) c
  have a:=lZ M
  have b:=lZ N
  omega
 exact⟨d,by omega,e,by omega,f⟩
theorem Wv.fqF(b:∀x∈xs,Fq 45 x)(g:xs.length<=4)(f:gP xs.length r)(a:Wv r xs v):Fq 400 v:=by
 have c:(∃zs,ju xs zs/\zs[jf xs.length r-1]?=some v)->Fq 400 v:=λ⟨z,d,e⟩=>(b v (d.1.mem_iff.mp (List.mem_of_getElem? e))).up (by omega)
 cases r with
 |sh ws =>
  have a:v=jH (ws.zip xs) (0,1):=a
  rw[a]
  exact(Yi _ _ 1 Qt (Ym f.2 b)).up (by rw[List.length_zip]; omega)
 |product =>
  have a:v=jT xs (1,1):=a
  rw[a]
  exact(Yj _ _ 1 Qu b).up (by omega)
 |least=>exact c a
 |greatest=>exact c a
 |mid k=>exact c a
theorem Wv.fq(b:∀x∈xs,Wo x)(c:xs.length<=4)(d:gP xs.length r)(a:Wv r xs v):Fq 400 v:=Wv.fqF (λx m=>(b x m).fq) c d a
theorem Wv.mono(c:∀x∈xs,Wo x)(f:Wo u)(hi:∀x,xs[i]?=some x->le2 x u)(j:gP xs.length r)(a:Wv r xs v)(b:Wv r (xs.set i u) v'):le2 v v':=by
 have g:(∃zs,ju xs zs/\zs[jf xs.length r-1]?=some v)->(∃zs,ju (xs.set i u) zs/\zs[jf (xs.set i u).length r-1]?=some v')->le2 v v':=λ⟨z,d,e⟩ ⟨n,l,h⟩=>by
  rw[List.length_set]at h
  exact d.mono (Ij c) f.2.2.1 hi l e h
 cases r with
 |sh ws =>
  have a:v=jH (ws.zip xs) (0,1):=a
  have b:v'=jH (ws.zip (xs.set i u)) (0,1):=b
  rw[a,b]
  exact Qv ws xs i u _ _ j.2 (λx m=>(c x m).2.2.1) f.2.2.1 hi (by decide) (by decide) (tO _)
 |product =>
  have a:v=jT xs (1,1):=a
  have b:v'=jT (xs.set i u) (1,1):=b
  rw[a,b]
  exact Qw xs i u _ _ (λx m=>⟨(c x m).2.2.1,(c x m).1⟩) f.2.2.1 f.1 hi (by decide) (by decide) (by decide) (by decide) (tO _)
 |least=>exact g a b
 |greatest=>exact g a b
 |mid k=>exact g a b
end BH
end
section
namespace L2
open PySem
section
variable {α β : Type}
theorem bk{r:Rs α}{f : α -> Rs β}{a : α}{s:Rs β}(h:r=.ok a)(k:f a=s):r.bind f=s:=by subst h; exact k
end
section
variable {ρ ρ1 ρ2 ρ3:En}{f g:SF}{fa fb:EF}{aa:AF}{T U:Tr}{b b':Bool}{r:Rs (Fl × En)}{i:Nat}{ps:List Rv}{as ts:List Tr}{z:Tr × Bool}{F:FP}{c d:BF}{x y:Rv}
theorem dw(h:f ρ=.ok (.nx,ρ1))(k:g ρ1=r):aC f g ρ = r:=bk h k
theorem pB(h:fa ρ=.ok (.v T b,ρ1)):bw fa (gN i) ρ=.ok (.nx,ρ1.set i (.sh T)):=bk h rfl
theorem ag1{g:GF}(h:fa ρ=.ok (.v T b,ρ1))(k:g T ρ1=.ok ρ2):bw fa g ρ=.ok (.nx,ρ2):=bk h (bk k rfl)
theorem ow_(h:fa ρ=.ok (.v (.lst ts) true,ρ1)):fX i fa ρ=.ok (.nx,ρ1.set i (.ow ts)):=bk h rfl
theorem yt(h:fa ρ=.ok (x,ρ1)):eY fa ρ=.ok (.nx,ρ1):=bk h rfl
theorem oJ(h:fa ρ=.ok (.v T b,ρ1)):bB fa ρ=.ok (.rt T b,ρ1):=bk h rfl
theorem Ik(h:c ρ=.ok (true,ρ1))(k:f ρ1=r):cA c f g ρ = r:=bk h ((if_pos rfl).trans k)
theorem lE(h:c ρ=.ok (false,ρ1))(k:g ρ1=r):cA c f g ρ = r:=bk h ((if_neg Bool.false_ne_true).trans k)
theorem pC(h:fi ρ=.ok (us,ρ1))(k:cG gf f us ρ1=r):cg fi gf f ρ = r:=bk h k
theorem qU(h:f ρ=.ok q):bL f ρ=.ok q:=by unfold bL; rw[h]; rfl
theorem mX(h:f (bQ n as)=.ok (.rt T b,ρ1)):bf n f as=.ok (T,b):=bk h rfl
theorem ag2(h:f (bQ n as)=.ok (.nx,ρ1)):bf n f as=.ok (.non,false):=bk h rfl
theorem cZ(h:fa ρ=.ok (x,ρ1))(k:aa ρ1=.ok (ps,ρ2)):ak fa aa ρ=.ok (x::ps,ρ2):=bk h (bk k rfl)
theorem fB(h:aa ρ=.ok (ps,ρ1))(k:drs ρ1 ps=.ok as)(n:ps.any bN=false)(e:F as=.ok z):aR F aa ρ=.ok (.v z.1 z.2,ρ1):=bk h (bk k (bk e (if_neg λq=>by rw[n]at q; exact Bool.false_ne_true q.1)))
theorem jU(h:aa ρ=.ok (ps,ρ1))(k:drs ρ1 ps=.ok as)(e:G as=.ok z):aZ G aa ρ=.ok (.v z.1 z.2,ρ1):=bk h (bk k (bk e rfl))
theorem cQ(h:fa ρ=.ok (x,ρ1))(k:fb ρ1=.ok (y,ρ2))(u:dr ρ2 x=.ok T)(v:dr ρ2 y=.ok U)(e:G T U=.ok z):aq G fa fb ρ=.ok (.v z.1 z.2,ρ2):=bk h (bk k (bk u (bk v (bk e rfl))))
theorem qd(h:fa ρ=.ok (x,ρ1))(k:dr ρ1 x=.ok T)(e:gF T=.ok b):dJ fa ρ=.ok (b,ρ1):=bk h (bk k (bk e rfl))
theorem is_(h:fa ρ=.ok (x,ρ1))(k:dr ρ1 x=.ok T):iH ty fa ρ=.ok (eB (iz T ty),ρ1):=bk h (bk k rfl)
theorem Il(h:f ρ=.ok (.rt T b,ρ1)):aC f g ρ=.ok (.rt T b,ρ1):=bk h rfl
theorem Ck(h:aa ρ=.ok (ps,ρ1))(k:cls ps=.ok ts)(l:ts.length<=1000):dO aa ρ=.ok (.v (.lst ts) true,ρ1):=bk h (bk k (if_pos l))
theorem tu_(h:aa ρ=.ok (ps,ρ1))(k:cls ps=.ok ts)(l:ts.length<=1000):jd aa ρ=.ok (.v (.tup ts) false,ρ1):=bk h (bk k (if_pos l))
theorem Im(h:fa ρ=.ok (x,ρ1))(k:dr ρ1 x=.ok (.bl b)):bY fa ρ=.ok (b,ρ1):=bk h (bk k rfl)
theorem uX(h:c ρ=.ok (b,ρ1)):eX c ρ=.ok (!b,ρ1):=bk h rfl
theorem wH(h:c ρ=.ok (false,ρ1))(k:d ρ1=q):gY c d ρ = q:=bk h ((if_neg Bool.false_ne_true).trans k)
theorem ap_(h:fa ρ=.ok (.v T b,ρ1))(n:con ρ i=.ok as)(k:con ρ1 i=.ok ts)(l:ts.length<=100000):fY i dX (ak fa au) ρ=.ok (.v .non false,dD i (ts++[T]) ρ1):=bk n (bk (cZ h rfl) (bk rfl (bk k (bk (by unfold dX; exact if_pos l) rfl))))
end
end L2
end
section
namespace BH
open PySem L2
def iT(i:Nat):Tr:=.int (i:Nat)
def pT(p:Nat × Nat):Tr:=.tup [iT p.1,iT p.2]
def Lx(p q:Nat × Nat):Prop:=p.1<q.1\/(p.1=q.1/\p.2<q.2)
def bM(ds:List Nat)(as:List (Nat × Nat)):Tr:=.tup [.lst (ds.map iT),.lst (as.map pT)]
def Lk(n m:Nat)(ds:List Nat)(as:List (Nat × Nat)):Prop:=ds.length=n/\(∀d∈ds,d<=m)/\as.Pairwise Lx/\as.length<=48/\∀p∈as,p.1<n/\p.2<m
theorem wI(rows:List (List (Int × Int))):bx (aP rows)=.ok (.int (rows.length:Nat),false):=by
 show Rs.ok (Tr.int ((rows.map aH).length:Int),false)=_
 rw[List.length_map]
theorem yu(h:rows[k]?=some l):aB (aP rows) (.int (k:Nat))=.ok (aH l,false):=jG (by rw[List.getElem?_map,h]; rfl)
theorem yw(l:List (Int × Int)):bx (aH l)=.ok (.int (l.length:Nat),false):=by
 show Rs.ok (Tr.int ((l.map fT).length:Int),false)=_
 rw[List.length_map]
theorem uY{n:Nat}(h:n<=1000):okR (n:Int)=true:=by
 unfold okR
 simp
 omega
theorem all_true{α : Type}(xs:List α):gG (.lst (xs.map λ_=>Tr.bl true))=.ok (.bl true,false):=by
 have e:=Qn (p:=λ_=>true) xs
 unfold gG
 simp -dsimp[e]
theorem count_eq(h:d<=m):xV [iT d,.int (m:Nat)]=.ok (.bl true,false):=by
 have e:=HY (iT d)
 have a:(0:Int)<=d:=by omega
 have b:(d:Int)<=m:=by omega
 unfold xV M4 bf iT at *
 simp -dsimp[eB,cu,dr,drs,gB,gW,fG,bN,bQ,isW,e,a,b]
theorem ag3{n m:Nat}{ds:List Nat}(a:ds.length=n)(hd:∀d∈ds,d<=m)(f:n<=1000):Gx [.lst (ds.map iT),.int (n:Nat),.int (m:Nat)]=.ok (.bl true,false):=by
 have em:=qQ (r:=iT) (h:=λ_=>Tr.bl true) (xs:=ds) (ρ:=[.sh (.lst (ds.map iT)),.sh (.int (n:Nat)),.sh (.int (m:Nat))]) (rest:=[some 2]) (i:=cM (aj 0)) (fe:=aR xV (ak (aj 0) (ak (aj 1) au))) (by omega) rfl rfl (λb=>rfl) (λb=>rfl) (λd c=>⟨false,fB rfl rfl rfl (count_eq (hd d c))⟩)
 have e:bx (.lst (ds.map iT))=.ok (.int (n:Nat),false):=by
  show Rs.ok (Tr.int ((ds.map iT).length:Int),false)=_
  rw[List.length_map,a]
 exact mX (dw (lE (wH (uX (qd (T:=.bl true) (is_ (T:=.lst (ds.map iT)) rfl rfl) rfl rfl)) (Im (cQ (z:=(.bl false,false)) (jU (z:=(.int (n:Nat),false)) (as:=[.lst (ds.map iT)]) rfl rfl e) rfl rfl rfl (Ig (T:=.int (n:Nat)) (by rw[mV]; omega))) rfl)) rfl) (oJ (jU (z:=(.bl true,false)) (cZ em rfl) rfl (all_true ds))))
theorem ag4(h:Lx p q):gW (pT p) (pT q)=.ok (.bl true,false):=by
 show Rs.ok (Tr.bl (HT.lexLt [((p.1:Nat):Int),((p.2:Nat):Int)] [((q.1:Nat):Int),((q.2:Nat):Int)]),false)=_
 have:HT.lexLt [((p.1:Nat):Int),((p.2:Nat):Int)] [((q.1:Nat):Int),((q.2:Nat):Int)]=true:=by
  unfold Lx at h
  unfold HT.lexLt
  rcases h with h|⟨h,a⟩
  .have:(p.1:Int)<q.1:=by omega
   have n:¬(p.1:Int)=q.1:=by omega
   simp[this,n]
  .rw[h]
   have:(p.2:Int)<q.2:=by omega
   have n:¬(p.2:Int)=q.2:=by omega
   simp[HT.lexLt,this,n]
 rw[this]
def Qz:GF:=(gT 2 (bZ (gN 0) (bZ (gN 1) fO)))
theorem Ys:∀(zs:List ((Nat × Nat) × (Nat × Nat))) (s0 s1:Sl),(∀z∈zs,Lx z.1 z.2)->∃t0 t1,jm Qz cO (aq gW (aj 0) (aj 1)) (zs.map λz=>Tr.tup [pT z.1,pT z.2]) [s0,s1]=.ok (zs.map λ_=>Tr.bl true,[t0,t1])
 | [],s0,s1,_=>⟨s0,s1,rfl⟩
 |z::zs,s0,s1,h=>by
  obtain⟨t0,t1,e⟩:=Ys zs (.sh (pT z.1)) (.sh (pT z.2)) λy b=>h y (List.mem_cons_of_mem _ b)
  exact⟨t0,t1,bk (a:=[.sh (pT z.1),.sh (pT z.2)]) rfl (bk rfl ((if_pos rfl).trans (bk (cQ (z:=(.bl true,false)) rfl rfl rfl rfl (ag4 (h z (List.mem_cons_self ..)))) (bk rfl (bk e rfl)))))⟩
theorem ag5(c:p.1<n)(d:p.2<m):xW [pT p,.int (n:Nat),.int (m:Nat)]=.ok (.bl true,false):=by
 have a:=Qj p.1 n
 have b:=Qj p.2 m
 have a1:(decide ((0:Int)<=p.1)&&decide ((p.1:Int)<n))=true:=by simp; omega
 have a2:(decide ((0:Int)<=p.2)&&decide ((p.2:Int)<m))=true:=by simp; omega
 rw[a1]at a
 rw[a2]at b
 unfold xW M5 bf pT iT
 simp -dsimp[dF,fC,pZ,dD,con,oh,eB,cu,gF,dr,drs,cls,mQ,uR,g1,g2,gI,fD,gB,bT,gq,jP,cC,cV,cL,cj,lN,jo,gW,jq,fG,j5,aB,bx,lQ,kW,Ew,Ey,Ez,gG,nQ,okR,pU,bN,others,fQ,cN,fZ,oY,oX,mV,HS,wB,HW,wC,qO,tK,oG,tL,HX,Ca,iz,gC,iD,bQ,a,b]
theorem Yt:∀{as:List (Nat × Nat)},as.Pairwise Lx->∀z∈as.zip (as.drop 1),Lx z.1 z.2
 | [],_,z,c=>by cases c
 | [a],_,z,c=>by cases c
 |a::b::as,h,z,c=>by
  rw[List.drop_one,List.tail_cons,List.zip_cons_cons]at c
  rcases List.mem_cons.mp c with rfl|c
  .exact(List.pairwise_cons.mp h).1 b (List.mem_cons_self ..)
  .exact Yt (as:=b::as) (List.pairwise_cons.mp h).2 z (by rw[List.drop_one,List.tail_cons]; exact c)
theorem ag6{as:List (Nat × Nat)}(h:as.Pairwise Lx)(f:as.length<=48):Gw [.lst (as.map pT)]=.ok (.bl true,false):=by
 obtain⟨t0,t1,e⟩:=Ys (as.zip (as.drop 1)) .un .un (Yt h)
 have a:o7 (as.map pT) ((as.map pT).drop 1)=(as.zip (as.drop 1)).map λz=>Tr.tup [pT z.1,pT z.2]:=by
  unfold o7
  rw[<-List.map_drop,List.zip_map,List.map_map]
  rfl
 have b:qw (some 1) none (.lst (as.map pT))=.ok (.lst ((as.map pT).drop 1),true):=congrArg (λL=>Rs.ok (Tr.lst L,true)) (agI (as.map pT) 1)
 have c:o8 (ak (aj 0) (ak (pX (aj 0) (pW (eC (.int 1))) pR) au)) [.sh (.lst (as.map pT))]=.ok ((as.zip (as.drop 1)).map λz=>Tr.tup [pT z.1,pT z.2],[.sh (.lst (as.map pT))]):=a▸bk (cZ rfl (cZ (bk rfl (bk rfl (bk rfl (bk rfl (bk b rfl))))) rfl)) rfl
 have d:dG [none,none] (o8 (ak (aj 0) (ak (pX (aj 0) (pW (eC (.int 1))) pR) au))) Qz cO (aq gW (aj 0) (aj 1)) [.sh (.lst (as.map pT))]=.ok (.v (.lst ((as.zip (as.drop 1)).map λ_=>Tr.bl true)) true,[.sh (.lst (as.map pT))]):=bk c ((if_pos (by rw[List.length_map,List.length_zip]; omega)).trans (bk (show dF (jm Qz cO _ _ [.un,.un])=_ by rw[e]; rfl) ((if_pos rfl).trans rfl)))
 exact mX (oJ (jU (z:=(.bl true,false)) (cZ d rfl) rfl (all_true (as.zip (as.drop 1)))))
theorem ag7{n m:Nat}{as:List (Nat × Nat)}(h:as.Pairwise Lx)(b:as.length<=48)(a:∀p∈as,p.1<n/\p.2<m):Gy [.lst (as.map pT),.int (n:Nat),.int (m:Nat)]=.ok (.bl true,false):=by
 have em:=qQ (r:=pT) (h:=λ_=>Tr.bl true) (xs:=as) (ρ:=[.sh (.lst (as.map pT)),.sh (.int (n:Nat)),.sh (.int (m:Nat))]) (rest:=[some 1,some 2]) (i:=cM (aj 0)) (fe:=aR xW (ak (aj 0) (ak (aj 1) (ak (aj 2) au)))) (by omega) rfl rfl (λc=>rfl) (λc=>rfl) (λp mp=>⟨false,fB rfl rfl rfl (ag5 (a p mp).1 (a p mp).2)⟩)
 exact mX (dw (lE (wH (uX (qd (T:=.bl true) (is_ (T:=.lst (as.map pT)) rfl rfl) rfl rfl)) (uX (qd (T:=.bl true) (jU (z:=(.bl true,false)) (cZ em rfl) rfl (all_true as)) rfl rfl))) rfl) (oJ (fB rfl rfl rfl (ag6 h b))))
theorem ag8{m:Nat}{rows:List (List (Int × Int))}{ds:List Nat}{as:List (Nat × Nat)}(c:Bk m rows)(d:Lk rows.length m ds as):Bl [aP rows,bM ds as]=.ok (.non,false):=by
 obtain⟨e,r,s,t,f⟩:=c
 obtain⟨l1,l2,l3,g,h⟩:=d
 have i:=ag3 l1 l2 (by omega)
 have j:=ag7 l3 g h
 have k:=wI rows
 obtain⟨l,a⟩:∃l,rows[0]?=some l:=⟨rows[0],List.getElem?_eq_getElem e⟩
 have n:aB (aP rows) (.int 0)=.ok (aH l,false):=yu a
 have o:l.length=m:=(f l (List.mem_of_getElem? a)).1
 have b:=yw l
 rw[o]at b
 have p:aB (bM ds as) (.int 0)=.ok (.lst (ds.map iT),false):=rfl
 have q:aB (bM ds as) (.int 1)=.ok (.lst (as.map pT),false):=rfl
 have lt:bx (bM ds as)=.ok (.int 2,false):=rfl
 have ty:iz (bM ds as) .tuple=true:=rfl
 unfold Bl W8 bf
 generalize Tr.lst (as.map pT)=AS,Tr.lst (ds.map iT)=D,aH l=RT,aP rows=BT,bM ds as=LT at *
 simp -dsimp[bQ,eB,dr,drs,bN,cls,ty,gF,g1,k,n,b,p,q,lt,i,j,gq,bT,eqT,dep,cu]
theorem QB(a b:Nat):eqT (iT a) (iT b)=decide (a=b):=by
 unfold iT eqT
 by_cases h:a=b
 .subst h; simp
 .have:¬(a:Int)=b:=by omega
  simp[h,this]
theorem ag9(p q:Nat × Nat):eqT (pT p) (pT q)=decide (p=q):=by
 unfold pT
 rw[show eqT (.tup [iT p.1,iT p.2]) (.tup [iT q.1,iT q.2])=(eqT (iT p.1) (iT q.1)&&(eqT (iT p.2) (iT q.2)&&true)) by simp only[eqT,pP],QB,QB]
 obtain⟨a,b⟩:=p
 obtain⟨c,d⟩:=q
 by_cases h:a=c <;> by_cases e:b=d <;> simp[h,e]
theorem QC:∀zs:List Nat,deps (zs.map iT)=0
 | []=>rfl
 |z::zs=>by
  rw[List.map_cons]
  unfold deps
  rw[QC zs]
  rfl
theorem Yu(p:Nat × Nat):dep (pT p)=1:=rfl
theorem QD:∀zs:List (Nat × Nat),deps (zs.map pT)<=1
 | []=>Nat.zero_le _
 |z::zs=>by
  rw[List.map_cons]
  unfold deps
  rw[Yu]
  have:=QD zs
  omega
theorem Yv{α : Type} [DecidableEq α](t : α):∀zs:List α,(zs.any λz=>decide (z=t))=decide (t∈zs)
 | []=>rfl
 |z::zs=>by
  rw[List.any_cons,Yv t zs]
  by_cases h:z=t
  .subst h; simp
  .have:t≠z:=λe=>h e.symm
   simp[h,this]
theorem aha(f:Bool->Bool)(t:Nat)(zs:List Nat):jP f (iT t) (.lst (zs.map iT))=.ok (.bl (f (decide (t∈zs))),false):=by
 show(if deps (zs.map iT)<=40/\dep (iT t)<=40 then Rs.ok (Tr.bl (f (uw (iT t) (zs.map iT))),false)else .bad)=_
 rw[if_pos ⟨by rw[QC]; omega,by show 0<=40; omega⟩]
 unfold uw
 rw[List.any_map,<-Yv]
 simp only[Function.comp_def,QB]
theorem ahb(f:Bool->Bool)(t:Nat × Nat)(zs:List (Nat × Nat)):jP f (pT t) (.lst (zs.map pT))=.ok (.bl (f (decide (t∈zs))),false):=by
 show(if deps (zs.map pT)<=40/\dep (pT t)<=40 then Rs.ok (Tr.bl (f (uw (pT t) (zs.map pT))),false)else .bad)=_
 rw[if_pos ⟨by have:=QD zs; omega,by rw[Yu]; omega⟩]
 have e:uw (pT t) (zs.map pT)=decide (t∈zs):=by
  unfold uw
  rw[List.any_map,Bool.eq_iff_iff,List.any_eq_true,decide_eq_true_eq]
  refine⟨λ⟨z,a,e⟩=>?_,λh=>⟨t,h,yR _⟩⟩
  have e:eqT (pT z) (pT t)=true:=e
  rw[ag9,decide_eq_true_eq]at e
  exact e▸a
 rw[e]
def fV(b:Bool)(x:Int × Int):Tr:=if b=true then fT x else .non
def gr(l:List (Int × Int))(s:Nat->Bool):List Tr:=(List.range l.length).map λt=>fV (s t) (l.getD t (0,1))
def gs(rows:List (List (Int × Int)))(s:Nat->Nat->Bool):List Tr:=(List.range rows.length).map λk=>.lst (gr (rows.getD k []) (s k))
theorem ahc:(gr l s).set t (fT (l.getD t (0,1)))=gr l λt'=>s t' || decide (t'=t):=by
 refine List.ext_getElem? λi=>?_
 unfold gr
 rw[List.getElem?_set,List.getElem?_map,List.getElem?_map]
 by_cases h:t=i
 .subst h
  by_cases z:t<l.length <;> simp[z,fV]
 .have a:¬i=t:=λe=>h e.symm
  by_cases z:i<l.length <;> simp[h,a,z]
theorem ahd:(gs rows s).set k (.lst ((gr (rows.getD k []) (s k)).set t (fT ((rows.getD k []).getD t (0,1)))))=gs rows λa t'=>s a t' || (decide (a=k)&&decide (t'=t)):=by
 rw[ahc]
 refine List.ext_getElem? λi=>?_
 unfold gs
 rw[List.getElem?_set,List.getElem?_map,List.getElem?_map]
 by_cases h:k=i
 .subst h
  by_cases z:k<rows.length <;> simp[z]
 .have b:¬i=k:=λe=>h e.symm
  by_cases z:i<rows.length <;> simp[h,b,z]
theorem Yw(h:ts[k]?=some u):oA ts (iT k)=.ok (k,u):=by
 have lt:=(List.getElem?_eq_some_iff.mp h).1
 have e:iD ts.length (k:Int)=some k:=by
  unfold iD
  rw[if_pos (by omega),if_pos (by omega)]
  rfl
 unfold oA iT
 simp only[e,h]
def yx:SF:=(Al 4 (sS 5) (sS 7) (aq aB (aq aB (aj 0) (aj 5)) (aj 7)))
section
variable {m:Nat}{rows:List (List (Int × Int))}{ds:List Nat}{as:List (Nat × Nat)}
theorem Yx(a:k<rows.length)(b:t<(rows.getD k []).length)(s1 s2 s3 c:Sl):yx [.sh (aP rows),s1,s2,s3,.dp (gs rows s),.sh (iT k),c,.sh (iT t)]=.ok (.nx,[.sh (aP rows),s1,s2,s3,.dp (gs rows λd t'=>s d t' || (decide (d=k)&&decide (t'=t))),.sh (iT k),c,.sh (iT t)]):=by
 have f:aB (aP rows) (iT k)=.ok (aH (rows.getD k []),false):=yu (by simp[a])
 have g:aB (aH (rows.getD k [])) (iT t)=.ok (fT ((rows.getD k []).getD t (0,1)),false):=Cg b
 have h:oA (gs rows s) (iT k)=.ok (k,.lst (gr (rows.getD k []) (s k))):=Yw (by unfold gs; simp[a])
 have i:oA (gr (rows.getD k []) (s k)) (iT t)=.ok (t,fV (s k t) ((rows.getD k []).getD t (0,1))):=Yw (by
  unfold gr
  generalize rows.getD k []=l at *
  simp[b])
 have e:=ahd (rows:=rows) (s:=s) (k:=k) (t:=t)
 unfold yx
 generalize iT t=Y,iT k=X,fV _ _=F',fT _=F,aH (rows.getD k [])=R,gs rows _=G1,gs rows s=G0,gr (rows.getD k []) (s k)=G,aP rows=BT at *
 simp -dsimp[dr,drs,bN,oh,dF,mQ,f,g,h,i,e]
theorem Yy(f:k<rows.length)(s1 s2 s3 b:Sl):∀(zs:List Nat) (s:Nat->Nat->Bool) (c:Sl),(∀t∈zs,t<(rows.getD k []).length)->∃d,cG (gN 7) yx (zs.map iT) [.sh (aP rows),s1,s2,s3,.dp (gs rows s),.sh (iT k),b,c]=.ok (.nx,[.sh (aP rows),s1,s2,s3,.dp (gs rows λa t'=>s a t' || (decide (a=k)&&decide (t'∈zs))),.sh (iT k),b,d])
 | [],s,c,h=>⟨c,by
  have e:(λa t'=>s a t' || (decide (a=k)&&decide (t'∈([]:List Nat))))=s:=by
   funext a t'
   simp
  rw[e]
  rfl⟩
 |z::zs,s,c,h=>by
  obtain⟨d,e⟩:=Yy f s1 s2 s3 b zs (λa t'=>s a t' || (decide (a=k)&&decide (t'=z))) (.sh (iT z)) λt mt=>h t (List.mem_cons_of_mem _ mt)
  refine⟨d,?_⟩
  have g:(λa t'=>(s a t' || (decide (a=k)&&decide (t'=z))) || (decide (a=k)&&decide (t'∈zs)))=λa t'=>s a t' || (decide (a=k)&&decide (t'∈z::zs)):=by
   funext a t'
   by_cases i:a=k <;> by_cases j:t'=z <;> simp[i,j]
  rw[g]at e
  rw[List.map_cons]
  exact jR (Yx f (h z (List.mem_cons_self ..)) s1 s2 s3 b) e
end
structure Od(od:List (Int × Int)->List Nat)(m:Nat)(rows:List (List (Int × Int))):Prop where
 n1:1<=rows.length
 n4:rows.length<=4
 m1:1<=m
 Yz:m<=12
 len:∀l∈rows,l.length=m
 fall:∀l∈rows,mR [aH l]=.ok (.lst ((od l).map iT),true)
 lt:∀l∈rows,∀t∈od l,t<m
 ln:∀l∈rows,(od l).length=m
section
variable {od:List (Int × Int)->List Nat}
def sn(od:List (Int × Int)->List Nat)(l:List (Int × Int))(d:Nat)(as:List (Nat × Nat))(k t:Nat):Bool:=decide (t∈(od l).take d) || decide ((k,t)∈as)
def uZ(od:List (Int × Int)->List Nat)(l:List (Int × Int))(d:Nat)(as:List (Nat × Nat))(k:Nat):List Tr:=(List.range l.length).map λt=>fV (sn od l d as k t) (l.getD t (0,1))
def wJ(od:List (Int × Int)->List Nat)(rows:List (List (Int × Int)))(ds:List Nat)(as:List (Nat × Nat)):List Tr:=(List.range rows.length).map λk=>.lst (uZ od (rows.getD k []) (ds.getD k 0) as k)
theorem YB(a:Od od m rows):uU [aP rows]=.ok (.lst (rows.map λl=>.lst ((od l).map iT)),true) :=
 mX (oJ (qQ (r:=aH) (h:=λl=>Tr.lst ((od l).map iT)) (xs:=rows) (ρ:=[.sh (aP rows)]) (rest:=[]) (i:=cM (aj 0)) (fe:=aR mR (ak (aj 0) au)) (by have:=a.n4; omega) rfl rfl (λb=>rfl) (λb=>rfl) (λl c=>⟨true,fB rfl rfl rfl (a.fall l c)⟩)))
end
theorem QG(a:g u ρ=.ok ρ0)(h:b ρ0=.ok (.nx,ρ1))(h':cG g b us ρ1=r):cG g b (u::us) ρ = r:=by
 unfold cG
 rw[a]
 show(b ρ0).bind _=_
 rw[h]
 exact h'
theorem YC{α : Type}{r : α -> Tr}{h : α -> List Tr}:∀(xs:List α) (s:Sl),(∀x∈xs,f (.sh (r x)::τ)=.ok (.v (.lst (h x)) true,.sh (r x)::τ))->∃a,vQ (gN 0) cO f (xs.map r) (s::τ)=.ok (xs.map λx=>.lst (h x),a::τ)
 | [],s,_=>⟨s,rfl⟩
 |x::xs,s,q=>by
  have e:=q x (by simp)
  obtain⟨a,b⟩:=YC xs (.sh (r x)) λv c=>q v (by simp[c])
  refine⟨a,?_⟩
  rw[List.map_cons]
  unfold vQ
  simp[e,uR,b]
theorem YD{α : Type}{r : α -> Tr}{h : α -> List Tr}{xs:List α}{n:Nat}(b:xs.length<=100000)(hi:i ρ=.ok (xs.map r,ρ))
  (hf:∀x∈xs,fe [.sh (r x)]=.ok (.v (.lst (h x)) true,[.sh (r x)])):sU n [none] i (gN 0) cO fe ρ=.ok (.nx,ρ.set n (.dp (xs.map λx=>.lst (h x)))):=by
 obtain⟨d,e⟩:=YC (τ:=[]) xs .un hf
 have a:(xs.map r).length<=100000:=by rw[List.length_map]; exact b
 rw[agq,hi]
 simp only[yp]
 rw[if_pos a]
 have c:fQ [none] ρ=[.un]:=rfl
 rw[c,e]
 rfl
theorem ahe{α : Type}(g : α -> Tr)(d : α)(rows:List α):xQ (rows.map g)=(List.range' 0 rows.length).map λk=>.tup [iT k,g (rows.getD k d)]:=by
 rw[<-List.range_eq_range']
 refine List.ext_getElem? λi=>?_
 unfold xQ
 by_cases z:i<rows.length
 .simp[z,iT]
 .simp[z]
def QH:SF:=(cg (cM (pX (aj 6) pR (pW (aq aB (aj 2) (aj 5))))) (gN 7) yx)
def YF:GF:=(gT 2 (bZ (gN 5) (bZ (gN 6) fO)))
def YG:GF:=(gT 2 (bZ (gN 5) (bZ (gN 7) fO)))
section
variable {od:List (Int × Int)->List Nat}{m:Nat}{rows:List (List (Int × Int))}{ds:List Nat}{as:List (Nat × Nat)}
theorem ahf(c:Od od m rows)(a:rows[k]?=some l)(hd:ds[k]?=some d)(s:Nat->Nat->Bool)(s1 s3 f:Sl):∃b,QH [.sh (aP rows),s1,.sh (.lst (ds.map iT)),s3,.dp (gs rows s),.sh (iT k),.sh (.lst ((od l).map iT)),f]=.ok (.nx,[.sh (aP rows),s1,.sh (.lst (ds.map iT)),s3,.dp (gs rows λg t'=>s g t' || (decide (g=k)&&decide (t'∈(od l).take d))),.sh (iT k),.sh (.lst ((od l).map iT)),b]):=by
 have lt:=(List.getElem?_eq_some_iff.mp a).1
 have i:rows.getD k []=l:=by simp[a]
 have h:=List.mem_of_getElem? a
 obtain⟨b,e⟩:=Yy (rows:=rows) lt s1 (.sh (.lst (ds.map iT))) s3 (.sh (.lst ((od l).map iT))) ((od l).take d) s f (λt j=>by
  rw[i]
  rw[c.len l h]
  exact c.lt l h t (List.mem_of_mem_take j))
 have id:aB (.lst (ds.map iT)) (iT k)=.ok (.int (d:Nat),false):=jG (by rw[List.getElem?_map,hd]; rfl)
 have n:qw none (some (d:Int)) (.lst ((od l).map iT))=.ok (.lst (((od l).take d).map iT),true):=by
  show Rs.ok (Tr.lst (cut ((od l).map iT) none (some (d:Int))),true)=_
  rw[Ql,<-List.map_take]
 exact⟨b,pC (bk (bk rfl (bk rfl (bk (bk (cQ (z:=(.int (d:Nat),false)) rfl rfl rfl rfl id) (bk rfl (bk rfl rfl))) (bk rfl (bk n rfl))))) rfl) e⟩
theorem YH(j:Od od m rows)(o:ds.length=rows.length)(s1 s3:Sl):∀(w k:Nat) (s5 c b:Sl),k+w=rows.length->∃d e f,cG YF QH ((List.range' k w).map λk=>.tup [iT k,.lst ((od (rows.getD k [])).map iT)]) [.sh (aP rows),s1,.sh (.lst (ds.map iT)),s3,.dp (gs rows λa t'=>decide (a<k)&&decide (t'∈(od (rows.getD a [])).take (ds.getD a 0))),s5,c,b]=.ok (.nx,[.sh (aP rows),s1,.sh (.lst (ds.map iT)),s3,.dp (gs rows λa t'=>decide (a<rows.length)&&decide (t'∈(od (rows.getD a [])).take (ds.getD a 0))),d,e,f])
 | 0,k,s5,c,b,h=>by
  have:k=rows.length:=by omega
  subst this
  exact⟨s5,c,b,rfl⟩
 |w+1,k,s5,c,b,h=>by
  have lt:k<rows.length:=by omega
  have ld:k<ds.length:=by omega
  have p:rows[k]?=some (rows.getD k []):=by simp[lt]
  have hd:ds[k]?=some (ds.getD k 0):=by simp[ld]
  obtain⟨q,l⟩:=ahf j p hd (λa t'=>decide (a<k)&&decide (t'∈(od (rows.getD a [])).take (ds.getD a 0))) s1 s3 b
  have r:(λa t'=>(decide (a<k)&&decide (t'∈(od (rows.getD a [])).take (ds.getD a 0))) || (decide (a=k)&&decide (t'∈(od (rows.getD k [])).take (ds.getD k 0))))=λa t'=>decide (a<k+1)&&decide (t'∈(od (rows.getD a [])).take (ds.getD a 0)):=by
   funext a t'
   by_cases g:a=k
   .subst g; simp
   .by_cases n:a<k
    .have i:a<k+1:=by omega
     simp[g,n,i]
    .have i:¬a<k+1:=by omega
     simp[g,n,i]
  rw[r]at l
  obtain⟨d,e,f,s⟩:=YH j o s1 s3 w (k+1) (.sh (iT k)) (.sh (.lst ((od (rows.getD k [])).map iT))) q (by omega)
  refine⟨d,e,f,?_⟩
  rw[List.range'_succ,List.map_cons]
  exact QG rfl l s
theorem YJ(s1 s2 s3 d:Sl):∀(as:List (Nat × Nat)) (s:Nat->Nat->Bool) (s5 f:Sl),(∀p∈as,p.1<rows.length/\p.2<(rows.getD p.1 []).length)->∃g i,cG YG yx (as.map pT) [.sh (aP rows),s1,s2,s3,.dp (gs rows s),s5,d,f]=.ok (.nx,[.sh (aP rows),s1,s2,s3,.dp (gs rows λc t'=>s c t' || decide ((c,t')∈as)),g,d,i])
 | [],s,s5,f,h=>⟨s5,f,by
  have e:(λc t'=>s c t' || decide ((c,t')∈([]:List (Nat × Nat))))=s:=by
   funext c t'
   simp
  rw[e]
  rfl⟩
 |p::as,s,s5,f,h=>by
  obtain⟨g,i,e⟩:=YJ s1 s2 s3 d as (λc t'=>s c t' || (decide (c=p.1)&&decide (t'=p.2))) (.sh (iT p.1)) (.sh (iT p.2)) λq k=>h q (List.mem_cons_of_mem _ k)
  refine⟨g,i,?_⟩
  obtain⟨a,b⟩:=p
  have l:(λc t'=>(s c t' || (decide (c=a)&&decide (t'=b))) || decide ((c,t')∈as))=λc t'=>s c t' || decide ((c,t')∈(a,b)::as):=by
   funext c t'
   by_cases n:c=a <;> by_cases o:t'=b <;> simp[n,o]
  rw[l]at e
  rw[List.map_cons]
  have j:=h (a,b) (List.mem_cons_self ..)
  exact QG rfl (Yx j.1 j.2 s1 s2 s3 d) e
end
def Io:SF:=(sU 4 [none] (cM (aj 0)) (gN 0) cO (aq cV (sO [.non]) (aZ (g1 bx) (ak (aj 0) au))))
def seI:IF:=(Ms (ak (aR uU (ak (aj 0) au)) au))
def QJ:SF:=(cg seI YF QH)
def QK:SF:=(cg (cM (aj 3)) YG yx)
section
variable {od:List (Int × Int)->List Nat}{m:Nat}{rows:List (List (Int × Int))}{ds:List Nat}{as:List (Nat × Nat)}
theorem ahg(a:Od od m rows)(s1 s2 s3 s4 s5 b c:Sl):Io [.sh (aP rows),s1,s2,s3,s4,s5,b,c]=.ok (.nx,[.sh (aP rows),s1,s2,s3,.dp (gs rows λ_ _=>false),s5,b,c]):=by
 have p:=a.n4
 have q:=a.Yz
 have e:=YD (r:=aH) (h:=λl=>List.replicate l.length Tr.non) (xs:=rows) (ρ:=[.sh (aP rows),s1,s2,s3,s4,s5,b,c]) (n:=4) (i:=cM (aj 0)) (fe:=aq cV (sO [.non]) (aZ (g1 bx) (ak (aj 0) au))) (by omega) rfl (λl d=>by
   have s:=a.len l d
   have f:=yw l
   have g:cV (.lst [.non]) (.int (l.length:Nat))=.ok (.lst (List.replicate l.length Tr.non),true):=by
    unfold cV
    have k:(0:Int)<=l.length:=by omega
    simp[k]
    omega
   exact cQ (z:=(_,true)) rfl (jU (z:=(.int (l.length:Nat),false)) rfl rfl f) rfl rfl g)
 unfold Io
 rw[e]
 have o:(rows.map λl=>Tr.lst (List.replicate l.length Tr.non))=gs rows λ_ _=>false:=by
  refine List.ext_getElem? λi=>?_
  unfold gs gr fV
  by_cases z:i<rows.length
  .simp[z]
   refine List.ext_getElem? λj=>?_
   by_cases y:j<rows[i].length <;> simp[y]
  .simp[z]
 rw[o]
 rfl
end
section
variable {od:List (Int × Int)->List Nat}{m:Nat}{rows:List (List (Int × Int))}{ds:List Nat}{as:List (Nat × Nat)}
theorem ahh(f:Od od m rows)(i:ds.length=rows.length)(s1 s3 s5 g h:Sl):∃b c d,bL QJ [.sh (aP rows),s1,.sh (.lst (ds.map iT)),s3,.dp (gs rows λ_ _=>false),s5,g,h]=.ok (.nx,[.sh (aP rows),s1,.sh (.lst (ds.map iT)),s3,.dp (gs rows λa t'=>decide (a<rows.length)&&decide (t'∈(od (rows.getD a [])).take (ds.getD a 0))),b,c,d]):=by
 obtain⟨b,c,d,e⟩:=YH f i s1 s3 rows.length 0 s5 g h (by omega)
 have j:(λ(a t':Nat)=>decide (a<0)&&decide (t'∈(od (rows.getD a [])).take (ds.getD a 0)))=λ_ _=>false:=by
  funext a t'
  simp
 rw[j]at e
 exact⟨b,c,d,qU (pC (by rw[<-ahe (λl=>Tr.lst ((od l).map iT)) [] rows]; exact bk (cZ (fB rfl rfl rfl (YB f)) rfl) rfl) e)⟩
theorem ahi(g:∀p∈as,p.1<rows.length/\p.2<(rows.getD p.1 []).length)(s:Nat->Nat->Bool)(s1 s2 s5 a d:Sl):∃b c,bL QK [.sh (aP rows),s1,s2,.sh (.lst (as.map pT)),.dp (gs rows s),s5,a,d]=.ok (.nx,[.sh (aP rows),s1,s2,.sh (.lst (as.map pT)),.dp (gs rows λf t'=>s f t' || decide ((f,t')∈as)),b,a,c]):=by
 obtain⟨b,c,e⟩:=YJ s1 s2 (.sh (.lst (as.map pT))) a as s s5 d g
 exact⟨b,c,qU (pC rfl e)⟩
theorem ahj:(gs rows λa t'=>(decide (a<rows.length)&&decide (t'∈(od (rows.getD a [])).take (ds.getD a 0))) || decide ((a,t')∈as))=wJ od rows ds as:=by
 refine List.map_congr_left λk b=>?_
 have b:=List.mem_range.mp b
 show Tr.lst (gr _ _)=Tr.lst (gr _ _)
 congr 2
 funext t
 unfold sn
 simp[b]
theorem Lk.ok(a:Od od m rows)(b:Lk rows.length m ds as):∀p∈as,p.1<rows.length/\p.2<(rows.getD p.1 []).length:=λp mp=>by
 have h:=b.2.2.2.2 p mp
 refine⟨h.1,?_⟩
 have c:rows[p.1]?=some (rows.getD p.1 []):=by simp[h.1]
 rw[a.len _ (List.mem_of_getElem? c)]
 exact h.2
theorem ahk:W9=(aC (bw (aj 1) (gT 2 (bZ (gN 2) (bZ (gN 3) fO)))) (aC Io (aC (bL QJ) (aC (bL QK) (Ga 4 (bB (aj 4))))))):=rfl
theorem ahl(a:Od od m rows)(c:Lk rows.length m ds as):Bm [aP rows,bM ds as]=.ok (.lst (wJ od rows ds as),true):=by
 have e:=ahg a (.sh (bM ds as)) (.sh (.lst (ds.map iT))) (.sh (.lst (as.map pT))) .un .un .un .un
 obtain⟨f,g,h,i⟩:=ahh a c.1 (.sh (bM ds as)) (.sh (.lst (as.map pT))) .un .un .un
 obtain⟨l,n,d⟩:=ahi (Lk.ok a c) (λb j=>decide (b<rows.length)&&decide (j∈(od (rows.getD b [])).take (ds.getD b 0))) (.sh (bM ds as)) (.sh (.lst (ds.map iT))) f g h
 rw[ahj]at d
 have k:bw (aj 1) (gT 2 (bZ (gN 2) (bZ (gN 3) fO))) [.sh (aP rows),.sh (bM ds as),.un,.un,.un,.un,.un,.un]=.ok (.nx,[.sh (aP rows),.sh (bM ds as),.sh (.lst (ds.map iT)),.sh (.lst (as.map pT)),.un,.un,.un,.un]):=rfl
 unfold Bm
 rw[ahk]
 unfold bf
 generalize gs rows _=R2,gs rows _=R1,wJ od rows ds as=R,Tr.lst (as.map pT)=A,Tr.lst (ds.map iT)=D,bM ds as=LT,aP rows=BT,bL QK=G3,bL QJ=G2,Io=G1,bw _ _=G0 at *
 simp -dsimp[bQ,k,e,i,d,pZ]
end
def jA(od:List (Int × Int)->List Nat)(one:Int × Int)(l:List (Int × Int))(d:Nat):Int × Int:=if 0<d then l.getD ((od l).getD (d-1) 0) (0,1)else one
def iB(od:List (Int × Int)->List Nat)(one:Int × Int):List (List (Int × Int))->List Nat->List (Int × Int)
 |l::rows,d::ds=>jA od one l d::iB od one rows ds
 |_,_=>[]
theorem u0:∀{rows:List (List (Int × Int))} {ds:List Nat},ds.length=rows.length->(iB od one rows ds).length=rows.length
 | [],_,_=>by simp[iB]
 |_::_,[],h=>by simp at h
 |l::rows,d::ds,h=>by
  rw[iB,List.length_cons,u0 (rows:=rows) (ds:=ds) (by simpa using h),List.length_cons]
theorem Ip:∀{rows:List (List (Int × Int))} {ds:List Nat} {k:Nat},ds.length=rows.length->k<rows.length->(iB od one rows ds).getD k (0,1)=jA od one (rows.getD k []) (ds.getD k 0)
 | [],_,_,_,h=>by simp at h
 |_::_,[],_,h,_=>by simp at h
 |l::rows,d::ds,0,h,a=>rfl
 |l::rows,d::ds,k+1,h,a=>by
  have e:=Ip (od:=od) (one:=one) (rows:=rows) (ds:=ds) (k:=k) (by simpa using h) (by simpa using a)
  simpa[iB]using e
def Cp:EF:=(uE (bY (aq jq (aj 6) (eC (.int 0)))) (aq aB (aj 4) (aq aB (aj 5) (aq jo (aj 6) (eC (.int 1))))) (aj 2))
def Cq:SF:=(eY (fY 3 dX (ak Cp au)))
def QL:GF:=(gT 3 (bZ (gN 4) (bZ (gN 5) (bZ (gN 6) fO))))
def Cr:IF:=(GP (ak (aj 0) (ak (aR uU (ak (aj 0) au)) (ak (aj 1) au))))
theorem ahm:Ny=(aC (fX 3 (dO au)) (aC (bL (cg Cr QL Cq)) (bB (aj 3)))):=rfl
section
variable {od:List (Int × Int)->List Nat}{m:Nat}{one:Int × Int}
theorem ahn(c:l.length=m)(i:(od l).length=m)(f:∀t∈od l,t<m)(hd:d<=m)(R:List Tr)(j:R.length<=1000)(s0 s1:Sl):Cq [s0,s1,.sh (fT one),.ow R,.sh (aH l),.sh (.lst ((od l).map iT)),.sh (iT d)]=.ok (.nx,[s0,s1,.sh (fT one),.ow (R++[fT (jA od one l d)]),.sh (aH l),.sh (.lst ((od l).map iT)),.sh (iT d)]):=by
 have a:R.length<=100000:=by omega
 have e:Cp [s0,s1,.sh (fT one),.ow R,.sh (aH l),.sh (.lst ((od l).map iT)),.sh (iT d)]=.ok (.v (fT (jA od one l d)) false,[s0,s1,.sh (fT one),.ow R,.sh (aH l),.sh (.lst ((od l).map iT)),.sh (iT d)]):=by
  unfold jA
  by_cases z:0<d
  .rw[if_pos z]
   have b:jq (iT d) (.int 0)=.ok (.bl true,false):=by
    show Rs.ok (Tr.bl (decide ((d:Int) > 0)),false)=_
    rw[decide_eq_true (by omega)]
   have g2:jo (iT d) (.int 1)=.ok (iT (d-1),false):=by
    show Rs.ok (Tr.int ((d:Int)-1),false)=_
    unfold iT
    rw[show((d-1:Nat):Int)=(d:Int)-1 by omega]
   have lt:d-1<(od l).length:=by omega
   have g:aB (.lst ((od l).map iT)) (iT (d-1))=.ok (iT ((od l).getD (d-1) 0),false):=jG (by simp[lt])
   have h:aB (aH l) (iT ((od l).getD (d-1) 0))=.ok (fT (l.getD ((od l).getD (d-1) 0) (0,1)),false):=Cg (by
    rw[c]
    refine f _ ?_
    have:(od l)[d-1]?=some ((od l).getD (d-1) 0):=by simp[lt]
    exact List.mem_of_getElem? this)
   unfold Cp
   generalize fT (l.getD _ _)=V,aH l=L,fT one=N,iT d=D,iT (d-1)=I1,iT ((od l).getD (d-1) 0)=I2,Tr.lst ((od l).map iT)=O at *
   simp -dsimp[dr,drs,bN,cu,b,g2,g,h]
  .rw[if_neg z]
   have b:jq (iT d) (.int 0)=.ok (.bl false,false):=by
    show Rs.ok (Tr.bl (decide ((d:Int) > 0)),false)=_
    rw[decide_eq_false (by omega)]
   unfold Cp
   generalize aH l=L,fT one=N,iT d=D,Tr.lst ((od l).map iT)=O at *
   simp -dsimp[dr,drs,bN,cu,b]
 unfold Cq
 generalize aH l=L,fT one=N,iT d=D,Tr.lst ((od l).map iT)=O,fT (jA od one l d)=V,Cp=G at *
 simp -dsimp[cls,con,dD,dX,e,a]
theorem YK(s0 s1:Sl):∀(rows:List (List (Int × Int))) (ds:List Nat) (R:List Tr) (s4 s5 a:Sl),(∀l∈rows,l.length=m/\(od l).length=m/\∀t∈od l,t<m)->(∀d∈ds,d<=m)->R.length+rows.length<=1000->∃b c e,cG QL Cq (lX (rows.map aH) (rows.map λl=>.lst ((od l).map iT)) (ds.map iT)) [s0,s1,.sh (fT one),.ow R,s4,s5,a]=.ok (.nx,[s0,s1,.sh (fT one),.ow (R++(iB od one rows ds).map fT),b,c,e])
 | [],ds,R,s4,s5,a,h,hd,f=>⟨s4,s5,a,by simp[iB,lX,cG]⟩
 |l::rows,[],R,s4,s5,a,h,hd,f=>⟨s4,s5,a,by simp[iB,lX,cG]⟩
 |l::rows,d::ds,R,s4,s5,a,h,hd,f=>by
  rw[List.length_cons]at f
  obtain⟨j,k,n⟩:=h l (List.mem_cons_self ..)
  have o:=ahn (od:=od) (one:=one) j k n (hd d (List.mem_cons_self ..)) R (by omega) s0 s1
  obtain⟨b,c,e,i⟩:=YK s0 s1 rows ds (R++[fT (jA od one l d)]) (.sh (aH l)) (.sh (.lst ((od l).map iT))) (.sh (iT d)) (λx g=>h x (List.mem_cons_of_mem _ g)) (λx g=>hd x (List.mem_cons_of_mem _ g)) (by simp; omega)
  refine⟨b,c,e,?_⟩
  rw[List.append_assoc]at i
  exact QG rfl o i
theorem aho(a:Od od m rows)(h:ds.length=rows.length)(hd:∀d∈ds,d<=m):Bw [aP rows,.lst (ds.map iT),fT one]=.ok (aH (iB od one rows ds),true):=by
 obtain⟨i,j,k,e⟩:=YK (od:=od) (one:=one) (.sh (aP rows)) (.sh (.lst (ds.map iT))) rows ds [] .un .un .un (λl b=>⟨a.len l b,a.ln l b,a.lt l b⟩) hd (by have:=a.n4; simp; omega)
 rw[List.nil_append]at e
 have f:=YB a
 have g:Cr [.sh (aP rows),.sh (.lst (ds.map iT)),.sh (fT one),.ow [],.un,.un,.un]=.ok (lX (rows.map aH) (rows.map λl=>.lst ((od l).map iT)) (ds.map iT),[.sh (aP rows),.sh (.lst (ds.map iT)),.sh (fT one),.ow [],.un,.un,.un]):=by
  have l1:(rows.map aH).length<=(rows.map λl=>Tr.lst ((od l).map iT)).length:=by simp
  have l2:(rows.map aH).length<=(ds.map iT).length:=by simp[h]
  have n:aP rows=.lst (rows.map aH):=rfl
  unfold Cr GP
  rw[n]at f ⊢
  generalize fT one=N,ds.map iT=D,rows.map aH=B,(rows.map λl=>Tr.lst ((od l).map iT))=O at *
  simp -dsimp[drs,dr,bN,f,l1,l2]
 have o:bL (cg Cr QL Cq) [.sh (aP rows),.sh (.lst (ds.map iT)),.sh (fT one),.ow [],.un,.un,.un]=.ok (.nx,[.sh (aP rows),.sh (.lst (ds.map iT)),.sh (fT one),.ow ((iB od one rows ds).map fT),i,j,k]):=by
  generalize Cr=G at g ⊢
  unfold bL cg
  simp only[g]
  show dF (cG _ _ _ _)=_
  rw[e]
  rfl
 have c:aH (iB od one rows ds)=.lst ((iB od one rows ds).map fT):=rfl
 rw[c]
 unfold Bw
 rw[ahm]
 unfold bf
 generalize fT one=N,Tr.lst (ds.map iT)=D,aP rows=B,(iB od one rows ds).map fT=R,bL _=G at *
 simp -dsimp[bQ,cls,o]
end
def dB(rows:List (List (Int × Int)))(k t:Nat):Int × Int:=(rows.getD k []).getD t (0,1)
def lo(rows:List (List (Int × Int)))(s:Nat->Nat->Bool)(t:Nat):List (Int × Int):=(List.range rows.length).map λk=>if s k t=true then dB rows k t else(0,1)
def hi(rows:List (List (Int × Int)))(s:Nat->Nat->Bool)(bK:List (Int × Int))(t:Nat):List (Int × Int):=(List.range rows.length).map λk=>if s k t=true then dB rows k t else bK.getD k (0,1)
def iI(a b:Nat->Int × Int)(m:Nat):List Tr:=(List.range m).map λt=>.tup [fT (a t),fT (b t)]
def mD(rows:List (List (Int × Int)))(s:Nat->Nat->Bool)(t:Nat):List Tr:=(List.range rows.length).map λk=>fV (s k t) (dB rows k t)
def YL:EF:=(uE (bY (aq (nH id) (aj 0) (eC .non))) (eC (.tup [(.int 0),(.int 1)])) (aj 0))
def QM:EF:=(uE (bY (aq (nH id) (aj 0) (eC .non))) (aj 1) (aj 0))
def Cu:GF:=(gT 2 (bZ (gN 0) (bZ (gN 1) fO)))
def YM:SF:=(bw (aR Bj (ak (aj 1) (ak (aj 4) au))) (gN 5))
def QT:SF:=(bw (dG [none] (cM (aj 5)) (gN 0) cO YL) (gN 6))
def Ir:SF:=(bw (dG [none,none] (o8 (ak (aj 5) (ak (aj 2) au))) Cu cO QM) (gN 7))
def YQ:SF:=(eY (fY 3 dX (ak (jd (ak (aR g8 (ak (aj 0) (ak (aj 6) au))) (ak (aR g8 (ak (aj 0) (ak (aj 7) au))) au))) au)))
def yC:SF:=(aC YM (aC QT (aC Ir YQ)))
def Cv:IF:=(cR (ak (aZ (g1 bx) (ak (aq aB (aj 1) (eC (.int 0))) au)) au))
theorem ahp:M6=(aC (fX 3 (dO au)) (aC (bL (cg Cv (gN 4) yC)) (bB (aj 3)))):=rfl
section
variable {rows:List (List (Int × Int))}{s:Nat->Nat->Bool}{bK:List (Int × Int)}{m:Nat}
theorem ahq(d:rows.length<=4)(a:∀l∈rows,t<l.length):Bj [.lst (gs rows s),iT t]=.ok (.lst (mD rows s t),true):=by
 have em:=qQ (r:=λk=>Tr.lst (gr (rows.getD k []) (s k))) (h:=λk=>fV (s k t) (dB rows k t)) (xs:=List.range rows.length) (ρ:=[.sh (.lst (gs rows s)),.sh (iT t)]) (τ:=[.sh (iT t)]) (rest:=[some 1]) (i:=cM (aj 0)) (fe:=aq aB (aj 0) (aj 1)) (by simp; omega) rfl rfl (λb=>rfl) (λb=>rfl) (λk mk=>⟨false,cQ (z:=(fV (s k t) (dB rows k t),false)) rfl rfl rfl rfl (jG (by
  have c:=List.mem_range.mp mk
  have:=a (rows.getD k []) (List.mem_of_getElem? (i:=k) (by simp[c]))
  unfold gr dB
  generalize rows.getD k []=l at *
  simp[this]))⟩)
 exact mX (oJ em)
theorem ahr(e:rows.length<=4)(t:Nat)(s0 s1 s2 s3 s4 b a:Sl):QT [s0,s1,s2,s3,s4,.sh (.lst (mD rows s t)),b,a]=.ok (.nx,[s0,s1,s2,s3,s4,.sh (.lst (mD rows s t)),.sh (aH (lo rows s t)),a]):=by
 have em:=qQ (r:=λk=>fV (s k t) (dB rows k t)) (h:=λk=>fT (if s k t=true then dB rows k t else(0,1))) (xs:=List.range rows.length) (ρ:=[s0,s1,s2,s3,s4,.sh (.lst (mD rows s t)),b,a]) (τ:=[]) (rest:=[]) (i:=cM (aj 5)) (fe:=YL) (by simp; omega) rfl rfl (λc=>rfl) (λc=>rfl) (λk mk=>⟨false,by cases s k t <;> rfl⟩)
 have d:Tr.lst ((List.range rows.length).map λk=>fT (if s k t=true then dB rows k t else(0,1)))=aH (lo rows s t):=by
  unfold aH lo
  rw[List.map_map]
  rfl
 rw[d]at em
 exact pB em
theorem YS{α : Type}{u v h : α -> Tr}:∀(xs:List α) (s0 s1:Sl),(∀x∈xs,∃fr,f [.sh (u x),.sh (v x)]=.ok (.v (h x) fr,[.sh (u x),.sh (v x)]))->∃t0 t1,jm Cu cO f (xs.map λx=>.tup [u x,v x]) [s0,s1]=.ok (xs.map h,[t0,t1])
 | [],s0,s1,_=>⟨s0,s1,rfl⟩
 |x::xs,s0,s1,q=>by
  obtain⟨fr,e⟩:=q x (by simp)
  obtain⟨t0,t1,a⟩:=YS xs (.sh (u x)) (.sh (v x)) λy b=>q y (by simp[b])
  refine⟨t0,t1,?_⟩
  rw[List.map_cons]
  unfold jm
  rw[show Cu (.tup [u x,v x]) [s0,s1]=.ok [.sh (u x),.sh (v x)]from rfl]
  generalize Cu=G at *
  simp[e,mQ,a]
theorem ahs(o:rows.length<=4)(p:bK.length=rows.length)(t:Nat)(s0 s1 s3 s4 a b:Sl):Ir [s0,s1,.sh (aH bK),s3,s4,.sh (.lst (mD rows s t)),a,b]=.ok (.nx,[s0,s1,.sh (aH bK),s3,s4,.sh (.lst (mD rows s t)),a,.sh (aH (hi rows s bK t))]):=by
 obtain⟨t0,t1,e⟩:=YS (u:=λk=>fV (s k t) (dB rows k t)) (v:=λk=>fT (bK.getD k (0,1))) (h:=λk=>fT (if s k t=true then dB rows k t else bK.getD k (0,1))) (f:=QM) (List.range rows.length) .un .un (λk mk=>⟨false,by
  cases s k t <;> rfl⟩)
 have c:Tr.lst ((List.range rows.length).map λk=>fT (if s k t=true then dB rows k t else bK.getD k (0,1)))=aH (hi rows s bK t):=by
  unfold aH hi
  rw[List.map_map]
  rfl
 have d:o7 (mD rows s t) (bK.map fT)=(List.range rows.length).map λk=>.tup [fV (s k t) (dB rows k t),fT (bK.getD k (0,1))]:=by
  refine List.ext_getElem? λi=>?_
  unfold o7 mD
  rw[List.getElem?_map,List.getElem?_map]
  by_cases z:i<rows.length
  .have g:i<bK.length:=by omega
   have j:((List.range rows.length).map λk=>fV (s k t) (dB rows k t))[i]?=some (fV (s i t) (dB rows i t)):=by simp[z]
   have l:(bK.map fT)[i]?=some (fT (bK.getD i (0,1))):=by simp[g]
   rw[List.getElem?_zip_eq_some (z:=(fV (s i t) (dB rows i t),fT (bK.getD i (0,1)))) |>.mpr ⟨j,l⟩]
   simp[z]
  .rw[List.getElem?_eq_none (by simp; omega),List.getElem?_eq_none (by simp; omega)]
   rfl
 have em:dG [none,none] (o8 (ak (aj 5) (ak (aj 2) au))) Cu cO QM [s0,s1,.sh (aH bK),s3,s4,.sh (.lst (mD rows s t)),a,b]=.ok (.v (aH (hi rows s bK t)) true,[s0,s1,.sh (aH bK),s3,s4,.sh (.lst (mD rows s t)),a,b]):=by
  have n:o8 (ak (aj 5) (ak (aj 2) au)) [s0,s1,.sh (aH bK),s3,s4,.sh (.lst (mD rows s t)),a,b]=.ok ((List.range rows.length).map λk=>.tup [fV (s k t) (dB rows k t),fT (bK.getD k (0,1))],[s0,s1,.sh (aH bK),s3,s4,.sh (.lst (mD rows s t)),a,b]):=by
   rw[<-d]
   rfl
  rw[XC,n]
  simp only[yp]
  rw[if_pos (by simp; omega),show fQ [none,none] _=[.un,.un]from rfl,e,c.symm]
  rfl
 unfold Ir
 generalize dG _ _ _ _ _=G at em ⊢
 generalize aH bK=L,aH (hi rows s bK t)=O,Tr.lst (mD rows s t)=B at *
 simp -dsimp[em]
variable {a b:Nat->Int × Int}{R:Tr}
theorem aht(c:rows.length<=4)(g:bK.length=rows.length)(h:∀l∈rows,t<l.length)(i:g8 [R,aH (lo rows s t)]=.ok (fT (a t),false))(j:g8 [R,aH (hi rows s bK t)]=.ok (fT (b t),false))(L:List Tr)(u:L.length<=1000)(s5 f d:Sl):∃k n o,yC [.sh R,.sh (.lst (gs rows s)),.sh (aH bK),.ow L,.sh (iT t),s5,f,d]=.ok (.nx,[.sh R,.sh (.lst (gs rows s)),.sh (aH bK),.ow (L++[.tup [fT (a t),fT (b t)]]),.sh (iT t),k,n,o]):=by
 have p:=ahq (s:=s) c h
 have q:=ahr (s:=s) c t (.sh R) (.sh (.lst (gs rows s))) (.sh (aH bK)) (.ow L) (.sh (iT t)) f d
 have r:=ahs (s:=s) c g t (.sh R) (.sh (.lst (gs rows s))) (.ow L) (.sh (iT t)) (.sh (aH (lo rows s t))) d
 refine⟨.sh (.lst (mD rows s t)),.sh (aH (lo rows s t)),.sh (aH (hi rows s bK t)),?_⟩
 have e:L.length<=100000:=by omega
 unfold yC YM YQ
 generalize iT t=T,fT (b t)=B,fT (a t)=A,aH bK=LA,aH (hi rows s bK t)=HI,aH (lo rows s t)=LO,Tr.lst (gs rows s)=S,Tr.lst (mD rows s t)=W,Ir=G3,QT=G2 at *
 simp -dsimp[dr,drs,bN,cls,con,dD,dX,p,q,r,i,j,e]
theorem YT(k:rows.length<=4)(n:bK.length=rows.length)(hm:m<=12)(o:∀l∈rows,l.length=m)(p:∀t,t<m->g8 [R,aH (lo rows s t)]=.ok (fT (a t),false))(q:∀t,t<m->g8 [R,aH (hi rows s bK t)]=.ok (fT (b t),false)):∀(w t:Nat) (s4 s5 c d:Sl),t+w=m->∃e f g i,cG (gN 4) yC ((List.range' t w).map iT) [.sh R,.sh (.lst (gs rows s)),.sh (aH bK),.ow (iI a b t),s4,s5,c,d]=.ok (.nx,[.sh R,.sh (.lst (gs rows s)),.sh (aH bK),.ow (iI a b m),e,f,g,i])
 | 0,t,s4,s5,c,d,h=>by
  have:t=m:=by omega
  subst this
  exact⟨s4,s5,c,d,rfl⟩
 |w+1,t,s4,s5,c,d,h=>by
  obtain⟨u,v,x,r⟩:=aht (s:=s) (a:=a) (b:=b) (R:=R) k n (t:=t) (λl y=>by rw[o l y]; omega) (p t (by omega)) (q t (by omega)) (iI a b t) (by unfold iI; simp; omega) s5 c d
  obtain⟨e,f,g,i,j⟩:=YT k n hm o p q w (t+1) (.sh (iT t)) u v x (by omega)
  refine⟨e,f,g,i,?_⟩
  rw[List.range'_succ,List.map_cons]
  unfold iI at r j ⊢
  rw[List.range_succ,List.map_append,List.map_cons,List.map_nil]at j
  exact jR r j
theorem ahu(x:1<=rows.length)(g:rows.length<=4)(h:bK.length=rows.length)(hm:m<=12)(d:∀l∈rows,l.length=m)(j:∀t,t<m->g8 [R,aH (lo rows s t)]=.ok (fT (a t),false))(k:∀t,t<m->g8 [R,aH (hi rows s bK t)]=.ok (fT (b t),false)):Bo [R,.lst (gs rows s),aH bK]=.ok (.lst (iI a b m),true):=by
 obtain⟨o,p,q,r,e⟩:=YT g h hm d j k m 0 .un .un .un .un (by omega)
 have f:Cv [.sh R,.sh (.lst (gs rows s)),.sh (aH bK),.ow [],.un,.un,.un,.un]=.ok ((List.range' 0 m).map iT,[.sh R,.sh (.lst (gs rows s)),.sh (aH bK),.ow [],.un,.un,.un,.un]):=by
  rw[<-List.range_eq_range']
  have ok:=uY (n:=m) (by omega)
  have lt:0<rows.length:=by omega
  have c:(rows.getD 0 []).length=m:=by
   have:rows[0]?=some (rows.getD 0 []):=by simp[lt]
   exact d _ (List.mem_of_getElem? this)
  have u:aB (.lst (gs rows s)) (.int 0)=.ok (.lst (gr (rows.getD 0 []) (s 0)),false):=jG (i:=0) (by
   unfold gs
   simp[lt])
  have v:bx (.lst (gr (rows.getD 0 []) (s 0)))=.ok (.int (m:Nat),false):=by
   show Rs.ok (Tr.int ((gr (rows.getD 0 []) (s 0)).length:Int),false)=_
   unfold gr
   rw[List.length_map,List.length_range,c]
  unfold Cv
  generalize aH bK=LA,Tr.lst (gs rows s)=S,Tr.lst (gr (rows.getD 0 []) (s 0))=G0 at *
  simp -dsimp[drs,dr,bN,g1,u,v,ok]
  exact qR _
 have w:bL (cg Cv (gN 4) yC) [.sh R,.sh (.lst (gs rows s)),.sh (aH bK),.ow [],.un,.un,.un,.un]=.ok (.nx,[.sh R,.sh (.lst (gs rows s)),.sh (aH bK),.ow (iI a b m),o,p,q,r]):=by
  generalize Cv=G at f ⊢
  unfold bL cg
  simp only[f]
  show dF (cG _ _ _ _)=_
  have e:cG (gN 4) yC ((List.range' 0 m).map iT) [.sh R,.sh (.lst (gs rows s)),.sh (aH bK),.ow [],.un,.un,.un,.un]=_:=e
  rw[e]
  rfl
 unfold Bo
 rw[ahp]
 unfold bf
 generalize iI a b m=BN,aH bK=LA,Tr.lst (gs rows s)=S,bL _=G at *
 simp -dsimp[bQ,cls,w]
end
theorem ahv(h:Fall l ys)(h':Fall l zs):ys=zs:=by
 refine List.Perm.eq_of_pairwise (λa b _ _ p q=>?_) h.2 h'.2 (h.1.trans h'.1.symm)
 unfold Ce at p q
 omega
open Classical in
def aY(l:List (Int × Int)):List Nat:=if h:∃zs:List Nat,Fall l zs then h.choose else []
theorem YW(h:Fall l zs):aY l=zs:=by
 have a:∃zs:List Nat,Fall l zs:=⟨zs,h⟩
 unfold aY
 rw[dif_pos a]
 exact ahv a.choose_spec h
theorem QV(h:Frs N l)(b:1+N*l.length<=8900)(c:N<=8900)(a:l.length<64):Fall l (aY l)/\mR [aH l]=.ok (.lst ((aY l).map iT),true):=by
 obtain⟨d,e,f⟩:=Qi l h b c a
 rw[YW f]
 exact⟨f,e⟩
theorem Od.of(c:1<=rows.length)(d:rows.length<=4)(m1:1<=m)(e:m<=12)(b:∀l∈rows,l.length=m)(h:∀l∈rows,Frs N l)(f:1+N*12<=8900):Od aY m rows:=by
 have k:∀l∈rows,Fall l (aY l)/\mR [aH l]=.ok (.lst ((aY l).map iT),true):=λl a=>QV (h l a) (by
  have:=b l a
  have:N*l.length<=N*12:=Nat.mul_le_mul_left _ (by omega)
  omega) (by omega) (by have:=b l a; omega)
 refine⟨c,d,m1,e,b,λl a=>(k l a).2,λl a t mt=>?_,λl a=>?_⟩
 .have:=(k l a).1.1.mem_iff.mp mt
  rw[List.mem_range,b l a]at this
  exact this
 .have:=(k l a).1.1.length_eq
  rw[List.length_range,b l a]at this
  exact this
theorem Bk.od(c:Bk m rows):Od aY m rows:=by
 obtain⟨d,e,f,g,b⟩:=c
 exact Od.of (N:=40) d e f g (λl a=>(b l a).1) (λl a=>Wo.frs (b l a).2) (by omega)
section
variable {od:List (Int × Int)->List Nat}{m:Nat}{rows:List (List (Int × Int))}{ds:List Nat}{as:List (Nat × Nat)}{one:Int × Int}{a b:Nat->Int × Int}{R:Tr}
def sA(od:List (Int × Int)->List Nat)(rows:List (List (Int × Int)))(ds:List Nat)(as:List (Nat × Nat))(k:Nat):Nat->Bool:=sn od (rows.getD k []) (ds.getD k 0) as k
theorem ahw(c:Od od m rows)(d:Lk rows.length m ds as)(e:∀t,t<m->g8 [R,aH (lo rows (sA od rows ds as) t)]=.ok (fT (a t),false))(f:∀t,t<m->g8 [R,aH (hi rows (sA od rows ds as) (iB od one rows ds) t)]=.ok (fT (b t),false)):G6 [aP rows,R,bM ds as,fT one]=.ok (.lst (iI a b m),true) :=
 mX (oJ (fB (cZ rfl (cZ (fB rfl rfl rfl (ahl c d)) (cZ (fB rfl rfl rfl (aho (one:=one) c d.1 d.2.1)) rfl))) rfl rfl (ahu c.n1 c.n4 (u0 d.1) c.Yz c.len e f)))
theorem ahx(c:Bk m rows)(d:gP rows.length r):Gv [aP rows,bO r]=.ok (.non,false) :=
 ag2 (dw (yt (fB rfl rfl rfl (X4 c.pA))) (lE (uX (qd (fB (cZ rfl (cZ (jU rfl rfl (wI rows)) rfl)) rfl rfl (agX d (by have:=c.2.1; omega))) rfl rfl)) rfl))
theorem ahy(c:Bk m rows)(d:Lk rows.length m ds as)(e:gP rows.length r)(f:∀t,t<m->g8 [bO r,aH (lo rows (sA aY rows ds as) t)]=.ok (fT (a t),false))(g:∀t,t<m->g8 [bO r,aH (hi rows (sA aY rows ds as) (iB aY (1,1) rows ds) t)]=.ok (fT (b t),false)):wk [aP rows,bO r,bM ds as]=.ok (.lst (iI a b m),true) :=
 mX (dw (yt (fB rfl rfl rfl (ahx c e))) (dw (yt (fB rfl rfl rfl (ag8 c d))) (oJ (fB rfl rfl rfl (ahw c.od d f g)))))
end
end BH
end
section
namespace K21
open PySem L2 BH
noncomputable def yD:SF:=(aC (cA (bY (aq j5 (aj 2) (aq lN (eC (.int 10)) (eC (.int 18))))) (bB (aq cj (aq jo (aj 2) (aq lN (eC (.int 10)) (eC (.int 18)))) (aq lN (eC (.int 10)) (eC (.int 60))))) cD) (aC (bw (aq cj (aq cC (aq cC (aq cV (aj 2) (eC (.int 48271))) (aq cV (aj 1) (eC (.int 69621)))) (eC (.int 11))) (eC (.int 2147483629))) (gN 3)) (aC (bw (aq cj (aq cV (aj 3) (aj 3)) (eC (.int 2147483587))) (gN 3)) (bB (aq cC (aq cV (aj 3) (eC (.int 2147483563))) (aq cj (aq cV (aj 3) (aj 3)) (eC (.int 2147483563))))))))
theorem ahz:O9=aC (bw (eC (.int 0)) (gN 2)) (aC (cA (bY (aq gW (aj 1) (aZ (g1 bx) (ak (aj 0) au)))) (bw (aq aB (aj 0) (aj 1)) (gN 2)) cD) yD):=rfl
theorem YX:lN (.int 10) (.int 18)=.ok (.int 1000000000000000000,false):=by kernel_rfl
theorem p60:lN (.int 10) (.int 60)=.ok (.int 1000000000000000000000000000000000000000000000000000000000000,false):=by kernel_rfl
theorem YZ(s0:Sl)(k:Nat)(cell:Int):∃(x:Int) (ρ : En),yD [s0,.sh (.int k),.sh (.int cell),.un]=.ok (.rt (.int x) false,ρ)/\0<=x/\x<2 ^ 200:=by
 by_cases h:1000000000000000000<=cell
 .have r:=lY (cell-1000000000000000000) 1000000000000000000000000000000000000000000000000000000000000 (by omega)
  have a:cj (.int (cell-1000000000000000000)) (.int 1000000000000000000000000000000000000000000000000000000000000)=.ok (.int ((cell-1000000000000000000).fmod 1000000000000000000000000000000000000000000000000000000000000),false):=by
   show(if decide ((1000000000000000000000000000000000000000000000000000000000000:Int)≠0)=true then Rs.ok (Tr.int ((cell-1000000000000000000).fmod 1000000000000000000000000000000000000000000000000000000000000),false)else .bad)=_
   rw[if_pos (by decide)]
  refine⟨(cell-1000000000000000000).fmod 1000000000000000000000000000000000000000000000000000000000000,[s0,.sh (.int k),.sh (.int cell),.un],?_,r.1,by omega⟩
  unfold yD
  simp -dsimp[dr,YX,j5,gB,h,cu,p60,jo,gI,a]
 .have b:gM cell 48271=true:=Qo (by omega)
  have c:gM k 69621=true:=Qo (by omega)
  have d:=lY (cell*48271+k*69621+11) 2147483629 (by omega)
  generalize e:(cell*48271+k*69621+11).fmod 2147483629=A at d
  have f:=lY (A*A) 2147483587 (by omega)
  have g:gM A A=true:=lD (M:=31) (N:=31) (by omega) (by omega) (by omega) (by omega)
  generalize i:(A*A).fmod 2147483587=B at f
  have j:gM B B=true:=lD (M:=31) (N:=31) (by omega) (by omega) (by omega) (by omega)
  have l:gM B 2147483563=true:=Qo (by omega)
  have m:=lY (B*B) 2147483563 (by omega)
  generalize n:(B*B).fmod 2147483563=C at m
  refine⟨B*2147483563+C,[s0,.sh (.int k),.sh (.int cell),.sh (.int B)],?_,by omega,by omega⟩
  unfold yD
  simp -dsimp[dr,YX,j5,gB,h,cu,cV,fD,b,c,g,j,l,cC,gI,cj,e,i,n]
theorem cell_eq(ns:List Int)(k:Nat):∃x:Int,jz [.lst (ns.map .int),.int k]=.ok (.int x,false)/\0<=x/\x<2 ^ 200:=by
 unfold jz
 rw[ahz]
 have b:bx (.lst (ns.map .int))=.ok (.int (ns.length:Int),false):=by
  show Rs.ok (Tr.int ((ns.map Tr.int).length:Int),false)=_
  rw[List.length_map]
 by_cases h:k<ns.length
 .have e:=jG (xs:=ns.map .int) (i:=k) (T:=.int ns[k]) (by simp[h])
  obtain⟨x,c,a,r⟩:=YZ (.sh (.lst (ns.map .int))) k ns[k]
  refine⟨x,?_,r⟩
  unfold bf
  generalize yD=G at a ⊢
  generalize ns[k]=cell at e a
  have q:(k:Int)<ns.length:=by omega
  generalize Tr.lst (ns.map .int)=T at *
  simp -dsimp[bQ,dr,drs,g1,b,gW,gB,q,cu,e,a]
 .obtain⟨x,c,a,r⟩:=YZ (.sh (.lst (ns.map .int))) k 0
  refine⟨x,?_,r⟩
  unfold bf
  generalize yD=G at a ⊢
  have q:¬(k:Int)<ns.length:=by omega
  generalize Tr.lst (ns.map .int)=T at *
  simp -dsimp[bQ,dr,drs,g1,b,gW,gB,q,cu,a]
def fc:BF:=bY (aq jq (aj 3) (eC (.int 0)))
def fb:SF:=vM 2 3 (ak (aj 3) (ak (aq cj (aj 2) (aj 3)) au))
theorem ahA(s0 s1:Sl)(a b:Int):fc [s0,s1,.sh (.int a),.sh (.int b)]=.ok (decide (b > 0),[s0,s1,.sh (.int a),.sh (.int b)]):=rfl
theorem ahB(s0 s1:Sl)(a b:Int)(h:b≠0):fb [s0,s1,.sh (.int a),.sh (.int b)]=.ok (.nx,[s0,s1,.sh (.int b),.sh (.int (a.fmod b))]):=by
 unfold fb; simp -dsimp[dr,cls,fD,cj,h]
theorem Y0(s0 s1:Sl):∀(n:Nat) (a b:Int),0<=a->0<=b->b.natAbs<n->sy fc fb n [s0,s1,.sh (.int a),.sh (.int b)]=.ok (.nx,[s0,s1,.sh (.int ((Int.gcd a b:Nat):Int)),.sh (.int 0)])
 | 0,a,b,_,_,h=>by omega
 |n+1,a,b,f,d,h=>by
  unfold sy
  rw[ahA]
  by_cases z:b=0
  .subst z
   have:((Int.gcd a 0:Nat):Int)=a:=by rw[Int.gcd_zero_right]; omega
   rw[this]
   rfl
  .have p:0<b:=by omega
   have r:=lY a b p
   have c:=Y0 s0 s1 n b (a.fmod b) d r.1 (by have:=Uo a b z; omega)
   have e:decide (b > 0)=true:=by simpa using p
   simp only[Rs.bind,e,if_true]
   rw[ahB s0 s1 a b z]
   rw[Uq]at c
   exact c
def KC:SF:=(aC (cA (bY (aq gW (aj 1) (eC (.int 0)))) (bw (aq jo (eC (.int 0)) (aj 2)) (gN 2)) cD) (bB (jd (ak (aq cL (aj 0) (aj 2)) (ak (aq cL (aj 1) (aj 2)) au)))))
theorem ahC:Pa=(aC (bw (aZ (g1 lQ) (ak (aj 0) au)) (gN 2)) (aC (bw (aZ (g1 lQ) (ak (aj 1) au)) (gN 3)) (aC (bL (qy (sI 3) fc fb)) KC))):=rfl
theorem Iu(c:0<=a)(k:1<=b)(d:b<2 ^ M)(e:M<=8900):oF [.int a,.int b]=.ok (fT (red a b),false):=by
 obtain⟨g1,g2,_⟩:=zf (a:=a) (b:=b) (by omega)
 have f:a.fdiv (Int.gcd a b:Nat)=a / (Int.gcd a b:Nat):=Int.fdiv_eq_ediv_of_nonneg _ (by omega)
 have h:b.fdiv (Int.gcd a b:Nat)=b / (Int.gcd a b:Nat):=Int.fdiv_eq_ediv_of_nonneg _ (by omega)
 have np:=lZ M
 have a1:lQ (.int a)=.ok (.int a,false):=by
  show Rs.ok (Tr.int (if a<0 then -a else a),false)=_
  rw[if_neg (by omega)]
 have a2:lQ (.int b)=.ok (.int b,false):=by
  show Rs.ok (Tr.int (if b<0 then -b else b),false)=_
  rw[if_neg (by omega)]
 have w:bL (qy (sI 3) fc fb) [.sh (.int a),.sh (.int b),.sh (.int a),.sh (.int b)]=.ok (.nx,[.sh (.int a),.sh (.int b),.sh (.int ((Int.gcd a b:Nat):Int)),.sh (.int 0)]):=by
  unfold bL qy
  rw[show sI 3 [.sh (.int a),.sh (.int b),.sh (.int a),.sh (.int b)]=b.natAbs+1 from rfl,Y0 _ _ _ a b c (by omega) (by omega)]
  rfl
 unfold oF
 rw[ahC]
 unfold bf KC fT red
 generalize l:((Int.gcd a b:Nat):Int)=g at *
 have i:¬b<0:=by omega
 have j:∀n,jE n g=true:=λn=>mW (M:=M) (by omega) (by omega) e
 generalize bL (qy (sI 3) fc fb)=G at w ⊢
 simp -dsimp[bQ,dr,drs,cls,a1,a2,L2.g1,w,gW,gB,i,cu,cL,fD,j,f,h]
theorem Iw(a:Fq M x)(b:Fq N y)(e:M+N<=8900):mU [fT x,fT y]=.ok (.bl (dU x y),false):=by
 obtain⟨f,g,h,i,_⟩:=a
 obtain⟨j,k,l,m,_⟩:=b
 have n:=lZ M
 have o:=lZ N
 have c:gM x.1 y.2=true:=lD (M:=M) (N:=N) (by omega) (by omega) (by omega) (by omega)
 have d:gM y.1 x.2=true:=lD (M:=N) (N:=M) (by omega) (by omega) (by omega) (by omega)
 unfold mU Ph bf fT
 simp -dsimp[dF,fC,pZ,dD,con,oh,eB,cu,gF,dr,drs,cls,mQ,uR,g1,g2,gI,fD,gB,bT,gq,jP,cC,cV,cL,cj,lN,jo,gW,jq,fG,j5,aB,bx,lQ,kW,Ew,Ey,Ez,gG,nQ,okR,pU,bN,others,fQ,cN,fZ,oY,oX,mV,HS,wB,HW,wC,qO,tK,oG,tL,HX,Ca,iz,gC,iD,bQ,c,d,dU]
@[simp] theorem ahD(src:List (Option Nat))(n:Nat)(g:GF)(c:BF)(f:EF)(ρ : En):tD src n g c f ρ = bd (con ρ n) (λus=>if us.length<=100000 then bd (dF (jm g c f us (fQ src ρ))) (λz=>if fZ src z.2 ρ = true then .ok (.v (.lst z.1) true,cN src z.2 ρ)else .bad) .mk else .bad) .mk:=rfl
theorem Y4{α : Type}{r : α -> Tr}{p : α -> Bool}{xs:List α}{ρ τ : En}{rest:List (Option Nat)}{n:Nat}{c:BF}(f:xs.length<=100000)(hi:con ρ n=.ok (xs.map r))(b : fQ rest ρ = τ)(g:∀a,fZ (none::rest) (a::τ) ρ = true)(hd:∀a,cN (none::rest) (a::τ) ρ = ρ)
  (hf:∀x∈xs,c (.sh (r x)::τ)=.ok (p x,.sh (r x)::τ)):tD (none::rest) n (gN 0) c (aj 0) ρ=.ok (.v (.lst ((xs.filter p).map r)) true,ρ):=by
 obtain⟨a,e⟩:=X7 xs .un hf
 have h:fQ (none::rest) ρ=.un::τ := by rw[<-b]; rfl
 have d:(xs.map r).length<=100000:=by rw[List.length_map]; exact f
 rw[ahD,hi]
 simp only[yp]
 rw[if_pos d,h,e]
 simp only[dF,yp]
 rw[if_pos (g a),hd a]
theorem pref{α : Type}{p : α -> Bool}:∀zs:List α,zs.Pairwise (λa b=>p b=true->p a=true)->(∀a∈zs.take (zs.filter p).length,p a=true)/\∀b∈zs.drop (zs.filter p).length,p b=false
 | [],_=>⟨λ_ h=>by simp at h,λ_ h=>by simp at h⟩
 |a::l,h=>by
  obtain⟨d,f⟩:=List.pairwise_cons.mp h
  obtain⟨g,i⟩:=pref l f
  cases e:p a with
  |true =>
   rw[List.filter_cons_of_pos e,List.length_cons,List.take_succ_cons,List.drop_succ_cons]
   refine⟨λb c=>?_,i⟩
   rcases List.mem_cons.mp c with rfl|c
   .exact e
   .exact g b c
  |false =>
   have hf:∀b∈l,p b=false:=λb c=>by
    cases z:p b with
    |false=>rfl
    |true=>rw[d b c z]at e; cases e
   have:(a::l).filter p=[]:=by
    rw[List.filter_eq_nil_iff]
    intro b c
    rcases List.mem_cons.mp c with rfl|c
    .rw[e]; simp
    .rw[hf b c]; simp
   rw[this]
   refine⟨λb c=>by simp at c,λb c=>?_⟩
   rcases List.mem_cons.mp c with rfl|c
   .exact e
   .exact hf b c
def vT(V:Nat->Int × Int)(c:Nat):Tr:=.lst ((List.range c).map λi=>fT (V i))
theorem Y5{V:Nat->Int × Int}{c i:Nat}(h:i<c):aB (vT V c) (iT i)=.ok (fT (V i),false):=jG (by simp[h])
def Bf(V:Nat->Int × Int)(i j:Nat):Prop:=(V j).1*(V i).2<(V i).1*(V j).2\/((V j).1*(V i).2=(V i).1*(V j).2/\i<j)
def QW:BF:=(eX (dJ (aR mU (ak (aq aB (aj 1) (aj 0)) (ak (aq aB (aj 1) (aj 2)) au)))))
def Y6:SF:=(bw (aZ (g1 bx) (ak (tD [none,some 0,some 2] 1 (gN 0) QW (aj 0)) au)) (gN 3))
def Cw:SF:=(aC Y6 (eY (fY 1 p7 (ak (aj 3) (ak (aj 2) au)))))
theorem ahE{V:Nat->Int × Int}{c:Nat}(j:∀i,i<c->Fq 400 (V i))(M:c<=12){n:Nat}(o:n<c){zs:List Nat}(u:zs.Perm (List.range n))(v:zs.Pairwise (Bf V))(s3:Sl):∃(d:List Nat) (t3:Sl),Cw [.sh (vT V c),.ow (zs.map iT),.sh (iT n),s3]=.ok (.nx,[.sh (vT V c),.ow (d.map iT),.sh (iT n),t3])/\d.Perm (List.range (n+1))/\d.Pairwise (Bf V):=by
 have l:∀z∈zs,z<n:=λz m=>by simpa using u.mem_iff.mp m
 have O:zs.length=n:=by simpa using u.length_eq
 have t:=Y4 (r:=iT) (p:=λz=>!dU (V z) (V n)) (xs:=zs) (ρ:=[.sh (vT V c),.ow (zs.map iT),.sh (iT n),s3]) (rest:=[some 0,some 2]) (n:=1) (c:=QW) (by omega) rfl rfl (λC=>rfl) (λC=>rfl) (λz m=>by
  have w:z<c:=by have:=l z m; omega
  have e:=Iw (j z w) (j n o) (by omega)
  have D:=Y5 (V:=V) o
  have E:=Y5 (V:=V) w
  unfold QW
  dsimp only[fQ,List.map]
  generalize fT (V n)=Y,fT (V z)=X,vT V c=W,iT n=N,iT z=Z,dU (V z) (V n)=B at *
  simp -dsimp[oX,drs,dr,bN,e,D,E,gF])
 obtain⟨F,H⟩:=pref (p:=λz=>!dU (V z) (V n)) zs (v.imp_of_mem λ{a b} k f g x=>by
  obtain⟨_,_,y,_⟩:=j a (by have:=l a k; omega)
  obtain⟨_,_,P,_⟩:=j b (by have:=l b f; omega)
  obtain⟨_,_,Q,_⟩:=j n o
  have g:(V b).1*(V a).2<=(V a).1*(V b).2:=by
   rcases g with h|h <;> omega
  unfold dU at *
  simp only[Bool.not_eq_true',decide_eq_false_iff_not,Int.not_lt]at x ⊢
  refine Int.le_of_mul_le_mul_right (show(V n).1*(V a).2*(V b).2<=(V a).1*(V n).2*(V b).2 from ?_) (show 0<(V b).2 by omega)
  have I:=Int.mul_le_mul_of_nonneg_right x (show 0<=(V a).2 by omega)
  have J:=Int.mul_le_mul_of_nonneg_right g (show 0<=(V n).2 by omega)
  calc (V n).1*(V a).2*(V b).2=(V n).1*(V b).2*(V a).2:=by ac_rfl
   _<=(V b).1*(V n).2*(V a).2:=I
   _=(V b).1*(V a).2*(V n).2:=by ac_rfl
   _<=(V a).1*(V b).2*(V n).2:=J
   _=(V a).1*(V n).2*(V b).2:=by ac_rfl)
 have S:(zs.filter λz=>!dU (V z) (V n)).length<=zs.length:=List.length_filter_le ..
 have K:bx (.lst ((zs.filter λz=>!dU (V z) (V n)).map iT))=.ok (.int ((zs.filter λz=>!dU (V z) (V n)).length:Int),false):=by
  show Rs.ok (Tr.int (((zs.filter λz=>!dU (V z) (V n)).map iT).length:Int),false)=_
  rw[List.length_map]
 generalize T:(zs.filter λz=>!dU (V z) (V n)).length=q at *
 refine⟨zs.take q++n::zs.drop q,.sh (.int (q:Nat)),?_,?_,?_⟩
 .have em:p7 (zs.map iT) [.int (q:Nat),iT n]=.ok ((zs.take q++n::zs.drop q).map iT,.non):=by
   show(if 0<=(q:Int)/\(q:Int).toNat<=(zs.map iT).length/\(zs.map iT).length<=100000 then Rs.ok ((zs.map iT).take (q:Int).toNat++iT n::(zs.map iT).drop (q:Int).toNat,Tr.non)else .bad)=_
   rw[List.length_map,Int.toNat_natCast,if_pos (by omega),List.map_append,List.map_cons,List.map_take,List.map_drop]
  generalize (zs.take q++n::zs.drop q).map iT=R at *
  unfold Cw Y6
  generalize tD _ _ _ _ _=G at t ⊢
  generalize vT V c=X,iT n=N,zs.map iT=L,Tr.lst ((zs.filter λz=>!dU (V z) (V n)).map iT)=FL at *
  simp -dsimp[con,drs,dr,cls,g1,t,K,em,dD]
 .have:(zs.take q++n::zs.drop q).Perm (n::(zs.take q++zs.drop q)):=List.perm_middle
  rw[List.take_append_drop]at this
  rw[List.range_succ]
  exact this.trans ((u.cons n).trans (List.perm_append_comm (l₁:=[n])))
 .have s:(zs.take q++zs.drop q).Pairwise (Bf V):=by rw[List.take_append_drop]; exact v
  obtain⟨a1,a2,y⟩:=List.pairwise_append.mp s
  refine List.pairwise_append.mpr ⟨a1,List.pairwise_cons.mpr ⟨λb f=>?_,a2⟩,λa k b f=>?_⟩
  .have:=H b f
   unfold dU at this
   simp only[Bool.not_eq_false',decide_eq_true_eq]at this
   exact .inl this
  rcases List.mem_cons.mp f with rfl|f
  .have A:=F a k
   have U:=l a (List.mem_of_mem_take k)
   unfold dU at A
   simp only[Bool.not_eq_true',decide_eq_false_iff_not,Int.not_lt]at A
   unfold Bf
   omega
  .exact y a k b f
theorem Y7{V:Nat->Int × Int}{c:Nat}(j:∀i,i<c->Fq 400 (V i))(m:c<=12):∀(k n:Nat) (zs:List Nat) (s2 s3:Sl),n+k=c->zs.Perm (List.range n)->zs.Pairwise (Bf V)->∃(a:List Nat) (b t3:Sl),cG (gN 2) Cw ((List.range' n k).map iT) [.sh (vT V c),.ow (zs.map iT),s2,s3]=.ok (.nx,[.sh (vT V c),.ow (a.map iT),b,t3])/\a.Perm (List.range c)/\a.Pairwise (Bf V)
 | 0,n,zs,s2,s3,h,d,f=>by
  have:n=c:=by omega
  subst this
  exact⟨zs,s2,s3,rfl,d,f⟩
 |k+1,n,zs,s2,s3,h,d,f=>by
  obtain⟨g,l,e,o,p⟩:=ahE j m (n:=n) (by omega) d f s3
  obtain⟨a,b,t3,q,q1,q2⟩:=Y7 j m k (n+1) g (.sh (iT n)) l (by omega) o p
  refine⟨a,b,t3,?_,q1,q2⟩
  rw[List.range'_succ,List.map_cons]
  unfold cG
  rw[show(gN 2) (iT n) [.sh (vT V c),.ow (zs.map iT),s2,s3]=.ok [.sh (vT V c),.ow (zs.map iT),.sh (iT n),s3]from rfl]
  simp only[Rs.jk]
  rw[e]
  exact q
theorem ahF{V:Nat->Int × Int}{c:Nat}(d:∀i,i<c->Fq 400 (V i))(f:c<=12):∃zs:List Nat,qL [vT V c]=.ok (.lst (zs.map iT),true)/\zs.Perm (List.range c)/\zs.Pairwise (Bf V):=by
 obtain⟨zs,g,t3,e,h,j⟩:=Y7 d f c 0 [] .un .un (by omega) (by simp) .nil
 refine⟨zs,?_,h,j⟩
 have a:bL (cg (cR (ak (aZ (g1 bx) (ak (aj 0) au)) au)) (gN 2) Cw) [.sh (vT V c),.ow [],.un,.un]=.ok (.nx,[.sh (vT V c),.ow (zs.map iT),g,t3]):=by
  have k:bx (vT V c)=.ok (.int (c:Nat),false):=by
   show Rs.ok (Tr.int (((List.range c).map λi=>fT (V i)).length:Int),false)=_
   rw[List.length_map,List.length_range]
  have b:cR (ak (aZ (g1 bx) (ak (aj 0) au)) au) [.sh (vT V c),.ow [],.un,.un]=.ok ((List.range' 0 c).map iT,[.sh (vT V c),.ow [],.un,.un]):=by
   generalize vT V c=W at *
   rw[<-List.range_eq_range']
   have ok:okR (c:Int)=true:=by
    unfold okR
    simp
    omega
   simp -dsimp[drs,dr,bN,g1,k,ok]
   exact qR c
  generalize cR _=G at b ⊢
  unfold bL cg
  simp -dsimp[b]
  rw[show([]:List Tr)=([]:List Nat).map iT from rfl,e]
  rfl
 show bf 4 (aC (fX 1 (dO au)) (aC (bL (cg (cR (ak (aZ (g1 bx) (ak (aj 0) au)) au)) (gN 2) Cw)) (bB (aj 1)))) [vT V c]=_
 generalize bL _=G at a ⊢
 generalize vT V c=W,zs.map iT=L at *
 unfold bf
 simp -dsimp[bQ,cls,a]
theorem ahG(l:List (Int × Int)):vT (λi=>l.getD i (0,1)) l.length=.lst (l.map fT):=by
 unfold vT
 congr 1
 refine List.ext_getElem (by simp) λi a b=>?_
 have:i<l.length:=by simpa using a
 simp[this]
theorem order_eq{l:List (Int × Int)}(h:∀x∈l,Fq 400 x)(a:l.length<=12):∃zs:List Nat,qL [.lst (l.map fT)]=.ok (.lst (zs.map iT),true)/\Fall l zs:=by
 obtain⟨zs,e,b,d⟩:=ahF (V:=λi=>l.getD i (0,1)) (c:=l.length) (λi hi=>h _ (by simp[hi])) a
 rw[ahG]at e
 exact⟨zs,e,b,d⟩
theorem ahH(h0:0<=z)(c:z<=b)(g:1<=b)(h:b<=1000000000000):Wo (red z b):=by
 obtain⟨g1,g2,g3,d,e,i,j⟩:=zf (a:=z) (b:=b) (by omega)
 have k:=Int.ediv_le_self (a:=b) ((Int.gcd z b:Nat):Int) (by omega)
 have f:=Int.ediv_le_ediv g1 c
 exact⟨e h0,f,g3,by show b / ((Int.gcd z b:Nat):Int)<=_; omega,d⟩
def Iz:SF:=(cA (bY (aq jq (aj 7) (eC (.int 100)))) (bw (aR jz (ak (aj 0) (ak (aq cj (aq cC (aq cC (aq cC (aj 1) (eC (.int 1))) (aj 9)) (aq cV (eC (.int 5)) (aj 12))) (eC (.int 63))) au))) (gN 10)) cD)
def QX:SF:=(aC (eY (fY 11 dX (ak (aR oF (ak (aq cj (aj 10) (aq cC (aj 7) (eC (.int 1)))) (ak (aj 7) au))) au))) (bw (aq cL (aj 10) (aq cC (aj 7) (eC (.int 1)))) (gN 10)))
section
variable (ns:List Int)(a:Nat)(s2 s3 s4 s5 s6:Sl){b:Int}(B:List Tr)(k:Nat)
theorem ahI(o:Int)(R:List Tr)(j:Nat):∃c,Iz [.sh (.lst (ns.map .int)),.sh (.int a),s2,s3,s4,s5,s6,.sh (.int b),.ow B,.sh (.int k),.sh (.int o),.ow R,.sh (.int j)]=.ok (.nx,[.sh (.lst (ns.map .int)),.sh (.int a),s2,s3,s4,s5,s6,.sh (.int b),.ow B,.sh (.int k),.sh (.int c),.ow R,.sh (.int j)]):=by
 by_cases h:b > 100
 .obtain⟨d,l⟩:=lY ((a:Int)+1+k+5*j) 63 (by omega)
  obtain⟨x,e,_⟩:=cell_eq ns (((a:Int)+1+k+5*j).fmod 63).toNat
  rw[Int.toNat_of_nonneg d]at e
  refine⟨x,?_⟩
  have f:gM 5 j=true:=agL (by omega)
  unfold Iz
  generalize Tr.lst (ns.map .int)=T at *
  generalize g:((a:Int)+1+k+5*j).fmod 63=y at *
  simp -dsimp[dr,drs,bN,jq,gB,cu,h,cC,gI,cV,fD,f,cj,g,e]
 .refine⟨o,?_⟩
  unfold Iz
  have i:¬(100<b):=h
  generalize Tr.lst (ns.map .int)=T at *
  simp -dsimp[dr,jq,gB,cu,i,h]
theorem ahJ(f:1<=b)(d:b<=1000000000000)(o:Int)(l:List (Int × Int))(n:l.length<=1000)(c:Sl):∃(x:Int × Int) (g:Int),Wo x/\QX [.sh (.lst (ns.map .int)),.sh (.int a),s2,s3,s4,s5,s6,.sh (.int b),.ow B,.sh (.int k),.sh (.int o),.ow (l.map fT),c]=.ok (.nx,[.sh (.lst (ns.map .int)),.sh (.int a),s2,s3,s4,s5,s6,.sh (.int b),.ow B,.sh (.int k),.sh (.int g),.ow ((l++[x]).map fT),c]):=by
 have r:=lY o (b+1) (by omega)
 have h0:b+1≠0:=by omega
 have e:=Iu (a:=o.fmod (b+1)) (b:=b) (M:=40) r.1 f (by omega) (by omega)
 have h:jE o (b+1)=true:=mW (M:=50) h0 (by omega) (by omega)
 refine⟨red (o.fmod (b+1)) b,o.fdiv (b+1),ahH r.1 (by omega) f d,?_⟩
 rw[List.map_append,List.map_cons,List.map_nil]
 unfold QX
 generalize Tr.lst (ns.map .int)=T at *
 generalize i:o.fmod (b+1)=y at *
 generalize fT (red y b)=X at *
 have j:(l.map fT).length<=100000:=by rw[List.length_map]; omega
 generalize l.map fT=L at *
 generalize m:o.fdiv (b+1)=z at *
 simp -dsimp[dr,drs,bN,cls,con,dD,dX,cC,gI,fD,cj,cL,h0,h,i,m,e,j]
def IK:SF:=(aC Iz QX)
theorem Y8(n:1<=b)(d:b<=1000000000000):∀(m j:Nat) (o:Int) (l:List (Int × Int)) (c:Sl),l.length+m<=1000->(∀x∈l,Wo x)->∃(e:List (Int × Int)) (g:Int) (i:Sl),e.length=l.length+m/\(∀x∈e,Wo x) /\
  cG (gN 12) IK ((List.range' j m).map iT) [.sh (.lst (ns.map .int)),.sh (.int a),s2,s3,s4,s5,s6,.sh (.int b),.ow B,.sh (.int k),.sh (.int o),.ow (l.map fT),c]=.ok (.nx,[.sh (.lst (ns.map .int)),.sh (.int a),s2,s3,s4,s5,s6,.sh (.int b),.ow B,.sh (.int k),.sh (.int g),.ow (e.map fT),i])
 | 0,j,o,l,c,_,h=>⟨l,o,c,rfl,h,rfl⟩
 |m+1,j,o,l,c,hm,h=>by
  obtain⟨p,q⟩:=ahI ns a s2 s3 s4 s5 s6 (b:=b) B k o (l.map fT) j
  obtain⟨x,r,s,t⟩:=ahJ ns a s2 s3 s4 s5 s6 B k n d p l (by omega) (.sh (.int j))
  obtain⟨e,g,i,u,v,w⟩:=Y8 n d m (j+1) r (l++[x]) (.sh (.int j)) (by rw[List.length_append,List.length_singleton]; omega) (λy f=>by
   rcases List.mem_append.mp f with f|f
   .exact h y f
   .rw[List.mem_singleton.mp f]; exact s)
  refine⟨e,g,i,by rw[u,List.length_append,List.length_singleton]; omega,v,?_⟩
  rw[List.range'_succ,List.map_cons]
  refine jR ?_ w
  show IK [.sh (.lst (ns.map .int)),.sh (.int a),s2,s3,s4,s5,s6,.sh (.int b),.ow B,.sh (.int k),.sh (.int o),.ow (l.map fT),.sh (.int j)]=_
  unfold IK aC
  rw[q]
  exact t
end
def IV:SF:=(cg (cR (ak (aj 5) au)) (gN 12) IK)
def yE:SF:=(aC (bw (aR jz (ak (aj 0) (ak (aq cC (aq cC (aj 1) (eC (.int 1))) (aj 9)) au))) (gN 10)) (aC (fX 11 (dO au)) (aC IV (mL 11 (eY (fY 8 dX (ak (aj 11) au)))))))
theorem ahK:Pk=(aC (bw (aR jz (ak (aj 0) (ak (aj 1) au))) (gN 4)) (aC (bw (aq cC (eC (.int 1)) (aq cj (aj 4) (aj 3))) (gN 5)) (aC (bw (aq cC (eC (.int 1)) (aq cj (aq cL (aj 4) (aj 3)) (aj 2))) (gN 6)) (aC (bw (aq aB (sO [.int 2,.int 3,.int 4,.int 6,.int 10,.int 24,.int 97,.int 999999999999]) (aq cj (aq cL (aj 4) (eC (.int 1000))) (eC (.int 8)))) (gN 7)) (aC (fX 8 (dO au)) (aC (bL (cg (cR (ak (aj 6) au)) (gN 9) yE)) (bB (aj 8)))))))):=rfl
section
variable (ns:List Int)(a:Nat)(s2 s3 s4 s6:Sl){b:Int}{m:Nat}
theorem ahL(i:1<=b)(d:b<=1000000000000)(hm:m<=12)(B:List Tr)(k:Nat)(o:Int)(c:Sl):∃(l:List (Int × Int)) (f:Int) (g:Sl),l.length=m/\(∀x∈l,Wo x)/\IV [.sh (.lst (ns.map .int)),.sh (.int a),s2,s3,s4,.sh (.int m),s6,.sh (.int b),.ow B,.sh (.int k),.sh (.int o),.ow [],c]=.ok (.nx,[.sh (.lst (ns.map .int)),.sh (.int a),s2,s3,s4,.sh (.int m),s6,.sh (.int b),.ow B,.sh (.int k),.sh (.int f),.ow (l.map fT),g]):=by
 obtain⟨l,f,g,j,p,e⟩:=Y8 ns a s2 s3 s4 (.sh (.int m)) s6 B k i d m 0 o [] c (by simp; omega) (λx q=>by cases q)
 refine⟨l,f,g,by simpa using j,p,?_⟩
 have h:cR (ak (aj 5) au) [.sh (.lst (ns.map .int)),.sh (.int a),s2,s3,s4,.sh (.int m),s6,.sh (.int b),.ow B,.sh (.int k),.sh (.int o),.ow [],c]=.ok ((List.range' 0 m).map iT,[.sh (.lst (ns.map .int)),.sh (.int a),s2,s3,s4,.sh (.int m),s6,.sh (.int b),.ow B,.sh (.int k),.sh (.int o),.ow [],c]):=by
  generalize Tr.lst (ns.map .int)=T at *
  rw[<-List.range_eq_range']
  have ok:=uY (n:=m) (by omega)
  simp -dsimp[drs,dr,bN,ok]
  exact qR m
 unfold IV
 generalize cR _=G at h ⊢
 unfold cg
 simp only[h]
 exact e
theorem ahM(n:1<=b)(f:b<=1000000000000)(hm:m<=12)(rows:List (List (Int × Int)))(w:rows.length<=1000)(k:Nat)(o p c:Sl):∃(l:List (Int × Int)) (g h d:Sl),l.length=m/\(∀x∈l,Wo x)/\yE [.sh (.lst (ns.map .int)),.sh (.int a),s2,s3,s4,.sh (.int m),s6,.sh (.int b),.ow (rows.map aH),.sh (.int k),o,p,c]=.ok (.nx,[.sh (.lst (ns.map .int)),.sh (.int a),s2,s3,s4,.sh (.int m),s6,.sh (.int b),.ow ((rows++[l]).map aH),.sh (.int k),g,h,d]):=by
 obtain⟨x,e,_⟩:=cell_eq ns (a+1+k)
 have q:(((a+1+k:Nat)):Int)=(a:Int)+1+k:=by omega
 rw[q]at e
 obtain⟨l,i,d,r,s,t⟩:=ahL ns a s2 s3 s4 s6 n f hm (rows.map aH) k x c
 refine⟨l,.sh (.int i),.sh (aH l),d,r,s,?_⟩
 have u:(rows.map aH).length<=100000:=by rw[List.length_map]; omega
 rw[List.map_append,List.map_cons,List.map_nil]
 have v:Tr.lst (l.map fT)=aH l:=rfl
 unfold yE
 generalize rows.map aH=L,Tr.lst (ns.map .int)=T,IV=G at *
 have j:fC 11 [.sh T,.sh (.int a),s2,s3,s4,.sh (.int m),s6,.sh (.int b),.ow L,.sh (.int k),.sh (.int i),.ow (l.map fT),d]=[.sh T,.sh (.int a),s2,s3,s4,.sh (.int m),s6,.sh (.int b),.ow L,.sh (.int k),.sh (.int i),.sh (.lst (l.map fT)),d]:=rfl
 rw[v]at j
 generalize aH l=X at *
 simp -dsimp[dr,drs,bN,cls,con,dD,dX,cC,gI,e,t,j,u]
theorem Y9(u:1<=b)(f:b<=1000000000000)(hm:m<=12):∀(w k:Nat) (rows:List (List (Int × Int))) (o g i c:Sl),rows.length+w<=1000->Qk m rows->∃(j:List (List (Int × Int))) (p d e q:Sl),j.length=rows.length+w/\Qk m j /\
  cG (gN 9) yE ((List.range' k w).map iT) [.sh (.lst (ns.map .int)),.sh (.int a),s2,s3,s4,.sh (.int m),s6,.sh (.int b),.ow (rows.map aH),o,g,i,c]=.ok (.nx,[.sh (.lst (ns.map .int)),.sh (.int a),s2,s3,s4,.sh (.int m),s6,.sh (.int b),.ow (j.map aH),p,d,e,q])
 | 0,k,rows,o,g,i,c,_,h=>⟨rows,o,g,i,c,rfl,h,rfl⟩
 |w+1,k,rows,o,g,i,c,hw,h=>by
  obtain⟨l,r,s,t,v,y,z⟩:=ahM ns a s2 s3 s4 s6 u f hm rows (by omega) k g i c
  obtain⟨j,p,d,e,q,g1,g2,A⟩:=Y9 u f hm w (k+1) (rows++[l]) (.sh (.int k)) r s t (by rw[List.length_append,List.length_singleton]; omega) (λx n=>by
   rcases List.mem_append.mp n with n|n
   .exact h x n
   .rw[List.mem_singleton.mp n]; exact⟨v,y⟩)
  refine⟨j,p,d,e,q,by rw[g1,List.length_append,List.length_singleton]; omega,g2,?_⟩
  rw[List.range'_succ,List.map_cons]
  exact jR z A
theorem ahN(i:Nat)(h:i<8):∃b:Int,([.int 2,.int 3,.int 4,.int 6,.int 10,.int 24,.int 97,.int 999999999999]:List Tr)[i]?=some (.int b)/\1<=b/\b<=1000000000000:=by
 have:i=0\/i=1\/i=2\/i=3\/i=4\/i=5\/i=6\/i=7:=by omega
 rcases this with rfl|rfl|rfl|rfl|rfl|rfl|rfl|rfl <;> exact⟨_,rfl,by omega,by omega⟩
theorem ahO:∃(m:Nat) (rows:List (List (Int × Int))),Bk m rows/\BL [.lst (ns.map .int),.int (a:Nat),.int 4,.int 12]=.ok (aP rows,true):=by
 obtain⟨x,e,x0,q⟩:=cell_eq ns a
 have D:=lY x 12 (by omega)
 have E:=lY (x.fdiv 12) 4 (by omega)
 have r:=lY (x.fdiv 1000) 8 (by omega)
 obtain⟨b,s,t,u⟩:=ahN ((x.fdiv 1000).fmod 8).toNat (by omega)
 have c:=jG s
 rw[Int.toNat_of_nonneg r.1]at c
 have v:jE x 12=true:=mW (M:=10) (by omega) (by omega) (by omega)
 have y:jE x 1000=true:=mW (M:=20) (by omega) (by omega) (by omega)
 obtain⟨m,hm⟩:∃m:Nat,1+x.fmod 12=(m:Int):=⟨(1+x.fmod 12).toNat,by omega⟩
 obtain⟨w,hw⟩:∃w:Nat,1+(x.fdiv 12).fmod 4=(w:Int):=⟨(1+(x.fdiv 12).fmod 4).toNat,by omega⟩
 obtain⟨rows,z,d,f,A,g1,g2,B⟩:=Y9 ns a (.sh (.int 4)) (.sh (.int 12)) (.sh (.int x)) (.sh (.int w)) t u (m:=m) (by omega) w 0 [] .un .un .un .un (by simp; omega) (λl C=>by cases C)
 have g1:rows.length=w:=by simpa using g1
 refine⟨m,rows,⟨by omega,by omega,by omega,by omega,g2⟩,?_⟩
 have o:bL (cg (cR (ak (aj 6) au)) (gN 9) yE) [.sh (.lst (ns.map .int)),.sh (.int a),.sh (.int 4),.sh (.int 12),.sh (.int x),.sh (.int m),.sh (.int w),.sh (.int b),.ow [],.un,.un,.un,.un]=.ok (.nx,[.sh (.lst (ns.map .int)),.sh (.int a),.sh (.int 4),.sh (.int 12),.sh (.int x),.sh (.int m),.sh (.int w),.sh (.int b),.ow (rows.map aH),z,d,f,A]):=by
  have p:cR (ak (aj 6) au) [.sh (.lst (ns.map .int)),.sh (.int a),.sh (.int 4),.sh (.int 12),.sh (.int x),.sh (.int m),.sh (.int w),.sh (.int b),.ow [],.un,.un,.un,.un]=.ok ((List.range' 0 w).map iT,[.sh (.lst (ns.map .int)),.sh (.int a),.sh (.int 4),.sh (.int 12),.sh (.int x),.sh (.int m),.sh (.int w),.sh (.int b),.ow [],.un,.un,.un,.un]):=by
   generalize Tr.lst (ns.map .int)=T at *
   rw[<-List.range_eq_range']
   have ok:=uY (n:=w) (by omega)
   simp -dsimp[drs,dr,bN,ok]
   exact qR w
  generalize cR _=G at p ⊢
  unfold bL cg
  simp only[p]
  show dF (cG (gN 9) yE ((List.range' 0 w).map iT) _)=_
  rw[show([]:List Tr)=([]:List (List (Int × Int))).map aH from rfl,B]
  rfl
 unfold BL
 rw[ahK]
 unfold bf aP
 generalize Tr.lst (ns.map .int)=T,rows.map aH=R at *
 generalize g:x.fmod 12=q at *
 generalize h:x.fdiv 12=x2 at *
 generalize i:x2.fmod 4=x3 at *
 generalize j:x.fdiv 1000=x4 at *
 generalize k:x4.fmod 8=x5 at *
 generalize bL _=G at o ⊢
 simp -dsimp[bQ,dr,drs,bN,cls,con,e,cC,gI,cj,fD,cL,v,y,g,h,i,j,k,hm,hw,c,o]
end
def Cz:SF:=(aC (eY (fY 5 dX (ak (aq cj (aj 3) (aq cC (aj 4) (eC (.int 1)))) au))) (bw (aq cL (aj 3) (aq cC (aj 4) (eC (.int 1)))) (gN 3)))
section
variable (S A Bt:Tr){m:Nat}
theorem ahP(hm:m<=12)(x:Int)(ds:List Nat)(hd:ds.length<=1000)(b c e f:Sl):∃(d:Nat) (g:Int),d<=m/\Cz [.sh S,.sh A,.sh Bt,.sh (.int x),.sh (.int m),.ow (ds.map iT),b,c,e,f]=.ok (.nx,[.sh S,.sh A,.sh Bt,.sh (.int g),.sh (.int m),.ow ((ds++[d]).map iT),b,c,e,f]):=by
 have r:=lY x ((m:Int)+1) (by omega)
 have h0:(m:Int)+1≠0:=by omega
 have h:jE x ((m:Int)+1)=true:=mW (M:=20) h0 (by omega) (by omega)
 obtain⟨d,a⟩:∃d:Nat,x.fmod ((m:Int)+1)=(d:Int):=⟨(x.fmod ((m:Int)+1)).toNat,by omega⟩
 refine⟨d,x.fdiv ((m:Int)+1),by omega,?_⟩
 have i:(ds.map iT).length<=100000:=by rw[List.length_map]; omega
 rw[List.map_append,List.map_cons,List.map_nil]
 have j:iT d=.int (d:Nat):=rfl
 rw[j]
 unfold Cz
 generalize ds.map iT=L at *
 generalize k:x.fdiv ((m:Int)+1)=z at *
 simp -dsimp[dr,drs,bN,cls,con,dD,dX,cC,gI,fD,cj,cL,h0,h,a,k,i]
theorem Za(hm:m<=12):∀(w j:Nat) (x:Int) (ds:List Nat) (g b c e:Sl),ds.length+w<=1000->(∀d∈ds,d<=m)->∃(a:List Nat) (i:Int) (k:Sl),a.length=ds.length+w/\(∀d∈a,d<=m) /\
  cG (gN 6) Cz ((List.range' j w).map iT) [.sh S,.sh A,.sh Bt,.sh (.int x),.sh (.int m),.ow (ds.map iT),g,b,c,e]=.ok (.nx,[.sh S,.sh A,.sh Bt,.sh (.int i),.sh (.int m),.ow (a.map iT),k,b,c,e])
 | 0,j,x,ds,g,b,c,e,_,h=>⟨ds,x,g,rfl,h,rfl⟩
 |w+1,j,x,ds,g,b,c,e,hw,h=>by
  obtain⟨d,l,n,o⟩:=ahP S A Bt hm x ds (by omega) (.sh (iT j)) b c e
  obtain⟨a,i,k,g1,g2,p⟩:=Za hm w (j+1) l (ds++[d]) (.sh (iT j)) b c e (by rw[List.length_append,List.length_singleton]; omega) (λy f=>by
   rcases List.mem_append.mp f with f|f
   .exact h y f
   .rw[List.mem_singleton.mp f]; exact n)
  refine⟨a,i,k,by rw[g1,List.length_append,List.length_singleton]; omega,g2,?_⟩
  rw[List.range'_succ,List.map_cons]
  exact jR o p
def CG:SF:=(aC (cA (bY (aq bT (aq cj (aj 8) (eC (.int 5))) (eC (.int 1)))) (eY (fY 7 dX (ak (jd (ak (aj 6) (ak (aj 9) au))) au))) cD) (bw (aq cL (aj 8) (eC (.int 5))) (gN 8)))
theorem ahQ(s3 s4 s5:Sl)(k j:Nat)(o:Int)(as:List (Nat × Nat))(g:as.length<=1000):∃(d:Int) (r:List (Nat × Nat)),(r=[]\/r=[(k,j)])/\CG [.sh S,.sh A,.sh Bt,s3,s4,s5,.sh (iT k),.ow (as.map pT),.sh (.int o),.sh (iT j)]=.ok (.nx,[.sh S,.sh A,.sh Bt,s3,s4,s5,.sh (iT k),.ow ((as++r).map pT),.sh (.int d),.sh (iT j)]):=by
 have b:jE o 5=true:=mW (M:=20) (by omega) (by omega) (by omega)
 have c:(as.map pT).length<=100000:=by rw[List.length_map]; omega
 by_cases h:o.fmod 5=1
 .refine⟨o.fdiv 5,[(k,j)],.inr rfl,?_⟩
  rw[List.map_append,List.map_cons,List.map_nil]
  have e:pT (k,j)=.tup [iT k,iT j]:=rfl
  rw[e]
  unfold CG
  generalize iT j=Y,iT k=X,as.map pT=L at *
  generalize a:o.fdiv 5=z at *
  simp -dsimp[dr,drs,bN,cls,con,dD,dX,fD,cj,cL,b,h,a,c,bT,cu,eqT,dep]
 .refine⟨o.fdiv 5,[],.inl rfl,?_⟩
  rw[List.append_nil]
  unfold CG
  generalize iT j=Y,iT k=X,as.map pT=L at *
  generalize a:o.fdiv 5=z at *
  generalize f:o.fmod 5=y at *
  simp -dsimp[dr,drs,bN,cls,con,dD,dX,fD,cj,cL,b,h,f,a,c,bT,cu,eqT,dep]
end
def Ak(m k j:Nat)(as:List (Nat × Nat)):Prop:=as.Pairwise Lx/\(∀p∈as,Lx p (k,j)/\p.2<m)/\as.length<=m*k+j
theorem Ak.step(h:Ak m k j as)(d:j<m)(e:r=[]\/r=[(k,j)]):Ak m k (j+1) (as++r):=by
 obtain⟨b,a,g⟩:=h
 have c:∀p,Lx p (k,j)->Lx p (k,j+1):=λp q=>by
  unfold Lx at *
  rcases q with q|q
  .exact .inl q
  .exact .inr ⟨q.1,by have:=q.2; dsimp only at this ⊢; omega⟩
 rcases e with rfl|rfl
 .rw[List.append_nil]
  exact⟨b,λp m=>⟨c p (a p m).1,(a p m).2⟩,by omega⟩
 .refine⟨List.pairwise_append.mpr ⟨b,List.pairwise_singleton _ _,λp mp q f=>?_⟩,λp mp=>?_,by rw[List.length_append,List.length_singleton]; omega⟩
  .rw[List.mem_singleton.mp f]
   exact(a p mp).1
  .rcases List.mem_append.mp mp with mp|mp
   .exact⟨c p (a p mp).1,(a p mp).2⟩
   .rw[List.mem_singleton.mp mp]
    exact⟨.inr ⟨rfl,Nat.lt_succ_self j⟩,d⟩
theorem Ak.next(h:Ak m k m as):Ak m (k+1) 0 as:=by
 obtain⟨b,a,c⟩:=h
 refine⟨b,λp m=>⟨.inl ?_,(a p m).2⟩,by rw[Nat.mul_succ]; omega⟩
 rcases(a p m).1 with q|q
 .dsimp only at q ⊢; omega
 .have:=q.1; dsimp only at this ⊢; omega
section
variable (S A Bt:Tr){m:Nat}
theorem Zb(hm:m<=12)(s3 s4 s5:Sl)(k:Nat)(f:k<=4):∀(w j:Nat) (o:Int) (as:List (Nat × Nat)) (b:Sl),j+w=m->Ak m k j as->∃(a:List (Nat × Nat)) (d:Int) (e:Sl),Ak m k m a /\
  cG (gN 9) CG ((List.range' j w).map iT) [.sh S,.sh A,.sh Bt,s3,s4,s5,.sh (iT k),.ow (as.map pT),.sh (.int o),b]=.ok (.nx,[.sh S,.sh A,.sh Bt,s3,s4,s5,.sh (iT k),.ow (a.map pT),.sh (.int d),e])
 | 0,j,o,as,b,h,c=>by
  have:j=m:=by omega
  subst this
  exact⟨as,o,b,c,rfl⟩
 |w+1,j,o,as,b,h,c=>by
  have mk:m*k<=12*4:=Nat.mul_le_mul hm f
  obtain⟨i,r,l,n⟩:=ahQ S A Bt s3 s4 s5 k j o as (by have:=c.2.2; omega)
  obtain⟨a,d,e,g,p⟩:=Zb hm s3 s4 s5 k f w (j+1) i (as++r) (.sh (iT j)) (by omega) (c.step (by omega) l)
  refine⟨a,d,e,g,?_⟩
  rw[List.range'_succ,List.map_cons]
  exact jR n p
end
def QZ:SF:=(cA (bY (aq bT (aj 6) (eC (.int 2)))) (bw (aR jz (ak (aj 0) (ak (aq cC (aj 1) (eC (.int 50))) au))) (gN 8)) cD)
def Q0:SF:=(cg (cR (ak (aj 4) au)) (gN 9) CG)
def CJ:SF:=(aC QZ Q0)
section
variable (ns:List Int)(a:Nat)(Bt:Tr){m:Nat}
theorem ahR(s3 s4 s5 b c:Sl)(k:Nat)(o:Int):∃d,QZ [.sh (.lst (ns.map .int)),.sh (.int a),.sh Bt,s3,s4,s5,.sh (iT k),b,.sh (.int o),c]=.ok (.nx,[.sh (.lst (ns.map .int)),.sh (.int a),.sh Bt,s3,s4,s5,.sh (iT k),b,.sh (.int d),c]):=by
 obtain⟨x,e,_⟩:=cell_eq ns (a+50)
 have f:((a+50:Nat):Int)=(a:Int)+50:=by omega
 rw[f]at e
 unfold QZ iT
 generalize Tr.lst (ns.map .int)=T at *
 by_cases h:k=2
 .refine⟨x,?_⟩
  subst h
  simp -dsimp[dr,drs,bN,cC,gI,e,bT,cu,eqT,dep]
 .refine⟨o,?_⟩
  have g:¬(k:Int)=2:=by omega
  generalize (k:Int)=K at *
  simp -dsimp[dr,drs,bN,g,bT,cu,eqT,dep]
theorem ahS(hm:m<=12)(s3 s5:Sl)(k:Nat)(i:k<=4)(o:Int)(as:List (Nat × Nat))(c:Sl)(j:Ak m k 0 as):∃(b:List (Nat × Nat)) (d:Int) (f:Sl),Ak m (k+1) 0 b/\Q0 [.sh (.lst (ns.map .int)),.sh (.int a),.sh Bt,s3,.sh (.int m),s5,.sh (iT k),.ow (as.map pT),.sh (.int o),c]=.ok (.nx,[.sh (.lst (ns.map .int)),.sh (.int a),.sh Bt,s3,.sh (.int m),s5,.sh (iT k),.ow (b.map pT),.sh (.int d),f]):=by
 generalize l:Tr.lst (ns.map .int)=T
 obtain⟨b,d,f,g,e⟩:=Zb T (.int a) Bt hm s3 (.sh (.int m)) s5 k i m 0 o as c (by omega) j
 refine⟨b,d,f,g.next,?_⟩
 have h:cR (ak (aj 4) au) [.sh T,.sh (.int a),.sh Bt,s3,.sh (.int m),s5,.sh (iT k),.ow (as.map pT),.sh (.int o),c]=.ok ((List.range' 0 m).map iT,[.sh T,.sh (.int a),.sh Bt,s3,.sh (.int m),s5,.sh (iT k),.ow (as.map pT),.sh (.int o),c]):=by
  rw[<-List.range_eq_range']
  have ok:=uY (n:=m) (by omega)
  generalize iT k=X,as.map pT=L at *
  simp -dsimp[drs,dr,bN,ok]
  exact qR m
 unfold Q0
 generalize cR _=G at h ⊢
 unfold cg
 simp only[h]
 exact e
theorem Zc(hm:m<=12)(s3 s5:Sl):∀(w k:Nat) (o:Int) (as:List (Nat × Nat)) (d c:Sl),k+w<=4->Ak m k 0 as->∃(b:List (Nat × Nat)) (e:Int) (f g:Sl),Ak m (k+w) 0 b /\
  cG (gN 6) CJ ((List.range' k w).map iT) [.sh (.lst (ns.map .int)),.sh (.int a),.sh Bt,s3,.sh (.int m),s5,d,.ow (as.map pT),.sh (.int o),c]=.ok (.nx,[.sh (.lst (ns.map .int)),.sh (.int a),.sh Bt,s3,.sh (.int m),s5,f,.ow (b.map pT),.sh (.int e),g])
 | 0,k,o,as,d,c,_,h=>⟨as,o,d,c,h,rfl⟩
 |w+1,k,o,as,d,c,hw,h=>by
  obtain⟨j,l⟩:=ahR ns a Bt s3 (.sh (.int m)) s5 (.ow (as.map pT)) c k o
  obtain⟨i,n,p,g1,q⟩:=ahS ns a Bt hm s3 s5 k (by omega) j as c h
  obtain⟨b,e,f,g,g2,r⟩:=Zc hm s3 s5 w (k+1) n i (.sh (iT k)) p (by omega) g1
  refine⟨b,e,f,g,by rw[show k+(w+1)=k+1+w by omega]; exact g2,?_⟩
  rw[List.range'_succ,List.map_cons]
  refine jR ?_ r
  show CJ [.sh (.lst (ns.map .int)),.sh (.int a),.sh Bt,s3,.sh (.int m),s5,.sh (iT k),.ow (as.map pT),.sh (.int o),c]=_
  unfold CJ aC
  rw[l]
  exact q
end
def CK:SF:=(cA (bY (aq bT (aq cj (aj 3) (eC (.int 4))) (eC (.int 0)))) (mL 5 (fX 5 (dG [none] (cM (aj 5)) (gN 0) cO (aq cL (aj 0) (eC (.int 2)))))) cD)
def CN:SF:=(cA (bY (aq bT (aq cj (aq cL (aj 3) (eC (.int 4))) (eC (.int 3))) (eC (.int 0)))) (fX 7 (dO au)) cD)
def IW:SF:=(cg (cR (ak (aZ (g1 bx) (ak (aj 2) au)) au)) (gN 6) Cz)
def Ja:SF:=(cg (cR (ak (aZ (g1 bx) (ak (aj 2) au)) au)) (gN 6) CJ)
theorem ahT:Pq=(aC (bw (aR jz (ak (aj 0) (ak (aj 1) au))) (gN 3)) (aC (bw (aZ (g1 bx) (ak (aq aB (aj 2) (eC (.int 0))) au)) (gN 4)) (aC (fX 5 (dO au)) (aC (bL IW) (aC CK (aC (fX 7 (dO au)) (aC (bw (aR jz (ak (aj 0) (ak (aq cC (aj 1) (eC (.int 1))) au))) (gN 8)) (aC (bL Ja) (aC CN (mL 7 (mL 5 (bB (jd (ak (aj 5) (ak (aj 7) au))))))))))))))):=rfl
section
variable (S A Bt:Tr){m:Nat}
theorem ahU(x:Int)(ds:List Nat)(hd:ds.length<=1000)(h:∀d∈ds,d<=m)(s4 b c f g:Sl):∃a:List Nat,a.length=ds.length/\(∀d∈a,d<=m)/\CK [.sh S,.sh A,.sh Bt,.sh (.int x),s4,.ow (ds.map iT),b,c,f,g]=.ok (.nx,[.sh S,.sh A,.sh Bt,.sh (.int x),s4,.ow (a.map iT),b,c,f,g]):=by
 by_cases j:x.fmod 4=0
 .refine⟨ds.map (· / 2),by rw[List.length_map],λd hd=>?_,?_⟩
  .obtain⟨e,he,rfl⟩:=List.mem_map.mp hd
   have:=h e he
   omega
  .have em:=qQ (r:=iT) (h:=λd=>iT (d / 2)) (xs:=ds) (ρ:=[.sh S,.sh A,.sh Bt,.sh (.int x),s4,.sh (.lst (ds.map iT)),b,c,f,g]) (τ:=[]) (rest:=[]) (i:=cM (aj 5)) (fe:=aq cL (aj 0) (eC (.int 2))) (by omega) (by
     generalize ds.map iT=L at *
     simp -dsimp[dr,nQ]) rfl (λk=>rfl) (λk=>rfl) (λd s=>⟨false,by
     have l:jE (d:Int) 2=true:=mW (M:=20) (by omega) (by omega) (by omega)
     have n:(d:Int).fdiv 2=((d / 2:Nat):Int):=by
      rw[Int.fdiv_eq_ediv_of_nonneg _ (by omega)]
      omega
     unfold iT
     simp -dsimp[dr,cL,fD,l,n]⟩)
   have o:fC 5 [.sh S,.sh A,.sh Bt,.sh (.int x),s4,.ow (ds.map iT),b,c,f,g]=[.sh S,.sh A,.sh Bt,.sh (.int x),s4,.sh (.lst (ds.map iT)),b,c,f,g]:=rfl
   have p:(ds.map λd=>iT (d / 2))=(ds.map (· / 2)).map iT:=by rw[List.map_map]; rfl
   rw[p]at em
   unfold CK
   generalize dG _ _ _ _ _=G at em ⊢
   generalize ds.map iT=L,(ds.map (· / 2)).map iT=R at *
   simp -dsimp[dr,drs,bN,cj,fD,j,bT,cu,eqT,dep,o,em]
 .refine⟨ds,rfl,h,?_⟩
  unfold CK
  generalize q:x.fmod 4=y at *
  generalize ds.map iT=L at *
  simp -dsimp[dr,drs,bN,cj,fD,q,j,bT,cu,eqT,dep]
theorem ahV(x:Int)(as:List (Nat × Nat))(s4 s5 b c d:Sl):∃a:List (Nat × Nat),(a=as\/a=[])/\CN [.sh S,.sh A,.sh Bt,.sh (.int x),s4,s5,b,.ow (as.map pT),c,d]=.ok (.nx,[.sh S,.sh A,.sh Bt,.sh (.int x),s4,s5,b,.ow (a.map pT),c,d]):=by
 have e:jE x 4=true:=mW (M:=20) (by omega) (by omega) (by omega)
 generalize f:x.fdiv 4=z
 generalize g:z.fmod 3=y
 by_cases h:y=0
 .refine⟨[],.inr rfl,?_⟩
  rw[List.map_nil]
  unfold CN
  generalize as.map pT=L at *
  simp -dsimp[dr,drs,bN,cls,cj,cL,fD,e,f,g,h,bT,cu,eqT,dep]
 .refine⟨as,.inl rfl,?_⟩
  unfold CN
  generalize as.map pT=L at *
  simp -dsimp[dr,drs,bN,cls,cj,cL,fD,e,f,g,h,bT,cu,eqT,dep]
end
theorem Ak.lk(a:ds.length=n)(b:∀d∈ds,d<=m)(c:n<=4)(hm:m<=12)(h:Ak m n 0 as):Lk n m ds as:=by
 have mk:m*n<=12*4:=Nat.mul_le_mul hm c
 refine⟨a,b,h.1,by have:=h.2.2; omega,λp mp=>⟨?_,(h.2.1 p mp).2⟩⟩
 rcases(h.2.1 p mp).1 with q|q
 .exact q
 .have:=q.2; dsimp only at this; omega
section
variable (ns:List Int)(a:Nat)
theorem Zd(b:n<=1000)(c:bx Bt=.ok (.int (n:Nat),false))(s0 s1:Sl)(r:En):cR (ak (aZ (g1 bx) (ak (aj 2) au)) au) (s0::s1 :: .sh Bt::r)=.ok ((List.range' 0 n).map iT,s0::s1 :: .sh Bt::r):=by
 rw[<-List.range_eq_range']
 have ok:=uY (n:=n) b
 simp -dsimp[drs,dr,bN,g1,c,ok]
 exact qR n
theorem ahW(A:Bk m rows):∃(ds:List Nat) (as:List (Nat × Nat)),Lk rows.length m ds as/\BP [.lst (ns.map .int),.int (a:Nat),aP rows]=.ok (bM ds as,false):=by
 obtain⟨B,C,O,j,D⟩:=A
 obtain⟨x,e,_⟩:=cell_eq ns a
 obtain⟨y,u,_⟩:=cell_eq ns (a+1)
 have E:((a+1:Nat):Int)=(a:Int)+1:=by omega
 rw[E]at u
 have k:=wI rows
 obtain⟨l,v⟩:∃l,rows[0]?=some l:=⟨rows[0],List.getElem?_eq_getElem B⟩
 have F:aB (aP rows) (.int 0)=.ok (aH l,false):=yu v
 have G:l.length=m:=(D l (List.mem_of_getElem? v)).1
 have w:=yw l
 rw[G]at w
 obtain⟨h,b,i,n,H,I⟩:=Za (.lst (ns.map .int)) (.int a) (aP rows) j rows.length 0 x [] .un .un .un .un (by simp; omega) (λd hd=>by cases hd)
 have n:h.length=rows.length:=by simpa using n
 obtain⟨ds,f1,f2,J⟩:=ahU (.lst (ns.map .int)) (.int a) (aP rows) b h (by omega) H (.sh (.int m)) i .un .un .un
 obtain⟨c,o,f,g,z,K⟩:=Zc ns a (aP rows) j (.sh (.int b)) (.ow (ds.map iT)) rows.length 0 y [] i .un (by omega) ⟨.nil,(λp q=>by cases q),by simp⟩
 rw[Nat.zero_add]at z
 obtain⟨as,has,L⟩:=ahV (.lst (ns.map .int)) (.int a) (aP rows) b c (.sh (.int m)) (.ow (ds.map iT)) f (.sh (.int o)) g
 have r:Ak m rows.length 0 as:=by
  rcases has with rfl|rfl
  .exact z
  .exact⟨.nil,(λp q=>by cases q),by simp⟩
 refine⟨ds,as,r.lk (f1.trans n) f2 C j,?_⟩
 have s:bL IW [.sh (.lst (ns.map .int)),.sh (.int a),.sh (aP rows),.sh (.int x),.sh (.int m),.ow [],.un,.un,.un,.un]=.ok (.nx,[.sh (.lst (ns.map .int)),.sh (.int a),.sh (aP rows),.sh (.int b),.sh (.int m),.ow (h.map iT),i,.un,.un,.un]):=by
  unfold IW bL cg
  rw[Zd (by omega) k]
  show dF (cG (gN 6) Cz ((List.range' 0 rows.length).map iT) _)=_
  rw[show([]:List Tr)=([]:List Nat).map iT from rfl,I]
  rfl
 have t:bL Ja [.sh (.lst (ns.map .int)),.sh (.int a),.sh (aP rows),.sh (.int b),.sh (.int m),.ow (ds.map iT),i,.ow [],.sh (.int y),.un]=.ok (.nx,[.sh (.lst (ns.map .int)),.sh (.int a),.sh (aP rows),.sh (.int b),.sh (.int m),.ow (ds.map iT),f,.ow (c.map pT),.sh (.int o),g]):=by
  unfold Ja bL cg
  rw[Zd (by omega) k]
  show dF (cG (gN 6) CJ ((List.range' 0 rows.length).map iT) _)=_
  rw[show([]:List Tr)=([]:List (Nat × Nat)).map pT from rfl,K]
  rfl
 unfold BP
 rw[ahT]
 unfold bf bM
 generalize c.map pT=L4,as.map pT=L3,h.map iT=L2,ds.map iT=L1,aH l=RT,aP rows=BT,Tr.lst (ns.map .int)=T,CN=G4,CK=G3,bL Ja=G2,bL IW=G1 at *
 have M:fC 7 [.sh T,.sh (.int a),.sh BT,.sh (.int b),.sh (.int m),.ow L1,f,.ow L3,.sh (.int o),g]=[.sh T,.sh (.int a),.sh BT,.sh (.int b),.sh (.int m),.ow L1,f,.sh (.lst L3),.sh (.int o),g]:=rfl
 have N:fC 5 [.sh T,.sh (.int a),.sh BT,.sh (.int b),.sh (.int m),.ow L1,f,.sh (.lst L3),.sh (.int o),g]=[.sh T,.sh (.int a),.sh BT,.sh (.int b),.sh (.int m),.sh (.lst L1),f,.sh (.lst L3),.sh (.int o),g]:=rfl
 simp -dsimp[bQ,dr,drs,bN,cls,g1,e,u,k,F,w,cC,gI,s,J,t,L,M,N]
end
theorem Wo.fq(h:Wo x):Fq 400 x:=by
 obtain⟨a,d,b,e,c⟩:=h
 exact⟨a,by omega,b,by omega,c⟩
theorem Ze(h:∀x∈l,Wo x)(c:l.length<=12):Fall l (aY l)/\qL [aH l]=.ok (.lst ((aY l).map iT),true)/\mR [aH l]=.ok (.lst ((aY l).map iT),true):=by
 obtain⟨zs,a,f1⟩:=order_eq (λx d=>Wo.fq (h x d)) c
 have b:=QV (N:=40) (BH.Wo.frs h) (by omega) (by omega) (by omega)
 rw[<-YW f1]at a
 exact⟨b.1,a,b.2⟩
def Q5:SF:=(bw (Et (aq (jP id) (aj 6) (aj 4)) (aq (jP id) (jd (ak (aj 3) (ak (aj 6) au))) (aq aB (aj 1) (eC (.int 1))))) (gN 7))
def Q6:SF:=(eY (fY 5 dX (ak (aq aB (dO (ak (eC .non) (ak (aq aB (aq aB (aj 0) (aj 3)) (aj 6)) au))) (aZ (g1 lR) (ak (aj 7) au))) au)))
def Jc:SF:=(aC Q5 Q6)
section
variable (Bt:Tr)(s2:Sl)(ds:List Nat)(as:List (Nat × Nat))(k:Nat)(zs:List Nat)
theorem ahX(R:List Tr)(t:Nat)(b:Sl):Q5 [.sh Bt,.sh (bM ds as),s2,.sh (iT k),.sh (.lst (zs.map iT)),.ow R,.sh (iT t),b]=.ok (.nx,[.sh Bt,.sh (bM ds as),s2,.sh (iT k),.sh (.lst (zs.map iT)),.ow R,.sh (iT t),.sh (.bl (decide (t∈zs) || decide ((k,t)∈as)))]):=by
 have c:=aha id t zs
 have a:=ahb id (k,t) as
 have d:aB (bM ds as) (.int 1)=.ok (.lst (as.map pT),false):=rfl
 have e:pT (k,t)=.tup [iT k,iT t]:=rfl
 rw[e]at a
 unfold Q5
 generalize decide (t∈zs)=B1,decide ((k,t)∈as)=B2,iT t=Y,iT k=X,Tr.lst (as.map pT)=P,Tr.lst (zs.map iT)=Z,bM ds as=LT at *
 cases B1 <;> simp -dsimp[eB,dr,drs,bN,cls,cu,c,a,d]
theorem ahY(d:aB Bt (iT k)=.ok (aH l,false))(e:aB (aH l) (iT t)=.ok (fT x,false))(s1 s4:Sl)(R:List Tr)(g:R.length<=1000)(b:Bool):Q6 [.sh Bt,s1,s2,.sh (iT k),s4,.ow R,.sh (iT t),.sh (.bl b)]=.ok (.nx,[.sh Bt,s1,s2,.sh (iT k),s4,.ow (R++[fV b x]),.sh (iT t),.sh (.bl b)]):=by
 have a:R.length<=100000:=by omega
 unfold Q6 fV
 generalize iT t=Y,iT k=X,fT x=F,aH l=RT at *
 have f:aB (.lst [.non,F]) (.int 0)=.ok (.non,false):=rfl
 have c:aB (.lst [.non,F]) (.int 1)=.ok (F,false):=rfl
 cases b <;> simp -dsimp[dr,drs,bN,cls,con,dD,dX,g1,lR,d,e,f,c,a]
end
section
variable (Bt:Tr)(s2:Sl)(ds:List Nat)(as:List (Nat × Nat))(k:Nat){l:List (Int × Int)}{d:Nat}
theorem Zf(f:aB Bt (iT k)=.ok (aH l,false))(i:l.length<=12):∀(w t:Nat) (b a:Sl),t+w=l.length->∃c e,cG (gN 6) Jc ((List.range' t w).map iT) [.sh Bt,.sh (bM ds as),s2,.sh (iT k),.sh (.lst (((aY l).take d).map iT)),.ow ((List.range t).map λt=>fV (sn aY l d as k t) (l.getD t (0,1))),b,a] =
  .ok (.nx,[.sh Bt,.sh (bM ds as),s2,.sh (iT k),.sh (.lst (((aY l).take d).map iT)),.ow (uZ aY l d as k),c,e])
 | 0,t,b,a,h=>by
  have:t=l.length:=by omega
  subst this
  exact⟨b,a,rfl⟩
 |w+1,t,b,a,h=>by
  have lt:t<l.length:=by omega
  have j:=ahX Bt s2 ds as k ((aY l).take d) ((List.range t).map λt=>fV (sn aY l d as k t) (l.getD t (0,1))) t a
  have m:aB (aH l) (iT t)=.ok (fT (l.getD t (0,1)),false):=jG (by simp[lt])
  have n:=ahY Bt s2 k f m (.sh (bM ds as)) (.sh (.lst (((aY l).take d).map iT))) ((List.range t).map λt=>fV (sn aY l d as k t) (l.getD t (0,1))) (by simp; omega) (sn aY l d as k t)
  obtain⟨c,e,g⟩:=Zf f i w (t+1) (.sh (iT t)) (.sh (.bl (sn aY l d as k t))) (by omega)
  refine⟨c,e,?_⟩
  rw[List.range'_succ,List.map_cons]
  rw[List.range_succ,List.map_append,List.map_cons,List.map_nil]at g
  refine jR ?_ g
  show Jc [.sh Bt,.sh (bM ds as),s2,.sh (iT k),.sh (.lst (((aY l).take d).map iT)),.ow ((List.range t).map λt=>fV (sn aY l d as k t) (l.getD t (0,1))),.sh (iT t),a]=_
  unfold Jc aC
  rw[j]
  exact n
end
def Jd:EF:=(pX (aR qL (ak (aq aB (aj 0) (aj 3)) au)) pR (pW (aq aB (aq aB (aj 1) (eC (.int 0))) (aj 3))))
def Je:SF:=(cg (cR (ak (aZ (g1 bx) (ak (aq aB (aj 0) (aj 3)) au)) au)) (gN 6) Jc)
def wK:SF:=(aC (bw Jd (gN 4)) (aC (fX 5 (dO au)) (aC Je (mL 5 (eY (fY 2 dX (ak (aj 5) au)))))))
theorem seen_def:Pu=(aC (fX 2 (dO au)) (aC (bL (cg (cR (ak (aZ (g1 bx) (ak (aj 0) au)) au)) (gN 3) wK)) (bB (aj 2)))):=rfl
section
variable {m:Nat}{rows:List (List (Int × Int))}{ds:List Nat}{as:List (Nat × Nat)}{k:Nat}{l:List (Int × Int)}{d:Nat}
theorem ahZ(hw:∀x∈l,Wo x)(c:l.length<=12)(e:aB (aP rows) (iT k)=.ok (aH l,false))(hd:ds[k]?=some d)(s2 s4 s5 a b:Sl):Jd [.sh (aP rows),.sh (bM ds as),s2,.sh (iT k),s4,s5,a,b]=.ok (.v (.lst (((aY l).take d).map iT)) true,[.sh (aP rows),.sh (bM ds as),s2,.sh (iT k),s4,s5,a,b]):=by
 have f:=(Ze hw c).2.1
 have g:aB (bM ds as) (.int 0)=.ok (.lst (ds.map iT),false):=rfl
 have id:aB (.lst (ds.map iT)) (iT k)=.ok (.int (d:Nat),false):=jG (by rw[List.getElem?_map,hd]; rfl)
 have h:qw none (some (d:Int)) (.lst ((aY l).map iT))=.ok (.lst (((aY l).take d).map iT),true):=by
  show Rs.ok (Tr.lst (cut ((aY l).map iT) none (some (d:Int))),true)=_
  rw[Ql,<-List.map_take]
 unfold Jd
 generalize Tr.lst (((aY l).take d).map iT)=P,Tr.lst ((aY l).map iT)=O,Tr.lst (ds.map iT)=D,iT k=X,aH l=RT,bM ds as=LT,aP rows=BT at *
 simp -dsimp[oX,dr,drs,bN,pU,e,f,g,id,h]
theorem ah0(g:aB (aP rows) (iT k)=.ok (aH l,false))(i:l.length<=12)(s2 a b:Sl):∃c f,Je [.sh (aP rows),.sh (bM ds as),s2,.sh (iT k),.sh (.lst (((aY l).take d).map iT)),.ow [],a,b]=.ok (.nx,[.sh (aP rows),.sh (bM ds as),s2,.sh (iT k),.sh (.lst (((aY l).take d).map iT)),.ow (uZ aY l d as k),c,f]):=by
 obtain⟨c,f,e⟩:=Zf (aP rows) s2 ds as k (d:=d) g i l.length 0 a b (by omega)
 refine⟨c,f,?_⟩
 have j:=yw l
 have h:cR (ak (aZ (g1 bx) (ak (aq aB (aj 0) (aj 3)) au)) au) [.sh (aP rows),.sh (bM ds as),s2,.sh (iT k),.sh (.lst (((aY l).take d).map iT)),.ow [],a,b]=.ok ((List.range' 0 l.length).map iT,[.sh (aP rows),.sh (bM ds as),s2,.sh (iT k),.sh (.lst (((aY l).take d).map iT)),.ow [],a,b]):=by
  rw[<-List.range_eq_range']
  have ok:=uY (n:=l.length) (by omega)
  generalize Tr.lst (((aY l).take d).map iT)=P,iT k=X,aH l=RT,bM ds as=LT,aP rows=BT at *
  simp -dsimp[drs,dr,bN,g1,g,j,ok]
  exact qR _
 unfold Je
 generalize cR _=G at h ⊢
 unfold cg
 simp only[h]
 exact e
end
section
variable {m:Nat}{rows:List (List (Int × Int))}{ds:List Nat}{as:List (Nat × Nat)}
theorem ah1(hw:∀x∈l,Wo x)(g:l.length<=12)(h:aB (aP rows) (iT k)=.ok (aH l,false))(hd:ds[k]?=some d)(F:List Tr)(p:F.length<=1000)(s4 s5 c e:Sl):∃i j a b,wK [.sh (aP rows),.sh (bM ds as),.ow F,.sh (iT k),s4,s5,c,e]=.ok (.nx,[.sh (aP rows),.sh (bM ds as),.ow (F++[.lst (uZ aY l d as k)]),.sh (iT k),i,j,a,b]):=by
 have n:=ahZ (as:=as) hw g h hd (.ow F) s4 s5 c e
 obtain⟨a,b,o⟩:=ah0 (ds:=ds) (as:=as) (d:=d) h g (.ow F) c e
 refine⟨.sh (.lst (((aY l).take d).map iT)),.sh (.lst (uZ aY l d as k)),a,b,?_⟩
 have f:F.length<=100000:=by omega
 unfold wK
 generalize uZ aY l d as k=R,(((aY l).take d).map iT)=P,iT k=X,aH l=RT,bM ds as=LT,aP rows=BT,Je=G2,Jd=G1 at *
 have z:fC 5 [.sh BT,.sh LT,.ow F,.sh X,.sh (.lst P),.ow R,a,b]=[.sh BT,.sh LT,.ow F,.sh X,.sh (.lst P),.sh (.lst R),a,b]:=rfl
 simp -dsimp[dr,drs,bN,cls,con,dD,dX,n,o,z,f]
theorem Zg(g:Bk m rows)(n:ds.length=rows.length):∀(w k:Nat) (s3 s4 s5 a b:Sl),k+w=rows.length->∃t3 c d e f,cG (gN 3) wK ((List.range' k w).map iT) [.sh (aP rows),.sh (bM ds as),.ow ((List.range k).map λk=>.lst (uZ aY (rows.getD k []) (ds.getD k 0) as k)),s3,s4,s5,a,b]=.ok (.nx,[.sh (aP rows),.sh (bM ds as),.ow (wJ aY rows ds as),t3,c,d,e,f])
 | 0,k,s3,s4,s5,a,b,h=>by
  have:k=rows.length:=by omega
  subst this
  exact⟨s3,s4,s5,a,b,rfl⟩
 |w+1,k,s3,s4,s5,a,b,h=>by
  have lt:k<rows.length:=by omega
  have ld:k<ds.length:=by omega
  obtain⟨u,v,x,l,o⟩:=id g
  have i:rows[k]?=some (rows.getD k []):=by simp[lt]
  have hd:ds[k]?=some (ds.getD k 0):=by simp[ld]
  have hm:=o (rows.getD k []) (List.mem_of_getElem? i)
  obtain⟨p,q,r,s,t⟩:=ah1 (as:=as) hm.2 (by rw[hm.1]; exact l) (yu i) hd ((List.range k).map λk=>.lst (uZ aY (rows.getD k []) (ds.getD k 0) as k)) (by simp; omega) s4 s5 a b
  obtain⟨t3,c,d,e,f,j⟩:=Zg g n w (k+1) (.sh (iT k)) p q r s (by omega)
  refine⟨t3,c,d,e,f,?_⟩
  rw[List.range'_succ,List.map_cons]
  rw[List.range_succ,List.map_append,List.map_cons,List.map_nil]at j
  exact jR t j
theorem ah2(a:Bk m rows)(d:ds.length=rows.length):yg [aP rows,bM ds as]=.ok (.lst (wJ aY rows ds as),true):=by
 obtain⟨t3,f,g,h,i,e⟩:=Zg (as:=as) a d rows.length 0 .un .un .un .un .un (by omega)
 have j:=wI rows
 have l:=a.2.1
 have b:cR (ak (aZ (g1 bx) (ak (aj 0) au)) au) [.sh (aP rows),.sh (bM ds as),.ow [],.un,.un,.un,.un,.un]=.ok ((List.range' 0 rows.length).map iT,[.sh (aP rows),.sh (bM ds as),.ow [],.un,.un,.un,.un,.un]):=by
  rw[<-List.range_eq_range']
  have ok:=uY (n:=rows.length) (by omega)
  generalize bM ds as=LT,aP rows=BT at *
  simp -dsimp[drs,dr,bN,g1,j,ok]
  exact qR _
 have c:bL (cg (cR (ak (aZ (g1 bx) (ak (aj 0) au)) au)) (gN 3) wK) [.sh (aP rows),.sh (bM ds as),.ow [],.un,.un,.un,.un,.un]=.ok (.nx,[.sh (aP rows),.sh (bM ds as),.ow (wJ aY rows ds as),t3,f,g,h,i]):=by
  generalize cR _=G at b ⊢
  unfold bL cg
  simp only[b]
  show dF (cG (gN 3) wK ((List.range' 0 rows.length).map iT) _)=_
  have k:cG (gN 3) wK ((List.range' 0 rows.length).map iT) [.sh (aP rows),.sh (bM ds as),.ow [],.un,.un,.un,.un,.un]=_:=e
  rw[k]
  rfl
 unfold yg
 rw[seen_def]
 unfold bf
 generalize bL _=G at c ⊢
 generalize bM ds as=LT,aP rows=BT,wJ aY rows ds as=R at *
 simp -dsimp[bQ,cls,c]
theorem ah3(a:rows.length<=1000):BR [aP rows]=.ok (rows.map aH):=by
 have e:=YD (r:=aH) (h:=λl=>l.map fT) (xs:=rows) (ρ:=[.sh (aP rows)]) (n:=0) (i:=cM (aj 0)) (fe:=aZ (g1 kW) (ak (aj 0) au)) (by omega) (by
   unfold aP
   generalize rows.map aH=L at *
   simp -dsimp[dr,nQ]) (λl b=>rfl)
 show Bv 0 (sU 0 [none] (cM (aj 0)) (gN 0) cO (aZ (g1 kW) (ak (aj 0) au))) [.sh (aP rows)]=_
 unfold Bv
 rw[if_pos (by show 0<1; omega)]
 show(sU 0 [none] (cM (aj 0)) (gN 0) cO (aZ (g1 kW) (ak (aj 0) au)) [.sh (aP rows)]).bind _=_
 rw[e]
 rfl
theorem ah4:(rows.map aH).map xX=(rows.map List.reverse).map aH:=by
 rw[List.map_map,List.map_map]
 refine List.map_congr_left λl _=>?_
 show Tr.lst (l.map fT).reverse=Tr.lst (l.reverse.map fT)
 rw[List.map_reverse]
theorem Bk.rev(b:Bk m rows):Bk m (rows.map List.reverse):=by
 obtain⟨c,d,e,f,g⟩:=b
 refine⟨by rw[List.length_map]; exact c,by rw[List.length_map]; exact d,e,f,λl h=>?_⟩
 obtain⟨i,a,rfl⟩:=List.mem_map.mp h
 have:=g i a
 exact⟨by rw[List.length_reverse]; exact this.1,λx j=>this.2 x (List.mem_reverse.mp j)⟩
theorem ah5:dep (bM ds as)<=10:=by
 unfold bM
 rw[wC,oG,oG,tK,qO,qO,QC]
 have:=QD as
 omega
end
theorem mul_eq(c:Fq M x)(d:Fq N y)(f:M+N<=8900):uV [fT x,fT y]=.ok (fT (gA x y),false):=by
 obtain⟨g,m,n,h,_⟩:=c
 obtain⟨i,o,q,j,_⟩:=d
 have r:=lZ M
 have s:=lZ N
 have k:gM x.1 y.1=true:=lD (M:=M) (N:=N) (by omega) (by omega) (by omega) (by omega)
 have l:gM x.2 y.2=true:=lD (M:=M) (N:=N) (by omega) (by omega) (by omega) (by omega)
 have p:=Int.mul_pos (a:=x.2) (b:=y.2) (by omega) (by omega)
 have e:=Iu (a:=x.1*y.1) (b:=x.2*y.2) (M:=M+N) (Int.mul_nonneg g i) (by omega) (tQ (by omega) h (by omega) j) f
 unfold uV Pg bf
 show _=Rs.ok (fT (red (x.1*y.1) (x.2*y.2)),false)
 generalize fT (red (x.1*y.1) (x.2*y.2))=R at e ⊢
 unfold fT
 simp -dsimp[dF,fC,pZ,dD,con,oh,eB,cu,gF,dr,drs,cls,mQ,uR,g1,g2,gI,fD,gB,bT,gq,jP,cC,cV,cL,cj,lN,jo,gW,jq,fG,j5,aB,bx,lQ,kW,Ew,Ey,Ez,gG,nQ,okR,pU,bN,others,fQ,cN,fZ,oY,oX,mV,HS,wB,HW,wC,qO,tK,oG,tL,HX,Ca,iz,gC,iD,bQ,k,l,e]
theorem add_eq(c:Fq M x)(d:Fq N y)(f:M+N<=8900):yc [fT x,fT y]=.ok (fT (sumF x y),false):=by
 obtain⟨l,m,n,g,_⟩:=c
 obtain⟨o,q,r,h,_⟩:=d
 have s:=lZ M
 have t:=lZ N
 have i:gM x.1 y.2=true:=lD (M:=M) (N:=N) (by omega) (by omega) (by omega) (by omega)
 have j:gM y.1 x.2=true:=lD (M:=N) (N:=M) (by omega) (by omega) (by omega) (by omega)
 have k:gM x.2 y.2=true:=lD (M:=M) (N:=N) (by omega) (by omega) (by omega) (by omega)
 have p:=Int.mul_pos (a:=x.2) (b:=y.2) (by omega) (by omega)
 have q1:=Int.mul_nonneg (a:=x.1) (b:=y.2) (by omega) (by omega)
 have q2:=Int.mul_nonneg (a:=y.1) (b:=x.2) (by omega) (by omega)
 have e:=Iu (a:=x.1*y.2+y.1*x.2) (b:=x.2*y.2) (M:=M+N) (by omega) (by omega) (tQ (by omega) g (by omega) h) f
 unfold yc Pb bf
 show _=Rs.ok (fT (red (x.1*y.2+y.1*x.2) (x.2*y.2)),false)
 generalize fT (red (x.1*y.2+y.1*x.2) (x.2*y.2))=R at e ⊢
 unfold fT
 simp -dsimp[dF,fC,pZ,dD,con,oh,eB,cu,gF,dr,drs,cls,mQ,uR,g1,g2,gI,fD,gB,bT,gq,jP,cC,cV,cL,cj,lN,jo,gW,jq,fG,j5,aB,bx,lQ,kW,Ew,Ey,Ez,gG,nQ,okR,pU,bN,others,fQ,cN,fZ,oY,oX,mV,HS,wB,HW,wC,qO,tK,oG,tL,HX,Ca,iz,gC,iD,bQ,i,j,k,e]
def yF:SF:=(aC (eY (fY 3 dX (ak (aR oF (ak (aq cj (aj 0) (eC (.int 7))) (ak (aq cC (eC (.int 1)) (aq cj (aq cL (aj 0) (eC (.int 7))) (eC (.int 4)))) au))) au))) (bw (aq cL (aj 0) (eC (.int 28))) (gN 0)))
theorem Zh(s1 s2:Sl):∀(us:List Tr) (x:Int) (ws:List (Int × Int)) (s4:Sl),us.length+ws.length<=1000->(∀w∈ws,Fq 45 w)->∃(vs:List (Int × Int)) (s0 c:Sl),cG (gN 4) yF us [.sh (.int x),s1,s2,.ow (ws.map fT),s4]=.ok (.nx,[s0,s1,s2,.ow (vs.map fT),c])/\vs.length=us.length+ws.length/\∀w∈vs,Fq 45 w
 | [],x,ws,s4,d,hw=>⟨ws,.sh (.int x),s4,rfl,by simp,hw⟩
 |u::us,x,ws,s4,d,hw=>by
  have g:=lY x 7 (by omega)
  have n:=lY (x.fdiv 7) 4 (by omega)
  have e:=Iu (a:=x.fmod 7) (b:=1+(x.fdiv 7).fmod 4) (M:=60) g.1 (by omega) (by omega) (by omega)
  have hf:Fq 45 (red (x.fmod 7) (1+(x.fdiv 7).fmod 4)):=Qp g.1 (by omega) (by omega) (by omega)
  obtain⟨vs,s0,c,h,i,j⟩:=Zh s1 s2 us (x.fdiv 28) (ws++[red (x.fmod 7) (1+(x.fdiv 7).fmod 4)]) (.sh u) (by simp at d ⊢; omega) (λw k=>by
   rcases List.mem_append.mp k with z|z
   .exact hw w z
   .rw[List.mem_singleton.mp z]; exact hf)
  refine⟨vs,s0,c,jR ?_ h,by simp at i ⊢; omega,j⟩
  have l:jE x 7=true:=mW (M:=60) (by omega) (by decide) (by omega)
  have m:jE x 28=true:=mW (M:=60) (by omega) (by decide) (by omega)
  have f:(ws.map fT).length<=100000:=by rw[List.length_map]; simp at d; omega
  show yF [.sh (.int x),s1,s2,.ow (ws.map fT),.sh u]=_
  rw[List.map_append,List.map_cons,List.map_nil]
  generalize ws.map fT=L,fT (red _ _)=R at *
  unfold yF
  simp -dsimp[dr,drs,bN,cls,con,dD,dX,cj,cL,fD,X8,l,m,e,f]
def Jf:SF:=(aC (fX 3 (dO au)) (aC (bL (cg (cR (ak (aj 1) au)) (gN 4) yF)) (mL 3 (bB (jd (ak (eC (.str "shares")) (ak (aj 3) au)))))))
theorem ah6(x:Int){n:Nat}(g:n<=4)(s2:Sl):∃(vs:List (Int × Int)) (ρ : En),Jf [.sh (.int x),.sh (.int n),s2,.un,.un]=.ok (.rt (bO (.sh vs)) false,ρ)/\vs.length=n/\∀w∈vs,Fq 45 w:=by
 have ul:(L2.upTo 0 n).length=n:=by rw[qR]; simp
 obtain⟨vs,s0,a,e,c,d⟩:=Zh (.sh (.int n)) s2 (L2.upTo 0 n) x [] .un (by rw[ul]; simp; omega) (by simp)
 have ok:=uY (n:=n) (by omega)
 have b:cR (ak (aj 1) au) [.sh (.int x),.sh (.int n),s2,.ow [],.un]=.ok (L2.upTo 0 n,[.sh (.int x),.sh (.int n),s2,.ow [],.un]):=by
  simp -dsimp[drs,dr,bN,ok]
 have f:bL (cg (cR (ak (aj 1) au)) (gN 4) yF) [.sh (.int x),.sh (.int n),s2,.ow [],.un]=.ok (.nx,[s0,.sh (.int n),s2,.ow (vs.map fT),a]):=by
  generalize cR _=G at b ⊢
  unfold bL cg
  simp only[b]
  show dF (cG _ _ _ _)=_
  have e:cG (gN 4) yF (L2.upTo 0 n) [.sh (.int x),.sh (.int n),s2,.ow [],.un]=_:=e
  rw[e]
  rfl
 refine⟨vs,[s0,.sh (.int n),s2,.sh (.lst (vs.map fT)),a],?_,by rw[c,ul]; simp,d⟩
 show _=Rs.ok (Fl.rt (.tup [.str "shares",.lst (vs.map fT)]) false,_)
 unfold Jf
 generalize vs.map fT=L,bL _=G at *
 have z:fC 3 [s0,.sh (.int n),s2,.ow L,a]=[s0,.sh (.int n),s2,.sh (.lst L),a]:=rfl
 simp -dsimp[cls,f,z]
theorem ah7:Pn=(aC (bw (aq cj (aj 0) (eC (.int 7))) (gN 2)) (aC (bw (aq cL (aj 0) (eC (.int 7))) (gN 0)) (aC (cA (bY (aq bT (aj 2) (eC (.int 0)))) (bB (eC (.tup [.str "least"]))) cD) (aC (cA (bY (aq bT (aj 2) (eC (.int 1)))) (bB (eC (.tup [.str "greatest"]))) cD) (aC (cA (bY (aq bT (aj 2) (eC (.int 2)))) (bB (jd (ak (eC (.str "middle")) (ak (aq cC (eC (.int 1)) (aq cj (aj 0) (aj 1))) au)))) cD) (aC (cA (bY (aq bT (aj 2) (eC (.int 3)))) (bB (eC (.tup [.str "product"]))) cD) Jf)))))):=rfl
theorem Zi(x:Int){n:Nat}(u:1<=n)(h:n<=4):∃r,yd [.int x,.int n]=.ok (bO r,false)/\gP n r:=by
 have s:=lY x 7 (by omega)
 have a:jE x 7=true:=mW (M:=60) (by omega) (by decide) (by omega)
 obtain⟨b,t,e,i,l⟩:=ah6 (x.fdiv 7) h (.sh (.int (x.fmod 7)))
 have v:=lY (x.fdiv 7) n (by omega)
 have n0:¬n=0:=by omega
 unfold yd
 rw[ah7]
 generalize Jf=G at *
 generalize hw:x.fmod 7=w at *
 have q:∀k:Int,bT (.int w) (.int k)=.ok (.bl (w == k),false):=λk=>by
  unfold bT
  rw[if_pos ⟨by rw[mV]; omega,by rw[mV]; omega⟩,tL]
 by_cases c:w=0
 .subst c
  refine⟨.least,?_,trivial⟩
  unfold bf
  simp -dsimp[bQ,dr,drs,cu,cj,cL,fD,a,hw,q,bO]
 by_cases d:w=1
 .subst d
  refine⟨.greatest,?_,trivial⟩
  unfold bf
  simp -dsimp[bQ,dr,drs,cu,cj,cL,fD,a,hw,q,bO]
 by_cases f:w=2
 .subst f
  obtain⟨j,m⟩:∃j:Nat,(j:Int)=1+(x.fdiv 7).fmod n:=⟨(1+(x.fdiv 7).fmod n).toNat,by omega⟩
  refine⟨.mid j,?_,by omega,by omega⟩
  unfold bf
  simp -dsimp[bQ,dr,drs,cls,cu,cj,cL,fD,X8,a,hw,q,bO,n0,m]
 by_cases g:w=3
 .subst g
  refine⟨.product,?_,trivial⟩
  unfold bf
  simp -dsimp[bQ,dr,drs,cu,cj,cL,fD,a,hw,q,bO]
 refine⟨.sh b,?_,i,l⟩
 have o:(w == 0)=false:=by simp[c]
 have q1:(w == 1)=false:=by simp[d]
 have q2:(w == 2)=false:=by simp[f]
 have p:(w == 3)=false:=by simp[g]
 unfold bf
 generalize bO (.sh b)=R at *
 simp -dsimp[bQ,dr,drs,cu,cj,cL,fD,a,hw,q,o,q1,q2,p,e]
def lsB:SF:=(bw (aR yc (ak (aj 2) (ak (aR uV (ak (aq aB (aq aB (aj 0) (eC (.int 1))) (aj 3)) (ak (aq aB (aj 1) (aj 3)) au))) au))) (gN 2))
def lpB:SF:=(bw (aR uV (ak (aj 2) (ak (aj 4) au))) (gN 2))
def Zj:BF:=(dJ (aR mU (ak (aj 0) (ak (aj 1) au))))
def Q7:SF:=(aC (bw (aZ (g1 bx) (ak (tD [none,some 4] 5 (gN 0) Zj (aj 0)) au)) (gN 6)) (eY (fY 5 p7 (ak (aj 6) (ak (aj 4) au)))))
theorem Zk(i:ws.length=xs.length)(hw:∀w∈ws,Fq 45 w)(g:∀x∈xs,Fq 45 x)(s4 s5 a:Sl):∀(k j:Nat) (t:Int × Int) (M:Nat) (s3:Sl),j+k=xs.length->Fq M t->M+91*k<=8900->∃t3,cG (gN 3) lsB ((List.range' j k).map iT) [.sh (bO (.sh ws)),.sh (aH xs),.sh (fT t),s3,s4,s5,a]=.ok (.nx,[.sh (bO (.sh ws)),.sh (aH xs),.sh (fT (jH ((ws.drop j).zip (xs.drop j)) t)),t3,s4,s5,a])
 | 0,j,t,M,s3,h,b,l=>⟨s3,by
  rw[List.drop_eq_nil_of_le (by omega),List.zip_nil_left]
  rfl⟩
 |k+1,j,t,M,s3,h,b,l=>by
  have c:j<xs.length:=by omega
  have d:j<ws.length:=by omega
  have e:=g xs[j] (List.getElem_mem c)
  have f:=hw ws[j] (List.getElem_mem d)
  have m:=mul_eq f e (by omega)
  have n:=add_eq b (tU f e) (by omega)
  obtain⟨t3,o⟩:=Zk i hw g s4 s5 a k (j+1) (sumF t (gA ws[j] xs[j])) (M+91) (.sh (iT j)) (by omega) ((Qs b (tU f e)).up (by omega)) (by omega)
  refine⟨t3,?_⟩
  rw[List.range'_succ,List.map_cons]
  rw[List.drop_eq_getElem_cons c,List.drop_eq_getElem_cons d,List.zip_cons_cons]
  have p:aB (aH ws) (iT j)=.ok (fT ws[j],false):=jG (by simp[d])
  have q:aB (aH xs) (iT j)=.ok (fT xs[j],false):=jG (by simp[c])
  exact jR (pB (fB (cZ rfl (cZ (fB (cZ (cQ (cQ (z:=(aH ws,false)) rfl rfl rfl rfl rfl) rfl rfl rfl p) (cZ (cQ rfl rfl rfl rfl q) rfl)) rfl rfl m) rfl)) rfl rfl n)) o
theorem Zm(s0 s1 s3 s5 a:Sl):∀(xs:List (Int × Int)) (t:Int × Int) (M:Nat) (s4:Sl),(∀x∈xs,Fq 45 x)->Fq M t->M+45*xs.length<=8900->∃b,cG (gN 4) lpB (xs.map fT) [s0,s1,.sh (fT t),s3,s4,s5,a]=.ok (.nx,[s0,s1,.sh (fT (jT xs t)),s3,b,s5,a])
 | [],t,M,s4,c,d,e=>⟨s4,rfl⟩
 |x::xs,t,M,s4,c,d,e=>by
  have f:=c x (List.mem_cons_self ..)
  rw[List.length_cons]at e
  have g:=mul_eq d f (by omega)
  obtain⟨b,h⟩:=Zm s0 s1 s3 s5 a xs (gA t x) (M+45) (.sh (fT x)) (λy i=>c y (List.mem_cons_of_mem _ i)) (tU d f) (by omega)
  exact⟨b,jR (pB (fB rfl rfl rfl g)) h⟩
theorem ah8(g:∀z∈zs,Fq 45 z)(o:Fq 45 x)(F:zs.length<=12)(u:zs.Pairwise le2)(s0 s1 s2 s3 v:Sl):∃(d:List (Int × Int)) (w:Sl),Q7 [s0,s1,s2,s3,.sh (fT x),.ow (zs.map fT),v]=.ok (.nx,[s0,s1,s2,s3,.sh (fT x),.ow (d.map fT),w])/\d.Perm (x::zs)/\d.Pairwise le2:=by
 have s:=Y4 (r:=fT) (p:=λz=>dU z x) (xs:=zs) (ρ:=[s0,s1,s2,s3,.sh (fT x),.ow (zs.map fT),v]) (rest:=[some 4]) (n:=5) (c:=Zj) (by omega) rfl rfl (λy=>rfl) (λy=>rfl) (λz m=>qd (fB rfl rfl rfl (Iw (g z m) o (by omega))) rfl rfl)
 obtain⟨A,B⟩:=pref (p:=λz=>dU z x) zs (u.imp_of_mem λ{a b} f e i t=>by
  have j:=(g a f).2.2.1
  have C:=(g b e).2.2.1
  have D:=o.2.2.1
  cases h:dU a x with
  |true=>rfl
  |false =>
   have:=qT.mp h
   have:=Ih D j C this i
   have:=qT.mpr this
   rw[this]at t
   exact absurd t Bool.false_ne_true)
 have H:(zs.filter λz=>dU z x).length<=zs.length:=List.length_filter_le ..
 have E:bx (.lst ((zs.filter λz=>dU z x).map fT))=.ok (.int ((zs.filter λz=>dU z x).length:Int),false):=by
  show Rs.ok (Tr.int (((zs.filter λz=>dU z x).map fT).length:Int),false)=_
  rw[List.length_map]
 generalize I:(zs.filter λz=>dU z x).length=q at *
 refine⟨zs.take q++x::zs.drop q,.sh (.int (q:Nat)),?_,?_,?_⟩
 .have em:p7 (zs.map fT) [.int (q:Nat),fT x]=.ok ((zs.take q++x::zs.drop q).map fT,.non):=by
   show(if 0<=(q:Int)/\(q:Int).toNat<=(zs.map fT).length/\(zs.map fT).length<=100000 then Rs.ok ((zs.map fT).take (q:Int).toNat++fT x::(zs.map fT).drop (q:Int).toNat,Tr.non)else .bad)=_
   rw[List.length_map,Int.toNat_natCast,if_pos (by omega),List.map_append,List.map_cons,List.map_take,List.map_drop]
  generalize (zs.take q++x::zs.drop q).map fT=R at *
  unfold Q7
  generalize tD _ _ _ _ _=G at s ⊢
  generalize fT x=N,zs.map fT=L,Tr.lst ((zs.filter λz=>dU z x).map fT)=FL at *
  simp -dsimp[con,drs,dr,cls,g1,s,E,em,dD]
 .have:(zs.take q++x::zs.drop q).Perm (x::(zs.take q++zs.drop q)):=List.perm_middle
  rw[List.take_append_drop]at this
  exact this
 .have k:(zs.take q++zs.drop q).Pairwise le2:=by rw[List.take_append_drop]; exact u
  obtain⟨a1,a2,j⟩:=List.pairwise_append.mp k
  refine List.pairwise_append.mpr ⟨a1,List.pairwise_cons.mpr ⟨λb e=>qT.mp (B b e),a2⟩,λa f b e=>?_⟩
  rcases List.mem_cons.mp e with rfl|e
  .have l:=A a f
   unfold dU at l
   rw[decide_eq_true_eq]at l
   exact Int.le_of_lt l
  .exact j a f b e
theorem Zn(s0 s1 s2 s3:Sl):∀(xs zs:List (Int × Int)) (s4 b:Sl),(∀x∈xs,Fq 45 x)->(∀z∈zs,Fq 45 z)->xs.length+zs.length<=12->zs.Pairwise le2->∃(a:List (Int × Int)) (j c:Sl),cG (gN 4) Q7 (xs.map fT) [s0,s1,s2,s3,s4,.ow (zs.map fT),b]=.ok (.nx,[s0,s1,s2,s3,j,.ow (a.map fT),c])/\a.Perm (xs++zs)/\a.Pairwise le2
 | [],zs,s4,b,d,e,h,f=>⟨zs,s4,b,rfl,.refl _,f⟩
 |x::xs,zs,s4,b,d,e,h,f=>by
  rw[List.length_cons]at h
  have i:=d x (List.mem_cons_self ..)
  obtain⟨k,c,l,q1,q2⟩:=ah8 e i (by omega) f s0 s1 s2 s3 b
  obtain⟨a,m,n,o,p,q⟩:=Zn s0 s1 s2 s3 xs k (.sh (fT x)) c (λy r=>d y (List.mem_cons_of_mem _ r)) (λz g=>by
   rcases List.mem_cons.mp (q1.mem_iff.mp g)with rfl|g
   .exact i
   .exact e z g) (by rw[q1.length_eq,List.length_cons]; omega) q2
  refine⟨a,m,n,?_,?_,q⟩
  .rw[List.map_cons]
   exact jR l o
  .exact p.trans ((List.Perm.append_left xs q1).trans List.perm_middle)
end K21
end
section
namespace L2
open PySem BH
theorem Jg{a:EF}{n:Nat}{ρ : En}{x:Rv}(b:n<=1000)(h:a ρ=.ok (x,ρ))(d:dr ρ x=.ok (.int (n:Int))):cR (ak a au) ρ=.ok ((List.range n).map λi:Nat=>Tr.int i,ρ):=by
 rw[<-qR]
 exact bk (cZ h rfl) (bk (show drs ρ [x]=.ok [.int (n:Int)]from bk d rfl) ((if_pos (by unfold okR; simp; omega)).trans rfl))
theorem lfO{g:GF}{b:SF}{u:Tr}{us:List Tr}{ρ a c:En}{r:Rs (Fl × En)}(d:g u ρ=.ok a)(h:b a=.ok (.nx,c))(k:cG g b us c=r):cG g b (u::us) ρ = r:=by
 unfold cG
 exact bk d (bk h k)
theorem Zo{d:EF}{i:Nat}{ρ a c:En}{T:Tr}{b:Bool}{as ts:List Tr}(h:d ρ=.ok (.v T b,a))(n:con ρ i=.ok as)(k:con a i=.ok ts)(l:ts.length<=100000)(e:dD i (ts++[T]) a = c):fY i dX (ak d au) ρ=.ok (.v .non false,c):=e▸ap_ h n k l
end L2
end
section
namespace K21
open PySem L2 BH
section
variable {xs:List (Int × Int)}
theorem ah9(y:∀x∈xs,Wo x)(d:1<=xs.length)(A:xs.length<=12)(a:gP xs.length r):∃v,lC [bO r,aH xs]=.ok (fT v,false)/\Wv r xs v:=by
 have f:∀x∈xs,Fq 45 x:=λx m=>BH.Wo.fq (y x m)
 obtain⟨w,C,b,c,t,g,_⟩:=Qy r
 have T:∀{s:Str} {B:Bool} {j : En},bT (.str w) (.str s)=.ok (.bl B,false)->bY (aq bT (aq aB (aj 0) (eC (.int 0))) (eC (.str s))) (.sh (bO r)::j)=.ok (B,.sh (bO r)::j):=λ{s B j} h=>Im (cQ (z:=(.bl B,false)) (cQ (z:=(.str w,false)) rfl rfl rfl rfl C) rfl rfl rfl h) rfl
 have l:placed r=true->∃v,lC [bO r,aH xs]=.ok (fT v,false)/\∃zs,ju xs zs/\zs[jf xs.length r-1]?=some v:=λo=>by
  obtain⟨zs,D,I,e,p,E⟩:=Zn (.sh (bO r)) (.sh (aH xs)) .un .un xs [] .un .un f (by simp) (by simpa using A) .nil
  rw[List.append_nil]at p
  have F:=p.length_eq
  rw[<-F]at a d ⊢
  have pr:=Yq o a d
  have G:zs.reverse[jf zs.length r-1]?=some (zs.getD (zs.length-jf zs.length r) (0,1)):=by
   rw[List.getElem?_reverse (by omega),show zs.length-1-(jf zs.length r-1)=zs.length-jf zs.length r by omega]
   have:zs.length-jf zs.length r<zs.length:=by omega
   simp[this]
  refine⟨_,?_,zs.reverse,⟨(List.reverse_perm zs).trans p,List.pairwise_reverse.mpr E⟩,G⟩
  have q:∀i:Nat,i<zs.length->aB (.lst (zs.map fT)) (.int (i:Nat))=.ok (fT (zs.getD i (0,1)),false):=λi hi=>jG (by simp[hi])
  cases r with
  |sh ws=>cases o
  |product=>cases o
  |least =>
   rw[show zs.length-jf zs.length .least=0 by show zs.length-zs.length=0; omega]
   exact mX (dw (lE (T b) rfl) (dw (lE (T c) rfl) (dw rfl (dw (qU (pC rfl e)) (Il (Ik (T g) (oJ (cQ (z:=(fT (zs.getD 0 (0,1)),false)) rfl rfl rfl rfl (q 0 d)))))))))
  |greatest =>
   have gn:aB (.lst (zs.map fT)) (.int (-1))=.ok (fT (zs.getD (zs.length-1) (0,1)),false):=by
    rw[<-q (zs.length-1) (by omega)]
    have e:iD (zs.map fT).length (-1)=iD (zs.map fT).length ((zs.length-1:Nat):Int):=by
     rw[List.length_map]
     unfold iD
     rw[if_neg (by omega),if_pos (by omega),if_pos (by omega),if_pos (by omega)]
     congr 1
     omega
    unfold aB gC
    simp only[e]
   exact mX (dw (lE (T b) rfl) (dw (lE (T c) rfl) (dw rfl (dw (qU (pC rfl e)) (dw (lE (T g) rfl) (Il (Ik (T t) (oJ (cQ (z:=(fT (zs.getD (zs.length-1) (0,1)),false)) rfl rfl rfl rfl gn)))))))))
  |mid k =>
   have u:=q (zs.length-k) (by have:1<=k:=a.1; omega)
   rw[show((zs.length-k:Nat):Int)=(zs.length:Int)-k by have:k<=zs.length:=a.2; omega]at u
   have H:bx (.lst (zs.map fT))=.ok (.int (zs.length:Nat),false):=by
    show Rs.ok (Tr.int ((zs.map fT).length:Int),false)=_
    rw[List.length_map]
   exact mX (dw (lE (T b) rfl) (dw (lE (T c) rfl) (dw rfl (dw (qU (pC rfl e)) (dw (lE (T g) rfl) (dw (lE (T t) rfl) (oJ (cQ (z:=(fT (zs.getD (zs.length-k) (0,1)),false)) (U:=.int ((zs.length:Int)-k)) rfl (cQ (z:=(.int ((zs.length:Int)-k),false)) (jU (z:=(.int (zs.length:Nat),false)) rfl rfl H) rfl rfl rfl rfl) rfl rfl u))))))))
 cases r with
 |sh ws =>
  obtain⟨t3,e⟩:=Zk a.1 a.2 f .un .un .un xs.length 0 (0,1) 1 .un (by omega) Qt (by omega)
  rw[List.drop_zero,List.drop_zero,<-List.range_eq_range']at e
  exact⟨_,mX (Il (Ik (T b) (dw rfl (dw (qU (pC (Jg (n:=xs.length) (by omega) (jU (z:=(.int (xs.length:Int),false)) rfl rfl (yw xs)) rfl) e)) (oJ rfl))))),rfl⟩
 |product =>
  obtain⟨D,e⟩:=Zm (.sh (bO .product)) (.sh (aH xs)) .un .un .un xs (1,1) 1 .un f Qu (by omega)
  exact⟨_,mX (dw (lE (T b) rfl) (Il (Ik (T c) (dw rfl (dw (qU (pC rfl e)) (oJ rfl)))))),rfl⟩
 |least=>exact l rfl
 |greatest=>exact l rfl
 |mid k=>exact l rfl
end
end K21
end
section
namespace BH
open PySem L2
open Classical in
def wv(r:Ru)(xs:List (Int × Int)):Int × Int:=if h:∃v,Wv r xs v then h.choose else(0,1)
theorem Zq(b:∀x∈xs,Wo x)(h:Wv r xs v):wv r xs=v:=by
 have a:∃v,Wv r xs v:=⟨v,h⟩
 unfold wv
 rw[dif_pos a]
 exact Wv.uniq b a.choose_spec h
theorem yG(a:∀x∈xs,Wo x)(b:1<=xs.length)(c:xs.length<=12)(d:gP xs.length r):g8 [bO r,aH xs]=.ok (fT (wv r xs),false)/\Wv r xs (wv r xs):=by
 obtain⟨v,e,h⟩:=ag0 a b c d
 rw[Zq a h]
 exact⟨e,h⟩
theorem aia:Wo (0,1):=by decide
theorem aib:Wo (1,1):=by decide
theorem Zr(n:∀x∈xs,Wo x)(u:∀y∈ys,Wo y)(B:xs.length=ys.length)(v:1<=xs.length)(w:xs.length<=4)(a:gP xs.length r)(h:∀k,k<xs.length->le2 (xs.getD k (0,1)) (ys.getD k (0,1))):le2 (wv r xs) (wv r ys):=by
 have st:∀j,j<=xs.length->∃zs:List (Int × Int),zs.length=xs.length/\(∀z∈zs,Wo z)/\(∀k,k<xs.length->zs[k]?=some (if k<j then ys.getD k (0,1)else xs.getD k (0,1)))/\le2 (wv r xs) (wv r zs):=λj=>by
  induction j with
  |zero=>exact λ_=>⟨xs,rfl,n,λk c=>by simp[c],tO _⟩
  |succ j s =>
   intro C
   obtain⟨zs,b,d,g,i⟩:=s (by omega)
   have t:j<ys.length:=by omega
   have p:Wo (ys.getD j (0,1)):=by
    have:ys[j]?=some (ys.getD j (0,1)):=by simp[t]
    exact u _ (List.mem_of_getElem? this)
   have l:∀z∈zs.set j (ys.getD j (0,1)),Wo z:=λz A=>by
    rcases List.mem_or_eq_of_mem_set A with m|e
    .exact d z m
    .rw[e]; exact p
   have q1:=(yG (r:=r) d (by omega) (by omega) (by rw[b]; exact a)).2
   have q2:=(yG (r:=r) l (by rw[List.length_set]; omega) (by rw[List.length_set]; omega) (by rw[List.length_set,b]; exact a)).2
   have mo:=Wv.mono d p (λx f=>by
    rw[g j (by omega),if_neg (by omega)]at f
    cases f
    exact h j (by omega)) (by rw[b]; exact a) q1 q2
   have f1:=Wv.fq d (by omega) (by rw[b]; exact a) q1
   have f2:=Wv.fq l (by rw[List.length_set]; omega) (by rw[List.length_set,b]; exact a) q2
   have f0:=Wv.fq n w a (yG (r:=r) n v (by omega) a).2
   refine⟨zs.set j (ys.getD j (0,1)),by rw[List.length_set]; exact b,l,λk c=>?_,?_⟩
   .rw[List.getElem?_set]
    by_cases e:j=k
    .subst e
     rw[if_pos rfl,if_pos (by omega),if_pos (by omega)]
    .rw[if_neg e,g k c]
     by_cases q:k<j
     .rw[if_pos q,if_pos (by omega)]
     .rw[if_neg q,if_neg (by omega)]
   .exact Ih f0.2.2.1 f1.2.2.1 f2.2.2.1 i mo
 obtain⟨zs,b,d,g,i⟩:=st xs.length (Nat.le_refl _)
 have e:zs=ys:=List.ext_getElem? λk=>by
  by_cases c:k<xs.length
  .have o:k<ys.length:=by omega
   rw[g k c,if_pos c]
   simp[o]
  .rw[List.getElem?_eq_none (by omega),List.getElem?_eq_none (by omega)]
 rw[e]at i
 exact i
theorem aic(a:Fall l (aY l))(hd:d<=l.length)(h0:0<d)(c:t<l.length)(e:t∉(aY l).take d):le2 (l.getD t (0,1)) (l.getD ((aY l).getD (d-1) 0) (0,1)):=by
 have ln:(aY l).length=l.length:=by simpa using a.1.length_eq
 have mt:t∈aY l:=a.1.mem_iff.mpr (List.mem_range.mpr c)
 rw[<-List.take_append_drop d (aY l)]at mt
 rcases List.mem_append.mp mt with m|m
 .exact absurd m e
 have b:=a.2
 rw[<-List.take_append_drop d (aY l)]at b
 have g:(aY l)[d-1]?=some ((aY l).getD (d-1) 0):=by
  have:d-1<(aY l).length:=by omega
  simp[this]
 have m1:(aY l).getD (d-1) 0∈(aY l).take d:=by
  refine List.mem_of_getElem? (i:=d-1) ?_
  rw[List.getElem?_take,if_pos (by omega)]
  exact g
 have:=(List.pairwise_append.mp b).2.2 _ m1 _ m
 unfold Ce at this
 unfold le2
 omega
end BH
end
section
namespace BH
open PySem L2
def col(rows:List (List (Int × Int)))(t:Nat):List (Int × Int):=(List.range rows.length).map λk=>dB rows k t
section
variable {m:Nat}{rows:List (List (Int × Int))}{ds:List Nat}{as:List (Nat × Nat)}{s:Nat->Nat->Bool}{bK:List (Int × Int)}{t:Nat}
theorem Bk.row(b:Bk m rows)(c:k<rows.length):(rows.getD k [])∈rows/\(rows.getD k []).length=m/\∀x∈rows.getD k [],Wo x:=by
 have e:rows[k]?=some (rows.getD k []):=by simp[c]
 have a:=List.mem_of_getElem? e
 exact⟨a,b.2.2.2.2 _ a⟩
theorem Bk.CP(a:Bk m rows)(b:k<rows.length)(d:t<m):Wo (dB rows k t):=by
 obtain⟨_,f,c⟩:=a.row b
 unfold dB
 generalize rows.getD k []=l at *
 have lt:t<l.length:=by omega
 have e:l[t]?=some (l.getD t (0,1)):=by simp[lt]
 exact c _ (List.mem_of_getElem? e)
theorem Jh(a:Bk m rows)(b:t<m):∀x∈lo rows s t,Wo x:=λx c=>by
 obtain⟨k,mk,rfl⟩:=List.mem_map.mp c
 split
 .exact a.CP (List.mem_range.mp mk) b
 .exact aia
theorem Q9(a:Bk m rows)(b:t<m)(f:bK.length=rows.length)(hw:∀x∈bK,Wo x):∀x∈hi rows s bK t,Wo x:=λx c=>by
 obtain⟨k,mk,rfl⟩:=List.mem_map.mp c
 have d:=List.mem_range.mp mk
 split
 .exact a.CP d b
 .have lt:k<bK.length:=by omega
  have e:bK[k]?=some (bK.getD k (0,1)):=by simp[lt]
  exact hw _ (List.mem_of_getElem? e)
theorem CQ(a:Bk m rows)(b:t<m):∀x∈col rows t,Wo x:=λx c=>by
 obtain⟨k,mk,rfl⟩:=List.mem_map.mp c
 exact a.CP (List.mem_range.mp mk) b
theorem aie(a:Bk m rows)(f:k<rows.length)(hd:d<=m):Wo (jA aY (1,1) (rows.getD k []) d):=by
 obtain⟨b,n,g⟩:=a.row f
 have c:=a.od
 have q1:=c.ln _ b
 have q2:=c.lt _ b
 unfold jA
 generalize rows.getD k []=l at *
 split
 .have lt:d-1<(aY l).length:=by omega
  have e:(aY l)[d-1]?=some ((aY l).getD (d-1) 0):=by simp[lt]
  have dU:=q2 _ (List.mem_of_getElem? e)
  have h:(aY l).getD (d-1) 0<l.length:=by omega
  generalize (aY l).getD (d-1) 0=j at *
  have i:l[j]?=some (l.getD j (0,1)):=by simp[h]
  exact g _ (List.mem_of_getElem? i)
 .exact aib
theorem Ra(c:Bk m rows)(b:Lk rows.length m ds as):∀x∈iB aY (1,1) rows ds,Wo x:=λx d=>by
 obtain⟨k,f,e⟩:=List.getElem_of_mem d
 have j:=u0 (od:=aY) (one:=(1,1)) b.1
 have a:k<rows.length:=by omega
 have g:=Ip (od:=aY) (one:=(1,1)) b.1 a
 have h:(iB aY (1,1) rows ds).getD k (0,1)=x:=by simp[f,e]
 rw[<-h,g]
 have ld:k<ds.length:=by have:=b.1; omega
 have i:ds[k]?=some (ds.getD k 0):=by simp[ld]
 exact aie c a (b.2.1 _ (List.mem_of_getElem? i))
theorem oK:(lo rows s t).length=rows.length:=by unfold lo; simp
theorem tV:(hi rows s bK t).length=rows.length:=by unfold hi; simp
theorem mY:(col rows t).length=rows.length:=by unfold col; simp
theorem aif(a:k<rows.length):(lo rows s t).getD k (0,1)=if s k t=true then dB rows k t else(0,1):=by unfold lo; simp[a]
theorem aii(a:k<rows.length):(hi rows s bK t).getD k (0,1)=if s k t=true then dB rows k t else bK.getD k (0,1):=by unfold hi; simp[a]
theorem Zt(a:k<rows.length):(col rows t).getD k (0,1)=dB rows k t:=by unfold col; simp[a]
variable {r:Ru}
def loV(r:Ru)(rows:List (List (Int × Int)))(ds:List Nat)(as:List (Nat × Nat))(t:Nat):Int × Int:=wv r (lo rows (sA aY rows ds as) t)
def hiV(r:Ru)(rows:List (List (Int × Int)))(ds:List Nat)(as:List (Nat × Nat))(t:Nat):Int × Int:=wv r (hi rows (sA aY rows ds as) (iB aY (1,1) rows ds) t)
theorem aij(a:Bk m rows)(b:gP rows.length r)(c:t<m):g8 [bO r,aH (col rows t)]=.ok (fT (wv r (col rows t)),false)/\Wv r (col rows t) (wv r (col rows t)):=yG (CQ a c) (by rw[mY]; exact a.1) (by rw[mY]; have:=a.2.1; omega) (by rw[mY]; exact b)
theorem Zu(a:Bk m rows)(b:gP rows.length r)(c:t<m):g8 [bO r,aH (lo rows (sA aY rows ds as) t)]=.ok (fT (loV r rows ds as t),false)/\Fq 400 (loV r rows ds as t):=by
 have q:=yG (r:=r) (Jh (s:=sA aY rows ds as) a c) (by rw[oK]; exact a.1) (by rw[oK]; have:=a.2.1; omega) (by rw[oK]; exact b)
 exact⟨q.1,Wv.fq (Jh a c) (by rw[oK]; exact a.2.1) (by rw[oK]; exact b) q.2⟩
theorem Zv(a:Bk m rows)(b:Lk rows.length m ds as)(c:gP rows.length r)(d:t<m):g8 [bO r,aH (hi rows (sA aY rows ds as) (iB aY (1,1) rows ds) t)]=.ok (fT (hiV r rows ds as t),false)/\Fq 400 (hiV r rows ds as t):=by
 have w:=Q9 (s:=sA aY rows ds as) a d (u0 b.1) (Ra a b)
 have q:=yG (r:=r) w (by rw[tV]; exact a.1) (by rw[tV]; have:=a.2.1; omega) (by rw[tV]; exact c)
 exact⟨q.1,Wv.fq w (by rw[tV]; exact a.2.1) (by rw[tV]; exact c) q.2⟩
theorem Zw(a:Bk m rows)(d:Lk rows.length m ds as)(b:gP rows.length r):wk [aP rows,bO r,bM ds as]=.ok (.lst (iI (loV r rows ds as) (hiV r rows ds as) m),true) :=
 ahy a d b (λt c=>(Zu a b c).1) (λt c=>(Zv a d b c).1)
theorem aik(a:Bk m rows)(e:Lk rows.length m ds as)(g:gP rows.length r)(c:t<m):le2 (loV r rows ds as t) (wv r (col rows t))/\le2 (wv r (col rows t)) (hiV r rows ds as t):=by
 have h:=a.1
 have i:=a.2.1
 have j:=a.2.2.2.1
 constructor
 .refine Zr (Jh a c) (CQ a c) (by rw[oK,mY]) (by rw[oK]; exact h) (by rw[oK]; exact i) (by rw[oK]; exact g) λk b=>?_
  rw[oK]at b
  rw[aif b,Zt b]
  split
  .exact tO _
  .have:=(a.CP b c).1
   unfold le2
   show 0*_<=_*1
   omega
 .refine Zr (CQ a c) (Q9 a c (u0 e.1) (Ra a e)) (by rw[tV,mY]) (by rw[mY]; exact h) (by rw[mY]; exact i) (by rw[mY]; exact g) λk b=>?_
  rw[mY]at b
  rw[aii b,Zt b]
  split
  .exact tO _
  .rename_i f
   rw[Ip e.1 b]
   have ld:k<ds.length:=by have:=e.1; omega
   have n:ds[k]?=some (ds.getD k 0):=by simp[ld]
   have hd:=e.2.1 _ (List.mem_of_getElem? n)
   obtain⟨o,q1,q2⟩:=a.row b
   unfold sA sn at f
   rw[Bool.or_eq_true,decide_eq_true_eq,not_or]at f
   have hw:=a.CP b c
   unfold dB at *
   unfold jA
   generalize ds.getD k 0=d,rows.getD k []=l at *
   split
   .rename_i h0
    exact aic (QV (N:=40) (Wo.frs q2) (by omega) (by omega) (by omega)).1 (by omega) h0 (by omega) f.1
   .obtain⟨p,q,u,_⟩:=hw
    unfold le2
    show _*1<=1*_
    omega
end
end BH
end
section
namespace K21
open PySem L2 BH
abbrev Zx:EF:=(pX (aR qL (ak (aq aB (aj 0) (aj 5)) au)) pR (pW (aq aB (aq aB (aj 2) (eC (.int 0))) (aj 5))))
noncomputable abbrev lbE:EF:=(aq aB (dO (ak (eC (.tup [.int 1,.int 1])) (ak (aq aB (aq aB (aj 0) (aj 5)) (aq aB (aq cC (aj 6) (sO [.int 0])) (aq jo (aZ (g1 bx) (ak (aj 6) au)) (eC (.int 1))))) au))) (aZ (g1 lR) (ak (aq jq (aZ (g1 bx) (ak (aj 6) au)) (eC (.int 0))) au)))
abbrev Rb:SF:=(aC (bw Zx (gN 6)) (eY (fY 4 dX (ak lbE au))))
abbrev Ji:IF:=(cR (ak (aZ (g1 bx) (ak (aj 0) au)) au))
abbrev CT:EF:=(aq aB (dO (ak (aq aB (aq aB (aj 1) (aj 0)) (aj 2)) (ak (eC (.tup [.int 0,.int 1])) au))) (aZ (g1 lR) (ak (aq (nH id) (aq aB (aq aB (aj 1) (aj 0)) (aj 2)) (eC .non)) au)))
abbrev Jj:EF:=(aq aB (dO (ak (aq aB (aq aB (aj 1) (aj 0)) (aj 2)) (ak (aq aB (aj 3) (aj 0)) au))) (aZ (g1 lR) (ak (aq (nH id) (aq aB (aq aB (aj 1) (aj 0)) (aj 2)) (eC .non)) au)))
abbrev lbl:SF:=(bw (dG [none,some 3,some 8] Ji (gN 0) cO CT) (gN 9))
abbrev lbh:SF:=(bw (dG [none,some 3,some 8,some 4] Ji (gN 0) cO Jj) (gN 10))
abbrev lba:SF:=(eY (fY 7 dX (ak (jd (ak (aR lC (ak (aj 1) (ak (aj 9) au))) (ak (aR lC (ak (aj 1) (ak (aj 10) au))) au))) au)))
abbrev Zy:SF:=(aC lbl (aC lbh lba))
section
variable {m:Nat}{rows:List (List (Int × Int))}{ds:List Nat}{as:List (Nat × Nat)}{r:Ru}
theorem ail{k d:Nat}{l:List (Int × Int)}(hw:∀x∈l,Wo x)(u:l.length<=12)(G:1<=l.length)(q:aB (aP rows) (iT k)=.ok (aH l,false))(hd:ds[k]?=some d)(hd2:d<=l.length)(R:List Tr)(H:R.length<=1000)(s1 s3 h a c f g:Sl):∃i,Rb [.sh (aP rows),s1,.sh (bM ds as),s3,.ow R,.sh (iT k),h,a,c,f,g]=.ok (.nx,[.sh (aP rows),s1,.sh (bM ds as),s3,.ow (R++[fT (jA aY (1,1) l d)]),.sh (iT k),i,a,c,f,g]):=by
 have n:=Ze hw u
 have ln:(aY l).length=l.length:=by simpa using n.1.1.length_eq
 have id:aB (.lst (ds.map iT)) (iT k)=.ok (.int (d:Nat),false):=jG (by rw[List.getElem?_map,hd]; rfl)
 have t:qw none (some (d:Int)) (.lst ((aY l).map iT))=.ok (.lst (((aY l).take d).map iT),true):=by
  show Rs.ok (Tr.lst (cut ((aY l).map iT) none (some (d:Int))),true)=_
  rw[Ql,<-List.map_take]
 have p:(((aY l).take d).map iT).length=d:=by rw[List.length_map,List.length_take]; omega
 have s:bx (.lst (((aY l).take d).map iT))=.ok (.int (d:Nat),false):=by
  show Rs.ok (Tr.int ((((aY l).take d).map iT).length:Int),false)=_
  rw[p]
 have w:cC (.lst (((aY l).take d).map iT)) (.lst [.int 0])=.ok (.lst (((aY l).take d).map iT++[.int 0]),true):=if_pos (by rw[p]; simp; omega)
 have y:Zx [.sh (aP rows),s1,.sh (bM ds as),s3,.ow R,.sh (iT k),h,a,c,f,g]=.ok (.v (.lst (((aY l).take d).map iT)) true,[.sh (aP rows),s1,.sh (bM ds as),s3,.ow R,.sh (iT k),h,a,c,f,g]):=bk (fB (cZ (cQ rfl rfl rfl rfl q) rfl) rfl rfl n.2.1) (bk rfl (bk (bk (cQ (z:=(.int (d:Nat),false)) (cQ (z:=(.lst (ds.map iT),false)) rfl rfl rfl rfl rfl) rfl rfl rfl id) (bk rfl (bk rfl rfl))) (bk rfl (bk t rfl))))
 have key:∀{o:Nat} {B:Bool} {j:Int},o<l.length->aB (.lst (((aY l).take d).map iT++[.int 0])) (.int ((d:Int)-1))=.ok (iT o,false)->jq (.int (d:Nat)) (.int 0)=.ok (.bl B,false)->lR (.bl B)=.ok (.int j,false)->aB (.lst [fT (1,1),fT (l.getD o (0,1))]) (.int j)=.ok (fT (jA aY (1,1) l d),false)->∃i,Rb [.sh (aP rows),s1,.sh (bM ds as),s3,.ow R,.sh (iT k),h,a,c,f,g]=.ok (.nx,[.sh (aP rows),s1,.sh (bM ds as),s3,.ow (R++[fT (jA aY (1,1) l d)]),.sh (iT k),i,a,c,f,g]):=λ{o B j} lo A C D E =>
  ⟨_,dw (pB y) (yt (Zo (T:=fT (jA aY (1,1) l d)) (b:=false) (as:=R) (ts:=R) (cQ (z:=(fT (jA aY (1,1) l d),false)) (T:=.lst [fT (1,1),fT (l.getD o (0,1))]) (Ck (cZ rfl (cZ (cQ (z:=(fT (l.getD o (0,1)),false)) (cQ (z:=(aH l,false)) rfl rfl rfl rfl q) (cQ (z:=(iT o,false)) (cQ (z:=(.lst (((aY l).take d).map iT++[.int 0]),true)) rfl rfl rfl rfl w) (cQ (z:=(.int ((d:Int)-1),false)) (jU (z:=(.int (d:Nat),false)) rfl rfl s) rfl rfl rfl rfl) rfl rfl A) rfl rfl (Cg lo)) rfl)) rfl (by show 2<=1000; omega)) (jU (z:=(.int j,false)) (cZ (cQ (z:=(.bl B,false)) (jU (z:=(.int (d:Nat),false)) rfl rfl s) rfl rfl rfl C) rfl) rfl D) rfl rfl E) rfl rfl (by omega) rfl))⟩
 by_cases z:0<d
 .have lt:d-1<(aY l).length:=by omega
  have e:(aY l)[d-1]?=some ((aY l).getD (d-1) 0):=by simp[lt]
  refine key (o:=(aY l).getD (d-1) 0) (B:=true) (j:=1) (List.mem_range.mp (n.1.1.mem_iff.mp (List.mem_of_getElem? e))) ?_ ?_ rfl ?_
  .rw[show(d:Int)-1=((d-1:Nat):Int) by omega]
   refine jG ?_
   rw[List.getElem?_append_left (by rw[p]; omega),List.getElem?_map,List.getElem?_take,if_pos (by omega),e]
   rfl
  .show Rs.ok (Tr.bl (decide ((d:Int) > 0)),false)=_
   rw[decide_eq_true (by omega)]
  .rw[show jA aY (1,1) l d=l.getD ((aY l).getD (d-1) 0) (0,1)from if_pos z]
   rfl
 .have F:d=0:=by omega
  subst F
  exact key (o:=0) (B:=false) (j:=0) (by omega) rfl rfl rfl rfl
theorem Zz(a:Bk m rows)(g:Lk rows.length m ds as)(s1 s3 c d e f:Sl):∀(w k:Nat) (s5 b:Sl),k+w=rows.length->∃i j,cG (gN 5) Rb ((List.range' k w).map iT) [.sh (aP rows),s1,.sh (bM ds as),s3,.ow ((List.range k).map λk=>fT (jA aY (1,1) (rows.getD k []) (ds.getD k 0))),s5,b,c,d,e,f]=.ok (.nx,[.sh (aP rows),s1,.sh (bM ds as),s3,.ow ((List.range rows.length).map λk=>fT (jA aY (1,1) (rows.getD k []) (ds.getD k 0))),i,j,c,d,e,f])
 | 0,k,s5,b,h=>by
  have:k=rows.length:=by omega
  subst this
  exact⟨s5,b,rfl⟩
 |w+1,k,s5,b,h=>by
  have lt:k<rows.length:=by omega
  obtain⟨q,q1,q2⟩:=a.row lt
  have ld:k<ds.length:=by have:=g.1; omega
  have hd:ds[k]?=some (ds.getD k 0):=by simp[ld]
  have n:rows[k]?=some (rows.getD k []):=by simp[lt]
  have s:=a.2.2.2.1
  have t:=a.2.2.1
  have u:=a.2.1
  have dm:=g.2.1 _ (List.mem_of_getElem? hd)
  obtain⟨o,p⟩:=ail (as:=as) q2 (by omega) (by omega) (yu n) hd (by omega) ((List.range k).map λk=>fT (jA aY (1,1) (rows.getD k []) (ds.getD k 0))) (by simp; omega) s1 s3 b c d e f
  obtain⟨i,j,l⟩:=Zz a g s1 s3 c d e f w (k+1) (.sh (iT k)) o (by omega)
  refine⟨i,j,?_⟩
  rw[List.range'_succ,List.map_cons]
  rw[List.range_succ,List.map_append,List.map_cons,List.map_nil]at l
  exact jR p l
theorem ain(a:Lk rows.length m ds as):((List.range rows.length).map λk=>fT (jA aY (1,1) (rows.getD k []) (ds.getD k 0)))=(iB aY (1,1) rows ds).map fT:=by
 refine List.ext_getElem? λi=>?_
 have c:=u0 (od:=aY) (one:=(1,1)) a.1
 by_cases z:i<rows.length
 .have e:=Ip (od:=aY) (one:=(1,1)) a.1 z
  have b:i<(iB aY (1,1) rows ds).length:=by omega
  rw[List.getElem?_map,List.getElem?_map,List.getElem?_range z,show(iB aY (1,1) rows ds)[i]?=some ((iB aY (1,1) rows ds).getD i (0,1)) by simp[b],e]
  rfl
 .rw[List.getElem?_eq_none (by simp; omega),List.getElem?_eq_none (by simp; omega)]
end
section
variable {m:Nat}{rows:List (List (Int × Int))}{ds:List Nat}{as:List (Nat × Nat)}{r:Ru}{s:Nat->Nat->Bool}{bK:List (Int × Int)}
theorem ZC{k t:Nat}(a:k<rows.length)(b:t<(rows.getD k []).length):∃R,aB (.lst (gs rows s)) (iT k)=.ok (.lst R,false)/\aB (.lst R) (iT t)=.ok (fV (s k t) (dB rows k t),false):=by
 refine⟨gr (rows.getD k []) (s k),jG (by unfold gs; simp[a]),jG ?_⟩
 unfold gr dB
 generalize rows.getD k []=l at *
 simp[b]
theorem aio{k t:Nat}(c:k<rows.length)(d:t<(rows.getD k []).length):CT [.sh (iT k),.sh (.lst (gs rows s)),.sh (iT t)]=.ok (.v (fT (if s k t=true then dB rows k t else(0,1))) false,[.sh (iT k),.sh (.lst (gs rows s)),.sh (iT t)]):=by
 obtain⟨R,b,a⟩:=ZC (s:=s) c d
 generalize s k t=sb at a ⊢
 have key:∀{B:Bool} {j:Int} {V:Tr},nH id (fV sb (dB rows k t)) .non=.ok (.bl B,false)->lR (.bl B)=.ok (.int j,false)->aB (.lst [fV sb (dB rows k t),fT (0,1)]) (.int j)=.ok (V,false)->CT [.sh (iT k),.sh (.lst (gs rows s)),.sh (iT t)]=.ok (.v V false,[.sh (iT k),.sh (.lst (gs rows s)),.sh (iT t)]):=λ{B j V} q e f=>cQ (z:=(V,false)) (T:=.lst [fV sb (dB rows k t),fT (0,1)]) (Ck (cZ (cQ (z:=(fV sb (dB rows k t),false)) (cQ (z:=(.lst R,false)) rfl rfl rfl rfl b) rfl rfl rfl a) rfl) rfl (by show 2<=1000; omega)) (jU (z:=(.int j,false)) (cZ (cQ (z:=(.bl B,false)) (cQ (z:=(fV sb (dB rows k t),false)) (cQ (z:=(.lst R,false)) rfl rfl rfl rfl b) rfl rfl rfl a) rfl rfl rfl q) rfl) rfl e) rfl rfl f
 cases sb
 .exact key (B:=true) rfl rfl rfl
 .exact key (B:=false) rfl rfl rfl
theorem aip{k t:Nat}(c:k<rows.length)(d:t<(rows.getD k []).length)(h:bK.length=rows.length):Jj [.sh (iT k),.sh (.lst (gs rows s)),.sh (iT t),.ow (bK.map fT)]=.ok (.v (fT (if s k t=true then dB rows k t else bK.getD k (0,1))) false,[.sh (iT k),.sh (.lst (gs rows s)),.sh (iT t),.ow (bK.map fT)]):=by
 obtain⟨R,b,a⟩:=ZC (s:=s) c d
 have lt:k<bK.length:=by omega
 have e:aB (.lst (bK.map fT)) (iT k)=.ok (fT (bK.getD k (0,1)),false):=jG (by simp[lt])
 generalize s k t=sb at a ⊢
 have key:∀{B:Bool} {j:Int} {V:Tr},nH id (fV sb (dB rows k t)) .non=.ok (.bl B,false)->lR (.bl B)=.ok (.int j,false)->aB (.lst [fV sb (dB rows k t),fT (bK.getD k (0,1))]) (.int j)=.ok (V,false)->Jj [.sh (iT k),.sh (.lst (gs rows s)),.sh (iT t),.ow (bK.map fT)]=.ok (.v V false,[.sh (iT k),.sh (.lst (gs rows s)),.sh (iT t),.ow (bK.map fT)]):=λ{B j V} q f g=>cQ (z:=(V,false)) (T:=.lst [fV sb (dB rows k t),fT (bK.getD k (0,1))]) (Ck (cZ (cQ (z:=(fV sb (dB rows k t),false)) (cQ (z:=(.lst R,false)) rfl rfl rfl rfl b) rfl rfl rfl a) (cZ (cQ (z:=(fT (bK.getD k (0,1)),false)) rfl rfl rfl rfl e) rfl)) rfl (by show 2<=1000; omega)) (jU (z:=(.int j,false)) (cZ (cQ (z:=(.bl B,false)) (cQ (z:=(fV sb (dB rows k t),false)) (cQ (z:=(.lst R,false)) rfl rfl rfl rfl b) rfl rfl rfl a) rfl rfl rfl q) rfl) rfl f) rfl rfl g
 cases sb
 .exact key (B:=true) rfl rfl rfl
 .exact key (B:=false) rfl rfl rfl
theorem Rf(a:rows.length<=4)(ρ : En):Ji (.sh (aP rows)::ρ)=.ok ((List.range rows.length).map iT,.sh (aP rows)::ρ):=Jg (by omega) (jU (z:=(.int (rows.length:Int),false)) rfl rfl (wI rows)) rfl
theorem aiq(c:Bk m rows)(n:bK.length=rows.length){t:Nat}(o:t<m){a b:Int × Int}(p:lC [bO r,aH (lo rows s t)]=.ok (fT a,false))(q:lC [bO r,aH (hi rows s bK t)]=.ok (fT b,false))(R:List Tr)(y:R.length<=1000)(s2 s5 f w i:Sl):∃x g,Zy [.sh (aP rows),.sh (bO r),s2,.sh (.lst (gs rows s)),.ow (bK.map fT),s5,f,.ow R,.sh (iT t),w,i]=.ok (.nx,[.sh (aP rows),.sh (bO r),s2,.sh (.lst (gs rows s)),.ow (bK.map fT),s5,f,.ow (R++[.tup [fT a,fT b]]),.sh (iT t),x,g]):=by
 have d:∀k,k<rows.length->t<(rows.getD k []).length:=λk l=>by rw[(c.row l).2.1]; exact o
 have m1:∀ρ : En,fQ [some 3,some 8] (.sh (aP rows)::ρ)=[.sh (.lst (gs rows s)),.sh (iT t)]->(∀e,fZ [none,some 3,some 8] (e::[.sh (.lst (gs rows s)),.sh (iT t)]) (.sh (aP rows)::ρ)=true)->dG [none,some 3,some 8] Ji (gN 0) cO CT (.sh (aP rows)::ρ)=.ok (.v (aH (lo rows s t)) true,.sh (aP rows)::ρ):=λρ u sh=>by
  have:=qQ (r:=iT) (h:=λk=>fT (if s k t=true then dB rows k t else(0,1))) (xs:=List.range rows.length) (fe:=CT) (by have:=c.2.1; simp; omega) (Rf c.2.1 ρ) u sh (λe=>rfl) (λk mk=>⟨false,aio (List.mem_range.mp mk) (d k (List.mem_range.mp mk))⟩)
  rwa[show Tr.lst ((List.range rows.length).map λk=>fT (if s k t=true then dB rows k t else(0,1)))=aH (lo rows s t) by unfold aH lo; rw[List.map_map]; rfl]at this
 have j:=qQ (r:=iT) (h:=λk=>fT (if s k t=true then dB rows k t else bK.getD k (0,1))) (xs:=List.range rows.length) (ρ:=[.sh (aP rows),.sh (bO r),s2,.sh (.lst (gs rows s)),.ow (bK.map fT),s5,f,.ow R,.sh (iT t),.sh (aH (lo rows s t)),i]) (rest:=[some 3,some 8,some 4]) (fe:=Jj) (by have:=c.2.1; simp; omega) (Rf c.2.1 _) rfl (λe=>rfl) (λe=>rfl) (λk mk=>⟨false,aip (List.mem_range.mp mk) (d k (List.mem_range.mp mk)) n⟩)
 rw[show Tr.lst ((List.range rows.length).map λk=>fT (if s k t=true then dB rows k t else bK.getD k (0,1)))=aH (hi rows s bK t) by unfold aH hi; rw[List.map_map]; rfl]at j
 exact⟨_,_,dw (pB (m1 _ rfl λe=>rfl)) (dw (pB j) (yt (Zo (T:=.tup [fT a,fT b]) (b:=false) (as:=R) (ts:=R) (tu_ (cZ (fB rfl rfl rfl p) (cZ (fB rfl rfl rfl q) rfl)) rfl (by show 2<=1000; omega)) rfl rfl (by omega) rfl)))⟩
theorem ZD(i:Bk m rows)(o:bK.length=rows.length){a b:Nat->Int × Int}(p:∀t,t<m->lC [bO r,aH (lo rows s t)]=.ok (fT (a t),false))(q:∀t,t<m->lC [bO r,aH (hi rows s bK t)]=.ok (fT (b t),false))(s2 s5 f:Sl):∀(w t:Nat) (g d e:Sl),t+w=m->∃j k c,cG (gN 8) Zy ((List.range' t w).map iT) [.sh (aP rows),.sh (bO r),s2,.sh (.lst (gs rows s)),.ow (bK.map fT),s5,f,.ow (iI a b t),g,d,e]=.ok (.nx,[.sh (aP rows),.sh (bO r),s2,.sh (.lst (gs rows s)),.ow (bK.map fT),s5,f,.ow (iI a b m),j,k,c])
 | 0,t,g,d,e,h=>by
  have:t=m:=by omega
  subst this
  exact⟨g,d,e,rfl⟩
 |w+1,t,g,d,e,h=>by
  have x:=i.2.2.2.1
  obtain⟨v,l,u⟩:=aiq i o (t:=t) (by omega) (p t (by omega)) (q t (by omega)) (iI a b t) (by unfold iI; simp; omega) s2 s5 f d e
  obtain⟨j,k,c,n⟩:=ZD i o p q s2 s5 f w (t+1) (.sh (iT t)) v l (by omega)
  refine⟨j,k,c,?_⟩
  rw[List.range'_succ,List.map_cons]
  unfold iI at u n ⊢
  rw[List.range_succ,List.map_append,List.map_cons,List.map_nil]at n
  exact jR u n
theorem Rg{xs:List (Int × Int)}(a:∀x∈xs,Wo x)(b:1<=xs.length)(c:xs.length<=12)(d:gP xs.length r):lC [bO r,aH xs]=.ok (fT (wv r xs),false):=by
 obtain⟨v,e,h⟩:=ah9 a b c d
 rw[Zq a h]
 exact e
theorem ZF(c:Bk m rows)(d:Lk rows.length m ds as)(h:gP rows.length r):yh [aP rows,bO r,bM ds as]=.ok (.lst (iI (loV r rows ds as) (hiV r rows ds as) m),true):=by
 have e:=c.1
 have l:=c.2.1
 have v:=c.2.2.2.1
 have o:yg [aP rows,bM ds as]=.ok (.lst (gs rows (sA aY rows ds as)),true):=ah2 c d.1
 obtain⟨p,q,f⟩:=Zz c d (.sh (bO r)) (.sh (.lst (gs rows (sA aY rows ds as)))) .un .un .un .un rows.length 0 .un .un (by omega)
 rw[ain d]at f
 obtain⟨w,x,u,i⟩:=ZD (s:=sA aY rows ds as) (bK:=iB aY (1,1) rows ds) (r:=r) c (u0 d.1) (a:=loV r rows ds as) (b:=hiV r rows ds as)
  (λt g=>Rg (Jh c g) (by rw[oK]; exact e) (by rw[oK]; omega) (by rw[oK]; exact h))
  (λt g=>Rg (Q9 c g (u0 d.1) (Ra c d)) (by rw[tV]; exact e) (by rw[tV]; omega) (by rw[tV]; exact h)) (.sh (bM ds as)) p q m 0 .un .un .un (by omega)
 have j:=yw (rows.getD 0 [])
 rw[(c.row e).2.1]at j
 rw[<-List.range_eq_range']at f i
 exact mX (dw (pB (fB rfl rfl rfl o)) (dw rfl (dw (qU (pC (Rf l _) f)) (dw rfl (dw (qU (pC (Jg (n:=m) (by omega) (jU (z:=(.int (m:Int),false)) (cZ (cQ (z:=(aH (rows.getD 0 []),false)) rfl rfl rfl rfl (yu (k:=0) (by have:0<rows.length:=e; simp[this]))) rfl) rfl j) rfl) i)) rfl)))))
end
abbrev ZG:EF:=(dG [none,some 8] (cM (aj 1)) (gN 0) cO (aq aB (aj 0) (aj 1)))
noncomputable abbrev Rh:SF:=(aC (bw (aq aB (aj 7) (aj 8)) (gT 2 (bZ (gN 9) (bZ (gN 10) fO)))) (aC (bw (aR lC (ak (aj 5) (ak ZG au))) (gN 11)) (aC (cA (gY (eX (dJ (iH .tuple (aq aB (aj 7) (aj 8))))) (gY (eX (dJ (aR wz (ak (aj 9) au)))) (eX (dJ (aR wz (ak (aj 10) au)))))) (bB (eC (.bl false))) cD) (cA (gY (dJ (aR mU (ak (aj 11) (ak (aj 9) au)))) (dJ (aR mU (ak (aj 10) (ak (aj 11) au))))) (bB (eC (.bl false))) cD))))
theorem ZJ(x:Int × Int):wz [fT x]=.ok (.bl true,false):=rfl
abbrev bW(r:Ru)(rows:List (List (Int × Int)))(ds:List Nat)(as:List (Nat × Nat))(m:Nat):List Tr:=iI (loV r rows ds as) (hiV r rows ds as) m
section
variable {m:Nat}{rows:List (List (Int × Int))}{ds:List Nat}{as:List (Nat × Nat)}{r:Ru}
theorem air(g:Bk m rows){t:Nat}(j:t<m){s0 s2 s3 s4 s5 b c d e f a:Sl}:ZG [s0,.sh (aP rows),s2,s3,s4,s5,b,c,.sh (iT t),d,e,f,a]=.ok (.v (aH (col rows t)) true,[s0,.sh (aP rows),s2,s3,s4,s5,b,c,.sh (iT t),d,e,f,a]):=by
 have l:rows.map aH=(List.range rows.length).map λk=>aH (rows.getD k []):=by
  refine List.ext_getElem? λi=>?_
  by_cases z:i<rows.length <;> simp[z]
 have em:=qQ (r:=λk=>aH (rows.getD k [])) (h:=λk=>fT (dB rows k t)) (xs:=List.range rows.length) (ρ:=[s0,.sh (aP rows),s2,s3,s4,s5,b,c,.sh (iT t),d,e,f,a]) (τ:=[.sh (iT t)]) (rest:=[some 8]) (i:=cM (aj 1)) (fe:=aq aB (aj 0) (aj 1)) (by have:=g.2.1; simp; omega) (by rw[<-l]; rfl) rfl (λn=>rfl) (λn=>rfl) (λk mk=>⟨false,cQ rfl rfl rfl rfl (Cg (by rw[(g.row (List.mem_range.mp mk)).2.1]; exact j))⟩)
 have o:Tr.lst ((List.range rows.length).map λk=>fT (dB rows k t))=aH (col rows t):=by
  unfold aH col
  rw[List.map_map]
  rfl
 rw[o]at em
 exact em
theorem ais(a:Bk m rows)(g:Lk rows.length m ds as)(c:gP rows.length r){t:Nat}(b:t<m)(s0 s2 s3 s4 h n o p d:Sl):∃q e f,Rh [s0,.sh (aP rows),s2,s3,s4,.sh (bO r),h,.ow (bW r rows ds as m),.sh (iT t),n,o,p,d]=.ok (.nx,[s0,.sh (aP rows),s2,s3,s4,.sh (bO r),h,.ow (bW r rows ds as m),.sh (iT t),q,e,f,d]):=by
 have i:aB (.lst (bW r rows ds as m)) (iT t)=.ok (.tup [fT (loV r rows ds as t),fT (hiV r rows ds as t)],false):=jG (by unfold bW iI; simp[b])
 have l:=Rg (r:=r) (CQ a b) (by rw[mY]; exact a.1) (by rw[mY]; have:=a.2.1; omega) (by rw[mY]; exact c)
 have fc:=Wv.fq (CQ a b) (by rw[mY]; exact a.2.1) (by rw[mY]; exact c) (aij (r:=r) a c b).2
 obtain⟨s,u⟩:=aik a g c b
 have j:=Iw fc (Zu (ds:=ds) (as:=as) a c b).2 (by omega)
 have k:=Iw (Zv a g c b).2 fc (by omega)
 rw[qT.mpr s]at j
 rw[qT.mpr u]at k
 exact⟨_,_,_,dw (ag1 (T:=.tup [fT (loV r rows ds as t),fT (hiV r rows ds as t)]) (cQ (z:=(_,false)) rfl rfl rfl rfl i) rfl) (dw (pB (fB (z:=(fT (wv r (col rows t)),false)) (cZ rfl (cZ (air a b) rfl)) rfl rfl l)) (dw (lE (wH (uX (qd (T:=.bl true) (is_ (T:=.tup [fT (loV r rows ds as t),fT (hiV r rows ds as t)]) (cQ (z:=(_,false)) rfl rfl rfl rfl i) rfl) rfl rfl)) (wH (uX (qd (fB rfl rfl rfl (ZJ _)) rfl rfl)) (uX (qd (fB rfl rfl rfl (ZJ _)) rfl rfl)))) rfl) (lE (wH (qd (fB rfl rfl rfl j) rfl rfl) (qd (fB rfl rfl rfl k) rfl rfl)) rfl)))⟩
theorem ZK(q:Bk m rows)(u:Lk rows.length m ds as)(v:gP rows.length r)(s0 s2 s3 s4 g a:Sl):∀(js:List Nat) (k d e f:Sl),(∀j∈js,j<m)->∃n o b c,cG (gN 8) Rh (js.map λi:Nat=>Tr.int i) [s0,.sh (aP rows),s2,s3,s4,.sh (bO r),g,.ow (bW r rows ds as m),k,d,e,f,a]=.ok (.nx,[s0,.sh (aP rows),s2,s3,s4,.sh (bO r),g,.ow (bW r rows ds as m),n,o,b,c,a])
 | [],k,d,e,f,_=>⟨k,d,e,f,rfl⟩
 |t::js,k,d,e,f,h=>by
  obtain⟨s,l,p,w⟩:=ais q u v (h t (by simp)) s0 s2 s3 s4 g d e f a
  obtain⟨n,o,b,c,x⟩:=ZK q u v s0 s2 s3 s4 g a js (.sh (iT t)) s l p λj y=>h j (by simp[y])
  exact⟨n,o,b,c,lfO rfl w x⟩
theorem ZL(a b:Nat->Int × Int):dep (.lst (iI a b m))<=40:=by
 have:deps (iI a b m)<=3:=Ie λt c=>by
  unfold iI at c
  obtain⟨k,_,rfl⟩:=List.mem_map.mp c
  rw[wC,oG,oG,tK,Qm,Qm]
  omega
 rw[qO]
 omega
noncomputable abbrev ZM:SF:=(aC (bw (aR yh (ak (aj 1) (ak (aj 5) (ak (aj 2) au)))) (gN 6)) (aC (fX 7 (aR wk (ak (aq aB (aj 4) (eC (.int 0))) (ak (aj 5) (ak (aq aB (aj 4) (eC (.int 1))) au))))) (aC (cA (gY (eX (dJ (iH .list (aj 7)))) (gY (bY (aq gq (aj 7) (aj 6))) (bY (aq gq (aj 4) (dO (ak (aj 1) (ak (aj 2) au))))))) (bB (eC (.bl false))) cD) (aC (cg (cR (ak (aZ (g1 bx) (ak (aj 7) au)) au)) (gN 8) Rh) (eY (zR 7 vL))))))
theorem Ri(d:Bk m rows)(f:Lk rows.length m ds as)(g:gP rows.length r)(s0 s3 u v k o p q a:Sl):∃w x h i b c,ZM [s0,.sh (aP rows),.sh (bM ds as),s3,.sh (.lst [aP rows,bM ds as]),.sh (bO r),u,v,k,o,p,q,a]=.ok (.nx,[s0,.sh (aP rows),.sh (bM ds as),s3,.sh (.lst [aP rows,bM ds as]),.sh (bO r),w,x,h,i,b,c,a]):=by
 have n1:=Ig (ZL (m:=m) (loV r rows ds as) (hiV r rows ds as))
 have l:=Ig (T:=.lst [aP rows,bM ds as]) (by rw[qO,oG,oG,tK]; have:=agK rows; have:=ah5 (ds:=ds) (as:=as); omega)
 obtain⟨h,i,b,c,e⟩:=ZK d f g s0 (.sh (bM ds as)) s3 (.sh (.lst [aP rows,bM ds as])) (.sh (.lst (bW r rows ds as m))) a (List.range m) k o p q λj s=>List.mem_range.mp s
 have ln:bx (.lst (bW r rows ds as m))=.ok (.int (m:Nat),false):=by
  show Rs.ok (Tr.int ((iI (loV r rows ds as) (hiV r rows ds as) m).length:Int),false)=_
  unfold iI
  rw[List.length_map,List.length_range]
 exact⟨_,_,h,i,b,c,dw (pB (fB rfl rfl rfl (ZF d f g))) (dw (ow_ (ts:=bW r rows ds as m) (fB (z:=(.lst (bW r rows ds as m),true)) (cZ (cQ (z:=(aP rows,false)) rfl rfl rfl rfl rfl) (cZ rfl (cZ (cQ (z:=(bM ds as,false)) rfl rfl rfl rfl rfl) rfl))) rfl rfl (Zw d f g))) (dw (lE (wH (uX (qd (T:=.bl true) (is_ (T:=.lst (bW r rows ds as m)) rfl rfl) rfl rfl)) (wH (Im (cQ (z:=(.bl false,false)) rfl rfl rfl rfl n1) rfl) (Im (cQ (z:=(.bl false,false)) rfl (Ck (ts:=[aP rows,bM ds as]) rfl rfl (by show 2<=1000; omega)) rfl rfl l) rfl))) rfl) (dw (pC (Jg (n:=m) (by have:=d.2.2.2.1; omega) (jU (z:=(.int (m:Nat),false)) (as:=[.lst (bW r rows ds as m)]) rfl rfl ln) rfl) e) (yt (bk rfl (bk rfl rfl))))))⟩
end
abbrev fM:SF:=(bL (cg (cM (dO (ak (aq aB (aj 3) (eC (.int 0))) (ak (aq aB (aj 3) (eC (.int 1))) (ak (aq aB (aj 3) (eC (.int 0))) au))))) (gN 5) ZM))
abbrev fU:EF:=(jd (ak (aZ (g1 kW) (ak (aq aB (aj 2) (eC (.int 0))) au)) (ak (aZ (g1 kW) (ak (aq aB (aj 2) (eC (.int 1))) au)) au)))
abbrev fH:SF:=(GZ 4 12 [5,6,7,8,9,10,11,12] BR (ak (aj 1) au) fU fM)
section
variable {m:Nat}{rows:List (List (Int × Int))}{ds:List Nat}{as:List (Nat × Nat)}{r1 r2:Ru}
theorem ait(a:Bk m rows)(b:Lk rows.length m ds as)(j:gP rows.length r1)(k:gP rows.length r2)(s0:Sl):∃n5 n6 n o p c q,fM [s0,.sh (aP rows),.sh (bM ds as),.sh (.lst [bO r1,bO r2]),.sh (.lst [aP rows,bM ds as]),.un,.un,.un,.un,.un,.un,.un,.un]=.ok (.nx,[s0,.sh (aP rows),.sh (bM ds as),.sh (.lst [bO r1,bO r2]),.sh (.lst [aP rows,bM ds as]),n5,n6,n,o,p,c,q,.un]):=by
 obtain⟨l,r,s,t,d,e,u⟩:=Ri a b j s0 (.sh (.lst [bO r1,bO r2])) .un .un .un .un .un .un .un
 obtain⟨v,w,x,y,f,g,z⟩:=Ri a b k s0 (.sh (.lst [bO r1,bO r2])) l r s t d e .un
 obtain⟨A,B,C,D,h,i,E⟩:=Ri a b j s0 (.sh (.lst [bO r1,bO r2])) v w x y f g .un
 exact⟨_,A,B,C,D,h,i,qU (pC (us:=[bO r1,bO r2,bO r1]) rfl (jR u (jR z (jR E rfl))))⟩
theorem aiu(b:Bk m rows)(c:Lk rows.length m ds as)(d:gP rows.length r1)(f:gP rows.length r2)(S:Tr):fH [.sh S,.sh (aP rows),.sh (bM ds as),.sh (.lst [bO r1,bO r2]),.un,.un,.un,.un,.un,.un,.un,.un,.un]=.ok (.nx,[.sh S,.sh (aP rows),.sh (bM ds as),.sh (.lst [bO r1,bO r2]),.sh (.lst [aP (rows.map List.reverse),bM ds as]),.un,.un,.un,.un,.un,.un,.un,.un]):=by
 obtain⟨n5,n6,h,i,j,g,k,e⟩:=ait b c d f (.sh S)
 have al:(rows.map aH).all zq=true:=by
  rw[List.all_map]
  exact List.all_eq_true.mpr λl _=>rfl
 refine bk (a:=([Rv.v (aP rows) false],_)) rfl ((if_neg Bool.false_ne_true).trans (bk rfl (bk (ah3 (rows:=rows) (by have:=b.2.1; omega)) (bk (a:=(Rv.v (bM ds as) false,_)) rfl ?_))))
 unfold GX
 dsimp only
 rw[if_pos ⟨al,by show 4<13; omega⟩]
 refine bk e ?_
 unfold Np
 dsimp only
 rw[if_pos ⟨by show 12<13; omega,rfl⟩,ah4]
 rfl
end
theorem aiv(ns:List Int):BW [.lst (ns.map .int)]=.ok (.bl true,false):=by
 obtain⟨m,rows,b,h⟩:=ahO ns 0
 obtain⟨ds,as,f,i⟩:=ahW ns 5 b
 obtain⟨j,k,_⟩:=cell_eq ns 7
 obtain⟨l,n,_⟩:=cell_eq ns 8
 obtain⟨a,q1,g⟩:=Zi j b.1 b.2.1
 obtain⟨o,q2,p⟩:=Zi l b.1 b.2.1
 have c:=Bk.rev b
 have d:Lk (rows.map List.reverse).length m ds as:=by rw[List.length_map]; exact f
 have e:gP (rows.map List.reverse).length a:=by rw[List.length_map]; exact g
 have q:=X5 (ZL (m:=m) (loV a (rows.map List.reverse) ds as) (hiV a (rows.map List.reverse) ds as))
 exact mX (dw (pB (fB rfl rfl rfl h)) (dw (pB (fB rfl rfl rfl i)) (dw (pB (Ck (ts:=[bO a,bO o]) (cZ (fB (cZ (fB rfl rfl rfl k) (cZ (jU rfl rfl (wI rows)) rfl)) rfl rfl q1) (cZ (fB (cZ (fB rfl rfl rfl n) (cZ (jU rfl rfl (wI rows)) rfl)) rfl rfl q2) rfl)) rfl (by show 2<=1000; omega))) (dw (aiu b f g p (.lst (ns.map .int))) (oJ (cQ (z:=(.bl true,false)) (fB (z:=(.lst (bW a (rows.map List.reverse) ds as m),true)) (cZ (cQ (z:=(aP (rows.map List.reverse),false)) rfl rfl rfl rfl rfl) (cZ (cQ (z:=(bO a,false)) rfl rfl rfl rfl rfl) (cZ (cQ (z:=(bM ds as,false)) rfl rfl rfl rfl rfl) rfl))) rfl rfl (Zw c d e)) (fB (z:=(.lst (bW a (rows.map List.reverse) ds as m),true)) (cZ (cQ (z:=(aP (rows.map List.reverse),false)) rfl rfl rfl rfl rfl) (cZ (cQ (z:=(bO a,false)) rfl rfl rfl rfl rfl) (cZ rfl rfl))) rfl rfl (ZF c d e)) rfl rfl q))))))
end K21
end
section
namespace L2
open PySem PySem.Spec PyProof.Rows PySem.W
theorem aiw{P:Program}{w:World}{K:FZ}{mg Q:Str->Option Value}{CX:mH}{k:Nat}{R a:Addr}{x:Str}{sp:Sp}{f : Shared}{vs:List Value}{ns:List Int}
  (M:K.In f.heap) (D:f.heap.Ns mainGlobals mg) (i:f.heap.Ns builtinsNs Q) (S:∀x:Str,x ≠ "__name__" -> Q x=bootBuiltins x) (E:f.heap.NoLimit) (hg:f.gens = #[])
  (B:f.heap.get? a=some {cls:=.type "list",data:=.seq vs.toArray }) (hi:IntsAre vs ns) (hl:ns.length<=sizeLine) (hr:gQ k callerA)
  (hT:∀x∈jN,∀c b,tabIn K x=some (c,b)->CodeHd f.heap c b/\f.heap.get? b=some (tabObj #[])) (wL:noTabs K=true) (hB:sY mg f.heap)
  (F:∀base:Heap,K.In base->base.Ns mainGlobals mg->(∀x∈jN,∀c b,tabIn K x=some (c,b)->CodeHd base c b)->sY mg base->∃fd:FuncData,(∀(s:Shared) (u:Value),K.In s.heap->BindsTo s fd ⟨[u],[]⟩ [(x,u)])/\m7 P w K mg base CX k R fd [x] sp)
  (T:∀H:Hp,gJ (aJ K) H->oV K H a (ns.map V.int)->sp [.ref a] H (λv _=>v=.bl true) λ_ _ _=>False)
  (Rj:∀H e j,CX [] H f (λ_ _ _=>False) e j->False) :
  codeAny (model P w) callerA (.call (.ref R) ⟨[.ref a],[]⟩) (λr j=>r=.ok (.ret (.bool true))/\OldK f.heap j.heap/\j.os=f.os/\AllBare j.gens) f := by
 have rv:=T5 hi
 have G:=hi.length
 -- from an abstract heap in which nothing but the script may be tracked
 have g:∀b,Tb (aJ K) b->∃c,CodeHd f.heap c b/\f.heap.get? b=some (tabObj #[]):=λb ⟨x,I,c,e⟩=>⟨c,hT x I c b (Wg e)⟩
 have core:∀H:Hp,(∀b,H b=none\/(∃o xs,H b=some (.fC o (.lst xs)))\/(H b=some (.eE #[])/\Tb (aJ K) b))->gJ (aJ K) H->oV K H a (ns.map V.int)->gO P w H f.heap->(∀b,H b≠none->b=a\/Tb (aJ K) b)->(H a≠none->K.lookup a=none) ->
   codeAny (model P w) callerA (.call (.ref R) ⟨[.ref a],[]⟩) (λr j=>r=.ok (.ret (.bool true))/\OldK f.heap j.heap/\j.os=f.os/\AllBare j.gens) f := by
  intro H hO U hS hok W hK
  have N:∀{b:Addr} {o:Obj},f.heap.get? b=some o->H b=none->(qX f.heap H).get? b=some o:=λe n=>aak e n
  have yM:∀{b:Addr} {o:Obj} {J:Array DictEntry} {L:Nat},f.heap.get? b=some o->o.data=.dict J L->H b=none:=λ{b o J L} e d=>by
   cases q:H b with
   |none=>rfl
   |some u =>
    rcases W b (by rw[q]; simp)with p|p
    .subst p
     rw[B]at e; cases e
     have d':Data.seq vs.toArray _=Data.dict J L:=d
     cases d'
    .obtain⟨c,_,z⟩:=g b p
     rw[z]at e; cases e
     cases d
  have O:∀{b:Addr} {m:Str->Option Value},f.heap.Ns b m->(qX f.heap H).Ns b m:=λ{b m} ⟨o,J,L,e,d,r⟩=>⟨o,J,L,N e (yM e d),d,r⟩
  have ZQ:K.In (qX f.heap H):=λb o e=>N (M b o e) (by
   cases q:H b with
   |none=>rfl
   |some u =>
    rcases W b (by rw[q]; simp)with p|p
    .subst p
     rw[hK (by rw[q]; simp)]at e; cases e
    .obtain⟨c,_,z⟩:=g b p
     have C:=M b o e
     rw[z]at C
     cases C
     have X:=List.all_eq_true.mp wL (b,_) (mem_of_lookupK e)
     exact absurd (show false=true from X) Bool.false_ne_true)
  have hM:Mod K mg (qX f.heap H):=⟨ZQ,O D,⟨Q,O i,S⟩,let⟨mc,h1,X⟩:=E; ⟨mc,O h1,X⟩⟩
  have e0:Dz P w K mg (qX f.heap H) callerA [] f H:=⟨rfl,hM,λb o e=>aal e,Nat.le_of_eq (aaj _ _),trivial,λb i=>absurd (show b∈([]:List Addr)from i) (by simp),hok,.of_eq hg⟩
  have free:∀{b:Addr} {o:Obj},f.heap.get? b=some o->o.cls ≠ .none->(∀Y n,o.data ≠ .seq Y n)->H b=none:=λ{b o} e n1 n2=>by
   cases q:H b with
   |none=>rfl
   |some u =>
    rcases W b (by rw[q]; simp)with p|p
    .subst p
     rw[B]at e; cases e
     exact(n2 _ _ rfl).elim
    .obtain⟨c,_,z⟩:=g b p
     rw[z]at e; cases e
     exact(n1 rfl).elim
  obtain⟨fd,A,F1⟩:=F _ ZQ (O D) (λx I c b e=>by
   obtain⟨o,Z,file,tf,flags,tg,inF,text,tt,t,r1,r2,r3⟩:=(hT x I c b e).1
   exact⟨o,Z,file,tf,flags,tg,inF,text,tt,N t (free t (by rw[r1]; intro z; cases z) (λ_ _ z=>by rw[r2]at z; cases z)),r1,r2,r3⟩) (by
   obtain⟨bm,ob,b1,b2,b3,b4,b5,b6,b7⟩:=hB
   exact⟨bm,ob,b1,b2,b3,N b4 (free b4 (by rw[b5]; intro z; cases z) (λ_ _ z=>by rw[b7]at z; cases z)),b5,b6,b7⟩)
  refine codeAny_mono (F1.run callerA [] f H ⟨[.ref a],[]⟩ [.ref a] [.ref a] _ _ hr e0 (A f (.ref a) M) (.cons rfl .nil) (T H U hS)) λr j h=>?_
  cases r with
  |error e=>exact(Rj H e j h).elim
  |ok fl =>
   cases fl with
   |next=>exact False.elim h
   |brk=>exact False.elim h
   |cont=>exact False.elim h
   |ret u =>
    obtain⟨v,H',os,bare,un,y,r',q⟩:=h
    have q':v=.bl true:=q
    subst q'
    obtain rfl:u=Value.bool true:=r'
    refine⟨rfl,⟨λb o e=>?_,λb o e=>un.there b o e (by simp)⟩,os,bare⟩
    cases q:H b with
    |none=>exact .inl (un.keep b o e q (by intro z; exact absurd (show b∈([]:List Addr)from z) (by simp)) (by simp))
    |some u =>
     rcases hO b with z|⟨ob,xs,z⟩|⟨z,zt⟩
     .rw[q]at z; cases z
     .have C:=un.pF b ob _ z
      obtain⟨t,_⟩:=hok b _ z
      obtain⟨e2,_⟩:=y b _ C
      rw[e]at t; cases t
      exact .inl e2
     .obtain⟨more,C⟩:=un.pG b _ z
      have t:f.heap.get? b=some (tabObj #[]):=hok b _ z
      have e2:j.heap.get? b=some (tabObj (#[]++more)):=y b _ C
      rw[e]at t; cases t
      obtain⟨c,hc,_⟩:=g b zt
      exact .inr (.inl ⟨(hc.tab e).isCodeTable,rfl,#[],more,rfl,e2⟩)
 classical
 have ZR:∀H:Hp,(∀b,Tb (aJ K) b->H b=some (.eE #[]))->gJ (aJ K) H:=λH h x I c b e=>⟨#[],h b ⟨x,I,c,e⟩,trivial,λpos v z=>by cases z⟩
 have ZS:¬Tb (aJ K) a:=λz=>by
  obtain⟨c,_,e⟩:=g a z
  rw[B]at e
  cases e
 cases hk:K.lookup a with
 |some o =>
  have e:=M a o hk
  rw[B]at e
  cases e
  refine core (λb=>if Tb (aJ K) b then some (.eE #[])else none) (λb=>?_) (ZR _ λb z=>if_pos z) (.inr ⟨vs.toArray,_,hk,by rw[List.size_toArray,G]; exact hl,by simpa using rv⟩) (λb u z=>?_) (λb z=>?_) λz=>?_
  .by_cases q:Tb (aJ K) b
   .exact .inr (.inr ⟨if_pos q,q⟩)
   .exact .inl (if_neg q)
  .by_cases q:Tb (aJ K) b
   .have l:=(if_pos q).symm.trans z
    cases l
    obtain⟨c,_,e⟩:=g b q
    exact e
   .have l:=(if_neg q).symm.trans z
    cases l
  .by_cases q:Tb (aJ K) b
   .exact .inr q
   .exact absurd (if_neg q) z
  .exact absurd (if_neg ZS) z
 |none =>
  refine core (λb=>if b=a then some (.fC {cls:=.type "list",data:=.seq vs.toArray } (.lst (ns.map V.int)))else if Tb (aJ K) b then some (.eE #[])else none) (λb=>?_) (ZR _ λb z=>by
   have nb:¬b=a:=λq=>ZS (by rw[<-q]; exact z)
   exact(if_neg nb).trans (if_pos z)) (.inl (.inr ⟨{cls:=.type "list",data:=.seq vs.toArray },if_pos rfl⟩)) (λb u z=>?_) (λb z=>?_) λ_=>hk
  .by_cases i:b=a
   .exact .inr (.inl ⟨_,_,if_pos i⟩)
   .by_cases q:Tb (aJ K) b
    .exact .inr (.inr ⟨(if_neg i).trans (if_pos q),q⟩)
    .exact .inl ((if_neg i).trans (if_neg q))
  .by_cases i:b=a
   .have l:=(if_pos i).symm.trans z
    cases l
    subst i
    exact⟨B,by rw[List.length_map]; exact hl,vs,_,rv,B⟩
   .have l:=(if_neg i).symm.trans z
    by_cases q:Tb (aJ K) b
    .have l:=(if_pos q).symm.trans l
     cases l
     obtain⟨c,_,e⟩:=g b q
     exact e
    .have l:=(if_neg q).symm.trans l
     cases l
  .by_cases i:b=a
   .exact .inl i
   .by_cases q:Tb (aJ K) b
    .exact .inr q
    .exact absurd ((if_neg i).trans (if_neg q)) z
theorem aix{l:PySem.W.OpenLaw}{n k:Nat}{q:Program}{loose:List Str}{XP:(Str->Option Value)->Heap->Prop}{E:World->Heap->Prop}{d:DefRec}{K:Params->FZ}{CX:World->mH}{sp:World->Sp}{x:Str}
  (I:l.most=some n) (p:n<=sizeLine) (y:d.params.defaults=[]) (J:gQ k callerA)
  (CV:∀x∈jN,((recsOf q).find? (λe=>e.name == x)).isSome=true\/∀w:World,nsIn (K w.params) mainGlobals x=some none) (wL:∀w:World,noTabs (K w.params)=true)
  (L:∀(w:World) (h:Heap),E w h->(K w.params).In h)
  (F:∀(w:World) (mg:Str->Option Value) (m:Addr) (h:Heap),(K w.params).In h->h.Ns mainGlobals mg->mg d.name=some (.ref m) ->
   ∀base:Heap,(K w.params).In base->base.Ns mainGlobals mg->(∀x∈jN,∀c b,tabIn (K w.params) x=some (c,b)->CodeHd base c b)->sY mg base->∃fd:FuncData,(∀(s:Shared) (u:Value),(K w.params).In s.heap->BindsTo s fd ⟨[u],[]⟩ [(x,u)])/\m7 l.prog w (K w.params) mg base (CX w) k m fd [x] (sp w))
  (A:∀(w:World) (H:Hp) (a:Addr) (ns:List Int),ns.length<=n->gJ (aJ (K w.params)) H->oV (K w.params) H a (ns.map V.int)->sp w [.ref a] H (λv _=>v=.bl true) λ_ _ _=>False)
  (M:∀(w:World) (H:Hp) (s:Shared) (e:Value) (B:Shared),CX w [] H s (λ_ _ _=>False) e B->False) :
  PySem.W.WalkO q loose XP E l.row.toRowW d [] (λf vs=>PySem.call f vs):=by
 refine T4.abr I y λw s₀ i mg mb m o pm cd doc a vs ns G Y ho hd N r j hints hlen O=>?_
 have t:=L w _ Y
 have P:∀x∈jN,∀c b,tabIn (K w.params) x=some (c,b)->CodeHd i.heap c b/\i.heap.get? b=some (tabObj #[]):=λx Q c b e=>by
  rcases CV x Q with z|z
  .obtain⟨d,z⟩:=Option.isSome_iff_exists.mp z
   exact tab_of G.T t z e
  .rw[Wi (z w)]at e; cases e
 have R:sY mg i.heap:=by
  obtain⟨bm,ob,S,U,C,X,Z,D⟩:=G.T.bmain
  refine⟨bm,ob,S,U,λz=>?_,C,X,Z,D⟩
  obtain⟨o,es,ep,e,hd,_⟩:=G.T.g
  rw[z,e]at C; cases C
  rw[hd]at D; cases D
 exact aiw t G.T.g G.T.b G.T.builtins G.T.nolimit O j hints (Nat.le_trans hlen p) J P (wL w) R (F w mg m _ t G.T.g r) (λH hO hS=>A w H a ns hlen hO hS) λH e B=>M w H i e B
end L2
end
section
namespace K21
open PySem L2 BH PySem.W
section
variable {K:Frag}{mg:Str->Option Value}{h:Heap}
theorem aiy{x:Str}{st:Stmt}(X:K.In h)(G:h.Ns mainGlobals mg){f:Addr}{od an:Option Addr}{b:Array (Option Value)}{d kV e pm cd ct:Value}
  (a:nsIn K mainGlobals x=some (some (.ref f))) (l:K.lookup f=some ⟨d,od,.func (fnOf x x (pN st) (jY st) (bC st) .none kV e pm an cd ct),b⟩) (c:codeIn K cd x=true) (k:keepIn K (.ref f)=true):At K mg x st :=
 ⟨f,_,T6 (st:=st) l c k,mg_of X G a⟩
theorem aiz{x:Str}{st:Stmt}(X:K.In h)(G:h.Ns mainGlobals mg){f c:Addr}{od an:Option Addr}{b:Array (Option Value)}{d kV e pm ct:Value}
  (a:nsIn K mainGlobals x=some (some (.ref f))) (l:K.lookup f=some ⟨d,od,.func (fnOf x x (pN st) (jY st) (bC st) .none kV e pm an (.ref c) ct),b⟩) (g:codeIn K (.ref c) x=true) (k:keepIn K (.ref f)=true):vX K mg x st c :=
 ⟨f,_,T6 (st:=st) l g k,mg_of X G a,rfl⟩
theorem ZV{x:Str}{i:Int}{tk:Tok}(X:K.In h)(G:h.Ns mainGlobals mg)(a:nsIn K mainGlobals x=some (some (.int i tk))):Gk K mg x (.int i) (.int i):=⟨.int i tk,mg_of X G a,by first|exact rfl|exact⟨_,rfl⟩,λ_=>.int i⟩
theorem CW{H:Hp}{a:Addr}{od:Option Addr}{its:Array Value}{n:Nat}{b:Array (Option Value)}{xs:List V}{vs:List Value}{ts:List Tr}(l:K.lookup a=some ⟨.type "tuple",od,.seq its n,b⟩) (e:its.toList=vs) (c:vs.length<=1000) (r:Vals xs vs) (d:aN (aJ K) H xs ts):Rep (aJ K) H (.ref a) (.tup ts):=by
 refine .tup (xs:=xs) (.inr ⟨_,its,n,abS l rfl,rfl,rfl,?_,by rw[e]; exact r⟩) d
 rw[<-Array.length_toList,e]
 exact Nat.le_of_lt (J1 c)
theorem aiA(X:K.In h)(G:h.Ns mainGlobals mg){a b c d:Addr}{od k o p:Option Addr}{its g i j:Array Value}{n n1 q u:Nat}{v w f x:Array (Option Value)}{t1 y t3:Tok}
  (m:nsIn K mainGlobals "BARE_RULES" = some (some (.ref a))) (l:K.lookup a=some ⟨.type "tuple",od,.seq its n,v⟩) (e:its.toList=[.ref b,.ref c,.ref d])
  (l1:K.lookup b=some ⟨.type "tuple",k,.seq g n1,w⟩) (z:g.toList=[.str "least" t1]) (l2:K.lookup c=some ⟨.type "tuple",o,.seq i q,f⟩) (A:i.toList=[.str "greatest" y]) (l3:K.lookup d=some ⟨.type "tuple",p,.seq j u,x⟩) (B:j.toList=[.str "product" t3]):Gk K mg "BARE_RULES" (.ref a) (.tup [(.tup [(.str "least")]),(.tup [(.str "greatest")]),(.tup [(.str "product")])]):=by
 refine⟨_,mg_of X G m,rfl,λH=>CW (xs:=[.ref b,.ref c,.ref d]) l e (Nat.le_of_ble_eq_true rfl) (.cons rfl (.cons rfl (.cons rfl .nil))) ?_⟩
 exact .cons (CW (xs:=[.str "least"]) l1 z (Nat.le_of_ble_eq_true rfl) (.cons ⟨_,rfl⟩ .nil) (.cons (.str _) .nil)) (.cons (CW (xs:=[.str "greatest"]) l2 A (Nat.le_of_ble_eq_true rfl) (.cons ⟨_,rfl⟩ .nil) (.cons (.str _) .nil)) (.cons (CW (xs:=[.str "product"]) l3 B (Nat.le_of_ble_eq_true rfl) (.cons ⟨_,rfl⟩ .nil) (.cons (.str _) .nil)) .nil))
theorem ZW(X:K.In h)(G:h.Ns mainGlobals mg){x:Str}{a:Addr}{od:Option Addr}{its:Array Value}{n:Nat}{b:Array (Option Value)}{i j:Int}{t1 c:Tok}
  (m:nsIn K mainGlobals x=some (some (.ref a))) (l:K.lookup a=some ⟨.type "tuple",od,.seq its n,b⟩) (e:its.toList=[.int i t1,.int j c]):Gk K mg x (.ref a) (.tup [.int i,.int j]) :=
 ⟨_,mg_of X G m,rfl,λH=>CW (xs:=[.int i,.int j]) l e (Nat.le_of_ble_eq_true rfl) (.cons ⟨_,rfl⟩ (.cons ⟨_,rfl⟩ .nil)) (.cons (.int _) (.cons (.int _) .nil))⟩
theorem aiB(H:Hp):aK (λ_=>False) H=H:=by
 funext b
 exact eG (λz=>z)
theorem ZX{K:Frag}{H:Hp}:∀ns:List Int,aN K H (ns.map V.int) (ns.map Tr.int)
 | []=>.nil
 |n::ns=>.cons (.int n) (ZX ns)
def Jm(K:Frag)(n:Nat)(F:FP):Sp:=λvs H Q E=>∃Z ts,vs.length=n/\aN (aJ K) (aK Z H) vs ts/\(∀b,Z b->Lt H b)/\gJ (aJ K) H/\∃p,F ts=.ok p/\∀v H',jt (aJ K) H H'->zU (aJ K) Z H H' v p.1 p.2->Q v H'
theorem aiC{K:Frag}{cl:Str->Addr}{n:Nat}{F:FP}(vs:List V)(H:Hp)(Q:VK)(E:XK)(h:Jm K n F vs H Q E):aV K cl n F vs H Q E:=by
 obtain⟨Z,a,b,c,d,e,p,f,g⟩:=h
 refine⟨Z,a,b,c,d,e,?_⟩
 rw[f]
 exact g
theorem aiD(X:K.In h)(G:h.Ns mainGlobals mg)(z0:nsIn K mainGlobals "abs" = some none) (a:nsIn K mainGlobals "all" = some none) (b:nsIn K mainGlobals "bool" = some none) (c:nsIn K mainGlobals "enumerate" = some none) (d:nsIn K mainGlobals "int" = some none) (e:nsIn K mainGlobals "isinstance" = some none) (f:nsIn K mainGlobals "len" = some none) (g:nsIn K mainGlobals "list" = some none) (i:nsIn K mainGlobals "range" = some none) (j:nsIn K mainGlobals "sorted" = some none) (k:nsIn K mainGlobals "tuple" = some none) (m:nsIn K mainGlobals "zip" = some none):Nm mg :=
 ⟨mg_none_of X G z0,mg_none_of X G a,mg_none_of X G b,mg_none_of X G c,mg_none_of X G d,mg_none_of X G e,mg_none_of X G f,mg_none_of X G g,mg_none_of X G i,mg_none_of X G j,mg_none_of X G k,mg_none_of X G m⟩
end
section
variable {P:Program}{w:World}{K:Frag}{mg:Str->Option Value}{base:Heap}
theorem aiE(M:Nm mg){e:Addr}(HB:PyProof.Rows.OwnCls "NoBottom" e uP "ValueError.__new__" mg base) {g:Addr} (HJ:PyProof.Rows.OwnCls "NoBook" g uP "ValueError.__new__" mg base) {h:Addr} (HN:PyProof.Rows.OwnCls "NoRule" h uP "ValueError.__new__" mg base) {i:Addr} (BZ:PyProof.Rows.OwnCls "NoLooks" i uP "ValueError.__new__" mg base) (a:lu K) (j:At K mg "is_whole" Nz) (k:At K mg "common_divisor" NK) (m:At K mg "fraction_of" NP) (n:At K mg "frac_sum" NQ) (o:At K mg "frac_times" NT) (p:At K mg "is_fraction" NZ) (q:At K mg "common_bottom" N5) (u:At K mg "tops_on_one_bottom" G7) {Z2 v:Addr} (y:vX K mg "falling_places" G8 Z2) (z:Gj K mg base "falling_places" Z2 v) (A:At K mg "is_worth" N6) (B:At K mg "are_worths" G9) (C:At K mg "is_book" Bx) (D:At K mg "is_place" N7) (E:At K mg "is_count" N8) (F:At K mg "are_rising" Hf) (G:At K mg "need_book" Oa) (H:At K mg "read_orders" Hg) (I:At K mg "are_weights" Hh) (J:At K mg "is_rule" Oh) (L:At K mg "shares_worth" Oi) (N:At K mg "product_worth" Oj) (O:At K mg "place_of" Ol) (Q:At K mg "worth_by" Om) (R:At K mg "need_book_and_rule" Oo) (S:At K mg "worths_of" Hi) (T:At K mg "are_depths" Hj) (U:At K mg "is_ask" Oq) (W:At K mg "are_asked" Hl) (X:At K mg "need_looks" Ot) (Y:At K mg "seen_by" Ho) (Z:At K mg "last_worths" Ou) (ajc:At K mg "bounds_by" BJ) (ajd:At K mg "bounds_of" Ov) (aje:At K mg "worth_bounds" Ow) (ajf:At K mg "_law_cell" Ox) (ajg:At K mg "_law_frac" Oz) (ajh:At K mg "_law_add" OD) (aji:At K mg "_law_mul" OJ) (ajj:At K mg "_law_below" O4) (ajk:At K mg "_law_book" O5) (ajl:At K mg "_law_rule" O6) (ajm:At K mg "_law_worth" Hq) (ajn:At K mg "_law_order" Hr) (ajo:At K mg "_law_looks" Hs) (ajp:At K mg "_law_seen" O7) (ajq:At K mg "_law_bounds" BK) (ajr:At K mg "_law_is" Ht) (ajs:At K mg "_law_copied" Hu) (ajt:At K mg "_law_copied" Hv) (aju:At K mg "law" Hw) {PK:V} (HD:Gk K mg "MOST_LISTS" PK (.int 4)) {PL:V} (HF:Gk K mg "MOST_THINGS" PL (.int 12)) {PN:V} (PX:Gk K mg "BARE_RULES" PN (.tup [(.tup [(.str "least")]),(.tup [(.str "greatest")]),(.tup [(.str "product")])])) {Pz:V} (PB:Gk K mg "NOTHING" Pz (.tup [(.int 0),(.int 1)])) {Qd:V} (Qe:Gk K mg "FULL" Qd (.tup [(.int 1),(.int 1)])):aQ P w K mg base 9 "law" (["_law_script"]:List Str) (Jm K 1 BW):=by
 obtain⟨cl,l,r,s,t⟩:∃cl:Str→Addr,cl "NoBottom" = e∧cl "NoBook" = g∧cl "NoRule" = h∧cl "NoLooks" = i:=⟨λx=>if x=("NoBottom" : Str)then e else if x=("NoBook" : Str)then g else if x=("NoRule" : Str)then h else if x=("NoLooks" : Str)then i else 0,if_pos rfl,(if_neg (by decide +kernel)).trans (if_pos rfl),(if_neg (by decide +kernel)).trans ((if_neg (by decide +kernel)).trans (if_pos rfl)),(if_neg (by decide +kernel)).trans ((if_neg (by decide +kernel)).trans ((if_neg (by decide +kernel)).trans (if_pos rfl)))⟩
 rw[<-l]at HB
 rw[<-r]at HJ
 rw[<-s]at HN
 rw[<-t]at BZ
 have c:=afS (P:=P) (w:=w) (base:=base) (cl:=cl) j M a
 have Rq:=afE (P:=P) (w:=w) (base:=base) (cl:=cl) k M
 have Z4:=afJ (P:=P) (w:=w) (base:=base) (cl:=cl) m M HB Rq
 have ajz:=afH (P:=P) (w:=w) (base:=base) (cl:=cl) n M Z4
 have Z5:=afI (P:=P) (w:=w) (base:=base) (cl:=cl) o M Z4
 have Z6:=afO (P:=P) (w:=w) (base:=base) (cl:=cl) p M a c Rq
 have ajA:=afD (P:=P) (w:=w) (base:=base) (cl:=cl) q M Rq
 have ajB:=agf (P:=P) (w:=w) (base:=base) (cl:=cl) u M ajA
 have Z7:=afF (P:=P) (w:=w) (base:=base) (cl:=cl) y z M ajB
 have ajC:=afT (P:=P) (w:=w) (base:=base) (cl:=cl) A M Z6
 have ajD:=afv (P:=P) (w:=w) (base:=base) (cl:=cl) B M a ajC
 have ajE:=afL (P:=P) (w:=w) (base:=base) (cl:=cl) C M HD HF a ajD
 have ajF:=afP (P:=P) (w:=w) (base:=base) (cl:=cl) D M c
 have ajG:=afN (P:=P) (w:=w) (base:=base) (cl:=cl) E M c
 have ajH:=aft (P:=P) (w:=w) (base:=base) (cl:=cl) F M
 have ajI:=afZ (P:=P) (w:=w) (base:=base) (cl:=cl) G M HJ ajE
 have Z8:=aga (P:=P) (w:=w) (base:=base) (cl:=cl) H M Z7
 have ajJ:=afu (P:=P) (w:=w) (base:=base) (cl:=cl) I M a Z6
 have ajK:=afQ (P:=P) (w:=w) (base:=base) (cl:=cl) J M PX a ajJ c
 have ajL:=agc (P:=P) (w:=w) (base:=base) (cl:=cl) L M ajz Z5
 have ajM:=af9 (P:=P) (w:=w) (base:=base) (cl:=cl) N M Z5
 have ajN:=af8 (P:=P) (w:=w) (base:=base) (cl:=cl) O M
 have ajO:=agl (P:=P) (w:=w) (base:=base) (cl:=cl) Q M ajL ajM Z7 ajN
 have ajP:=af2 (P:=P) (w:=w) (base:=base) (cl:=cl) R M HN ajI ajK
 have ajQ:=agp (P:=P) (w:=w) (base:=base) (cl:=cl) S M
 have ajR:=afr (P:=P) (w:=w) (base:=base) (cl:=cl) T M a ajG
 have ajS:=afK (P:=P) (w:=w) (base:=base) (cl:=cl) U M a ajF
 have ajT:=afo (P:=P) (w:=w) (base:=base) (cl:=cl) W M a ajH ajS
 have ajU:=af5 (P:=P) (w:=w) (base:=base) (cl:=cl) X M BZ a ajR ajT
 have ajV:=agb (P:=P) (w:=w) (base:=base) (cl:=cl) Y M Z8
 have ajW:=afU (P:=P) (w:=w) (base:=base) (cl:=cl) Z M Z8
 have ajX:=afx (P:=P) (w:=w) (base:=base) (cl:=cl) ajc M PB ajQ ajO
 have ajY:=afz (P:=P) (w:=w) (base:=base) (cl:=cl) ajd M ajX ajV ajW
 have ajZ:=agh (P:=P) (w:=w) (base:=base) (cl:=cl) aje M Qe ajP ajU ajY
 have Rr:=afb (P:=P) (w:=w) (base:=base) (cl:=cl) ajf M
 have d:=afe (P:=P) (w:=w) (base:=base) (cl:=cl) ajg M
 have aj0:=ae6 (P:=P) (w:=w) (base:=base) (cl:=cl) ajh M d
 have aj1:=afi (P:=P) (w:=w) (base:=base) (cl:=cl) aji M d
 have Rt:=ae7 (P:=P) (w:=w) (base:=base) (cl:=cl) ajj M
 have aj2:=ae8 (P:=P) (w:=w) (base:=base) (cl:=cl) ajk M Rr d
 have aj3:=afk (P:=P) (w:=w) (base:=base) (cl:=cl) ajl M d
 have Z9:=afm (P:=P) (w:=w) (base:=base) (cl:=cl) ajm M aj0 aj1 Rt
 have b:=afj (P:=P) (w:=w) (base:=base) (cl:=cl) ajn M Rt
 have aj4:=afh (P:=P) (w:=w) (base:=base) (cl:=cl) ajo M Rr
 have aj5:=afl (P:=P) (w:=w) (base:=base) (cl:=cl) ajp M b
 have aj6:=ae9 (P:=P) (w:=w) (base:=base) (cl:=cl) ajq M aj5 b Z9
 have aj7:=afg (P:=P) (w:=w) (base:=base) (cl:=cl) ajr M a
 have aj8:=afc (P:=P) (w:=w) (base:=base) (cl:=cl) ajs M
 have aj9:=afd (P:=P) (w:=w) (base:=base) (cl:=cl) ajt M
 have akb:=afV (P:=P) (w:=w) (base:=base) (cl:=cl) aju M a aj2 aj4 aj3 aj8 aj6 ajZ Rr Z9 Rt aj7 aj9
 obtain⟨f,fd,h1,h2⟩:=akb
 exact⟨f,fd,h1.imp aiC,h2⟩
end
theorem walk{l:OpenLaw}{q:Program}{loose:List Str}{XP:(Str->Option Value)->Heap->Prop}{j:World->Heap->Prop}{d:DefRec}{K:Params->Frag}(m:l.most=some 63)(g:d.params.defaults=[])(hd:d.name = "law")
  (CV:∀x∈jN,((PyProof.Rows.recsOf q).find? (λe=>e.name == x)).isSome=true\/∀w:World,nsIn (K w.params) mainGlobals x=some none) (wL:∀w:World,noTabs (K w.params)=true)
  (o:∀(w:World) (h:Heap),j w h->(K w.params).In h)
  (F:∀(w:World) (mg:Str->Option Value) (h:Heap),(K w.params).In h->h.Ns mainGlobals mg->∀base:Heap,(K w.params).In base->base.Ns mainGlobals mg->(∀x∈jN,∀c b,tabIn (K w.params) x=some (c,b)->CodeHd base c b)->sY mg base->aQ l.prog w (K w.params) mg base 9 "law" (["_law_script"]:List Str) (Jm (K w.params) 1 BW)) :
  WalkO q loose XP j l.row.toRowW d [] (λf vs=>PySem.call f vs) :=
 L2.aix (n:=63) (k:=9) (x := "_law_script") (CX:=λw=>j4 l.prog w) (sp:=λw=>Jm (K w.params) 1 BW) m (by decide) g ⟨rfl,by decide,by decide,rfl⟩ CV wL o
  (λw mg J h p G hm base t y A bm=>by
   obtain⟨f,fd,B,C,_,D⟩:=F w mg h p G base t y A bm
   rw[hd]at hm
   cases D.symm.trans hm
   exact⟨fd,λs u E=>C s [u] E rfl,B⟩)
  (λw H a ns L i I=>⟨λ_=>False,[.lst (ns.map .int)],rfl,.cons (.lst ((aiB H).symm▸I.toN) (ZX ns)) .nil,λb z=>z.elim,i,_,aiv ns,λv M _ r=>by
   cases r
   rfl⟩)
  λw H s e N h=>by
   obtain⟨_,_,_,_,_,_,z,_⟩:=h
   exact z
end K21
end
section
namespace PySem.W.Fast
theorem tw10097562588406317502:True:=⟨⟩
theorem tw101988805350246839:True:=⟨⟩
theorem tw10413612995235455009:True:=⟨⟩
theorem tw10496034821029287645:True:=⟨⟩
theorem tw10589791052932295234:True:=⟨⟩
theorem tw10684384283691475207:True:=⟨⟩
theorem tw10700298249419202956:True:=⟨⟩
theorem tw10769452748545425529:True:=⟨⟩
theorem tw11062131561687068821:True:=⟨⟩
theorem tw11092274360811137277:True:=⟨⟩
theorem tw11150181981414663851:True:=⟨⟩
theorem tw1119383317343053690:True:=⟨⟩
theorem tw1150056829484872868:True:=⟨⟩
theorem tw11645004850785346767:True:=⟨⟩
theorem tw11780458775812178561:True:=⟨⟩
theorem tw11819305712238086389:True:=⟨⟩
theorem tw11881684775902143704:True:=⟨⟩
theorem tw12020513332686498487:True:=⟨⟩
theorem tw12114818550221646821:True:=⟨⟩
theorem tw12142697418117716671:True:=⟨⟩
theorem tw12325284355199588682:True:=⟨⟩
theorem tw12337448886771565478:True:=⟨⟩
theorem tw12539241963655812606:True:=⟨⟩
theorem tw1258894787217441543:True:=⟨⟩
theorem tw12636200224686808260:True:=⟨⟩
theorem tw12652044393695787132:True:=⟨⟩
theorem tw12774912032081986974:True:=⟨⟩
theorem tw13016502830936458577:True:=⟨⟩
theorem tw13437276098589756373:True:=⟨⟩
theorem tw1345511046293782371:True:=⟨⟩
theorem tw1359701699976759673:True:=⟨⟩
theorem tw13623790919739777481:True:=⟨⟩
theorem tw13751763265449448150:True:=⟨⟩
theorem tw13771938479696367911:True:=⟨⟩
theorem tw138132902689660078:True:=⟨⟩
theorem tw13928623099502448176:True:=⟨⟩
theorem tw14246712163857156422:True:=⟨⟩
theorem tw14266827193548171860:True:=⟨⟩
theorem tw14619661094729771083:True:=⟨⟩
theorem tw14743963403337366269:True:=⟨⟩
theorem tw14980361361035348940:True:=⟨⟩
theorem tw15083462846114802301:True:=⟨⟩
theorem tw152417554313487338:True:=⟨⟩
theorem tw15376839103328454181:True:=⟨⟩
theorem tw15431178827132784942:True:=⟨⟩
theorem tw15539598994932973739:True:=⟨⟩
theorem tw15625995071105344351:True:=⟨⟩
theorem tw15695547314931169713:True:=⟨⟩
theorem tw1594451210416309865:True:=⟨⟩
theorem tw15999473205869649280:True:=⟨⟩
theorem tw16042508601848946308:True:=⟨⟩
theorem tw16175311671166199559:True:=⟨⟩
theorem tw16417419814750403046:True:=⟨⟩
theorem tw16420212779771252597:True:=⟨⟩
theorem tw16487388185610942131:True:=⟨⟩
theorem tw1667312308863314866:True:=⟨⟩
theorem tw16744359362433090219:True:=⟨⟩
theorem tw16765132629651846655:True:=⟨⟩
theorem tw16888291526652773454:True:=⟨⟩
theorem tw1692286538648698976:True:=⟨⟩
theorem tw17024179829858521374:True:=⟨⟩
theorem tw17101590894941584977:True:=⟨⟩
theorem tw17286216156055633509:True:=⟨⟩
theorem tw17348292082202538295:True:=⟨⟩
theorem tw18036091057403074361:True:=⟨⟩
theorem tw1807811161151153689:True:=⟨⟩
theorem tw18153796998407638511:True:=⟨⟩
theorem tw1890715872247573105:True:=⟨⟩
theorem tw1928532824930522210:True:=⟨⟩
theorem tw2064987433307452815:True:=⟨⟩
theorem tw2079625200287412043:True:=⟨⟩
theorem tw2150075191114611016:True:=⟨⟩
theorem tw2412260070914030699:True:=⟨⟩
theorem tw267756027579939661:True:=⟨⟩
theorem tw2764411854292815039:True:=⟨⟩
theorem tw2858245158501126260:True:=⟨⟩
theorem tw3180380557409787056:True:=⟨⟩
theorem tw3311399010410285595:True:=⟨⟩
theorem tw3365134357798103631:True:=⟨⟩
theorem tw3865580649795249675:True:=⟨⟩
theorem tw3944447396863311825:True:=⟨⟩
theorem tw3982922389527573794:True:=⟨⟩
theorem tw4029485798640689547:True:=⟨⟩
theorem tw4091389373792012714:True:=⟨⟩
theorem tw4191872758499766196:True:=⟨⟩
theorem tw4252226354193733741:True:=⟨⟩
theorem tw4286759417503069449:True:=⟨⟩
theorem tw4350519933402791575:True:=⟨⟩
theorem tw460456308871536832:True:=⟨⟩
theorem tw5054386912053041906:True:=⟨⟩
theorem tw507641299979559412:True:=⟨⟩
theorem tw5089332198507893623:True:=⟨⟩
theorem tw5115289254208442140:True:=⟨⟩
theorem tw522608046718511596:True:=⟨⟩
theorem tw5246977542454919025:True:=⟨⟩
theorem tw5290110349827371887:True:=⟨⟩
theorem tw5622808000608397887:True:=⟨⟩
theorem tw5707160964313097192:True:=⟨⟩
theorem tw5986389599586849544:True:=⟨⟩
theorem tw605119990043375129:True:=⟨⟩
theorem tw6308302147186119538:True:=⟨⟩
theorem tw6331291207625611735:True:=⟨⟩
theorem tw6721177498156601106:True:=⟨⟩
theorem tw6769558021772414061:True:=⟨⟩
theorem tw6992501475622431661:True:=⟨⟩
theorem tw748451560723342367:True:=⟨⟩
theorem tw7681852106993893353:True:=⟨⟩
theorem tw7731338575406021240:True:=⟨⟩
theorem tw7989733967527604038:True:=⟨⟩
theorem tw8127820484699654402:True:=⟨⟩
theorem tw8154289841820558615:True:=⟨⟩
theorem tw8186823904089638553:True:=⟨⟩
theorem tw8403692680709023920:True:=⟨⟩
theorem tw8791012771735866852:True:=⟨⟩
theorem tw9046636885880724902:True:=⟨⟩
theorem tw9071569214295466626:True:=⟨⟩
theorem tw9179457987487757842:True:=⟨⟩
theorem tw9252534490355507770:True:=⟨⟩
theorem tw9304179452093201339:True:=⟨⟩
theorem tw9351910913969095925:True:=⟨⟩
theorem tw9520425137779694632:True:=⟨⟩
theorem tw9544738547366974378:True:=⟨⟩
theorem tw9560072945763143398:True:=⟨⟩
theorem tw9820475279408727441:True:=⟨⟩
theorem tw9922777826088666808:True:=⟨⟩
theorem tw9933754867380176016:True:=⟨⟩
end PySem.W.Fast
open PySem PySem.W PyProof.Rows
set_option maxRecDepth 100000 in
set_option maxHeartbeats 0 in
theorem PySem.Challenge.cw_bestheads_k21_bounds_holds : PySem.Challenge.rw_bestheads_k21_bounds.Holds := by
 w_on; o_law; k_head; (case hw=>w_witness2)
 k_fill
 refine K21.walk (l:=PySem.Challenge.rw_bestheads_k21_bounds) rfl rfl rfl ?CV ?wL (λw h Y=>by first|exact PySem.W.km_in_of Y|exact PySem.W.kIn_of Y) ?F
 case CV =>
  intro x hx
  rcases(List.mem_cons.mp hx)with rfl|hx
  .exact .inl (by kernel_rfl)
  .rw[List.mem_singleton.mp hx]
   exact .inr λw=>by k_is
 case wL=>intro w; kernel_rfl
 case F =>
  intro w mg h KX G base kb gb hcd hbm
  refine' K21.aiE ?qM ?akc ?akd ?ake ?akf ?qXT ?qd1 ?qd2 ?qd3 ?qd4 ?qd5 ?qd6 ?qd7 ?qd8 ?qd9 ?qe9 ?akg ?akh ?aki ?akj ?akk ?akl ?akm ?akn ?ako ?akp ?akq ?akr ?aks ?akt ?aku ?akv ?akx ?aky ?akz ?akA ?akC ?akD ?akE ?akG ?akH ?akJ ?akK ?akL ?akM ?akN ?akP ?akQ ?akR ?akS ?akT ?akU ?akV ?akW ?akX ?akY ?akZ ?ak0 ?ak1 ?ak2 ?ak3 ?ak4
  case qM =>
   refine' K21.aiD KX G ?z0 ?z1 ?z2 ?z3 ?z4 ?z5 ?z6 ?z7 ?z8 ?z9 ?Z0 ?Z1
   all_goals k_is
  case qd1|qd2|qd3|qd4|qd5|qd6|qd7|qd8|akg|akh|aki|akj|akk|akl|akm|akn|ako|akp|akq|akr|aks|akt|aku|akv|akx|aky|akz|akA|akC|akD|akE|akG|akH|akJ|akK|akL|akM|akN|akP|akQ|akR|akS|akT|akU|akV|akW|akX|akY|akZ=>exact K21.aiy KX G (by k_is) (by k_is) (by k_is) (by k_is)
  case qd9 =>
   refine' K21.aiz KX G ?qa9 ?ql9 ?qc9 ?qk9
   (case qa9=>k_is); (case ql9=>k_is); (case qc9=>k_is); (case qk9=>k_is)
  case qe9 =>
   refine' L2.aeh (by decide) hcd hbm (L2.aeg ?ra9 ?rb9 ?ak5 ?rc9 ?ak6 ?ak7 ?rd9 ?ak8 ?ak9) ?re9
   (case ra9=>k_is); (case rb9=>k_is); (case rc9=>k_is); (case ak7=>exact rfl); (case rd9=>k_is); (case ak5=>kernel_rfl); (case ak6=>kernel_rfl); (case ak8=>kernel_rfl); (case ak9=>exact rfl)
   case re9 =>
    intro x' hx'
    rcases(List.mem_cons.mp hx')with rfl|hx'
    .exact .inl rfl
    .rw[List.mem_singleton.mp hx']
     exact .inr λc' z=>(by have y:=(L2.Wi (by k_is)).symm.trans z; cases y)
  case ak0 =>
   refine' K21.ZV KX G ?ala
   (case ala=>k_is)
  case ak1 =>
   refine' K21.ZV KX G ?alb
   (case alb=>k_is)
  case ak2 =>
   refine' K21.aiA KX G ?qbm ?qbl ?qbe ?alc ?ald ?ale ?alf ?alg ?alh
   (case qbm=>k_is); (case qbl=>k_is); (case qbe=>rfl); (case alc=>k_is); (case ald=>rfl); (case ale=>k_is); (case alf=>rfl); (case alg=>k_is); (case alh=>rfl)
  case ak3 =>
   refine' K21.ZW KX G ?ali ?alj ?alk
   (case ali=>k_is); (case alj=>k_is); (case alk=>rfl)
  case ak4 =>
   refine' K21.ZW KX G ?alm ?aln ?alo
   (case alm=>k_is); (case aln=>k_is); (case alo=>rfl)
  case qXT=>exact L2.lu.of (by kernel_rfl)
  case akc =>
   refine' L2.Ej kb gb ?alp ?alq
   (case alp=>k_is); (case alq=>k_exc)
  case akd =>
   refine' L2.Ej kb gb ?alr ?als
   (case alr=>k_is); (case als=>k_exc)
  case ake =>
   refine' L2.Ej kb gb ?alu ?alv
   (case alu=>k_is); (case alv=>k_exc)
  case akf =>
   refine' L2.Ej kb gb ?alw ?alx
   (case alw=>k_is); (case alx=>k_exc)
#print axioms PySem.Challenge.cw_bestheads_k21_bounds_holds
end
end
