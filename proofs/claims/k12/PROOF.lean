import PyProof.Rows.All
import Wide.All
import OpenK.AllK
import Wide.FinOn
import Lean
import PyProof.EqAt
import PyProof.EqKinds
import PyProof.TupleCall
import PyProof.ReprRoads
import PyProof.ReprBulk
import PyProof.Rows.RegStrFacts
import PyProof.StrBlockH
import PyProof.FitsBits
import KE.KTurns
import PyProof.NeKinds
import KE.KNest
import KE.KSortKey
import PyProof.ListRange
import PyProof.Rows.SortWalk
import KE.KListMore
import PySem.Challenge.RW_bestheads_k12_refused_worths
set_option exponentiation.threshold 6000
set_option Elab.async false
set_option linter.all false
set_option maxRecDepth 100000
set_option maxHeartbeats 4000000
section
namespace L2
open PySem PySem.Spec PyProof.Rows
noncomputable abbrev Key := Sum Int Str
noncomputable def aqQ : Key -> Value -> Bool
 | .inl k, v => Value.isInt k v
 | .inr x, v => Value.isStrOf x v
noncomputable def awz (w : World) : Key -> Int
 | .inl k => hashInt k
 | .inr x => hashStr w x
theorem aby : ∀ {k : Key} {v : Value}, aqQ k v = true -> (∃ i t, k = Sum.inl i /\ v = Value.int i t) \/ (∃ x t, k = Sum.inr x /\ v = Value.str x t)
 | .inl i, v, h => by
  obtain ⟨t, e⟩ := Value.isInt_shape (k := i) (v := v) h
  exact .inl ⟨i, t, rfl, e⟩
 | .inr x, v, h => by
  obtain ⟨t, e⟩ := Value.isStrOf_shape (x := x) (v := v) h
  exact .inr ⟨x, t, rfl, e⟩
theorem aqR (a b : Int) : decide ((Sum.inl a : Key) = Sum.inl b) = (a == b) := by
 by_cases e : a = b
 ·subst e; simp
 ·have h : ¬ (Sum.inl a : Key) = Sum.inl b := λq => e (Sum.inl.inj q)
  rw [decide_eq_false h]
  exact (beq_eq_false_iff_ne.mpr e).symm
theorem aqS (a b : Str) : decide ((Sum.inr a : Key) = Sum.inr b) = decide (a = b) := by
 by_cases e : a = b
 ·subst e; simp
 ·have h : ¬ (Sum.inr a : Key) = Sum.inr b := λq => e (Sum.inr.inj q)
  rw [decide_eq_false h, decide_eq_false e]
theorem aqT (a : Int) (b : Str) : decide ((Sum.inl a : Key) = Sum.inr b) = false := decide_eq_false (λq => nomatch q)
theorem aqU (a : Str) (b : Int) : decide ((Sum.inr a : Key) = Sum.inl b) = false := decide_eq_false (λq => nomatch q)
noncomputable def aiM (prog : Program) (w : World) : PySem.KeyKind prog w Key where
 is := aqQ
 hash := awz w
 inj := λv a b ha hb => by
  rcases aby ha with ⟨i, t, rfl, rfl⟩ | ⟨x, t, rfl, rfl⟩
  ·rcases aby hb with ⟨j, u, rfl, e⟩ | ⟨y, u, rfl, e⟩
   ·injection e with e1 _; rw [e1]
   ·exact nomatch e
  ·rcases aby hb with ⟨j, u, rfl, e⟩ | ⟨y, u, rfl, e⟩
   ·exact nomatch e
   ·injection e with e1 _; rw [e1]
 byValue := λk v h => by
  rcases aby h with ⟨i, t, rfl, rfl⟩ | ⟨x, t, rfl, rfl⟩ <;> rfl
 pyHash := λhv h => by
  rcases aby hv with ⟨i, t, rfl, rfl⟩ | ⟨x, t, rfl, rfl⟩
  ·exact wpAny_pyHash_int h
  ·exact wpAny_pyHash_str h
 eqBool := λhu hv h => by
  rcases aby hu with ⟨i, t, rfl, rfl⟩ | ⟨x, t, rfl, rfl⟩
  ·rcases aby hv with ⟨j, u, rfl, rfl⟩ | ⟨y, u, rfl, rfl⟩
   ·rw [aqR] at h; exact wpAny_eqBool_int h
   ·rw [aqT] at h; exact SeqAt.EqAt.int_str i t y u _ _ _ _ h
  ·rcases aby hv with ⟨j, u, rfl, rfl⟩ | ⟨y, u, rfl, rfl⟩
   ·rw [aqU] at h; exact SeqAt.EqAt.str_int x t j u _ _ _ _ h
   ·rw [aqS] at h; exact wpAny_eqBool_str h
 «strs» := λk x t v h => by
  rcases aby h with ⟨i, u, rfl, e⟩ | ⟨y, u, rfl, e⟩
  ·exact nomatch e
  ·injection e with e1 _
   subst e1
   cases v <;> rfl
end L2
namespace L2
open PySem PySem.Spec PyProof.Rows
inductive V where
 | non | bl (b : Bool) | int (i : Int) | str (x : Str) | byt (b : Array UInt8) | flt (b : UInt64) | ref (a : Addr) | ty (n : String)
 deriving DecidableEq
noncomputable def RelV : V -> Value -> Prop
 | .non, u => u = Value.none
 | .bl b, u => u = Value.bool b
 | .int i, u => ∃ t, u = Value.int i t
 | .str x, u => ∃ t, u = Value.str x t
 | .byt b, u => ∃ t, u = Value.bytes b t
 | .flt b, u => ∃ t, u = Value.float b t
 | .ref a, u => u = Value.ref a
 | .ty n, u => u = Value.type n
noncomputable abbrev Vals : List V -> List Value -> Prop := Paired RelV
theorem Vals.length {xs : List V} {us : List Value} (r : Vals xs us) : xs.length = us.length := Paired.length r
theorem Vals.get : ∀ {xs : List V} {us : List Value} {i : Nat} {x : V}, Vals xs us -> xs[i]? = some x -> ∃ u, us[i]? = some u /\ RelV x u
 | _, _, _, _, .nil, e => by simp at e
 | _, _, 0, _, .cons r _, e => by simp at e; subst e; exact ⟨_, rfl, r⟩
 | _, _, i + 1, x, .cons _ t, e => by
  obtain ⟨u, h1, h2⟩ := Vals.get (i := i) (x := x) t (by simpa using e)
  exact ⟨u, by simpa using h1, h2⟩
theorem Vals.set {x : V} {u : Value} (r : RelV x u) : ∀ {xs : List V} {us : List Value} (i : Nat), Vals xs us -> Vals (xs.set i x) (us.set i u)
 | _, _, _, .nil => .nil
 | _, _, 0, .cons _ t => .cons r t
 | _, _, i + 1, .cons q t => .cons q (Vals.set r i t)
theorem Vals.append : ∀ {xs ys : List V} {us ws : List Value}, Vals xs us -> Vals ys ws -> Vals (xs ++ ys) (us ++ ws)
 | _, _, _, _, .nil, s => s
 | _, _, _, _, .cons r t, s => .cons r (Vals.append t s)
theorem Vals.take : ∀ {xs : List V} {us : List Value} (n : Nat), Vals xs us -> Vals (xs.take n) (us.take n)
 | _, _, 0, _ => .nil
 | _, _, _ + 1, .nil => .nil
 | _, _, n + 1, .cons r t => .cons r (Vals.take n t)
theorem Vals.drop : ∀ {xs : List V} {us : List Value} (n : Nat), Vals xs us -> Vals (xs.drop n) (us.drop n)
 | _, _, 0, r => r
 | _, _, _ + 1, .nil => .nil
 | _, _, n + 1, .cons _ t => Vals.drop n t
noncomputable def avH : Option V -> Option Value -> Prop
 | some v, some u => RelV v u
 | none, none => True
 | _, _ => False
noncomputable def KV {κ : Type} : List (κ × V) -> List (κ × Value) -> Prop := Paired λ(p : κ × V) (q : κ × Value) => p.1 = q.1 /\ RelV p.2 q.2
noncomputable def kV : Key -> V
 | .inl i => .int i
 | .inr x => .str x
inductive HO where
 | lst (xs : List V)
 | tup (xs : List V)
 | dK (kvs : List (Key × V)) | dT (kvs : List (List Key × V))
 | set (S : Int -> Bool) (n : Nat)
 | ins (C dx : Addr) (fs : List (Str × V))
 | own (x : Addr)
 | xd (fs : List (Str × V))
 | met (f x : Addr)
 | rng (lo hi : Int)
 | frz (o : Obj) (u : HO)
 | tbl (ps : Array Value)
 | ext (φ : Heap -> Prop)
noncomputable abbrev Hp := Addr -> Option HO
noncomputable def upd (H : Hp) (a : Addr) (o : HO) : Hp := λb => if b = a then some o else H b
theorem aaQ {H : Hp} {a : Addr} {o : HO} : upd H a o a = some o := by unfold upd; rw [if_pos rfl]
theorem aaw {H : Hp} {a b : Addr} {o : HO} (h : b ≠ a) : upd H a o b = H b := by unfold upd; rw [if_neg h]
theorem aaS {H : Hp} {a b : Addr} {o : HO} (h : H a = some o) (h' : H b = none) : a ≠ b := by
 intro e; subst e; rw [h] at h'; cases h'
section
variable (P : Program) (w : World)
noncomputable def ad6 (H : Hp) (h : Heap) (a : Addr) : HO -> Prop
 | .lst xs => xs.length <= sizeLine /\ ∃ (its : List Value) (n : Nat), Vals xs its /\ h.get? a = some { cls := .type "list", data := .seq its.toArray n }
 | .tup xs => xs.length <= sizeLine /\ ∃ its : List Value, Vals xs its /\ IsTup h a its.toArray
 | .dK kvs => kvs.length <= sizeLine /\ (a == sysModules) = false /\ ∃ vs, KV kvs vs /\ h.DictOf (aiM P w) a vs
 | .dT kvs => kvs.length <= sizeLine /\ (a == sysModules) = false /\ ∃ xs : List (List Key × Addr × Value),
   Paired (λ(p : List Key × V) (q : List Key × Addr × Value) => p.1 = q.1 /\ H q.2.1 = some (.tup (p.1.map kV)) /\ RelV p.2 q.2.2) kvs xs /\
   ∃ o es ep, h.get? a = some o /\ o.ExactDict /\ o.data = .dict es ep /\ es.toList = xs.map (entryOfKey (tupleKind (aiM P w))) /\ (xs.map (·.1)).Nodup
 | .set S n => h.SetOf (intKind P w) a S n
 | .ins C dx fs => H dx = some (.own a) /\ fs.length <= 1000 /\ dx ≠ a /\ h.get? a = some (PySem.W.instObj C dx) /\
   ∃ mA, h.Ns1 dx mA /\ (∀ f, avH (fs.lookup f) (mA f)) /\ PySem.Within mA (fs.map (·.1))
 | .own _ => ∃ o, h.get? a = some o
 | .xd fs => ∃ mA, h.Ns1 a mA /\ ∀ f, avH (fs.lookup f) (mA f)
 | .rng lo hi => ∃ t u v, h.get? a = some { cls := .type "range", data := .fields #[.int lo t, .int hi u, .int 1 v] }
 | .frz o u => h.get? a = some o /\ ad6 H h a u
 | .tbl ps => h.get? a = some { cls := .none, data := .fields ps }
 | .met f x => h.get? a = some (PySem.W.methodObj (.ref f) (.ref x))
 | .ext φ => φ h /\ (∃ o, h.get? a = some o) /\ ∀ h1 h2 : Heap, φ h1 -> (∀ o, h1.get? a = some o -> h2.get? a = some o) -> φ h2
noncomputable def HOk (H : Hp) (h : Heap) : Prop := ∀ a o, H a = some o -> ad6 P w H h a o
end
section
variable {P : Program} {w : World} {H H' : Hp} {h h' : Heap} {a : Addr} {o : HO}
theorem ad6.lt (x : ad6 P w H h a o) : a < h.objs.size := by
 cases o with
 | lst xs => obtain ⟨_, _, _, _, e⟩ := x; exact Heap.lt_size e
 | tup xs => obtain ⟨_, _, _, p⟩ := x; exact p.lt
 | dK kvs => obtain ⟨_, _, _, _, o, _, _, e, _⟩ := x; exact Heap.lt_size e
 | dT kvs => obtain ⟨_, _, _, _, o, _, _, e, _⟩ := x; exact Heap.lt_size e
 | set S n => obtain ⟨o, _, _, _, e, _⟩ := x; exact Heap.lt_size e
 | ins C dx fs => obtain ⟨_, _, _, e, _⟩ := x; exact Heap.lt_size e
 | own y => obtain ⟨_, e⟩ := x; exact Heap.lt_size e
 | xd fs => obtain ⟨_, ⟨_, _, _, e, _⟩, _⟩ := x; exact Heap.lt_size e
 | rng lo hi => obtain ⟨_, _, _, e⟩ := x; exact Heap.lt_size e
 | frz ob u => obtain ⟨e, _⟩ := x; exact Heap.lt_size e
 | tbl ps => exact Heap.lt_size (show h.get? a = some _ from x)
 | met f y => exact Heap.lt_size (show h.get? a = some _ from x)
 | ext φ => obtain ⟨_, ⟨_, e⟩, _⟩ := x; exact Heap.lt_size e
theorem Paired.avI {α β : Type} {F G : α -> β -> Prop} : ∀ {l₁ : List α} {l₂ : List β}, Paired F l₁ l₂ -> (∀ a b, F a b -> G a b) -> Paired G l₁ l₂
 | _, _, .nil, _ => .nil
 | _, _, .cons r t, f => .cons (f _ _ r) (Paired.avI t f)
theorem ad6.stay (x : ad6 P w H h a o) (k : ∀ b u, (b = a \/ H b = some (.own a)) -> h.get? b = some u -> h'.get? b = some u)
  (ho : ∀ b, H b = some (.own a) -> H' b = some (.own a)) (ht : ∀ b xs, H b = some (.tup xs) -> H' b = some (.tup xs)) : ad6 P w H' h' a o := by
 induction o with
 | lst xs => obtain ⟨z, its, n, r, e⟩ := x; exact ⟨z, its, n, r, k _ _ (.inl rfl) e⟩
 | tup xs => obtain ⟨z, its, r, ob, e, c⟩ := x; exact ⟨z, its, r, ob, k _ _ (.inl rfl) e, c⟩
 | dK kvs => obtain ⟨z, y, vs, r, ob, es, ep, e, c⟩ := x; exact ⟨z, y, vs, r, ob, es, ep, k _ _ (.inl rfl) e, c⟩
 | dT kvs =>
  obtain ⟨z, y, xs, r, ob, es, ep, e, c⟩ := x
  exact ⟨z, y, xs, Paired.avI r λp q z => ⟨z.1, ht _ _ z.2.1, z.2.2⟩, ob, es, ep, k _ _ (.inl rfl) e, c⟩
 | set S n => obtain ⟨ob, es, ep, t, e, c⟩ := x; exact ⟨ob, es, ep, t, k _ _ (.inl rfl) e, c⟩
 | ins C dx fs =>
  obtain ⟨d, z, ne, e, mA, ⟨od, es, ep, e2, c⟩, r⟩ := x
  exact ⟨ho _ d, z, ne, k _ _ (.inl rfl) e, mA, ⟨od, es, ep, k _ _ (.inr d) e2, c⟩, r⟩
 | own y => obtain ⟨ob, e⟩ := x; exact ⟨ob, k _ _ (.inl rfl) e⟩
 | xd fs => obtain ⟨mA, ⟨od, es, ep, e, c⟩, r⟩ := x; exact ⟨mA, ⟨od, es, ep, k _ _ (.inl rfl) e, c⟩, r⟩
 | rng lo hi => obtain ⟨t, u, v, e⟩ := x; exact ⟨t, u, v, k _ _ (.inl rfl) e⟩
 | frz ob u ih => obtain ⟨e, q⟩ := x; exact ⟨k _ _ (.inl rfl) e, ih q⟩
 | tbl ps =>
  have e : h.get? a = some { cls := .none, data := .fields ps } := x
  show h'.get? a = some { cls := .none, data := .fields ps }
  exact k a _ (.inl rfl) e
 | met f y =>
  have e : h.get? a = some (PySem.W.methodObj (.ref f) (.ref y)) := x
  show h'.get? a = some (PySem.W.methodObj (.ref f) (.ref y))
  exact k a _ (.inl rfl) e
 | ext φ => obtain ⟨p, ⟨o, e⟩, st⟩ := x; exact ⟨st _ _ p λo q => k _ _ (.inl rfl) q, ⟨o, k _ _ (.inl rfl) e⟩, st⟩
theorem HOk.lt (x : HOk P w H h) (e : H a = some o) : a < h.objs.size := (x a o e).lt
theorem HOk.fresh (x : HOk P w H h) (e : h.objs.size <= a) : H a = none := by
 cases q : H a with
 | none => rfl
 | some u => exact absurd (Nat.lt_of_lt_of_le (x.lt q) e) (Nat.lt_irrefl _)
theorem HOk.kept (x : HOk P w H h) (k : ∀ b u, h.get? b = some u -> h'.get? b = some u) : HOk P w H h' := λa o e =>
 (x a o e).stay (λb u _ q => k b u q) (λ_ q => q) λ_ _ q => q
theorem HOk.laid (x : HOk P w H h) (k : ∀ b u, h.get? b = some u -> h'.get? b = some u) (hp : h.objs.size <= a) (new : ad6 P w (upd H a o) h' a o) : HOk P w (upd H a o) h' := λb u e => by
 have hn := x.fresh hp
 by_cases hb : b = a
 ·subst hb; rw [aaQ] at e; cases e; exact new
 ·rw [aaw hb] at e
  exact (x b u e).stay (λc v _ q => k c v q) (λc q => by rw [aaw (aaS q hn)]; exact q) λc xs q => by rw [aaw (aaS q hn)]; exact q
end
noncomputable def Rd (H : Hp) (a : Addr) (u : HO) : Prop := H a = some u \/ ∃ o, H a = some (.frz o u)
theorem Rd.ok {P : Program} {w : World} {H : Hp} {h : Heap} {a : Addr} {u : HO} (r : Rd H a u) (x : HOk P w H h) : ad6 P w H h a u := by
 rcases r with r | ⟨o, r⟩
 ·exact x a u r
 ·obtain ⟨_, q⟩ := x a _ r
  exact q
noncomputable def Mut : Option HO -> Prop
 | some (.lst _) => True
 | some (.dK _) => True
 | some (.dT _) => True
 | some (.set _ _) => True
 | some (.ins _ _ _) => True
 | some (.ext _) => True
 | _ => False
section
variable {P : Program} {w : World} {H : Hp} {h h' : Heap} {x e : Addr} {o' : HO}
theorem HOk.write (ok : HOk P w H h) (mu : Mut (H x)) (he : e = x \/ H e = some (.own x)) (k : ∀ b u, b ≠ e -> h.get? b = some u -> h'.get? b = some u) (heo : ∃ u, h'.get? e = some u)
  (new : ad6 P w (upd H x o') h' x o') : HOk P w (upd H x o') h' := λb u q => by
 have avJ : ∀ c y, H c = some (.own y) -> c ≠ x := λc y r z => by subst z; rw [r] at mu; exact mu
 have awA : ∀ c xs, H c = some (.tup xs) -> c ≠ x := λc xs r z => by subst z; rw [r] at mu; exact mu
 by_cases hb : b = x
 ·subst hb; rw [aaQ] at q; cases q; exact new
 ·rw [aaw hb] at q
  by_cases hbe : b = e
  ·have q' : H b = some (.own x) := by
    rcases he with z | z
    ·exact absurd (hbe.trans z) hb
    ·rw [hbe]; exact z
   rw [q] at q'; cases q'
   obtain ⟨v, hv⟩ := heo
   exact ⟨v, by rw [hbe]; exact hv⟩
  ·refine (ok b u q).stay (λc v hc r => k c v ?_ r) (λc r => by rw [aaw (avJ c b r)]; exact r) λc xs r => by rw [aaw (awA c xs r)]; exact r
   rcases hc with rfl | hc
   ·exact hbe
   ·rintro rfl
    rcases he with z | z
    ·exact avJ c b hc z
    ·rw [hc] at z; cases z; exact hb rfl
end
structure Un (fs ex : List Addr) (H H' : Hp) (h h' : Heap) : Prop where
 keep : ∀ b o, h.get? b = some o -> H b = none -> b ∉ fs -> b ∉ ex -> h'.get? b = some o
 slot : ∀ b o, h.get? b = some o -> H b = none -> b ∈ fs -> b ∉ ex -> ∃ sl, h'.get? b = some { o with slots := sl }
 free : ∀ b o, h.get? b = some o -> H b = none -> b ∉ ex -> H' b = none
 there : ∀ b o, h.get? b = some o -> b ∉ ex -> ∃ o', h'.get? b = some o'
 tups : ∀ b xs, H b = some (.tup xs) -> H' b = some (.tup xs)
 ajA : ∀ b o u, H b = some (.frz o u) -> H' b = some (.frz o u)
 ajB : ∀ b ps, H b = some (.tbl ps) -> ∃ more, H' b = some (.tbl (ps ++ more))
section
variable {fs fs' ex ex' : List Addr} {H H1 H2 : Hp} {h h1 h2 h' : Heap} {a x e : Addr} {o : HO}
theorem Un.any (u : Un fs ex H H1 h h1) {b : Addr} {ob : Obj} (q : h.get? b = some ob) (n : H b = none) (hx : b ∉ ex) : ∃ sl, h1.get? b = some { ob with slots := sl } := by
 by_cases hb : b ∈ fs
 ·exact u.slot b ob q n hb hx
 ·exact ⟨ob.slots, u.keep b ob q n hb hx⟩
theorem Un.kept (k : ∀ b u, h.get? b = some u -> h'.get? b = some u) : Un fs ex H H h h' :=
 ⟨λb ob q _ _ _ => k b ob q, λb ob q _ _ _ => ⟨ob.slots, k b ob q⟩, λ_ _ _ n _ => n, λb ob q _ => ⟨ob, k b ob q⟩, λ_ _ q => q, λ_ _ _ q => q, λ_ ps q => ⟨#[], by rw [q]; simp⟩⟩
theorem Un.refl : Un fs ex H H h h := Un.kept λ_ _ q => q
theorem Un.laid (k : ∀ b u, h.get? b = some u -> h'.get? b = some u) (hp : h.objs.size <= a) (hn : H a = none) : Un fs ex H (upd H a o) h h' where
 keep := λb u q _ _ _ => k b u q
 slot := λb u q _ _ _ => ⟨u.slots, k b u q⟩
 free := λb u q n _ => by rw [aaw (Nat.ne_of_lt (Nat.lt_of_lt_of_le (Heap.lt_size q) hp))]; exact n
 there := λb u q _ => ⟨u, k b u q⟩
 tups := λb xs q => by rw [aaw (aaS q hn)]; exact q
 ajA := λb u xs q => by rw [aaw (aaS q hn)]; exact q
 ajB := λb ps q => ⟨#[], by rw [aaw (aaS q hn), q]; simp⟩
theorem Un.write (mu : Mut (H x)) (he : e = x \/ H e = some (.own x)) (k : ∀ b u, b ≠ e -> h.get? b = some u -> h'.get? b = some u) (heo : ∃ u, h'.get? e = some u) : Un fs ex H (upd H x o) h h' := by
 have hx : ∀ b, H b = none -> b ≠ x := λb n z => by subst z; rw [n] at mu; exact mu
 have hb : ∀ b, H b = none -> b ≠ e := λb n z => by
  subst z
  rcases he with r | r
  ·exact hx b n r
  ·rw [n] at r; cases r
 have hm : ∀ b u, H b = some u -> ¬ Mut (some u) -> b ≠ x := λb u q nm z => by subst z; rw [q] at mu; exact nm mu
 refine ⟨λb u q n _ _ => k b u (hb b n) q, λb u q n _ _ => ⟨u.slots, k b u (hb b n) q⟩, λb u q n _ => by rw [aaw (hx b n)]; exact n, λb u q _ => ?_,
  λb xs q => by rw [aaw (hm b _ q λz => z)]; exact q, λb u xs q => by rw [aaw (hm b _ q λz => z)]; exact q, λb ps q => ⟨#[], by rw [aaw (hm b _ q λz => z), q]; simp⟩⟩
 by_cases hbe : b = e
 ·subst hbe; exact heo
 ·exact ⟨u, k b u hbe q⟩
end
noncomputable def trk (h : Heap) (H : Hp) : List Addr := (List.range h.objs.size).filter λa => (H a).isSome
noncomputable def amY (h : Heap) (H : Hp) : Heap := PySem.W.hideAll h (trk h H)
theorem alr (h : Heap) (H : Hp) : (amY h H).objs.size = h.objs.size := PySem.W.hideAll_size _ _
theorem amZ {h : Heap} {H : Hp} {b : Addr} {o : Obj} (e : h.get? b = some o) (n : H b = none) : (amY h H).get? b = some o :=
 PySem.W.hideAll_get _ e λhm => by
  have q : (H b).isSome = true := (List.mem_filter.mp hm).2
  rw [n] at q; simp at q
theorem ao8 {h : Heap} {H : Hp} {b : Addr} {o : Obj} (e : (amY h H).get? b = some o) : h.get? b = some o /\ H b = none := by
 have e' : h.get? b = some o := PySem.W.of_hideAll (trk h H) e
 refine ⟨e', ?_⟩
 cases q : H b with
 | none => rfl
 | some x =>
  have hm : b ∈ trk h H := List.mem_filter.mpr ⟨List.mem_range.mpr (Heap.lt_size e'), by simp [q]⟩
  have z : (amY h H).get? b = none := PySem.W.hideAll_none (trk h H) hm
  rw [z] at e; cases e
noncomputable def ao9 (g h : Heap) (L : Addr) : List (Addr × Obj) := (List.range h.objs.size).filterMap λa => if a = L \/ (g.get? a).isSome = true then none else (h.get? a).map λo => (a, o)
noncomputable def rest (g h : Heap) (L d : Addr) : List (Addr × Obj) := (ao9 g h L).filter λp => decide (p.1 ≠ d)
end L2
namespace L2
open PySem PySem.Spec PyProof.Rows
structure Mod (K : PySem.W.Frag) (mg : Str -> Option Value) (base : Heap) : Prop where
 kin : K.In base
 glob : base.Ns mainGlobals mg
 blt : ∃ mb, base.Ns builtinsNs mb /\ ∀ x : Str, x ≠ "__name__" -> mb x = bootBuiltins x
 nolimit : base.NoLimit
structure Cx where
 prog : Program
 w : World
 K : PySem.W.Frag
 mg : Str -> Option Value
 base : Heap
 A : Around
 N : List Str
 s₀ : Shared
 H₀ : Hp
 env : Env
 outer : List Env
 stack : List Env
 ex : List Addr
 fn : Str -> Bool
 calm : Bool
 pn : List (Addr × Obj)
 xe : Value -> Shared -> Prop
noncomputable def frs (l : List Env) : List Addr := l.filterMap (·.frame)
noncomputable abbrev Cx.fs (X : Cx) : List Addr := frs X.outer
noncomputable def Vis (sc : Scope) (x : Str) : Prop := sc.names.lookup x = some .local \/ sc.names.lookup x = some .cell \/ sc.names.lookup x = some .free
noncomputable def Loc (sc : Scope) (x : Str) : Prop := sc.names.lookup x = some .local \/ sc.names.lookup x = some .cell
noncomputable def Look (env : Env) (h : Heap) (m : Str -> Option Value) (x : Str) (u : Value) : Prop :=
 (env.kindOf x = some .local /\ m x = some u) \/ ((env.kindOf x = some .cell \/ env.kindOf x = some .free) /\ ∃ c, env.cells.lookup x = some c /\ h.IsCell c (some u))
structure Cx.Ok (X : Cx) : Prop where
 mod : Mod X.K X.mg X.base
 kind : X.env.scope.kind = .function
 glob : X.env.globals = mainGlobals
 blt : X.env.builtins = builtinsNs
 above : X.s₀.heap.objs.size <= X.env.locals
 inj : ∀ x y c, X.env.cells.lookup x = some c -> X.env.cells.lookup y = some c -> x = y
 has : ∀ x, (X.env.kindOf x = some .cell \/ X.env.kindOf x = some .free) -> ∃ c, X.env.cells.lookup x = some c
 cab : ∀ x c, X.fn x = true -> X.env.cells.lookup x = some c -> X.s₀.heap.objs.size <= c
 hd : X.calm = true -> X.A.handled = none
 frames : X.A.frames = some X.stack
 stk : X.stack = X.outer \/ (X.stack = X.env :: X.outer /\ X.env.frame = some X.env.locals)
 exf : ∀ b ∈ X.ex, b ≠ X.env.locals /\ ∀ x c, X.env.cells.lookup x = some c -> c ≠ b
 bs : ∀ b o, X.base.get? b = some o -> X.s₀.heap.get? b = some o /\ X.H₀ b = none
 bsz : X.base.objs.size <= X.s₀.heap.objs.size
 aiN : ∀ b o, X.base.get? b = some o -> b ∉ X.ex
 aqV : ∀ b ∈ X.ex, b ∉ X.fs
 akn : X.s₀.heap.FunFrames X.base X.outer
 frf : ∀ b ∈ X.fs, X.H₀ b = none
structure Inv (X : Cx) (pins : List (Addr × Obj)) (σ : List (Option V)) (H : Hp) (s : Shared) : Prop where
 ok : X.Ok
 os : s.os = X.s₀.os
 bare : AllBare s.gens
 base : Un X.fs X.ex X.H₀ H X.s₀.heap s.heap
 loc : ∃ m, s.heap.Ns X.env.locals m /\ ∀ (i : Nat) (x : Str) (v : V), X.N[i]? = some x -> σ[i]? = some (some v) -> Vis X.env.scope x -> ∃ u, RelV v u /\ Look X.env s.heap m x u
 cell : ∀ x c, X.env.cells.lookup x = some c -> ∃ v, s.heap.IsCell c v
 free : H X.env.locals = none
 aef : ∀ x c, X.env.cells.lookup x = some c -> H c = none
 pin : ∀ p ∈ X.pn ++ pins, s.heap.get? p.1 = some p.2 /\ H p.1 = none /\ p.1 ≠ X.env.locals /\ p.1 ∉ X.fs /\ ∀ v, p.2.data ≠ .cell v
 hok : HOk X.prog X.w H s.heap
 len : σ.length = X.N.length
section
variable {X : Cx} {pins : List (Addr × Obj)} {σ : List (Option V)} {H H' : Hp} {s : Shared} {h' : Heap}
theorem Cx.Ok.aqG (ok : X.Ok) {b : Addr} {o : Obj} (e : X.base.get? b = some o) : b ∉ X.fs := λhb => by
 have := (ok.akn.mem hb).1
 rw [e] at this; cases this
theorem Inv.bs (I : Inv X pins σ H s) : ∀ b o, X.base.get? b = some o -> s.heap.get? b = some o /\ H b = none := λb o e =>
 ⟨I.base.keep b o (I.ok.bs b o e).1 (I.ok.bs b o e).2 (I.ok.aqG e) (I.ok.aiN b o e), I.base.free b o (I.ok.bs b o e).1 (I.ok.bs b o e).2 (I.ok.aiN b o e)⟩
theorem Inv.bk (I : Inv X pins σ H s) : ∀ b o, X.base.get? b = some o -> s.heap.get? b = some o := λb o e => (I.bs b o e).1
theorem Inv.mod (I : Inv X pins σ H s) : Mod X.K X.mg X.base := I.ok.mod
theorem Inv.kIn (I : Inv X pins σ H s) : X.K.In s.heap := I.ok.mod.kin.keeps I.bk
theorem Inv.nolimit (I : Inv X pins σ H s) : s.heap.NoLimit := I.ok.mod.nolimit.keeps I.bk
theorem Inv.lt (I : Inv X pins σ H s) : X.env.locals < s.heap.objs.size := let ⟨_, hn, _⟩ := I.loc; hn.lt
theorem Inv.sz (I : Inv X pins σ H s) : X.s₀.heap.objs.size <= s.heap.objs.size := Nat.le_trans I.ok.above (Nat.le_of_lt I.lt)
theorem Inv.awB (I : Inv X pins σ H s) {a : Addr} (h : s.heap.objs.size <= a) : a ∉ X.fs := λhb => by
 obtain ⟨_, o, ho, _⟩ := I.ok.akn.mem hb
 exact absurd (Nat.lt_of_lt_of_le (Heap.lt_size ho) (Nat.le_trans I.sz h)) (Nat.lt_irrefl _)
theorem Inv.cne (I : Inv X pins σ H s) : ∀ x c, X.env.cells.lookup x = some c -> c ≠ X.env.locals := λx c e z => by
 obtain ⟨v, o, ho, hd⟩ := I.cell x c e
 obtain ⟨m, ⟨o', es, ep, ho', hd', _⟩, _⟩ := I.loc
 rw [z, ho'] at ho; cases ho; rw [hd'] at hd; cases hd
theorem Inv.akn (I : Inv X pins σ H s) : s.heap.FunFrames X.base X.outer := by
 have all : ∀ (l : List Env), (∀ b ∈ frs l, b ∈ X.fs) -> X.s₀.heap.FunFrames X.base l -> s.heap.FunFrames X.base l := by
  intro l
  induction l with
  | nil => intro _ _; trivial
  | cons env r ih =>
   intro hs hl
   obtain ⟨hk, ⟨L, o, hf, hn, ho, hd⟩, hr⟩ := hl
   have hL : L ∈ X.fs := hs L (by unfold frs; rw [List.filterMap_cons, hf]; exact List.mem_cons_self)
   obtain ⟨sl, e⟩ := I.base.slot L o ho (I.ok.frf L hL) hL λz => I.ok.aqV L z hL
   exact ⟨hk, ⟨L, _, hf, hn, e, hd⟩, ih (λb hb => hs b (by unfold frs; rw [List.filterMap_cons, hf]; exact List.mem_cons_of_mem _ hb)) hr⟩
 exact all X.outer (λ_ hb => hb) I.ok.akn
theorem Inv.stack (I : Inv X pins σ H s) : s.heap.FunFrames X.base X.stack := by
 rcases I.ok.stk with e | ⟨e, hf⟩
 ·rw [e]; exact I.akn
 ·rw [e]
  obtain ⟨m, hn, _⟩ := I.loc
  refine .cons (by rw [I.ok.kind]; decide) hf hn ?_ I.akn
  exact Heap.get?_none_of_le (Nat.le_trans I.ok.bsz I.ok.above)
theorem Inv.ahV (I : Inv X pins σ H s) : ∀ b ∈ frs X.stack, b ∈ X.env.locals :: X.fs := λb hb => by
 rcases I.ok.stk with e | ⟨e, hf⟩
 ·rw [e] at hb; exact List.mem_cons_of_mem _ hb
 ·rw [e] at hb
  unfold frs at hb
  rw [List.filterMap_cons, hf] at hb
  exact hb
theorem Inv.aeG (I : Inv X pins σ H s) : ∀ b ∈ frs X.stack, H b = none := λb hb => by
 rcases List.mem_cons.mp (I.ahV b hb) with e | hb
 ·rw [e]; exact I.free
 ·obtain ⟨_, o, ho, _⟩ := I.ok.akn.mem hb
  exact I.base.free b o ho (I.ok.frf b hb) λz => I.ok.aqV b z hb
theorem Inv.step {g' : Array GenState} {t' : Nat} {d' : Drawn} {ch : List Addr} (I : Inv X pins σ H s)
  (hch : ∀ b ∈ ch, (b ∈ X.ex \/ X.s₀.heap.objs.size <= b) /\ b ≠ X.env.locals /\ (∀ x c, X.env.cells.lookup x = some c -> c ≠ b) /\ ∀ p ∈ X.pn ++ pins, p.1 ≠ b)
  (keep : ∀ b o, b ≠ X.env.locals -> b ∉ X.fs -> b ∉ ch -> s.heap.get? b = some o -> H b = none -> h'.get? b = some o)
  (slot : ∀ b o, b ≠ X.env.locals -> b ∈ X.fs -> b ∉ ch -> s.heap.get? b = some o -> H b = none -> ∃ sl, h'.get? b = some { o with slots := sl }) (free : ∀ b o, b ∉ ch -> s.heap.get? b = some o -> H b = none -> H' b = none)
  (there : ∀ b o, b ∉ ch -> s.heap.get? b = some o -> ∃ o', h'.get? b = some o')
  (tups : ∀ b xs, H b = some (.tup xs) -> H' b = some (.tup xs)) (ajA : ∀ b o u, H b = some (.frz o u) -> H' b = some (.frz o u)) (ajB : ∀ b ps, H b = some (.tbl ps) -> ∃ more, H' b = some (.tbl (ps ++ more)))
  (ns : ∀ m, s.heap.Ns X.env.locals m -> h'.Ns X.env.locals m) (hok : HOk X.prog X.w H' h') (hg : AllBare g') :
  Inv X pins σ H' { s with heap := h', gens := g', drawn := d', toks := t' } := by
 have neL : ∀ b o, X.s₀.heap.get? b = some o -> b ≠ X.env.locals := λb o e => Nat.ne_of_lt (Nat.lt_of_lt_of_le (Heap.lt_size e) I.ok.above)
 have neC : ∀ b o, X.s₀.heap.get? b = some o -> b ∉ X.ex -> b ∉ ch := λb o e hx hb => by
  rcases (hch b hb).1 with z | z
  ·exact hx z
  ·exact absurd (Nat.lt_of_lt_of_le (Heap.lt_size e) z) (Nat.lt_irrefl _)
 have cellK : ∀ x c, X.env.cells.lookup x = some c -> ∀ v, s.heap.IsCell c v -> h'.IsCell c v := λx c e v ⟨o, ho, hd⟩ => by
  have nch : c ∉ ch := λz => (hch c z).2.2.1 x c e rfl
  by_cases hc : c ∈ X.fs
  ·obtain ⟨sl, q⟩ := slot c o (I.cne x c e) hc nch ho (I.aef x c e)
   exact ⟨_, q, hd⟩
  ·exact ⟨o, keep c o (I.cne x c e) hc nch ho (I.aef x c e), hd⟩
 refine ⟨I.ok, I.os, hg, ⟨λb o e n hb hx => ?_, λb o e n hb hx => ?_, λb o e n hx => ?_, λb o e hx => ?_, λb xs e => tups b xs (I.base.tups b xs e), λb o xs e => ajA b o xs (I.base.ajA b o xs e), λb ps e => ?_⟩, ?_, λx c e => ?_, ?_, λx c e => ?_, λp hp => ?_, hok, I.len⟩
 ·exact keep b o (neL b o e) hb (neC b o e hx) (I.base.keep b o e n hb hx) (I.base.free b o e n hx)
 ·obtain ⟨sl, e1⟩ := I.base.slot b o e n hb hx
  obtain ⟨sl', e2⟩ := slot b _ (neL b o e) hb (neC b o e hx) e1 (I.base.free b o e n hx)
  exact ⟨sl', e2⟩
 ·obtain ⟨o', e1⟩ := I.base.there b o e hx
  exact free b o' (neC b o e hx) e1 (I.base.free b o e n hx)
 ·obtain ⟨o', e1⟩ := I.base.there b o e hx
  exact there b o' (neC b o e hx) e1
 ·obtain ⟨m1, e1⟩ := I.base.ajB b ps e
  obtain ⟨m2, e2⟩ := ajB b _ e1
  exact ⟨m1 ++ m2, by rw [e2, Array.append_assoc]⟩
 ·obtain ⟨m, hn, hl⟩ := I.loc
  refine ⟨m, ns m hn, λi x v e1 e2 e3 => ?_⟩
  obtain ⟨u, r, l⟩ := hl i x v e1 e2 e3
  refine ⟨u, r, ?_⟩
  rcases l with l | ⟨k, c, e, z⟩
  ·exact .inl l
  ·exact .inr ⟨k, c, e, cellK x c e _ z⟩
 ·obtain ⟨v, z⟩ := I.cell x c e
  exact ⟨v, cellK x c e v z⟩
 ·obtain ⟨m, ⟨o, _, _, ho, _⟩, _⟩ := I.loc
  exact free _ o (λz => (hch _ z).2.1 rfl) ho I.free
 ·obtain ⟨v, o, ho, hd⟩ := I.cell x c e
  exact free c o (λz => (hch c z).2.2.1 x c e rfl) ho (I.aef x c e)
 ·obtain ⟨e, n, ne, nf, d⟩ := I.pin p hp
  have nch : p.1 ∉ ch := λz => (hch p.1 z).2.2.2 p hp rfl
  exact ⟨keep p.1 p.2 ne nf nch e n, free p.1 p.2 nch e n, ne, nf, d⟩
theorem Inv.un {t' : Nat} (I : Inv X pins σ H s) (u : Un X.fs [] H H' s.heap h') (hok : HOk X.prog X.w H' h') : Inv X pins σ H' { s with heap := h', toks := t' } := by
 obtain ⟨m, ⟨o, es, ep, ho, r⟩, _⟩ := id I.loc
 obtain ⟨sl, hL⟩ := u.any ho I.free (by simp)
 exact I.step (g' := s.gens) (d' := s.drawn) (ch := []) (λ_ z => nomatch z) (λb o _ hb _ e n => u.keep b o e n hb (by simp)) (λb o _ hb _ e n => u.slot b o e n hb (by simp)) (λb o _ e n => u.free b o e n (by simp)) (λb o _ e => u.there b o e (by simp)) u.tups u.ajA u.ajB (λm' hm => by
  obtain ⟨o', es', ep', ho', r'⟩ := hm
  rw [ho] at ho'; cases ho'
  exact ⟨_, es', ep', hL, r'⟩) hok I.bare
theorem Inv.call {g' : Array GenState} {t' : Nat} {d' : Drawn} {ch : List Addr} (I : Inv X pins σ H s) (u : Un (frs X.stack) ch H H' s.heap h') (hok : HOk X.prog X.w H' h') (hg : AllBare g')
  (hch : ∀ b ∈ ch, (b ∈ X.ex \/ X.s₀.heap.objs.size <= b) /\ b ≠ X.env.locals /\ (∀ x c, X.env.cells.lookup x = some c -> c ≠ b) /\ ∀ p ∈ X.pn ++ pins, p.1 ≠ b) :
  Inv X pins σ H' { s with heap := h', gens := g', drawn := d', toks := t' } := by
 obtain ⟨m, ⟨o, es, ep, ho, r⟩, _⟩ := id I.loc
 obtain ⟨sl, hL⟩ := u.any ho I.free λz => (hch _ z).2.1 rfl
 exact I.step (ch := ch) hch (λb o hL hb hc e n => u.keep b o e n (λz => (List.mem_cons.mp (I.ahV b z)).elim hL hb) hc) (λb o _ _ hc e n => u.any e n hc) (λb o hc e n => u.free b o e n hc) (λb o hc e => u.there b o e hc) u.tups u.ajA u.ajB (λm' hm => by
  obtain ⟨o', es', ep', ho', r'⟩ := hm
  rw [ho] at ho'; cases ho'
  exact ⟨_, es', ep', hL, r'⟩) hok hg
theorem Inv.turned {t' : Nat} {it : Addr} (I : Inv X pins σ H s) (k : ∀ b o, b ≠ it -> s.heap.get? b = some o -> h'.get? b = some o) (hn : H it = none) (hL : it ≠ X.env.locals)
  (h1 : it ∈ X.ex \/ X.s₀.heap.objs.size <= it) (h2 : ∀ x c, X.env.cells.lookup x = some c -> c ≠ it) (h3 : ∀ p ∈ X.pn ++ pins, p.1 ≠ it) : Inv X pins σ H { s with heap := h', toks := t' } := by
 have nit : ∀ b u, H b = some u -> b ≠ it := λb u e z => by rw [z, hn] at e; cases e
 refine I.step (g' := s.gens) (d' := s.drawn) (ch := [it]) (λb hb => ?_) (λb o _ _ hc e _ => k b o (λz => hc (by simp [z])) e) (λb o _ _ hc e _ => ⟨o.slots, k b o (λz => hc (by simp [z])) e⟩) (λ_ _ _ _ n => n)
  (λb o hc e => ⟨o, k b o (λz => hc (by simp [z])) e⟩) (λ_ _ e => e) (λ_ _ _ e => e) (λb ps e => ⟨#[], by rw [e]; simp⟩) (λm hm => ?_) (λb u e => ?_) I.bare
 ·have e : b = it := by simpa using hb
  subst e
  exact ⟨h1, hL, h2, h3⟩
 ·obtain ⟨o, es, ep, ho, r⟩ := hm
  exact ⟨o, es, ep, k _ o (Ne.symm hL) ho, r⟩
 ·refine (I.hok b u e).stay (λc v hc q => k c v ?_ q) (λ_ q => q) λ_ _ q => q
  rcases hc with z | z
  ·rw [z]; exact nit b u e
  ·exact nit c _ z
theorem Inv.tok (I : Inv X pins σ H s) (t : Nat) : Inv X pins σ H { s with toks := t } := I.un (h' := s.heap) (t' := t) Un.refl I.hok
theorem Inv.kept {t' : Nat} (I : Inv X pins σ H s) (k : ∀ b u, s.heap.get? b = some u -> h'.get? b = some u) : Inv X pins σ H { s with heap := h', toks := t' } := I.un (Un.kept k) (I.hok.kept k)
theorem Inv.laid {a : Addr} {o : HO} {t' : Nat} (I : Inv X pins σ H s) (k : ∀ b u, s.heap.get? b = some u -> h'.get? b = some u) (hp : s.heap.objs.size <= a) (new : ad6 X.prog X.w (upd H a o) h' a o) :
  Inv X pins σ (upd H a o) { s with heap := h', toks := t' } := I.un (Un.laid k hp (I.hok.fresh hp)) (I.hok.laid k hp new)
theorem Inv.write {x e : Addr} {o : HO} {t' : Nat} (I : Inv X pins σ H s) (mu : Mut (H x)) (he : e = x \/ H e = some (.own x)) (k : ∀ b u, b ≠ e -> s.heap.get? b = some u -> h'.get? b = some u) (heo : ∃ u, h'.get? e = some u)
  (new : ad6 X.prog X.w (upd H x o) h' x o) : Inv X pins σ (upd H x o) { s with heap := h', toks := t' } := I.un (Un.write mu he k heo) (I.hok.write mu he k heo new)
theorem Inv.ag9 {agy : List (Addr × Obj)} (I : Inv X pins σ H s) (h : ∀ p ∈ agy, s.heap.get? p.1 = some p.2 /\ H p.1 = none /\ p.1 ≠ X.env.locals /\ p.1 ∉ X.fs /\ ∀ v, p.2.data ≠ .cell v) : Inv X agy σ H s :=
 ⟨I.ok, I.os, I.bare, I.base, I.loc, I.cell, I.free, I.aef, λp hp => (List.mem_append.mp hp).elim (λz => I.pin p (List.mem_append_left _ z)) (h p), I.hok, I.len⟩
theorem aha {N : List Str} (hN : N.Nodup) {i j : Nat} {x : Str} (a : N[i]? = some x) (b : N[j]? = some x) : i = j := by
 obtain ⟨h1, e1⟩ := List.getElem?_eq_some_iff.mp a
 obtain ⟨h2, e2⟩ := List.getElem?_eq_some_iff.mp b
 exact (List.getElem_inj hN).mp (e1.trans e2.symm)
theorem afN {M : Model} {A : Around} {E : Value -> Shared -> Prop} {i : Nat} {x : Str} {v : V} {u : Value} {Q : Unit -> Shared -> Prop} (I : Inv X pins σ H s) (hN : X.N.Nodup) (hi : X.N[i]? = some x) (hx : Loc X.env.scope x) (r : RelV v u)
  (h : ∀ s', Inv X pins (σ.set i (some v)) H s' -> (∃ a, Heap.SameBut a s.heap s'.heap /\ (a = X.env.locals \/ X.env.cells.lookup x = some a)) -> Q () s') (hf : X.fn x = true \/ X.env.scope.names.lookup x = some .local := by first | exact .inl rfl | exact .inr rfl | assumption) : wpAny M A (storeName X.env x u) Q E s := by
 obtain ⟨m, hn, hl⟩ := id I.loc
 have hcls : (X.env.scope.kind == .class || (X.env.scope.kind == .module && X.env.locals != X.env.globals)) = false := by rw [I.ok.kind]; rfl
 have hiσ : i < σ.length := by rw [I.len]; exact (List.getElem?_eq_some_iff.mp hi).1
 have cne := I.cne
 have tracked : ∀ {a : Addr} {h' : Heap}, (∃ o, s.heap.get? a = some o /\ H a = none) -> Heap.SameBut a s.heap h' -> HOk X.prog X.w H h' := λ{a h'} ha hs b ob e => by
  obtain ⟨_, _, hfree⟩ := ha
  refine (I.hok b ob e).stay (λc w' hc q => (hs.2 c ?_).trans q) (λ_ q => q) λ_ _ q => q
  rintro rfl
  rcases hc with rfl | hc
  ·rw [hfree] at e; cases e
  ·rw [hfree] at hc; cases hc
 rcases hx with hk | hk
 ·refine wpAny_storeName_local hk hn (λh' hn' hs => ?_) hcls
  obtain ⟨oL, _, _, hoL, _⟩ := id hn
  refine h _ ⟨I.ok, I.os, I.bare, ⟨λb o e n hb hx => ?_, λb o e n hb hx => ?_, I.base.free, λb o e hx => ?_, I.base.tups, I.base.ajA, I.base.ajB⟩, ⟨_, hn', λj y v' e1 e2 e3 => ?_⟩, λy c e => ?_, I.free, I.aef, λp hp => ?_, tracked ⟨oL, hoL, I.free⟩ hs, by simpa using I.len⟩ ⟨_, hs, .inl rfl⟩
  ·exact (hs.2 b (Nat.ne_of_lt (Nat.lt_of_lt_of_le (Heap.lt_size e) I.ok.above))).trans (I.base.keep b o e n hb hx)
  ·obtain ⟨sl, e1⟩ := I.base.slot b o e n hb hx
   exact ⟨sl, (hs.2 b (Nat.ne_of_lt (Nat.lt_of_lt_of_le (Heap.lt_size e) I.ok.above))).trans e1⟩
  ·obtain ⟨o', e1⟩ := I.base.there b o e hx
   exact ⟨o', (hs.2 b (Nat.ne_of_lt (Nat.lt_of_lt_of_le (Heap.lt_size e) I.ok.above))).trans e1⟩
  ·by_cases hj : j = i
   ·subst hj
    rw [hi] at e1; cases e1
    rw [List.getElem?_set_self hiσ] at e2
    cases e2
    exact ⟨u, r, .inl ⟨hk, by simp⟩⟩
   ·rw [List.getElem?_set_ne (Ne.symm hj)] at e2
    obtain ⟨u', r', q⟩ := hl j y v' e1 e2 e3
    refine ⟨u', r', ?_⟩
    rcases q with ⟨k, e⟩ | ⟨k, c, e, z⟩
    ·refine .inl ⟨k, ?_⟩
     have : y ≠ x := λe => hj (aha hN e1 (e ▸ hi))
     simp [this, e]
    ·exact .inr ⟨k, c, e, z.sameBut hs (cne y c e)⟩
  ·obtain ⟨w', z⟩ := I.cell y c e
   exact ⟨w', z.sameBut hs (cne y c e)⟩
  ·obtain ⟨e, n, ne, nf, d⟩ := I.pin p hp
   exact ⟨(hs.2 p.1 ne).trans e, n, ne, nf, d⟩
 ·have hfn : X.fn x = true := by
   rcases hf with z | z
   ·exact z
   ·rw [z] at hk; cases hk
  obtain ⟨c, hc⟩ := I.ok.has x (.inl hk)
  obtain ⟨w', z⟩ := I.cell x c hc
  refine wpAny_storeName_cell I.ok.kind hk hc z (λh' hc' hs => ?_)
  obtain ⟨oc, hoc, awC⟩ := id z
  refine h { s with heap := h' } ⟨I.ok, I.os, I.bare, ⟨λb o e n hb hx => ?_, λb o e n hb hx => ?_, I.base.free, λb o e hx => ?_, I.base.tups, I.base.ajA, I.base.ajB⟩, ⟨m, hn.sameBut hs (Ne.symm (cne x c hc)), λj y v' e1 e2 e3 => ?_⟩, λy c' e => ?_, I.free, I.aef, λp hp => ?_, tracked ⟨oc, hoc, I.aef x c hc⟩ hs, by simpa using I.len⟩ ⟨c, hs, .inr hc⟩
  ·exact (hs.2 b (Nat.ne_of_lt (Nat.lt_of_lt_of_le (Heap.lt_size e) (I.ok.cab x c hfn hc)))).trans (I.base.keep b o e n hb hx)
  ·obtain ⟨sl, e1⟩ := I.base.slot b o e n hb hx
   exact ⟨sl, (hs.2 b (Nat.ne_of_lt (Nat.lt_of_lt_of_le (Heap.lt_size e) (I.ok.cab x c hfn hc)))).trans e1⟩
  ·obtain ⟨o', e1⟩ := I.base.there b o e hx
   exact ⟨o', (hs.2 b (Nat.ne_of_lt (Nat.lt_of_lt_of_le (Heap.lt_size e) (I.ok.cab x c hfn hc)))).trans e1⟩
  ·by_cases hj : j = i
   ·subst hj
    rw [hi] at e1; cases e1
    rw [List.getElem?_set_self hiσ] at e2
    cases e2
    exact ⟨u, r, .inr ⟨.inl hk, c, hc, hc'⟩⟩
   ·rw [List.getElem?_set_ne (Ne.symm hj)] at e2
    obtain ⟨u', r', q⟩ := hl j y v' e1 e2 e3
    refine ⟨u', r', ?_⟩
    rcases q with q | ⟨k, c', e, z'⟩
    ·exact .inl q
    ·refine .inr ⟨k, c', e, z'.sameBut hs ?_⟩
     rintro rfl
     exact hj (aha hN e1 (I.ok.inj _ _ _ e hc ▸ hi))
  ·by_cases hcc : c' = c
   ·subst hcc; exact ⟨_, hc'⟩
   ·obtain ⟨w2, z2⟩ := I.cell y c' e
    exact ⟨w2, z2.sameBut hs hcc⟩
  ·obtain ⟨e, n, ne, nf, d⟩ := I.pin p hp
   refine ⟨(hs.2 p.1 ?_).trans e, n, ne, nf, d⟩
   intro q
   rw [q, hoc] at e
   have q' : oc = p.2 := Option.some.inj e
   exact d w' (by rw [<-q']; exact awC)
theorem aeg {M : Model} {A : Around} {E : Value -> Shared -> Prop} {i : Nat} {x : Str} {v : V} {u : Value} {Q : Unit -> Shared -> Prop} (I : Inv X pins σ H s) (hN : X.N.Nodup) (hi : X.N[i]? = some x) (hx : Loc X.env.scope x) (r : RelV v u)
  (h : ∀ s', Inv X pins (σ.set i (some v)) H s' -> Q () s') (hf : X.fn x = true \/ X.env.scope.names.lookup x = some .local := by first | exact .inl rfl | exact .inr rfl | assumption) : wpAny M A (storeName X.env x u) Q E s :=
 afN I hN hi hx r (λs' I' _ => h s' I') hf
theorem Inv.call' {s' : Shared} {ch : List Addr} (I : Inv X pins σ H s) (ho : s'.os = s.os) (u : Un (frs X.stack) ch H H' s.heap s'.heap) (hok : HOk X.prog X.w H' s'.heap) (hg : AllBare s'.gens)
  (hch : ∀ b ∈ ch, (b ∈ X.ex \/ X.s₀.heap.objs.size <= b) /\ b ≠ X.env.locals /\ (∀ x c, X.env.cells.lookup x = some c -> c ≠ b) /\ ∀ p ∈ X.pn ++ pins, p.1 ≠ b) : Inv X pins σ H' s' := by
 obtain ⟨h', g', d', t', o'⟩ := s'
 have e : o' = s.os := ho
 subst e
 exact I.call (g' := g') (t' := t') (d' := d') u hok hg hch
end
noncomputable abbrev XK := Value -> Option Addr -> Hp -> Prop
noncomputable abbrev St := List (Option V)
noncomputable abbrev VK := V -> Hp -> Prop
noncomputable abbrev TE := St -> Hp -> VK -> Prop
noncomputable abbrev TT := St -> Hp -> (Bool -> Hp -> Prop) -> Prop
noncomputable abbrev TA := St -> Hp -> (List V -> Hp -> Prop) -> Prop
structure Ends where
 nx : St -> Hp -> Prop
 rt : VK
 bk : St -> Hp -> Prop := λ_ _ => False
 ct : St -> Hp -> Prop := λ_ _ => False
noncomputable abbrev TS := Ends -> St -> Hp -> Prop
noncomputable def EP (X : Cx) (pins : List (Addr × Obj)) (σ : St) (Q : VK) (u : Value) (s' : Shared) : Prop := ∃ v H', Inv X pins σ H' s' /\ RelV v u /\ Q v H'
noncomputable def TP (X : Cx) (pins : List (Addr × Obj)) (σ : St) (Q : Bool -> Hp -> Prop) (b : Bool) (s' : Shared) : Prop := ∃ H', Inv X pins σ H' s' /\ Q b H'
noncomputable def AP (X : Cx) (pins : List (Addr × Obj)) (σ : St) (Q : List V -> Hp -> Prop) (us : List Value) (s' : Shared) : Prop := ∃ vs H', Inv X pins σ H' s' /\ Vals vs us /\ Q vs H'
noncomputable def SP (X : Cx) (pins : List (Addr × Obj)) (D : Ends) (f : Flow) (s' : Shared) : Prop :=
 match f with
 | .next => ∃ σ' H', Inv X pins σ' H' s' /\ D.nx σ' H'
 | .brk => ∃ σ' H', Inv X pins σ' H' s' /\ D.bk σ' H'
 | .cont => ∃ σ' H', Inv X pins σ' H' s' /\ D.ct σ' H'
 | .ret u => ∃ v σ' H', Inv X pins σ' H' s' /\ RelV v u /\ D.rt v H'
structure PE (X : Cx) (e : Expr) (t : TE) : Prop where
 run : ∀ (pins : List (Addr × Obj)) (s : Shared) (σ : St) (H : Hp) (Q : VK), Inv X pins σ H s -> t σ H Q -> wpAny (model X.prog X.w) X.A (eval e X.env) (EP X pins σ Q) X.xe s
noncomputable instance {X : Cx} {e : Expr} {t : TE} : CoeFun (PE X e t) λ_ => ∀ (pins : List (Addr × Obj)) (s : Shared) (σ : St) (H : Hp) (Q : VK), Inv X pins σ H s -> t σ H Q -> wpAny (model X.prog X.w) X.A (eval e X.env) (EP X pins σ Q) X.xe s := ⟨PE.run⟩
structure PT (X : Cx) (e : Expr) (t : TT) : Prop where
 run : ∀ (pins : List (Addr × Obj)) (s : Shared) (σ : St) (H : Hp) (Q : Bool -> Hp -> Prop), Inv X pins σ H s -> t σ H Q -> wpAny (model X.prog X.w) X.A (isTrue e X.env (eval e X.env)) (TP X pins σ Q) X.xe s
noncomputable instance {X : Cx} {e : Expr} {t : TT} : CoeFun (PT X e t) λ_ => ∀ (pins : List (Addr × Obj)) (s : Shared) (σ : St) (H : Hp) (Q : Bool -> Hp -> Prop), Inv X pins σ H s -> t σ H Q -> wpAny (model X.prog X.w) X.A (isTrue e X.env (eval e X.env)) (TP X pins σ Q) X.xe s := ⟨PT.run⟩
structure PW (X : Cx) (e : Expr) (t : TT) : Prop where
 run : ∀ (whole : Sem Value) (pins : List (Addr × Obj)) (s : Shared) (σ : St) (H : Hp) (Q : Bool -> Hp -> Prop), Inv X pins σ H s -> t σ H Q -> wpAny (model X.prog X.w) X.A (isTrue e X.env whole) (TP X pins σ Q) X.xe s
noncomputable instance {X : Cx} {e : Expr} {t : TT} : CoeFun (PW X e t) λ_ => ∀ (whole : Sem Value) (pins : List (Addr × Obj)) (s : Shared) (σ : St) (H : Hp) (Q : Bool -> Hp -> Prop), Inv X pins σ H s -> t σ H Q -> wpAny (model X.prog X.w) X.A (isTrue e X.env whole) (TP X pins σ Q) X.xe s := ⟨PW.run⟩
theorem PW.pt {X : Cx} {e : Expr} {t : TT} (h : PW X e t) : PT X e t := ⟨h.run _⟩
structure PA (X : Cx) (es : List Expr) (t : TA) : Prop where
 run : ∀ (pos : Pos) (pins : List (Addr × Obj)) (s : Shared) (σ : St) (H : Hp) (Q : List V -> Hp -> Prop), Inv X pins σ H s -> t σ H Q -> wpAny (model X.prog X.w) X.A (spliced (backTo pos (starEach es X.env))) (AP X pins σ Q) X.xe s
noncomputable instance {X : Cx} {es : List Expr} {t : TA} : CoeFun (PA X es t) λ_ => ∀ (pos : Pos) (pins : List (Addr × Obj)) (s : Shared) (σ : St) (H : Hp) (Q : List V -> Hp -> Prop), Inv X pins σ H s -> t σ H Q -> wpAny (model X.prog X.w) X.A (spliced (backTo pos (starEach es X.env))) (AP X pins σ Q) X.xe s := ⟨PA.run⟩
structure PS (X : Cx) (st : Stmt) (t : TS) : Prop where
 run : ∀ (pins : List (Addr × Obj)) (s : Shared) (σ : St) (H : Hp) (D : Ends), Inv X pins σ H s -> t D σ H -> wpAny (model X.prog X.w) X.A (exec st X.env) (SP X pins D) X.xe s
noncomputable instance {X : Cx} {st : Stmt} {t : TS} : CoeFun (PS X st t) λ_ => ∀ (pins : List (Addr × Obj)) (s : Shared) (σ : St) (H : Hp) (D : Ends), Inv X pins σ H s -> t D σ H -> wpAny (model X.prog X.w) X.A (exec st X.env) (SP X pins D) X.xe s := ⟨PS.run⟩
structure PSs (X : Cx) (st : List Stmt) (t : TS) : Prop where
 run : ∀ (pins : List (Addr × Obj)) (s : Shared) (σ : St) (H : Hp) (D : Ends), Inv X pins σ H s -> t D σ H -> wpAny (model X.prog X.w) X.A (execs st X.env) (SP X pins D) X.xe s
noncomputable instance {X : Cx} {st : List Stmt} {t : TS} : CoeFun (PSs X st t) λ_ => ∀ (pins : List (Addr × Obj)) (s : Shared) (σ : St) (H : Hp) (D : Ends), Inv X pins σ H s -> t D σ H -> wpAny (model X.prog X.w) X.A (execs st X.env) (SP X pins D) X.xe s := ⟨PSs.run⟩
theorem thn {α : Type} {t : Sem α} {Q Q' : α -> Shared -> Prop} {M : Model} {A : Around} {E : Value -> Shared -> Prop} {s : Shared} (h : wpAny M A t Q E s) (hQ : ∀ a s, Q a s -> Q' a s) : wpAny M A t Q' E s := wpAny_mono h hQ λ_ _ x => x
end L2
namespace L2
open PySem PySem.Spec PyProof.Rows
section
variable {X : Cx}
noncomputable def am0 (i : Nat) : TE := λσ H Q => ∃ v, σ[i]? = some (some v) /\ Q v H
noncomputable def tC (v : V) : TE := λ_ H Q => Q v H
theorem als {i : Nat} {x : Str} {pos : Pos} (hN : X.N[i]? = some x) (hv : Vis X.env.scope x) (hd : (x == ("__debug__" : Str)) = false := by decide) (hcd : (x == ("__classdict__" : Str)) = false := by decide) : PE X (.Name x pos) (am0 i) := by
 refine ⟨λpins s σ H Q I h => ?_⟩
 obtain ⟨v, e, h⟩ := h
 obtain ⟨m, hn, hl⟩ := I.loc
 obtain ⟨u, r, l⟩ := hl i x v hN e hv
 have fin : EP X pins σ Q u s := ⟨v, H, I, r, h⟩
 rcases l with ⟨hk, hm⟩ | ⟨hk, c, hc, hcell⟩
 ·exact wpAny_Name (wpAny_loadName_local I.ok.kind hk hn hm fin) hd
 ·rcases hk with hk | hk
  ·exact wpAny_Name (wpAny_loadName_cell I.ok.kind hk hc hcell fin) hd
  ·exact wpAny_Name (wpAny_loadName_free I.ok.kind hk hc hcell fin hcd) hd
theorem aan {i j pos} : PE X (.Constant (.int i) j pos) (tC (.int i)) := ⟨λ_ _ _ H _ I h => wpAny_Constant_int ⟨.int i, H, I.tok _, ⟨_, rfl⟩, h⟩⟩
theorem ahW {b j pos} : PE X (.Constant (.bool b) j pos) (tC (.bl b)) := ⟨λ_ _ _ H _ I h => Constant_bool ⟨.bl b, H, I, rfl, h⟩⟩
theorem ahX {j pos} : PE X (.Constant .none j pos) (tC .non) := ⟨λ_ _ _ H _ I h => Constant_none ⟨.non, H, I, rfl, h⟩⟩
theorem abY {x j pos} : PE X (.Constant (.str x) j pos) (tC (.str x)) := ⟨λ_ _ _ H _ I h => Calls.Constant_str ⟨.str x, H, I.tok _, ⟨_, rfl⟩, h⟩⟩
noncomputable def Gl (X : Cx) (x : Str) : Prop := X.env.kindOf x = some .globalImplicit
theorem afO {E : Value -> Shared -> Prop} {pins : List (Addr × Obj)} {s : Shared} {σ : St} {H : Hp} {x : Str} {u : Value} {pos : Pos} {Q : Value -> Shared -> Prop} (I : Inv X pins σ H s) (hg : Gl X x) (hm : X.mg x = some u) (h : Q u s)
  (hd : (x == ("__debug__" : Str)) = false := by decide) : wpAny (model X.prog X.w) X.A (eval (.Name x pos) X.env) Q E s :=
 Calls.Name_function_global I.ok.kind hg (Calls.loadGlobal_global (by rw [I.ok.glob]; exact I.mod.glob.keeps I.bk) hm h) hd
theorem afP {E : Value -> Shared -> Prop} {pins : List (Addr × Obj)} {s : Shared} {σ : St} {H : Hp} {x : Str} {u : Value} {pos : Pos} {Q : Value -> Shared -> Prop} (I : Inv X pins σ H s) (hg : Gl X x) (hm : X.mg x = none) (hv : bootBuiltins x = some u) (h : Q u s)
  (hn : x ≠ "__name__" := by decide) (hd : (x == ("__debug__" : Str)) = false := by decide) : wpAny (model X.prog X.w) X.A (eval (.Name x pos) X.env) Q E s := by
 obtain ⟨mb, h1, h2⟩ := I.mod.blt
 exact Calls.Name_function_global I.ok.kind hg (Calls.loadGlobal_builtin (by rw [I.ok.glob]; exact I.mod.glob.keeps I.bk) hm (by rw [I.ok.blt]; exact h1.keeps I.bk) ((h2 x hn).trans hv) h) hd
theorem alu {x : Str} {v : V} {u : Value} {pos : Pos} (hg : Gl X x) (hm : X.mg x = some u) (r : RelV v u) (hd : (x == ("__debug__" : Str)) = false := by decide) : PE X (.Name x pos) (tC v) :=
 ⟨λ_ _ _ H _ I h => afO I hg hm ⟨v, H, I, r, h⟩ hd⟩
theorem alv {x : Str} {v : V} {u : Value} {pos : Pos} (hg : Gl X x) (hm : X.mg x = none) (hv : bootBuiltins x = some u) (r : RelV v u) (hn : x ≠ "__name__" := by decide) (hd : (x == ("__debug__" : Str)) = false := by decide) : PE X (.Name x pos) (tC v) :=
 ⟨λ_ _ _ H _ I h => afP I hg hm hv ⟨v, H, I, r, h⟩ hn hd⟩
variable {a b : Expr} {ta tb : TE} {pos : Pos}
variable {tA tB' : TT} {rest : List Expr}
noncomputable def tOr (t u : TT) : TT := λσ H Q => t σ H λc H1 => if c = true then Q true H1 else u σ H1 Q
noncomputable def avK (t : TT) : TT := λσ H Q => t σ H λc H1 => Q (!c) H1
theorem ahY (ha : PT X a tA) : PW X (.BoolOp .Or [a] pos) tA := by
 refine ⟨λwh pins s σ H Q I h => ?_⟩
 refine isTrue_or (thn (ha pins s σ H Q I h) λc s1 e => ?_)
 cases c with
 | false => exact isTrue_or_nil e
 | true => exact e
theorem alw (ha : PT X a tA) (hb : PW X (.BoolOp .Or (b :: rest) pos) tB') : PW X (.BoolOp .Or (a :: b :: rest) pos) (tOr tA tB') := by
 refine ⟨λwh pins s σ H Q I h => ?_⟩
 refine isTrue_or (thn (ha pins s σ H _ I h) λc s1 ⟨H1, I1, q1⟩ => ?_)
 cases c with
 | true => exact ⟨H1, I1, q1⟩
 | false => exact hb wh pins s1 σ H1 Q I1 q1
theorem aeh (ha : PT X a tA) : PT X (.UnaryOp .Not a pos) (avK tA) := by
 refine ⟨λpins s σ H Q I h => ?_⟩
 exact isTrue_not (ha pins s σ H (λc H1 => Q (!c) H1) I h)
noncomputable def aqW (ta tb : TE) : TE := λσ H Q => ta σ H λx H1 => ∃ c, x = .bl c /\ if c = true then tb σ H1 Q else Q (.bl false) H1
noncomputable def aqX (ta : TE) : TE := λσ H Q => ta σ H λx H1 => ∃ c, x = .bl c /\ Q (.bl (!c)) H1
theorem ahZ {op} {t : TE} (h : PE X a t) : PE X (.BoolOp op [a] pos) t := ⟨λpins s σ H Q I hw => BoolOp_one (h pins s σ H Q I hw)⟩
theorem agP (ha : PE X a ta) (hb : PE X (.BoolOp .And (b :: rest) pos) tb) : PE X (.BoolOp .And (a :: b :: rest) pos) (aqW ta tb) := by
 refine ⟨λpins s σ H Q I h => ?_⟩
 refine BoolOp_and (thn (ha pins s σ H _ I h) λv s1 ⟨x, H1, I1, r1, q1⟩ => ?_)
 obtain ⟨c, rfl, q1⟩ := q1
 cases r1
 refine wpAny_truthy_bool ?_
 cases c with
 | true => exact hb pins s1 σ H1 Q I1 q1
 | false => exact ⟨.bl false, H1, I1, rfl, q1⟩
theorem aqY (ha : PE X a ta) : PE X (.UnaryOp .Not a pos) (aqX ta) := by
 refine ⟨λpins s σ H Q I h => ?_⟩
 refine UnaryOp_ (thn (ha pins s σ H _ I h) λv s1 ⟨x, H1, I1, r1, q1⟩ => ?_)
 obtain ⟨c, rfl, q1⟩ := q1
 cases r1
 exact not_of (wpAny_truthy_bool ⟨.bl (!c), H1, I1, rfl, q1⟩)
end
end L2
namespace L2
open PySem PySem.Spec PyProof.Rows
noncomputable def SqL (K : PySem.W.Frag) (H : Hp) (a : Addr) (xs : List V) : Prop :=
 Rd H a (.lst xs) \/
  ∃ (o : Obj) (its : Array Value) (n : Nat), K.lookup a = some o /\ o.cls = .type "list" /\ o.dict = none /\ o.data = .seq its n /\ its.size <= sizeLine /\ Vals xs its.toList
noncomputable def SqT (K : PySem.W.Frag) (H : Hp) (a : Addr) (xs : List V) : Prop :=
 Rd H a (.tup xs) \/
  ∃ (o : Obj) (its : Array Value) (n : Nat), K.lookup a = some o /\ o.cls = .type "tuple" /\ o.data = .seq its n /\ its.size <= sizeLine /\ Vals xs its.toList
noncomputable def awD : Value -> Option V
 | .none => some .non
 | .bool b => some (.bl b)
 | .int i _ => some (.int i)
 | .str x _ => some (.str x)
 | .bytes b _ => some (.byt b)
 | .float b _ => some (.flt b)
 | .ref a => some (.ref a)
 | .type n => some (.ty n)
 | _ => none
theorem RelV.abs {x : V} {u : Value} (r : RelV x u) : awD u = some x := by
 cases x with
 | non => cases r; rfl
 | bl _ => cases r; rfl
 | int _ => obtain ⟨t, rfl⟩ := r; rfl
 | str _ => obtain ⟨t, rfl⟩ := r; rfl
 | byt _ => obtain ⟨t, rfl⟩ := r; rfl
 | flt _ => obtain ⟨t, rfl⟩ := r; rfl
 | ref _ => cases r; rfl
 | ty _ => cases r; rfl
theorem RelV.inj {x y : V} {u : Value} (r : RelV x u) (q : RelV y u) : x = y := Option.some.inj (r.abs.symm.trans q.abs)
theorem Vals.inj : ∀ {xs ys : List V} {us : List Value}, Vals xs us -> Vals ys us -> xs = ys
 | _, _, _, .nil, .nil => rfl
 | _, _, _, .cons r t, .cons r' t' => by rw [r.inj r', Vals.inj t t']
section
variable {X : Cx} {pins : List (Addr × Obj)} {σ : St} {H : Hp} {s : Shared} {a : Addr} {xs ys : List V}
theorem SqL.of {K : PySem.W.Frag} (h : H a = some (.lst xs)) : SqL K H a xs := .inl (.inl h)
theorem SqT.of {K : PySem.W.Frag} (h : H a = some (.tup xs)) : SqT K H a xs := .inl (.inl h)
theorem Inv.list (I : Inv X pins σ H s) (h : SqL X.K H a xs) : ∃ its : List Value, Vals xs its /\ PlainL s.heap a its.toArray /\ xs.length <= sizeLine := by
 rcases h with h | ⟨o, its, n, hk, hc, hd, hs, hz, r⟩
 ·obtain ⟨z, its, n, r, e⟩ := h.ok I.hok
  exact ⟨its, r, ⟨_, n, e, rfl, rfl, rfl⟩, z⟩
 ·refine ⟨its.toList, r, ⟨o, n, I.kIn a o hk, hc, hd, by simpa using hs⟩, ?_⟩
  have e := r.length
  simp only [Array.length_toList] at e
  omega
theorem Inv.tuple (I : Inv X pins σ H s) (h : SqT X.K H a xs) : ∃ its : List Value, Vals xs its /\ IsTup s.heap a its.toArray /\ xs.length <= sizeLine := by
 rcases h with h | ⟨o, its, n, hk, hc, hs, hz, r⟩
 ·obtain ⟨z, its, r, p⟩ := h.ok I.hok
  exact ⟨its, r, p, z⟩
 ·refine ⟨its.toList, r, ⟨o, I.kIn a o hk, hc, n, by simpa using hs⟩, ?_⟩
  have e := r.length
  simp only [Array.length_toList] at e
  omega
theorem Inv.afA (I : Inv X pins σ H s) (h : SqL X.K H a xs) (h' : SqL X.K H a ys) : xs = ys := by
 obtain ⟨its, r, ⟨o, n, e, _, _, d⟩, _⟩ := I.list h
 obtain ⟨its', r', ⟨o', n', e', _, _, d'⟩, _⟩ := I.list h'
 rw [e] at e'; cases e'
 rw [d] at d'
 injection d' with d1 _
 have : its = its' := by simpa using congrArg Array.toList d1
 subst this
 exact r.inj r'
theorem Inv.ah0 (I : Inv X pins σ H s) (h : SqT X.K H a xs) (h' : SqT X.K H a ys) : xs = ys := by
 obtain ⟨its, r, ⟨o, e, _, n, d⟩, _⟩ := I.tuple h
 obtain ⟨its', r', ⟨o', e', _, n', d'⟩, _⟩ := I.tuple h'
 rw [e] at e'; cases e'
 rw [d] at d'
 injection d' with d1 _
 have : its = its' := by simpa using congrArg Array.toList d1
 subst this
 exact r.inj r'
end
noncomputable abbrev Cx.wish (X : Cx) (E : Value -> Shared -> Prop) : Cx := { X with xe := E }
noncomputable abbrev Cx.nox (X : Cx) : Cx := X.wish λ_ _ => False
theorem Cx.Ok.wish {X : Cx} (ok : X.Ok) (E : Value -> Shared -> Prop) : (X.wish E).Ok :=
 ⟨ok.mod, ok.kind, ok.glob, ok.blt, ok.above, ok.inj, ok.has, ok.cab, ok.hd, ok.frames, ok.stk, ok.exf, ok.bs, ok.bsz, ok.aiN, ok.aqV, ok.akn, ok.frf⟩
theorem Cx.Ok.aei {X : Cx} {E : Value -> Shared -> Prop} (ok : (X.wish E).Ok) : X.Ok :=
 ⟨ok.mod, ok.kind, ok.glob, ok.blt, ok.above, ok.inj, ok.has, ok.cab, ok.hd, ok.frames, ok.stk, ok.exf, ok.bs, ok.bsz, ok.aiN, ok.aqV, ok.akn, ok.frf⟩
section
variable {X : Cx} {pins : List (Addr × Obj)} {σ : St} {H : Hp} {s : Shared} {E : Value -> Shared -> Prop}
theorem Inv.wish (I : Inv X pins σ H s) (E : Value -> Shared -> Prop) : Inv (X.wish E) pins σ H s := ⟨I.ok.wish E, I.os, I.bare, I.base, I.loc, I.cell, I.free, I.aef, I.pin, I.hok, I.len⟩
theorem Inv.aei (I : Inv (X.wish E) pins σ H s) : Inv X pins σ H s := ⟨I.ok.aei, I.os, I.bare, I.base, I.loc, I.cell, I.free, I.aef, I.pin, I.hok, I.len⟩
theorem SP.aei {D : Ends} {f : Flow} {s' : Shared} (h : SP (X.wish E) pins D f s') : SP X pins D f s' := by
 cases f with
 | next => obtain ⟨σ', H', I, q⟩ := h; exact ⟨σ', H', I.aei, q⟩
 | brk => obtain ⟨σ', H', I, q⟩ := h; exact ⟨σ', H', I.aei, q⟩
 | cont => obtain ⟨σ', H', I, q⟩ := h; exact ⟨σ', H', I.aei, q⟩
 | ret u => obtain ⟨v, σ', H', I, r, q⟩ := h; exact ⟨v, σ', H', I.aei, r, q⟩
end
section
variable {X : Cx} {st : Stmt} {rest : List Stmt} {t u : TS} {e : Expr} {te : TE} {pos : Pos}
noncomputable def aqZ : TS := λD σ H => D.nx σ H
noncomputable def avL (t u : TS) : TS := λD σ H => t { D with nx := u D } σ H
theorem aaX : PSs X [] aqZ := ⟨λ_ _ σ H _ I h => wpAny_execs_nil ⟨σ, H, I, h⟩⟩
theorem aah (h1 : PS X st t) (h2 : PSs X rest u) : PSs X (st :: rest) (avL t u) := by
 refine ⟨λpins s σ H D I h => ?_⟩
 refine wpAny_execs_cons (thn (h1 pins s σ H { D with nx := u D } I h) λf s1 q => ?_)
 cases f with
 | next =>
  obtain ⟨σ', H', I', q⟩ := q
  exact h2 pins s1 σ' H' D I' q
 | ret v => exact q
 | brk => exact q
 | cont => exact q
theorem aaq (h1 : PS X st t) : PSs X [st] t := by
 refine ⟨λpins s σ H D I h => ?_⟩
 refine wpAny_execs_cons (thn (h1 pins s σ H D I h) λf s1 q => ?_)
 cases f with
 | next => exact wpAny_execs_nil q
 | ret v => exact q
 | brk => exact q
 | cont => exact q
theorem Inv.quiet {pins : List (Addr × Obj)} {σ : St} {H : Hp} {s : Shared} (I : Inv X pins σ H s) : interactive X.env = false := by simp [interactive, I.ok.kind]
noncomputable def apa (te : TE) : TS := λD σ H => te σ H λ_ H1 => D.nx σ H1
theorem apb (he : PE X e te) (hs : swapsWith e none pos.line X.env = pure false := by rfl) : PS X (.Expr e pos) (apa te) := by
 refine ⟨λpins s σ H D I h => ?_⟩
 exact wpAny_Expr_any (thn (he pins s σ H _ I h) λv s1 ⟨x, H1, I1, r1, q1⟩ => ⟨σ, H1, I1, q1⟩) I.quiet hs
noncomputable def avM (te : TE) : TS := λD σ H => te σ H D.rt
theorem aaF (he : PE X e te) : PS X (.Return (some e) pos) (avM te) := by
 refine ⟨λpins s σ H D I h => ?_⟩
 exact wpAny_Return_some (thn (he pins s σ H _ I h) λv s1 ⟨x, H1, I1, r1, q1⟩ => ⟨x, σ, H1, I1, r1, q1⟩)
noncomputable def avN (c : TT) (t u : TS) : TS := λD σ H => c σ H λb H1 => if b = true then t D σ H1 else u D σ H1
theorem ab8 {c : Expr} {a b : List Stmt} {tc : TT} (hc : PT X c tc) (ha : PSs X a t) (hb : PSs X b u) : PS X (.If c a b pos) (avN tc t u) := by
 refine ⟨λpins s σ H D I h => ?_⟩
 refine wpAny_If (thn (hc pins s σ H _ I h) λd s1 ⟨H1, I1, q1⟩ => ?_)
 cases d with
 | true => exact ha pins s1 σ H1 D I1 q1
 | false => exact hb pins s1 σ H1 D I1 q1
end
noncomputable abbrev TG := V -> St -> Hp -> (St -> Hp -> Prop) -> Prop
noncomputable abbrev TGs := List V -> St -> Hp -> (St -> Hp -> Prop) -> Prop
noncomputable def PG (X : Cx) (target : Expr) (t : TG) : Prop :=
 ∀ (pins : List (Addr × Obj)) (s : Shared) (σ : St) (H : Hp) (v : V) (u : Value) (Q : St -> Hp -> Prop), Inv X pins σ H s -> RelV v u -> t v σ H Q ->
  wpAny (model X.prog X.w) X.A (assign target X.env u) (λ_ s' => ∃ σ' H', Inv X pins σ' H' s' /\ Q σ' H') X.xe s
noncomputable def PGs (X : Cx) (ts : List Expr) (t : TGs) : Prop :=
 ∀ (pins : List (Addr × Obj)) (s : Shared) (σ : St) (H : Hp) (vs : List V) (us : List Value) (Q : St -> Hp -> Prop), Inv X pins σ H s -> Vals vs us -> t vs σ H Q ->
  wpAny (model X.prog X.w) X.A (assignInOrder ((assignEach ts X.env).map (·.2)) us) (λ_ s' => ∃ σ' H', Inv X pins σ' H' s' /\ Q σ' H') X.xe s
noncomputable abbrev at9 := V -> V -> V -> Hp -> (Hp -> Prop) -> Prop
noncomputable def avO (X : Cx) (t : at9) : Prop :=
 ∀ (pins : List (Addr × Obj)) (s : Shared) (σ : St) (H : Hp) (o i v : V) (ov iv u : Value) (Q : Hp -> Prop), Inv X pins σ H s -> RelV o ov -> RelV i iv -> RelV v u -> t o i v H Q ->
  wpAny (model X.prog X.w) X.A (setItem ov iv u) (λ_ s' => ∃ H', Inv X pins σ H' s' /\ Q H') X.xe s
section
variable {X : Cx} {pos : Pos}
noncomputable def acS (i : Nat) : TG := λv σ H Q => Q (σ.set i (some v)) H
theorem apc {i : Nat} {x : Str} (hN : X.N.Nodup) (hi : X.N[i]? = some x) (hx : Loc X.env.scope x) (hf : X.fn x = true \/ X.env.scope.names.lookup x = some .local := by first | exact .inl rfl | exact .inr rfl | assumption) : PG X (.Name x pos) (acS i) := by
 intro pins s σ H v u Q I r h
 exact wpAny_assign_Name (aeg I hN hi hx r (λs' I' => ⟨_, H, I', h⟩) hf)
noncomputable def aqH : TGs := λvs σ H Q => vs = [] /\ Q σ H
noncomputable def agz (t : TG) (u : TGs) : TGs := λvs σ H Q => ∃ v r, vs = v :: r /\ t v σ H λσ' H' => u r σ' H' Q
theorem adu : PGs X [] aqH := by
 intro pins s σ H vs us Q I r h
 obtain ⟨e, h⟩ := h
 subst e
 cases r
 exact assignInOrder_nil ⟨σ, H, I, h⟩
theorem abp {e : Expr} {es : List Expr} {t : TG} {u : TGs} (h1 : PG X e t) (h2 : PGs X es u)
  (hs : (assignEach (e :: es) X.env).map (·.2) = assign e X.env :: (assignEach es X.env).map (·.2) := by rfl) : PGs X (e :: es) (agz t u) := by
 intro pins s σ H vs us Q I r h
 obtain ⟨v, vr, e1, h⟩ := h
 subst e1
 cases r with
 | cons r rr =>
  rw [hs]
  refine assignInOrder_cons (thn (h1 pins s σ H _ _ _ I r h) λ_ s1 ⟨σ1, H1, I1, q1⟩ => ?_)
  exact h2 pins s1 σ1 H1 _ _ Q I1 rr q1
noncomputable def aqI (K : PySem.W.Frag) (n : Nat) (t : TGs) : TG := λv σ H Q => ∃ a xs, v = .ref a /\ SqT K H a xs /\ xs.length = n /\ t xs σ H Q
theorem ae6 {es : List Expr} {k : Nat} {t : TGs} {n : Nat} (hc : X.calm = true) (h : PGs X es t)
  (hn : (assignEach es X.env).length = n := by rfl) (hst : (assignEach es X.env).findIdx? (·.1) = none := by rfl) : PG X (.Tuple es k pos) (aqI X.K n t) := by
 intro pins s σ H v u Q I r hw
 obtain ⟨a, xs, e1, hq, hl, hw⟩ := hw
 subst e1
 cases r
 obtain ⟨its, rv, ht, hz⟩ := I.tuple hq
 refine assign_Tuple_tuple (I.ok.hd hc) ht (by simp [hn, <-hl, rv.length]) hst λh' hx => ?_
 have I1 : Inv X pins σ H { s with heap := h' } := I.kept (t' := s.toks) λb o e => hx b o (Nat.ne_of_lt (Heap.lt_size e)) e
 exact h pins _ σ H xs _ Q I1 (by simpa using rv) hw
noncomputable def avP (to ti : TE) (t : at9) : TG := λv σ H Q => to σ H λo H1 => ti σ H1 λi H2 => t o i v H2 λH3 => Q σ H3
theorem aq0 {o i : Expr} {to ti : TE} {t : at9} (ho : PE X o to) (hi : PE X i ti) (hs : avO X t)
  (ha : ∀ v, assign (.Subscript o i pos) X.env v = (do
   let ov <-holding [v] (eval o X.env)
   let iv <-holding [v, ov] (eval i X.env)
   standAt pos
   holding [v, ov, iv] (setItem ov iv v)
   release [v, ov, iv] []) := by intro _; rfl) : PG X (.Subscript o i pos) (avP to ti t) := by
 intro pins s σ H v u Q I r h
 rw [ha]
 refine wpAny_bind (wpAny_holding (thn (ho pins s σ H _ I h) λov s1 ⟨x, H1, I1, r1, q1⟩ => ?_))
 refine wpAny_bind (wpAny_holding (thn (hi pins s1 σ H1 _ I1 q1) λiv s2 ⟨y, H2, I2, r2, q2⟩ => ?_))
 refine wpAny_bind (wpAny_standAt (wpAny_bind (wpAny_holding (thn (hs pins s2 σ H2 x y v ov iv u _ I2 r1 r2 r q2) λ_ s3 ⟨H3, I3, q3⟩ => ?_))))
 exact wpAny_release ⟨σ, H3, I3, q3⟩
noncomputable def am1 (te : TE) (g : TG) : TS := λD σ H => te σ H λx H1 => g x σ H1 D.nx
theorem alx {tg e : Expr} {te : TE} {g : TG} (he : PE X e te) (hg : PG X tg g) (hs : swapsWithSole [tg] e pos.line X.env = pure false := by rfl) (hw : swappedStores [tg] e X.env = pure none := by rfl)
  (h1 : (assignEach [tg] X.env).map (·.2) = [assign tg X.env] := by rfl) : PS X (.Assign [tg] e pos) (am1 te g) := by
 refine ⟨λpins s σ H D I h => ?_⟩
 refine wpAny_Assign_stores (thn (he pins s σ H _ I h) λv s1 ⟨x, H1, I1, r1, q1⟩ => ?_) hs hw
 rw [h1]
 exact thn (hg pins s1 σ H1 x v _ I1 r1 q1) λ_ s2 q => q
theorem aoq {i : Nat} {x : Str} {e : Expr} {te : TE} {pos' : Pos} (hN : X.N.Nodup) (hi : X.N[i]? = some x) (hx : Loc X.env.scope x) (he : PE X e te) (hs : swapsWith e (some (.Name x pos')) pos.line X.env = pure false := by rfl) (hf : X.fn x = true \/ X.env.scope.names.lookup x = some .local := by first | exact .inl rfl | exact .inr rfl | assumption) :
  PS X (.Assign [.Name x pos'] e pos) (am1 te (acS i)) := by
 refine ⟨λpins s σ H D I h => ?_⟩
 refine wpAny_Assign_Name (thn (he pins s σ H _ I h) λv s1 ⟨y, H1, I1, r1, q1⟩ => ?_) hs
 exact aeg I1 hN hi hx r1 (λs2 I2 => ⟨_, H1, I2, q1⟩) hf
noncomputable def avQ (i j : Nat) (ta : TA) : TS := λD σ H => ta σ H λvs H1 => ∃ v w, vs = [v, w] /\ D.nx ((σ.set i (some v)).set j (some w)) H1
theorem aor {i j : Nat} {x y : Str} {a b : Expr} {ta : TA} {px py pt : Pos} {kt k2 pt2} (hc : X.calm = true) (hN : X.N.Nodup) (hi : X.N[i]? = some x) (hj : X.N[j]? = some y) (hij : i ≠ j)
  (hx : X.env.scope.names.lookup x = some .local) (hy : X.env.scope.names.lookup y = some .local) (ha : PA X [a, b] ta)
  (hw : swappedStores [.Tuple [.Name x px, .Name y py] kt pt] (.Tuple [a, b] k2 pt2) X.env = pure (some [x, y]))
  (hs : swapsWithSole [.Tuple [.Name x px, .Name y py] kt pt] (.Tuple [a, b] k2 pt2) pos.line X.env = pure false := by rfl) :
  PS X (.Assign [.Tuple [.Name x px, .Name y py] kt pt] (.Tuple [a, b] k2 pt2) pos) (avQ i j ta) := by
 refine ⟨λpins s σ H D I h => ?_⟩
 rw [exec_Assign_arm]
 refine wpAny_bind (wpAny_standAt ?_)
 rw [hs]
 refine wpAny_bind (wpAny_pure ?_)
 rw [if_neg (by decide)]
 refine wpAny_bind (Tuple_ (thn (ha _ pins s σ H _ I h) λus s1 ⟨vs, H1, I1, r1, q1⟩ => ?_))
 obtain ⟨v, w, e1, q1⟩ := q1
 subst e1
 obtain ⟨u1, u2, rfl, rv, rw'⟩ : ∃ u1 u2, us = [u1, u2] /\ RelV v u1 /\ RelV w u2 := by
  cases r1 with
  | cons p q =>
   cases q with
   | cons p' q' =>
    cases q'
    exact ⟨_, _, rfl, p, p'⟩
 refine wpAny_newObj_type ?_ (by show 2 <= sizeLine; decide)
 have I2 : Inv X pins σ H1 { s1 with heap := s1.heap.push { cls := .type "tuple", data := .seq [u1, u2].toArray } } := I1.kept (t' := s1.toks) λb o e => Heap.get?_push_of_some _ e
 rw [hw]
 refine wpAny_bind (wpAny_pure ?_)
 show wpAny (model X.prog X.w) X.A (do rule "assign.swapped-stores"; let items <-unpackItems (.ref s1.heap.objs.size) 2 none; assignInOrder [λv => bindName X.env y v, λv => bindName X.env x v] items.reverse; pure Flow.next) _ _ _
 refine wpAny_bind (wpAny_rule (wpAny_bind (unpackItems_tuple (items := #[u1, u2]) (I.ok.hd hc) (IsTup.new s1.heap _) λh' hx' => ?_)))
 have I3 := I2.kept (h' := h') (t' := s1.toks) λb o e => hx' b o (Nat.ne_of_lt (Heap.lt_size e)) e
 show wpAny _ _ (assignInOrder [λv => bindName X.env y v, λv => bindName X.env x v] [u2, u1] >>= λ_ => pure Flow.next) _ _ _
 refine wpAny_bind (assignInOrder_cons (wpAny_bindName (aeg I3 hN hj (.inl hy) rw' (λs2 I4 => ?_) (.inr hy))))
 refine assignInOrder_cons (wpAny_bindName (aeg I4 hN hi (.inl hx) rv (λs3 I5 => assignInOrder_nil (wpAny_pure ?_)) (.inr hx)))
 rw [List.set_comm _ _ (Ne.symm hij)] at I5
 exact ⟨_, H1, I5, q1⟩
end
section
variable {X : Cx} {pos : Pos}
noncomputable def aos (c : TT) (tb : TS) : TS := λD σ H => ∃ W : Nat -> St -> Hp -> Prop, (∃ m, W m σ H) /\ ∀ m σ H, W m σ H ->
 c σ H λb H1 => if b = true then ∃ N : St -> Hp -> Prop, (∀ σ' H', N σ' H' -> ∃ m', m' < m /\ W m' σ' H') /\ tb { D with nx := N, ct := N, bk := D.nx } σ H1 else D.nx σ H1
theorem ajC {c : Expr} {body : List Stmt} {tc : TT} {tb : TS} (hp : PassesOwn (model X.prog X.w) X.A X.env X.xe) (hc : PT X c tc) (hb : PSs X body tb) : PS X (.While c body [] pos) (aos tc tb) := by
 refine ⟨λpins s σ H D I h => ?_⟩
 obtain ⟨W, ⟨m0, w0⟩, turn⟩ := h
 refine wpAny_While (codeAny_whileLoop (λn s' => ∃ σ' H', Inv X pins σ' H' s' /\ W n σ' H') ?_ m0 ⟨σ, H, I, w0⟩)
 rintro n s1 ⟨σ1, H1, I1, w1⟩
 refine wpAny_passesOwn hp (thn (hc pins s1 σ1 H1 _ I1 (turn n σ1 H1 w1)) λb s2 ⟨H2, I2, q2⟩ => ?_)
 cases b with
 | true =>
  obtain ⟨N, hN, q2⟩ := q2
  rw [if_pos rfl]
  refine wpAny_passesOwn hp (thn (hb pins s2 σ1 H2 _ I2 q2) λf s3 q3 => ?_)
  cases f with
  | next =>
   obtain ⟨σ3, H3, I3, n3⟩ := q3
   obtain ⟨m', hm, w3⟩ := hN σ3 H3 n3
   exact ⟨m', hm, σ3, H3, I3, w3⟩
  | cont =>
   obtain ⟨σ3, H3, I3, n3⟩ := q3
   obtain ⟨m', hm, w3⟩ := hN σ3 H3 n3
   exact ⟨m', hm, σ3, H3, I3, w3⟩
  | brk => exact q3
  | ret v => exact q3
 | false =>
  rw [if_neg Bool.false_ne_true]
  exact wpAny_execs_nil ⟨σ1, H2, I2, q2⟩
end
structure It where
 go : Nat -> Hp -> Prop
 yld : Nat -> Hp -> V -> Hp -> Prop
 stop : Nat -> Hp -> Prop
noncomputable def ad7 (X : Cx) (pins : List (Addr × Obj)) (H : Hp) (b : Addr) : Prop :=
 H b = none /\ b ≠ X.env.locals /\ b ∉ X.fs /\ (b ∈ X.ex \/ X.s₀.heap.objs.size <= b) /\ (∀ x c, X.env.cells.lookup x = some c -> c ≠ b) /\ ∀ p ∈ X.pn ++ pins, p.1 ≠ b
theorem Inv.am2 {X : Cx} {pins : List (Addr × Obj)} {σ : St} {H H' : Hp} {s : Shared} {b : Addr} (I : Inv X pins σ H s) (hb : s.heap.objs.size <= b) (hn : H' b = none) : ad7 X pins H' b := by
 refine ⟨hn, Nat.ne_of_gt (Nat.lt_of_lt_of_le I.lt hb), I.awB hb, .inr (Nat.le_trans I.sz hb), λx c e z => ?_, λp hp z => ?_⟩
 ·obtain ⟨v, q⟩ := I.cell x c e
  exact absurd (Nat.lt_of_lt_of_le q.lt (by rw [z]; exact hb)) (Nat.lt_irrefl _)
 ·exact absurd (Nat.lt_of_lt_of_le (Heap.lt_size (I.pin p hp).1) (by rw [z]; exact hb)) (Nat.lt_irrefl _)
structure Turn (P : Program) (w : World) (K : PySem.W.Frag) (tg : Expr) (J : It) (fp : List Addr) (it : Addr) (tn : Nat -> Heap -> Prop) : Prop where
 mem : it ∈ fp
 obj : ∀ i h, tn i h -> ∀ b ∈ fp, ∃ o, h.get? b = some o /\ ∀ v, o.data ≠ .cell v
 keep : ∀ i h h', tn i h -> (∀ b ∈ fp, ∀ o, h.get? b = some o -> h'.get? b = some o) -> tn i h'
 item : ∀ (X : Cx), X.prog = P -> X.w = w -> X.K = K -> X.calm = true -> ∀ (i : Nat) (pins : List (Addr × Obj)) (s : Shared) (σ : St) (H : Hp) (E : Value -> Shared -> Prop), Inv X pins σ H s -> (∀ b ∈ fp, ad7 X pins H b) -> tn i s.heap -> J.go i H ->
  wpAny (model P w) X.A (pyNext (.ref it)) (λr s1 => ∃ u, r = some u /\
   wpAny (model P w) X.A (letOwnedTupleGo tg (.ref it) u) (λ_ s2 => ∃ x H', Inv X pins σ H' s2 /\ RelV x u /\ J.yld i H x H' /\ tn (i + 1) s2.heap /\ ∀ b ∈ fp, H' b = none) E s1) E s
 done : ∀ (X : Cx), X.prog = P -> X.w = w -> X.K = K -> X.calm = true -> ∀ (i : Nat) (pins : List (Addr × Obj)) (s : Shared) (σ : St) (H : Hp) (E : Value -> Shared -> Prop), Inv X pins σ H s -> (∀ b ∈ fp, ad7 X pins H b) -> tn i s.heap -> J.stop i H ->
  wpAny (model P w) X.A (pyNext (.ref it)) (λr s1 => r = none /\ Inv X pins σ H s1) E s
 self : ∀ (A : Around) (i : Nat) (s : Shared) (Q : Value -> Shared -> Prop) (E : Value -> Shared -> Prop), tn i s.heap -> Q (.ref it) s -> wpAny (model P w) A (pyIter (.ref it)) Q E s
noncomputable abbrev TI := St -> Hp -> (It -> Hp -> Prop) -> Prop
noncomputable def PIE (X : Cx) (pins : List (Addr × Obj)) (σ : St) (tg : Expr) (R : It -> Hp -> Prop) (itv : Value) (s2 : Shared) : Prop :=
 ∃ (it : Addr) (fp : List Addr) (tn : Nat -> Heap -> Prop) (J : It) (H' : Hp), itv = .ref it /\ Inv X pins σ H' s2 /\ Turn X.prog X.w X.K tg J fp it tn /\ tn 0 s2.heap /\ (∀ b ∈ fp, ad7 X pins H' b) /\ R J H'
noncomputable def PI (X : Cx) (tg iter : Expr) (wi : TI) : Prop :=
 ∀ (pins : List (Addr × Obj)) (s : Shared) (σ : St) (H : Hp) (R : It -> Hp -> Prop), Inv X pins σ H s -> wi σ H R ->
  wpAny (model X.prog X.w) X.A (eval iter X.env) (λv s1 => wpAny (model X.prog X.w) X.A (pyIter v) (PIE X pins σ tg R) X.xe s1) X.xe s
theorem apd {M : Model} {A : Around} {E : Value → Shared → Prop} {s : Shared} {tg : Expr} {it : Addr} {u : Value} {o : Obj} {n : String} {vs : Array Value} {Q : Unit → Shared → Prop} (ho : s.heap.get? it = some o) (hc : o.cls = .type n) (hd : o.data = .fields vs)
    (hn : ["enumerate", "zip", "dict_itemiterator", "dict_reverseitemiterator", "odict_iterator", "itertools.zip_longest", "itertools.pairwise"].contains n = false) (hQ : Q () s) : wpAny M A (letOwnedTupleGo tg (.ref it) u) Q E s := by
  unfold letOwnedTupleGo
  cases tg <;> first
    | exact wpAny_pure hQ
    | (cases u <;> first
        | exact wpAny_pure hQ
        | (refine wpAny_bind (wpAny_load ho ?_)
           rw [hc, hd]
           show wpAny M A (if (["enumerate", "zip", "dict_itemiterator", "dict_reverseitemiterator", "odict_iterator", "itertools.zip_longest", "itertools.pairwise"].contains n && vs[0]? == some (rawInt _)) = true then _ else _) Q E s
           rw [if_neg (by intro h; rw [hn, Bool.false_and] at h; cases h)]
           exact wpAny_pure hQ))
noncomputable def Itl (K : PySem.W.Frag) (a : Addr) : It :=
 ⟨λi H => ∃ xs x, SqL K H a xs /\ xs[i]? = some x, λi H x H' => H' = H /\ ∀ xs, SqL K H a xs -> xs[i]? = some x, λi H => ∃ xs, SqL K H a xs /\ xs.length <= i⟩
noncomputable def Itt (K : PySem.W.Frag) (a : Addr) : It :=
 ⟨λi H => ∃ xs x, SqT K H a xs /\ xs[i]? = some x, λi H x H' => H' = H /\ ∀ xs, SqT K H a xs -> xs[i]? = some x, λi H => ∃ xs, SqT K H a xs /\ xs.length <= i⟩
noncomputable def Itr (lo : Int) (n : Nat) : It := ⟨λi _ => i < n, λi H x H' => H' = H /\ x = .int (lo + i), λi _ => n <= i⟩
theorem aly {P : Program} {w : World} {K : PySem.W.Frag} {tg : Expr} (a it : Addr) : Turn P w K tg (Itl K a) [it] it (λi h => h.IsListIter it a i) where
 mem := by simp
 obj := λi h st b hb => by
  have e : b = it := by simpa using hb
  subst e
  obtain ⟨o, e, c, d⟩ := st
  exact ⟨o, e, λv z => by rw [d] at z; cases z⟩
 keep := λi h h' st k => st.at λo e => k it (by simp) o e
 item := by
  intro X hP hw hK hc i pins s σ H E I hf st hg
  subst hP hw hK
  obtain ⟨xs, x, hq, hx⟩ := hg
  obtain ⟨its, rv, p, hz⟩ := I.list hq
  obtain ⟨u, hu, ru⟩ := rv.get hx
  obtain ⟨f0, f1, f2, f3, f4, f5⟩ := hf it (by simp)
  refine wpAny_pyNext_list_item st p.isList (x := u) (by simpa using hu) λh' st' sb => ?_
  have I1 : Inv X pins σ H { s with heap := h' } := I.turned (t' := s.toks) (λb o hb e => (sb.2 b hb).trans e) f0 f1 f3 f4 f5
  obtain ⟨o, e, c, d⟩ := id st'
  exact ⟨u, rfl, apd (s := { s with heap := h' }) e c d (by decide) ⟨x, H, I1, ru, ⟨rfl, λys hy => by rw [I.afA hy hq]; exact hx⟩, st', λb hb => (hf b hb).1⟩⟩
 done := by
  intro X hP hw hK hc i pins s σ H E I hf st hg
  subst hP hw hK
  obtain ⟨xs, hq, hx⟩ := hg
  obtain ⟨its, rv, p, hz⟩ := I.list hq
  obtain ⟨f0, f1, f2, f3, f4, f5⟩ := hf it (by simp)
  have hl := rv.length
  exact wpAny_pyNext_list_end (I.ok.hd hc) st p.isList (by simp; omega) λh' eb => ⟨rfl, I.turned (t' := s.toks) (λb o hb e => eb b o hb e) f0 f1 f3 f4 f5⟩
 self := λ_ _ _ _ _ st h => wpAny_pyIter_listiter st h
theorem ako {P : Program} {w : World} {K : PySem.W.Frag} {tg : Expr} (a it : Addr) : Turn P w K tg (Itt K a) [it] it (λi h => h.IsTupleIter it a i) where
 mem := by simp
 obj := λi h st b hb => by
  have e : b = it := by simpa using hb
  subst e
  obtain ⟨o, e, c, d⟩ := st
  exact ⟨o, e, λv z => by rw [d] at z; cases z⟩
 keep := λi h h' st k => st.at λo e => k it (by simp) o e
 item := by
  intro X hP hw hK hc i pins s σ H E I hf st hg
  subst hP hw hK
  obtain ⟨xs, x, hq, hx⟩ := hg
  obtain ⟨its, rv, p, hz⟩ := I.tuple hq
  obtain ⟨u, hu, ru⟩ := rv.get hx
  obtain ⟨f0, f1, f2, f3, f4, f5⟩ := hf it (by simp)
  refine wpAny_pyNext_tuple_item st (show s.heap.IsTuple a its.toArray from p) (x := u) (by simpa using hu) λh' st' sb => ?_
  have I1 : Inv X pins σ H { s with heap := h' } := I.turned (t' := s.toks) (λb o hb e => (sb.2 b hb).trans e) f0 f1 f3 f4 f5
  obtain ⟨o, e, c, d⟩ := id st'
  exact ⟨u, rfl, apd (s := { s with heap := h' }) e c d (by decide) ⟨x, H, I1, ru, ⟨rfl, λys hy => by rw [I.ah0 hy hq]; exact hx⟩, st', λb hb => (hf b hb).1⟩⟩
 done := by
  intro X hP hw hK hc i pins s σ H E I hf st hg
  subst hP hw hK
  obtain ⟨xs, hq, hx⟩ := hg
  obtain ⟨its, rv, p, hz⟩ := I.tuple hq
  obtain ⟨f0, f1, f2, f3, f4, f5⟩ := hf it (by simp)
  have hl := rv.length
  exact wpAny_pyNext_tuple_end (I.ok.hd hc) st (show s.heap.IsTuple a its.toArray from p) (by simp; omega) λh' eb => ⟨rfl, I.turned (t' := s.toks) (λb o hb e => eb b o hb e) f0 f1 f3 f4 f5⟩
 self := λ_ _ _ _ _ st h => wpAny_pyIter_tupleiter st h
theorem akp {P : Program} {w : World} {K : PySem.W.Frag} {tg : Expr} (it : Addr) (lo : Int) (n : Nat) : Turn P w K tg (Itr lo n) [it] it (λi h => IsRangeIter h it (lo + (i : Nat) * 1) ((n : Int) - (i : Nat)) 1) where
 mem := by simp
 obj := λi h st b hb => by
  have e : b = it := by simpa using hb
  subst e
  exact ⟨_, st, λv z => by
   have z' : Data.fields _ = Data.cell v := z
   cases z'⟩
 keep := λi h h' st k => k it (by simp) _ st
 item := by
  intro X hP hw hK hc i pins s σ H E I hf st hg
  subst hP hw hK
  obtain ⟨f0, f1, f2, f3, f4, f5⟩ := hf it (by simp)
  have W := Walks.range (prog := X.prog) (w := X.w) (I.ok.hd hc) it lo 1 n
  refine W.item i s _ _ hg st λv h' tk hv st' kk => ?_
  obtain ⟨t, rfl⟩ := hv
  have I1 : Inv X pins σ H { s with heap := h', toks := tk } := I.turned (λb o hb e => kk b o (by simpa using hb) e) f0 f1 f3 f4 f5
  refine ⟨_, rfl, apd (s := { s with heap := h', toks := tk }) (n := "range_iterator") st' rfl rfl (by decide) ⟨.int (lo + i), H, I1, ⟨t, ?_⟩, ⟨rfl, rfl⟩, st', λb hb => (hf b hb).1⟩⟩
  rw [Int.mul_one]
 done := by
  intro X hP hw hK hc i pins s σ H E I hf st hg
  subst hP hw hK
  obtain ⟨f0, f1, f2, f3, f4, f5⟩ := hf it (by simp)
  exact wpAny_pyNext_range_end (I.ok.hd hc) st (by have : n <= i := hg; omega) λh' eb => ⟨rfl, I.turned (t' := s.toks) (λb o hb e => eb b o hb e) f0 f1 f3 f4 f5⟩
 self := λ_ _ _ _ _ st h => wpAny_pyIter_rangeiter st h
end L2
namespace L2
open PySem PySem.Spec PyProof.Rows
section
variable {X : Cx} {tg : Expr}
noncomputable def aq1 (K : PySem.W.Frag) (tl : TE) : TI := λσ H R => tl σ H λx H1 => ∃ a, x = .ref a /\ (∃ xs, SqL K H1 a xs) /\ R (Itl K a) H1
noncomputable def avR (K : PySem.W.Frag) (tl : TE) : TI := λσ H R => tl σ H λx H1 => ∃ a, x = .ref a /\ (∃ xs, SqT K H1 a xs) /\ R (Itt K a) H1
theorem ape {l : Expr} {tl : TE} (hl : PE X l tl) : PI X tg l (aq1 X.K tl) := by
 intro pins s σ H R I h
 refine thn (hl pins s σ H _ I h) λv s1 ⟨x, H1, I1, r1, q1⟩ => ?_
 obtain ⟨a, e, ⟨xs, hq⟩, q⟩ := q1
 subst e
 cases r1
 obtain ⟨its, rv, p, hz⟩ := I1.list hq
 refine wpAny_pyIter_list p.isList ?_
 refine ⟨s1.heap.objs.size, [s1.heap.objs.size], _, _, H1, rfl, I1.kept (t' := s1.toks) λb o e => Heap.get?_push_of_some _ e, aly a _, ⟨_, Heap.get?_push_size _ rfl, rfl, rfl⟩, λb hb => ?_, q⟩
 have e : b = s1.heap.objs.size := by simpa using hb
 subst e
 exact I1.am2 (Nat.le_refl _) (I1.hok.fresh (Nat.le_refl _))
theorem aq2 {l : Expr} {tl : TE} (hl : PE X l tl) : PI X tg l (avR X.K tl) := by
 intro pins s σ H R I h
 refine thn (hl pins s σ H _ I h) λv s1 ⟨x, H1, I1, r1, q1⟩ => ?_
 obtain ⟨a, e, ⟨xs, hq⟩, q⟩ := q1
 subst e
 cases r1
 obtain ⟨its, rv, p, hz⟩ := I1.tuple hq
 refine wpAny_pyIter_tuple (show s1.heap.IsTuple a its.toArray from p) ?_
 refine ⟨s1.heap.objs.size, [s1.heap.objs.size], _, _, H1, rfl, I1.kept (t' := s1.toks) λb o e => Heap.get?_push_of_some _ e, ako a _, ⟨_, Heap.get?_push_size _ rfl, rfl, rfl⟩, λb hb => ?_, q⟩
 have e : b = s1.heap.objs.size := by simpa using hb
 subst e
 exact I1.am2 (Nat.le_refl _) (I1.hok.fresh (Nat.le_refl _))
theorem am3 {pins : List (Addr × Obj)} {σ : St} {H : Hp} {s : Shared} {R : It -> Hp -> Prop} {E : Value -> Shared -> Prop} {lo hi : Int} {t u v : Tok} {tk : Nat} (I : Inv X pins σ H s) (h1 : -(2 ^ 62) <= lo) (h2 : lo < 2 ^ 62) (h3 : -(2 ^ 62) <= hi) (h4 : hi < 2 ^ 62)
  (q : R (Itr lo (hi - lo).toNat) H) : wpAny (model X.prog X.w) X.A (pyIter (.ref s.heap.objs.size)) (PIE X pins σ tg R) E { s with heap := s.heap.push { cls := .type "range", data := .fields #[.int lo t, .int hi u, .int 1 v] }, toks := tk } := by
 refine wpAny_pyIter_range (IsRange.new ..) (small_one h1 h2 h3 h4) ?_
 have I1 : Inv X pins σ H { s with heap := s.heap.push { cls := .type "range", data := .fields #[.int lo t, .int hi u, .int 1 v] }, toks := tk } := I.kept λb o e => Heap.get?_push_of_some _ e
 refine ⟨(s.heap.push { cls := .type "range", data := .fields #[.int lo t, .int hi u, .int 1 v] }).objs.size, [(s.heap.push { cls := .type "range", data := .fields #[.int lo t, .int hi u, .int 1 v] }).objs.size], _, _, H, rfl,
  I1.kept (t' := tk) λb o e => Heap.get?_push_of_some _ e, akp _ lo (hi - lo).toNat, ?_, λb hb => ?_, q⟩
 ·have e1 : lo + ((0 : Nat) : Int) * 1 = lo := by simp
  have e2 : (((hi - lo).toNat : Nat) : Int) - ((0 : Nat) : Int) = Builtin.Range.rangeSize lo hi 1 := by rw [rangeSize_one]; split <;> omega
  show IsRangeIter _ _ (lo + ((0 : Nat) : Int) * 1) ((((hi - lo).toNat : Nat) : Int) - ((0 : Nat) : Int)) 1
  rw [e1, e2]
  exact Heap.get?_push_size _ rfl
 ·have e : b = (s.heap.push { cls := .type "range", data := .fields #[.int lo t, .int hi u, .int 1 v] }).objs.size := by simpa using hb
  subst e
  exact I1.am2 (Nat.le_refl _) (I1.hok.fresh (Nat.le_refl _))
noncomputable def apf (ta : TA) : TI := λσ H R => ta σ H λvs H1 => ∃ j : Int, vs = [.int j] /\ -(2 ^ 62) <= j /\ j < 2 ^ 62 /\ R (Itr 0 j.toNat) H1
theorem alz {a : Expr} {ta : TA} {p pos : Pos} (hg : Gl X "range") (hm : X.mg "range" = none) (ha : PA X [a] ta) (hs : starEach [a] X.env = [(false, eval a X.env)] := by rfl) : PI X tg (.Call (.Name "range" p) [a] [] pos) (apf ta) := by
 intro pins s σ H R I h
 refine Call_ (afP I hg hm boot_range (PyProof.Rows.callWith_type1 (thn (ha pos pins s σ H _ I h) λus s1 ⟨vs, H1, I1, r1, q1⟩ => ?_) hs rfl))
 obtain ⟨j, e, q1, q2, q⟩ := q1
 subst e
 cases r1 with
 | cons r rr =>
  cases rr
  obtain ⟨t, rfl⟩ := r
  exact call_range_1 (am3 I1 (by omega) (by omega) q1 q2 (by simpa using q))
noncomputable def avS (wi : TI) (g : TG) (tb : TS) : TS := λD σ H => wi σ H λJ H1 => ∃ W : Nat -> Nat -> St -> Hp -> Prop, (∃ m, W 0 m σ H1) /\ ∀ i m σ H, W i m σ H ->
 (J.stop i H /\ D.nx σ H) \/ (J.go i H /\ ∃ N : St -> Hp -> Prop, (∀ σ' H', N σ' H' -> ∃ m', m' < m /\ W (i + 1) m' σ' H') /\ ∀ x H', J.yld i H x H' -> g x σ H' λσ2 H2 => tb { D with nx := N, ct := N, bk := D.nx } σ2 H2)
noncomputable def ajD (fp : List Addr) (h : Heap) : List (Addr × Obj) := fp.filterMap λb => (h.get? b).map λo => (b, o)
theorem abR {fp : List Addr} {h : Heap} {b : Addr} {o : Obj} (hb : b ∈ fp) (e : h.get? b = some o) : (b, o) ∈ ajD fp h := List.mem_filterMap.mpr ⟨b, hb, by rw [e]; rfl⟩
theorem alA {fp : List Addr} {h : Heap} {p : Addr × Obj} (hp : p ∈ ajD fp h) : p.1 ∈ fp /\ h.get? p.1 = some p.2 := by
 obtain ⟨b, hb, e⟩ := List.mem_filterMap.mp hp
 cases q : h.get? b with
 | none => rw [q] at e; cases e
 | some o =>
  rw [q] at e
  have e' : (b, o) = p := Option.some.inj e
  subst e'
  exact ⟨hb, q⟩
theorem Inv.pinned {pins : List (Addr × Obj)} {σ : St} {H : Hp} {s : Shared} {fp : List Addr} (I : Inv X pins σ H s) (hf : ∀ b ∈ fp, ad7 X pins H b) (ho : ∀ b ∈ fp, ∃ o, s.heap.get? b = some o /\ ∀ v, o.data ≠ .cell v) : Inv X (pins ++ ajD fp s.heap) σ H s :=
 I.ag9 λp hp => (List.mem_append.mp hp).elim (λz => I.pin p (List.mem_append_right _ z)) λz => by
  obtain ⟨hb, e⟩ := alA z
  obtain ⟨f0, f1, f2, _⟩ := hf p.1 hb
  obtain ⟨o, e', d⟩ := ho p.1 hb
  rw [e] at e'; cases e'
  exact ⟨e, f0, f1, f2, d⟩
theorem Inv.adH {pins pl : List (Addr × Obj)} {σ : St} {H : Hp} {s : Shared} (I : Inv X (pins ++ pl) σ H s) : Inv X pins σ H s := I.ag9 λp hp => I.pin p (List.mem_append_right _ (List.mem_append_left _ hp))
theorem agQ {iter : Expr} {body : List Stmt} {wi : TI} {g : TG} {tb : TS} {pos : Pos} (hp : PassesOwn (model X.prog X.w) X.A X.env X.xe) (hc : X.calm = true) (hi : PI X tg iter wi) (hg : PG X tg g) (hb : PSs X body tb)
  (hs : ∀ x, foldedSetIterable iter X.env x = pure x := by intro _; rfl) : PS X (.For tg iter body [] pos) (avS wi g tb) := by
 refine ⟨λpins s σ H D I h => ?_⟩
 refine wpAny_For (thn (hi pins s σ H _ I h) λv s1 h1 => thn h1 λitv s2 h2 => ?_) hs
 obtain ⟨it, fp, tn, J, H2, e, I2, T, st2, f2, W, ⟨m0, w0⟩, turn⟩ := h2
 subst e
 -- what stays true of the iterator's objects through the loop
 have stat : ∀ {H' : Hp}, (∀ b ∈ fp, H' b = none) -> ∀ b ∈ fp, ad7 X pins H' b := λhn b hb => ⟨hn b hb, (f2 b hb).2⟩
 refine codeAny_forLoop_any (λn s' => ∃ i σ' H', Inv X pins σ' H' s' /\ tn i s'.heap /\ (∀ b ∈ fp, H' b = none) /\ W i n σ' H') ?_ m0 ⟨0, σ, H2, I2, st2, λb hb => (f2 b hb).1, w0⟩
 rintro n s3 ⟨i, σ3, H3, I3, st3, fr3, w3⟩
 rcases turn i n σ3 H3 w3 with ⟨stop, qn⟩ | ⟨go, N, hN, step⟩
 ·refine wpAny_passesOwn hp (thn (T.done X rfl rfl rfl hc i pins s3 σ3 H3 X.xe I3 (stat fr3) st3 stop) λr s4 ⟨hr, I4⟩ => ?_)
  subst hr
  exact wpAny_execs_nil ⟨σ3, H3, I4, qn⟩
 ·refine wpAny_passesOwn hp (thn (T.item X rfl rfl rfl hc i pins s3 σ3 H3 X.xe I3 (stat fr3) st3 go) λr s4 ⟨u, hr, h4⟩ => ?_)
  subst hr
  refine wpAny_passesOwn hp (thn h4 λ_ s5 ⟨x, H5, I5, r5, y5, st5, fr5⟩ => ?_)
  have I5' := I5.pinned (stat fr5) (T.obj _ _ st5)
  refine wpAny_passesOwn hp (thn (hg _ s5 σ3 H5 x u _ I5' r5 (step x H5 y5)) λ_ s6 ⟨σ6, H6, I6, q6⟩ => ?_)
  refine wpAny_passesOwn hp (thn (hb _ s6 σ6 H6 _ I6 q6) λf s7 q7 => ?_)
  have again : ∀ {σ7 : St} {H7 : Hp}, Inv X (pins ++ ajD fp s5.heap) σ7 H7 s7 -> N σ7 H7 -> ∃ m, m < n /\ ∃ i σ' H', Inv X pins σ' H' s7 /\ tn i s7.heap /\ (∀ b ∈ fp, H' b = none) /\ W i m σ' H' := λ{σ7 H7} I7 n7 => by
   obtain ⟨m', hm, w7⟩ := hN σ7 H7 n7
   refine ⟨m', hm, i + 1, σ7, H7, I7.adH, T.keep _ _ _ st5 λb hb o e => (I7.pin (b, o) (List.mem_append_right _ (List.mem_append_right _ (abR hb e)))).1, λb hb => ?_, w7⟩
   obtain ⟨o, e, d⟩ := T.obj _ _ st5 b hb
   exact (I7.pin (b, o) (List.mem_append_right _ (List.mem_append_right _ (abR hb e)))).2.1
  cases f with
  | next => obtain ⟨σ7, H7, I7, n7⟩ := q7; exact again I7 n7
  | cont => obtain ⟨σ7, H7, I7, n7⟩ := q7; exact again I7 n7
  | brk => obtain ⟨σ7, H7, I7, q7⟩ := q7; exact ⟨σ7, H7, I7.adH, q7⟩
  | ret v => obtain ⟨x7, σ7, H7, I7, r7, q7⟩ := q7; exact ⟨x7, σ7, H7, I7.adH, r7, q7⟩
end
end L2
namespace L2
open PySem PySem.Spec PyProof.Rows
noncomputable abbrev R2 := V -> V -> Hp -> VK -> Prop
noncomputable def OpR (X : Cx) (f : Value -> Value -> Sem Value) (r : R2) : Prop :=
 ∀ (pins : List (Addr × Obj)) (s : Shared) (σ : St) (H : Hp) (x y : V) (v u : Value) (Q : VK), Inv X pins σ H s -> RelV x v -> RelV y u -> r x y H Q ->
  wpAny (model X.prog X.w) X.A (f v u) (EP X pins σ Q) X.xe s
noncomputable def UnR (X : Cx) (f : Value -> Sem Value) (r : V -> Hp -> VK -> Prop) : Prop :=
 ∀ (pins : List (Addr × Obj)) (s : Shared) (σ : St) (H : Hp) (x : V) (v : Value) (Q : VK), Inv X pins σ H s -> RelV x v -> r x H Q ->
  wpAny (model X.prog X.w) X.A (f v) (EP X pins σ Q) X.xe s
noncomputable def acH (X : Cx) (f : Value) (r : List V -> Hp -> VK -> Prop) : Prop :=
 ∀ (pins : List (Addr × Obj)) (s : Shared) (σ : St) (H : Hp) (xs : List V) (us : List Value) (Q : VK), Inv X pins σ H s -> Vals xs us -> r xs H Q ->
  wpAny (model X.prog X.w) X.A (call f us) (EP X pins σ Q) X.xe s
noncomputable def awF (X : Cx) (r : V -> Hp -> (Bool -> Hp -> Prop) -> Prop) : Prop :=
 ∀ (pins : List (Addr × Obj)) (s : Shared) (σ : St) (H : Hp) (x : V) (v : Value) (Q : Bool -> Hp -> Prop), Inv X pins σ H s -> RelV x v -> r x H Q ->
  wpAny (model X.prog X.w) X.A (truthy v) (TP X pins σ Q) X.xe s
noncomputable def tOp (r : R2) (ta tb : TE) : TE := λσ H Q => ta σ H λx H1 => tb σ H1 λy H2 => r x y H2 Q
noncomputable def tUn (r : V -> Hp -> VK -> Prop) (ta : TE) : TE := λσ H Q => ta σ H λx H1 => r x H1 Q
noncomputable def rI (C : Int -> Int -> Prop) (g : Int -> Int -> V) : R2 := λx y H Q => ∃ i j, x = .int i /\ y = .int j /\ C i j /\ Q (g i j) H
noncomputable def rI0 (g : Int -> Int -> V) : R2 := λx y H Q => ∃ i j, x = .int i /\ y = .int j /\ Q (g i j) H
noncomputable def rU (g : Int -> V) : V -> Hp -> VK -> Prop := λx H Q => ∃ i, x = .int i /\ Q (g i) H
section
variable {X : Cx} {a b c : Expr} {ta tb tc : TE} {pos : Pos}
theorem aua (ha : PE X a ta) (hb : PE X b tb) {pins : List (Addr × Obj)} {s : Shared} {σ : St} {H : Hp} {R : V -> V -> Hp -> Prop} (I : Inv X pins σ H s)
  (h : ta σ H λx H1 => tb σ H1 λy H2 => R x y H2) {Q : Value -> Shared -> Prop} {f : Value -> Value -> Sem Value}
  (hf : ∀ v u s2 x y H2, Inv X pins σ H2 s2 -> RelV x v -> RelV y u -> R x y H2 -> wpAny (model X.prog X.w) X.A (f v u) Q X.xe s2) :
  wpAny (model X.prog X.w) X.A (eval a X.env) (λv s₁ => wpAny (model X.prog X.w) X.A (eval b X.env) (λu s₂ => wpAny (model X.prog X.w) X.A (f v u) Q X.xe s₂) X.xe s₁) X.xe s := by
 refine thn (ha pins s σ H _ I h) λv s1 ⟨x, H1, I1, r1, q1⟩ => ?_
 refine thn (hb pins s1 σ H1 _ I1 q1) λu s2 ⟨y, H2, I2, r2, q2⟩ => ?_
 exact hf v u s2 x y H2 I2 r1 r2 q2
theorem aaz {op : Operator} {r : R2} (ho : OpR X (binaryOp op) r) (ha : PE X a ta) (hb : PE X b tb) : PE X (.BinOp a op b pos) (tOp r ta tb) := by
 refine ⟨λpins s σ H Q I h => ?_⟩
 exact wpAny_BinOp (aua ha hb I h λv u s2 x y H2 I2 rx ry q => ho pins s2 σ H2 x y v u Q I2 rx ry q)
theorem apg {op : UnaryOp} {r : V -> Hp -> VK -> Prop} (ho : UnR X (unaryOp op) r) (ha : PE X a ta) : PE X (.UnaryOp op a pos) (tUn r ta) := by
 refine ⟨λpins s σ H Q I h => ?_⟩
 exact UnaryOp_ (thn (ha pins s σ H _ I h) λv s1 ⟨x, H1, I1, r1, q1⟩ => ho pins s1 σ H1 x v Q I1 r1 q1)
theorem opI {f : Value -> Value -> Sem Value} {C : Int -> Int -> Prop} {g : Int -> Int -> Int}
  (rule : ∀ (i j : Int) (t u : Tok) (s : Shared) (Q : Value -> Shared -> Prop) (E : Value -> Shared -> Prop), C i j -> Q (.int (g i j) s.toks) { s with toks := s.toks + 1 } -> wpAny (model X.prog X.w) X.A (f (.int i t) (.int j u)) Q E s) :
  OpR X f (rI C λi j => .int (g i j)) := by
 intro pins s σ H x y v u Q I rx ry h
 obtain ⟨i, j, rfl, rfl, hc, q⟩ := h
 obtain ⟨t, rfl⟩ := rx
 obtain ⟨t', rfl⟩ := ry
 exact rule i j t t' s _ _ hc ⟨.int (g i j), H, I.tok _, ⟨_, rfl⟩, q⟩
theorem avT {f : Value -> Value -> Sem Value} {g : Int -> Int -> Int}
  (rule : ∀ (i j : Int) (t u : Tok) (s : Shared) (Q : Value -> Shared -> Prop) (E : Value -> Shared -> Prop), Q (.int (g i j) s.toks) { s with toks := s.toks + 1 } -> wpAny (model X.prog X.w) X.A (f (.int i t) (.int j u)) Q E s) :
  OpR X f (rI0 λi j => .int (g i j)) := by
 intro pins s σ H x y v u Q I rx ry h
 obtain ⟨i, j, rfl, rfl, q⟩ := h
 obtain ⟨t, rfl⟩ := rx
 obtain ⟨t', rfl⟩ := ry
 exact rule i j t t' s _ _ ⟨.int (g i j), H, I.tok _, ⟨_, rfl⟩, q⟩
theorem aub {f : Value -> Value -> Sem Value} {g : Int -> Int -> Bool}
  (rule : ∀ (i j : Int) (t u : Tok) (s : Shared) (Q : Value -> Shared -> Prop) (E : Value -> Shared -> Prop), Q (.bool (g i j)) s -> wpAny (model X.prog X.w) X.A (f (.int i t) (.int j u)) Q E s) :
  OpR X f (rI0 λi j => .bl (g i j)) := by
 intro pins s σ H x y v u Q I rx ry h
 obtain ⟨i, j, rfl, rfl, q⟩ := h
 obtain ⟨t, rfl⟩ := rx
 obtain ⟨t', rfl⟩ := ry
 exact rule i j t t' s _ _ ⟨.bl (g i j), H, I, rfl, q⟩
noncomputable def auc (i j : Int) : Prop := 0 <= j /\ j <= 1000000 /\ i.natAbs < 2 ^ 64
theorem aot : OpR X (binaryOp .Add) (rI0 λi j => .int (i + j)) := avT λ_ _ _ _ _ _ _ q => add_int q
theorem agR : OpR X (binaryOp .Sub) (rI0 λi j => .int (i - j)) := avT λ_ _ _ _ _ _ _ q => sub_int q
theorem acT : OpR X (binaryOp .Mod) (rI (λ_ j => j ≠ 0) λi j => .int (i.fmod j)) := opI λ_ _ _ _ _ _ _ hc q => mod_int' hc q
theorem ae7 : OpR X (binaryOp .Pow) (rI auc λi j => .int (i ^ j.toNat)) := opI λ_ _ _ _ _ _ _ hc q => pow_int_small hc.1 hc.2.1 hc.2.2 q
theorem unI {f : Value -> Sem Value} {g : Int -> Int}
  (rule : ∀ (i : Int) (t : Tok) (s : Shared) (Q : Value -> Shared -> Prop) (E : Value -> Shared -> Prop), Q (.int (g i) s.toks) { s with toks := s.toks + 1 } -> wpAny (model X.prog X.w) X.A (f (.int i t)) Q E s) :
  UnR X f (rU λi => .int (g i)) := by
 intro pins s σ H x v Q I rx h
 obtain ⟨i, rfl, q⟩ := h
 obtain ⟨t, rfl⟩ := rx
 exact rule i t s _ _ ⟨.int (g i), H, I.tok _, ⟨_, rfl⟩, q⟩
theorem alB : UnR X (unaryOp .USub) (rU λi => .int (-i)) := unI λ_ _ _ _ _ q => neg_int q
end
section
variable {X : Cx} {a b c : Expr} {ta tb tc : TE} {pos : Pos}
theorem aq3 {pins : List (Addr × Obj)} {σ : St} {H : Hp} {s : Shared} {Q : VK} {k k' : Bool} (I : Inv X pins σ H s) (q : Q (.bl k) H) (e : k = k') : EP X pins σ Q (.bool k') s := by
 subst e
 exact ⟨.bl k, H, I, rfl, q⟩
theorem aud : OpR X (compareOp .Lt) (rI0 λi j => .bl (decide (i < j))) := aub λ_ _ _ _ _ _ _ q => lt_int q
theorem akq : OpR X (compareOp .LtE) (rI0 λi j => .bl (decide (i <= j))) := aub λ_ _ _ _ _ _ _ q => le_int q
theorem aph : OpR X (compareOp .GtE) (rI0 λi j => .bl (decide (j <= i))) := aub λ_ _ _ _ _ _ _ q => ge_int q
theorem aq4 : OpR X (compareOp .Is) (λx y H Q => y = .non /\ Q (.bl (decide (x = .non))) H) := by
 intro pins s σ H x y v u Q I rx ry h
 obtain ⟨rfl, q⟩ := h
 cases ry
 refine is_none_gen (aq3 I q ?_)
 cases x <;> first
  | (cases rx; rfl)
  | (obtain ⟨t, rfl⟩ := rx; rfl)
theorem OpR.or {f : Value -> Value -> Sem Value} {r r' : R2} (h : OpR X f r) (h' : OpR X f r') : OpR X f (λx y H Q => r x y H Q \/ r' x y H Q) := by
 intro pins s σ H x y v u Q I rx ry q
 rcases q with q | q
 ·exact h pins s σ H x y v u Q I rx ry q
 ·exact h' pins s σ H x y v u Q I rx ry q
theorem abo (b : Expr) {op : CmpOp} (h : op ≠ .In := by decide) (h2 : op ≠ .NotIn := by decide) : behindInMarks op b = false := by
 have e1 : (op == CmpOp.In) = false := by cases op <;> first | rfl | exact absurd rfl h
 have e2 : (op == CmpOp.NotIn) = false := by cases op <;> first | rfl | exact absurd rfl h2
 cases b <;> simp [behindInMarks, e1, e2]
theorem aeH {op : CmpOp} {r : R2} (ho : OpR X (compareOp op) r) (ha : PE X a ta) (hb : PE X b tb) (hm : behindInMarks op b = false) : PE X (.Compare a [op] [b] pos) (tOp r ta tb) := by
 refine ⟨λpins s σ H Q I h => ?_⟩
 exact wpAny_Compare1 (aua ha hb I h λv u s2 x y H2 I2 rx ry q => ho pins s2 σ H2 x y v u Q I2 rx ry q) hm
noncomputable def apj (t : TE) : TT := λσ H Q => t σ H λx H' => ∃ k, x = .bl k /\ Q k H'
theorem aa4 {op : CmpOp} {r : R2} (ho : OpR X (compareOp op) r) (ha : PE X a ta) (hb : PE X b tb) (hm : behindInMarks op b = false) : PT X (.Compare a [op] [b] pos) (apj (tOp r ta tb)) := by
 refine ⟨λpins s σ H Q I h => ?_⟩
 refine wpAny_isTrue_Compare1 (thn (ha pins s σ H _ I h) λv s1 ⟨x, H1, I1, r1, q1⟩ => thn (hb pins s1 σ H1 _ I1 q1) λu s2 ⟨y, H2, I2, r2, q2⟩ =>
  thn (ho pins s2 σ H2 x y v u _ I2 r1 r2 q2) λc s3 ⟨z, H3, I3, r3, k, e, q3⟩ => ?_) hm
 subst e
 cases r3
 exact wpAny_truthy_bool ⟨H3, I3, q3⟩
noncomputable def ajE (r r' : R2) (ta tb tc : TE) : TE := λσ H Q => ta σ H λx H1 => tb σ H1 λy H2 => r x y H2 λz H3 => ∃ k, z = .bl k /\
 (if k = true then tc σ H3 λw' H4 => r' y w' H4 Q else Q (.bl false) H3)
theorem ajF {op op' : CmpOp} {r r' : R2} (ho : OpR X (compareOp op) r) (ho' : OpR X (compareOp op') r') (ha : PE X a ta) (hb : PE X b tb) (hc : PE X c tc)
  (hm : lastMarks [op, op'] [b, c] = false := by with_unfolding_all rfl) : PE X (.Compare a [op, op'] [b, c] pos) (ajE r r' ta tb tc) := by
 refine ⟨λpins s σ H Q I h => ?_⟩
 refine Compare_chain (thn (ha pins s σ H _ I h) λv s1 ⟨x, H1, I1, r1, q1⟩ => chain_link (thn (hb pins s1 σ H1 _ I1 q1) λu s2 ⟨y, H2, I2, r2, q2⟩ =>
  thn (ho pins s2 σ H2 x y v u _ I2 r1 r2 q2) λd s3 ⟨z, H3, I3, r3, k, e, q3⟩ => ?_)) hm
 subst e
 cases r3
 refine wpAny_truthy_bool ?_
 cases k with
 | false => exact ite_ff ⟨.bl false, H3, I3, rfl, q3⟩
 | true => exact ite_tt (chain_last (thn (hc pins s3 σ H3 _ I3 q3) λw' s4 ⟨z', H4, I4, r4, q4⟩ => ho' pins s4 σ H4 y z' u w' Q I4 r2 r4 q4))
theorem am4 {op op' : CmpOp} {r r' : R2} (ho : OpR X (compareOp op) r) (ho' : OpR X (compareOp op') r') (ha : PE X a ta) (hb : PE X b tb) (hc : PE X c tc)
  (hm : lastMarks [op, op'] [b, c] = false := by with_unfolding_all rfl) : PT X (.Compare a [op, op'] [b, c] pos) (apj (ajE r r' ta tb tc)) := by
 refine ⟨λpins s σ H Q I h => ?_⟩
 refine isTrue_chain (thn (ha pins s σ H _ I h) λv s1 ⟨x, H1, I1, r1, q1⟩ => test_link (thn (hb pins s1 σ H1 _ I1 q1) λu s2 ⟨y, H2, I2, r2, q2⟩ =>
  thn (ho pins s2 σ H2 x y v u _ I2 r1 r2 q2) λd s3 ⟨z, H3, I3, r3, k, e, q3⟩ => ?_)) hm
 subst e
 cases r3
 refine wpAny_truthy_bool ?_
 cases k with
 | false =>
  obtain ⟨k', e', q'⟩ := q3
  cases e'
  exact ite_ff ⟨H3, I3, q'⟩
 | true =>
  refine ite_tt (test_last (thn (hc pins s3 σ H3 _ I3 q3) λw' s4 ⟨z', H4, I4, r4, q4⟩ => thn (ho' pins s4 σ H4 y z' u w' _ I4 r2 r4 q4) λd' s5 ⟨z2, H5, I5, r5, k2, e2, q5⟩ => ?_))
  subst e2
  cases r5
  exact wpAny_truthy_bool ⟨H5, I5, q5⟩
noncomputable def aq5 (K : PySem.W.Frag) (x : V) (H : Hp) (k : Bool) : Prop :=
 match x with
 | .non => k = false
 | .bl b => k = b
 | .int i => k = (i != 0)
 | .str y => y.length <= sizeLine /\ k = ((y.length : Int) != 0)
 | .byt y => y.size <= sizeLine /\ k = ((y.size : Int) != 0)
 | .ref p => (∃ xs, SqL K H p xs /\ k = !xs.isEmpty) \/ (∃ xs, SqT K H p xs /\ k = !xs.isEmpty) \/ ∃ kvs, H p = some (.dK kvs) /\ k = !kvs.isEmpty
 | _ => False
theorem akr {κ : Type} {kvs : List (κ × V)} {vs : List (κ × Value)} (r : KV kvs vs) : (!vs.isEmpty) = !kvs.isEmpty := by
 cases r <;> rfl
theorem agS {xs : List V} {its : List Value} (r : Vals xs its) : (!its.toArray.isEmpty) = !xs.isEmpty := by
 cases r <;> simp
theorem afQ : (sizeLine : Nat) < 2 ^ 63 := by rw [sizeLine_eq]; decide
theorem aq6 : awF X (λx H Q => ∃ k, aq5 X.K x H k /\ Q k H) := by
 intro pins s σ H x v Q I rx h
 obtain ⟨k, e, q⟩ := h
 have hl := afQ
 have hs : sizeLine = 16777216 := sizeLine_eq
 cases x with
 | non =>
  cases rx
  have e' : k = false := e
  subst e'
  exact truthy_none ⟨H, I, q⟩
 | bl b =>
  cases rx
  have e' : k = b := e
  subst e'
  exact wpAny_truthy_bool ⟨H, I, q⟩
 | int i =>
  obtain ⟨t, rfl⟩ := rx
  have e' : k = (i != 0) := e
  subst e'
  exact PySem.P.truthy_int ⟨H, I, q⟩
 | str y =>
  obtain ⟨t, rfl⟩ := rx
  obtain ⟨hy, e'⟩ : y.length <= sizeLine /\ k = ((y.length : Int) != 0) := e
  subst e'
  exact PySem.P.truthy_str (by omega) ⟨H, I.tok _, q⟩
 | byt y =>
  obtain ⟨t, rfl⟩ := rx
  obtain ⟨hy, e'⟩ : y.size <= sizeLine /\ k = ((y.size : Int) != 0) := e
  subst e'
  exact PySem.W.truthy_bytes (by omega) ⟨H, I.tok _, q⟩
 | ref p =>
  cases rx
  have e' : (∃ xs, SqL X.K H p xs /\ k = !xs.isEmpty) \/ (∃ xs, SqT X.K H p xs /\ k = !xs.isEmpty) \/ ∃ kvs, H p = some (.dK kvs) /\ k = !kvs.isEmpty := e
  rcases e' with ⟨xs, hx, e'⟩ | ⟨xs, hx, e'⟩ | ⟨kvs, hx, e'⟩
  ·subst e'
   obtain ⟨its, r, pl, hz⟩ := I.list hx
   have hlen := r.length
   exact wpAny_truthy_list pl.isList (by simp only [List.size_toArray]; omega) ⟨H, I.tok _, by rw [agS r]; exact q⟩
  ·subst e'
   obtain ⟨its, r, pl, hz⟩ := I.tuple hx
   have hlen := r.length
   exact truthy_tuple pl (by simp only [List.size_toArray]; omega) ⟨H, I.tok _, by rw [agS r]; exact q⟩
  ·subst e'
   obtain ⟨hz, hS, vs, r, m⟩ : kvs.length <= sizeLine /\ (p == sysModules) = false /\ ∃ vs, KV kvs vs /\ s.heap.DictOf (aiM X.prog X.w) p vs := I.hok p _ hx
   have hlen : kvs.length = vs.length := Paired.length r
   exact wpAny_truthy_dict hS m (by omega) ⟨H, I.tok _, by rw [akr r]; exact q⟩
 | _ => exact (show False from e).elim
theorem ab5 (ha : PE X a ta) (he : ∀ whole, isTrue a X.env whole = (do let v <-whole; standAt a.pos; holding [v] (truthy v))) :
  PT X a (λσ H Q => ta σ H λx H' => ∃ k, aq5 X.K x H' k /\ Q k H') := by
 refine ⟨λpins s σ H Q I h => ?_⟩
 exact isTrue_plain (thn (ha pins s σ H _ I h) λv s1 ⟨x, H1, I1, r1, q1⟩ => aq6 pins s1 σ H1 x v Q I1 r1 q1) (he _)
theorem aks : OpR X (binaryOp .Add) (λx y H Q => ∃ i j, x = .str i /\ y = .str j /\ i.length + j.length <= sizeLine /\ Q (.str (i ++ j)) H) := by
 intro pins s σ H x y v u Q I rx ry h
 obtain ⟨i, j, rfl, rfl, hz, q⟩ := h
 obtain ⟨t, rfl⟩ := rx
 obtain ⟨t', rfl⟩ := ry
 exact add_str (λt' tk => ⟨.str (i ++ j), H, I.tok _, ⟨_, rfl⟩, q⟩) hz
theorem vals1 {x : V} {us : List Value} (r : Vals [x] us) : ∃ u, us = [u] /\ RelV x u := by
 cases r with
 | cons r1 r2 => cases r2; exact ⟨_, rfl, r1⟩
theorem vals2 {x y : V} {us : List Value} (r : Vals [x, y] us) : ∃ u w', us = [u, w'] /\ RelV x u /\ RelV y w' := by
 cases r with
 | cons r1 r2 =>
  cases r2 with
  | cons r3 r4 => cases r4; exact ⟨_, _, rfl, r1, r3⟩
theorem ajG : acH X (.builtin "abs") (λxs H Q => ∃ i, xs = [.int i] /\ Q (.int (if i < 0 then -i else i)) H) := by
 intro pins s σ H xs us Q I r h
 obtain ⟨i, rfl, q⟩ := h
 obtain ⟨u, rfl, t, rfl⟩ := vals1 r
 exact call_abs_int λu tk => ⟨.int (if i < 0 then -i else i), H, I.tok _, ⟨_, rfl⟩, q⟩
theorem alC (hc : X.calm = true) : acH X (.builtin "max") (λxs H Q => ∃ i j, xs = [.int i, .int j] /\ Q (.int (if j > i then j else i)) H) := by
 intro pins s σ H xs us Q I r h
 obtain ⟨i, j, rfl, q⟩ := h
 obtain ⟨u, w', rfl, ⟨t, rfl⟩, ⟨t', rfl⟩⟩ := vals2 r
 refine max_two_ints (I.ok.hd hc) λh' tk k => ⟨_, H, I.kept k, ?_, q⟩
 by_cases hj : j > i
 ·rw [if_pos hj, if_pos hj]; exact ⟨_, rfl⟩
 ·rw [if_neg hj, if_neg hj]; exact ⟨_, rfl⟩
theorem alD (hc : X.calm = true) : acH X (.builtin "min") (λxs H Q => ∃ i j, xs = [.int i, .int j] /\ Q (.int (if j < i then j else i)) H) := by
 intro pins s σ H xs us Q I r h
 obtain ⟨i, j, rfl, q⟩ := h
 obtain ⟨u, w', rfl, ⟨t, rfl⟩, ⟨t', rfl⟩⟩ := vals2 r
 refine min_two_ints (I.ok.hd hc) λh' tk k => ⟨_, H, I.kept k, ?_, q⟩
 by_cases hj : j < i
 ·rw [if_pos hj, if_pos hj]; exact ⟨_, rfl⟩
 ·rw [if_neg hj, if_neg hj]; exact ⟨_, rfl⟩
end
end L2
namespace L2
open PySem PySem.Spec PyProof.Rows
section
variable {prog : Program} {w : World} {A : Around} {E : Value -> Shared -> Prop} {s : Shared} {K : PySem.W.Frag} {x dx C f : Addr} {mA : Str -> Option Value} {name : Str} {v : Value}
end
section
variable {P : Program} {w : World} {H H' : Hp} {h h' : Heap} {a C dx : Addr} {fs fs' : List (Str × V)}
end
section
variable {X : Cx} {pins : List (Addr × Obj)} {σ : St} {H : Hp} {s : Shared} {a C dx : Addr} {fs : List (Str × V)} {f : Str} {v : V} {A : Around} {E : Value -> Shared -> Prop}
end
section
variable {X : Cx} {o e value : Expr} {f : Str} {pos pos' tpos : Pos} {ta tv : TE}
end
section
variable {X : Cx} {pins : List (Addr × Obj)} {σ : St} {H : Hp} {s : Shared} {A : Around} {E : Value -> Shared -> Prop} {Q : Value -> Shared -> Prop} {c : Value} {b : Bool}
end
end L2
namespace L2
open PySem PySem.Spec PyProof.Rows
structure aeI (k : Nat) (A : Around) : Prop where
 hd : A.handled = none
 dp : A.depth + 3 * k + 5 < recursionLimit
 un : A.units + 16 * k + 200 < cLine
 gd : A.guards = some [] := by rfl
theorem aeI.mono {j k : Nat} {A : Around} (r : aeI k A) (h : j <= k) : aeI j A := ⟨r.hd, by have := r.dp; omega, by have := r.un; omega, r.gd⟩
theorem aeI.deeper {k : Nat} {A : Around} (r : aeI (k + 1) A) (env : Env) : aeI k (A.deeper env) :=
 ⟨r.hd, by have := r.dp; show A.depth + 1 + 3 * k + 5 < _; omega, by have := r.un; show A.units + 3 + 16 * k + 200 < _; omega, r.gd⟩
theorem aeI.depth {k : Nat} {A : Around} (r : aeI k A) : A.depth < recursionLimit := by have := r.dp; omega
theorem aeI.units {k : Nat} {A : Around} (r : aeI k A) : A.units + 64 < cLine := by have := r.un; omega
noncomputable def alE : TA := λ_ H Q => Q [] H
noncomputable def ac4 (ta : TE) (tr : TA) : TA := λσ H Q => ta σ H λx H1 => tr σ H1 λxs H2 => Q (x :: xs) H2
section
variable {X : Cx} {e : Expr} {es : List Expr} {te : TE} {t : TA} {pos : Pos}
theorem aal : PA X [] alE := ⟨λ_ _ _ _ H Q I h => Calls.spliced_nil ⟨[], H, I, .nil, h⟩⟩
theorem acA (ha : PE X e te) (hr : PA X es t) (hs : starEach (e :: es) X.env = (false, eval e X.env) :: starEach es X.env := by rfl) : PA X (e :: es) (ac4 te t) := by
 refine ⟨λpos pins s σ H Q I h => ?_⟩
 rw [hs]
 show wpAny _ _ (spliced ((false, eval e X.env) :: backTo pos (starEach es X.env))) _ _ s
 refine Calls.spliced_cons (thn (ha pins s σ H _ I h) λu s1 ⟨x, H1, I1, r1, q1⟩ => ?_)
 exact thn (hr pos pins s1 σ H1 _ I1 q1) λus s2 ⟨xs, H2, I2, r2, q2⟩ => ⟨x :: xs, H2, I2, .cons r1 r2, q2⟩
noncomputable def avU (t : TA) : TE := λσ H Q => t σ H λxs H1 => xs.length <= sizeLine /\ ∀ p, H1 p = none -> Q (.ref p) (upd H1 p (.tup xs))
noncomputable def avV (t : TA) : TE := λσ H Q => t σ H λxs H1 => xs.length <= sizeLine /\ ∀ p, H1 p = none -> Q (.ref p) (upd H1 p (.lst xs))
theorem adi {x1} (h : PA X es t) : PE X (.Tuple es x1 pos) (avU t) := by
 refine ⟨λpins s σ H Q I hq => ?_⟩
 refine wpAny_Tuple_spliced (thn (h pos pins s σ H _ I hq) λus s1 ⟨xs, H1, I1, r, z, q⟩ => ⟨by rw [<-r.length]; exact z, ?_⟩)
 have hf : H1 s1.heap.objs.size = none := I1.hok.fresh (Nat.le_refl _)
 refine ⟨.ref s1.heap.objs.size, upd H1 s1.heap.objs.size (.tup xs), I1.laid (t' := s1.toks) (λb u e => Heap.get?_push_of_some _ e) (Nat.le_refl _) ?_, rfl, q _ hf⟩
 exact ⟨z, us, r, ⟨_, Heap.get?_push_size _ rfl, rfl, _, rfl⟩⟩
theorem acB (h : PA X es t) : PE X (.List es pos) (avV t) := by
 refine ⟨λpins s σ H Q I hq => ?_⟩
 refine wpAny_List_spliced (thn (h pos pins s σ H _ I hq) λus s1 ⟨xs, H1, I1, r, z, q⟩ => ⟨by rw [<-r.length]; exact z, ?_⟩)
 have hf : H1 s1.heap.objs.size = none := I1.hok.fresh (Nat.le_refl _)
 refine ⟨.ref s1.heap.objs.size, upd H1 s1.heap.objs.size (.lst xs), I1.laid (t' := s1.toks) (λb u e => Heap.get?_push_of_some _ e) (Nat.le_refl _) ?_, rfl, q _ hf⟩
 exact ⟨z, us, 0, r, Heap.get?_push_size _ rfl⟩
end
noncomputable abbrev Sp := List V -> Hp -> VK -> XK -> Prop
noncomputable abbrev CXT := List Env -> Hp -> Shared -> XK -> Value -> Shared -> Prop
structure atG (P : Program) (w : World) (K : PySem.W.Frag) (mg : Str -> Option Value) (base : Heap) (A : Around) (outer : List Env) (s : Shared) (H : Hp) : Prop where
 frames : A.frames = some outer
 mod : Mod K mg base
 bs : ∀ b o, base.get? b = some o -> s.heap.get? b = some o /\ H b = none
 bsz : base.objs.size <= s.heap.objs.size
 akn : s.heap.FunFrames base outer
 frf : ∀ b ∈ frs outer, H b = none
 hok : HOk P w H s.heap
 bare : AllBare s.gens
noncomputable def CE (outer : List Env) (P : Program) (w : World) (H : Hp) (s : Shared) (Q : VK) (u : Value) (s' : Shared) : Prop :=
 ∃ v H', s'.os = s.os /\ AllBare s'.gens /\ Un (frs outer) [] H H' s.heap s'.heap /\ HOk P w H' s'.heap /\ RelV v u /\ Q v H'
noncomputable def CR (CX : CXT) (outer : List Env) (P : Program) (w : World) (H : Hp) (s : Shared) (Q : VK) (E : XK) (r : Result) (s' : Shared) : Prop :=
 match r with
 | .ok (.ret u) => CE outer P w H s Q u s'
 | .ok _ => False
 | .error e => CX outer H s E e s'
structure ajH (P : Program) (w : World) (K : PySem.W.Frag) (mg : Str -> Option Value) (base : Heap) (CX : CXT) (k : Nat) (f : Addr) (fd : FuncData) (ps : List Str) (sp : Sp) : Prop where
 len : ∀ vs H Q E, sp vs H Q E -> vs.length = ps.length
 run : ∀ (A : Around) (outer : List Env) (s : Shared) (H : Hp) (args : Args) (us : List Value) (vs : List V) (Q : VK) (E : XK), aeI k A -> atG P w K mg base A outer s H -> BindsTo s fd args (ps.zip us) -> Vals vs us -> sp vs H Q E ->
  codeAny (model P w) A (.call (.ref f) args) (CR CX outer P w H s Q E) s
theorem ajH.mono {P : Program} {w : World} {K : PySem.W.Frag} {mg : Str -> Option Value} {base : Heap} {CX : CXT} {j k : Nat} {f : Addr} {fd : FuncData} {ps : List Str} {sp : Sp} (F : ajH P w K mg base CX j f fd ps sp) (h : j <= k) :
  ajH P w K mg base CX k f fd ps sp := ⟨F.len, λA outer s H args us vs Q E hr => F.run A outer s H args us vs Q E (hr.mono h)⟩
theorem ajH.imp {P : Program} {w : World} {K : PySem.W.Frag} {mg : Str -> Option Value} {base : Heap} {CX : CXT} {k : Nat} {f : Addr} {fd : FuncData} {ps : List Str} {sp sp' : Sp} (F : ajH P w K mg base CX k f fd ps sp)
  (h : ∀ vs H Q E, sp' vs H Q E -> sp vs H Q E) : ajH P w K mg base CX k f fd ps sp' :=
 ⟨λvs H Q E q => F.len vs H Q E (h _ _ _ _ q), λA outer s H args us vs Q E hr he hb hv hs => F.run A outer s H args us vs Q E hr he hb hv (h _ _ _ _ hs)⟩
section
variable {X : Cx} {pins : List (Addr × Obj)} {σ : St} {H : Hp} {s s' : Shared}
theorem Inv.env0 (I : Inv X pins σ H s) : atG X.prog X.w X.K X.mg X.base X.A X.stack s H :=
 ⟨I.ok.frames, I.ok.mod, I.bs, Nat.le_trans I.ok.bsz I.sz, I.stack, I.aeG, I.hok, I.bare⟩
theorem Inv.after {Q : VK} {u : Value} (I : Inv X pins σ H s) (h : CE X.stack X.prog X.w H s Q u s') : EP X pins σ Q u s' := by
 obtain ⟨v, H', os, bare, un, hok, r, q⟩ := h
 obtain ⟨hh, g, d, t, os'⟩ := s'
 obtain rfl : os' = s.os := os
 exact ⟨v, H', I.call (h' := hh) (g' := g) (d' := d) (t' := t) (ch := []) un hok bare (λb z => absurd z (by simp)), r, q⟩
end
noncomputable def ah1 (sp : Sp) (dvs : List V) (E : XK) (t : TA) : TE := λσ H Q => t σ H λvs H1 => sp (vs ++ dvs) H1 Q E
noncomputable def Binds (K : PySem.W.Frag) (fd : FuncData) (ps : List Str) (ds : List Value) : Prop :=
 ∀ (s : Shared) (us : List Value), K.In s.heap -> (us ++ ds).length = ps.length -> BindsTo s fd ⟨us, []⟩ (ps.zip (us ++ ds))
theorem Binds.all {K : PySem.W.Frag} {fd : FuncData} {ps : List Str} (h : ∀ us : List Value, us.length = ps.length -> bindArgs fd ⟨us, []⟩ = pure (ps.zip us)) : Binds K fd ps [] := λs us _ hl => by
 rw [List.append_nil] at hl ⊢
 exact .of_eq (h us hl)
noncomputable def Passes (CX : CXT) (X : Cx) (E : XK) : Prop := ∀ (pins : List (Addr × Obj)) (σ : St) (H : Hp) (s : Shared) (e : Value) (s' : Shared), Inv X pins σ H s -> CX X.stack H s E e s' -> X.xe e s'
section
variable {X : Cx} {CX : CXT} {k : Nat} {f C : Addr} {fd : FuncData} {ps : List Str} {sp : Sp} {dvs : List V} {ds : List Value} {E : XK} {x m : Str} {p pos apos : Pos} {e o : Expr} {es : List Expr} {ta : TE} {t : TA}
theorem aq7 {pins : List (Addr × Obj)} {σ : St} {H : Hp} {s : Shared} {Q : VK} {us : List Value} {vs : List V} (F : ajH X.prog X.w X.K X.mg X.base CX k f fd ps sp) (hr : aeI k X.A) (hb : Binds X.K fd ps ds) (hd : Vals dvs ds) (hx : Passes CX X E)
  (I : Inv X pins σ H s) (r : Vals vs us) (h : sp (vs ++ dvs) H Q E) : wpAny (model X.prog X.w) X.A (call (.ref f) us) (EP X pins σ Q) X.xe s := by
 have r2 : Vals (vs ++ dvs) (us ++ ds) := r.append hd
 have hl : (us ++ ds).length = ps.length := by rw [<-r2.length]; exact F.len _ _ _ _ h
 refine wpAny_call (codeAny_mono (F.run X.A X.stack s H ⟨us, []⟩ (us ++ ds) (vs ++ dvs) Q E hr I.env0 (hb s us I.kIn hl) r2 h) λr s' hq => ?_)
 cases r with
 | error e => exact hx pins σ H s e s' I hq
 | ok fl =>
  cases fl with
  | ret u => exact I.after hq
  | next => exact False.elim hq
  | brk => exact False.elim hq
  | cont => exact False.elim hq
theorem apk (F : ajH X.prog X.w X.K X.mg X.base CX k f fd ps sp) (hr : aeI k X.A) (hg : Gl X x) (hm : X.mg x = some (.ref f)) (hk : PySem.W.keepIn X.K (.ref f) = true) (hb : Binds X.K fd ps ds) (hd : Vals dvs ds) (hx : Passes CX X E)
  (ha : PA X (e :: es) t) (hdb : (x == ("__debug__" : Str)) = false := by decide) (he : starEach (e :: es) X.env = (false, eval e X.env) :: starEach es X.env := by rfl) (hpl : (backTo pos (starEach es X.env)).any (·.1) = false := by rfl) :
  PE X (.Call (.Name x p) (e :: es) [] pos) (ah1 sp dvs E t) := by
 refine ⟨λpins s σ H Q I h => ?_⟩
 refine wpAny_Call_Name_kw (afO I hg hm ?_ hdb)
 refine PySem.W.callWith_K (h₀ := X.base) I.ok.mod.kin hk (thn (ha pos pins s σ H _ I h) λus s1 ⟨vs, H1, I1, r, q⟩ => ⟨I1.kIn, ?_⟩) he hpl
 exact aq7 F hr hb hd hx I1 r q
end
section
variable {X : Cx} {CX : CXT} {k : Nat} {f C : Addr} {fd : FuncData} {ps ks : List Str} {sp : Sp} {E : XK} {x m : Str} {p pos apos kpos : Pos} {e o : Expr} {es : List Expr} {kws : List Keyword} {te ta : TE} {t tk : TA} {nm : Option Str}
variable {g : List Value -> List Value -> List Value} {gV : List V -> List V -> List V}
end
structure aaE (N P : List Str) (sc : Scope) : Prop where
 kind : sc.kind = .function
 co : sc.isCoroutine = false
 gen : sc.isGenerator = false
 nd : N.Nodup
 pre : N.take P.length = P
 par : ∀ x ∈ P, sc.names.lookup x = some .local \/ sc.names.lookup x = some .cell
 aq8 : ∀ y ∈ sc.names, y.2 ≠ .free
theorem ah2 {kindOf : Str -> Option NameKind} {x : Str} : ∀ {binds : List (Str × Value)} {m : Str -> Option Value}, (∀ v, (x, v) ∉ binds) -> bindL kindOf binds m x = m x
 | [], _, _ => rfl
 | (n, v) :: r, m, h => by
  unfold bindL
  rw [ah2 λw hw => h w (List.mem_cons_of_mem _ hw)]
  split
  ·have : x ≠ n := by rintro rfl; exact h v List.mem_cons_self
   simp [this]
  ·rfl
theorem ah3 {kindOf : Str -> Option NameKind} {x : Str} : ∀ {binds : List (Str × Value)} {m : Str -> Option Value}, (∀ v, (x, v) ∉ binds) -> bindC kindOf binds m x = m x
 | [], _, _ => rfl
 | (n, v) :: r, m, h => by
  unfold bindC
  rw [ah3 λw hw => h w (List.mem_cons_of_mem _ hw)]
  split
  ·rfl
  ·have : x ≠ n := by rintro rfl; exact h v List.mem_cons_self
   simp [this]
theorem ah4 {kindOf : Str -> Option NameKind} {x : Str} {v : Value} : ∀ {P : List Str} {vs : List Value} {i : Nat} {m : Str -> Option Value}, P.Nodup -> P[i]? = some x -> vs[i]? = some v -> kindOf x = some .local ->
  bindL kindOf (P.zip vs) m x = some v
 | [], _, _, _, _, h, _, _ => by simp at h
 | _ :: _, [], _, _, _, _, h, _ => by simp at h
 | p :: P, w :: vs, 0, m, nd, h1, h2, hk => by
  simp at h1 h2; subst h1; subst h2
  show bindL kindOf ((p, w) :: P.zip vs) m p = _
  unfold bindL
  rw [ah2 λv hv => (List.nodup_cons.mp nd).1 (List.of_mem_zip hv).1, if_pos hk]
  simp
 | p :: P, w :: vs, i + 1, m, nd, h1, h2, hk => by
  show bindL kindOf ((p, w) :: P.zip vs) m x = _
  unfold bindL
  exact ah4 (i := i) (List.nodup_cons.mp nd).2 (by simpa using h1) (by simpa using h2) hk
theorem ah5 {kindOf : Str -> Option NameKind} {x : Str} {v : Value} : ∀ {P : List Str} {vs : List Value} {i : Nat} {m : Str -> Option Value}, P.Nodup -> P[i]? = some x -> vs[i]? = some v -> kindOf x ≠ some .local ->
  bindC kindOf (P.zip vs) m x = some v
 | [], _, _, _, _, h, _, _ => by simp at h
 | _ :: _, [], _, _, _, _, h, _ => by simp at h
 | p :: P, w :: vs, 0, m, nd, h1, h2, hk => by
  simp at h1 h2; subst h1; subst h2
  show bindC kindOf ((p, w) :: P.zip vs) m p = _
  unfold bindC
  rw [ah3 λv hv => (List.nodup_cons.mp nd).1 (List.of_mem_zip hv).1, if_neg hk]
  simp
 | p :: P, w :: vs, i + 1, m, nd, h1, h2, hk => by
  show bindC kindOf ((p, w) :: P.zip vs) m x = _
  unfold bindC
  exact ah5 (i := i) (List.nodup_cons.mp nd).2 (by simpa using h1) (by simpa using h2) hk
noncomputable def start (N : List Str) (vs : List V) : St := vs.map some ++ List.replicate (N.length - vs.length) none
noncomputable def ajI (CX : CXT) (P : Program) (w : World) (K : PySem.W.Frag) (mg : Str -> Option Value) (base : Heap) (N : List Str) (qual : Str) (scope : Scope) (f : Addr) (cd : Value) (A : Around) (outer : List Env) (s : Shared) (H : Hp) (E : XK) : Cx where
 prog := P
 w := w
 K := K
 mg := mg
 base := base
 A := A.deeper (envOfC qual scope s.heap.objs.size f cd)
 N := N
 s₀ := s
 H₀ := H
 env := envOfC qual scope s.heap.objs.size f cd
 outer := outer
 stack := envOfC qual scope s.heap.objs.size f cd :: outer
 ex := []
 calm := true
 fn := λ_ => true
 pn := []
 xe := λe s' => wpAny (model P w) (A.deeper (envOfC qual scope s.heap.objs.size f cd)) (leaving (envOfC qual scope s.heap.objs.size f cd) e) (λ_ s'' => CX outer H s E e s'') (λe' s'' => CX outer H s E e' s'') s'
theorem ajJ {sc : Scope} {n : Nat} {x : Str} (h : sc.names.lookup x = some .cell) : ∃ c, (cellsFrom n sc.names []).lookup x = some c := by
 have q := PySem.W.cellsFrom_some sc.names n [] (.inl h)
 exact Option.isSome_iff_exists.mp q
theorem alF {CX : CXT} {P : Program} {w : World} {K : PySem.W.Frag} {mg : Str -> Option Value} {base : Heap} {N ps : List Str} {qual : Str} {scope : Scope} {f : Addr} {cd : Value} {A : Around} {outer : List Env} {s s1 : Shared} {H : Hp} {E : XK} {us : List Value} {vs : List V}
  (S : aaE N ps scope) (hd : A.handled = none) (e0 : atG P w K mg base A outer s H) (hl : vs.length = ps.length) (r : Vals vs us)
  (x : InCallC s s.heap.objs.size (bindL (envOfC qual scope s.heap.objs.size f cd).kindOf (ps.zip us) λ_ => none) (cellsFrom (s.heap.objs.size + 1) scope.names []) (bindC (envOfC qual scope s.heap.objs.size f cd).kindOf (ps.zip us) λ_ => none) s1) :
  Inv (ajI CX P w K mg base N qual scope f cd A outer s H E) [] (start N vs) H s1 := by
 have hpl : ps.length <= N.length := by have := congrArg List.length S.pre; rw [List.length_take] at this; omega
 obtain ⟨h1, tk, rfl, hk⟩ := x.done
 have noA : ∀ b : Addr, b ∉ (ajI CX P w K mg base N qual scope f cd A outer s H E).ex := λb z => absurd (show b ∈ ([] : List Addr) from z) (by simp)
 refine ⟨⟨e0.mod, S.kind, rfl, rfl, Nat.le_refl _, λy z c h1 h2 => ?_, λy hy => ?_, λy c _ h => ?_, λ_ => hd, Around.frames_deeper e0.frames, .inr ⟨rfl, rfl⟩, λb z => absurd z (noA b), e0.bs, e0.bsz, λb _ _ => noA b, λb z => absurd z (noA b), e0.akn, e0.frf⟩,
  rfl, e0.bare, Un.kept hk, ⟨_, x.toInCall.ns, λi y v h1 h2 h3 => ?_⟩, λy c h => ⟨_, x.cell y c h⟩, e0.hok.fresh (Nat.le_refl _), λy c h => ?_, λp hp => absurd (show p ∈ ([] : List (Addr × Obj)) from hp) (by simp), e0.hok.kept hk, ?_⟩
 ·exact name_of_addr x.apart (PySem.mem_of_lookup h1) (PySem.mem_of_lookup h2)
 ·have hy : scope.names.lookup y = some .cell \/ scope.names.lookup y = some .free := hy
  rcases hy with hy | hy
  ·exact ajJ hy
  ·exact absurd rfl (S.aq8 _ (PySem.mem_of_lookup hy))
 ·exact Nat.le_of_lt (x.above y c (PySem.mem_of_lookup h))
 ·have hi : i < vs.length := by
   unfold start at h2
   by_cases hi : i < vs.length
   ·exact hi
   ·rw [List.getElem?_append_right (by simpa using hi)] at h2
    rw [List.getElem?_replicate] at h2
    split at h2 <;> cases h2
  have ha : vs[i]? = some v := by
   unfold start at h2
   rw [List.getElem?_append_left (by simpa using hi), List.getElem?_map] at h2
   cases e : vs[i]? with
   | none => rw [e] at h2; cases h2
   | some a => rw [e] at h2; cases h2; rfl
  obtain ⟨u, hu, rv⟩ := r.get ha
  have hp : ps[i]? = some y := by
   rw [<-S.pre, List.getElem?_take_of_lt (by omega)]; exact h1
  have ndP : ps.Nodup := by rw [<-S.pre]; exact S.nd.sublist (List.take_sublist _ _)
  refine ⟨u, rv, ?_⟩
  rcases S.par y (List.mem_of_getElem? hp) with k | k
  ·exact .inl ⟨k, ah4 ndP hp hu k⟩
  ·obtain ⟨c, e⟩ := ajJ (n := s.heap.objs.size + 1) k
   refine .inr ⟨.inl k, c, e, ?_⟩
   have q := x.cell y c e
   rw [ah5 ndP hp hu (by show scope.names.lookup y ≠ _; rw [k]; decide)] at q
   exact q
 ·exact e0.hok.fresh (Nat.le_of_lt (x.above y c (PySem.mem_of_lookup h)))
 ·unfold start
  show _ = N.length
  rw [List.length_append, List.length_map, List.length_replicate]
  omega
theorem aq9 {CX : CXT} {P : Program} {w : World} {K : PySem.W.Frag} {mg : Str -> Option Value} {base : Heap} {k : Nat} {f : Addr} {name qual : Str} {params : Arguments} {body : List Stmt} {scope : Scope} {dV kV doc pm cdv ct oc : Value} {an od : Option Addr}
  {osl : Array (Option Value)} {N ps : List Str} {sp : Sp} (lk : K.lookup f = some ⟨oc, od, .func (PySem.W.fnOf name qual params body scope dV kV doc pm an cdv ct), osl⟩) (hcd : PySem.W.codeIn K cdv qual = true) (S : aaE N ps scope)
  (len : ∀ vs H Q E, sp vs H Q E -> vs.length = ps.length)
  (hbody : ∀ (A : Around) (outer : List Env) (s : Shared) (H : Hp) (vs : List V) (Q : VK) (E : XK), aeI k (A.deeper (envOfC qual scope s.heap.objs.size f cdv)) -> sp vs H Q E ->
   ∃ t, PSs (ajI CX P w K mg base N qual scope f cdv A outer s H E) body t /\ t { nx := λ_ H' => Q .non H', rt := Q } (start N vs) H) :
  ajH P w K mg base CX (k + 1) f (PySem.W.fnOf name qual params body scope dV kV doc pm an cdv ct) ps sp := by
 refine ⟨len, λA outer s H args us vs Q E hr e0 hb r hsp => ?_⟩
 have hl := len _ _ _ _ hsp
 have KX : K.In s.heap := e0.mod.kin.keeps λb o e => (e0.bs b o e).1
 have lim : s.heap.NoLimit := e0.mod.nolimit.keeps λb o e => (e0.bs b o e).1
 have hkind : ∀ y ∈ ps.zip us, scope.names.lookup y.1 = some .local \/ (scope.names.lookup y.1 = some .cell /\ ((cellsFrom (s.heap.objs.size + 1) scope.names []).lookup y.1).isSome = true) := λ⟨n, v⟩ hy => by
  rcases S.par n (List.of_mem_zip hy).1 with q | q
  ·exact .inl q
  ·exact .inr ⟨q, PySem.W.cellsFrom_some _ _ _ (.inl q)⟩
 refine codeAny_call_function hr.depth (KX _ _ lk) rfl S.co S.gen rfl (PySem.W.codeRec_of KX hcd) (hb _ _ _ _ ?_)
 refine wpAny_newFunctionEnv_cells S.kind hkind λenv he s1 x => ?_
 subst he
 refine ⟨lim.keeps x.toInCall.keep, codeAny_func ?_⟩
 obtain ⟨t, ht, hq⟩ := hbody A outer s H vs Q E (hr.deeper _) hsp
 have I : Inv (ajI CX P w K mg base N qual scope f cdv A outer s H E) [] (start N vs) H s1 := alF S hr.hd e0 hl r x
 refine wpAny_mono (ht [] s1 (start N vs) H _ I hq) (λfl s' hs => ?_) λe s' hs => hs
 have fin : ∀ {σ' : St} {H' : Hp} {v : V} {u : Value}, Inv (ajI CX P w K mg base N qual scope f cdv A outer s H E) [] σ' H' s' -> RelV v u -> Q v H' -> CE outer P w H s Q u s' :=
  λ{σ' H' v u} J rv q => ⟨v, H', J.os, J.bare, J.base, J.hok, rv, q⟩
 cases fl with
 | ret u =>
  obtain ⟨v, σ', H', J, rv, q⟩ := hs
  exact fin J rv q
 | next =>
  obtain ⟨σ', H', J, q⟩ := hs
  exact fin (v := V.non) (u := Value.none) J rfl q
 | brk =>
  obtain ⟨_, _, _, q⟩ := hs
  exact False.elim q
 | cont =>
  obtain ⟨_, _, _, q⟩ := hs
  exact False.elim q
end L2
namespace L2
open PySem PySem.Spec PyProof.Rows
section
variable {X : Cx} {x : Str} {p pos : Pos} {e : Expr} {es : List Expr} {t : TA} {id T : String} {r : List V -> Hp -> VK -> Prop}
noncomputable def tCB (r : List V -> Hp -> VK -> Prop) (t : TA) : TE := λσ H Q => t σ H λvs H1 => r vs H1 Q
theorem afB (hc : acH X (.builtin id) r) (hg : Gl X x) (hm : X.mg x = none) (hv : bootBuiltins x = some (.builtin id)) (ha : PA X (e :: es) t) (hn : x ≠ "__name__" := by decide) (hdb : (x == ("__debug__" : Str)) = false := by decide)
  (he : starEach (e :: es) X.env = (false, eval e X.env) :: starEach es X.env := by rfl) (hpl : (backTo pos (starEach es X.env)).any (·.1) = false := by rfl) : PE X (.Call (.Name x p) (e :: es) [] pos) (tCB r t) := by
 refine ⟨λpins s σ H Q I h => ?_⟩
 refine wpAny_Call_Name_kw (afP I hg hm hv ?_ hn hdb)
 exact PyProof.Rows.callWith_builtin1 (thn (ha pos pins s σ H _ I h) λus s1 ⟨vs, H1, I1, r1, q1⟩ => hc pins s1 σ H1 vs us Q I1 r1 q1) he hpl
theorem alG (hc : acH X (.type T) r) (hg : Gl X x) (hm : X.mg x = none) (hv : bootBuiltins x = some (.type T)) (ha : PA X (e :: es) t) (hn : x ≠ "__name__" := by decide) (hdb : (x == ("__debug__" : Str)) = false := by decide)
  (he : starEach (e :: es) X.env = (false, eval e X.env) :: starEach es X.env := by rfl) (hpl : (backTo pos (starEach es X.env)).any (·.1) = false := by rfl) : PE X (.Call (.Name x p) (e :: es) [] pos) (tCB r t) := by
 refine ⟨λpins s σ H Q I h => ?_⟩
 refine wpAny_Call_Name_kw (afP I hg hm hv ?_ hn hdb)
 exact PyProof.Rows.callWith_type1 (thn (ha pos pins s σ H _ I h) λus s1 ⟨vs, H1, I1, r1, q1⟩ => hc pins s1 σ H1 vs us Q I1 r1 q1) he hpl
end
end L2
namespace HT
open PySem PyProof.Rows
noncomputable def lexLt : List Int -> List Int -> Bool
 | [], [] => false
 | [], _ :: _ => true
 | _ :: _, [] => false
 | x :: xs, y :: ys => if x = y then lexLt xs ys else decide (x < y)
theorem akt (x y : Int) (xs ys : List Int) : lexLt (x :: xs) (y :: ys) = if x = y then lexLt xs ys else decide (x < y) := rfl
theorem ahb : lexLt [] [] = false := rfl
theorem agA (y : Int) (ys : List Int) : lexLt [] (y :: ys) = true := rfl
theorem agB (x : Int) (xs : List Int) : lexLt (x :: xs) [] = false := rfl
theorem am5 (A : Around) (s : Shared) (a : Int) (t : Tok) (c : Int) (u : Tok) : ∃ e, SeqAt.EqAt A s (.int a t) (.int c u) e /\ (e = true ↔ a = c) :=
 ⟨(a == c), SeqAt.EqAt.int_int a t c u, by simp⟩
theorem am6 (A : Around) (s : Shared) (a : Int) (t : Tok) (c : Int) (u : Tok) (prog : Program) (w : World) (E : Value -> Shared -> Prop) (Q : Value -> Shared -> Prop) (h : Q (.bool (decide (a < c))) s) :
  wpAny (model prog w) A (richCompare .Lt (.int a t) (.int c u)) Q E s :=
 (PyProof.Rows.lt_int h : wpAny (model prog w) A (compareOp .Lt (.int a t) (.int c u)) Q E s)
section
open PySem.SeqAt
open PySem.AutoSeq1 (wpAny_loadPart')
open PySem.MeetsSeq PySem.MeetsSeq2 PySem.MeetsSeq3
theorem ahc (l b : Addr) (items items2 : Array Value) (n n2 : Nat) (dd dd2 : Option Addr) (sl sl2 : Array (Option Value)) (ns ms : List Int) (hi : IntsAre items.toList ns) (hj : IntsAre items2.toList ms) :
  Meets (Builtin.«tuple.__lt__» ⟨[.ref l, .ref b], []⟩)
   (λ_ R s => s.heap.get? l = some { cls := .type "tuple", dict := dd, data := .seq items n, slots := sl } ∧ s.heap.get? b = some { cls := .type "tuple", dict := dd2, data := .seq items2 n2, slots := sl2 } ∧
    R (.ok (.ret (.bool (lexLt ns ms)))) s) :=
 .of_wp λprog w A R s h => by
  obtain ⟨hp, g, d, tk, os⟩ := s; obtain ⟨hl, hb, h⟩ := h
  have f2 := AutoSeq1.sub_tuple_tuple
  have z1 : items.size = ns.length := by rw [<-hi.length]; simp
  have z2 : items2.size = ms.length := by rw [<-hj.length]; simp
  wp_walk using wpAny_loadPart' hl, wpAny_loadPart' hb, wpAny_forIn_list _ (λrest b s' => b.1 = none /\ s' = ⟨hp, g, d, tk, os⟩ /\ ∃ (vs ws : List Value) (ns' ms' : List Int), rest = vs.zip ws /\
   IntsAre vs ns' /\ IntsAre ws ms' /\ ns'.length + items2.size = ms'.length + items.size /\ R (.ok (.ret (.bool (lexLt ns' ms')))) ⟨hp, g, d, tk, os⟩) _
  case turn =>
   rintro ⟨y, x⟩ rest b s' ⟨hb', rfl, vs, ws, ns', ms', hz, hvi, hwi, hlen, hR⟩
   cases hvi with
   | nil => rw [List.zip_nil_left] at hz; cases hz
   | cons a t awG =>
    cases hwi with
    | nil => rw [List.zip_nil_right] at hz; cases hz
    | cons c u awH =>
     rw [List.zip_cons_cons] at hz
     injection hz with hyx hrest
     injection hyx with hy hx
     subst hy hx
     rw [akt] at hR
     simp only [List.length_cons] at hlen
     obtain ⟨e, he, hiff⟩ := am5 A.in1 ⟨hp, g, d, tk, os⟩ a t c u
     refine wpAny_bind (he prog w _ _ ?_)
     cases e with
     | true =>
      rw [if_pos (hiff.mp rfl)] at hR
      wp_walk
      exact ⟨rfl, rfl, _, _, _, _, hrest, awG, awH, by omega, hR⟩
     | false =>
      rw [if_neg (λq => absurd (hiff.mpr q) Bool.false_ne_true)] at hR
      have hri := am6 A.in1 ⟨hp, g, d, tk, os⟩ a t c u prog w
      wp_walk using hri
      exact ⟨_, rfl, by simpa using hR⟩
  case fin =>
   rintro ⟨b1, b2⟩ s' ⟨hb', rfl, vs, ws, ns', ms', hz, hvi, hwi, hlen, hR⟩
   simp only at hb'
   subst hb'
   have hv : lexLt ns' ms' = decide (items.size < items2.size) := by
    cases hvi with
    | nil =>
     cases hwi with
     | nil =>
      simp only [List.length_nil] at hlen
      rw [ahb]
      exact (decide_eq_false (by omega)).symm
     | cons c u hw =>
      simp only [List.length_nil, List.length_cons] at hlen
      rw [agA]
      exact (decide_eq_true (by omega)).symm
    | cons a t hv =>
     cases hwi with
     | nil =>
      simp only [List.length_nil, List.length_cons] at hlen
      rw [agB]
      exact (decide_eq_false (by omega)).symm
     | cons c u hw =>
      rw [List.zip_cons_cons] at hz
      cases hz
   rw [hv] at hR
   wp_walk
   exact ⟨_, rfl, by simpa [Builtin.Tuple.tupleCompareSizes] using hR⟩
  case h =>
   exact ⟨rfl, rfl, items.toList, items2.toList, ns, ms, rfl, hi, hj, by omega, h⟩
end
section
variable {prog : Program} {w : World} {A : Around} {E : Value -> Shared -> Prop} {s : Shared}
theorem aku {l b : Addr} {items items2 : Array Value} {ns ms : List Int} {Q : Value -> Shared -> Prop} (hl : IsTup s.heap l items) (hb : IsTup s.heap b items2) (hi : IntsAre items.toList ns) (hj : IntsAre items2.toList ms)
  (hu : A.units < cLine) (h : Q (.bool (lexLt ns ms)) s) : wpAny (model prog w) A (compareOp .Lt (.ref l) (.ref b)) Q E s := by
 obtain ⟨⟨cls, dd, data, sl⟩, ho, hc, n, hd⟩ := id hl
 obtain ⟨⟨cls2, dd2, data2, sl2⟩, ho2, hc2, n2, hd2⟩ := id hb
 simp only at hc hd hc2 hd2
 subst hc hd hc2 hd2
 exact richCompare_meets_room (op := .Lt) ⟨_, ho, rfl⟩ ⟨_, ho2, rfl⟩ PySem.F.slot_tuple_lt PySem.F.entry_tuple_lt (PySem.F.args_tuple_lt_2 _ _) (ahc l b items items2 n n2 dd dd2 sl sl2 ns ms hi hj)
  ⟨ho, ho2, show Value.bool (lexLt ns ms) ≠ Value.notImplemented /\ Q (.bool (lexLt ns ms)) s from ⟨(λx => nomatch x), h⟩⟩ hu
theorem apl {t b : Addr} {vs ws : List Value} {Q : Value -> Shared -> Prop} (ht : IsTup s.heap t vs.toArray) (hb : IsTup s.heap b ws.toArray) (hv : vs ≠ [])
  (h1 : ws = [] -> Q (.ref t) s) (h2 : ws ≠ [] -> Q (.ref s.heap.objs.size) { s with heap := s.heap.push { cls := .type "tuple", data := .seq (vs ++ ws).toArray } })
  (hsz : vs.length + ws.length <= sizeLine) : wpAny (model prog w) A (binaryOp .Add (.ref t) (.ref b)) Q E s := by
 obtain ⟨⟨cls, dd, data, sl⟩, ho, hc, n, hd⟩ := id ht
 obtain ⟨⟨cls2, dd2, data2, sl2⟩, ho2, hc2, n2, hd2⟩ := id hb
 simp only at hc hd hc2 hd2
 subst hc hd hc2 hd2
 have e : vs.toArray ++ ws.toArray = (vs ++ ws).toArray := by simp
 by_cases hw : ws = []
 ·exact concat_meets ⟨_, ho, rfl⟩ ⟨_, ho2, rfl⟩ noFill_tuple_add seq_tuple_add PySem.F.slot_tuple_add PySem.F.entry_tuple_add (PySem.F.args_tuple_add_2 _ _)
   (tuple_addW1 t b vs.toArray ws.toArray n n2 dd dd2 sl sl2 (by simpa using hv) (by simp [hw])) ⟨ho, ho2, h1 hw⟩
 ·refine concat_meets ⟨_, ho, rfl⟩ ⟨_, ho2, rfl⟩ noFill_tuple_add seq_tuple_add PySem.F.slot_tuple_add PySem.F.entry_tuple_add (PySem.F.args_tuple_add_2 _ _)
   (tuple_addW2 t b vs.toArray ws.toArray n n2 dd dd2 sl sl2 (by simpa using hv) (by simpa using hw) (by rw [List.size_toArray, List.size_toArray]; exact hsz)) ⟨ho, ho2, ?_⟩
  rw [e]
  exact h2 hw
noncomputable def sIx (n d : Nat) : Option Int -> Nat
 | none => d
 | some v => if v < 0 then (v + (n : Int)).toNat else min v.toNat n
theorem ara (n d : Nat) (hd : d <= n) (o : Option Int) : sIx n d o <= n := by
 cases o with
 | none => exact hd
 | some v =>
  show (if v < 0 then (v + (n : Int)).toNat else min v.toNat n) <= n
  by_cases hv : v < 0
  ·rw [if_pos hv]; omega
  ·rw [if_neg hv]; exact Nat.min_le_right _ _
theorem alH (v : Int) (n d : Nat) : (if v < 0 then max (v + (n : Int)) 0 else min v (n : Int)) = ((sIx n d (some v) : Nat) : Int) := by
 show (if v < 0 then max (v + (n : Int)) 0 else min v (n : Int)) = (((if v < 0 then (v + (n : Int)).toNat else min v.toNat n) : Nat) : Int)
 by_cases hv : v < 0
 ·simp only [if_pos hv]; omega
 ·simp only [if_neg hv]; omega
theorem akv (lo hi : Option Int) (n : Nat) : Builtin.Slice.sliceAdjust lo hi 1 (n : Int) = (((sIx n 0 lo : Nat) : Int), ((sIx n n hi : Nat) : Int)) := by
 have h1 : ¬ ((1 : Int) < 0) := by omega
 unfold Builtin.Slice.sliceAdjust
 simp only [h1, if_false]
 refine Prod.ext ?_ ?_
 ·cases lo with
  | none => rfl
  | some v => exact alH v n 0
 ·cases hi with
  | none => rfl
  | some v => exact alH v n n
theorem akx (i j : Nat) : Builtin.Slice.slicePlaces (i : Int) (j : Int) 1 = j - i := by
 unfold Builtin.Slice.slicePlaces
 have h1 : (1 : Int) > 0 := by omega
 simp only [h1, if_true, Int.ediv_one]
 split <;> omega
theorem agT {v : Value} {o : Option Int} {Q : Option Int -> Shared -> Prop} (p : IsPart v o) (h : Q o s) : wpAny (model prog w) A (Builtin.Slice.slicePartIndex v) Q E s := by
 cases p with
 | none => exact slicePart_none h
 | int i t => exact slicePart_int h
theorem afm {sl : Addr} {vl vu : Value} {lo hi : Option Int} {n : Nat} {Q : Int × Int × Nat -> Shared -> Prop} (hs : s.heap.IsSliceOf sl vl vu .none) (pl : IsPart vl lo) (pu : IsPart vu hi)
  (h : Q (((sIx n 0 lo : Nat) : Int), 1, sIx n n hi - sIx n 0 lo) s) : wpAny (model prog w) A (Builtin.Slice.sliceApplied (.ref sl) (pure (n : Int))) Q E s := by
 obtain ⟨os, hos, hcs, hds⟩ := id hs
 unfold Builtin.Slice.sliceApplied Builtin.Slice.sliceFields
 refine wpAny_bind (wpAny_bind (wpAny_field hos hds (x := vl) rfl (wpAny_bind (wpAny_field hos hds (x := vu) rfl (wpAny_bind (wpAny_field hos hds (x := .none) rfl (wpAny_pure ?_)))))))
 refine wpAny_bind (slicePart_none ?_)
 show wpAny _ _ (if ((1 : Int) == 0) = true then _ else _) _ _ s
 rw [if_neg (by decide)]
 refine wpAny_bind (agT pl (wpAny_bind (agT pu (wpAny_bind (wpAny_pure ?_)))))
 show wpAny _ _ (match Builtin.Slice.sliceAdjust lo hi 1 (n : Int) with | (lo, hi) => pure (lo, (1 : Int), Builtin.Slice.slicePlaces lo hi 1)) _ _ s
 rw [akv lo hi n]
 show wpAny _ _ (pure (((sIx n 0 lo : Nat) : Int), (1 : Int), Builtin.Slice.slicePlaces ((sIx n 0 lo : Nat) : Int) ((sIx n n hi : Nat) : Int) 1)) _ _ s
 rw [akx]
 exact wpAny_pure h
theorem am7 (xs : Array Value) (i k : Nat) : ((List.range k).filterMap λ(m : Nat) => xs[((i : Int) + (m : Int) * 1).toNat]?).toArray = ((xs.toList.drop i).take k).toArray := by
 have e : (λ(m : Nat) => xs[((i : Int) + (m : Int) * 1).toNat]?) = λm => xs[i + m]? := by
  funext m
  have : ((i : Int) + (m : Int) * 1).toNat = i + m := by omega
  rw [this]
 rw [e]
 have := pick_run xs i k
 rw [List.filterMap_map] at this
 have e2 : ((λx => xs[x]?) ∘ λx => i + x) = λm => xs[i + m]? := rfl
 rw [e2] at this
 rw [this]
theorem aeJ {t sl : Addr} {items : Array Value} {vl vu : Value} {lo hi : Option Int} {Q : Value -> Shared -> Prop} (ht : IsTup s.heap t items) (hs : s.heap.IsSliceOf sl vl vu .none) (pl : IsPart vl lo) (pu : IsPart vu hi)
  (hw : ¬ (sIx items.size 0 lo = 0 /\ sIx items.size items.size hi = items.size))
  (h : Q (.ref s.heap.objs.size) { s with heap := s.heap.push { cls := .type "tuple", data := .seq ((items.toList.drop (sIx items.size 0 lo)).take (sIx items.size items.size hi - sIx items.size 0 lo)).toArray } })
  (hsz : items.size <= sizeLine) : wpAny (model prog w) A (getItem (.ref t) (.ref sl)) Q E s := by
 have am8 : sizeOk (.seq ((items.toList.drop (sIx items.size 0 lo)).take (sIx items.size items.size hi - sIx items.size 0 lo)).toArray) := by
  show ((items.toList.drop (sIx items.size 0 lo)).take (sIx items.size items.size hi - sIx items.size 0 lo)).toArray.size <= sizeLine
  rw [List.size_toArray, List.length_take, List.length_drop, Array.length_toList]
  omega
 have hj : sIx items.size items.size hi <= items.size := ara _ _ (Nat.le_refl _) hi
 obtain ⟨os, hos, hcs, hds⟩ := id hs
 have hTs : s.TypeIs (.ref sl) "slice" := ⟨os, hos, hcs⟩
 unfold getItem
 try with_reducible refine wpAny_holding ?_
 first | refine wpAny_bind (wpAny_pure ?_) | skip
 refine wpAny_bind (wpAny_sequenceKey ht.typeIs (by decide) ?_)
 refine wpAny_bind (wpAny_callSpecial?_slot (name := Str.ofString "__getitem__") ht.typeIs PyProof.Rows.slot_tuple_getitem
  (wpAny_call_entry PyProof.Rows.slot_tuple_getitem ht.typeIs entry_tuple_getitem ?_ (args_tuple_getitem _ _)))
 show wpAny _ _ (Builtin.Tuple.tupleItemsOf (.ref t) >>= _) _ _ s
 refine wpAny_bind (tupleItemsOf_ ht ?_)
 refine wpAny_bind (wpAny_typeOf hTs ?_)
 rw [if_pos (by decide)]
 refine wpAny_bind (afm hs pl pu ?_)
 have hno : ¬ ((((sIx items.size 0 lo : Nat) : Int) == 0 && (1 : Int) == 1 && (sIx items.size items.size hi - sIx items.size 0 lo) == items.size) = true) := by
  intro q
  rw [Bool.and_eq_true, Bool.and_eq_true] at q
  have q1 : ((sIx items.size 0 lo : Nat) : Int) = 0 := eq_of_beq q.1.1
  have q2 : sIx items.size items.size hi - sIx items.size 0 lo = items.size := eq_of_beq q.2
  exact hw ⟨by omega, by omega⟩
 show wpAny _ _ (if (((sIx items.size 0 lo : Nat) : Int) == 0 && (1 : Int) == 1 && (sIx items.size items.size hi - sIx items.size 0 lo) == items.size) = true then _ else _) _ _ s
 rw [if_neg hno, am7]
 first
  | exact wpAny_bind (m := Builtin.Tuple.tupleExact _) (wpAny_newObj_type (wpAny_pure ⟨_, rfl, wpAny_pure h⟩) am8)
  | exact wpAny_bind (m := Builtin.Tuple.tupleExact _) (wpAny_newObj_type (wpAny_bind (wpAny_pure (wpAny_pure ⟨_, rfl, wpAny_pure h⟩))) am8)
  | exact wpAny_bind (wpAny_bind (m := Builtin.Tuple.tupleExact _) (wpAny_newObj_type (wpAny_pure (wpAny_pure ⟨_, rfl, wpAny_pure h⟩)) am8))
  | exact wpAny_bind (wpAny_bind (m := Builtin.Tuple.tupleExact _) (wpAny_newObj_type (wpAny_pure ⟨_, rfl, wpAny_pure h⟩) am8))
end
end HT
namespace L2
open PySem PySem.Spec PyProof.Rows
noncomputable abbrev TO := St -> Hp -> (Option Int -> Hp -> Prop) -> Prop
noncomputable def PO (X : Cx) (e : Option Expr) (t : TO) : Prop :=
 ∀ (pins : List (Addr × Obj)) (s : Shared) (σ : St) (H : Hp) (Q : Option Int -> Hp -> Prop), Inv X pins σ H s -> t σ H Q ->
  wpAny (model X.prog X.w) X.A (evalPart e X.env) (λu s' => ∃ o H', Inv X pins σ H' s' /\ IsPart u o /\ Q o H') X.xe s
noncomputable def alI : TO := λ_ H Q => Q none H
noncomputable def arb (t : TE) : TO := λσ H Q => t σ H λx H1 => ∃ i, x = .int i /\ Q (some i) H1
theorem intsAre_of {ns : List Int} : ∀ {us : List Value}, Vals (ns.map V.int) us -> IntsAre us ns := by
 induction ns with
 | nil => intro us r; rw [List.map_nil] at r; cases r; exact .nil
 | cons n ns ih =>
  intro us r
  rw [List.map_cons] at r
  cases r with
  | cons r1 r2 =>
   obtain ⟨t, e⟩ := r1
   subst e
   exact .cons n t (ih r2)
section
variable {X : Cx} {e : Expr} {te : TE} {lo hi : Option Expr} {tl th : TO} {pos p2 : Pos}
theorem alJ : PO X none alI := by
 intro pins s σ H Q I h
 rw [evalPart_none]
 exact wpAny_pure ⟨none, H, I, .none, h⟩
theorem alK (h : PE X e te) : PO X (some e) (arb te) := by
 intro pins s σ H Q I hw
 rw [evalPart_some]
 refine thn (h pins s σ H _ I hw) λu s1 ⟨x, H1, I1, r1, q1⟩ => ?_
 obtain ⟨i, rfl, q⟩ := q1
 obtain ⟨t, rfl⟩ := r1
 exact ⟨some i, H1, I1, .int i t, q⟩
noncomputable def SlR (X : Cx) (r : V -> Option Int -> Option Int -> Hp -> VK -> Prop) : Prop :=
 ∀ (pins : List (Addr × Obj)) (s : Shared) (σ : St) (H : Hp) (x : V) (v vl vu : Value) (lo hi : Option Int) (sl : Addr) (Q : VK), Inv X pins σ H s -> RelV x v -> s.heap.IsSliceOf sl vl vu .none -> IsPart vl lo -> IsPart vu hi -> r x lo hi H Q ->
  ∃ T id, typeLookup (.type T) "__getitem__" = pure (some (.builtin id)) /\ s.TypeIs v T /\ wpAny (model X.prog X.w) X.A (getItem v (.ref sl)) (EP X pins σ Q) X.xe s
theorem SlR.or {r r' : V -> Option Int -> Option Int -> Hp -> VK -> Prop} (h : SlR X r) (h' : SlR X r') : SlR X (λx lo hi H Q => r x lo hi H Q \/ r' x lo hi H Q) := by
 intro pins s σ H x v vl vu lo hi sl Q I rx hs pl pu q
 rcases q with q | q
 ·exact h pins s σ H x v vl vu lo hi sl Q I rx hs pl pu q
 ·exact h' pins s σ H x v vl vu lo hi sl Q I rx hs pl pu q
noncomputable def tSl (r : V -> Option Int -> Option Int -> Hp -> VK -> Prop) (te : TE) (tl th : TO) : TE := λσ H Q => te σ H λx H1 => tl σ H1 λl H2 => th σ H2 λu H3 => r x l u H3 Q
theorem ajK {r : V -> Option Int -> Option Int -> Hp -> VK -> Prop} (hr : SlR X r) (he : PE X e te) (hl : PO X lo tl) (hu : PO X hi th) : PE X (.Subscript e (.Slice lo hi none p2) pos) (tSl r te tl th) := by
 refine ⟨λpins s σ H Q I h => ?_⟩
 refine Subscript_ (thn (he pins s σ H _ I h) λv s1 ⟨x, H1, I1, r1, q1⟩ => ?_)
 refine wpAny_Slice (thn (hl pins s1 σ H1 _ I1 q1) λvl s2 ⟨l, H2, I2, pl, q2⟩ => thn (hu pins s2 σ H2 _ I2 q2) λvu s3 ⟨u, H3, I3, pu, q3⟩ => ?_)
 rw [evalPart_none]
 refine wpAny_pure ?_
 have I4 : Inv X pins σ H3 { s3 with heap := s3.heap.push { cls := .type "slice", data := .fields #[vl, vu, .none] } } := I3.kept (t' := s3.toks) λb ob q => Heap.get?_push_of_some _ q
 obtain ⟨T, id, hT, ht, hg⟩ := hr pins { s3 with heap := s3.heap.push { cls := .type "slice", data := .fields #[vl, vu, .none] } } σ H3 x v vl vu l u s3.heap.objs.size Q I4 r1 (Heap.IsSliceOf.new ..) pl pu q3
 show wpAny (model X.prog X.w) X.A (subscriptTail e (.Slice lo hi none p2) v (.ref s3.heap.objs.size)) (EP X pins σ Q) X.xe { s3 with heap := s3.heap.push { cls := .type "slice", data := .fields #[vl, vu, .none] } }
 exact tail_any (ops := [.ref s3.heap.objs.size, v]) ht hT hg (by with_unfolding_all rfl)
noncomputable def aou (xs : List V) (lo hi : Option Int) : List V := (xs.drop (HT.sIx xs.length 0 lo)).take (HT.sIx xs.length xs.length hi - HT.sIx xs.length 0 lo)
theorem afR (xs : List V) (lo hi : Option Int) : (aou xs lo hi).length <= xs.length := by
 unfold aou
 rw [List.length_take, List.length_drop]
 omega
noncomputable def avW (K : PySem.W.Frag) : V -> Option Int -> Option Int -> Hp -> VK -> Prop := λx lo hi H Q => ∃ a xs, x = .ref a /\ SqT K H a xs /\
 ¬ (HT.sIx xs.length 0 lo = 0 /\ HT.sIx xs.length xs.length hi = xs.length) /\ ∀ p, H p = none -> Q (.ref p) (upd H p (.tup (aou xs lo hi)))
theorem ard : SlR X (avW X.K) := by
 intro pins s σ H x v vl vu lo hi sl Q I rx hs pl pu h
 obtain ⟨a, xs, rfl, hx, hw, q⟩ := h
 cases rx
 obtain ⟨its, r, ht, hz⟩ := I.tuple hx
 have hlen : its.toArray.size = xs.length := by rw [List.size_toArray]; exact r.length.symm
 refine ⟨"tuple", _, PyProof.Rows.slot_tuple_getitem.lookup, ht.typeIs, ?_⟩
 refine HT.aeJ ht hs pl pu (by rw [hlen]; exact hw) ?_ (by rw [hlen]; exact hz)
 rw [hlen]
 refine ⟨.ref s.heap.objs.size, _, I.laid (t' := s.toks) (o := .tup (aou xs lo hi)) (λb ob q => Heap.get?_push_of_some _ q) (Nat.le_refl _) ?_, rfl, q _ (I.hok.fresh (Nat.le_refl _))⟩
 exact ⟨Nat.le_trans (afR xs lo hi) hz, _, (r.drop (HT.sIx xs.length 0 lo)).take (HT.sIx xs.length xs.length hi - HT.sIx xs.length 0 lo), IsTup.new _ _⟩
noncomputable def avX (K : PySem.W.Frag) : R2 := λx y H Q => ∃ a b ns ms, x = .ref a /\ y = .ref b /\ SqT K H a (ns.map V.int) /\ SqT K H b (ms.map V.int) /\ Q (.bl (HT.lexLt ns ms)) H
theorem arf (hu : X.A.units < cLine) : OpR X (compareOp .Lt) (avX X.K) := by
 intro pins s σ H x y v u Q I rx ry h
 obtain ⟨a, b, ns, ms, rfl, rfl, ha, hb, q⟩ := h
 cases rx
 cases ry
 obtain ⟨its, r1, p1, _⟩ := I.tuple ha
 obtain ⟨its2, r2, p2, _⟩ := I.tuple hb
 have i1 : IntsAre its.toArray.toList ns := intsAre_of r1
 have i2 : IntsAre its2.toArray.toList ms := intsAre_of r2
 exact HT.aku p1 p2 i1 i2 hu ⟨.bl (HT.lexLt ns ms), H, I, rfl, q⟩
noncomputable def arh (K : PySem.W.Frag) : R2 := λx y H Q => ∃ a b xs ys, x = .ref a /\ y = .ref b /\ SqT K H a xs /\ SqT K H b ys /\ xs ≠ [] /\ xs.length + ys.length <= sizeLine /\
 (ys = [] -> Q (.ref a) H) /\ (ys ≠ [] -> ∀ p, H p = none -> Q (.ref p) (upd H p (.tup (xs ++ ys))))
theorem Vals.aiO {xs : List V} {us : List Value} (r : Vals xs us) : us = [] ↔ xs = [] := by
 cases r with
 | nil => simp
 | cons _ _ => simp
theorem apm : OpR X (binaryOp .Add) (arh X.K) := by
 intro pins s σ H x y v u Q I rx ry h
 obtain ⟨a, b, xs, ys, rfl, rfl, ha, hb, hx, hz, q1, q2⟩ := h
 cases rx
 cases ry
 obtain ⟨its, r1, p1, _⟩ := I.tuple ha
 obtain ⟨its2, r2, p2, _⟩ := I.tuple hb
 refine HT.apl p1 p2 (λz => hx (r1.aiO.mp z)) (λz => ⟨.ref a, H, I, rfl, q1 (r2.aiO.mp z)⟩) (λz => ?_) (by rw [<-r1.length, <-r2.length]; exact hz)
 refine ⟨.ref s.heap.objs.size, _, I.laid (t' := s.toks) (o := .tup (xs ++ ys)) (λb ob q => Heap.get?_push_of_some _ q) (Nat.le_refl _) ?_, rfl, q2 (λw => z (r2.aiO.mpr w)) _ (I.hok.fresh (Nat.le_refl _))⟩
 exact ⟨by rw [List.length_append]; exact hz, _, r1.append r2, IsTup.new _ _⟩
end
end L2
namespace L2
open PySem PySem.Spec PyProof.Rows
noncomputable def ixN (n : Nat) (i : Int) : Option Nat := if 0 <= i then (if i < n then some i.toNat else none) else if -(n : Int) <= i then some (i + n).toNat else none
noncomputable def atI {α : Type} (xs : List α) (i : Int) : Option α := (ixN xs.length i).bind λj => xs[j]?
theorem alL {n : Nat} {i : Int} {j : Nat} (h : ixN n i = some j) : seqIndex? i n = some j /\ j < n /\ -(n : Int) <= i /\ i < n := by
 unfold ixN at h
 by_cases h0 : 0 <= i
 ·rw [if_pos h0] at h
  by_cases h1 : i < n
  ·rw [if_pos h1] at h
   have e : i.toNat = j := Option.some.inj h
   exact ⟨by rw [seqIndex_of h0 h1, e], by omega, by omega, h1⟩
  ·rw [if_neg h1] at h; cases h
 ·rw [if_neg h0] at h
  by_cases h1 : -(n : Int) <= i
  ·rw [if_pos h1] at h
   have e : (i + n).toNat = j := Option.some.inj h
   exact ⟨by rw [seqIndex_neg (by omega) h1, e], by omega, h1, by omega⟩
  ·rw [if_neg h1] at h; cases h
theorem aiP {α : Type} {xs : List α} {i : Int} {v : α} (h : atI xs i = some v) : ∃ j, seqIndex? i xs.length = some j /\ xs[j]? = some v /\ j < xs.length /\ -(xs.length : Int) <= i /\ i < xs.length := by
 unfold atI at h
 cases e : ixN xs.length i with
 | none => rw [e] at h; cases h
 | some j =>
  rw [e] at h
  obtain ⟨h1, h2, h3, h4⟩ := alL e
  exact ⟨j, h1, h, h2, h3, h4⟩
noncomputable def apn (b : Expr) : Prop := ∀ o i, subscripted b false o i = operate [o, i] (getItem o i)
noncomputable def IxR (X : Cx) (r : R2) : Prop :=
 ∀ (value slice : Expr) (pins : List (Addr × Obj)) (s : Shared) (σ : St) (H : Hp) (x y : V) (v u : Value) (Q : VK), Inv X pins σ H s -> RelV x v -> RelV y u -> r x y H Q ->
  subscripted slice false v u = operate [v, u] (getItem v u) -> wpAny (model X.prog X.w) X.A (subscriptTail value slice v u) (EP X pins σ Q) X.xe s
noncomputable def MtR (X : Cx) (id : String) (r : V -> List V -> Hp -> VK -> Prop) : Prop :=
 ∀ (pins : List (Addr × Obj)) (s : Shared) (σ : St) (H : Hp) (x : V) (xs : List V) (v : Value) (us : List Value) (Q : VK), Inv X pins σ H s -> RelV x v -> Vals xs us -> r x xs H Q ->
  wpAny (model X.prog X.w) X.A (call (.builtin id) (v :: us)) (EP X pins σ Q) X.xe s
section
variable {X : Cx} {a b : Expr} {ta tb : TE} {pos : Pos}
theorem IxR.or {r r' : R2} (h : IxR X r) (h' : IxR X r') : IxR X (λx y H Q => r x y H Q \/ r' x y H Q) := by
 intro value slice pins s σ H x y v u Q I rx ry q hs
 rcases q with q | q
 ·exact h value slice pins s σ H x y v u Q I rx ry q hs
 ·exact h' value slice pins s σ H x y v u Q I rx ry q hs
theorem abU {r : R2} (hr : IxR X r) (ha : PE X a ta) (hb : PE X b tb) (hs : apn b) : PE X (.Subscript a b pos) (tOp r ta tb) := by
 refine ⟨λpins s σ H Q I h => ?_⟩
 exact Subscript_ (aua ha hb I h λv u s2 x y H2 I2 rx ry q => hr a b pins s2 σ H2 x y v u Q I2 rx ry q (hs _ _))
noncomputable def avY (K : PySem.W.Frag) : R2 := λx y H Q => ∃ p xs i v, x = .ref p /\ y = .int i /\ SqL K H p xs /\ atI xs i = some v /\ Q v H
noncomputable def avZ (K : PySem.W.Frag) : R2 := λx y H Q => ∃ p xs i v, x = .ref p /\ y = .int i /\ SqT K H p xs /\ atI xs i = some v /\ Q v H
noncomputable def av0 : R2 := λx y H Q => ∃ z i c, x = .str z /\ y = .int i /\ z.length <= sizeLine /\ atI z.cps.toList i = some c /\ Q (.str ⟨#[c]⟩) H
theorem apo : IxR X (avY X.K) := by
 intro value slice pins s σ H x y v u Q I rx ry h hs
 obtain ⟨p, xs, i, z, rfl, rfl, hq, he, q⟩ := h
 cases rx
 obtain ⟨t, rfl⟩ := ry
 obtain ⟨its, r, pl, hz⟩ := I.list hq
 obtain ⟨j, h1, h2, h3, h4, h5⟩ := aiP he
 obtain ⟨w, ew, rw'⟩ := r.get h2
 have hl := r.length
 have hn := afQ
 have fin : EP X pins σ Q w s := ⟨z, H, I, rw', q⟩
 by_cases h0 : 0 <= i
 ·have hj : i.toNat = j := by
   rw [seqIndex_of h0 h5] at h1
   exact Option.some.inj h1
  exact item_listR pl.isList h0 (by omega) (by rw [hj]; simpa using ew) fin hs
 ·have hj : (i + (its.toArray.size : Int)).toNat = j := by
   rw [seqIndex_neg (by omega) h4] at h1
   rw [List.size_toArray, <-hl]
   exact Option.some.inj h1
  exact subscriptTail_builtinR (x := w) pl.isList.typeIs slot_list_getitem.lookup
   (wpAny_getItem_list_neg (Q := λr s' => r = w /\ EP X pins σ Q r s') pl.isList (by omega) (by rw [List.size_toArray] <;> omega) (by omega) (by rw [hj]; simpa using ew) ⟨rfl, fin⟩) hs
theorem ari : IxR X (avZ X.K) := by
 intro value slice pins s σ H x y v u Q I rx ry h hs
 obtain ⟨p, xs, i, z, rfl, rfl, hq, he, q⟩ := h
 cases rx
 obtain ⟨t, rfl⟩ := ry
 obtain ⟨its, r, pl, hz⟩ := I.tuple hq
 obtain ⟨j, h1, h2, h3, h4, h5⟩ := aiP he
 obtain ⟨w, ew, rw'⟩ := r.get h2
 have hl := r.length
 have hn := afQ
 have fin : EP X pins σ Q w s := ⟨z, H, I, rw', q⟩
 exact subscriptTail_builtinR (x := w) pl.typeIs slot_tuple_getitem.lookup
  (getItem_tuple (j := j) (Q := λr s' => r = w /\ EP X pins σ Q r s') pl (by omega) (by omega) (by rw [List.size_toArray, <-hl]; exact h1) (by simpa using ew) ⟨rfl, fin⟩) hs
theorem arj : IxR X av0 := by
 intro value slice pins s σ H x y v u Q I rx ry h hs
 obtain ⟨z, i, c, rfl, rfl, hz, he, q⟩ := h
 obtain ⟨t, rfl⟩ := rx
 obtain ⟨t', rfl⟩ := ry
 obtain ⟨j, h1, h2, h3, h4, h5⟩ := aiP he
 have hl : z.cps.toList.length = z.length := by simp [Str.length]
 rw [hl] at h1 h4 h5
 have hn := afQ
 exact tail_any (typeIs_str s z t) slot_str_getitem.lookup (getItem_str (c := c) (by
  have e1 : decide (i < -(2 ^ 63 : Int)) = false := decide_eq_false (by omega)
  have e2 : decide (i >= 2 ^ 63) = false := decide_eq_false (by omega)
  rw [e1, e2, Bool.or_false]) (by rw [h1]; simpa using h2) ⟨.str ⟨#[c]⟩, H, I.tok _, ⟨_, rfl⟩, q⟩) hs
noncomputable def rIx (K : PySem.W.Frag) : R2 := λx y H Q => avY K x y H Q \/ avZ K x y H Q \/ av0 x y H Q
theorem aa8 : IxR X (rIx X.K) := apo.or (ari.or arj)
theorem aky (its : List Value) (n j : Nat) (u : Value) : Obj.mapSeq (·.setIfInBounds j u) { cls := .type "list", data := .seq its.toArray n } = { cls := .type "list", data := .seq (its.set j u).toArray n } := by
 simp [Obj.mapSeq]
theorem Inv.lst {pins : List (Addr × Obj)} {σ : St} {H : Hp} {s : Shared} {p : Addr} {xs : List V} (I : Inv X pins σ H s) (h : H p = some (.lst xs)) :
  ∃ (its : List Value) (n : Nat), Vals xs its /\ s.heap.get? p = some { cls := .type "list", data := .seq its.toArray n } /\ xs.length <= sizeLine := by
 obtain ⟨z, its, n, r, e⟩ := I.hok p _ h
 exact ⟨its, n, r, e, z⟩
theorem Inv.ark {pins : List (Addr × Obj)} {σ : St} {H : Hp} {s : Shared} {p : Addr} {xs ys : List V} {its its' : List Value} {n n' : Nat} {f : Obj -> Obj} (I : Inv X pins σ H s) (h : H p = some (.lst xs))
  (ho : s.heap.get? p = some { cls := .type "list", data := .seq its.toArray n }) (hf : f { cls := .type "list", data := .seq its.toArray n } = { cls := .type "list", data := .seq its'.toArray n' }) (r : Vals ys its') (hz : ys.length <= sizeLine) (t : Nat) :
  Inv X pins σ (upd H p (.lst ys)) { s with heap := s.heap.update p f, toks := t } := by
 have e : (s.heap.update p f).get? p = some { cls := .type "list", data := .seq its'.toArray n' } := by
  rw [Heap.get?_update_self f ho (by rw [hf] <;> rfl), hf]
 refine I.write (x := p) (e := p) (by rw [h]; trivial) (.inl rfl) (λb u hb q => (Heap.get?_update_other _ _ (Ne.symm hb)).trans q) ⟨_, e⟩ ?_
 exact ⟨hz, its', n', r, e⟩
noncomputable def arl : V -> V -> V -> Hp -> (Hp -> Prop) -> Prop := λo i v H Q => ∃ p xs k j, o = .ref p /\ i = .int k /\ H p = some (.lst xs) /\ ixN xs.length k = some j /\ Q (upd H p (.lst (xs.set j v)))
theorem set_list : avO X arl := by
 intro pins s σ H o i v ov iv u Q I ro ri rv h
 obtain ⟨p, xs, k, j, rfl, rfl, hp, hj, q⟩ := h
 cases ro
 obtain ⟨t, rfl⟩ := ri
 obtain ⟨its, n, r, ho, hz⟩ := I.lst hp
 obtain ⟨h1, h2, h3, h4⟩ := alL hj
 have hl := r.length
 have hn := afQ
 have I' : Inv X pins σ (upd H p (.lst (xs.set j v))) { s with heap := s.heap.update p (Obj.mapSeq (·.setIfInBounds j u)) } :=
  I.ark hp ho (aky its n j u) (r.set rv j) (by rw [List.length_set]; exact hz) s.toks
 by_cases h0 : 0 <= k
 ·have hk : k.toNat = j := by
   rw [seqIndex_of h0 h4] at h1
   exact Option.some.inj h1
  exact PySem.W.ki_setAt ho h0 (by omega) (by rw [List.size_toArray, <-hl]; exact h4) (by rw [hk]; exact ⟨_, I', q⟩)
 ·have hk : (k + (its.toArray.size : Int)).toNat = j := by
   rw [seqIndex_neg (by omega) h3] at h1
   rw [List.size_toArray, <-hl]
   exact Option.some.inj h1
  exact PySem.W.ki_setBack ho (by omega) (by rw [List.size_toArray, <-hl]; exact h3) (by omega) (by rw [hk]; exact ⟨_, I', q⟩)
theorem ah6 (lo hi : Option Int) (n : Nat) : (sliceBounds lo hi none n).1 = ((HT.sIx n 0 lo : Nat) : Int) /\ (sliceBounds lo hi none n).2.1 = ((HT.sIx n n hi : Nat) : Int) /\ (sliceBounds lo hi none n).2.2 = 1 := by
 refine ⟨?_, ?_, rfl⟩
 ·cases lo with
  | none => simp [sliceBounds, HT.sIx]
  | some i =>
   simp only [sliceBounds, HT.sIx, Option.getD_none, show (1 : Int) > 0 by decide, if_true]
   by_cases h : i < 0
   ·simp only [h, if_true] <;> omega
   ·simp only [h, if_false] <;> omega
 ·cases hi with
  | none => simp [sliceBounds, HT.sIx]
  | some i =>
   simp only [sliceBounds, HT.sIx, Option.getD_none, show (1 : Int) > 0 by decide, if_true]
   by_cases h : i < 0
   ·simp only [h, if_true] <;> omega
   ·simp only [h, if_false] <;> omega
theorem ahd (its : List Value) (lo hi : Option Int) : slicePick its.toArray lo hi none = ((its.drop (HT.sIx its.length 0 lo)).take (HT.sIx its.length its.length hi - HT.sIx its.length 0 lo)).toArray := by
 obtain ⟨h1, h2, h3⟩ := ah6 lo hi its.toArray.size
 unfold slicePick
 rw [h1, h2, h3]
 simp only [sliceRange_one, pick_run, List.size_toArray] <;> rfl
noncomputable def av1 (K : PySem.W.Frag) : V -> Option Int -> Option Int -> Hp -> VK -> Prop := λx lo hi H Q => ∃ a xs, x = .ref a /\ SqL K H a xs /\ ∀ p, H p = none -> Q (.ref p) (upd H p (.lst (aou xs lo hi)))
theorem apq : SlR X (av1 X.K) := by
 intro pins s σ H x v vl vu lo hi sl Q I rx hs pl pu h
 obtain ⟨a, xs, rfl, hx, q⟩ := h
 cases rx
 obtain ⟨its, r, ht, hz⟩ := I.list hx
 have hlen := r.length
 refine ⟨"list", _, slot_list_getitem.lookup, ht.isList.typeIs, ?_⟩
 refine wpAny_getItem_list_slice ht.isList hs pl pu .none (by simp) ?_ (by rw [List.size_toArray] <;> omega)
 rw [ahd, <-hlen]
 refine ⟨.ref s.heap.objs.size, _, I.laid (t' := s.toks) (o := .lst (aou xs lo hi)) (λb ob q => Heap.get?_push_of_some _ q) (Nat.le_refl _) ?_, rfl, q _ (I.hok.fresh (Nat.le_refl _))⟩
 exact ⟨Nat.le_trans (afR xs lo hi) hz, _, 0, (r.drop (HT.sIx xs.length 0 lo)).take (HT.sIx xs.length xs.length hi - HT.sIx xs.length 0 lo), Heap.get?_push_size _ rfl⟩
theorem ah7 : acH X (.builtin "len") (λxs H Q => ∃ p ys, xs = [.ref p] /\ (SqL X.K H p ys \/ SqT X.K H p ys) /\ Q (.int ys.length) H) := by
 intro pins s σ H xs us Q I r h
 obtain ⟨p, ys, rfl, hq, q⟩ := h
 obtain ⟨u, rfl, rx⟩ := vals1 r
 cases rx
 have hn := afQ
 rcases hq with hq | hq
 ·obtain ⟨its, r', pl, hz⟩ := I.list hq
  have hlen := r'.length
  exact Calls.call_len_list pl.isList (by simp only [List.size_toArray] <;> omega) ⟨.int ys.length, H, I.tok _, ⟨s.toks + 1, by rw [List.size_toArray, hlen]⟩, q⟩
 ·obtain ⟨its, r', pl, hz⟩ := I.tuple hq
  have hlen := r'.length
  exact len_tuple pl (by simp only [List.size_toArray] <;> omega) ⟨.int ys.length, H, I.tok _, ⟨s.toks + 1, by rw [List.size_toArray, hlen]⟩, q⟩
theorem ah8 : acH X (.builtin "len") (λxs H Q => ∃ z, xs = [.str z] /\ z.length <= sizeLine /\ Q (.int z.length) H) := by
 intro pins s σ H xs us Q I r h
 obtain ⟨z, rfl, hz, q⟩ := h
 obtain ⟨u, rfl, t, rfl⟩ := vals1 r
 have hn := afQ
 exact len_str (by omega) ⟨.int z.length, H, I.tok _, ⟨_, rfl⟩, q⟩
theorem acH.or {f : Value} {r r' : List V -> Hp -> VK -> Prop} (h : acH X f r) (h' : acH X f r') : acH X f (λxs H Q => r xs H Q \/ r' xs H Q) := by
 intro pins s σ H xs us Q I rs q
 rcases q with q | q
 ·exact h pins s σ H xs us Q I rs q
 ·exact h' pins s σ H xs us Q I rs q
theorem ahe : acH X (.type "tuple") (λxs H Q => ∃ p ys, xs = [.ref p] /\ ((SqL X.K H p ys /\ ∀ l, H l = none -> Q (.ref l) (upd H l (.tup ys))) \/ (SqT X.K H p ys /\ Q (.ref p) H))) := by
 intro pins s σ H xs us Q I r h
 obtain ⟨p, ys, rfl, h⟩ := h
 obtain ⟨u, rfl, rx⟩ := vals1 r
 cases rx
 rcases h with ⟨hq, q⟩ | ⟨hq, q⟩
 ·obtain ⟨its, r', pl, hz⟩ := I.list hq
  have hlen := r'.length
  refine call_tuple_list pl.isList (λh' kp => ?_) (by simp only [List.size_toArray] <;> omega)
  have I1 : Inv X pins σ H { s with heap := h' } := I.kept (t' := s.toks) kp
  have I2 : Inv X pins σ (upd H h'.objs.size (.tup ys)) { s with heap := h'.push { cls := .type "tuple", data := .seq its.toArray } } :=
   I1.laid (t' := s.toks) (λb o e => Heap.get?_push_of_some _ e) (Nat.le_refl _) (show ad6 X.prog X.w _ _ _ (.tup ys) from ⟨hz, its, r', IsTup.new _ _⟩)
  exact ⟨.ref h'.objs.size, _, I2, rfl, q _ (I1.hok.fresh (Nat.le_refl _))⟩
 ·obtain ⟨its, r', pl, hz⟩ := I.tuple hq
  exact call_tuple_same pl ⟨.ref p, H, I, rfl, q⟩
noncomputable def tyV (K : PySem.W.Frag) (T : String) (x : V) (H : Hp) : Prop := match x with
 | .str _ => T = "str"
 | .int _ => T = "int"
 | .ref p => (T = "list" ∧ ∃ xs, SqL K H p xs) ∨ (T = "tuple" ∧ ∃ o, K.lookup p = some o ∧ o.cls = .type "tuple" ∧ o.dict = none) ∨
   (T = "dict" ∧ ((∃ kvs, H p = some (.dK kvs)) ∨ ∃ kvs, H p = some (.dT kvs))) ∨ (T = "set" ∧ ∃ S n, H p = some (.set S n))
 | _ => False
theorem arn {pins : List (Addr × Obj)} {σ : St} {H : Hp} {s : Shared} {T : String} {x : V} {v : Value} (I : Inv X pins σ H s) (r : RelV x v) (ty : tyV X.K T x H) :
  s.TypeIs v T /\ ∀ a, v = .ref a -> ∃ ob, s.heap.get? a = some ob /\ ob.dict = none := by
 cases x with
 | str z =>
  obtain ⟨t, rfl⟩ := r
  cases (show T = "str" from ty)
  exact ⟨typeIs_str s z t, λ_ e => nomatch e⟩
 | int i =>
  obtain ⟨t, rfl⟩ := r
  cases (show T = "int" from ty)
  exact ⟨typeIs_int s i t, λ_ e => nomatch e⟩
 | ref p =>
  cases r
  rcases ty with ⟨rfl, xs, hq⟩ | ⟨rfl, o, hk, hc, hd⟩ | ⟨rfl, hk⟩ | ⟨rfl, S, n, hk⟩
  ·obtain ⟨its, _, pl, _⟩ := I.list hq
   refine ⟨pl.isList.typeIs, λa e => ?_⟩
   cases e
   obtain ⟨o, n, e, c, hd, _⟩ := pl
   exact ⟨o, e, hd⟩
  ·refine ⟨⟨o, I.kIn p o hk, hc⟩, λa e => ?_⟩
   cases e
   exact ⟨o, I.kIn _ o hk, hd⟩
  ·have z : ∃ o, s.heap.get? p = some o /\ o.ExactDict := by
    rcases hk with ⟨kvs, hk⟩ | ⟨kvs, hk⟩
    ·obtain ⟨_, _, _, _, o, _, _, e, ex, _⟩ := I.hok p _ hk
     exact ⟨o, e, ex⟩
    ·obtain ⟨_, _, _, _, o, _, _, e, ex, _⟩ := I.hok p _ hk
     exact ⟨o, e, ex⟩
   obtain ⟨o, e, ex⟩ := z
   refine ⟨⟨o, e, ex.1⟩, λa e2 => ?_⟩
   cases e2
   exact ⟨o, e, ex.2.1⟩
  ·obtain ⟨o, _, _, _, e, ex, _⟩ := I.hok p _ hk
   refine ⟨⟨o, e, ex.1⟩, λa e2 => ?_⟩
   cases e2
   exact ⟨o, e, ex.2.1⟩
 | _ => exact False.elim ty
noncomputable def tBM (K : PySem.W.Frag) (T : String) (r : V -> List V -> Hp -> VK -> Prop) (to : TE) (t : TA) : TE := λσ H Q => to σ H λx H1 => tyV K T x H1 /\ t σ H1 λxs H2 => r x xs H2 Q
variable {o e : Expr} {es : List Expr} {to : TE} {t : TA} {name : Str} {apos cpos : Pos} {T id : String} {r : V -> List V -> Hp -> VK -> Prop}
theorem aro (pa : PlainAttrs T) (slot : Slot T name id) (hty : typeOf (.builtin id) = pure (.type "method_descriptor")) (hm : MtR X id r) (ho : PE X o to) (ha : PA X (e :: es) t)
  (hbase : attributeBase o name X.env (eval o X.env) = eval o X.env := by rfl)
  (hfew : ((backTo cpos (starEach (e :: es) X.env)).all (λx => !x.1) && (backToKw cpos (keywordEach [] X.env)).all (λx => x.1.isSome)
   && decide ((e :: es).length + ([] : List Keyword).length + (if ([] : List Keyword).isEmpty then 0 else 1) < 30)) = true := by rfl)
  (hline : (apos.endLine == cpos.line) = true := by rfl) (hs : starEach (e :: es) X.env = (false, eval e X.env) :: starEach es X.env := by rfl) (hplain : (backTo cpos (starEach es X.env)).any (·.1) = false := by rfl) :
  PE X (.Call (.Attribute o name apos) (e :: es) [] cpos) (tBM X.K T r to t) := by
 refine ⟨λpins s σ H Q I h => ?_⟩
 refine wpAny_Call_method_late hbase hfew hline rfl (thn (ho pins s σ H _ I h) λv s1 ⟨x, H1, I1, r1, ty, q1⟩ => ?_)
 obtain ⟨h1, h2⟩ := arn I1 r1 ty
 refine ⟨T, id, pa, slot, hty, h1, h2, ?_⟩
 have hA := ha cpos pins s1 σ H1 _ I1 q1
 rw [hs] at hA ⊢
 refine Calls.callWith_builtin (by show (false || (backTo cpos (starEach es X.env)).any (·.1)) = false; rw [hplain] <;> rfl) (Calls.evalArgs_plain ?_)
 exact thn hA λus s2 ⟨vs, H2, I2, r2, q2⟩ => hm pins s2 σ H2 x vs v us Q I2 r1 r2 q2
end
end L2
namespace L2
open PySem PySem.Spec PyProof.Rows
noncomputable def MtM (X : Cx) (id : String) (r : V -> List V -> Hp -> VK -> Prop) : Prop :=
 ∀ (pins : List (Addr × Obj)) (s : Shared) (σ : St) (H : Hp) (x : V) (xs : List V) (v : Value) (us : List Value) (Q : VK), Inv X pins σ H s -> RelV x v -> Vals xs us -> r x xs H Q ->
  wpAny (model X.prog X.w) X.A (call (.builtin id) (v :: us)) (EP X pins σ Q) X.xe s
theorem Vals.one : ∀ {x : V} {us : List Value}, Vals [x] us -> ∃ u, us = [u] /\ RelV x u
 | _, _, .cons r .nil => ⟨_, rfl, r⟩
theorem Vals.rep {xs : List V} {us : List Value} (h : Vals xs us) : ∀ k : Nat, Vals (List.replicate k xs).flatten (List.replicate k us).flatten
 | 0 => .nil
 | k + 1 => by
  rw [List.replicate_succ, List.replicate_succ, List.flatten_cons, List.flatten_cons]
  exact Vals.append h (Vals.rep h k)
theorem foldl_rep (its : List Value) : ∀ (k : Nat) (acc : List Value),
  List.foldl (λx1 x2 => x1 ++ x2) acc.toArray (List.replicate k its.toArray) = (acc ++ (List.replicate k its).flatten).toArray
 | 0, acc => by simp
 | k + 1, acc => by
  have e : acc.toArray ++ its.toArray = (acc ++ its).toArray := by simp
  have e2 : (acc ++ its) ++ (List.replicate k its).flatten = acc ++ (List.replicate (k + 1) its).flatten := by
   rw [List.replicate_succ, List.flatten_cons, List.append_assoc]
  rw [<-e2, <-foldl_rep its k (acc ++ its), <-e, List.replicate_succ, List.foldl_cons]
section
variable {X : Cx} {pins : List (Addr × Obj)} {σ : St} {H : Hp} {s : Shared} {l b : Addr} {xs ys zs : List V}
theorem Inv.awI {its its' : List Value} {n : Nat} {f : Array Value -> Array Value} {t' : Nat} (I : Inv X pins σ H s) (hH : H l = some (.lst xs))
  (e : s.heap.get? l = some { cls := .type "list", data := .seq its.toArray n }) (hf : f its.toArray = its'.toArray) (hv : Vals ys its') (hz : ys.length <= sizeLine) :
  Inv X pins σ (upd H l (.lst ys)) { s with heap := s.heap.update l (Obj.mapSeq f), toks := t' } := by
 have q := PySem.IsL.update e f
 rw [hf] at q
 refine I.write (x := l) (e := l) (by rw [hH]; exact trivial) (.inl rfl) (λb' u hb hu => (Heap.get?_update_other s.heap (Obj.mapSeq f) (Ne.symm hb)).trans hu) ⟨_, q⟩ ?_
 exact ⟨hz, its', _, hv, q⟩
theorem Inv.atH {its : List Value} {t' : Nat} (I : Inv X pins σ H s) (hv : Vals ys its) (hz : ys.length <= sizeLine) :
  Inv X pins σ (upd H s.heap.objs.size (.lst ys)) { s with heap := s.heap.push { cls := .type "list", data := .seq its.toArray }, toks := t' } :=
 I.laid (λ_ _ q => Heap.get?_push_of_some _ q) (Nat.le_refl _) ⟨hz, its, 0, hv, Heap.get?_push_size _ rfl⟩
theorem Inv.fresh (I : Inv X pins σ H s) : H s.heap.objs.size = none := I.hok.fresh (Nat.le_refl _)
theorem Inv.awJ (I : Inv X pins σ H s) (hH : H l = some (.lst xs)) : xs.length <= sizeLine /\ ∃ (its : List Value) (n : Nat), Vals xs its /\ xs.length = its.length /\ s.heap.get? l = some { cls := .type "list", data := .seq its.toArray n } := by
 obtain ⟨z, its, n, r, e⟩ := I.hok l _ hH
 exact ⟨z, its, n, r, r.length, e⟩
theorem am9 {n : Nat} (h : n <= sizeLine) : Builtin.List.listTooLong n = false := by
 unfold Builtin.List.listTooLong
 exact decide_eq_false (by omega)
end
section
variable {X : Cx}
noncomputable def aiQ : V -> List V -> Hp -> VK -> Prop := λx vs H Q => ∃ l xs y, x = .ref l /\ vs = [y] /\ H l = some (.lst xs) /\ xs.length < sizeLine /\ Q .non (upd H l (.lst (xs ++ [y])))
theorem aej : MtM X "list.append" aiQ := by
 intro pins s σ H x vs v us Q I rx rv h
 obtain ⟨l, xs, y, rfl, rfl, hH, hz, q⟩ := h
 cases rx
 obtain ⟨u, rfl, ru⟩ := rv.one
 obtain ⟨z, its, n, r, hl, e⟩ := I.awJ hH
 refine call_meets F.slot_list_append ⟨_, e, rfl⟩ F.entry_list_append (F.args_list_append_2 _ _) (PySem.list_append l its.toArray n u (by rw [List.size_toArray]; omega)) ⟨e, ?_⟩
 refine ⟨.non, _, I.awI (its' := its ++ [u]) hH e (by simp) (r.append (.cons ru .nil)) ?_, rfl, q⟩
 rw [List.length_append, List.length_singleton]
 omega
theorem len_rep {α : Type} (xs : List α) (k : Nat) : (List.replicate k xs).flatten.length = k * xs.length := by
 induction k with
 | zero => simp
 | succ k ih => rw [List.replicate_succ, List.flatten_cons, List.length_append, ih, Nat.succ_mul, Nat.add_comm]
end
section
variable {prog : Program} {w : World} {A : Around} {E : Value -> Shared -> Prop} {s : Shared}
end
section
variable {X : Cx}
end
end L2
namespace Att
open PySem PySem.W PySem.Calls PyProof.Rows
theorem afS {P : Params} {h : Heap} : ∀ (ns : List Int) (vs : List Value), WellAll P h vs (ns.map WData.int) -> IntsAre vs ns := by
 intro ns
 induction ns with
 | nil =>
  intro vs w
  rw [List.map_nil] at w
  cases w
  exact .nil
 | cons n ns ih =>
  intro vs w
  rw [List.map_cons] at w
  cases w with
  | cons a b =>
   cases a
   exact .cons _ _ (ih _ b)
theorem alM {l : OpenLaw} {n : Nat} (hn : l.most = some n) {P : Params} {h : Heap} {args : List WData} {vals : List Value}
  (hpre : l.row.toRowW.claim.pre args = true) (hwl : WellAll P h vals args) :
  ∃ a vs ns, vals = [Value.ref a] /\ args = [WData.list (ns.map WData.int)] /\ h.get? a = some { cls := .type "list", data := .seq vs.toArray } /\ IntsAre vs ns /\ ns.length <= n := by
 have hsh : WShape.hasAll [] args [.list .int] = true := (pre_splitW hpre).1
 have hc : l.pre.holds [] { args := args } = true := (pre_splitW hpre).2
 obtain ⟨d, r, rfl, h1, h2⟩ := hasAllW_cons hsh
 obtain rfl := hasAllW_nil h2
 obtain ⟨xs, rfl, h3⟩ := hasW_list h1
 obtain ⟨ns, rfl⟩ := items_int h3
 have hlen : ns.length <= n := by
  unfold OpenLaw.pre at hc
  have h4 : (WTm.not (.lt (.lit (.int (n : Int))) (.len (.arg 0)))).holds [] { args := [.list (ns.map .int)] } = true := by
   have h4 := (holds_andW hc).1
   rw [hn] at h4
   exact h4
  have h5 := condW_of h4 (w_not (w_lt w_lit (w_len_list (w_arg rfl))))
  rw [List.length_map] at h5
  refine Nat.le_of_not_lt λq => ?_
  have q' : (n : Int) < ((ns.length : Nat) : Int) := by omega
  first
   | (rw [decide_eq_true q'] at h5; exact absurd h5 (by decide))
   | (simp at h5; omega)
 cases hwl with
 | cons w1 w2 =>
  cases w2
  cases w1 with
  | list ho hall => exact ⟨_, _, ns, rfl, rfl, ho, afS ns _ hall, hlen⟩
theorem alN (l : OpenLaw) (args : List WData) : l.row.toRowW.claim.post args (.bool true) args = true :=
 postW_of (r := l.row.toRowW) (X := (true == true))
  (show WShape.has [] (.bool true) .bool = true by first | rfl | decide | simp [WShape.has, WShape.arms, WShape.armsAll])
  (show (WTm.eq .res (.lit (.bool true))).value [] { args := args, res := some (.bool true), after := args } = some (.bool (true == true)) from w_eq_bool (w_res rfl) w_lit) rfl
theorem aiR {l : OpenLaw} {n : Nat} {q : Program} {loose : List Str} {XP : (Str -> Option Value) -> Heap -> Prop} {YP : World -> Heap -> Prop} {d : DefRec}
  (hn : l.most = some n) (hdf : d.params.defaults = [])
  (call : ∀ (w : World) (s₀ s₁ : Shared) (mg mb : Str -> Option Value) (fa : Addr) (o : Obj) (pm cd doc : Value) (a : Addr) (vs : List Value) (ns : List Int),
   Ground q loose [] XP w s₀ mg mb s₁.heap -> YP w s₁.heap ->
   s₁.heap.get? fa = some o -> o.data = .func (docDef d.name d.params d.body d.scope pm cd doc) -> s₁.heap.CodeRec cd d.name -> mg d.name = some (.ref fa) ->
   s₁.heap.get? a = some { cls := .type "list", data := .seq vs.toArray } -> IntsAre vs ns -> ns.length <= n -> s₁.gens = #[] ->
   codeAny (model l.prog w) callerA (.call (.ref fa) ⟨[.ref a], []⟩) (λr s' => r = .ok (.ret (.bool true)) /\ OldK s₁.heap s'.heap /\ s'.os = s₁.os /\ AllBare s'.gens) s₁) :
  WalkO q loose XP YP l.row.toRowW d [] (λf vs => PySem.call f vs) := by
 intro w s₀ s₁ mg mb G Y fa o pm cd doc dV kV ho hd hcd hD hmg hg args vals as hpre hlay hrd hwl hlo
 obtain rfl : dV = .none := Dflts.none hD hdf
 obtain rfl : kV = .none := Dflts.noKw hD
 obtain ⟨a, vs, ns, rfl, rfl, hobj, hints, hlen⟩ := alM hn hpre hwl
 refine enter_call (codeAny_mono (call w s₀ s₁ mg mb fa o pm cd doc a vs ns G Y ho (fd_plain hd) hcd hmg hobj hints hlen hg) λr s' hq => ?_)
 obtain ⟨rfl, h2, h3, h4⟩ := hq
 exact ⟨.inl ⟨.bool true, .bool true, [], rfl, λ_ => rfl, .bool true, alN l _, λ_ => ⟨List.Pairwise.nil, λ_ hm => (nomatch hm)⟩⟩, h2, h3, h4⟩
section
variable {prog : Program} {w : World} {A : Around} {E : Value -> Shared -> Prop} {s : Shared} {K : Frag}
end
end Att
namespace L2
open PySem PySem.Spec PyProof.Rows
theorem ah9 : ∀ {vs : List Value} {ns : List Int}, IntsAre vs ns -> Vals (ns.map V.int) vs
 | _, _, .nil => .nil
 | _, _, .cons n t h => .cons ⟨t, rfl⟩ (ah9 h)
end L2
namespace L2
open PySem PySem.Spec PyProof.Rows
end L2
namespace L2
open PySem PySem.Spec PyProof.Rows
noncomputable def acC (s : Stmt) : Arguments := match s with
 | .FunctionDef _ a _ _ _ _ _ _ _ _ => a
 | _ => { posonlyargs := [], args := [], vararg := none, kwonlyargs := [], kw_defaults := [], kwarg := none, defaults := [] }
noncomputable def abH (s : Stmt) : List Stmt := match s with
 | .FunctionDef _ _ b _ _ _ _ _ _ _ => b
 | _ => []
noncomputable def aak (s : Stmt) : Scope := match s with
 | .FunctionDef _ _ _ _ _ _ sc _ _ _ => sc
 | _ => { kind := .function, names := [], isGenerator := false, isCoroutine := false }
noncomputable abbrev E0 : XK := λ_ _ _ => False
structure Fun (K : PySem.W.Frag) (x qual : Str) (st : Stmt) (f : Addr) (fd : FuncData) : Prop where
 ex : ∃ (oc : Value) (od : Option Addr) (kV doc pm : Value) (an : Option Addr) (cdv ct : Value) (osl : Array (Option Value)),
  fd = PySem.W.fnOf x qual (acC st) (abH st) (aak st) .none kV doc pm an cdv ct /\ K.lookup f = some ⟨oc, od, .func fd, osl⟩ /\ PySem.W.codeIn K cdv qual = true
 kp : PySem.W.keepIn K (.ref f) = true
section
variable {P : Program} {w : World} {K : PySem.W.Frag} {mg : Str -> Option Value} {base : Heap}
theorem Fun.binds {x qual : Str} {st : Stmt} {f : Addr} {fd : FuncData} {ps : List Str} (F : Fun K x qual st f fd)
  (h : ∀ (kV doc pm : Value) (an : Option Addr) (cdv ct : Value) (us : List Value), us.length = ps.length -> bindArgs (PySem.W.fnOf x qual (acC st) (abH st) (aak st) .none kV doc pm an cdv ct) ⟨us, []⟩ = pure (ps.zip us)) : Binds K fd ps [] := by
 obtain ⟨oc, od, kV, doc, pm, an, cdv, ct, osl, rfl, lk, hcd⟩ := F.ex
 exact .all (h kV doc pm an cdv ct)
theorem aov {x qual : Str} {st : Stmt} {f : Addr} {oc : Value} {od an : Option Addr} {osl : Array (Option Value)} {kV doc pm cdv ct : Value} (l : K.lookup f = some ⟨oc, od, .func (PySem.W.fnOf x qual (acC st) (abH st) (aak st) .none kV doc pm an cdv ct), osl⟩)
  (c : PySem.W.codeIn K cdv qual = true) (k : PySem.W.keepIn K (.ref f) = true) : Fun K x qual st f (PySem.W.fnOf x qual (acC st) (abH st) (aak st) .none kV doc pm an cdv ct) := ⟨⟨oc, od, kV, doc, pm, an, cdv, ct, osl, rfl, l, c⟩, k⟩
end
theorem afT {n : Nat} (h : n <= 1000) : n < sizeLine := Nat.lt_of_le_of_lt h (by decide)
section
variable {X : Cx}
end
noncomputable def Same (H H' : Hp) : Prop := ∀ b o, H b = some o -> H' b = some o
theorem Same.refl (H : Hp) : Same H H := λ_ _ h => h
theorem Same.trans {H H1 H2 : Hp} (a : Same H H1) (b : Same H1 H2) : Same H H2 := λc o h => b c o (a c o h)
theorem Same.free {H H' : Hp} (e : Same H H') {l : Addr} (h : H' l = Option.none) : H l = Option.none := by
 cases q : H l with
 | none => rfl
 | some o =>
  rw [e l o q] at h
  cases h
theorem Same.seq {K : PySem.W.Frag} {H H' : Hp} {a : Addr} {xs : List V} (e : Same H H') (h : SqL K H a xs) : SqL K H' a xs := by
 rcases h with (h | ⟨o, h⟩) | h
 ·exact .inl (.inl (e _ _ h))
 ·exact .inl (.inr ⟨o, e _ _ h⟩)
 ·exact .inr h
end L2
end
section
namespace L2
open PySem PySem.Spec PyProof.Rows
section
variable {prog : Program} {w : World} {A : Around} {R : Result -> Shared -> Prop} {s : Shared}
theorem aiS {elt target iter : Expr} {scope : Scope} {pos : Pos} {it acc : Value} {env : Env} (I : Nat -> Shared -> Prop)
  (turn : ∀ n s, I n s -> wpAny (model prog w) A (pyNext it) (λr s₁ => match r with
   | none => R (.ok .next) s₁
   | some v => wpAny (model prog w) A (letOwnedTupleGo target it v) (λ_ s₁' => wpAny (model prog w) A (assign target env v) (λ_ s₂ => wpAny (model prog w) A (eval elt env) (λx s₃ =>
     wpAny (model prog w) A (call (.builtin "list.append") [acc, x]) (λ_ s₄ => ∃ m, m < n /\ I m s₄) (λ_ _ => False) s₃) (λ_ _ => False) s₂) (λ_ _ => False) s₁') (λ_ _ => False) s₁) (λ_ _ => False) s)
  (n : Nat) (h : I n s) :
  codeAny (model prog w) A (.compLoop (.ListComp elt [⟨target, iter, [], 0⟩] scope pos) 0 it acc env) R s := by
 refine codeAny_loop rfl I (λn s hI => ?_) n h
 show wpAny _ _ ((compTurn (.ListComp elt [⟨target, iter, [], 0⟩] scope pos) 0 it acc env).onRaise (λx => do noteFrame x env; theTreesLotGoes x)) _ _ s
 refine wpAny_noted (wpAny_noRaise ?_)
 rw [compTurn_list1]
 refine wpAny_bind (wpAny_standAt (wpAny_bind (wpAny_mono (turn n s hI) (λr s₁ h₁ => ?_) λ_ _ h' => h')))
 cases r with
 | none => exact wpAny_pure h₁
 | some v =>
  refine wpAny_bind (wpAny_mono h₁ (λ_ s₁' h₁' => ?_) λ_ _ h' => h')
  exact wpAny_bind (wpAny_mono h₁' (λ_ s₂ h₂ => wpAny_bind (wpAny_bind (wpAny_mono h₂ (λx s₃ h₃ => wpAny_bind (wpAny_mono h₃
   (λ_ s₄ h₄ => wpAny_pure (wpAny_pure ⟨rfl, h₄⟩)) λ_ _ h' => h')) λ_ _ h' => h'))) λ_ _ h' => h')
end
noncomputable def aas (cells : List (Str × Addr)) : List (Str × NameKind) -> List (Str × Addr) -> List (Str × Addr)
 | [], acc => acc
 | (n, k) :: r, acc => if k = .free then (match cells.lookup n with | some a => aas cells r ((n, a) :: acc) | none => aas cells r acc) else aas cells r acc
theorem abd {cells : List (Str × Addr)} {x : Str} {c : Addr} : ∀ {names : List (Str × NameKind)} {acc : List (Str × Addr)}, (aas cells names acc).lookup x = some c -> acc.lookup x = some c \/ cells.lookup x = some c
 | [], acc, h => .inl h
 | (n, k) :: r, acc, h => by
  unfold aas at h
  split at h
  ·split at h
   ·rename_i a ha
    rcases abd h with q | q
    ·by_cases e : x = n
     ·subst e
      rw [List.lookup_cons, beq_self_eq_true] at q
      cases q
      exact .inr ha
     ·rw [List.lookup_cons, beq_false_of_ne e] at q
      exact .inl q
    ·exact .inr q
   ·exact abd h
  ·exact abd h
theorem abk {cells : List (Str × Addr)} {x : Str} : ∀ {names : List (Str × NameKind)} {acc : List (Str × Addr)}, ((acc.lookup x).isSome = true \/ ((x, NameKind.free) ∈ names /\ (cells.lookup x).isSome = true)) -> ((aas cells names acc).lookup x).isSome = true
 | [], acc, h => by
  rcases h with h | ⟨h, _⟩
  ·exact h
  ·cases h
 | (n, k) :: r, acc, h => by
  have up : ∀ a, (acc.lookup x).isSome = true -> (List.lookup x ((n, a) :: acc)).isSome = true := λa q => by
   rw [List.lookup_cons]
   split
   ·rfl
   ·exact q
  unfold aas
  split
  ·rename_i hk
   split
   ·rename_i a ha
    refine abk ?_
    rcases h with h | ⟨h, hc⟩
    ·exact .inl (up a h)
    ·rcases List.mem_cons.mp h with e | e
     ·cases e
      refine .inl ?_
      rw [List.lookup_cons, beq_self_eq_true]
      rfl
     ·exact .inr ⟨e, hc⟩
   ·rename_i hn
    refine abk ?_
    rcases h with h | ⟨h, hc⟩
    ·exact .inl h
    ·rcases List.mem_cons.mp h with e | e
     ·cases e
      rw [hn] at hc; cases hc
     ·exact .inr ⟨e, hc⟩
  ·rename_i hk
   refine abk ?_
   rcases h with h | ⟨h, hc⟩
   ·exact .inl h
   ·rcases List.mem_cons.mp h with e | e
    ·cases e; exact absurd rfl hk
    ·exact .inr ⟨e, hc⟩
theorem adI {scope : Scope} {env : Env} (h : ∀ y ∈ scope.names, y.2 = .free -> (env.cells.lookup y.1).isSome = true) : closureFor scope env = pure (aas env.cells scope.names []) := by
 unfold closureFor
 suffices q : ∀ (names : List (Str × NameKind)) (acc : List (Str × Addr)), (∀ y ∈ names, y.2 = .free -> (env.cells.lookup y.1).isSome = true) ->
   (forIn names acc λx r => do
    match x with
    | (name, kind) => if (kind == NameKind.free) = true then do let a <-cellOf env name; pure (ForInStep.yield ((name, a) :: r)) else pure (ForInStep.yield r) : Sem _) = pure (aas env.cells names acc) by
  have z := q scope.names [] h
  exact (congrArg (λm => m >>= λcs => pure cs) z)
 intro names
 induction names with
 | nil => intro acc _; rfl
 | cons y r ih =>
  intro acc hy
  obtain ⟨n, k⟩ := y
  rw [List.forIn_cons]
  unfold aas
  by_cases hk : k = .free
  ·subst hk
   rw [if_pos rfl]
   have q := hy (n, .free) List.mem_cons_self rfl
   cases e : env.cells.lookup n with
   | none => rw [e] at q; cases q
   | some a =>
    have ec : cellOf env n = pure a := by unfold cellOf; rw [e]
    simp only [ec]
    exact ih _ λz hz => hy z (List.mem_cons_of_mem _ hz)
  ·rw [if_neg hk]
   have hb : (k == NameKind.free) = false := by simpa using hk
   simp only [hb]
   exact ih _ λz hz => hy z (List.mem_cons_of_mem _ hz)
theorem acD {env : Env} : ∀ {names : List (Str × NameKind)} {x : Str}, names.lookup x = some .free ->
  (names.map λ(n, k) => if (k == NameKind.free && env.scope.kind == .function && env.kindOf n == some .cell) then (n, NameKind.cell) else (n, k)).lookup x = some .cell \/
  (names.map λ(n, k) => if (k == NameKind.free && env.scope.kind == .function && env.kindOf n == some .cell) then (n, NameKind.cell) else (n, k)).lookup x = some .free
 | [], _, h => by simp at h
 | (n, k) :: r, x, h => by
  have ih := @acD env r x
  rw [List.map_cons]
  dsimp only
  cases hx : x == n with
  | true =>
   simp only [List.lookup_cons, hx] at h
   cases h
   by_cases hc : (NameKind.free == NameKind.free && env.scope.kind == .function && env.kindOf n == some .cell) = true
   ·rw [if_pos hc]; simp [List.lookup_cons, hx]
   ·rw [if_neg hc]; simp [List.lookup_cons, hx]
  | false =>
   simp only [List.lookup_cons, hx] at h
   by_cases hc : (k == NameKind.free && env.scope.kind == .function && env.kindOf n == some .cell) = true
   ·rw [if_pos hc]; simp only [List.lookup_cons, hx]; exact ih h
   ·rw [if_neg hc]; simp only [List.lookup_cons, hx]; exact ih h
theorem ae8 {env : Env} : ∀ {names : List (Str × NameKind)} {x : Str},
  ((names.map λ(n, k) => if (k == NameKind.free && env.scope.kind == .function && env.kindOf n == some .cell) then (n, NameKind.cell) else (n, k)).lookup x = some .cell \/
  (names.map λ(n, k) => if (k == NameKind.free && env.scope.kind == .function && env.kindOf n == some .cell) then (n, NameKind.cell) else (n, k)).lookup x = some .free) -> names.lookup x = some .cell \/ names.lookup x = some .free
 | [], _, h => by simp at h
 | (n, k) :: r, x, h => by
  have ih := @ae8 env r x
  rw [List.map_cons] at h
  dsimp only at h
  cases hx : x == n with
  | true =>
   by_cases hcc : (k == NameKind.free && env.scope.kind == .function && env.kindOf n == some .cell) = true
   ·have hk : k = .free := by
     simp only [Bool.and_eq_true, beq_iff_eq] at hcc
     exact hcc.1.1
    subst hk
    exact .inr (by simp only [List.lookup_cons, hx])
   ·rw [if_neg hcc] at h
    simp only [List.lookup_cons, hx] at h ⊢
    exact h
  | false =>
   have q := ih (by
    by_cases hcc : (k == NameKind.free && env.scope.kind == .function && env.kindOf n == some .cell) = true
    ·rw [if_pos hcc] at h; simp only [List.lookup_cons, hx] at h; exact h
    ·rw [if_neg hcc] at h; simp only [List.lookup_cons, hx] at h; exact h)
   simp only [List.lookup_cons, hx]
   exact q
theorem aa1 : ∀ (names : List (Str × NameKind)) (n : Nat) (acc : List (Str × Addr)), cellsFrom n names acc = cellsFrom n names [] ++ acc
 | [], _, _ => rfl
 | (x, k) :: r, n, acc => by
  unfold cellsFrom
  split
  ·rw [aa1 r (n + 1) ((x, n) :: acc), aa1 r (n + 1) [(x, n)], List.append_assoc]
   rfl
  ·exact aa1 r n acc
theorem acU : ∀ (names : List (Str × NameKind)) (n : Nat) {x : Str} {c : Addr}, (x, c) ∈ cellsFrom n names [] -> (x, NameKind.cell) ∈ names
 | [], _, _, _, h => by cases h
 | (y, k) :: r, n, x, c, h => by
  unfold cellsFrom at h
  split at h
  ·rename_i hk
   have hk : k = .cell := by simpa using hk
   rw [aa1] at h
   rcases List.mem_append.mp h with z | z
   ·exact List.mem_cons_of_mem _ (acU r _ z)
   ·have z := List.mem_singleton.mp z
    cases z
    rw [hk]
    exact List.mem_cons_self
  ·exact List.mem_cons_of_mem _ (acU r _ h)
theorem acv (x : Str) : ∀ (a b : List (Str × Addr)), (a ++ b).lookup x = (match a.lookup x with | some c => some c | none => b.lookup x)
 | [], _ => rfl
 | (y, c) :: r, b => by
  have ih := acv x r b
  rw [List.cons_append, List.lookup_cons, List.lookup_cons]
  cases h : x == y with
  | true => rfl
  | false => exact ih
theorem adk {M : Model} {A : Around} {E : Value -> Shared -> Prop} {s : Shared} {scope : Scope} {globals : Addr} {cl : List (Str × Addr)} {qual : Str} {env : Env} {Q : Env -> Shared -> Prop}
  (hQ : ∀ h', h'.Ns s.heap.objs.size (λ_ => none) -> (∀ b o, s.heap.get? b = some o -> h'.get? b = some o) -> CellsOk h' (s.heap.objs.size + 1) (cellsFrom (s.heap.objs.size + 1) scope.names []) ->
   Q { scope := scope, locals := s.heap.objs.size, globals := globals, cells := cellsFrom (s.heap.objs.size + 1) scope.names cl, qual := qual, func := none, code := env.code, frame := env.frame, builtins := env.builtins } { s with heap := h', toks := s.toks + ([] : List (Str × Value)).length }) :
  wpAny M A (newFunctionEnv scope globals cl [] qual none .none (some env)) Q E s := by
 simp only [newFunctionEnv, Option.isSome_some, if_true]
 refine wpAny_bind (wpAny_alloc ?_)
 refine wpAny_bind (wpAny_layCells _ (λname kind cells => by cases hkc : kind == NameKind.cell <;> simp [hkc]) _ _ _ _ ?_)
 have ok := cellsFrom_ok scope.names (s.heap.push { cls := .type "dict", data := .dict #[] }) (s.heap.objs.size + 1) [] ⟨λ_ _ hm => (nomatch hm), List.Pairwise.nil⟩ (by rw [Heap.size_push]; exact Nat.le_refl _)
 rw [Heap.size_push] at ok
 rw [show ({ s with heap := s.heap.push { cls := .type "dict", data := .dict #[] } } : Shared).heap.objs.size = s.heap.objs.size + 1 from Heap.size_push ..]
 rw [List.forIn_nil]
 exact wpAny_bind (wpAny_pure (wpAny_pure (hQ _ ((Heap.Ns.new s.heap (.type "dict")).keeps (pushCells_keeps _ _)) (λb o e => pushCells_keeps _ _ b o (Heap.get?_push_of_some _ e)) ok)))
structure afU (sc : Scope) (No N : List Str) (src : List (Option Nat)) (scope : Scope) : Prop where
 kind : scope.kind = .function
 cells : ∀ y ∈ scope.names, y.2 = .cell -> scope.names.lookup y.1 = some .cell
 names : ∀ y ∈ scope.names, y.2 = .local -> scope.names.lookup y.1 = some .local
 free : ∀ y ∈ scope.names, y.2 = .free -> sc.names.lookup y.1 = some .cell \/ sc.names.lookup y.1 = some .free
 len : src.length = N.length
 up : ∀ p ∈ N.zip src, ∀ j ∈ p.2, No[j]? = some p.1 /\ scope.names.lookup p.1 = some .free
noncomputable def aeK (src : List (Option Nat)) (σ : St) : St := src.map λo => o.bind λj => (σ[j]?).join
noncomputable def abB (X : Cx) (N : List Str) (scope : Scope) (C : Addr) (s : Shared) (H : Hp) (ex : List Addr) : Cx where
 prog := X.prog
 w := X.w
 K := X.K
 mg := X.mg
 base := X.base
 A := X.A
 N := N
 s₀ := s
 H₀ := H
 env := compEnvC scope (cellsFrom (C + 1) scope.names (aas X.env.cells scope.names [])) C X.env
 outer := X.stack
 stack := X.stack
 ex := ex
 fn := λx => scope.names.lookup x == some .cell
 calm := X.calm
 pn := []
 xe := λ_ _ => False
noncomputable def QAt (Q : VK) (D : Addr) (H : Hp) : Prop := Q (.ref D) H
noncomputable def akz (wi : TI) (g : TG) (src : List (Option Nat)) (te : TE) : TE := λσ H Q => wi σ H λJ H1 => ∀ D, H1 D = none ->
 ∃ W : Nat -> Nat -> St -> Hp -> Prop, (∃ m, W 0 m (aeK src σ) (upd H1 D (.lst []))) /\ ∀ i m σ' H', W i m σ' H' ->
  (J.stop i H' /\ QAt Q D H') \/ (J.go i H' /\ ∀ x H'', J.yld i H' x H'' -> g x σ' H'' λσ2 H2 => te σ2 H2 λv H3 => ∃ xs, H3 D = some (.lst xs) /\ xs.length < sizeLine /\ ∃ m', m' < m /\ W (i + 1) m' σ2 (upd H3 D (.lst (xs ++ [v]))))
section
variable {X : Cx} {elt tg iter : Expr} {scope sc : Scope} {pos : Pos} {No N : List Str} {src : List (Option Nat)} {wi : TI} {g : TG} {te : TE}
theorem agU {pins : List (Addr × Obj)} {σ : St} {H : Hp} {s : Shared} {h₁ : Heap} {fp : List Addr} {tk : Nat} (hsc : X.env.scope = sc) (hNo : X.N = No) (S : afU sc No N src scope) (I : Inv X pins σ H s)
  (hf : ∀ b ∈ fp, ad7 X pins H b) (hlt : ∀ b ∈ fp, b < s.heap.objs.size)
  (hns : h₁.Ns s.heap.objs.size (λ_ => none)) (old : ∀ b o, s.heap.get? b = some o -> h₁.get? b = some o) (ck : CellsOk h₁ (s.heap.objs.size + 1) (cellsFrom (s.heap.objs.size + 1) scope.names [])) :
  Inv (abB X N scope s.heap.objs.size s H fp) [] (aeK src σ) H { s with heap := h₁, toks := tk } := by
 subst hsc
 subst hNo
 have aeL : ∀ x c, (cellsFrom (s.heap.objs.size + 1) scope.names (aas X.env.cells scope.names [])).lookup x = some c -> (cellsFrom (s.heap.objs.size + 1) scope.names []).lookup x = some c \/ X.env.cells.lookup x = some c := λx c h => by
  rw [aa1, acv] at h
  split at h
  ·rename_i e
   exact .inl (e.trans h)
  ·rcases abd h with q | q
   ·simp at q
   ·exact .inr q
 have big : ∀ x c, (cellsFrom (s.heap.objs.size + 1) scope.names []).lookup x = some c -> s.heap.objs.size + 1 <= c := λx c h => (ck.empty x c (PySem.mem_of_lookup h)).2
 have ltc : ∀ x c, X.env.cells.lookup x = some c -> c < s.heap.objs.size := λx c e => by
  obtain ⟨v, q⟩ := I.cell x c e
  exact q.lt
 have ayS : ∀ b ∈ frs X.stack, b < s.heap.objs.size := λb hb => by
  obtain ⟨_, o, ho, _⟩ := I.stack.mem hb
  exact Heap.lt_size ho
 refine ⟨⟨I.ok.mod, S.kind, I.ok.glob, I.ok.blt, Nat.le_refl _, λx y c h1 h2 => ?_, λx hx => ?_, λx c hfn h => ?_, I.ok.hd, I.ok.frames, .inl rfl, λb hb => ⟨Nat.ne_of_lt (hlt b hb), λx c e => ?_⟩,
   I.bs, Nat.le_trans I.ok.bsz I.sz, λb o e hb => ?_, λb hb hb' => ?_, I.stack, I.aeG⟩,
  rfl, I.bare, Un.kept old, ⟨_, hns, λi x v h1 h2 h3 => ?_⟩, λx c e => ?_, I.hok.fresh (Nat.le_refl _), λx c e => ?_, λp hp => absurd (show p ∈ ([] : List (Addr × Obj)) from hp) (by simp), I.hok.kept old, ?_⟩
 ·rcases aeL _ _ h1 with z1 | z1
  ·rcases aeL _ _ h2 with z2 | z2
   ·exact name_of_addr ck.apart (PySem.mem_of_lookup z1) (PySem.mem_of_lookup z2)
   ·exact absurd (Nat.le_trans (big _ _ z1) (Nat.le_of_lt (ltc _ _ z2))) (Nat.not_succ_le_self _)
  ·rcases aeL _ _ h2 with z2 | z2
   ·exact absurd (Nat.le_trans (big _ _ z2) (Nat.le_of_lt (ltc _ _ z1))) (Nat.not_succ_le_self _)
   ·exact I.ok.inj x y c z1 z2
 ·-- every cell or free name has its cell
  rcases ae8 hx with m | m
  ·exact Option.isSome_iff_exists.mp (PySem.W.cellsFrom_some _ _ _ (.inl m))
  ·have m := PySem.mem_of_lookup m
   have q := abk (cells := X.env.cells) (acc := []) (.inr ⟨m, by
    obtain ⟨c, e⟩ := I.ok.has x (S.free _ m rfl)
    rw [e]; rfl⟩)
   exact Option.isSome_iff_exists.mp (PySem.W.cellsFrom_some _ _ _ (.inr q))
 ·have hfn : scope.names.lookup x = some .cell := by
   have z : (scope.names.lookup x == some .cell) = true := hfn
   simpa using z
  obtain ⟨c', e'⟩ := Option.isSome_iff_exists.mp (PySem.W.cellsFrom_some _ (s.heap.objs.size + 1) [] (.inl hfn))
  have h : (cellsFrom (s.heap.objs.size + 1) scope.names (aas X.env.cells scope.names [])).lookup x = some c := h
  rw [aa1, acv, e'] at h
  cases h
  exact Nat.le_of_succ_le (big _ _ e')
 ·rcases aeL _ _ e with z | z
  ·exact λy => absurd (Nat.le_trans (big _ _ z) (y ▸ Nat.le_of_lt (hlt b hb))) (Nat.not_succ_le_self _)
  ·exact (hf b hb).2.2.2.2.1 x c z
 ·obtain ⟨f0, f1, f2, f3, f4, f5⟩ := hf b hb
  rcases f3 with z | z
  ·exact I.ok.aiN b o e z
  ·have q := Heap.lt_size (I.ok.bs b o e).1
   exact absurd q (Nat.not_lt.mpr z)
 ·obtain ⟨f0, f1, f2, _⟩ := hf b hb
  rcases List.mem_cons.mp (I.ahV b hb') with z | z
  ·exact f1 z
  ·exact f2 z
 ·have hi : i < src.length := by
   unfold aeK at h2
   have := (List.getElem?_eq_some_iff.mp h2).1
   simpa using this
  have h2' : ((src[i]).bind λj => (σ[j]?).join) = some v := by
   unfold aeK at h2
   rw [List.getElem?_map, List.getElem?_eq_getElem hi] at h2
   exact Option.some.inj h2
  cases es : src[i] with
  | none => rw [es] at h2'; cases h2'
  | some j =>
   rw [es] at h2'
   have hj : σ[j]? = some (some v) := by
    have z : (σ[j]?).join = some v := h2'
    cases q : σ[j]? with
    | none => rw [q] at z; cases z
    | some o => rw [q] at z; have z' : o = some v := z; rw [z']
   have hz : (x, some j) ∈ N.zip src := by
    refine List.mem_of_getElem? (i := i) ?_
    rw [List.getElem?_zip_eq_some]
    exact ⟨h1, by rw [List.getElem?_eq_getElem hi, es]⟩
   obtain ⟨u1, u2⟩ := S.up _ hz j rfl
   have m : (x, NameKind.free) ∈ scope.names := PySem.mem_of_lookup u2
   have kx := S.free _ m rfl
   obtain ⟨m0, hn0, hl0⟩ := id I.loc
   obtain ⟨u, r, lk⟩ := hl0 j x v u1 hj (kx.elim (λz => .inr (.inl z)) λz => .inr (.inr z))
   refine ⟨u, r, ?_⟩
   rcases lk with ⟨k, _⟩ | ⟨_, c, e, ic⟩
   ·have k' : X.env.scope.names.lookup x = some .local := k
    rcases kx with z | z
    ·rw [z] at k'; cases k'
    ·rw [z] at k'; cases k'
   ·refine .inr ⟨acD u2, c, ?_, ?_⟩
    ·have q := abk (cells := X.env.cells) (acc := []) (.inr ⟨m, by rw [e]; rfl⟩)
     obtain ⟨c', e'⟩ := Option.isSome_iff_exists.mp q
     have e2 : X.env.cells.lookup x = some c' := by
      rcases abd e' with q | q
      ·simp at q
      ·exact q
     rw [e] at e2; cases e2
     show (cellsFrom (s.heap.objs.size + 1) scope.names (aas X.env.cells scope.names [])).lookup x = some c
     rw [aa1, acv]
     split
     ·rename_i c2 z
      have y := S.cells _ (acU _ _ (PySem.mem_of_lookup z)) rfl
      rw [u2] at y; cases y
     ·exact e'
    ·obtain ⟨o, ho, hd⟩ := ic
     exact ⟨o, old _ _ ho, hd⟩
 ·rcases aeL _ _ e with z | z
  ·exact ⟨_, (ck.empty x c (PySem.mem_of_lookup z)).1⟩
  ·obtain ⟨v, o, ho, hd⟩ := I.cell x c z
   exact ⟨v, o, old _ _ ho, hd⟩
 ·rcases aeL _ _ e with z | z
  ·exact I.hok.fresh (Nat.le_of_succ_le (big _ _ z))
  ·exact I.aef x c z
 ·unfold aeK
  rw [List.length_map]
  exact S.len
theorem ajL {pins : List (Addr × Obj)} {σ : St} {H : Hp} {s : Shared} {Q : VK} {RR : Value -> Addr -> Result -> Shared -> Prop} (hsc : X.env.scope = sc) (hNo : X.N = No) (S : afU sc No N src scope) (hc : X.calm = true)
  (hi : PI X tg iter wi) (hg : ∀ C s H ex, PG (abB X N scope C s H ex) tg g) (he : ∀ C s H ex, PE (abB X N scope C s H ex) elt te) (I : Inv X pins σ H s) (h : akz wi g src te σ H Q)
  (hRR : ∀ D C H' s' m, Inv X pins σ H' s' -> H' C = none -> C ≠ X.env.locals -> X.s₀.heap.objs.size <= C -> (∀ x c, X.env.cells.lookup x = some c -> c ≠ C) -> (∀ p ∈ X.pn ++ pins, p.1 ≠ C) -> s'.heap.Ns C m -> Q (.ref D) H' -> RR (.ref D) C (.ok .next) s') :
  wpAny (model X.prog X.w) X.A (eval iter X.env) (λx s₁ => wpAny (model X.prog X.w) X.A (pyIter x) (λit s₂ => wpAny (model X.prog X.w) X.A (newList []) (λacc s₃ =>
   wpAny (model X.prog X.w) X.A (newFunctionEnv scope X.env.globals (aas X.env.cells scope.names []) [] X.env.qual none .none (some X.env)) (λcenv s₄ =>
    codeAny (model X.prog X.w) X.A (.compStart (.ListComp elt [⟨tg, iter, [], 0⟩] scope pos) 0 it acc { cenv with scope := relabel scope X.env }) (RR acc cenv.locals) s₄) X.xe s₃) X.xe s₂) X.xe s₁) X.xe s := by
 refine thn (hi pins s σ H _ I h) λv s1 h1 => thn h1 λitv s2 h2 => ?_
 obtain ⟨it, fp, tn, J, H2, e, I2, T, st2, f2, hW⟩ := h2
 subst e
 have hD0 : H2 s2.heap.objs.size = none := I2.hok.fresh (Nat.le_refl _)
 obtain ⟨W, ⟨m0, w0⟩, turn⟩ := hW s2.heap.objs.size hD0
 have arp : ∀ b ∈ fp, b < s2.heap.objs.size := λb hb => by
  obtain ⟨o, e, _⟩ := T.obj 0 _ st2 b hb
  exact Heap.lt_size e
 refine wpAny_newObj_type ?_
 have I3 : Inv X pins σ (upd H2 s2.heap.objs.size (.lst [])) { s2 with heap := s2.heap.push { cls := .type "list", dict := none, data := .seq ([] : List Value).toArray } } := I2.atH (t' := s2.toks) (ys := []) .nil (Nat.zero_le _)
 have f3 : ∀ b ∈ fp, ad7 X pins (upd H2 s2.heap.objs.size (.lst [])) b := λb hb => by
  obtain ⟨q, r⟩ := f2 b hb
  exact ⟨by rw [aaw (Nat.ne_of_lt (arp b hb))]; exact q, r⟩
 have st3 : tn 0 (s2.heap.push { cls := .type "list", dict := none, data := .seq ([] : List Value).toArray }) := T.keep _ _ _ st2 λb hb o e => Heap.get?_push_of_some _ e
 have lt3 : ∀ b ∈ fp, b < (s2.heap.push { cls := .type "list", dict := none, data := .seq ([] : List Value).toArray }).objs.size := λb hb => by
  rw [Heap.size_push]; exact Nat.lt_succ_of_lt (arp b hb)
 generalize hD : s2.heap.objs.size = D at *
 generalize hh3 : s2.heap.push { cls := .type "list", dict := none, data := .seq ([] : List Value).toArray } = h3 at *
 generalize hH3 : upd H2 D (.lst []) = H3 at *
 refine adk λh₁ hns old ck => ?_
 dsimp only at hns old ck ⊢
 have I4 : Inv (abB X N scope h3.objs.size { s2 with heap := h3 } H3 fp) [] (aeK src σ) H3 { s2 with heap := h₁, toks := s2.toks + ([] : List (Str × Value)).length } := agU (s := { s2 with heap := h3 }) hsc hNo S I3 f3 lt3 hns old ck
 have st4 : tn 0 h₁ := T.keep _ _ _ st3 λb hb o e => old b o e
 have loop : codeAny (model X.prog X.w) X.A (.compLoop (.ListComp elt [⟨tg, iter, [], 0⟩] scope pos) 0 (.ref it) (.ref D) (compEnvC scope (cellsFrom (h3.objs.size + 1) scope.names (aas X.env.cells scope.names [])) h3.objs.size X.env)) (RR (.ref D) h3.objs.size) { s2 with heap := h₁, toks := s2.toks + ([] : List (Str × Value)).length } := by
  have stat : ∀ {H' : Hp}, (∀ b ∈ fp, H' b = none) -> ∀ b ∈ fp, ad7 (abB X N scope h3.objs.size { s2 with heap := h3 } H3 fp) [] H' b := λhn b hb => by
   obtain ⟨g0, g1, g2, g3, g4, g5⟩ := f3 b hb
   refine ⟨hn b hb, Nat.ne_of_lt (lt3 b hb), λz => ?_, .inl hb, λx c e => ?_, λp hp => absurd (show p ∈ ([] : List (Addr × Obj)) from hp) (by simp)⟩
   ·rcases List.mem_cons.mp (I3.ahV b z) with z | z
    ·exact g1 z
    ·exact g2 z
   ·have e : (cellsFrom (h3.objs.size + 1) scope.names (aas X.env.cells scope.names [])).lookup x = some c := e
    rw [aa1, acv] at e
    split at e
    ·rename_i z
     cases e
     exact λy => absurd (Nat.le_trans (ck.empty x c (PySem.mem_of_lookup z)).2 (y ▸ Nat.le_of_lt (lt3 b hb))) (Nat.not_succ_le_self _)
    ·rcases abd e with q | q
     ·simp at q
     ·exact g4 x c q
  refine aiS (λn s' => ∃ i σ' H', Inv (abB X N scope h3.objs.size { s2 with heap := h3 } H3 fp) [] σ' H' s' /\ tn i s'.heap /\ (∀ b ∈ fp, H' b = none) /\ W i n σ' H') ?_ m0 ⟨0, aeK src σ, H3, I4, st4, λb hb => (f3 b hb).1, w0⟩
  rintro n s5 ⟨i, σ5, H5, I5, st5, fr5, w5⟩
  rcases turn i n σ5 H5 w5 with ⟨stop, qn⟩ | ⟨go, step⟩
  ·refine thn (T.done (abB X N scope h3.objs.size { s2 with heap := h3 } H3 fp) rfl rfl rfl hc i [] s5 σ5 H5 (λ_ _ => False) I5 (stat fr5) st5 stop) λr s6 ⟨hr, I6⟩ => ?_
   subst hr
   obtain ⟨mC, hnC, _⟩ := id I6.loc
   have I7 : Inv X pins σ H5 s6 := I3.call' (ch := fp) I6.os I6.base I6.hok I6.bare λb hb => by
    obtain ⟨g0, g1, g2, g3, g4, g5⟩ := f3 b hb
    exact ⟨g3, g1, g4, g5⟩
   refine hRR D h3.objs.size H5 s6 mC I7 I6.free (Nat.ne_of_gt I3.lt) I3.sz (λx c e z => ?_) (λp hp z => ?_) hnC qn
   ·obtain ⟨v, q⟩ := I3.cell x c e
    exact absurd q.lt (by rw [z]; exact Nat.lt_irrefl _)
   ·exact absurd (Heap.lt_size (I3.pin p hp).1) (by rw [z]; exact Nat.lt_irrefl _)
  ·refine thn (T.item (abB X N scope h3.objs.size { s2 with heap := h3 } H3 fp) rfl rfl rfl hc i [] s5 σ5 H5 (λ_ _ => False) I5 (stat fr5) st5 go) λr s6 ⟨u, hr, h6⟩ => ?_
   subst hr
   refine thn h6 λ_ s7 ⟨x, H7, I7, r7, y7, st7, fr7⟩ => ?_
   have I7' := I7.pinned (stat fr7) (T.obj _ _ st7)
   refine thn (hg _ _ _ _ _ s7 σ5 H7 x u _ I7' r7 (step x H7 y7)) λ_ s8 ⟨σ8, H8, I8, q8⟩ => ?_
   refine thn (he _ _ _ _ _ s8 σ8 H8 _ I8 q8) λyv s9 ⟨y, H9, I9, r9, q9⟩ => ?_
   obtain ⟨xs, e9, l9, m', hm, w9⟩ := q9
   refine thn (aej (X := abB X N scope h3.objs.size { s2 with heap := h3 } H3 fp) _ s9 σ8 H9 (.ref D) [y] (.ref D) [yv] (λ_ H' => W (i + 1) m' σ8 H') I9 rfl (.cons r9 .nil) ⟨D, xs, y, rfl, rfl, e9, l9, w9⟩) λ_ s10 ⟨_, H10, I10, _, q10⟩ => ?_
   refine ⟨m', hm, i + 1, σ8, H10, I10.adH (pins := []), T.keep _ _ _ st7 λb hb o e => (I10.pin (b, o) (List.mem_append_right _ (List.mem_append_right _ (abR hb e)))).1, λb hb => ?_, q10⟩
   obtain ⟨o, e, d⟩ := T.obj _ _ st7 b hb
   exact (I10.pin (b, o) (List.mem_append_right _ (List.mem_append_right _ (abR hb e)))).2.1
 exact codeAny_compStart_list loop (T.self _ _ _ _ _ st4 loop)
theorem ahf (hsc : X.env.scope = sc) (hNo : X.N = No) (S : afU sc No N src scope) (hc : X.calm = true)
  (hi : PI X tg iter wi) (hg : ∀ C s H ex, PG (abB X N scope C s H ex) tg g) (he : ∀ C s H ex, PE (abB X N scope C s H ex) elt te)
  (hs : ∀ x, foldedSetIterable iter X.env x = pure x := by intro _; rfl) : PE X (.ListComp elt [⟨tg, iter, [], 0⟩] scope pos) (akz wi g src te) := by
 refine ⟨λpins s σ H Q I h => ?_⟩
 rw [eval_ListComp]
 have hcl : closureFor scope X.env = pure (aas X.env.cells scope.names []) := adI λy hy e => by
  have k := S.free y hy e
  rw [<-hsc] at k
  obtain ⟨c, q⟩ := I.ok.has y.1 k
  rw [q]; rfl
 refine wpAny_comprehension_free (use := none) rfl hs hcl S.kind S.names (ajL (RR := λacc C => compPost (model X.prog X.w) X.A X.xe none (EP X pins σ Q) acc C) hsc hNo S hc hi hg he I h ?_)
 intro D C H' s' m I' n1 n2 n3 n4 n5 hn q
 refine ⟨m, hn, λh' hs' => ⟨.ref D, H', ?_, rfl, q⟩⟩
 exact I'.turned (t' := s'.toks) (λb o hb e => (hs'.2 b hb).trans e) n1 (Ne.symm (Ne.symm n2)) (.inr n3) n4 n5
theorem aeM {i : Nat} {y : Str} {py spos : Pos} (hN : X.N.Nodup) (hyi : X.N[i]? = some y) (hy : Loc X.env.scope y) (hsc : X.env.scope = sc) (hNo : X.N = No) (S : afU sc No N src scope) (hc : X.calm = true)
  (hi : PI X tg iter wi) (hg : ∀ C s H ex, PG (abB X N scope C s H ex) tg g) (he : ∀ C s H ex, PE (abB X N scope C s H ex) elt te)
  (hsw : swapsWith (.ListComp elt [⟨tg, iter, [], 0⟩] scope pos) (some (.Name y py)) spos.line X.env = pure true := by rfl) (hs : ∀ x, foldedSetIterable iter X.env x = pure x := by intro _; rfl)
  (hf : X.fn y = true \/ X.env.scope.names.lookup y = some .local := by first | exact .inl rfl | exact .inr rfl | assumption) :
  PS X (.Assign [.Name y py] (.ListComp elt [⟨tg, iter, [], 0⟩] scope pos) spos) (am1 (akz wi g src te) (acS i)) := by
 refine ⟨λpins s σ H D I h => ?_⟩
 rw [exec_Assign_Name_used _ _ _ _ hsw]
 have hcl : closureFor scope X.env = pure (aas X.env.cells scope.names []) := adI λy hy e => by
  have k := S.free y hy e
  rw [<-hsc] at k
  obtain ⟨c, q⟩ := I.ok.has y.1 k
  rw [q]; rfl
 refine wpAny_bind (wpAny_standAt (wpAny_bind ?_))
 show wpAny _ X.A (do let _ <-comprehension (.ListComp elt [⟨tg, iter, [], 0⟩] scope pos) scope X.env _ (newList []) false (eval iter X.env) (some (assign (.Name y py) X.env))) _ _ s
 refine wpAny_bind (wpAny_mono (wpAny_comprehension_free (use := some (assign (.Name y py) X.env)) (Q := λ_ s' => SP X pins D .next s') rfl hs hcl S.kind S.names
  (ajL (Q := λv H' => D.nx (σ.set i (some v)) H') (RR := λacc C => compPost (model X.prog X.w) X.A X.xe (some (assign (.Name y py) X.env)) (λ_ s' => SP X pins D .next s') acc C) hsc hNo S hc hi hg he I h ?_)) (λ_ s' hq => wpAny_pure (wpAny_pure hq)) λ_ _ e => e)
 intro Da C H' s' m I' n1 n2 n3 n4 n5 hn q
 show wpAny _ X.A (assign (.Name y py) X.env (.ref Da)) _ _ _
 refine wpAny_assign_Name (afN I' hN hyi hy (v := .ref Da) rfl (λs2 I2 hsame => ?_) hf)
 obtain ⟨a, hsb, ha⟩ := hsame
 have hCa : C ≠ a := by
  rcases ha with z | z
  ·rw [z]; exact n2
  ·exact λe => n4 y a z e.symm
 refine ⟨m, hn.sameBut hsb hCa, λh' hs' => ⟨σ.set i (some (.ref Da)), H', ?_, q⟩⟩
 exact I2.turned (t' := s2.toks) (λb o hb e => (hs'.2 b hb).trans e) n1 n2 (.inr n3) n4 n5
end
section
variable {K : PySem.W.Frag} {g : TG} {te : TE} {Q : VK}
end
end L2
end
section
namespace L2
open PySem PySem.Spec PyProof.Rows
noncomputable def atJ (e C : Addr) (h : Heap) : Prop := ∃ o vs, h.get? e = some o /\ o.cls = .ref C /\ o.data = .fields vs
noncomputable def exO (e C : Addr) : HO := .ext (atJ e C)
noncomputable def abN : List Str := ["NoBottom", "NoBook", "NoList", "NoRule", "NoCount", "NoLooks", "NoThings", "NotSure", "NoSlack", "NoThing", "NoWorth", "TooMany", "NoText", "NoLine"]
inductive Tr where
 | non | bl (b : Bool) | int (i : Int) | str (x : Str) | tup (ts : List Tr) | lst (ts : List Tr) | exn (c : Str)
mutual
inductive Rep (K : PySem.W.Frag) (H : Hp) : V -> Tr -> Prop
 | non : Rep K H .non .non
 | bl (b : Bool) : Rep K H (.bl b) (.bl b)
 | int (i : Int) : Rep K H (.int i) (.int i)
 | str (x : Str) : Rep K H (.str x) (.str x)
 | tup {a : Addr} {xs : List V} {ts : List Tr} (h : SqT K H a xs) (r : aaO K H xs ts) : Rep K H (.ref a) (.tup ts)
 | lst {a : Addr} {xs : List V} {ts : List Tr} (h : SqL K H a xs) (r : aaO K H xs ts) : Rep K H (.ref a) (.lst ts)
 | exn {a C : Addr} {c : Str} (h : H a = some (exO a C)) (m : c ∈ abN) (n : PySem.W.nsIn K mainGlobals c = some (some (.ref C))) : Rep K H (.ref a) (.exn c)
inductive aaO (K : PySem.W.Frag) (H : Hp) : List V -> List Tr -> Prop
 | nil : aaO K H [] []
 | cons {x : V} {t : Tr} {xs : List V} {ts : List Tr} (h : Rep K H x t) (r : aaO K H xs ts) : aaO K H (x :: xs) (t :: ts)
end
theorem Same.aqJ {K : PySem.W.Frag} {H H' : Hp} {a : Addr} {xs : List V} (e : Same H H') (h : SqT K H a xs) : SqT K H' a xs := by
 rcases h with (h | ⟨o, h⟩) | h
 ·exact .inl (.inl (e _ _ h))
 ·exact .inl (.inr ⟨o, e _ _ h⟩)
 ·exact .inr h
mutual
theorem Rep.mono {K : PySem.W.Frag} {H H' : Hp} (e : Same H H') : ∀ {v : V} {t : Tr}, Rep K H v t -> Rep K H' v t
 | _, _, .non => .non
 | _, _, .bl b => .bl b
 | _, _, .int i => .int i
 | _, _, .str x => .str x
 | _, _, .tup h r => .tup (e.aqJ h) (aaO.mono e r)
 | _, _, .lst h r => .lst (e.seq h) (aaO.mono e r)
 | _, _, .exn h m n => .exn (e _ _ h) m n
theorem aaO.mono {K : PySem.W.Frag} {H H' : Hp} (e : Same H H') : ∀ {v : List V} {t : List Tr}, aaO K H v t -> aaO K H' v t
 | _, _, .nil => .nil
 | _, _, .cons h r => .cons (Rep.mono e h) (aaO.mono e r)
end
theorem aaO.length {K : PySem.W.Frag} {H : Hp} : ∀ {v : List V} {t : List Tr}, aaO K H v t -> v.length = t.length
 | _, _, .nil => rfl
 | _, _, .cons _ r => by rw [List.length_cons, List.length_cons, aaO.length r]
theorem aaO.get {K : PySem.W.Frag} {H : Hp} : ∀ {v : List V} {t : List Tr} {i : Nat} {x : V}, aaO K H v t -> v[i]? = some x -> ∃ u, t[i]? = some u /\ Rep K H x u
 | _, _, _, _, .nil, e => by simp at e
 | _, _, 0, _, .cons h _, e => by
  simp at e
  subst e
  exact ⟨_, rfl, h⟩
 | _, _, i + 1, x, .cons _ r, e => by
  obtain ⟨u, h1, h2⟩ := aaO.get (i := i) (x := x) r (by simpa using e)
  exact ⟨u, by simpa using h1, h2⟩
theorem aaO.app {K : PySem.W.Frag} {H : Hp} : ∀ {v w : List V} {t u : List Tr}, aaO K H v t -> aaO K H w u -> aaO K H (v ++ w) (t ++ u)
 | _, _, _, _, .nil, s => s
 | _, _, _, _, .cons h r, s => .cons h (aaO.app r s)
theorem aaO.take {K : PySem.W.Frag} {H : Hp} : ∀ {v : List V} {t : List Tr} (n : Nat), aaO K H v t -> aaO K H (v.take n) (t.take n)
 | _, _, 0, _ => by rw [List.take_zero, List.take_zero]; exact .nil
 | _, _, n + 1, .nil => by simpa using aaO.nil
 | _, _, n + 1, .cons h r => by
  rw [List.take_succ_cons, List.take_succ_cons]
  exact .cons h (aaO.take n r)
theorem aaO.drop {K : PySem.W.Frag} {H : Hp} : ∀ {v : List V} {t : List Tr} (n : Nat), aaO K H v t -> aaO K H (v.drop n) (t.drop n)
 | _, _, 0, r => by rw [List.drop_zero, List.drop_zero]; exact r
 | _, _, n + 1, .nil => by simpa using aaO.nil
 | _, _, n + 1, .cons h r => by
  rw [List.drop_succ_cons, List.drop_succ_cons]
  exact aaO.drop n r
mutual
noncomputable def dep : Tr -> Nat
 | .tup ts => deps ts + 1
 | .lst ts => deps ts + 1
 | .exn _ => 100
 | _ => 0
noncomputable def deps : List Tr -> Nat
 | [] => 0
 | t :: r => max (dep t) (deps r)
end
mutual
noncomputable def eqT : Tr -> Tr -> Bool
 | .non, .non => true
 | .bl a, .bl b => a == b
 | .bl a, .int b => (if a then 1 else 0) == b
 | .int a, .bl b => a == (if b then 1 else 0)
 | .int a, .int b => a == b
 | .str a, .str b => a == b
 | .tup a, .tup b => amV a b
 | .lst a, .lst b => amV a b
 | .exn a, .exn b => a == b
 | _, _ => false
noncomputable def amV : List Tr -> List Tr -> Bool
 | [], [] => true
 | a :: x, b :: y => eqT a b && amV x y
 | _, _ => false
end
mutual
theorem afC : ∀ t : Tr, eqT t t = true
 | .non => rfl
 | .bl b => by unfold eqT; exact beq_self_eq_true b
 | .int i => by unfold eqT; exact beq_self_eq_true i
 | .str x => by unfold eqT; exact beq_self_eq_true x
 | .tup ts => by unfold eqT; exact afV ts
 | .lst ts => by unfold eqT; exact afV ts
 | .exn c => by unfold eqT; exact beq_self_eq_true c
theorem afV : ∀ ts : List Tr, amV ts ts = true
 | [] => rfl
 | t :: r => by unfold amV; rw [afC t, afV r]; rfl
end
theorem aek : ∀ {a b : List Tr}, a.length ≠ b.length -> amV a b = false
 | [], [], h => absurd rfl h
 | [], _ :: _, _ => rfl
 | _ :: _, [], _ => rfl
 | x :: a, y :: b, h => by
  unfold amV
  rw [aek (a := a) (b := b) (by simpa using h), Bool.and_false]
noncomputable def atE (a b : List Tr) (j : Nat) : Bool := match a[j]?, b[j]? with
 | some x, some y => eqT x y
 | _, _ => true
theorem afW : ∀ {a b : List Tr}, a.length = b.length -> (List.range a.length).all (atE a b) = amV a b
 | [], [], _ => rfl
 | [], _ :: _, h => by cases h
 | _ :: _, [], h => by cases h
 | x :: a, y :: b, h => by
  have ih := afW (a := a) (b := b) (by simpa using h)
  rw [List.length_cons, List.range_succ_eq_map, List.all_cons, List.all_map]
  unfold amV
  rw [<-ih]
  rfl
section
variable {X : Cx} {pins : List (Addr × Obj)} {σ : St} {H : Hp} {s : Shared}
theorem Inv.apr (I : Inv X pins σ H s) {a C : Addr} {its : Array Value} (h : H a = some (exO a C)) (p : IsTup s.heap a its) : False := by
 obtain ⟨o, _, e1, e2, _⟩ := (I.hok a _ h).1
 obtain ⟨o', e1', e2', _⟩ := p
 rw [e1] at e1'
 cases e1'
 rw [e2] at e2'
 cases e2'
theorem Inv.aps (I : Inv X pins σ H s) {a C : Addr} {its : Array Value} (h : H a = some (exO a C)) (p : PlainL s.heap a its) : False := by
 obtain ⟨o, _, e1, e2, _⟩ := (I.hok a _ h).1
 obtain ⟨o', _, e1', e2', _⟩ := p
 rw [e1] at e1'
 cases e1'
 rw [e2] at e2'
 cases e2'
mutual
theorem Rep.inj (I : Inv X pins σ H s) : ∀ {v : V} {t u : Tr}, dep t <= 99 -> Rep X.K H v t -> Rep X.K H v u -> t = u
 | _, _, _, _, .non, .non => rfl
 | _, _, _, _, .bl _, .bl _ => rfl
 | _, _, _, _, .int _, .int _ => rfl
 | _, _, _, _, .str _, .str _ => rfl
 | _, _, _, d, .tup h r, .tup h' r' => by
  have e := I.ah0 h h'
  subst e
  rw [aaO.inj I (by unfold dep at d; omega) r r']
 | _, _, _, d, .lst h r, .lst h' r' => by
  have e := I.afA h h'
  subst e
  rw [aaO.inj I (by unfold dep at d; omega) r r']
 | _, _, _, _, .tup h r, .lst h' r' => by
  obtain ⟨_, _, p, _⟩ := I.tuple h
  obtain ⟨_, _, p', _⟩ := I.list h'
  exact absurd rfl (SeqAt.ne_of_list_tuple p'.isList p)
 | _, _, _, _, .lst h r, .tup h' r' => by
  obtain ⟨_, _, p, _⟩ := I.tuple h'
  obtain ⟨_, _, p', _⟩ := I.list h
  exact absurd rfl (SeqAt.ne_of_list_tuple p'.isList p)
 | _, _, _, d, .exn h _ n, _ => by unfold dep at d; omega
 | _, _, _, _, .tup h r, .exn h' _ _ => by
  obtain ⟨_, _, p, _⟩ := I.tuple h
  exact (I.apr h' p).elim
 | _, _, _, _, .lst h r, .exn h' _ _ => by
  obtain ⟨_, _, p, _⟩ := I.list h
  exact (I.aps h' p).elim
theorem aaO.inj (I : Inv X pins σ H s) : ∀ {v : List V} {t u : List Tr}, deps t <= 99 -> aaO X.K H v t -> aaO X.K H v u -> t = u
 | _, _, _, _, .nil, .nil => rfl
 | _, _, _, d, .cons h r, .cons h' r' => by
  unfold deps at d
  rw [Rep.inj I (by omega) h h', aaO.inj I (by omega) r r']
end
theorem in1_units (A : Around) : A.in1.units <= A.units + 1 := by
 show A.units + 1 <= _
 omega
theorem afD {xs : List V} {its : List Value} {j : Nat} (r : Vals xs its) (h : j < its.toArray.size) : ∃ x, xs[j]? = some x /\ RelV x its.toArray[j] := by
 have h' : j < its.length := by simpa using h
 have hx : j < xs.length := by rw [r.length]; exact h'
 obtain ⟨u, h1, h2⟩ := r.get (List.getElem?_eq_getElem hx)
 refine ⟨xs[j], List.getElem?_eq_getElem hx, ?_⟩
 have e : u = its.toArray[j] := by
  rw [List.getElem?_eq_getElem h'] at h1
  have := Option.some.inj h1
  simpa using this.symm
 rw [<-e]; exact h2
theorem ajM {a b : List Tr} {j : Nat} {x y : Tr} (h1 : a[j]? = some x) (h2 : b[j]? = some y) : atE a b j = eqT x y := by
 unfold atE
 rw [h1, h2]
theorem adv : ∀ {ts : List Tr} {j : Nat} {t : Tr}, ts[j]? = some t -> dep t <= deps ts
 | [], _, _, h => by simp at h
 | x :: r, 0, t, h => by
  simp at h
  subst h
  unfold deps
  exact Nat.le_max_left _ _
 | x :: r, j + 1, t, h => by
  have := adv (ts := r) (j := j) (t := t) (by simpa using h)
  unfold deps
  exact Nat.le_trans this (Nat.le_max_right _ _)
theorem afX (I : Inv X pins σ H s) (A : Around) (t u : Tr) (x y : V) (xv yv : Value) (hu : A.units + 0 < cLine) (hd : dep t <= 0) (du : dep u <= 99) (rx : Rep X.K H x t) (ry : Rep X.K H y u) (vx : RelV x xv) (vy : RelV y yv) :
  SeqAt.RcAt A s xv yv (eqT t u) /\ SeqAt.EqAt A s xv yv (eqT t u) := by
 have hu0 : A.units < cLine := by omega
 cases rx with
 | tup h r => unfold dep at hd; omega
 | lst h r => unfold dep at hd; omega
 | exn h m n => unfold dep at hd; omega
 | non =>
  cases vx
  cases ry with
  | non => cases vy; unfold eqT; exact ⟨SeqAt.RcAt.none_none, .same _⟩
  | bl b2 => cases vy; unfold eqT; exact ⟨SeqAt.RcAt.none_bool _, SeqAt.EqAt.none_bool _⟩
  | int i2 => obtain ⟨_, rfl⟩ := vy; unfold eqT; exact ⟨SeqAt.RcAt.none_int _ _, SeqAt.EqAt.none_int _ _⟩
  | str z2 => obtain ⟨_, rfl⟩ := vy; unfold eqT; exact ⟨SeqAt.RcAt.none_str _ _, SeqAt.EqAt.none_str _ _⟩
  | tup h r => cases vy; obtain ⟨_, _, p, _⟩ := I.tuple h; unfold eqT; exact ⟨SeqAt.RcAt.none_tuple p hu0, SeqAt.EqAt.none_tuple p hu0⟩
  | lst h r => cases vy; obtain ⟨_, _, p, _⟩ := I.list h; unfold eqT; exact ⟨SeqAt.RcAt.none_list p.isList hu0, SeqAt.EqAt.none_list p.isList hu0⟩
  | exn h m n => unfold dep at du; omega
 | bl b =>
  cases vx
  cases ry with
  | non => cases vy; unfold eqT; exact ⟨SeqAt.RcAt.bool_none _, SeqAt.EqAt.bool_none _⟩
  | bl b2 => cases vy; unfold eqT; exact ⟨SeqAt.RcAt.bool_bool _ _, SeqAt.EqAt.bool_bool _ _⟩
  | int i2 => obtain ⟨_, rfl⟩ := vy; unfold eqT; exact ⟨SeqAt.RcAt.bool_int _ _ _, SeqAt.EqAt.bool_int _ _ _⟩
  | str z2 => obtain ⟨_, rfl⟩ := vy; unfold eqT; exact ⟨SeqAt.RcAt.bool_str _ _ _, SeqAt.EqAt.bool_str _ _ _⟩
  | tup h r => cases vy; obtain ⟨_, _, p, _⟩ := I.tuple h; unfold eqT; exact ⟨SeqAt.RcAt.bool_tuple _ p hu0, SeqAt.EqAt.bool_tuple _ p hu0⟩
  | lst h r => cases vy; obtain ⟨_, _, p, _⟩ := I.list h; unfold eqT; exact ⟨SeqAt.RcAt.bool_list _ p.isList hu0, SeqAt.EqAt.bool_list _ p.isList hu0⟩
  | exn h m n => unfold dep at du; omega
 | int i =>
  obtain ⟨_, rfl⟩ := vx
  cases ry with
  | non => cases vy; unfold eqT; exact ⟨SeqAt.RcAt.int_none _ _, SeqAt.EqAt.int_none _ _⟩
  | bl b2 => cases vy; unfold eqT; exact ⟨SeqAt.RcAt.int_bool _ _ _, SeqAt.EqAt.int_bool _ _ _⟩
  | int i2 => obtain ⟨_, rfl⟩ := vy; unfold eqT; exact ⟨SeqAt.RcAt.int_int _ _ _ _, SeqAt.EqAt.int_int _ _ _ _⟩
  | str z2 => obtain ⟨_, rfl⟩ := vy; unfold eqT; exact ⟨SeqAt.RcAt.int_str _ _ _ _, SeqAt.EqAt.int_str _ _ _ _⟩
  | tup h r => cases vy; obtain ⟨_, _, p, _⟩ := I.tuple h; unfold eqT; exact ⟨SeqAt.RcAt.int_tuple _ _ p hu0, SeqAt.EqAt.int_tuple _ _ p hu0⟩
  | lst h r => cases vy; obtain ⟨_, _, p, _⟩ := I.list h; unfold eqT; exact ⟨SeqAt.RcAt.int_list _ _ p.isList hu0, SeqAt.EqAt.int_list _ _ p.isList hu0⟩
  | exn h m n => unfold dep at du; omega
 | str z =>
  obtain ⟨_, rfl⟩ := vx
  cases ry with
  | non => cases vy; unfold eqT; exact ⟨SeqAt.RcAt.str_none _ _, SeqAt.EqAt.str_none _ _⟩
  | bl b2 => cases vy; unfold eqT; exact ⟨SeqAt.RcAt.str_bool _ _ _, SeqAt.EqAt.str_bool _ _ _⟩
  | int i2 => obtain ⟨_, rfl⟩ := vy; unfold eqT; exact ⟨SeqAt.RcAt.str_int _ _ _ _, SeqAt.EqAt.str_int _ _ _ _⟩
  | str z2 => obtain ⟨_, rfl⟩ := vy; unfold eqT; exact ⟨SeqAt.RcAt.str_str _ _ _ _, SeqAt.EqAt.str_str _ _ _ _⟩
  | tup h r => cases vy; obtain ⟨_, _, p, _⟩ := I.tuple h; unfold eqT; exact ⟨SeqAt.RcAt.str_tuple _ _ p hu0, SeqAt.EqAt.str_tuple _ _ p hu0⟩
  | lst h r => cases vy; obtain ⟨_, _, p, _⟩ := I.list h; unfold eqT; exact ⟨SeqAt.RcAt.str_list _ _ p.isList hu0, SeqAt.EqAt.str_list _ _ p.isList hu0⟩
  | exn h m n => unfold dep at du; omega
theorem aiT (I : Inv X pins σ H s) : ∀ (n : Nat) (A : Around) (t u : Tr) (x y : V) (xv yv : Value), A.units + n < cLine -> dep t <= n -> dep t <= 99 -> dep u <= 99 -> Rep X.K H x t -> Rep X.K H y u -> RelV x xv -> RelV y yv ->
  SeqAt.RcAt A s xv yv (eqT t u) /\ SeqAt.EqAt A s xv yv (eqT t u) := by
 intro n
 induction n with
 | zero => exact λA t u x y xv yv hu hd _ du rx ry vx vy => afX I A t u x y xv yv hu hd du rx ry vx vy
 | succ n ih =>
  intro A t u x y xv yv hu hd dt9 du rx ry vx vy
  have hu0 : A.units < cLine := by omega
  have hu1 : A.in1.units + n < cLine := by
   have := in1_units A
   omega
  have he : ∀ {xs ys : List V} {ts us : List Tr} {its its2 : List Value}, Vals xs its -> Vals ys its2 -> aaO X.K H xs ts -> aaO X.K H ys us -> deps ts <= n -> deps ts <= 99 -> deps us <= 99 -> ∀ j (h1 : j < its.toArray.size) (h2 : j < its2.toArray.size), SeqAt.EqAt A.in1 s its.toArray[j] its2.toArray[j] (atE ts us j) := by
   intro xs ys ts us its its2 r1 r2 q1 q2 hde hd9 hu9 j h1 h2
   obtain ⟨a, ea, ra⟩ := afD r1 h1
   obtain ⟨b, eb, rb⟩ := afD r2 h2
   obtain ⟨ta, eta, qa⟩ := q1.get ea
   obtain ⟨tb, etb, qb⟩ := q2.get eb
   rw [ajM eta etb]
   exact (ih A.in1 ta tb a b _ _ hu1 (Nat.le_trans (adv eta) hde) (Nat.le_trans (adv eta) hd9) (Nat.le_trans (adv etb) hu9) qa qb ra rb).2
  have dt : ∀ {ts : List Tr}, dep (.tup ts) <= n + 1 -> deps ts <= n := λ{ts} h => by unfold dep at h; omega
  have dl : ∀ {ts : List Tr}, dep (.lst ts) <= n + 1 -> deps ts <= n := λ{ts} h => by unfold dep at h; omega
  have nt : ∀ {ts : List Tr}, dep (.tup ts) <= 99 -> deps ts <= 99 := λ{ts} h => by unfold dep at h; omega
  have nl : ∀ {ts : List Tr}, dep (.lst ts) <= 99 -> deps ts <= 99 := λ{ts} h => by unfold dep at h; omega
  have refs : ∀ {a b : Addr} {t u : Tr} {k : Bool}, dep t <= 99 -> Rep X.K H (.ref a) t -> Rep X.K H (.ref b) u -> k = eqT t u -> SeqAt.RcAt A s (.ref a) (.ref b) k -> SeqAt.EqAt A s (.ref a) (.ref b) k := λ{a b t u k} d9 r1 r2 ek h => by
   by_cases e : a = b
   ·subst e
    have := Rep.inj I d9 r1 r2
    subst this
    rw [ek, afC]
    exact .same _
   ·exact .of_refs e h
  cases rx with
  | @tup a1 xs1 ts h r =>
   cases vx
   obtain ⟨its, rv, p, _⟩ := I.tuple h
   cases ry with
   | @tup a2 xs2 us h' r' =>
    cases vy
    obtain ⟨its2, rv2, p2, _⟩ := I.tuple h'
    have R := SeqAt.RcAt.tuples p p2 hu0 (he rv rv2 r r' (dt hd) (nt dt9) (nt du))
    have el : its.toArray.size = ts.length := by simpa using (rv.length.symm.trans r.length)
    have el2 : its2.toArray.size = us.length := by simpa using (rv2.length.symm.trans r'.length)
    rw [el, el2] at R
    have eb : ((List.range (min ts.length us.length)).all (atE ts us) && ts.length == us.length) = eqT (.tup ts) (.tup us) := by
     unfold eqT
     by_cases e : ts.length = us.length
     ·rw [e, Nat.min_self, <-e, afW e, beq_self_eq_true, Bool.and_true]
     ·rw [beq_false_of_ne e, Bool.and_false, aek e]
    rw [eb] at R
    exact ⟨R, refs dt9 (.tup h r) (.tup h' r') rfl R⟩
   | lst h' r' =>
    cases vy
    obtain ⟨_, _, p2, _⟩ := I.list h'
    unfold eqT
    exact ⟨SeqAt.RcAt.tuple_list p p2.isList hu0, .tuple_list p p2.isList hu0⟩
   | exn h' m n => unfold dep at du; omega
   | non => cases vy; unfold eqT; exact ⟨SeqAt.RcAt.tuple_none p hu0, .tuple_none p hu0⟩
   | bl b => cases vy; unfold eqT; exact ⟨SeqAt.RcAt.tuple_bool _ p hu0, .tuple_bool _ p hu0⟩
   | int i => obtain ⟨_, rfl⟩ := vy; unfold eqT; exact ⟨SeqAt.RcAt.tuple_int _ _ p hu0, .tuple_int _ _ p hu0⟩
   | str z => obtain ⟨_, rfl⟩ := vy; unfold eqT; exact ⟨SeqAt.RcAt.tuple_str _ _ p hu0, .tuple_str _ _ p hu0⟩
  | @lst a1 xs1 ts h r =>
   cases vx
   obtain ⟨its, rv, p, _⟩ := I.list h
   cases ry with
   | @lst a2 xs2 us h' r' =>
    cases vy
    obtain ⟨its2, rv2, p2, _⟩ := I.list h'
    have el : its.toArray.size = ts.length := by simpa using (rv.length.symm.trans r.length)
    have el2 : its2.toArray.size = us.length := by simpa using (rv2.length.symm.trans r'.length)
    by_cases e : ts.length = us.length
    ·have R := SeqAt.RcAt.lists p.isList p2.isList (by rw [el, el2, e]) hu0 (he rv rv2 r r' (dl hd) (nl dt9) (nl du))
     rw [el, afW e] at R
     have eb : amV ts us = eqT (.lst ts) (.lst us) := by unfold eqT; rfl
     rw [eb] at R
     exact ⟨R, refs dt9 (.lst h r) (.lst h' r') rfl R⟩
    ·have R : SeqAt.RcAt A s _ _ false := SeqAt.RcAt.lists_lengths p.isList p2.isList (by rw [el, el2]; simpa using e) hu0
     have eb : false = eqT (.lst ts) (.lst us) := by unfold eqT; rw [aek e]
     rw [eb] at R
     exact ⟨R, refs dt9 (.lst h r) (.lst h' r') rfl R⟩
   | tup h' r' =>
    cases vy
    obtain ⟨_, _, p2, _⟩ := I.tuple h'
    unfold eqT
    exact ⟨SeqAt.RcAt.list_tuple p.isList p2 hu0, .list_tuple p.isList p2 hu0⟩
   | exn h' m n => unfold dep at du; omega
   | non => cases vy; unfold eqT; exact ⟨SeqAt.RcAt.list_none p.isList hu0, .list_none p.isList hu0⟩
   | bl b => cases vy; unfold eqT; exact ⟨SeqAt.RcAt.list_bool _ p.isList hu0, .list_bool _ p.isList hu0⟩
   | int i => obtain ⟨_, rfl⟩ := vy; unfold eqT; exact ⟨SeqAt.RcAt.list_int _ _ p.isList hu0, .list_int _ _ p.isList hu0⟩
   | str z => obtain ⟨_, rfl⟩ := vy; unfold eqT; exact ⟨SeqAt.RcAt.list_str _ _ p.isList hu0, .list_str _ _ p.isList hu0⟩
  | exn h m n => unfold dep at dt9; omega
  | non => exact afX I A _ _ _ _ _ _ (by omega) (by unfold dep; omega) du .non ry vx vy
  | bl b => exact afX I A _ _ _ _ _ _ (by omega) (by unfold dep; omega) du (.bl b) ry vx vy
  | int i => exact afX I A _ _ _ _ _ _ (by omega) (by unfold dep; omega) du (.int i) ry vx vy
  | str z => exact afX I A _ _ _ _ _ _ (by omega) (by unfold dep; omega) du (.str z) ry vx vy
end
end L2
end
section
namespace L2
open PySem PySem.Spec PyProof.Rows
section
variable {X : Cx} {a b : Expr} {ta tb : TE} {pos : Pos}
noncomputable def aue (K : PySem.W.Frag) : R2 := λx y H Q => ∃ t u, Rep K H x t /\ Rep K H y u /\ dep t <= 40 /\ dep u <= 40 /\ Q (.bl (eqT t u)) H
theorem adl (hu : X.A.units + 64 < cLine) : OpR X (compareOp .Eq) (aue X.K) := by
 intro pins s σ H x y v u Q I rx ry h
 obtain ⟨t, t', q1, q2, hd, hd2, q⟩ := h
 exact (aiT I 40 X.A t t' x y v u (by omega) hd (by omega) (by omega) q1 q2 rx ry).1 _ _ _ _ ⟨.bl _, H, I, rfl, q⟩
noncomputable def auf (t : Tr) (ts : List Tr) : Bool := ts.any λu => eqT u t
noncomputable def auh (K : PySem.W.Frag) : R2 := λx y H Q => ∃ t ts p xs, Rep K H x t /\ y = .ref p /\ (SqL K H p xs \/ SqT K H p xs) /\ aaO K H xs ts /\ deps ts <= 40 /\ dep t <= 40 /\ Q (.bl (auf t ts)) H
theorem aia {xs : List V} {its : List Value} {ts : List Tr} {K : PySem.W.Frag} {H : Hp} (f : Tr -> Bool) (e : Value -> Bool) (r : Vals xs its) (q : aaO K H xs ts) (h : ∀ x v t, x ∈ xs -> RelV x v -> Rep K H x t -> t ∈ ts -> e v = f t) : its.any e = ts.any f := by
 induction r generalizing ts with
 | nil => cases q; rfl
 | cons r1 r2 ih =>
  cases q with
  | cons q1 q2 =>
   rw [List.any_cons, List.any_cons, h _ _ _ List.mem_cons_self r1 q1 List.mem_cons_self, ih q2 λx v t hx hr hq ht => h x v t (List.mem_cons_of_mem _ hx) hr hq (List.mem_cons_of_mem _ ht)]
theorem alO : ∀ {ts : List Tr} {t : Tr}, t ∈ ts -> dep t <= deps ts := λ{ts t} h => by
 obtain ⟨i, hi, e⟩ := List.mem_iff_getElem.mp h
 exact adv (j := i) (by rw [List.getElem?_eq_getElem hi, e])
open Classical in
theorem arq (hu : X.A.units + 64 < cLine) : OpR X (compareOp .In) (auh X.K) := by
 intro pins s σ H x y v u Q I rx ry h
 obtain ⟨t, ts, p, xs, q1, rfl, hq, qs, hd, hd2, q⟩ := h
 cases ry
 have hu1 : X.A.in1.units + 40 < cLine := by
  have := in1_units X.A
  omega
 -- what == tells of an item, by the item itself
 let e : Value -> Bool := λw' => if h : ∃ z tz, z ∈ xs /\ RelV z w' /\ Rep X.K H z tz /\ tz ∈ ts then eqT (Classical.choose (Classical.choose_spec h)) t else false
 have ee : ∀ z w' tz, z ∈ xs -> RelV z w' -> Rep X.K H z tz -> tz ∈ ts -> e w' = eqT tz t := λz w' tz h1 h2 h3 h4 => by
  have hx : ∃ z tz, z ∈ xs /\ RelV z w' /\ Rep X.K H z tz /\ tz ∈ ts := ⟨z, tz, h1, h2, h3, h4⟩
  show (if h : _ then _ else _) = _
  rw [dif_pos hx]
  have sp := Classical.choose_spec (Classical.choose_spec hx)
  have key : ∀ z z' t1 t2, RelV z w' -> RelV z' w' -> dep t1 <= 99 -> Rep X.K H z t1 -> Rep X.K H z' t2 -> t1 = t2 := λz z' t1 t2 a1 a2 d9 a3 a4 => by
   obtain rfl := RelV.inj a1 a2
   exact Rep.inj I d9 a3 a4
  rw [key _ _ _ _ sp.2.1 h2 (by have := alO sp.2.2.2; omega) sp.2.2.1 h3]
 have mem : ∀ {its : List Value}, Vals xs its -> ∀ w' ∈ its, SeqAt.EqAt X.A.in1 s w' v (e w') := by
  intro its r w' hw
  obtain ⟨j, hj, ej⟩ := List.mem_iff_getElem.mp hw
  have hjx : j < xs.length := by rw [r.length]; exact hj
  obtain ⟨u', h1, h2⟩ := r.get (List.getElem?_eq_getElem hjx)
  rw [List.getElem?_eq_getElem hj, ej] at h1
  cases h1
  obtain ⟨tz, h3, h4⟩ := qs.get (List.getElem?_eq_getElem hjx)
  have hm := List.mem_of_getElem? h3
  rw [ee _ _ tz (List.getElem_mem hjx) h2 h4 hm]
  exact (aiT I 40 X.A.in1 tz t _ x _ v hu1 (Nat.le_trans (alO hm) hd) (by have := alO hm; omega) (by omega) h4 q1 h2 rx).2
 rcases hq with hq | hq
 ·obtain ⟨its, r, pl, hz⟩ := I.list hq
  refine SeqAt.in_listAt e pl.isList (λw hw => mem r w (by simpa using hw)) ⟨.bl _, H, I, rfl, ?_⟩
  rw [show its.toArray.any e = its.any e by simp, aia (λz => eqT z t) e r qs λz w' tz h1 h2 h3 h4 => ee z w' tz h1 h2 h3 h4]
  exact q
 ·obtain ⟨its, r, pl, hz⟩ := I.tuple hq
  refine SeqAt.in_tupleAt e pl (λw hw => mem r w (by simpa using hw)) ⟨.bl _, H, I, rfl, ?_⟩
  rw [show its.toArray.any e = its.any e by simp, aia (λz => eqT z t) e r qs λz w' tz h1 h2 h3 h4 => ee z w' tz h1 h2 h3 h4]
  exact q
inductive Ty where | int | bool | str | tuple | list
noncomputable def Ty.name : Ty -> String
 | .int => "int" | .bool => "bool" | .str => "str" | .tuple => "tuple" | .list => "list"
noncomputable def adS : Tr -> Ty -> Bool
 | .bl _, .bool => true | .bl _, .int => true | .int _, .int => true | .str _, .str => true | .tup _, .tuple => true | .lst _, .list => true
 | _, _ => false
noncomputable def atL (K : PySem.W.Frag) : List V -> Hp -> VK -> Prop := λxs H Q => ∃ v t c, xs = [v, .ty (Ty.name c)] /\ Rep K H v t /\ Q (.bl (adS t c)) H
noncomputable def XOk (K : PySem.W.Frag) : Prop := ∀ c ∈ abN, ∀ C, PySem.W.nsIn K mainGlobals c = some (some (.ref C)) -> (∀ a, PySem.W.KitX K (.ref a) (.ref C) (atJ a C)) /\ ∀ y : Ty, PySem.W.kitOne K (.ref C) (.type y.name) = some false
theorem ana (hX : XOk X.K) : acH X (.builtin "isinstance") (atL X.K) := by
 intro pins s σ H xs us Q I r h
 obtain ⟨v, t, c, rfl, q1, q⟩ := h
 obtain ⟨u, w', rfl, ru, rw'⟩ := vals2 r
 obtain rfl : w' = Value.type (Ty.name c) := rw'
 have fin : ∀ tk, EP X pins σ Q (.bool (adS t c)) { s with toks := tk } := λtk => ⟨.bl _, H, I.tok tk, rfl, q⟩
 cases q1 with
 | non => cases ru; cases c <;> exact PySem.W.kia_one PySem.W.kitx_none I.kIn True.intro (by kernel_rfl) (λz => nomatch z) fin
 | bl y => cases ru; cases c <;> exact PySem.W.kia_one PySem.W.kitx_bool I.kIn True.intro (by kernel_rfl) (λz => nomatch z) fin
 | int i => obtain ⟨_, rfl⟩ := ru; cases c <;> exact PySem.W.kia_one PySem.W.kitx_int I.kIn True.intro (by kernel_rfl) (λz => nomatch z) fin
 | str y => obtain ⟨_, rfl⟩ := ru; cases c <;> exact PySem.W.kia_one PySem.W.kitx_str I.kIn True.intro (by kernel_rfl) (λz => nomatch z) fin
 | tup h r =>
  cases ru
  obtain ⟨_, _, ⟨o, h1, h2, _⟩, _⟩ := I.tuple h
  cases c <;> exact PySem.W.kia_one PySem.W.kitx_tuple I.kIn ⟨o, h1, h2⟩ (by kernel_rfl) (λz => nomatch z) fin
 | lst h r =>
  cases ru
  obtain ⟨_, _, p, _⟩ := I.list h
  obtain ⟨o, h1, h2, _⟩ := p.isList
  cases c <;> exact PySem.W.kia_one PySem.W.kitx_list I.kIn ⟨o, h1, h2⟩ (by kernel_rfl) (λz => nomatch z) fin
 | exn h m n =>
  cases ru
  obtain ⟨z1, z2⟩ := hX _ m _ n
  exact PySem.W.kia_one (z1 _) I.kIn (I.hok _ _ h).1 (z2 c) (λz => nomatch z) fin
noncomputable def aui (K : PySem.W.Frag) : List V -> Hp -> VK -> Prop := λxs H Q => ∃ (p : Addr) (bs : List Bool), xs = [.ref p] /\ SqL K H p (bs.map V.bl) /\ Q (.bl (bs.all id)) H
theorem ajN (hc : X.calm = true) : acH X (.builtin "all") (aui X.K) := by
 intro pins s σ H xs us Q I r h
 obtain ⟨p, bs, rfl, hq, q⟩ := h
 obtain ⟨u, rfl, ru⟩ := vals1 r
 cases ru
 obtain ⟨its, rv, pl, hz⟩ := I.list hq
 refine call_all_walk (wpAny_pyIter_list pl.isList ?_)
 obtain ⟨ol, hol, hol'⟩ := id pl.isList
 have hlt : p < s.heap.objs.size := Heap.lt_size hol
 have hlen : its.toArray.size = bs.length := by simpa using rv.length.symm
 have at_ : ∀ (i : Nat) (v : Value), its.toArray[i]? = some v -> ∃ k, bs[i]? = some k /\ v = Value.bool k := λi v e => by
  have e' : its[i]? = some v := by simpa using e
  have hi : i < its.length := (List.getElem?_eq_some_iff.mp e').1
  have hb : i < (bs.map V.bl).length := by rw [rv.length]; exact hi
  obtain ⟨u', h1, h2⟩ := rv.get (List.getElem?_eq_getElem hb)
  rw [e'] at h1
  cases h1
  have hb' : i < bs.length := by simpa using hb
  refine ⟨bs[i], List.getElem?_eq_getElem hb', ?_⟩
  rw [List.getElem_map] at h2
  exact h2
 refine ⟨s.heap.objs.size, _, _, _, _, _, λi => bs.getD i true, rfl, Walks.list (A := X.A.in1) (I.ok.hd hc) s.heap.objs.size p (Nat.ne_of_lt hlt) its.toArray, ⟨⟨_, Heap.get?_push_size _ rfl, rfl, rfl⟩, ⟨ol, Heap.get?_push_of_some _ hol, hol'⟩⟩, ?_, ?_⟩
 ·intro i v s' Q' E' hP hQ'
  obtain ⟨k, h1, rfl⟩ := at_ i v hP
  have : bs.getD i true = k := by rw [List.getD_eq_getElem?_getD, h1]; rfl
  dsimp only at hQ'
  rw [this] at hQ'
  exact wpAny_truthy_bool hQ'
 ·intro h' tk hk
  have I1 : Inv X pins σ H { s with heap := h', toks := tk } := I.kept λb o e => hk b o (by
   have := Heap.lt_size e
   simp
   exact Nat.ne_of_lt this) (Heap.get?_push_of_some _ e)
  refine ⟨.bl _, H, I1, rfl, ?_⟩
  have eq : (List.range its.toArray.size).all (λi => bs.getD i true) = bs.all id := by
   rw [hlen]
   clear q hq rv at_ hlen hz
   induction bs with
   | nil => rfl
   | cons b r ih =>
    rw [List.length_cons, List.range_succ_eq_map, List.all_cons, List.all_map, List.all_cons]
    exact congrArg (b && ·) ih
  rw [eq]
  exact q
end
end L2
end
section
namespace L2
open PySem PySem.Spec PyProof.Rows
noncomputable def At (K : PySem.W.Frag) (mg : Str -> Option Value) (x : Str) (st : Stmt) : Prop := ∃ f fd, Fun K x x st f fd /\ mg x = some (.ref f)
section
variable {X : Cx} {k : Nat} {x : Str} {ps : List Str} {sp : Sp} {p q pos : Pos} {e : Expr} {es : List Expr} {te : TE} {t : TA}
theorem ars (hX : XOk X.K) (c : Ty) (he : PE X e te) (h1 : X.mg "isinstance" = none) (h2 : X.mg x = none) (hb : bootBuiltins x = some (.type c.name) := by decide +kernel) (hg1 : Gl X "isinstance" := by rfl) (hg2 : Gl X x := by rfl) (hn : x ≠ "__name__" := by decide) (hd : (x == ("__debug__" : Str)) = false := by decide)
  (hs : starEach (e :: [.Name x q]) X.env = (false, eval e X.env) :: starEach [.Name x q] X.env := by rfl) : PE X (.Call (.Name "isinstance" p) [e, .Name x q] [] pos) (tCB (atL X.K) (ac4 te (ac4 (tC (.ty c.name)) alE))) :=
 afB (ana hX) hg1 h1 PyProof.Rows.boot_isinstance (acA he (acA (alv hg2 h2 hb rfl hn hd) aal) hs) (he := hs)
end
end L2
end
section
namespace L2
open PySem PySem.Spec PyProof.Rows
noncomputable def off (a : Addr) (H : Hp) : Hp := λb => if b = a then none else H b
theorem off_ne {a b : Addr} {H : Hp} (h : b ≠ a) : off a H b = H b := if_neg h
theorem adJ {a b : Addr} {H : Hp} {o : HO} (h : off a H b = some o) : b ≠ a /\ H b = some o := by
 unfold off at h
 split at h
 ·cases h
 ·rename_i e; exact ⟨e, h⟩
structure Pj (Pr : Hp -> Hp) (H0 : Hp) : Prop where
 mono : ∀ {H H' : Hp}, Same H H' -> Same (Pr H) (Pr H')
 sub : ∀ H, Same (Pr H) H
 new : ∀ {H : Hp} {r : Addr} {o : HO}, Same H0 H -> H r = none -> Pr (upd H r o) r = some o
theorem Pj.id (H0 : Hp) : Pj (λH => H) H0 := ⟨λs => s, λH => Same.refl H, λ_ _ => aaQ⟩
theorem Pj.le {Pr : Hp -> Hp} {H0 H1 : Hp} (p : Pj Pr H0) (s : Same H0 H1) : Pj Pr H1 := ⟨p.mono, p.sub, λs' h => p.new (s.trans s') h⟩
theorem aaC {H : Hp} {p : Addr} (h : H p = none) (o : HO) : Same H (upd H p o) := λb u q => by rw [aaw (aaS q h)]; exact q
section
variable (K : PySem.W.Frag) (Pr : Hp -> Hp) (σ : St) (H0 : Hp)
end
section
variable {K : PySem.W.Frag} {Pr : Hp -> Hp} {σ : St} {H0 : Hp} {te tb : TE} {ta : TA} {T : Tr} {Ts Us : List Tr}
end
end L2
end
section
namespace L2
open PySem PySem.Spec PyProof.Rows
noncomputable def notStar : Expr -> Bool
 | .Starred _ _ => false
 | _ => true
theorem acE {e : Expr} {es : List Expr} {env : Env} (h : notStar e = true) : starEach (e :: es) env = (false, eval e env) :: starEach es env := by
 cases e <;> first | rfl | (unfold notStar at h; cases h)
noncomputable def tEv (K : PySem.W.Frag) (T : Tr) : TE := λ_ H Q => ∀ v H', Same H H' -> (∀ Pr, Pj Pr H -> Rep K (Pr H') v T) -> Q v H'
noncomputable def aqK (K : PySem.W.Frag) (Ts : List Tr) : TA := λ_ H Q => ∀ vs H', Same H H' -> (∀ Pr, Pj Pr H -> aaO K (Pr H') vs Ts) -> Q vs H'
noncomputable def atM (K : PySem.W.Frag) (Ts : List Tr) : TE := λ_ H Q => ∀ a xs H1, Same H H1 -> H1 a = none -> (∀ Pr, Pj Pr H -> aaO K (Pr H1) xs Ts) -> xs.length = Ts.length -> Q (.ref a) (upd H1 a (.lst xs))
theorem PE.imp {X : Cx} {e : Expr} {t u : TE} (h : PE X e t) (i : ∀ σ H Q, u σ H Q -> t σ H Q) : PE X e u := ⟨λpins s σ H Q I q => h pins s σ H Q I (i σ H Q q)⟩
theorem PA.imp {X : Cx} {e : List Expr} {t u : TA} (h : PA X e t) (i : ∀ σ H Q, u σ H Q -> t σ H Q) : PA X e u := ⟨λpos pins s σ H Q I q => h pos pins s σ H Q I (i σ H Q q)⟩
section
variable {X : Cx} {e : Expr} {es : List Expr} {T : Tr} {Ts : List Tr} {pos : Pos} {k : Nat}
end
end L2
end
section
namespace L2
open PySem PySem.Spec PyProof.Rows
mutual
noncomputable def pd : Tr -> PyData
 | .non => .none
 | .bl b => .bool b
 | .int i => .int i
 | .str x => .str x
 | .tup ts => .tuple (pds ts)
 | .lst ts => .list (pds ts)
 | .exn _ => .none
noncomputable def pds : List Tr -> List PyData
 | [] => []
 | t :: r => pd t :: pds r
end
section
variable {X : Cx} {pins : List (Addr × Obj)} {σ : St} {H : Hp} {s : Shared}
end
end L2
end
section
namespace L2
open PySem PySem.Spec PyProof.Rows
noncomputable def av2 : V -> Option Int -> Option Int -> Hp -> VK -> Prop := λx lo hi H Q => ∃ z, x = .str z /\ z.length <= sizeLine /\ Q (.str (Txt.slice z lo hi)) H
theorem aru {X : Cx} : SlR X av2 := by
 intro pins s σ H x v vl vu lo hi sl Q I rx hs pl pu h
 obtain ⟨z, rfl, hz, q⟩ := h
 obtain ⟨t, rfl⟩ := rx
 obtain ⟨o, h1, h2, h3⟩ := hs
 have fin : ∀ (t' : Tok) (k : Nat), EP X pins σ Q (.str (Txt.slice z lo hi) t') { s with toks := k } := λt' k => ⟨.str _, H, I.tok k, ⟨_, rfl⟩, q⟩
 have hl := Nat.le_trans (Txt.slice_le z lo hi) hz
 refine ⟨"str", _, F.slot_str_getitem.lookup, typeIs_str _ _ _, ?_⟩
 cases pl with
 | none =>
  cases pu with
  | none => exact wpAny_getItem_str_slice (l := none) (u := none) (st := none) ⟨o, h1, h2, h3⟩ rfl (post_val_or_str ⟨hl, λt' k => fin t' k⟩)
  | int j uj => exact wpAny_getItem_str_slice (l := none) (u := some (j, uj)) (st := none) ⟨o, h1, h2, h3⟩ rfl (post_val_or_str ⟨hl, λt' k => fin t' k⟩)
 | int i ui =>
  cases pu with
  | none => exact wpAny_getItem_str_slice (l := some (i, ui)) (u := none) (st := none) ⟨o, h1, h2, h3⟩ rfl (post_val_or_str ⟨hl, λt' k => fin t' k⟩)
  | int j uj => exact wpAny_getItem_str_slice (l := some (i, ui)) (u := some (j, uj)) (st := none) ⟨o, h1, h2, h3⟩ rfl (post_val_or_str ⟨hl, λt' k => fin t' k⟩)
noncomputable def nw (H H' : Hp) : Hp := λb => match H b with
 | none => H' b
 | some _ => none
end L2
end
section
namespace L2
open PySem PySem.Spec PyProof.Rows
noncomputable def CXF (P : Program) (w : World) : CXT := λouter H s E e s' => ∃ ea cls a0 H' B, e = .ref ea /\ E cls none H' /\ s'.os = s.os /\ AllBare s'.gens /\ Un (frs outer) [] H H' s.heap s'.heap /\ HOk P w H' B /\
 Heap.FlyingW B outer ea cls a0 s'.heap /\ ∀ b o, s.heap.get? b = some o -> b ∉ frs outer -> ∃ o', B.get? b = some o'
theorem anb {env : Env} {outer : List Env} {L b : Addr} (hf : env.frame = some L) (h : b ∈ frs (env :: outer)) : b = L \/ b ∈ frs outer := by
 unfold frs at h
 rw [List.filterMap_cons_some hf] at h
 exact List.mem_cons.mp h
theorem apt {env : Env} {outer : List Env} {b : Addr} (h : b ∈ frs outer) : b ∈ frs (env :: outer) := by
 obtain ⟨e, he, q⟩ := List.mem_filterMap.mp h
 exact List.mem_filterMap.mpr ⟨e, List.mem_cons_of_mem _ he, q⟩
theorem anc {P : Program} {w : World} {H : Hp} {h : Heap} {l : List Addr} (x : HOk P w H h) (fr : ∀ b ∈ l, H b = none) : HOk P w H (PySem.W.hideAll h l) := λa o e =>
 (x a o e).stay (λb u hb q => PySem.W.hideAll_get _ q λhm => by
  rcases hb with rfl | hb
  ·rw [fr _ hm] at e; cases e
  ·rw [fr _ hm] at hb; cases hb) (λ_ q => q) λ_ _ q => q
section
variable {P : Program} {w : World} {K : PySem.W.Frag} {mg : Str -> Option Value} {base : Heap} {N : List Str} {qual : Str} {scope : Scope} {f : Addr} {cd : Value} {A : Around} {outer : List Env} {s : Shared} {H : Hp} {E : XK} {CX : CXT}
theorem Un.left {pins : List (Addr × Obj)} {σ : St} {H1 H2 : Hp} {s1 : Shared} {h2 h3 B : Heap} (I : Inv (ajI CX P w K mg base N qual scope f cd A outer s H E) pins σ H1 s1)
  (u : Un (frs (envOfC qual scope s.heap.objs.size f cd :: outer)) [] H1 H2 s1.heap h2) (st : B.StaysIn h2) (kb : ∀ b o, s1.heap.get? b = some o -> b ∉ frs (envOfC qual scope s.heap.objs.size f cd :: outer) -> ∃ o', B.get? b = some o')
  (fl : B.StaysIn h3) (sl : h2.UpToSlots h3) : Un (frs outer) [] H H2 s.heap h3 /\ ∀ b o, s.heap.get? b = some o -> b ∉ frs outer -> ∃ o', B.get? b = some o' := by
 have ub := I.base
 have hf : (envOfC qual scope s.heap.objs.size f cd).frame = some s.heap.objs.size := by
  rcases I.ok.stk with z | z
  ·exact absurd (congrArg List.length z) (by show outer.length + 1 ≠ outer.length; omega)
  ·exact z.2
 have no : ∀ b o, s.heap.get? b = some o -> b ∉ frs outer -> b ∉ frs (envOfC qual scope s.heap.objs.size f cd :: outer) := λb o e n z => by
  rcases anb hf z with rfl | z
  ·exact absurd (Heap.lt_size e) (Nat.lt_irrefl _)
  ·exact n z
 have nx : ∀ b : Addr, b ∉ ([] : List Addr) := λb z => nomatch z
 have inB : ∀ b o, s.heap.get? b = some o -> b ∉ frs outer -> ∃ o', B.get? b = some o' := λb o e n => by
  obtain ⟨o1, e1⟩ := ub.there b o e (nx b)
  exact kb b o1 e1 (no b o e n)
 have slots : ∀ b o, s.heap.get? b = some o -> H b = none -> b ∈ frs outer -> ∃ sl, h3.get? b = some { o with slots := sl } := λb o e n z => by
  obtain ⟨sl1, e1⟩ := ub.slot b o e n z (nx b)
  obtain ⟨sl2, e2⟩ := u.slot b _ e1 (ub.free b o e n (nx b)) (apt z) (nx b)
  obtain ⟨_, o', e', nf⟩ := I.ok.akn.mem z
  have e'' : s.heap.get? b = some o' := e'
  rw [e] at e''
  cases e''
  obtain ⟨sl3, e3⟩ := sl b _ e2 nf
  exact ⟨sl3, e3⟩
 refine ⟨⟨λb o e n z _ => ?_, λb o e n z _ => slots b o e n z, λb o e n _ => ?_, λb o e _ => ?_, λb xs q => u.tups b xs (ub.tups b xs q), λb o q z => u.ajA b o q (ub.ajA b o q z), λb ps q => ?_⟩, inB⟩
 ·have e1 := ub.keep b o e n z (nx b)
  have e2 := u.keep b o e1 (ub.free b o e n (nx b)) (no b o e z) (nx b)
  obtain ⟨o', e3⟩ := inB b o e z
  have e4 := st b o' e3
  rw [e2] at e4
  cases e4
  exact fl b o e3
 ·obtain ⟨o1, e1⟩ := ub.there b o e (nx b)
  exact u.free b o1 e1 (ub.free b o e n (nx b)) (nx b)
 ·by_cases z : b ∈ frs outer
  ·obtain ⟨sl, e1⟩ := slots b o e (I.ok.frf b z) z
   exact ⟨_, e1⟩
  ·obtain ⟨o', e1⟩ := inB b o e z
   exact ⟨o', fl b o' e1⟩
 ·obtain ⟨m1, e1⟩ := ub.ajB b ps q
  obtain ⟨m2, e2⟩ := u.ajB b _ e1
  exact ⟨m1 ++ m2, by rw [e2, Array.append_assoc]⟩
end
noncomputable def Raises (X : Cx) (E : XK) : Prop := ∀ (pins : List (Addr × Obj)) (σ : St) (H : Hp) (s : Shared) (h' : Heap) (e C : Addr) (us : List Value), Inv X pins σ H s -> Heap.MadeExcOf s.heap h' e (.ref C) us -> E (.ref C) none H -> X.xe (.ref e) { s with heap := h' }
theorem afY {P : Program} {w : World} {K : PySem.W.Frag} {mg : Str -> Option Value} {base : Heap} {N : List Str} {qual : Str} {scope : Scope} {f : Addr} {cd : Value} {A : Around} {outer : List Env} {s : Shared} {H : Hp} {E : XK} :
  Raises (ajI (CXF P w) P w K mg base N qual scope f cd A outer s H E) E := by
 intro pins σ H1 s1 h' e C us I hx q
 have hs := I.stack
 have hf : (envOfC qual scope s.heap.objs.size f cd).frame = some s.heap.objs.size := by
  rcases I.ok.stk with z | z
  ·exact absurd (congrArg List.length z) (by show outer.length + 1 ≠ outer.length; omega)
  ·exact z.2
 have hin : ∀ env ∈ (envOfC qual scope s.heap.objs.size f cd :: outer), ∀ a, env.frame = some a -> a ∈ frs (envOfC qual scope s.heap.objs.size f cd :: outer) := λenv he b hb => List.mem_filterMap.mpr ⟨env, he, hb⟩
 have stB : (PySem.W.hideAll s1.heap (frs (envOfC qual scope s.heap.objs.size f cd :: outer))).StaysIn s1.heap := λb o z => PySem.W.of_hideAll _ z
 have stH : (PySem.W.hideAll s1.heap (frs (envOfC qual scope s.heap.objs.size f cd :: outer))).StaysIn h' := λb o z => hx.keeps b o (stB b o z)
 refine wpAny_leaves_madeW (base := PySem.W.hideAll s1.heap (frs (envOfC qual scope s.heap.objs.size f cd :: outer))) (h := s1.heap) I.ok.frames hf stB (PySem.W.funFrames_hide hs hin) hx λh'' t fl _ _ sl => ?_
 obtain ⟨un, ib⟩ := Un.left (B := PySem.W.hideAll s1.heap (frs (envOfC qual scope s.heap.objs.size f cd :: outer))) I (Un.kept (h' := h') hx.keeps) stH (λb o z n => ⟨o, PySem.W.hideAll_get _ z n⟩) fl.1 sl
 exact ⟨e, .ref C, .ref t, H1, _, rfl, q, I.os, I.bare, un, anc I.hok I.aeG, fl, ib⟩
theorem aat {P : Program} {w : World} {K : PySem.W.Frag} {mg : Str -> Option Value} {base : Heap} {N : List Str} {qual : Str} {scope : Scope} {f : Addr} {cd : Value} {A : Around} {outer : List Env} {s : Shared} {H : Hp} {E : XK} :
  Passes (CXF P w) (ajI (CXF P w) P w K mg base N qual scope f cd A outer s H E) E := by
 intro pins σ H1 s1 e s' I h
 obtain ⟨ea, cls, a0, H2, B, rfl, q, os, bare, un, hok, fl, kb⟩ := h
 have hf : (envOfC qual scope s.heap.objs.size f cd).frame = some s.heap.objs.size := by
  rcases I.ok.stk with z | z
  ·exact absurd (congrArg List.length z) (by show outer.length + 1 ≠ outer.length; omega)
  ·exact z.2
 refine wpAny_leaves_onW (base := B) I.ok.frames hf fl λh'' fl' sl => ?_
 obtain ⟨un', ib⟩ := Un.left (B := B) I un fl.1 kb fl'.1 sl
 exact ⟨ea, cls, a0, H2, B, rfl, q, os.trans I.os, bare, un', hok, fl', ib⟩
noncomputable def aow (E : XK) (C : Addr) (te : TE) : TS := λ_ σ H => te σ H λv H1 => [v].length = 1 /\ E (.ref C) none H1
theorem ahg {X : Cx} {E : XK} {x : Str} {C : Addr} {B newId initId : String} {bm : List Value} {np cpos pos : Pos} {e : Expr} {te : TE} (R : Raises X E) (O : OwnCls x C bm newId X.mg X.base) (FB : ExcBaseFacts B newId initId bm) (hc : X.calm = true) (ha : PE X e te)
  (hg : Gl X x := by rfl) (hd : (x == ("__debug__" : Str)) = false := by decide) (hs : starEach [e] X.env = [(false, eval e X.env)] := by rfl) :
  PS X (.Raise (some (.Call (.Name x np) [e] [] cpos)) none pos) (aow E C te) := by
 refine ⟨λpins s σ H D I h => ?_⟩
 obtain ⟨tl, N, nm, q, bs, hdct, sn, sub, ab, col, dd, k0, k1, k2, k3, k5, mN, hC, hN, hni, T⟩ := O.obj
 refine wpAny_Raise_call_subT (C := C) (nm := nm) (q := q) (N := N) (bs := bs) (bm := tl) (hdct := hdct) (sn := sn) (sub := sub) (ab := ab) (col := col) (dd := dd) (k0 := k0) (k1 := k1) (k2 := k2) (k3 := k3) (k5 := k5)
  FB (mN := mN) (T.hasType FB.hasBase) (I.ok.hd hc) (by rw [hs]; rfl) hni (afO I hg O.bound ⟨rfl, ?_⟩ hd)
 have ga : PA X [e] (ac4 te alE) := acA ha aal (by rw [hs]; rfl)
 have z := ga cpos pins s σ H (λvs H1 => vs.length = 1 /\ E (.ref C) none H1) I (by
  show te σ H λv H1 => _
  exact h)
 rw [hs] at z ⊢
 refine Calls.evalArgs_plain (wpAny_mono z (λus s₂ h₂ => ?_) λ_ _ y => y)
 obtain ⟨vs, H2, I2, rv, hl, hE⟩ := h₂
 refine ⟨rfl, ?_, I2.bk _ _ hC, hN.keeps I2.bk, T.keeps I2.bk, λh' e' hm => R pins σ H2 s₂ h' e' C us I2 hm hE⟩
 rw [<-rv.length, hl]
 decide
end L2
end
section
namespace L2
open PySem PySem.Spec PyProof.Rows
noncomputable def XP (X : Cx) (pins : List (Addr × Obj)) (EX : St -> XK) (e : Value) (s' : Shared) : Prop := ∃ σ H s, Inv X pins σ H s /\ CXF X.prog X.w X.stack H s (EX σ) e s'
noncomputable abbrev TX := Ends -> (St -> XK) -> St -> Hp -> Prop
noncomputable abbrev TEX := (St -> XK) -> TE
noncomputable def PX (X : Cx) (st : Stmt) (t : TX) : Prop :=
 ∀ (pins : List (Addr × Obj)) (s : Shared) (σ : St) (H : Hp) (D : Ends) (EX : St -> XK), Inv X pins σ H s -> t D EX σ H -> wpAny (model X.prog X.w) X.A (exec st X.env) (SP X pins D) (XP X pins EX) s
noncomputable def PXs (X : Cx) (st : List Stmt) (t : TX) : Prop :=
 ∀ (pins : List (Addr × Obj)) (s : Shared) (σ : St) (H : Hp) (D : Ends) (EX : St -> XK), Inv X pins σ H s -> t D EX σ H -> wpAny (model X.prog X.w) X.A (execs st X.env) (SP X pins D) (XP X pins EX) s
noncomputable def PEX (X : Cx) (e : Expr) (t : TEX) : Prop :=
 ∀ (pins : List (Addr × Obj)) (s : Shared) (σ : St) (H : Hp) (Q : VK) (EX : St -> XK), Inv X pins σ H s -> t EX σ H Q -> wpAny (model X.prog X.w) X.A (eval e X.env) (EP X pins σ Q) (XP X pins EX) s
section
variable {X : Cx} {k : Nat} {f : Addr} {fd : FuncData} {x : Str} {ps : List Str} {sp : Sp} {p pos : Pos} {e : Expr} {es : List Expr} {te : TEX} {t : TA} {st : Stmt} {rest : List Stmt} {a b : TX}
theorem apu (h1 : PX X st a) : PXs X [st] a := by
 intro pins s σ H D EX I h
 refine wpAny_execs_cons (wpAny_mono (h1 pins s σ H D EX I h) (λf s1 q => ?_) λ_ _ z => z)
 cases f with
 | next => exact wpAny_execs_nil q
 | ret u => exact q
 | brk => exact q
 | cont => exact q
noncomputable def alP (sp : Sp) (t : TA) : TEX := λEX σ H Q => t σ H λvs H1 => sp vs H1 Q (EX σ)
theorem ane (F : ajH X.prog X.w X.K X.mg X.base (CXF X.prog X.w) k f fd ps sp) (hr : aeI k X.A) (hm : X.mg x = some (.ref f)) (hk : PySem.W.keepIn X.K (.ref f) = true) (hb : Binds X.K fd ps []) (ha : PA X.nox (e :: es) t) (hg : Gl X x := by rfl)
  (hdb : (x == ("__debug__" : Str)) = false := by decide) (he : starEach (e :: es) X.env = (false, eval e X.env) :: starEach es X.env := by rfl) (hpl : (backTo pos (starEach es X.env)).any (·.1) = false := by rfl) :
  PEX X (.Call (.Name x p) (e :: es) [] pos) (alP sp t) := by
 intro pins s σ H Q EX I h
 refine wpAny_Call_Name_kw (afO I hg hm ?_ hdb)
 refine PySem.W.callWith_K (h₀ := X.base) I.ok.mod.kin hk (wpAny_mono (ha pos pins s σ H _ (I.wish _) h) (λus s1 ⟨vs, H1, I1', r, q⟩ => ?_) λ_ _ z => False.elim z) he hpl
 have I1 := I1'.aei
 refine ⟨I1.kIn, ?_⟩
 have hl : (us ++ []).length = ps.length := by rw [List.append_nil, <-r.length]; exact F.len _ _ _ _ q
 have hb' := hb s1 us I1.kIn hl
 rw [List.append_nil] at hb'
 refine wpAny_call (codeAny_mono (F.run X.A X.stack s1 H1 ⟨us, []⟩ us vs Q (EX σ) hr I1.env0 hb' r q) λr s' hq => ?_)
 cases r with
 | error e => exact ⟨σ, H1, s1, I1, hq⟩
 | ok fl =>
  cases fl with
  | ret u => exact I1.after hq
  | next => exact False.elim hq
  | brk => exact False.elim hq
  | cont => exact False.elim hq
end
end L2
end
section
namespace L2
open PySem PySem.Spec PyProof.Rows
theorem ad6.here {P : Program} {w : World} {H : Hp} {h : Heap} {a : Addr} {o : HO} (x : ad6 P w H h a o) : ∃ u, h.get? a = some u := by
 cases o with
 | lst xs => obtain ⟨_, _, _, _, e⟩ := x; exact ⟨_, e⟩
 | tup xs => obtain ⟨_, _, _, _, e, _⟩ := x; exact ⟨_, e⟩
 | dK kvs => obtain ⟨_, _, _, _, o, _, _, e, _⟩ := x; exact ⟨_, e⟩
 | dT kvs => obtain ⟨_, _, _, _, o, _, _, e, _⟩ := x; exact ⟨_, e⟩
 | set S n => obtain ⟨o, _, _, _, e, _⟩ := x; exact ⟨_, e⟩
 | ins C dx fs => obtain ⟨_, _, _, e, _⟩ := x; exact ⟨_, e⟩
 | own y => exact x
 | xd fs => obtain ⟨_, ⟨_, _, _, e, _⟩, _⟩ := x; exact ⟨_, e⟩
 | rng lo hi => obtain ⟨_, _, _, e⟩ := x; exact ⟨_, e⟩
 | frz ob u => obtain ⟨e, _⟩ := x; exact ⟨_, e⟩
 | tbl ps => exact ⟨_, (show h.get? a = some _ from x)⟩
 | met f y => exact ⟨_, (show h.get? a = some _ from x)⟩
 | ext φ => exact x.2.1
theorem Un.flown {fs : List Addr} {H1 H2 : Hp} {h0 h1 h6 B : Heap} (un : Un fs [] H1 H2 h0 h1) (kb : ∀ b o, h0.get? b = some o -> b ∉ fs -> ∃ o', B.get? b = some o') (st1 : B.StaysIn h1) (st6 : B.StaysIn h6) (sl : h1.UpToSlots h6)
  (nf : ∀ b ∈ fs, ∀ o, h0.get? b = some o -> ∀ vs, o.data ≠ .fields vs) (fr : ∀ b ∈ fs, H1 b = none) : Un fs [] H1 H2 h0 h6 := by
 have slots : ∀ b o, h0.get? b = some o -> H1 b = none -> b ∈ fs -> ∃ sl, h6.get? b = some { o with slots := sl } := λb o e n z => by
  obtain ⟨s1, e1⟩ := un.slot b o e n z (λz => nomatch z)
  obtain ⟨s2, e2⟩ := sl b _ e1 (nf b z o e)
  exact ⟨s2, e2⟩
 refine ⟨λb o e n z _ => ?_, λb o e n z _ => slots b o e n z, un.free, λb o e _ => ?_, un.tups, un.ajA, un.ajB⟩
 ·have e1 := un.keep b o e n z (λz => nomatch z)
  obtain ⟨o', e2⟩ := kb b o e z
  have e3 := st1 b o' e2
  rw [e1] at e3
  cases e3
  exact st6 b o e2
 ·by_cases z : b ∈ fs
  ·obtain ⟨s1, e1⟩ := slots b o e (fr b z) z
   exact ⟨_, e1⟩
  ·obtain ⟨o', e1⟩ := kb b o e z
   exact ⟨o', st6 b o' e1⟩
section
variable {X : Cx} {pins : List (Addr × Obj)} {σ : St} {H1 H2 : Hp} {s0 s1 : Shared} {B h6 : Heap} {ea : Addr} {cls a0 : Value}
theorem Inv.flown (I : Inv X pins σ H1 s0) (un : Un (frs X.stack) [] H1 H2 s0.heap s1.heap) (os : s1.os = s0.os) (bare : AllBare s1.gens) (hok : HOk X.prog X.w H2 B) (fl : Heap.FlyingW B X.stack ea cls a0 s1.heap)
  (kb : ∀ b o, s0.heap.get? b = some o -> b ∉ frs X.stack -> ∃ o', B.get? b = some o') (fl6 : Heap.FlyingW B X.stack ea cls a0 h6) (sl : s1.heap.UpToSlots h6) :
  H2 ea = none /\ Inv X pins σ H2 { s1 with heap := h6 } /\ ∀ C, cls = .ref C -> Inv X pins σ (upd H2 ea (exO ea C)) { s1 with heap := h6 } := by
 have nf : ∀ b ∈ frs X.stack, ∀ o, s0.heap.get? b = some o -> ∀ vs, o.data ≠ .fields vs := λb hb o e => by
  obtain ⟨_, o', e', q⟩ := I.stack.mem hb
  rw [e] at e'
  cases e'
  exact q
 have u6 := un.flown kb fl.1 fl6.1 sl nf I.aeG
 have k6 : HOk X.prog X.w H2 h6 := hok.kept fl6.1
 have fe : H2 ea = none := by
  cases q : H2 ea with
  | none => rfl
  | some u =>
   obtain ⟨o, e⟩ := (hok ea u q).here
   rw [fl.2.1] at e
   cases e
 have ne0 : s0.heap.get? ea = none := by
  cases q : s0.heap.get? ea with
  | none => rfl
  | some o =>
   by_cases z : ea ∈ frs X.stack
   ·obtain ⟨sl1, e1⟩ := un.slot ea o q (I.aeG ea z) z (λz => nomatch z)
    obtain ⟨oe, vs, e2, _, d, _⟩ := fl.first
    rw [e1] at e2
    cases e2
    exact absurd d (nf ea z o q vs)
   ·obtain ⟨o', e1⟩ := kb ea o q z
    rw [fl.2.1] at e1
    cases e1
 refine ⟨fe, I.call' (s' := { s1 with heap := h6 }) (ch := []) os u6 k6 bare (λb z => nomatch z), λC hC => ?_⟩
 obtain ⟨oe, vs, e2, c2, d2, _⟩ := fl6.first
 have nee : ∀ b o, s0.heap.get? b = some o -> b ≠ ea := λb o e z => by rw [z, ne0] at e; cases e
 have neH : ∀ b o, H2 b = some o -> b ≠ ea := λb o e z => by rw [z, fe] at e; cases e
 refine I.call' (s' := { s1 with heap := h6 }) (H' := upd H2 ea (exO ea C)) (ch := []) os ⟨u6.keep, u6.slot, λb o e n hx => ?_, u6.there, λb xs e => ?_, λb o u e => ?_, λb ps e => ?_⟩ (λb u e => ?_) bare (λb z => nomatch z)
 ·rw [aaw (nee b o e)]
  exact u6.free b o e n hx
 ·have := u6.tups b xs e
  rw [aaw (neH b _ this)]
  exact this
 ·have := u6.ajA b o u e
  rw [aaw (neH b _ this)]
  exact this
 ·obtain ⟨m, q⟩ := u6.ajB b ps e
  exact ⟨m, by rw [aaw (neH b _ q)]; exact q⟩
 ·by_cases z : b = ea
  ·subst z
   rw [aaQ] at e
   cases e
   exact ⟨⟨oe, vs, e2, c2.trans hC, d2⟩, ⟨oe, e2⟩, λh1 h2 ⟨o, ws, q1, q2, q3⟩ k => ⟨o, ws, k o q1, q2, q3⟩⟩
  ·rw [aaw z] at e
   exact (k6 b u e).stay (λ_ _ _ q => q) (λc q => by rw [aaw (neH c _ q)]; exact q) λc xs q => by rw [aaw (neH c _ q)]; exact q
end
theorem ajO {X : Cx} {pins : List (Addr × Obj)} {σ : St} {H : Hp} {s : Shared} {M : Model} {A : Around} {E : Value -> Shared -> Prop} {j : Nat} {n : Str} {pos : Pos} {Q : Unit -> Shared -> Prop} (I : Inv X pins σ H s) (hN : X.N.Nodup) (hj : X.N[j]? = some n) (hl : X.env.kindOf n = some .local)
  (h : ∀ s', Inv X pins (σ.set j none) H s' -> Q () s') : wpAny M A (do bindName X.env n .none; unbindBehindTheSuite X.env n pos) Q E s := by
 obtain ⟨m, hn, hv⟩ := id I.loc
 refine wpAny_nameGoes_keeps hl hn (by rw [I.ok.kind]; rfl) λh' v hn' hs => ?_
 have neL : ∀ b o, X.s₀.heap.get? b = some o -> b ≠ X.env.locals := λb o e => Nat.ne_of_lt (Nat.lt_of_lt_of_le (Heap.lt_size e) I.ok.above)
 refine h _ ⟨I.ok, I.os, I.bare, ⟨λb o e n hb hx => (hs.2 b (neL b o e)).trans (I.base.keep b o e n hb hx), λb o e n hb hx => ?_, I.base.free, λb o e hx => ?_, I.base.tups, I.base.ajA, I.base.ajB⟩,
  ⟨_, hn', λi y v' e1 e2 e3 => ?_⟩, λy c e => ?_, I.free, I.aef, λp hp => ?_, λb o e => ?_, by rw [List.length_set]; exact I.len⟩
 ·obtain ⟨sl, e1⟩ := I.base.slot b o e n hb hx
  exact ⟨sl, (hs.2 b (neL b o e)).trans e1⟩
 ·obtain ⟨o', e1⟩ := I.base.there b o e hx
  exact ⟨o', (hs.2 b (neL b o e)).trans e1⟩
 ·by_cases hi : i = j
  ·subst hi
   rw [List.getElem?_set] at e2
   split at e2
   ·split at e2 <;> cases e2
   ·rename_i z; exact absurd rfl z
  ·rw [List.getElem?_set_ne (Ne.symm hi)] at e2
   obtain ⟨u', r', q⟩ := hv i y v' e1 e2 e3
   refine ⟨u', r', ?_⟩
   rcases q with ⟨k, e⟩ | ⟨k, c, e, z⟩
   ·refine .inl ⟨k, ?_⟩
    have : y ≠ n := λe => hi (aha hN e1 (e ▸ hj))
    simp [this, e]
   ·exact .inr ⟨k, c, e, z.sameBut hs (I.cne y c e)⟩
 ·obtain ⟨w', z⟩ := I.cell y c e
  exact ⟨w', z.sameBut hs (I.cne y c e)⟩
 ·obtain ⟨e, n, ne, nf, d⟩ := I.pin p hp
  exact ⟨(hs.2 p.1 ne).trans e, n, ne, nf, d⟩
 ·refine (I.hok b o e).stay (λc u hc q => (hs.2 c ?_).trans q) (λ_ q => q) λ_ _ q => q
  rintro rfl
  rcases hc with rfl | hc
  ·rw [I.free] at e; cases e
  ·rw [I.free] at hc; cases hc
end L2
end
section
namespace L2
open PySem PySem.Spec PyProof.Rows
noncomputable abbrev Cx.caught (X : Cx) (e : Value) : Cx := { X with A := X.A.mark (some e), calm := false, xe := λ_ _ => False }
section
variable {X : Cx} {pins : List (Addr × Obj)} {σ : St} {H : Hp} {s : Shared} {e : Value}
theorem Inv.caught (I : Inv X pins σ H s) (e : Value) : Inv (X.caught e) pins σ H s :=
 ⟨⟨I.ok.mod, I.ok.kind, I.ok.glob, I.ok.blt, I.ok.above, I.ok.inj, I.ok.has, I.ok.cab, (λz => nomatch z), I.ok.frames, I.ok.stk, I.ok.exf, I.ok.bs, I.ok.bsz, I.ok.aiN, I.ok.aqV, I.ok.akn, I.ok.frf⟩, I.os, I.bare, I.base, I.loc, I.cell, I.free, I.aef, I.pin, I.hok, I.len⟩
theorem Inv.uncaught (ok : X.Ok) (I : Inv (X.caught e) pins σ H s) : Inv X pins σ H s := ⟨ok, I.os, I.bare, I.base, I.loc, I.cell, I.free, I.aef, I.pin, I.hok, I.len⟩
theorem SP.uncaught {D : Ends} {f : Flow} {s' : Shared} (ok : X.Ok) (h : SP (X.caught e) pins D f s') : SP X pins D f s' := by
 cases f with
 | next => obtain ⟨σ', H', I, q⟩ := h; exact ⟨σ', H', I.uncaught ok, q⟩
 | brk => obtain ⟨σ', H', I, q⟩ := h; exact ⟨σ', H', I.uncaught ok, q⟩
 | cont => obtain ⟨σ', H', I, q⟩ := h; exact ⟨σ', H', I.uncaught ok, q⟩
 | ret u => obtain ⟨v, σ', H', I, r, q⟩ := h; exact ⟨v, σ', H', I.uncaught ok, r, q⟩
end
noncomputable def goes (j : Nat) (D : Ends) : Ends where
 nx := λσ H => D.nx (σ.set j none) H
 rt := D.rt
 bk := λσ H => D.bk (σ.set j none) H
 ct := λσ H => D.ct (σ.set j none) H
noncomputable def exK (K : PySem.W.Frag) (cH : Addr) (j : Nat) (ts : TS) (D : Ends) : St -> XK := λσ cls _ H => ∃ C, cls = .ref C /\ PySem.W.exmOne K (.ref C) (.ref cH) = some true /\ ∀ ea, H ea = none -> ts (goes j D) (σ.set j (some (.ref ea))) (upd H ea (exO ea C))
noncomputable def av3 (K : PySem.W.Frag) (cH : Addr) (j : Nat) (tb : TX) (ts : TS) : TS := λD σ H => tb D (exK K cH j ts D) σ H
theorem arv {X : Cx} {body : List Stmt} {tb : TX} {hn n : Str} {hp hpos pos : Pos} {b₀ : Stmt} {suite : List Stmt} {ts : TS} {cH : Addr} {j : Nat} (hst : X.stack = X.env :: X.outer) (hN : X.N.Nodup) (hj : X.N[j]? = some n) (hloc : X.env.kindOf n = some .local)
  (hb : PXs X body tb) (hm : X.mg hn = some (.ref cH)) (hsu : ∀ e, PSs (X.caught e) (b₀ :: suite) ts) (hg : Gl X hn := by rfl) (hd : (hn == ("__debug__" : Str)) = false := by decide) :
  PS X (.Try body [.ExceptHandler (some (.Name hn hp)) (some n) (b₀ :: suite) hpos] [] [] pos) (av3 X.K cH j tb ts) := by
 refine ⟨λpins s σ H D I h => ?_⟩
 refine wpAny_Try_except (wpAny_mono (hb pins s σ H D (exK X.K cH j ts D) I h) (λf s1 q => ?_) λe s1 hx => ?_)
 ·cases f with
  | next => exact wpAny_execs_nil q
  | ret u => exact q
  | brk => exact q
  | cont => exact q
 obtain ⟨σ1, H1, s0, I1, ea, cls, a0, H2, B, rfl, ⟨C, rfl, hit, q⟩, os, bare, un, hok, fl, kb⟩ := hx
 have hf : X.env.frame = some X.env.locals := by
  rcases I1.ok.stk with z | z
  ·rw [hst] at z
   exact absurd (congrArg List.length z) (by simp)
  ·exact z.2
 have hfr : X.A.frames = some (X.env :: X.outer) := by rw [<-hst]; exact I1.ok.frames
 rw [hst] at fl
 refine wpAny_looks_onW (base := B) hfr hf fl λh4 held sl4 => ?_
 refine wpAny_landsW held λh5 fl5 sl5 => ?_
 have fl' := fl
 rw [<-hst] at fl'
 have av4 := fl5
 rw [<-hst] at av4
 obtain ⟨fe, I5, _⟩ := I1.flown un os bare hok fl' kb av4 (sl4.trans sl5)
 refine wpAny_handleBy_cons (codeAny_handlers_test (A := X.A.mark (some (.ref ea))) ?_) (by intro z; cases z)
 refine afO (X := X.caught (.ref ea)) (I5.caught (.ref ea)) hg hm ?_ hd
 have lt : PySem.W.Looks (model X.prog X.w) h5 (typeOf (.ref ea)) (.ref C) := by
  obtain ⟨ob, hob, hc⟩ := fl5.there
  rw [<-hc]
  exact (PySem.W.Looks.ld hob).andThen .now
 refine PySem.W.exm_one I5.kIn lt hit _ _ _ _ (λb o z => z) ?_
 refine codeAny_handlers_suite_as ?_
 refine lands_againW fl5 λh6 fl6 sl6 => ?_
 have av5 := fl6
 rw [<-hst] at av5
 obtain ⟨_, _, I6⟩ := I1.flown un os bare hok fl' kb av5 ((sl4.trans sl5).trans sl6)
 refine aeg (X := X.caught (.ref ea)) (i := j) (v := .ref ea) ((I6 C rfl).caught (.ref ea)) hN hj (.inl hloc) rfl (λs7 I7 => ?_) (.inr hloc)
 refine wpAny_mono (hsu (.ref ea) pins s7 _ _ (goes j D) I7 (q ea fe)) (λf s8 h8 => ?_) λ_ _ z => False.elim z
 have h8' := h8.uncaught I1.ok
 cases f with
 | next =>
  obtain ⟨σ', H', I', q'⟩ := h8'
  exact ajO I' hN hj hloc λs9 I9 => ⟨_, _, I9, q'⟩
 | brk =>
  obtain ⟨σ', H', I', q'⟩ := h8'
  exact ajO I' hN hj hloc λs9 I9 => ⟨_, _, I9, q'⟩
 | cont =>
  obtain ⟨σ', H', I', q'⟩ := h8'
  exact ajO I' hN hj hloc λs9 I9 => ⟨_, _, I9, q'⟩
 | ret u =>
  obtain ⟨v, σ', H', I', r, q'⟩ := h8'
  exact ajO I' hN hj hloc λs9 I9 => ⟨v, _, _, I9, r, q'⟩
end L2
end
section
namespace L2
open PySem PySem.Spec PyProof.Rows PySem.W PySem.Builtin PySem.Builtin.ObjectAttr PySem.Builtin.Getset_descriptor
structure alQ (K : Frag) (C : Addr) : Prop where
 ga : findIn K (.ref C) "__getattribute__" = some (some (.builtin "BaseException.__getattribute__"))
 gn : findIn K (.ref C) "__getattr__" = some none
 cl : findIn K (.ref C) "__class__" = some (some (.builtin "object.__class__"))
 ob : mroIn K C (.type "object") = some true
 be : mroIn K C (.type "BaseException") = some true
 is : (clsIn K C).isSome = true
section
variable {prog : Program} {w : World} {A : Around} {E : Value -> Shared -> Prop} {h : Heap} {g : Array GenState} {d : Drawn} {t : Nat} {os : OsState} {a C : Addr} {o : Obj} {K : Frag}
theorem apv {R : Result -> Shared -> Prop} (X : K.In h) (Z : alQ K C) (hx : h.get? a = some o) (hc : o.cls = .ref C) (hq : R (.ok (.ret (.ref C))) ⟨h, g, d, t, os⟩) :
  codeAny (model prog w) A (.call (.builtin "getset_descriptor.__get__") ⟨[.builtin "object.__class__", .ref a, .ref C], []⟩) R ⟨h, g, d, t, os⟩ := by
 have ty : Looks (model prog w) h (typeOf (.ref a)) (.ref C) := hc ▸ (Looks.ld hx).andThen .now
 have ms := looks_mroIn (M := model prog w) X Z.ob
 refine codeAny_call_builtin KF.slot_gs.plain KF.entry_gs (KF.slot_gs.check _ _ _ _ _ _ _ _ KF.type_class (KF.args_gs _ _ _) ?_)
 unfold Builtin.«getset_descriptor.__get__»
 unfold Builtin.Getset_descriptor.descrGet
 rw [dga_obj]
 refine wpAny_bind (wpAny_pure ?_)
 unfold Builtin.Getset_descriptor.descrGetter
 unfold Builtin.Getset_descriptor.descrCheckInstance
 unfold Builtin.Getset_descriptor.descrNameAndClass
 unfold isInstance
 simp only [KF.owner_class]
 repeat lk
 refine ⟨Code.quiet_builtin _ (by decide +kernel), codeAny_builtin KF.entry_class ?_⟩
 unfold Builtin.«object.__class__»
 unfold shownTypeOf
 repeat lk
 all_goals first | exact hq | assumption
theorem alR {tk : Tok} {Q : Fin -> Shared -> Prop} (X : K.In h) (Z : alQ K C) (hx : h.get? a = some o) (hc : o.cls = .ref C) (hq : Q (.done (.ret (.ref C))) ⟨h, g, d, t, os⟩) :
  wpAny (model prog w) A (Builtin.«object.__getattribute__» ⟨[.ref a, .str "__class__" tk], []⟩) Q E ⟨h, g, d, t, os⟩ := by
 have hT5 : (⟨h, g, d, t, os⟩ : Shared).TypeIs (.builtin "object.__class__") "getset_descriptor" := KF.type_class
 have f6 := F.slot_gs_get.lookup
 have f7 := F.slot_gs_set.lookup
 have lc := λA (Q : Option Value -> Shared -> Prop) E (q : Q (some (.builtin "object.__class__")) ⟨h, g, d, t, os⟩) => looks_findIn (M := model prog w) X Z.cl A Q E ⟨h, g, d, t, os⟩ (λ_ _ z => z) q
 repeat (any_goals (first | assumption | (with_reducible refine wpAny_loadPart_at hx ?_; rw [hc]) | with_reducible refine lc _ _ _ ?_ | wp_step))
 refine apv X Z hx hc ?_
 repeat (any_goals (first | assumption | wp_step))
theorem alS {nameV : Value} {Q : Unit -> Shared -> Prop} (X : K.In h) (Z : alQ K C) (hx : h.get? a = some o) (hc : o.cls = .ref C) (hq : Q () ⟨h, g, d, t, os⟩) :
  wpAny (model prog w) A (checkBuiltinCall "BaseException.__getattribute__" ⟨[.ref a, nameV], []⟩) Q E ⟨h, g, d, t, os⟩ := by
 have b1 : builtinKind "BaseException.__getattribute__" = some .slot := by decide +kernel
 have b2 : splitId "BaseException.__getattribute__" = some ("BaseException", "__getattribute__") := by decide +kernel
 have ha := F.args_bexc_ga (.ref a) nameV
 have lc := λA (Q : Bool -> Shared -> Prop) E (q : Q true ⟨h, g, d, t, os⟩) => looks_mroIn (M := model prog w) X Z.be A Q E ⟨h, g, d, t, os⟩ (λ_ _ z => z) q
 simp only [checkBuiltinCall, b1, b2]
 refine wpAny_bind ?_
 unfold isInstance
 repeat (first | (with_reducible refine wpAny_loadPart_at hx ?_; rw [hc]) | with_reducible refine lc _ _ _ ?_ | wp_step)
 exact hq
theorem anf {tk : Tok} {R : Result -> Shared -> Prop} (X : K.In h) (Z : alQ K C) (hx : h.get? a = some o) (hc : o.cls = .ref C) (hq : R (.ok (.ret (.ref C))) ⟨h, g, d, t, os⟩) :
  codeAny (model prog w) A (.call (.builtin "BaseException.__getattribute__") ⟨[.ref a, .str "__class__" tk], []⟩) R ⟨h, g, d, t, os⟩ :=
 codeAny_call_builtin PySem.F.attr_ValueError.ga.plain F.entry_bexc_ga (alS X Z hx hc (alR X Z hx hc hq))
theorem arw {tk : Tok} {Q : Value -> Shared -> Prop} (X : K.In h) (Z : alQ K C) (hx : h.get? a = some o) (hc : o.cls = .ref C) (hq : Q (.ref C) ⟨h, g, d, t, os⟩) :
  wpAny (model prog w) A (getAttrBy (.ref a) (.str "__class__" tk) false) Q E ⟨h, g, d, t, os⟩ := by
 have f3 := PySem.F.attr_ValueError.ga.bind (.ref a)
 have hx2 : (Value.builtin "BaseException.__getattribute__" == Value.builtin "object.__getattribute__") = false := by decide +kernel
 have hx1 : (onTheHeap (Value.ref C) && Value.builtin "BaseException.__getattribute__" == Value.builtin "object.__getattribute__") = false := by rw [hx2]; rfl
 have l1 := λA (Q : Option Value -> Shared -> Prop) E (q : Q (some (.builtin "BaseException.__getattribute__")) ⟨h, g, d, t, os⟩) => looks_findIn (M := model prog w) X Z.ga A Q E ⟨h, g, d, t, os⟩ (λ_ _ z => z) q
 have l2 := λA (Q : Option Value -> Shared -> Prop) E (q : Q none ⟨h, g, d, t, os⟩) => looks_findIn (M := model prog w) X Z.gn A Q E ⟨h, g, d, t, os⟩ (λ_ _ z => z) q
 repeat (any_goals (first | assumption | (with_reducible refine wpAny_loadPart_at hx ?_; rw [hc]) | with_reducible refine l1 _ _ _ ?_ | with_reducible refine l2 _ _ _ ?_ | wp_step))
 refine anf X Z hx hc ?_
 repeat (any_goals (first | assumption | wp_step))
theorem ang {Q : Option Value -> Shared -> Prop} (X : K.In h) (Z : alQ K C) (hx : h.get? a = some o) (hc : o.cls = .ref C) (hq : Q (some (.ref C)) ⟨h, g, d, t + 1, os⟩) :
  wpAny (model prog w) A (getAttr? (.ref a) "__class__") Q E ⟨h, g, d, t, os⟩ := by
 unfold getAttr? getAttrBy?
 repeat (any_goals (first | assumption | with_reducible apply arw X Z hx hc | wp_step))
theorem ajP (Z : alQ K C) : KitX K (.ref a) (.ref C) (atJ a C) where
 ty := λ_ _ _ ⟨o, _, h1, h2, _⟩ => h2 ▸ (Looks.ld h1).andThen .now
 it := λ_ _ X _ => by
  obtain ⟨cd, e⟩ := Option.isSome_iff_exists.mp Z.is
  unfold clsIn at e
  split at e
  ·rename_i ho
   intro A' Q' E' s' k q
   unfold isType loadHead
   exact wpAny_bind (wpAny_loadPart (k _ _ (X _ _ ho)) (wpAny_pure q))
  ·cases e
 ne := λh tp dd its n sl X htp => by
  obtain ⟨cd, e⟩ := Option.isSome_iff_exists.mp Z.is
  refine Bool.eq_false_iff.mpr λq => ?_
  have q' : C = tp := Value.ref.inj (beq_iff_eq.mp q)
  subst q'
  unfold clsIn at e
  split at e
  ·rename_i ho
   have z := (X _ _ ho).symm.trans htp
   cases z
  ·cases e
 ca := λ{_ _ _ _ _ s} X p k => by
  obtain ⟨h, g, d, t, os⟩ := s
  obtain ⟨o, _, h1, h2, _⟩ := p
  exact ang X Z h1 h2 k
end
section
variable {X : Cx}
noncomputable def awK (K : Frag) : List V -> Hp -> VK -> Prop := λxs H Q => ∃ (ea C : Addr) (d : Value) (dv : V) (b : Bool), xs = [.ref ea, dv] /\ H ea = some (exO ea C) /\ alQ K C /\ (∀ u, RelV dv u -> u = d) /\ kitOne K (.ref C) d = some b /\ Q (.bl b) H
theorem ajQ : acH X (.builtin "isinstance") (awK X.K) := by
 intro pins s σ H xs us Q I r h
 obtain ⟨ea, C, d, dv, b, rfl, he, Z, hd, hk, q⟩ := h
 obtain ⟨u, w', rfl, ru, rw'⟩ := vals2 r
 cases ru
 cases hd w' rw'
 have p : atJ ea C s.heap := (I.hok ea _ he).1
 exact kia_one (ajP Z) I.kIn p hk (λz => nomatch z) λtk => ⟨.bl b, H, I.tok tk, rfl, q⟩
noncomputable def awL (K : Frag) : List V -> Hp -> VK -> Prop := λxs H Q => ∃ (d : Value) (dv : V) (b : Bool), xs = [.non, dv] /\ (∀ u, RelV dv u -> u = d) /\ kitOne K (.type "NoneType") d = some b /\ Q (.bl b) H
theorem ajR : acH X (.builtin "isinstance") (awL X.K) := by
 intro pins s σ H xs us Q I r h
 obtain ⟨d, dv, b, rfl, hd, hk, q⟩ := h
 obtain ⟨u, w', rfl, ru, rw'⟩ := vals2 r
 cases ru
 cases hd w' rw'
 exact kia_one kitx_none I.kIn True.intro hk (λz => nomatch z) λtk => ⟨.bl b, H, I.tok tk, rfl, q⟩
end
end L2
end
section
namespace L2
open PySem
theorem alT (a b : Int) : a = b * a.fdiv b + a.fmod b := by
 have := Int.mul_fdiv_add_fmod a b
 omega
theorem akA (a b : Int) (h : b ≠ 0) : (a.fmod b).natAbs < b.natAbs := by
 have h1 := Int.emod_nonneg a h
 have h2 := Int.emod_lt a h
 rw [Int.fmod_eq_emod]
 split
 ·omega
 ·rename_i hn
  have hb : ¬ 0 <= b := λz => hn (.inl z)
  have hd : ¬ b ∣ a := λz => hn (.inr z)
  have h3 : a % b ≠ 0 := λz => hd (Int.dvd_of_emod_eq_zero z)
  omega
theorem anh (a b : Int) : Int.gcd b (a.fmod b) = Int.gcd a b := by
 have e := alT a b
 apply Nat.dvd_antisymm
 ·refine Int.dvd_gcd ?_ ?_
  ·have h1 : (Int.gcd b (a.fmod b) : Int) ∣ b := Int.gcd_dvd_left ..
   have h2 : (Int.gcd b (a.fmod b) : Int) ∣ a.fmod b := Int.gcd_dvd_right ..
   have h3 := Int.dvd_add (Int.dvd_mul_of_dvd_left (c := a.fdiv b) h1) h2
   rw [<-e] at h3
   exact h3
  ·exact Int.gcd_dvd_left ..
 ·refine Int.dvd_gcd ?_ ?_
  ·exact Int.gcd_dvd_right ..
  ·have h1 : (Int.gcd a b : Int) ∣ a := Int.gcd_dvd_left ..
   have h2 : (Int.gcd a b : Int) ∣ b := Int.gcd_dvd_right ..
   have e2 : a.fmod b = a - b * a.fdiv b := by omega
   rw [e2]
   exact Int.dvd_sub h1 (Int.dvd_mul_of_dvd_left h2)
theorem apw (a : Int) : (if a < 0 then -a else a) = ((Int.gcd a 0 : Nat) : Int) := by
 rw [Int.gcd_zero_right]
 split <;> omega
theorem ael {a b : Int} (hb : 0 < b) : 0 < ((Int.gcd a b : Nat) : Int) /\ ((Int.gcd a b : Nat) : Int) <= b /\ 1 <= b / (Int.gcd a b : Nat) /\ Int.gcd (a / (Int.gcd a b : Nat)) (b / (Int.gcd a b : Nat)) = 1 /\ (0 <= a -> 0 <= a / (Int.gcd a b : Nat)) /\
  a = (a / (Int.gcd a b : Nat)) * (Int.gcd a b : Nat) /\ b = (b / (Int.gcd a b : Nat)) * (Int.gcd a b : Nat) := by
 have hg : 0 < Int.gcd a b := Int.gcd_pos_of_ne_zero_right a (by omega)
 have hgi : 0 < ((Int.gcd a b : Nat) : Int) := by omega
 have d1 : (Int.gcd a b : Int) ∣ a := Int.gcd_dvd_left ..
 have d2 : (Int.gcd a b : Int) ∣ b := Int.gcd_dvd_right ..
 have e1 := Int.ediv_mul_cancel d1
 have e2 := Int.ediv_mul_cancel d2
 refine ⟨hgi, Int.le_of_dvd hb d2, ?_, Int.gcd_ediv_gcd_ediv_gcd hg, λh => Int.ediv_nonneg h (by omega), e1.symm, e2.symm⟩
 have : 0 < b / (Int.gcd a b : Nat) := Int.ediv_pos_of_pos_of_dvd hb (by omega) d2
 omega
end L2
end
section
namespace L2
open PySem PySem.Spec PyProof.Rows
section
variable {X : Cx}
end
end L2
end
section
namespace L2
open PySem PySem.Spec PyProof.Rows PySem.W
theorem alU {K : Frag} {h : Heap} {mg : Str -> Option Value} {x : Str} {C : Addr} {bmB : List Value} {newId : String} (X : K.In h) (G : h.Ns mainGlobals mg) (e : nsIn K mainGlobals x = some (some (.ref C))) (q : excIn K C bmB newId = true) : OwnCls x C bmB newId mg h := by
 constructor
 ·exact mg_of X G e
 unfold excIn at q
 split at q
 case h_2 => cases q
 rename_i dd cd sl lk
 split at q
 case h_2 => cases q
 rename_i c0 bm y0 y1 y2 y3 nid y5 hm hl
 rw [Bool.and_eq_true, Bool.and_eq_true, Bool.and_eq_true, Bool.and_eq_true, Bool.and_eq_true] at q
 obtain ⟨⟨⟨⟨⟨q1, q2⟩, q3⟩, q4⟩, q5⟩, q6⟩ := q
 have r1 := beq_iff_eq.mp q1
 have r2 := beq_iff_eq.mp q2
 have r6 := beq_iff_eq.mp q6
 have r3 : cd.hasDel = false := by simpa using q3
 subst r1 r2
 have hsl : sl = #[y0, y1, y2, y3, some (.builtin nid), y5] := by
  cases sl with
  | mk l => exact congrArg Array.mk hl
 subst hsl
 cases cd with
 | mk nm bs mro ns qn hd sn sub ab col del =>
  dsimp only at hm r3 q5 r6
  subst hm r3
  exact ⟨bm, ns, nm, qn, bs, hd, sn, sub, ab, col, dd, y0, y1, y2, y3, y5, _, X _ _ lk, .of_isNs (isNs_of_in X q5), nsMap_none_of_in X q5 r6, tail_of_in X q4⟩
section
variable {P : Program} {w : World} {K : Frag} {mg : Str -> Option Value} {base : Heap}
theorem Fun.okX {x qual : Str} {st : Stmt} {f : Addr} {fd : FuncData} {N ps : List Str} {k : Nat} {sp : Sp} (F : Fun K x qual st f fd) (S : aaE N ps (aak st)) (len : ∀ vs H Q E, sp vs H Q E -> vs.length = ps.length)
  (hbody : ∀ (cdv : Value) (A : Around) (outer : List Env) (s : Shared) (H : Hp) (vs : List V) (Q : VK) (E : XK), aeI k (A.deeper (envOfC qual (aak st) s.heap.objs.size f cdv)) -> sp vs H Q E ->
   ∃ t, PSs (ajI (CXF P w) P w K mg base N qual (aak st) f cdv A outer s H E) (abH st) t /\ t { nx := λ_ H' => Q .non H', rt := Q } (start N vs) H) : ajH P w K mg base (CXF P w) (k + 1) f fd ps sp := by
 obtain ⟨oc, od, kV, doc, pm, an, cdv, ct, osl, rfl, lk, hcd⟩ := F.ex
 exact aq9 lk hcd S len λA outer s H vs Q E hr h => hbody cdv A outer s H vs Q E hr h
noncomputable def DfX (P : Program) (w : World) (K : Frag) (mg : Str -> Option Value) (base : Heap) (k : Nat) (x : Str) (ps : List Str) (sp : Sp) : Prop :=
 ∃ f fd, ajH P w K mg base (CXF P w) k f fd ps sp /\ Binds K fd ps [] /\ keepIn K (.ref f) = true /\ mg x = some (.ref f)
theorem DfX.mono {j k : Nat} {x : Str} {ps : List Str} {sp : Sp} (D : DfX P w K mg base j x ps sp) (h : j <= k) : DfX P w K mg base k x ps sp := by
 obtain ⟨f, fd, h1, h2⟩ := D
 exact ⟨f, fd, h1.mono h, h2⟩
theorem At.dfx {k : Nat} {x : Str} {st : Stmt} {N ps : List Str} {sp : Sp} (a : At K mg x st) (S : aaE N ps (aak st))
  (hb : ∀ (kV doc pm : Value) (an : Option Addr) (cdv ct : Value) (us : List Value), us.length = ps.length -> bindArgs (fnOf x x (acC st) (abH st) (aak st) .none kV doc pm an cdv ct) ⟨us, []⟩ = pure (ps.zip us))
  (len : ∀ vs H Q E, sp vs H Q E -> vs.length = ps.length)
  (hbody : ∀ (f : Addr) (cdv : Value) (A : Around) (outer : List Env) (s : Shared) (H : Hp) (vs : List V) (Q : VK) (E : XK), aeI k (A.deeper (envOfC x (aak st) s.heap.objs.size f cdv)) -> sp vs H Q E ->
   ∃ t, PSs (ajI (CXF P w) P w K mg base N x (aak st) f cdv A outer s H E) (abH st) t /\ t { nx := λ_ H' => Q .non H', rt := Q } (start N vs) H) : DfX P w K mg base (k + 1) x ps sp := by
 obtain ⟨f, fd, F, m⟩ := a
 exact ⟨f, fd, F.okX S len λcdv A outer s H vs Q E hr h => hbody f cdv A outer s H vs Q E hr h, F.binds hb, F.kp, m⟩
end
section
variable {X : Cx} {k : Nat} {x : Str} {ps : List Str} {sp : Sp} {p pos : Pos} {e : Expr} {es : List Expr} {t : TA}
theorem aeN {P : Program} {w : World} : Passes (CXF P w) X E0 := λ_ _ _ _ _ _ _ h => by
 obtain ⟨_, _, _, _, _, _, q, _⟩ := h
 exact q.elim
theorem alV (D : DfX X.prog X.w X.K X.mg X.base k x ps sp) (hr : aeI k X.A) (ha : PA X.nox (e :: es) t) (hg : Gl X x := by rfl) (hdb : (x == ("__debug__" : Str)) = false := by decide)
  (he : starEach (e :: es) X.env = (false, eval e X.env) :: starEach es X.env := by rfl) (hpl : (backTo pos (starEach es X.env)).any (·.1) = false := by rfl) : PEX X (.Call (.Name x p) (e :: es) [] pos) (alP sp t) := by
 obtain ⟨f, fd, h1, h2, h3, h4⟩ := D
 exact ane h1 hr h4 h3 h2 ha hg hdb he hpl
end
end L2
end
section
namespace L2
open PySem PySem.Spec PyProof.Rows
noncomputable def Itz (K : PySem.W.Frag) (l1 l2 : Addr) : It where
 go := λi H => ∃ xs ys x y, SqL K H l1 xs /\ SqL K H l2 ys /\ xs[i]? = some x /\ ys[i]? = some y
 yld := λi H v H' => ∃ T x y, v = .ref T /\ H T = none /\ H' = upd H T (.tup [x, y]) /\ ∀ xs ys, SqL K H l1 xs -> SqL K H l2 ys -> xs[i]? = some x /\ ys[i]? = some y
 stop := λi H => ∃ xs ys, SqL K H l1 xs /\ SqL K H l2 ys /\ i = min xs.length ys.length
noncomputable def auj (l1 l2 z TI TO i1 i2 : Addr) (i : Nat) (h : Heap) : Prop := IsZip h z TI TO .none /\ IsPair h TI (.ref i1) (.ref i2) /\ (∃ a b, IsPair h TO a b) /\ h.IsListIter i1 l1 i /\ h.IsListIter i2 l2 i
section
variable {P : Program} {w : World} {K : PySem.W.Frag}
theorem Inv.auk {X : Cx} {pins : List (Addr × Obj)} {σ : St} {H : Hp} {s : Shared} {h' : Heap} {tk : Nat} {fp : List Addr} {T : Addr} {xs : List V} {its : List Value} (I : Inv X pins σ H s) (hf : ∀ b ∈ fp, ad7 X pins H b) (k : ∀ b o, b ∉ fp -> s.heap.get? b = some o -> h'.get? b = some o)
  (th : ∀ b ∈ fp, ∃ o, h'.get? b = some o) (hT : s.heap.objs.size <= T) (ht : IsTup h' T its.toArray) (rv : Vals xs its) (hz : xs.length <= sizeLine) : Inv X pins σ (upd H T (.tup xs)) { s with heap := h', toks := tk } := by
 have fT : H T = none := I.hok.fresh hT
 have neT : ∀ b o, s.heap.get? b = some o -> b ≠ T := λb o e z => by rw [z] at e; exact absurd (Heap.lt_size e) (Nat.not_lt.mpr hT)
 have neH : ∀ b o, H b = some o -> b ≠ T := λb o e z => by rw [z, fT] at e; cases e
 refine I.step (g' := s.gens) (d' := s.drawn) (ch := fp) (λb hb => ?_) (λb o _ _ hc e _ => k b o hc e) (λb o _ _ hc e _ => ⟨o.slots, k b o hc e⟩) (λb o _ e n => by rw [aaw (neT b o e)]; exact n) (λb o hc e => ⟨o, k b o hc e⟩)
  (λb ys e => by rw [aaw (neH b _ e)]; exact e) (λb o u e => by rw [aaw (neH b _ e)]; exact e) (λb ps e => ⟨#[], by rw [aaw (neH b _ e)]; simpa using e⟩) (λm hm => ?_) (λb u e => ?_) I.bare
 ·obtain ⟨f0, f1, f2, f3, f4, f5⟩ := hf b hb
  exact ⟨f3, f1, f4, f5⟩
 ·obtain ⟨o, es, ep, ho, r⟩ := hm
  exact ⟨o, es, ep, k _ o (λz => (hf _ z).2.1 rfl) ho, r⟩
 ·by_cases z : b = T
  ·subst z
   rw [aaQ] at e
   cases e
   exact ⟨hz, its, rv, ht⟩
  ·rw [aaw z] at e
   refine (I.hok b u e).stay (λc o hc q => k c o (λzc => ?_) q) (λc q => by rw [aaw (neH c _ q)]; exact q) λc ys q => by rw [aaw (neH c _ q)]; exact q
   have := (hf c zc).1
   rcases hc with rfl | hc
   ·rw [this] at e; cases e
   ·rw [this] at hc; cases hc
theorem Inv.apx {X : Cx} {pins : List (Addr × Obj)} {σ : St} {H : Hp} {s : Shared} {h' : Heap} {tk : Nat} {fp : List Addr} (I : Inv X pins σ H s) (hf : ∀ b ∈ fp, ad7 X pins H b) (k : ∀ b o, b ∉ fp -> s.heap.get? b = some o -> h'.get? b = some o) : Inv X pins σ H { s with heap := h', toks := tk } := by
 refine I.step (g' := s.gens) (d' := s.drawn) (ch := fp) (λb hb => ?_) (λb o _ _ hc e _ => k b o hc e) (λb o _ _ hc e _ => ⟨o.slots, k b o hc e⟩) (λb o _ e n => n) (λb o hc e => ⟨o, k b o hc e⟩)
  (λb ys e => e) (λb o u e => e) (λb ps e => ⟨#[], by simpa using e⟩) (λm hm => ?_) (λb u e => ?_) I.bare
 ·obtain ⟨f0, f1, f2, f3, f4, f5⟩ := hf b hb
  exact ⟨f3, f1, f4, f5⟩
 ·obtain ⟨o, es, ep, ho, r⟩ := hm
  exact ⟨o, es, ep, k _ o (λz => (hf _ z).2.1 rfl) ho, r⟩
 ·refine (I.hok b u e).stay (λc o hc q => k c o (λzc => ?_) q) (λc q => q) λc ys q => q
  have := (hf c zc).1
  rcases hc with rfl | hc
  ·rw [this] at e; cases e
  ·rw [this] at hc; cases hc
theorem ani {elts : List Expr} {k : Nat} {pos : Pos} (l1 l2 z TI TO i1 i2 : Addr) (D : ZipApart z TI TO i1 i2 l1 l2) : Turn P w K (.Tuple elts k pos) (Itz K l1 l2) [z, TI, TO, i1, i2] z (auj l1 l2 z TI TO i1 i2) where
 mem := by simp
 obj := λi h st b hb => by
  obtain ⟨hz, hTI, ⟨a, c, hTO⟩, ⟨o1, e1, _, d1⟩, ⟨o2, e2, _, d2⟩⟩ := st
  have hb' : b = z \/ b = TI \/ b = TO \/ b = i1 \/ b = i2 := by simpa using hb
  rcases hb' with rfl | rfl | rfl | rfl | rfl
  ·exact ⟨_, hz, λv q => nomatch q⟩
  ·exact ⟨_, hTI, λv q => nomatch q⟩
  ·exact ⟨_, hTO, λv q => nomatch q⟩
  ·exact ⟨o1, e1, λv q => by rw [d1] at q; cases q⟩
  ·exact ⟨o2, e2, λv q => by rw [d2] at q; cases q⟩
 keep := λi h h' st kp => by
  obtain ⟨hz, hTI, ⟨a, c, hTO⟩, h1, h2⟩ := st
  exact ⟨kp z (by simp) _ hz, kp TI (by simp) _ hTI, ⟨a, c, kp TO (by simp) _ hTO⟩, h1.at λo e => kp i1 (by simp) o e, h2.at λo e => kp i2 (by simp) o e⟩
 item := by
  intro X hP hw hK hc i pins s σ H E I hf st hg
  subst hP hw hK
  obtain ⟨xs, ys, x, y, q1, q2, hx, hy⟩ := hg
  obtain ⟨apy, rv1, p1, _⟩ := I.list q1
  obtain ⟨its2, rv2, p2, _⟩ := I.list q2
  obtain ⟨u, hu, ru⟩ := rv1.get hx
  obtain ⟨v, hv, rv⟩ := rv2.get hy
  have W := WalksT.zip2 (prog := X.prog) (w := X.w) (A := X.A) (I.ok.hd hc) z TI TO i1 i2 l1 l2 D apy.toArray its2.toArray
  have lt1 : i < apy.length := (List.getElem?_eq_some_iff.mp hu).1
  have lt2 : i < its2.length := (List.getElem?_eq_some_iff.mp hv).1
  refine W.item i s _ E (by simp; omega) ⟨st.1, st.2.1, st.2.2.1, st.2.2.2.1, st.2.2.2.2, p1.isList, p2.isList⟩ λT vals h' tk hp hT ht mid kk => ?_
  obtain ⟨u', v', e1, e2, rfl⟩ := hp
  have eu : u' = u := by
   have : apy[i]? = some u' := by simpa using e1
   rw [hu] at this; cases this; rfl
  have ev : v' = v := by
   have : its2[i]? = some v' := by simpa using e2
   rw [hv] at this; cases this; rfl
  subst eu ev
  refine ⟨.ref T, rfl, ?_⟩
  refine W.go elts k pos i T _ _ E mid λh'' st' kk' => ?_
  have nT := W.apart i T _ mid
  have ob := (λb hb => (by
   obtain ⟨hz, hTI, ⟨a, c, hTO⟩, ⟨o1, e1, _, d1⟩, ⟨o2, e2, _, d2⟩⟩ := st
   have hb' : b = z \/ b = TI \/ b = TO \/ b = i1 \/ b = i2 := by simpa using hb
   rcases hb' with rfl | rfl | rfl | rfl | rfl
   ·exact Heap.lt_size hz
   ·exact Heap.lt_size hTI
   ·exact Heap.lt_size hTO
   ·exact Heap.lt_size e1
   ·exact Heap.lt_size e2 : b < s.heap.objs.size) : ∀ b ∈ [z, TI, TO, i1, i2], b < s.heap.objs.size)
  have nTf : T ∉ [z, TI, TO, i1, i2] := λm => absurd (ob T m) (Nat.not_lt.mpr hT)
  have sub : ∀ b, b ∉ [z, TI, TO, i1, i2] -> b ∉ [z, TO, i1, i2] := λb n m => n (by simp at m ⊢; rcases m with rfl | rfl | rfl | rfl <;> simp)
  have awM : IsTup h'' T #[u', v'] := by
   obtain ⟨o, e, r⟩ := ht
   exact ⟨o, kk' T o nT e, r⟩
  have th : ∀ b ∈ [z, TI, TO, i1, i2], ∃ o, h''.get? b = some o := λb hb => by
   obtain ⟨hz, hTI, ⟨a, c, hTO⟩, ⟨o1, e1, _, d1⟩, ⟨o2, e2, _, d2⟩, _⟩ := st'
   have hb' : b = z \/ b = TI \/ b = TO \/ b = i1 \/ b = i2 := by simpa using hb
   rcases hb' with rfl | rfl | rfl | rfl | rfl
   ·exact ⟨_, hz⟩
   ·exact ⟨_, hTI⟩
   ·exact ⟨_, hTO⟩
   ·exact ⟨_, e1⟩
   ·exact ⟨_, e2⟩
  have I' : Inv X pins σ (upd H T (.tup [x, y])) { s with heap := h'', toks := tk } := I.auk (its := [u', v']) hf (λb o n e => kk' b o (sub b n) (kk b o (sub b n) e)) th hT awM (.cons ru (.cons rv .nil)) (by show 2 <= sizeLine; decide)
  refine ⟨.ref T, _, I', rfl, ⟨T, x, y, rfl, I.hok.fresh hT, rfl, λxs' ys' a1 a2 => ?_⟩, ⟨st'.1, st'.2.1, st'.2.2.1, st'.2.2.2.1, st'.2.2.2.2.1⟩, λb hb => ?_⟩
  ·rw [I.afA a1 q1, I.afA a2 q2]
   exact ⟨hx, hy⟩
  ·have nb : b ≠ T := by
    intro e0
    rw [e0] at hb
    exact nTf hb
   rw [aaw nb]
   exact (hf b hb).1
 done := by
  intro X hP hw hK hc i pins s σ H E I hf st hg
  subst hP hw hK
  obtain ⟨xs, ys, q1, q2, e⟩ := hg
  obtain ⟨apy, rv1, p1, _⟩ := I.list q1
  obtain ⟨its2, rv2, p2, _⟩ := I.list q2
  have W := WalksT.zip2 (prog := X.prog) (w := X.w) (A := X.A) (I.ok.hd hc) z TI TO i1 i2 l1 l2 D apy.toArray its2.toArray
  have ei : i = min apy.toArray.size its2.toArray.size := by simp [e, rv1.length, rv2.length]
  subst ei
  have sub : ∀ b, b ∉ [z, TI, TO, i1, i2] -> b ∉ [z, TO, i1, i2] := λb n m => n (by simp at m ⊢; rcases m with rfl | rfl | rfl | rfl <;> simp)
  exact W.done s _ E ⟨st.1, st.2.1, st.2.2.1, st.2.2.2.1, st.2.2.2.2, p1.isList, p2.isList⟩ λh' tk kk => ⟨rfl, I.apx hf λb o n e => kk b o (sub b n) e⟩
 self := λA i s Q E st h => wpAny_pyIter_zip st.1 h
end
section
variable {X : Cx}
noncomputable def av6 (K : PySem.W.Frag) (ta : TA) : TI := λσ H R => ta σ H λvs H1 => ∃ l1 l2, vs = [.ref l1, .ref l2] /\ (∃ xs, SqL K H1 l1 xs) /\ (∃ ys, SqL K H1 l2 ys) /\ R (Itz K l1 l2) H1
theorem aox {elts : List Expr} {k : Nat} {tpos : Pos} {a b : Expr} {ta : TA} {p pos : Pos} (hm : X.mg "zip" = none) (ha : PA X [a, b] ta) (hg : Gl X "zip" := by rfl) (hs : starEach [a, b] X.env = [(false, eval a X.env), (false, eval b X.env)] := by rfl) (hs2 : starEach [b] X.env = [(false, eval b X.env)] := by rfl) :
  PI X (.Tuple elts k tpos) (.Call (.Name "zip" p) [a, b] [] pos) (av6 X.K ta) := by
 intro pins s σ H R I h
 refine Call_ (afP I hg hm (show bootBuiltins "zip" = some (.type "zip") by decide +kernel) (PyProof.Rows.callWith_type1 (thn (ha pos pins s σ H _ I h) λus s1 ⟨vs, H1, I1, r1, q1⟩ => ?_) (by rw [hs, hs2]) (by rw [hs2]; rfl)))
 obtain ⟨l1, l2, e, ⟨xs, h1⟩, ⟨ys, h2⟩, q⟩ := q1
 subst e
 cases r1 with
 | cons r rr =>
  cases rr with
  | cons r' rr =>
   cases rr
   cases r
   cases r'
   obtain ⟨apy, rv1, p1, _⟩ := I1.list h1
   obtain ⟨its2, rv2, p2, _⟩ := I1.list h2
   obtain ⟨o1, e1, _⟩ := p1.isList
   obtain ⟨o2, e2, _⟩ := p2.isList
   refine call_zip_2 p1.isList p2.isList λh' hz hTI hTO hi1 hi2 hsz hk => ?_
   refine wpAny_pyIter_zip hz ?_
   refine ⟨_, [_, _, _, _, _], _, _, H1, rfl, I1.kept (t' := s1.toks) hk, ani l1 l2 _ _ _ _ _ (PySem.W.ktu_apart _ _ _ (Heap.lt_size e1) (Heap.lt_size e2)), ⟨hz, hTI, ⟨_, _, hTO⟩, hi1, hi2⟩, λc hc => ?_, q⟩
   have hc' : c = s1.heap.objs.size + 4 \/ c = s1.heap.objs.size + 2 \/ c = s1.heap.objs.size + 3 \/ c = s1.heap.objs.size \/ c = s1.heap.objs.size + 1 := by simpa using hc
   have hge : s1.heap.objs.size <= c := by rcases hc' with rfl | rfl | rfl | rfl | rfl <;> omega
   exact I1.am2 hge (I1.hok.fresh hge)
end
end L2
end
section
namespace L2
open PySem
end L2
end
section
namespace L2
open PySem PySem.Spec PyProof.Rows
section
variable {X : Cx} {e : Expr} {te : TE} {th : TO} {pos p2 : Pos}
end
end L2
end
section
namespace L2
open PySem PySem.Spec PyProof.Rows
section
variable {X : Cx}
end
section
variable {X : Cx} {tg : Expr}
end
end L2
end
section
namespace L2
open PySem PySem.Spec PyProof.Rows
section
variable {X : Cx}
end
end L2
end
section
namespace L2
open PySem PySem.Spec PyProof.Rows
inductive Rs (α : Type) where
 | bad | ex (c : Str) | ok (a : α)
noncomputable def Rs.bind {α β : Type} : Rs α -> (α -> Rs β) -> Rs β
 | .bad, _ => .bad
 | .ex c, _ => .ex c
 | .ok a, f => f a
noncomputable instance : Monad Rs where
 pure := .ok
 bind := Rs.bind
noncomputable def Rs.post {α : Type} (r : Rs α) (EX : Str -> Prop) (P : α -> Prop) : Prop := match r with
 | .bad => False
 | .ex c => EX c
 | .ok a => P a
theorem Rs.aae {α β : Type} {r : Rs α} {f : α -> Rs β} {EX : Str -> Prop} {P : β -> Prop} (h : (r.bind f).post EX P) : r.post EX λa => (f a).post EX P := by
 cases r <;> exact h
theorem Rs.aag {α : Type} {r : Rs α} {EX : Str -> Prop} {P P' : α -> Prop} (h : r.post EX P) (i : ∀ a, P a -> P' a) : r.post EX P' := by
 cases r with
 | bad => exact h
 | ex c => exact h
 | ok a => exact i a h
open Classical in
noncomputable def aaT (W : Addr -> Prop) (H : Hp) : Hp := λb => if W b then none else H b
theorem ahh {W : Addr -> Prop} {H : Hp} {b : Addr} (h : W b) : aaT W H b = none := if_pos h
theorem aaM {W : Addr -> Prop} {H : Hp} {b : Addr} (h : ¬ W b) : aaT W H b = H b := if_neg h
theorem abe {W : Addr -> Prop} {H : Hp} {b : Addr} {o : HO} (h : aaT W H b = some o) : ¬ W b /\ H b = some o := by
 by_cases w : W b
 ·rw [ahh w] at h; cases h
 ·rw [aaM w] at h; exact ⟨w, h⟩
theorem abf (W : Addr -> Prop) (H : Hp) : Same (aaT W H) H := λ_ _ h => (abe h).2
theorem ab9 {W W' : Addr -> Prop} {H H' : Hp} (hw : ∀ b o, H b = some o -> W' b -> W b) (s : ∀ b o, ¬ W b -> H b = some o -> H' b = some o) : Same (aaT W H) (aaT W' H') := λb o h => by
 obtain ⟨n, e⟩ := abe h
 rw [aaM λw => n (hw b o e w)]
 exact s b o n e
theorem acI {W : Addr -> Prop} {H : Hp} {a : Addr} {o : HO} (h : W a) : aaT W (upd H a o) = aaT W H := by
 funext b
 by_cases w : W b
 ·rw [ahh w, ahh w]
 ·rw [aaM w, aaM w]
  exact aaw λe => w (e ▸ h)
inductive Sl where
 | un | sh (t : Tr) | ow (ts : List Tr) | rf (ts : List Tr) | dp (ts : List Tr)
noncomputable abbrev En := List Sl
inductive Rv where
 | v (T : Tr) (fr : Bool) | s (i : Nat)
noncomputable abbrev EF := En -> Rs (Rv × En)
structure Tx where
 K : PySem.W.Frag
 Z : Addr -> Prop
 R : Addr -> Prop
 H0 : Hp
 B : Hp
 EX : Str -> Prop
noncomputable def Mu (ρ : En) (i : Nat) : Prop := ∃ ts, ρ[i]? = some (Sl.ow ts) \/ ρ[i]? = some (Sl.rf ts)
noncomputable def aul : Tr -> Bool
 | .lst _ => true
 | _ => false
inductive DR (K : PySem.W.Frag) (G H : Hp) : List V -> List Tr -> List Addr -> Prop
 | nil : DR K G H [] [] []
 | cl {x : V} {u : Tr} {xs : List V} {ts : List Tr} {bs : List Addr} (n : aul u = false) (h : Rep K G x u) (r : DR K G H xs ts bs) : DR K G H (x :: xs) (u :: ts) bs
 | rw {b : Addr} {ys : List V} {us : List Tr} {xs : List V} {ts : List Tr} {bs : List Addr} (h : H b = some (.lst ys)) (q : aaO K G ys us) (r : DR K G H xs ts bs) : DR K G H (.ref b :: xs) (.lst us :: ts) (b :: bs)
noncomputable def aoy (t : Tx) (W : Addr -> Prop) (H : Hp) (a : Addr) (xs : List V) (ts : List Tr) (fp : List Addr) : Prop :=
 ∃ bs, fp = a :: bs /\ fp.Nodup /\ (∀ b ∈ fp, W b /\ t.H0 b = none) /\ H a = some (.lst xs) /\ DR t.K (aaT W H) H xs ts bs
theorem DR.move {K : PySem.W.Frag} {G G' H H' : Hp} (m : Same G G') : ∀ {xs : List V} {ts : List Tr} {bs : List Addr}, DR K G H xs ts bs -> (∀ b o, b ∈ bs -> H b = some o -> H' b = some o) -> DR K G' H' xs ts bs
 | _, _, _, .nil, _ => .nil
 | _, _, _, .cl n h r, k => .cl n (h.mono m) (DR.move m r k)
 | _, _, _, .rw h q r, k => .rw (k _ _ (List.mem_cons_self ..) h) (q.mono m) (DR.move m r λb o hb => k b o (List.mem_cons_of_mem _ hb))
theorem aoy.move {t t' : Tx} {W W' : Addr -> Prop} {H H' : Hp} {a : Addr} {xs : List V} {ts : List Tr} {fp : List Addr} (d : aoy t W H a xs ts fp) (hK : t'.K = t.K) (h0 : t'.H0 = t.H0) (m : Same (aaT W H) (aaT W' H')) (w : ∀ b ∈ fp, W' b) (k : ∀ b o, b ∈ fp -> H b = some o -> H' b = some o) : aoy t' W' H' a xs ts fp := by
 obtain ⟨bs, e, nd, ww, ha, r⟩ := d
 refine ⟨bs, e, nd, λb hb => ⟨w b hb, by rw [h0]; exact (ww b hb).2⟩, k a _ (by rw [e]; exact List.mem_cons_self ..) ha, ?_⟩
 rw [hK]
 exact r.move m λb o hb => k b o (by rw [e]; exact List.mem_cons_of_mem _ hb)
noncomputable def Lt (H : Hp) (b : Addr) : Prop := (∃ xs, H b = some (.lst xs)) \/ ∃ ps, H b = some (.tbl ps)
theorem Lt.ne {H : Hp} {b : Addr} (h : Lt H b) : H b ≠ none := by
 rcases h with ⟨_, h⟩ | ⟨_, h⟩ <;> (rw [h]; intro z; cases z)
theorem Lt.grow {H H' : Hp} {b : Addr} (h : Lt H b) (s : ∀ b o, H b = some o -> H' b = some o) : Lt H' b := by
 rcases h with ⟨_, h⟩ | ⟨_, h⟩
 ·exact .inl ⟨_, s _ _ h⟩
 ·exact .inr ⟨_, s _ _ h⟩
noncomputable def aa7 : List Str := ["falling_places", "order_of_bounds"]
noncomputable def Tb (K : PySem.W.Frag) (b : Addr) : Prop := ∃ x ∈ aa7, ∃ c, PySem.W.tabIn K x = some (c, b)
noncomputable def aoz (o : Obj) (q : Str) : Prop := ∃ vs t, o.data = .fields vs /\ vs[1]? = some (.str q t)
noncomputable def ahi (x : Str) : Str := x ++ (".<locals>." : Str) ++ ("<lambda>" : Str)
noncomputable def atN (H : Hp) (q : Str) (ps : Array Value) : Prop := TriplesOk ps.toList /\ ∀ pos v, codeAmong pos ps.toList = some v -> ∃ c o, v = .ref c /\ H c = some (.frz o (.own 0)) /\ aoz o q
noncomputable def TbS (K : PySem.W.Frag) (H : Hp) : Prop := ∀ x ∈ aa7, ∀ c b, PySem.W.tabIn K x = some (c, b) -> ∃ ps, H b = some (.tbl ps) /\ atN H (ahi x) ps
theorem TbS.tbl {K : PySem.W.Frag} {H : Hp} (h : TbS K H) {b : Addr} (t : Tb K b) : ∃ ps, H b = some (.tbl ps) := by
 obtain ⟨x, hx, c, e⟩ := t
 obtain ⟨ps, q, _⟩ := h x hx c b e
 exact ⟨ps, q⟩
theorem TbS.ne {K : PySem.W.Frag} {H : Hp} (h : TbS K H) {a b : Addr} {xs : List V} (t : Tb K b) (e : H a = some (.lst xs)) : b ≠ a := λz => by
 obtain ⟨ps, q⟩ := h.tbl t
 rw [z, e] at q
 cases q
theorem TbS.fr {K : PySem.W.Frag} {H H' : Hp} (h : TbS K H) (s : ∀ b o, (∀ xs, o ≠ .lst xs) -> H b = some o -> H' b = some o) : TbS K H' := λx hx c b e => by
 obtain ⟨ps, q, t1, t2⟩ := h x hx c b e
 refine ⟨ps, s _ _ (λ_ z => by cases z) q, t1, λpos v k => ?_⟩
 obtain ⟨c, o, e1, e2, e3⟩ := t2 pos v k
 exact ⟨c, o, e1, s _ _ (λ_ z => by cases z) e2, e3⟩
theorem TbS.same {K : PySem.W.Frag} {H H' : Hp} (h : TbS K H) (s : Same H H') : TbS K H' := h.fr λb o _ => s b o
theorem TbS.upd {K : PySem.W.Frag} {H : Hp} (h : TbS K H) {a : Addr} {xs : List V} {o : HO} (e : H a = some (.lst xs)) : TbS K (L2.upd H a o) := h.fr λb u n q => by
 rw [aaw]
 ·exact q
 ·rintro rfl
  rw [e] at q
  cases q
  exact n _ rfl
structure aoA (t : Tx) (W : Addr -> Prop) (H : Hp) : Prop where
 ok : TbS t.K H
 w : ∀ b, Tb t.K b -> W b
 r : ∀ b, Tb t.K b -> t.R b
 B : ∀ b, Tb t.K b -> t.B b = none
theorem aoA.same {t : Tx} {W : Addr -> Prop} {H H' : Hp} (f : aoA t W H) (s : Same H H') : aoA t W H' := ⟨f.ok.same s, f.w, f.r, f.B⟩
theorem aoA.wid {t : Tx} {W W' : Addr -> Prop} {H : Hp} (f : aoA t W H) (h : ∀ b, W b -> W' b) : aoA t W' H := ⟨f.ok, λb z => h b (f.w b z), f.r, f.B⟩
structure EOF (t : Tx) (W : Addr -> Prop) (ρ : En) (σ : St) (H : Hp) (F : Nat -> List Addr) : Prop where
 len : ρ.length = σ.length
 zw : ∀ b, t.Z b -> W b
 z0 : ∀ b, t.Z b -> t.H0 b ≠ none
 wl : ∀ b, W b -> Lt H b
 f0 : ∀ b o, t.H0 b = some o -> ¬ t.R b -> H b = some o
 n0 : ∀ b, H b = none -> t.H0 b = none
 sh : ∀ (i : Nat) (u : Tr), ρ[i]? = some (.sh u) -> ∃ v, σ[i]? = some (some v) /\ Rep t.K (aaT W H) v u
 ow : ∀ (i : Nat) (ts : List Tr), ρ[i]? = some (Sl.ow ts) -> ∃ a xs, σ[i]? = some (some (V.ref a)) /\ W a /\ t.H0 a = none /\ H a = some (.lst xs) /\ aaO t.K (aaT W H) xs ts
 rf : ∀ (i : Nat) (ts : List Tr), ρ[i]? = some (Sl.rf ts) -> ∃ a xs, σ[i]? = some (some (V.ref a)) /\ W a /\ t.R a /\ H a = some (.lst xs) /\ aaO t.K (aaT W H) xs ts
 dis : ∀ (i j : Nat) (a : Addr), Mu ρ i -> Mu ρ j -> σ[i]? = some (some (V.ref a)) -> σ[j]? = some (some (V.ref a)) -> i = j
 pn : ∀ b o, t.B b = some o -> H b = some o
 pd : ∀ (i : Nat) (a : Addr), Mu ρ i -> σ[i]? = some (some (V.ref a)) -> t.B a = none
 dp : ∀ (i : Nat) (ts : List Tr), ρ[i]? = some (Sl.dp ts) -> ∃ a xs, σ[i]? = some (some (V.ref a)) /\ aoy t W H a xs ts (F i)
 dd : ∀ (i j : Nat) (ts us : List Tr), i ≠ j -> ρ[i]? = some (Sl.dp ts) -> ρ[j]? = some (Sl.dp us) -> ∀ b ∈ F i, b ∉ F j
 dm : ∀ (i j : Nat) (ts : List Tr) (c : Addr), ρ[i]? = some (Sl.dp ts) -> Mu ρ j -> σ[j]? = some (some (V.ref c)) -> c ∉ F i
 db : ∀ (i : Nat) (ts : List Tr), ρ[i]? = some (Sl.dp ts) -> ∀ b ∈ F i, t.B b = none
 tab : aoA t W H
noncomputable def EOk (t : Tx) (W : Addr -> Prop) (ρ : En) (σ : St) (H : Hp) : Prop := ∃ F, EOF t W ρ σ H F
noncomputable def EOh (t : Tx) (W : Addr -> Prop) (a : Addr) (ρ : En) (σ : St) (H : Hp) : Prop := ∃ F, EOF t (λb => W b \/ b = a) ρ σ H F /\ ∀ (i : Nat) (ts : List Tr), ρ[i]? = some (Sl.dp ts) -> a ∉ F i
theorem EOh.ok {t : Tx} {W : Addr -> Prop} {a : Addr} {ρ : En} {σ : St} {H : Hp} (e : EOh t W a ρ σ H) : EOk t (λb => W b \/ b = a) ρ σ H := e.elim λF e => ⟨F, e.1⟩
section
variable {t : Tx} {W : Addr -> Prop} {ρ : En} {σ : St} {H : Hp}
theorem EOk.len (e : EOk t W ρ σ H) : ρ.length = σ.length := e.elim λ_ e => e.len
theorem EOk.zw (e : EOk t W ρ σ H) : ∀ b, t.Z b -> W b := e.elim λ_ e => e.zw
theorem EOk.z0 (e : EOk t W ρ σ H) : ∀ b, t.Z b -> t.H0 b ≠ none := e.elim λ_ e => e.z0
theorem EOk.wl (e : EOk t W ρ σ H) : ∀ b, W b -> Lt H b := e.elim λ_ e => e.wl
theorem EOk.tab (e : EOk t W ρ σ H) : aoA t W H := e.elim λ_ e => e.tab
theorem EOk.f0 (e : EOk t W ρ σ H) : ∀ b o, t.H0 b = some o -> ¬ t.R b -> H b = some o := e.elim λ_ e => e.f0
theorem EOk.n0 (e : EOk t W ρ σ H) : ∀ b, H b = none -> t.H0 b = none := e.elim λ_ e => e.n0
theorem EOk.sh (e : EOk t W ρ σ H) : ∀ (i : Nat) (u : Tr), ρ[i]? = some (.sh u) -> ∃ v, σ[i]? = some (some v) /\ Rep t.K (aaT W H) v u := e.elim λ_ e => e.sh
theorem EOk.ow (e : EOk t W ρ σ H) : ∀ (i : Nat) (ts : List Tr), ρ[i]? = some (Sl.ow ts) -> ∃ a xs, σ[i]? = some (some (V.ref a)) /\ W a /\ t.H0 a = none /\ H a = some (.lst xs) /\ aaO t.K (aaT W H) xs ts := e.elim λ_ e => e.ow
theorem EOk.rf (e : EOk t W ρ σ H) : ∀ (i : Nat) (ts : List Tr), ρ[i]? = some (Sl.rf ts) -> ∃ a xs, σ[i]? = some (some (V.ref a)) /\ W a /\ t.R a /\ H a = some (.lst xs) /\ aaO t.K (aaT W H) xs ts := e.elim λ_ e => e.rf
theorem EOk.dis (e : EOk t W ρ σ H) : ∀ (i j : Nat) (a : Addr), Mu ρ i -> Mu ρ j -> σ[i]? = some (some (V.ref a)) -> σ[j]? = some (some (V.ref a)) -> i = j := e.elim λ_ e => e.dis
theorem EOk.pn (e : EOk t W ρ σ H) : ∀ b o, t.B b = some o -> H b = some o := e.elim λ_ e => e.pn
theorem EOk.pd (e : EOk t W ρ σ H) : ∀ (i : Nat) (a : Addr), Mu ρ i -> σ[i]? = some (some (V.ref a)) -> t.B a = none := e.elim λ_ e => e.pd
end
structure Stp (W : Addr -> Prop) (H H' : Hp) : Prop where
 keep : ∀ b o, ¬ W b -> H b = some o -> H' b = some o
 dom : ∀ b, H' b = none -> H b = none
theorem Stp.refl (W : Addr -> Prop) (H : Hp) : Stp W H H := ⟨λ_ _ _ h => h, λ_ h => h⟩
theorem Stp.trans {W : Addr -> Prop} {H H1 H2 : Hp} (a : Stp W H H1) (b : Stp W H1 H2) : Stp W H H2 := ⟨λc o n h => b.keep c o n (a.keep c o n h), λc h => a.dom c (b.dom c h)⟩
theorem Stp.of {W : Addr -> Prop} {H H' : Hp} (s : Same H H') : Stp W H H' := ⟨λb o _ h => s b o h, λ_ h => s.free h⟩
theorem Stp.off {W : Addr -> Prop} {H H' : Hp} (s : Stp W H H') : Same (aaT W H) (aaT W H') := ab9 (λ_ _ _ h => h) s.keep
theorem EOk.grow {t : Tx} {W : Addr -> Prop} {ρ : En} {σ : St} {H H' : Hp} (e : EOk t W ρ σ H) (s : Same H H') : EOk t W ρ σ H' := by
 have m : Same (aaT W H) (aaT W H') := (Stp.of s).off
 obtain ⟨F, e⟩ := e
 refine ⟨F, e.len, e.zw, e.z0, λb w => ?_, λb o h n => s b o (e.f0 b o h n), λb h => e.n0 b (s.free h), λi u h => ?_, λi ts h => ?_, λi ts h => ?_, e.dis, λb o h => s b o (e.pn b o h), e.pd, λi ts h => ?_, e.dd, e.dm, e.db, e.tab.same s⟩
 ·exact (e.wl b w).grow s
 ·obtain ⟨v, h1, h2⟩ := e.sh i u h
  exact ⟨v, h1, h2.mono m⟩
 ·obtain ⟨a, xs, h1, h2, h3, h4, h5⟩ := e.ow i ts h
  exact ⟨a, xs, h1, h2, h3, s _ _ h4, h5.mono m⟩
 ·obtain ⟨a, xs, h1, h2, h3, h4, h5⟩ := e.rf i ts h
  exact ⟨a, xs, h1, h2, h3, s _ _ h4, h5.mono m⟩
 ·obtain ⟨a, xs, h1, d⟩ := e.dp i ts h
  exact ⟨a, xs, h1, d.move rfl rfl m (λb hb => by obtain ⟨_, _, _, ww, _⟩ := d; exact (ww b hb).1) λb o _ q => s b o q⟩
noncomputable def VOk (K : PySem.W.Frag) (W : Addr -> Prop) (σ : St) (H H' : Hp) (v : V) : Rv -> Prop
 | .v T false => Rep K (aaT W H') v T
 | .v T true => ∃ a xs ts, v = .ref a /\ T = .lst ts /\ H a = none /\ H' a = some (.lst xs) /\ aaO K (off a (aaT W H')) xs ts
 | .s i => σ[i]? = some (some v)
theorem aiU (a : Addr) (H : Hp) : Same (off a H) H := λ_ _ h => (adJ h).2
theorem VOk.step {K : PySem.W.Frag} {W : Addr -> Prop} {σ : St} {H H' H'' : Hp} {v : V} {r : Rv} (hw : ∀ b, W b -> H b ≠ none) (h : VOk K W σ H H' v r) (s : Stp W H' H'') : VOk K W σ H H'' v r := by
 cases r with
 | s i => exact h
 | v T fr =>
  cases fr with
  | false => exact Rep.mono s.off h
  | true =>
   obtain ⟨a, xs, ts, rfl, rfl, e1, e2, r⟩ := h
   refine ⟨a, xs, ts, rfl, rfl, e1, s.keep a _ (λw => hw a w e1) e2, r.mono λb o q => ?_⟩
   obtain ⟨n, q⟩ := adJ q
   rw [off_ne n]
   exact s.off b o q
theorem VOk.back {K : PySem.W.Frag} {W : Addr -> Prop} {σ : St} {G H H' : Hp} {v : V} {r : Rv} (h : VOk K W σ H H' v r) (d : ∀ b, H b = none -> G b = none) : VOk K W σ G H' v r := by
 cases r with
 | s i => exact h
 | v T fr =>
  cases fr with
  | false => exact h
  | true =>
   obtain ⟨a, xs, ts, e0, e1, e2, r⟩ := h
   exact ⟨a, xs, ts, e0, e1, d _ e2, r⟩
theorem VOk.rep {K : PySem.W.Frag} {W : Addr -> Prop} {σ : St} {H H' : Hp} {v : V} {T : Tr} {fr : Bool} (hw : ∀ b, W b -> H b ≠ none) (h : VOk K W σ H H' v (.v T fr)) : Rep K (aaT W H') v T := by
 cases fr with
 | false => exact h
 | true =>
  obtain ⟨a, xs, ts, rfl, rfl, e1, e2, r⟩ := h
  refine .lst (SqL.of ?_) (r.mono (aiU _ _))
  rw [aaM λw => hw a w e1]
  exact e2
noncomputable def Rp (K : PySem.W.Frag) (W : Addr -> Prop) (H : Hp) (v : V) (T : Tr) : Prop :=
 Rep K (aaT W H) v T \/ ∃ a xs ts, v = .ref a /\ T = .lst ts /\ H a = some (.lst xs) /\ aaO K (aaT W H) xs ts
theorem Rp.rep {K : PySem.W.Frag} {W : Addr -> Prop} {H : Hp} {v : V} {T : Tr} (h : Rp K W H v T) : Rep K H v T := by
 rcases h with h | ⟨a, xs, ts, rfl, rfl, e, r⟩
 ·exact h.mono (abf _ _)
 ·exact .lst (SqL.of e) (r.mono (abf _ _))
theorem Rp.lst {K : PySem.W.Frag} {W : Addr -> Prop} {H : Hp} {v : V} {ts : List Tr} (h : Rp K W H v (.lst ts)) : ∃ a xs, v = .ref a /\ SqL K H a xs /\ aaO K (aaT W H) xs ts := by
 rcases h with h | ⟨a, xs, us, rfl, e0, e, r⟩
 ·cases h with
  | lst h r => exact ⟨_, _, rfl, (abf _ _).seq h, r⟩
 ·cases e0
  exact ⟨a, xs, rfl, SqL.of e, r⟩
theorem Rp.tup {K : PySem.W.Frag} {W : Addr -> Prop} {H : Hp} {v : V} {ts : List Tr} (h : Rp K W H v (.tup ts)) : ∃ a xs, v = .ref a /\ SqT K H a xs /\ aaO K (aaT W H) xs ts := by
 rcases h with h | ⟨a, xs, us, rfl, e0, e, r⟩
 ·cases h with
  | tup h r => exact ⟨_, _, rfl, (abf _ _).aqJ h, r⟩
 ·cases e0
theorem Rp.int {K : PySem.W.Frag} {W : Addr -> Prop} {H : Hp} {v : V} {i : Int} (h : Rp K W H v (.int i)) : v = .int i := by
 cases h.rep; rfl
theorem Rp.bl {K : PySem.W.Frag} {W : Addr -> Prop} {H : Hp} {v : V} {i : Bool} (h : Rp K W H v (.bl i)) : v = .bl i := by
 cases h.rep; rfl
theorem Rp.str {K : PySem.W.Frag} {W : Addr -> Prop} {H : Hp} {v : V} {i : Str} (h : Rp K W H v (.str i)) : v = .str i := by
 cases h.rep; rfl
theorem Rp.non {K : PySem.W.Frag} {W : Addr -> Prop} {H : Hp} {v : V} (h : Rp K W H v .non) : v = .non := by
 cases h.rep; rfl
noncomputable def dr (ρ : En) : Rv -> Rs Tr
 | .v T _ => .ok T
 | .s i => match ρ[i]? with
  | some (Sl.ow ts) => .ok (.lst ts)
  | some (Sl.rf ts) => .ok (.lst ts)
  | _ => .bad
theorem adT {t : Tx} {W : Addr -> Prop} {ρ : En} {σ : St} {H H' : Hp} {v : V} {r : Rv} {T : Tr} (e : EOk t W ρ σ H') (hw : ∀ b, W b -> H b ≠ none) (h : VOk t.K W σ H H' v r) (q : dr ρ r = .ok T) : Rp t.K W H' v T := by
 cases r with
 | v U fr =>
  cases q
  exact .inl (h.rep hw)
 | s i =>
  have h : σ[i]? = some (some v) := h
  dsimp only [dr] at q
  split at q
  ·rename_i ts e1
   cases q
   obtain ⟨a, xs, h1, h2, h3, h4, h5⟩ := e.ow i ts e1
   rw [h] at h1
   cases h1
   exact .inr ⟨a, xs, ts, rfl, rfl, h4, h5⟩
  ·rename_i ts e1
   cases q
   obtain ⟨a, xs, h1, h2, h3, h4, h5⟩ := e.rf i ts e1
   rw [h] at h1
   cases h1
   exact .inr ⟨a, xs, ts, rfl, rfl, h4, h5⟩
  ·cases q
theorem EOk.wn {t : Tx} {W : Addr -> Prop} {ρ : En} {σ : St} {H : Hp} (e : EOk t W ρ σ H) : ∀ b, W b -> H b ≠ none := λb w => by
 exact (e.wl b w).ne
theorem EOk.hide {t : Tx} {W : Addr -> Prop} {ρ : En} {σ : St} {H H' : Hp} {a : Addr} {xs : List V} (e : EOk t W ρ σ H) (s : Same H H') (n : H a = none) (q : H' a = some (.lst xs)) : EOh t W a ρ σ H' := by
 have m : Same (aaT W H) (aaT (λb => W b \/ b = a) H') := λb o h => by
  obtain ⟨w, h⟩ := abe h
  rw [aaM]
  ·exact s b o h
  ·rintro (z | rfl)
   ·exact w z
   ·rw [n] at h; cases h
 have na : ∀ b, W b -> b ≠ a := λb w z => by subst z; exact e.wn b w n
 obtain ⟨F, e⟩ := e
 refine ⟨F, ⟨e.len, λb z => .inl (e.zw b z), e.z0, λb w => ?_, λb o h nr => s b o (e.f0 b o h nr), λb h => e.n0 b (s.free h), λi u h => ?_, λi ts h => ?_, λi ts h => ?_, e.dis, λb o h => s b o (e.pn b o h), e.pd, λi ts h => ?_, e.dd, e.dm, e.db, (e.tab.same s).wid λb w => .inl w⟩, λi ts h z => ?_⟩
 ·rcases w with w | rfl
  ·exact (e.wl b w).grow s
  ·exact .inl ⟨xs, q⟩
 ·obtain ⟨v, h1, h2⟩ := e.sh i u h
  exact ⟨v, h1, h2.mono m⟩
 ·obtain ⟨c, ys, h1, h2, h3, h4, h5⟩ := e.ow i ts h
  exact ⟨c, ys, h1, .inl h2, h3, s _ _ h4, h5.mono m⟩
 ·obtain ⟨c, ys, h1, h2, h3, h4, h5⟩ := e.rf i ts h
  exact ⟨c, ys, h1, .inl h2, h3, s _ _ h4, h5.mono m⟩
 ·obtain ⟨c, ys, h1, d⟩ := e.dp i ts h
  exact ⟨c, ys, h1, d.move rfl rfl m (λb hb => by obtain ⟨_, _, _, ww, _⟩ := d; exact .inl (ww b hb).1) λb o _ q => s b o q⟩
 ·obtain ⟨c, ys, h1, bs, _, _, ww, _⟩ := e.dp i ts h
  exact na a (ww a z).1 rfl
noncomputable def VOE (t : Tx) (W : Addr -> Prop) (ρ : En) (σ : St) (H H' : Hp) (v : V) (r : Rv) : Prop := VOk t.K W σ H H' v r /\ ∀ T a, r = .v T true -> v = .ref a -> EOh t W a ρ σ H'
theorem VOE.of {t : Tx} {W : Addr -> Prop} {ρ : En} {σ σ' : St} {H H' : Hp} {v : V} {T : Tr} {fr : Bool} (e : EOk t W ρ σ H) (s : Same H H') (h : VOk t.K W σ' H H' v (.v T fr)) : VOE t W ρ σ H H' v (.v T fr) := by
 refine ⟨by cases fr <;> exact h, λU a z ev => ?_⟩
 cases z
 obtain ⟨b, xs, ts, rfl, _, n, q, _⟩ := h
 cases ev
 exact e.hide s n q
theorem VOE.low {t : Tx} {W : Addr -> Prop} {ρ : En} {σ : St} {H H' : Hp} {v : V} {T : Tr} (h : Rep t.K (aaT W H') v T) : VOE t W ρ σ H H' v (.v T false) := ⟨h, λ_ _ z => by cases z⟩
theorem VOE.back {t : Tx} {W : Addr -> Prop} {ρ : En} {σ : St} {G H H' : Hp} {v : V} {r : Rv} (h : VOE t W ρ σ H H' v r) (d : ∀ b, H b = none -> G b = none) : VOE t W ρ σ G H' v r := ⟨h.1.back d, h.2⟩
noncomputable def SE (t : Tx) (te : TE) (f : EF) : Prop := ∀ W ρ σ H Q, EOk t W ρ σ H -> (f ρ).post t.EX (λp => ∀ v H', EOk t W p.2 σ H' -> Stp W H H' -> VOE t W p.2 σ H H' v p.1 -> Q v H') -> te σ H Q
noncomputable abbrev BF := En -> Rs (Bool × En)
noncomputable def ST (t : Tx) (te : TT) (f : BF) : Prop := ∀ W ρ σ H Q, EOk t W ρ σ H -> (f ρ).post t.EX (λp => ∀ H', EOk t W p.2 σ H' -> Stp W H H' -> Q p.1 H') -> te σ H Q
noncomputable abbrev AF := En -> Rs (List Rv × En)
inductive agw (K : PySem.W.Frag) (W : Addr -> Prop) (σ : St) (H H' : Hp) : List V -> List Rv -> Prop
 | nil : agw K W σ H H' [] []
 | cons {v : V} {r : Rv} {vs : List V} {rs : List Rv} (h : VOk K W σ H H' v r) (q : agw K W σ H H' vs rs) : agw K W σ H H' (v :: vs) (r :: rs)
noncomputable def SA (t : Tx) (te : TA) (f : AF) : Prop := ∀ W ρ σ H Q, EOk t W ρ σ H -> (f ρ).post t.EX (λp => ∀ vs H', EOk t W p.2 σ H' -> Stp W H H' -> agw t.K W σ H H' vs p.1 -> Q vs H') -> te σ H Q
section
variable {t : Tx}
noncomputable def aai (i : Nat) : EF := λρ => match ρ[i]? with
 | some (.sh T) => .ok (.v T false, ρ)
 | some (.ow _) => .ok (.s i, ρ)
 | some (.rf _) => .ok (.s i, ρ)
 | _ => .bad
theorem aad (i : Nat) : SE t (am0 i) (aai i) := λW ρ σ H Q e h => by
 unfold aai at h
 split at h
 ·rename_i T q
  obtain ⟨v, h1, h2⟩ := e.sh i T q
  exact ⟨v, h1, h v H e (Stp.refl _ _) (.low h2)⟩
 ·rename_i ts q
  obtain ⟨a, xs, h1, _⟩ := e.ow i ts q
  exact ⟨_, h1, h _ H e (Stp.refl _ _) ⟨h1, λ_ _ z => by cases z⟩⟩
 ·rename_i ts q
  obtain ⟨a, xs, h1, _⟩ := e.rf i ts q
  exact ⟨_, h1, h _ H e (Stp.refl _ _) ⟨h1, λ_ _ z => by cases z⟩⟩
 ·exact h.elim
noncomputable def eC (T : Tr) : EF := λρ => .ok (.v T false, ρ)
theorem arx {v : V} {T : Tr} (h : ∀ H, Rep t.K H v T) : SE t (tC v) (eC T) := λW ρ σ H Q e q => q v H e (Stp.refl _ _) (.low (h _))
theorem aao (i : Int) : SE t (tC (.int i)) (eC (.int i)) := arx λ_ => .int i
theorem aiV (i : Bool) : SE t (tC (.bl i)) (eC (.bl i)) := arx λ_ => .bl i
theorem acd (i : Str) : SE t (tC (.str i)) (eC (.str i)) := arx λ_ => .str i
theorem ajS : SE t (tC .non) (eC .non) := arx λ_ => .non
noncomputable abbrev G2 := Tr -> Tr -> Rs (Tr × Bool)
noncomputable def OpT (K : PySem.W.Frag) (r : R2) (g : G2) : Prop := ∀ W x y a b H Q, (∀ b, W b -> Lt H b) -> Rp K W H x a -> Rp K W H y b ->
 (g a b).post (λ_ => False) (λp => ∀ v H', Same H H' -> VOk K W [] H H' v (.v p.1 p.2) -> Q v H') -> r x y H Q
noncomputable def eOp (g : G2) (fa fb : EF) : EF := λρ => (fa ρ).bind λp => (fb p.2).bind λq => (dr q.2 p.1).bind λa => (dr q.2 q.1).bind λb => (g a b).bind λz => .ok (.v z.1 z.2, q.2)
theorem aiN {α : Type} {r : Rs α} {EX : Str -> Prop} {P : α -> Prop} (h : r.post EX P) (n : ∀ c, r ≠ .ex c) : r.post (λ_ => False) P := by
 cases r with
 | bad => exact h
 | ex c => exact (n c rfl).elim
 | ok a => exact h
theorem acq (ρ : En) (r : Rv) (c : Str) : dr ρ r ≠ .ex c := by
 cases r with
 | v T fr => intro z; cases z
 | s i =>
  dsimp only [dr]
  split <;> (intro z; cases z)
theorem aeO {r : R2} {g : G2} {ta tb : TE} {fa fb : EF} (o : OpT t.K r g) (ng : ∀ a b c, g a b ≠ .ex c) (ha : SE t ta fa) (hb : SE t tb fb) : SE t (tOp r ta tb) (eOp g fa fb) := λW ρ σ H Q e h => by
 refine ha W ρ σ H _ e (Rs.aag (Rs.aae h) λp h x H1 e1 s1 v1 => ?_)
 refine hb W p.2 σ H1 _ e1 (Rs.aag (Rs.aae h) λq h y H2 e2 s2 v2 => ?_)
 have h := Rs.aae h
 cases k1 : dr q.2 p.1 with
 | bad => rw [k1] at h; exact h.elim
 | ex c => exact (acq _ _ _ k1).elim
 | ok a =>
  rw [k1] at h
  have h : ((dr q.2 q.1).bind _).post _ _ := h
  have h := Rs.aae h
  cases k2 : dr q.2 q.1 with
  | bad => rw [k2] at h; exact h.elim
  | ex c => exact (acq _ _ _ k2).elim
  | ok b =>
   rw [k2] at h
   have h : ((g a b).bind _).post _ _ := h
   have r1 := adT e2 e.wn (v1.1.step e.wn s2) k1
   have r2 := adT e2 e1.wn v2.1 k2
   refine o W x y a b H2 Q e2.wl r1 r2 (Rs.aag (aiN (Rs.aae h) (ng a b)) λz h v H3 s3 v3 => ?_)
   have st : Stp W H H3 := (s1.trans s2).trans (Stp.of s3)
   exact h v H3 (e2.grow s3) st ((VOE.of e2 s3 v3).back λb q => (s1.trans s2).dom b q)
inductive Atm : V -> Tr -> Prop
 | non : Atm .non .non
 | bl (b : Bool) : Atm (.bl b) (.bl b)
 | int (b : Int) : Atm (.int b) (.int b)
 | str (b : Str) : Atm (.str b) (.str b)
theorem Atm.rep {K : PySem.W.Frag} {H : Hp} {v : V} {T : Tr} (h : Atm v T) : Rep K H v T := by
 cases h <;> constructor
end
end L2
end
section
namespace L2
open PySem PySem.Spec PyProof.Rows
section
variable {X : Cx}
noncomputable def aum (K : PySem.W.Frag) : R2 := λx y H Q => ∃ t u, Rep K H x t /\ Rep K H y u /\ dep t <= 40 /\ dep u <= 40 /\ Q (.bl (!eqT t u)) H
theorem ae9 (hu : X.A.units + 64 < cLine) : OpR X (compareOp .NotEq) (aum X.K) := by
 intro pins s σ H x y v u Q I vx vy h
 obtain ⟨t, t', rx, ry, hd, du, q⟩ := h
 have hu0 : X.A.units < cLine := by omega
 have hu1 : X.A.in1.units + 40 < cLine := by
  have := in1_units X.A
  omega
 have fin : SeqAt.RcNeAt X.A s v u (!eqT t t') -> wpAny (model X.prog X.w) X.A (compareOp .NotEq v u) (EP X pins σ Q) X.xe s := λh => h _ _ _ _ ⟨.bl _, H, I, rfl, q⟩
 have items : ∀ {xs ys : List V} {ts us : List Tr} {its its2 : List Value}, Vals xs its -> Vals ys its2 -> aaO X.K H xs ts -> aaO X.K H ys us -> deps ts <= 40 -> deps us <= 40 -> ∀ j (h1 : j < its.toArray.size) (h2 : j < its2.toArray.size), SeqAt.EqAt X.A.in1 s its.toArray[j] its2.toArray[j] (atE ts us j) := by
  intro xs ys ts us its its2 r1 r2 q1 q2 hde hu9 j h1 h2
  obtain ⟨a, ea, ra⟩ := afD r1 h1
  obtain ⟨b, eb, rb⟩ := afD r2 h2
  obtain ⟨ta, eta, qa⟩ := q1.get ea
  obtain ⟨tb, etb, qb⟩ := q2.get eb
  rw [ajM eta etb]
  exact (aiT I 40 X.A.in1 ta tb a b _ _ hu1 (Nat.le_trans (adv eta) hde) (by have := adv eta; omega) (by have := adv etb; omega) qa qb ra rb).2
 cases rx with
 | exn h m n => unfold dep at hd; omega
 | non =>
  cases vx
  cases ry with
  | non => cases vy; unfold eqT at fin; exact fin .none_none
  | bl b2 => cases vy; unfold eqT at fin; exact fin (.none_bool _)
  | int i2 => obtain ⟨_, rfl⟩ := vy; unfold eqT at fin; exact fin (.none_int _ _)
  | str z2 => obtain ⟨_, rfl⟩ := vy; unfold eqT at fin; exact fin (.none_str _ _)
  | tup h r => cases vy; obtain ⟨_, _, p, _⟩ := I.tuple h; unfold eqT at fin; exact fin (.none_tuple p hu0)
  | lst h r => cases vy; obtain ⟨_, _, p, _⟩ := I.list h; unfold eqT at fin; exact fin (.none_list p.isList hu0)
  | exn h m n => unfold dep at du; omega
 | bl b =>
  cases vx
  cases ry with
  | non => cases vy; unfold eqT at fin; exact fin (.bool_none _)
  | bl b2 => cases vy; unfold eqT at fin; exact fin (.bool_bool _ _)
  | int i2 => obtain ⟨_, rfl⟩ := vy; unfold eqT at fin; exact fin (.bool_int _ _ _)
  | str z2 => obtain ⟨_, rfl⟩ := vy; unfold eqT at fin; exact fin (.bool_str _ _ _)
  | tup h r => cases vy; obtain ⟨_, _, p, _⟩ := I.tuple h; unfold eqT at fin; exact fin (.bool_tuple _ p hu0)
  | lst h r => cases vy; obtain ⟨_, _, p, _⟩ := I.list h; unfold eqT at fin; exact fin (.bool_list _ p.isList hu0)
  | exn h m n => unfold dep at du; omega
 | int i =>
  obtain ⟨_, rfl⟩ := vx
  cases ry with
  | non => cases vy; unfold eqT at fin; exact fin (.int_none _ _)
  | bl b2 => cases vy; unfold eqT at fin; exact fin (.int_bool _ _ _)
  | int i2 => obtain ⟨_, rfl⟩ := vy; unfold eqT at fin; exact fin (.int_int _ _ _ _)
  | str z2 => obtain ⟨_, rfl⟩ := vy; unfold eqT at fin; exact fin (.int_str _ _ _ _)
  | tup h r => cases vy; obtain ⟨_, _, p, _⟩ := I.tuple h; unfold eqT at fin; exact fin (.int_tuple _ _ p hu0)
  | lst h r => cases vy; obtain ⟨_, _, p, _⟩ := I.list h; unfold eqT at fin; exact fin (.int_list _ _ p.isList hu0)
  | exn h m n => unfold dep at du; omega
 | str z =>
  obtain ⟨_, rfl⟩ := vx
  cases ry with
  | non => cases vy; unfold eqT at fin; exact fin (.str_none _ _)
  | bl b2 => cases vy; unfold eqT at fin; exact fin (.str_bool _ _ _)
  | int i2 => obtain ⟨_, rfl⟩ := vy; unfold eqT at fin; exact fin (.str_int _ _ _ _)
  | str z2 => obtain ⟨_, rfl⟩ := vy; unfold eqT at fin; exact fin (.str_str _ _ _ _)
  | tup h r => cases vy; obtain ⟨_, _, p, _⟩ := I.tuple h; unfold eqT at fin; exact fin (.str_tuple _ _ p hu0)
  | lst h r => cases vy; obtain ⟨_, _, p, _⟩ := I.list h; unfold eqT at fin; exact fin (.str_list _ _ p.isList hu0)
  | exn h m n => unfold dep at du; omega
 | @tup a1 xs1 ts h1 r1 =>
  cases vx
  obtain ⟨its, rv, p, _⟩ := I.tuple h1
  have hd' : deps ts <= 40 := by unfold dep at hd; omega
  cases ry with
  | non => cases vy; unfold eqT at fin; exact fin (.tuple_none p hu0)
  | bl b2 => cases vy; unfold eqT at fin; exact fin (.tuple_bool _ p hu0)
  | int i2 => obtain ⟨_, rfl⟩ := vy; unfold eqT at fin; exact fin (.tuple_int _ _ p hu0)
  | str z2 => obtain ⟨_, rfl⟩ := vy; unfold eqT at fin; exact fin (.tuple_str _ _ p hu0)
  | lst h r => cases vy; obtain ⟨_, _, p2, _⟩ := I.list h; unfold eqT at fin; exact fin (.tuple_list p p2.isList hu0)
  | exn h m n => unfold dep at du; omega
  | @tup a2 xs2 us h2 r2 =>
   cases vy
   obtain ⟨its2, rv2, p2, _⟩ := I.tuple h2
   have R := SeqAt.RcNeAt.tuples (A := X.A) (e := atE ts us) p p2 (by omega) λj k1 k2 => items rv rv2 r1 r2 hd' (by unfold dep at du; omega) j k1 k2
   have el : its.toArray.size = ts.length := by simpa using (rv.length.symm.trans r1.length)
   have el2 : its2.toArray.size = us.length := by simpa using (rv2.length.symm.trans r2.length)
   rw [el, el2] at R
   have eb : ((List.range (min ts.length us.length)).all (atE ts us) && ts.length == us.length) = eqT (.tup ts) (.tup us) := by
    unfold eqT
    by_cases e : ts.length = us.length
    ·rw [e, Nat.min_self, <-e, afW e, beq_self_eq_true, Bool.and_true]
    ·rw [beq_false_of_ne e, Bool.and_false, aek e]
   rw [eb] at R
   exact fin R
 | @lst a1 xs1 ts h1 r1 =>
  cases vx
  obtain ⟨its, rv, p, _⟩ := I.list h1
  have hd' : deps ts <= 40 := by unfold dep at hd; omega
  cases ry with
  | non => cases vy; unfold eqT at fin; exact fin (.list_none p.isList hu0)
  | bl b2 => cases vy; unfold eqT at fin; exact fin (.list_bool _ p.isList hu0)
  | int i2 => obtain ⟨_, rfl⟩ := vy; unfold eqT at fin; exact fin (.list_int _ _ p.isList hu0)
  | str z2 => obtain ⟨_, rfl⟩ := vy; unfold eqT at fin; exact fin (.list_str _ _ p.isList hu0)
  | exn h m n => unfold dep at du; omega
  | tup h r => cases vy; obtain ⟨_, _, p2, _⟩ := I.tuple h; unfold eqT at fin; exact fin (.list_tuple p.isList p2 hu0)
  | @lst a2 xs2 us h2 r2 =>
   cases vy
   obtain ⟨its2, rv2, p2, _⟩ := I.list h2
   have el : its.toArray.size = ts.length := by simpa using (rv.length.symm.trans r1.length)
   have el2 : its2.toArray.size = us.length := by simpa using (rv2.length.symm.trans r2.length)
   by_cases e : ts.length = us.length
   ·have R := SeqAt.RcNeAt.lists (A := X.A) (e := atE ts us) p.isList p2.isList (by omega) (by omega) λj k1 k2 => items rv rv2 r1 r2 hd' (by unfold dep at du; omega) j k1 k2
    rw [el] at R
    rw [afW e] at R
    unfold eqT at fin
    exact fin R
   ·have R := SeqAt.RcNeAt.lists_lengths (A := X.A) p.isList p2.isList (by rw [el, el2]; simpa using e) (by omega)
    unfold eqT at fin
    rw [aek e] at fin
    exact fin R
end
open Classical in
noncomputable def noL (o : Obj) : Obj := if o.cls = .type "list" ∧ ¬ (∃ its n, o = { cls := .type "list", data := .seq its n }) then { cls := .none, data := .fields #[] } else o
noncomputable def nlK (K : PySem.W.Frag) : PySem.W.Frag := K.map λp => (p.1, noL p.2)
theorem aa3 : ∀ (K : PySem.W.Frag) (a : Addr), (nlK K).lookup a = (K.lookup a).map noL
 | [], a => rfl
 | (c, q) :: r, a => by
  show ((c, noL q) :: nlK r).lookup a = _
  rw [List.lookup_cons, List.lookup_cons]
  cases a == c with
  | true => rfl
  | false => exact aa3 r a
theorem apz {K : PySem.W.Frag} {a : Addr} {o : Obj} (h : (nlK K).lookup a = some o) (c : o.cls = .type "tuple") : K.lookup a = some o := by
 rw [aa3] at h
 cases e : K.lookup a with
 | none => rw [e] at h; cases h
 | some q =>
  rw [e] at h
  have h : noL q = o := Option.some.inj h
  unfold noL at h
  split at h
  ·subst h; cases c
  ·rw [h]
theorem apA {K : PySem.W.Frag} {a : Addr} {o : Obj} (h : (nlK K).lookup a = some o) (c : o.cls = .type "list") : K.lookup a = some o ∧ ∃ its n, o = { cls := .type "list", data := .seq its n } := by
 rw [aa3] at h
 cases e : K.lookup a with
 | none => rw [e] at h; cases h
 | some q =>
  rw [e] at h
  have h : noL q = o := Option.some.inj h
  unfold noL at h
  split at h
  ·subst h; cases c
  ·rename_i n
   subst h
   refine ⟨rfl, ?_⟩
   by_cases z : ∃ its n, q = { cls := .type "list", data := .seq its n }
   ·exact z
   ·exact (n ⟨c, z⟩).elim
theorem arz {K : PySem.W.Frag} {a : Addr} {o : Obj} (h : K.lookup a = some o) (c : o.cls = .type "tuple") : (nlK K).lookup a = some o := by
 rw [aa3, h]
 show some (noL o) = some o
 unfold noL
 rw [if_neg (by rintro ⟨z, _⟩; rw [c] at z; injection z with z; exact absurd z (by decide))]
theorem SqT.toK {K : PySem.W.Frag} {H : Hp} {a : Addr} {xs : List V} (h : SqT (nlK K) H a xs) : SqT K H a xs := by
 rcases h with h | ⟨o, its, n, e, c, r⟩
 ·exact .inl h
 ·exact .inr ⟨o, its, n, apz e c, c, r⟩
noncomputable def SqX (K : PySem.W.Frag) (H : Hp) (a : Addr) (xs : List V) : Prop := Rd H a (.lst xs) \/ ∃ (its : Array Value) (n : Nat), K.lookup a = some { cls := .type "list", data := .seq its n } /\ its.size <= sizeLine /\ Vals xs its.toList
theorem SqL.rdX {K : PySem.W.Frag} {H : Hp} {a : Addr} {xs : List V} (h : SqL (nlK K) H a xs) : SqX K H a xs := by
 rcases h with h | ⟨o, its, n, e, c, _, d, r⟩
 ·exact .inl h
 ·obtain ⟨e2, its', n', rfl⟩ := apA e c
  have d : Data.seq its' n' = .seq its n := d
  injection d with d1 d2
  subst d1 d2
  exact .inr ⟨its', n', e2, r⟩
theorem SqX.toK {K : PySem.W.Frag} {H : Hp} {a : Addr} {xs : List V} (h : SqX K H a xs) : SqL K H a xs := by
 rcases h with h | ⟨its, n, e, r⟩
 ·exact .inl h
 ·exact .inr ⟨_, its, n, e, rfl, rfl, rfl, r⟩
theorem SqX.toN {K : PySem.W.Frag} {H : Hp} {a : Addr} {xs : List V} (h : SqX K H a xs) : SqL (nlK K) H a xs := by
 rcases h with h | ⟨its, n, e, r⟩
 ·exact .inl h
 ·refine .inr ⟨{ cls := .type "list", data := .seq its n }, its, n, ?_, rfl, rfl, rfl, r⟩
  rw [aa3, e]
  show some (noL _) = _
  unfold noL
  rw [if_neg λz => z.2 ⟨its, n, rfl⟩]
theorem SqL.toK {K : PySem.W.Frag} {H : Hp} {a : Addr} {xs : List V} (h : SqL (nlK K) H a xs) : SqL K H a xs := h.rdX.toK
theorem anj {K : PySem.W.Frag} {N : Addr} {c : Str} {v : Value} (h : PySem.W.nsIn (nlK K) N c = some (some v)) : PySem.W.nsIn K N c = some (some v) := by
 unfold PySem.W.nsIn at h ⊢
 rw [aa3] at h
 cases e : K.lookup N with
 | none => rw [e] at h; cases h
 | some q =>
  rw [e] at h
  by_cases z : q.cls = .type "list" ∧ ¬ (∃ its n, q = { cls := .type "list", data := .seq its n })
  ·have : noL q = { cls := .none, data := .fields #[] } := by unfold noL; rw [if_pos z]
   rw [show (some q).map noL = some (noL q) from rfl, this] at h
   cases h
  ·have : noL q = q := by unfold noL; rw [if_neg z]
   rw [show (some q).map noL = some (noL q) from rfl, this] at h
   exact h
theorem apB {K : PySem.W.Frag} {N : Addr} {c : Str} {v : Value} (m : ∀ o, K.lookup N = some o -> o.cls ≠ .type "list") (h : PySem.W.nsIn K N c = some (some v)) : PySem.W.nsIn (nlK K) N c = some (some v) := by
 unfold PySem.W.nsIn at h ⊢
 rw [aa3]
 cases e : K.lookup N with
 | none => rw [e] at h; cases h
 | some q =>
  rw [e] at h
  have : noL q = q := by unfold noL; rw [if_neg λz => m q e z.1]
  rw [show (some q).map noL = some (noL q) from rfl, this]
  exact h
mutual
theorem Rep.toK {K : PySem.W.Frag} {H : Hp} : ∀ {v : V} {t : Tr}, Rep (nlK K) H v t -> Rep K H v t
 | _, _, .non => .non
 | _, _, .bl b => .bl b
 | _, _, .int i => .int i
 | _, _, .str x => .str x
 | _, _, .tup h r => .tup h.toK (aaO.toK r)
 | _, _, .lst h r => .lst h.toK (aaO.toK r)
 | _, _, .exn h m n => .exn h m (anj n)
theorem aaO.toK {K : PySem.W.Frag} {H : Hp} : ∀ {v : List V} {t : List Tr}, aaO (nlK K) H v t -> aaO K H v t
 | _, _, .nil => .nil
 | _, _, .cons h r => .cons (Rep.toK h) (aaO.toK r)
end
section
variable {X : Cx}
theorem Inv.rdL {pins : List (Addr × Obj)} {σ : St} {H : Hp} {s : Shared} {l : Addr} {xs : List V} (I : Inv X pins σ H s) (hH : SqX X.K H l xs) : xs.length <= sizeLine /\ ∃ (its : List Value) (n : Nat), Vals xs its /\ xs.length = its.length /\ s.heap.get? l = some { cls := .type "list", data := .seq its.toArray n } := by
 rcases hH with hH | ⟨its, n, e, z, r⟩
 ·obtain ⟨z, its, n, r, e⟩ := hH.ok I.hok
  exact ⟨z, its, n, r, r.length, e⟩
 ·have l' : xs.length = its.size := r.length.trans Array.length_toList
  exact ⟨by rw [l']; exact z, its.toList, n, r, r.length, I.kIn _ _ e⟩
noncomputable def arA (K : PySem.W.Frag) : R2 := λx y H Q => ∃ l b xs zs, x = .ref l /\ y = .ref b /\ SqX K H l xs /\ SqX K H b zs /\ xs.length + zs.length <= sizeLine /\ ∀ p, H p = none -> Q (.ref p) (upd H p (.lst (xs ++ zs)))
theorem apC : OpR X (binaryOp .Add) (arA X.K) := by
 intro pins s σ H x y v u Q I rx ry h
 obtain ⟨l, b, xs, zs, rfl, rfl, hH, hB, hz, q⟩ := h
 cases rx
 cases ry
 obtain ⟨z, its, n, r, hl, e⟩ := I.rdL hH
 obtain ⟨z2, its2, n2, r2, hl2, e2⟩ := I.rdL hB
 refine PySem.P.add_list e e2 ?_ (by rw [List.size_toArray, List.size_toArray]; omega)
 have ea : its.toArray ++ its2.toArray = (its ++ its2).toArray := by simp
 rw [ea]
 exact ⟨.ref _, _, I.atH (t' := s.toks) (r.append r2) (by rw [List.length_append]; omega), rfl, q _ I.fresh⟩
end
end L2
end
section
namespace L2
open PySem PySem.Spec PyProof.Rows
noncomputable def arB (K : PySem.W.Frag) : R2 := λx y H Q => ∃ l k xs, x = .ref l /\ y = .int k /\ SqX K H l xs /\ -(2 ^ 63) <= k /\ k < 2 ^ 63 /\ xs.length * k.toNat <= sizeLine /\ ∀ p, H p = none -> Q (.ref p) (upd H p (.lst (List.replicate k.toNat xs).flatten))
theorem apD {X : Cx} : OpR X (binaryOp .Mult) (arB X.K) := by
 intro pins s σ H x y v u Q I rx ry h
 obtain ⟨l, k, xs, rfl, rfl, hH, h1, h2, hz, q⟩ := h
 cases rx
 obtain ⟨t, rfl⟩ := ry
 obtain ⟨z, its, n, r, hl, e⟩ := I.rdL hH
 have hlen : its.toArray.size * k.toNat <= sizeLine := by rw [List.size_toArray, <-hl]; exact hz
 have hcap : ¬ its.toArray.size * k.toNat > (2 ^ 63 - 1) / 8 := by
  have : (sizeLine : Nat) <= (2 ^ 63 - 1) / 8 := by decide
  omega
 have hfit : ¬ (!Builtin.List.listFitsIndex k) = true := by
  rw [fitsIndex_both h1 h2]
  exact Bool.false_ne_true
 have aun : ¬ Builtin.List.listTooLong (its.toArray.size * k.toNat) = true := by
  rw [am9 hlen]
  exact Bool.false_ne_true
 have hnew : List.foldl (λx1 x2 => x1 ++ x2) #[] (List.replicate (if its.toArray.isEmpty = true then 0 else k.toNat) its.toArray) = (List.replicate k.toNat its).flatten.toArray := by
  have f0 : ∀ m : Nat, List.foldl (λx1 x2 => x1 ++ x2) #[] (List.replicate m its.toArray) = (List.replicate m its).flatten.toArray := λm => by
   have := foldl_rep its m []
   rw [List.nil_append] at this
   exact this
  rw [f0]
  cases its with
  | nil => simp
  | cons a r' => rw [if_neg (by simp)]
 refine wpAny_binaryOp_repeat_ref (T := "list") (U := "int") (by decide) ⟨_, e, rfl⟩ (λs' => typeIs_int s' k t) noFill_list_mul F.fills_int_mul F.slot_int_rmul repeat_list F.slot_int_index.lookup
  (call_meets F.slot_int_rmul (typeIs_int s k t) F.entry_int_rmul (F.args_int_rmul_2 _ _) (int___rmul___int_list k t l its.toArray n)
   ⟨e, rfl, ⟨_, e, rfl⟩, call_meets F.slot_list_mul ⟨_, e, rfl⟩ F.entry_list_mul (F.args_list_mul_2 _ _) (AutoListH.list___mul___list_int_3 l its.toArray n k t hfit hcap aun) ⟨e, ?_⟩⟩)
 rw [hnew]
 exact ⟨.ref _, _, I.atH (t' := s.toks) (r.rep k.toNat) (by rw [len_rep, Nat.mul_comm]; exact hz), rfl, q _ I.fresh⟩
end L2
end
section
namespace L2
open PySem PySem.Spec PyProof.Rows
section
variable {K : PySem.W.Frag} {W : Addr -> Prop} {σ : St} {H : Hp} {p : Addr} {xs : List V} {ts : List Tr}
theorem ahj {o : HO} (hp : H p = none) : Same (aaT W H) (off p (aaT W (upd H p o))) := λb u q => by
 obtain ⟨n, e⟩ := abe q
 have ne : b ≠ p := aaS e hp
 rw [off_ne ne, aaM n, aaw ne]
 exact e
theorem VOk.new (hp : H p = none) (r : aaO K (aaT W H) xs ts) : VOk K W σ H (upd H p (.lst xs)) (.ref p) (.v (.lst ts) true) :=
 ⟨p, xs, ts, rfl, rfl, hp, aaQ, r.mono (ahj hp)⟩
theorem VOk.newT (hw : ∀ b, W b -> Lt H b) (hp : H p = none) (r : aaO K (aaT W H) xs ts) : VOk K W σ H (upd H p (.tup xs)) (.ref p) (.v (.tup ts) false) := by
 have nw : ¬ W p := λw => by
  exact (hw p w).ne hp
 refine .tup (SqT.of ?_) (r.mono λb u q => (adJ (ahj (o := .tup xs) hp b u q)).2)
 rw [aaM nw]
 exact aaQ
theorem VOk.atm {H' : Hp} {v : V} {T : Tr} (h : Atm v T) : VOk K W σ H H' v (.v T false) := h.rep
theorem aaO.aoB {H : Hp} : ∀ {v : List V} {t : List Tr} {i : Nat} {u : Tr}, aaO K H v t -> t[i]? = some u -> ∃ x, v[i]? = some x /\ Rep K H x u
 | _, _, _, _, .nil, e => by simp at e
 | _, _, 0, _, .cons h _, e => by
  simp at e
  subst e
  exact ⟨_, rfl, h⟩
 | _, _, i + 1, x, .cons _ r, e => by
  obtain ⟨u, h1, h2⟩ := aaO.aoB (i := i) (u := x) r (by simpa using e)
  exact ⟨u, by simpa using h1, h2⟩
theorem aaO.atI (r : aaO K H xs ts) {i : Int} {t : Tr} (h : atI ts i = some t) : ∃ x, L2.atI xs i = some x /\ Rep K H x t := by
 unfold L2.atI at h ⊢
 rw [r.length]
 cases e : ixN ts.length i with
 | none => rw [e] at h; cases h
 | some j =>
  rw [e] at h
  exact r.aoB h
theorem Rp.av7 {v : V} (h : Rp K W H v (.tup ts)) : Rep K (aaT W H) v (.tup ts) := by
 rcases h with h | ⟨a, xs, us, rfl, e0, e, r⟩
 ·exact h
 ·cases e0
theorem big {n : Nat} (h : n <= 100000) : n <= sizeLine := Nat.le_trans h (by decide)
end
section
variable {K : PySem.W.Frag}
noncomputable def gI (p : Int -> Int -> Int) : G2
 | .int i, .int j => .ok (.int (p i j), false)
 | _, _ => .bad
theorem awN {p : Int -> Int -> Int} : OpT K (rI0 λi j => .int (p i j)) (gI p) := λW x y a b H Q hw rx ry h => by
 cases a <;> try exact h.elim
 cases b <;> try exact h.elim
 rw [rx.int, ry.int]
 exact ⟨_, _, rfl, rfl, h _ H (Same.refl _) (.atm (.int _))⟩
noncomputable def gIC (c : Int -> Int -> Bool) (p : Int -> Int -> Int) : G2
 | .int i, .int j => if c i j = true then .ok (.int (p i j), false) else .bad
 | _, _ => .bad
theorem apE {C : Int -> Int -> Prop} {c : Int -> Int -> Bool} {p : Int -> Int -> Int} (hc : ∀ i j, c i j = true -> C i j) : OpT K (rI C λi j => .int (p i j)) (gIC c p) := λW x y a b H Q hw rx ry h => by
 cases a <;> try exact h.elim
 cases b <;> try exact h.elim
 rw [rx.int, ry.int]
 dsimp only [gIC] at h
 split at h
 ·rename_i e
  exact ⟨_, _, rfl, rfl, hc _ _ e, h _ H (Same.refl _) (.atm (.int _))⟩
 ·exact h.elim
noncomputable def gB (p : Int -> Int -> Bool) : G2
 | .int i, .int j => .ok (.bl (p i j), false)
 | _, _ => .bad
theorem av8 {p : Int -> Int -> Bool} : OpT K (rI0 λi j => .bl (p i j)) (gB p) := λW x y a b H Q hw rx ry h => by
 cases a <;> try exact h.elim
 cases b <;> try exact h.elim
 rw [rx.int, ry.int]
 exact ⟨_, _, rfl, rfl, h _ H (Same.refl _) (.atm (.bl _))⟩
noncomputable def gEq : G2 := λt u => if dep t <= 40 /\ dep u <= 40 then .ok (.bl (eqT t u), false) else .bad
theorem auo : OpT (nlK K) (aue K) gEq := λW x y a b H Q hw rx ry h => by
 unfold gEq at h
 split at h
 ·rename_i e
  exact ⟨a, b, rx.rep.toK, ry.rep.toK, e.1, e.2, h _ H (Same.refl _) (.atm (.bl _))⟩
 ·exact h.elim
noncomputable def gNe : G2 := λt u => if dep t <= 40 /\ dep u <= 40 then .ok (.bl (!eqT t u), false) else .bad
theorem aup : OpT (nlK K) (aum K) gNe := λW x y a b H Q hw rx ry h => by
 unfold gNe at h
 split at h
 ·rename_i e
  exact ⟨a, b, rx.rep.toK, ry.rep.toK, e.1, e.2, h _ H (Same.refl _) (.atm (.bl _))⟩
 ·exact h.elim
noncomputable def gIn (f : Bool -> Bool) : G2 := λt u => match u with
 | .lst us => if deps us <= 40 /\ dep t <= 40 then .ok (.bl (f (auf t us)), false) else .bad
 | .tup us => if deps us <= 40 /\ dep t <= 40 then .ok (.bl (f (auf t us)), false) else .bad
 | _ => .bad
theorem auq : OpT (nlK K) (auh K) (gIn id) := λW x y a b H Q hw rx ry h => by
 cases b <;> try exact h.elim
 ·rename_i us
  dsimp only [gIn] at h
  split at h
  ·rename_i e
   obtain ⟨p, xs, rfl, q, r⟩ := ry.tup
   exact ⟨a, us, p, xs, rx.rep.toK, rfl, .inr q.toK, (r.mono (abf _ _)).toK, e.1, e.2, h _ H (Same.refl _) (.atm (.bl _))⟩
  ·exact h.elim
 ·rename_i us
  dsimp only [gIn] at h
  split at h
  ·rename_i e
   obtain ⟨p, xs, rfl, q, r⟩ := ry.lst
   exact ⟨a, us, p, xs, rx.rep.toK, rfl, .inl q.toK, (r.mono (abf _ _)).toK, e.1, e.2, h _ H (Same.refl _) (.atm (.bl _))⟩
  ·exact h.elim
noncomputable def isN : Tr -> Bool
 | .non => true
 | _ => false
noncomputable def gIs (f : Bool -> Bool) : G2 := λt u => match u with
 | .non => .ok (.bl (f (isN t)), false)
 | _ => .bad
theorem arC {H : Hp} {x : V} {t : Tr} (h : Rep K H x t) : decide (x = .non) = isN t := by
 cases h <;> rfl
theorem arD : OpT K (λx y H Q => y = .non /\ Q (.bl (decide (x = .non))) H) (gIs id) := λW x y a b H Q hw rx ry h => by
 cases b <;> try exact h.elim
 rw [ry.non, arC rx.rep]
 exact ⟨rfl, h _ H (Same.refl _) (.atm (.bl _))⟩
noncomputable def apF (K : PySem.W.Frag) : R2 := λx y H Q => (rI0 λi j => .int (i + j)) x y H Q \/ arA K x y H Q \/ (∃ i j, x = .str i /\ y = .str j /\ i.length + j.length <= sizeLine /\ Q (.str (i ++ j)) H) \/ arh K x y H Q
theorem aa2 {X : Cx} : OpR X (binaryOp .Add) (apF X.K) := OpR.or aot (OpR.or apC (OpR.or aks apm))
noncomputable def aa9 : G2
 | .int i, .int j => .ok (.int (i + j), false)
 | .lst a, .lst b => if a.length + b.length <= 100000 then .ok (.lst (a ++ b), true) else .bad
 | .str a, .str b => if a.length + b.length <= 100000 then .ok (.str (a ++ b), false) else .bad
 | .tup a, .tup b => if 0 < a.length /\ a.length + b.length <= 100000 then .ok (.tup (a ++ b), false) else .bad
 | _, _ => .bad
theorem arE : OpT (nlK K) (apF K) aa9 := λW x y a b H Q hw rx ry h => by
 cases a <;> cases b <;> try exact h.elim
 ·rw [rx.int, ry.int]
  exact .inl ⟨_, _, rfl, rfl, h _ H (Same.refl _) (.atm (.int _))⟩
 ·rename_i i j
  rw [rx.str, ry.str]
  dsimp only [aa9] at h
  split at h
  ·rename_i e
   exact .inr (.inr (.inl ⟨i, j, rfl, rfl, big e, h _ H (Same.refl _) (.atm (.str _))⟩))
  ·exact h.elim
 ·rename_i us ws
  dsimp only [aa9] at h
  split at h
  ·rename_i e
   have rt := rx.av7
   obtain ⟨p, xs, rfl, q, r⟩ := rx.tup
   obtain ⟨p', ys, rfl, q', r'⟩ := ry.tup
   have l1 := r.length
   have l2 := r'.length
   refine .inr (.inr (.inr ⟨p, p', xs, ys, rfl, rfl, q.toK, q'.toK, ?_, by rw [l1, l2]; exact big e.2, λz => h _ H (Same.refl _) ?_, λ_ z hz => h _ _ (aaC hz _) (.newT hw hz (r.app r'))⟩))
   ·rintro rfl
    have e1 := e.1
    rw [<-l1] at e1
    cases e1
   ·subst z
    cases r'
    rw [List.append_nil]
    exact rt
  ·exact h.elim
 ·rename_i us ws
  dsimp only [aa9] at h
  split at h
  ·rename_i e
   obtain ⟨p, xs, rfl, q, r⟩ := rx.lst
   obtain ⟨p', ys, rfl, q', r'⟩ := ry.lst
   refine .inr (.inl ⟨p, p', xs, ys, rfl, rfl, q.rdX, q'.rdX, by rw [r.length, r'.length]; exact big e, λz hz => h _ _ (aaC hz _) (.new hz (r.app r'))⟩)
  ·exact h.elim
end
end L2
end
section
namespace L2
open PySem PySem.Spec PyProof.Rows
noncomputable def fit (i : Int) : Bool := decide (i.natAbs.log2 < 1048575)
theorem ajT {i : Int} (h : fit i = true) : Builtin.Int.intBits i <= 2 ^ 20 := by
 have h := of_decide_eq_true h
 unfold Builtin.Int.intBits
 have e : (2 : Nat) ^ 20 = 1048576 := by decide
 split
 ·decide
 ·omega
noncomputable def tiny (i : Int) : Bool := decide (-18446744073709551616 < i) && decide (i < 18446744073709551616)
noncomputable def afa (i j : Int) : Bool := (fit i && fit j) || tiny i || tiny j
noncomputable def ank (i j : Int) : Prop := afa i j = true
theorem ank.ok {i j : Int} (h : ank i j) : IntMulOk i j := by
 unfold ank afa at h
 rw [Bool.or_eq_true, Bool.or_eq_true, Bool.and_eq_true] at h
 have e : (2 : Int) ^ 64 = 18446744073709551616 := by decide
 have tn : ∀ {k : Int}, tiny k = true -> -(2 ^ 64) < k /\ k < 2 ^ 64 := λ{k} h => by
  unfold tiny at h
  rw [Bool.and_eq_true] at h
  have h1 := of_decide_eq_true h.1
  have h2 := of_decide_eq_true h.2
  omega
 rcases h with (⟨h1, h2⟩ | h) | h
 ·exact .of_bits (ajT h1) (ajT h2)
 ·exact .of_left (intBits_le_64 (tn h).1 (tn h).2)
 ·exact .of_right (intBits_le_64 (tn h).1 (tn h).2)
noncomputable def apG (K : PySem.W.Frag) : R2 := λx y H Q => (rI ank λi j => .int (i * j)) x y H Q \/ arB K x y H Q
theorem abl {X : Cx} : OpR X (binaryOp .Mult) (apG X.K) := OpR.or (opI λ_ _ _ _ _ _ _ hc q => mul_int q hc.ok) apD
noncomputable def abz : G2
 | .int i, .int j => if afa i j = true then .ok (.int (i * j), false) else .bad
 | .lst a, .int k => if (-1000 <= k /\ k <= 1000) /\ a.length <= 100 then .ok (.lst (List.replicate k.toNat a).flatten, true) else .bad
 | _, _ => .bad
noncomputable def alW (_ j : Int) : Bool := decide (j ≠ 0) && decide (j.natAbs.log2 < 9000)
noncomputable def anl (i j : Int) : Prop := alW i j = true
theorem acJ {X : Cx} : OpR X (binaryOp .FloorDiv) (rI anl λi j => .int (i.fdiv j)) := opI λi j _ _ _ _ _ hc q => by
 unfold anl alW at hc
 rw [Bool.and_eq_true] at hc
 exact floordiv_int (of_decide_eq_true hc.1) q (.inl (PyProof.noPylong_of_log2 (of_decide_eq_true hc.2)))
noncomputable def ac2 : G2 := gIC alW Int.fdiv
noncomputable def ace : G2 := gIC (λ_ j => decide (j ≠ 0)) Int.fmod
noncomputable def av9 (i j : Int) : Bool := decide (0 <= j) && decide (j <= 1000) && tiny i
noncomputable def acw : G2 := gIC av9 λi j => i ^ j.toNat
noncomputable def ac3 : G2 := gI λi j => i - j
section
variable {K : PySem.W.Frag}
theorem aaO.rep {H : Hp} {xs : List V} {ts : List Tr} (r : aaO K H xs ts) : ∀ n, aaO K H (List.replicate n xs).flatten (List.replicate n ts).flatten
 | 0 => .nil
 | n + 1 => by
  rw [List.replicate_succ, List.replicate_succ, List.flatten_cons, List.flatten_cons]
  exact r.app (aaO.rep r n)
theorem arF : OpT (nlK K) (apG K) abz := λW x y a b H Q hw rx ry h => by
 cases a <;> cases b <;> try exact h.elim
 ·rw [rx.int, ry.int]
  dsimp only [abz] at h
  split at h
  ·rename_i e
   exact .inl ⟨_, _, rfl, rfl, e, h _ H (Same.refl _) (.atm (.int _))⟩
  ·exact h.elim
 ·rename_i us k
  rw [ry.int]
  dsimp only [abz] at h
  split at h
  ·rename_i e
   obtain ⟨p, xs, rfl, q, r⟩ := rx.lst
   by_cases k0 : 0 <= k
   ·refine .inr ⟨p, k, xs, rfl, rfl, q.rdX, by omega, by omega, ?_, λz hz => h _ _ (aaC hz _) (.new hz (r.rep _))⟩
    rw [r.length]
    refine Nat.le_trans (Nat.mul_le_mul e.2 (show k.toNat <= 1000 by omega)) (by decide)
   ·have e0 : k.toNat = 0 := by omega
    by_cases k1 : -(2 ^ 63) <= k
    ·refine .inr ⟨p, k, xs, rfl, rfl, q.rdX, k1, by omega, ?_, λz hz => h _ _ (aaC hz _) (.new hz (r.rep _))⟩
     rw [e0, Nat.mul_zero]
     exact Nat.zero_le _
    ·omega
  ·exact h.elim
theorem arG : OpT K (rI anl λi j => .int (i.fdiv j)) ac2 := apE λ_ _ h => h
theorem arH : OpT K (rI (λ_ j => j ≠ 0) λi j => .int (i.fmod j)) ace := apE λ_ _ h => of_decide_eq_true h
theorem arI : OpT K (rI auc λi j => .int (i ^ j.toNat)) acw := apE λi j h => by
 unfold av9 tiny at h
 rw [Bool.and_eq_true, Bool.and_eq_true, Bool.and_eq_true] at h
 have h1 := of_decide_eq_true h.1.1
 have h2 := of_decide_eq_true h.1.2
 have h3 := of_decide_eq_true h.2.1
 have h4 := of_decide_eq_true h.2.2
 have e : (2 : Nat) ^ 64 = 18446744073709551616 := by decide
 exact ⟨h1, by omega, by omega⟩
theorem arJ : OpT K (rI0 λi j => .int (i - j)) ac3 := awN
noncomputable def gGt : G2 := gB λi j => decide (j < i)
noncomputable def gLe : G2 := gB λi j => decide (i <= j)
noncomputable def gGe : G2 := gB λi j => decide (j <= i)
theorem akB : OpT K (rI0 λi j => .bl (decide (i <= j))) gLe := av8
theorem aur : OpT K (rI0 λi j => .bl (decide (j <= i))) gGe := av8
noncomputable def intsOf : List Tr -> Option (List Int)
 | [] => some []
 | .int i :: r => (intsOf r).map (i :: ·)
 | _ :: _ => none
theorem ints_of {H : Hp} : ∀ {ts : List Tr} {ns : List Int} {xs : List V}, intsOf ts = some ns -> aaO K H xs ts -> xs = ns.map V.int
 | [], ns, xs, h, r => by cases h; cases r; rfl
 | .int i :: q, ns, xs, h, r => by
  unfold intsOf at h
  cases e : intsOf q with
  | none => rw [e] at h; cases h
  | some ms =>
   rw [e] at h
   cases h
   cases r with
   | cons h1 r1 =>
    cases h1
    rw [ints_of e r1]
    rfl
 | .non :: q, ns, xs, h, r => by cases h
 | .bl _ :: q, ns, xs, h, r => by cases h
 | .str _ :: q, ns, xs, h, r => by cases h
 | .tup _ :: q, ns, xs, h, r => by cases h
 | .lst _ :: q, ns, xs, h, r => by cases h
noncomputable def aus (K : PySem.W.Frag) : R2 := λx y H Q => (rI0 λi j => .bl (decide (i < j))) x y H Q \/ avX K x y H Q
theorem ajU {X : Cx} (hu : X.A.units + 64 < cLine) : OpR X (compareOp .Lt) (aus X.K) := OpR.or aud (arf (by omega))
noncomputable def gLt : G2
 | .int i, .int j => .ok (.bl (decide (i < j)), false)
 | .tup a, .tup b => match intsOf a, intsOf b with
  | some ns, some ms => .ok (.bl (HT.lexLt ns ms), false)
  | _, _ => .bad
 | _, _ => .bad
theorem aut : OpT (nlK K) (aus K) gLt := λW x y a b H Q hw rx ry h => by
 cases a <;> cases b <;> try exact h.elim
 ·rw [rx.int, ry.int]
  exact .inl ⟨_, _, rfl, rfl, h _ H (Same.refl _) (.atm (.bl _))⟩
 ·rename_i us ws
  dsimp only [gLt] at h
  split at h
  ·rename_i ns ms e1 e2
   obtain ⟨p, xs, rfl, q, r⟩ := rx.tup
   obtain ⟨p', ys, rfl, q', r'⟩ := ry.tup
   have z1 := ints_of e1 r
   have z2 := ints_of e2 r'
   subst z1 z2
   exact .inr ⟨p, p', ns, ms, rfl, rfl, q.toK, q'.toK, h _ H (Same.refl _) (.atm (.bl _))⟩
  ·exact h.elim
noncomputable def gIx : G2
 | .lst ts, .int i => match atI ts i with
  | some t => .ok (t, false)
  | none => .bad
 | .tup ts, .int i => match atI ts i with
  | some t => .ok (t, false)
  | none => .bad
 | .str z, .int i => if z.length <= 100000 then (match atI z.cps.toList i with
  | some c => .ok (.str ⟨#[c]⟩, false)
  | none => .bad) else .bad
 | _, _ => .bad
theorem arK : OpT (nlK K) (rIx K) gIx := λW x y a b H Q hw rx ry h => by
 cases a <;> cases b <;> try exact h.elim
 ·rename_i z i
  rw [rx.str, ry.int]
  dsimp only [gIx] at h
  split at h
  ·rename_i e
   split at h
   ·rename_i c ec
    exact .inr (.inr ⟨z, i, c, rfl, rfl, big e, ec, h _ H (Same.refl _) (.atm (.str _))⟩)
   ·exact h.elim
  ·exact h.elim
 ·rename_i ts i
  rw [ry.int]
  dsimp only [gIx] at h
  split at h
  ·rename_i t et
   obtain ⟨p, xs, rfl, q, r⟩ := rx.tup
   obtain ⟨v, ev, rv⟩ := r.atI et
   exact .inr (.inl ⟨p, xs, i, v, rfl, rfl, q.toK, ev, h _ H (Same.refl _) rv⟩)
  ·exact h.elim
 ·rename_i ts i
  rw [ry.int]
  dsimp only [gIx] at h
  split at h
  ·rename_i t et
   obtain ⟨p, xs, rfl, q, r⟩ := rx.lst
   obtain ⟨v, ev, rv⟩ := r.atI et
   exact .inl ⟨p, xs, i, v, rfl, rfl, q.toK, ev, h _ H (Same.refl _) rv⟩
  ·exact h.elim
end
end L2
end
section
namespace L2
open PySem PySem.Spec PyProof.Rows
section
variable {K : PySem.W.Frag} {W : Addr -> Prop} {σ : St}
theorem agw.step {H H' H'' : Hp} (hw : ∀ b, W b -> H b ≠ none) (s : Stp W H' H'') : ∀ {vs : List V} {rs : List Rv}, agw K W σ H H' vs rs -> agw K W σ H H'' vs rs
 | _, _, .nil => .nil
 | _, _, .cons h q => .cons (h.step hw s) (agw.step hw s q)
theorem agw.back {G H H' : Hp} (d : ∀ b, H b = none -> G b = none) : ∀ {vs : List V} {rs : List Rv}, agw K W σ H H' vs rs -> agw K W σ G H' vs rs
 | _, _, .nil => .nil
 | _, _, .cons h q => .cons (h.back d) (agw.back d q)
inductive Rps (K : PySem.W.Frag) (W : Addr -> Prop) (H : Hp) : List V -> List Tr -> Prop
 | nil : Rps K W H [] []
 | cons {v : V} {t : Tr} {vs : List V} {ts : List Tr} (h : Rp K W H v t) (q : Rps K W H vs ts) : Rps K W H (v :: vs) (t :: ts)
noncomputable def drs (ρ : En) : List Rv -> Rs (List Tr)
 | [] => .ok []
 | r :: rs => (dr ρ r).bind λt => (drs ρ rs).bind λts => .ok (t :: ts)
theorem aeP (ρ : En) : ∀ (rs : List Rv) (c : Str), drs ρ rs ≠ .ex c
 | [], c => by intro z; cases z
 | r :: rs, c => by
  unfold drs
  cases e : dr ρ r with
  | bad => intro z; cases z
  | ex d => exact (acq _ _ _ e).elim
  | ok t =>
   show (drs ρ rs).bind _ ≠ _
   cases e2 : drs ρ rs with
   | bad => intro z; cases z
   | ex d => exact (aeP ρ rs d e2).elim
   | ok ts => intro z; cases z
theorem aaR {α β : Type} {r : Rs α} {f : α -> Rs β} {b : β} (h : r.bind f = .ok b) : ∃ a, r = .ok a /\ f a = .ok b := by
 cases r with
 | bad => cases h
 | ex c => cases h
 | ok a => exact ⟨a, rfl, h⟩
theorem aib {t : Tx} {ρ : En} {H H' : Hp} (e : EOk t W ρ σ H') (hw : ∀ b, W b -> H b ≠ none) : ∀ {vs : List V} {rs : List Rv} {ts : List Tr}, agw t.K W σ H H' vs rs -> drs ρ rs = .ok ts -> Rps t.K W H' vs ts
 | _, _, _, .nil, q => by cases q; exact .nil
 | _, _, _, .cons h r, q => by
  unfold drs at q
  obtain ⟨a, q1, q⟩ := aaR q
  obtain ⟨as, q2, q⟩ := aaR q
  cases q
  exact .cons (adT e hw h q1) (aib e hw r q2)
noncomputable def cls : List Rv -> Rs (List Tr)
 | [] => .ok []
 | .v t _ :: rs => (cls rs).bind λts => .ok (t :: ts)
 | .s _ :: _ => .bad
theorem aeQ : ∀ (rs : List Rv) (c : Str), cls rs ≠ .ex c
 | [], c => by intro z; cases z
 | .v t fr :: rs, c => by
  unfold cls
  cases e2 : cls rs with
  | bad => intro z; cases z
  | ex d => exact (aeQ rs d e2).elim
  | ok ts => intro z; cases z
 | .s i :: rs, c => by intro z; cases z
theorem agV {H H' : Hp} (hw : ∀ b, W b -> H b ≠ none) : ∀ {vs : List V} {rs : List Rv} {ts : List Tr}, agw K W σ H H' vs rs -> cls rs = .ok ts -> aaO K (aaT W H') vs ts
 | _, _, _, .nil, q => by cases q; exact .nil
 | _, .v t fr :: _, _, .cons h r, q => by
  unfold cls at q
  obtain ⟨as, q2, q⟩ := aaR q
  cases q
  exact .cons (h.rep hw) (agV hw r q2)
 | _, .s i :: _, _, .cons h r, q => by cases q
end
section
variable {t : Tx}
noncomputable def aax : AF := λρ => .ok ([], ρ)
noncomputable def aaf (f : EF) (g : AF) : AF := λρ => (f ρ).bind λp => (g p.2).bind λq => .ok (p.1 :: q.1, q.2)
theorem aam : SA t alE aax := λW ρ σ H Q e h => h [] H e (Stp.refl _ _) .nil
theorem aac {te : TE} {ta : TA} {f : EF} {g : AF} (h1 : SE t te f) (h2 : SA t ta g) : SA t (ac4 te ta) (aaf f g) := λW ρ σ H Q e h => by
 refine h1 W ρ σ H _ e (Rs.aag (Rs.aae h) λp h v H1 e1 s1 v1 => ?_)
 refine h2 W p.2 σ H1 _ e1 (Rs.aag (Rs.aae h) λq h vs H2 e2 s2 v2 => ?_)
 exact h (v :: vs) H2 e2 (s1.trans s2) (.cons (v1.1.step e.wn s2) (agw.back s1.dom v2))
noncomputable def afn (g : AF) : EF := λρ => (g ρ).bind λp => (cls p.1).bind λts => if ts.length <= 1000 then .ok (.v (.lst ts) true, p.2) else .bad
noncomputable def afZ (g : AF) : EF := λρ => (g ρ).bind λp => (cls p.1).bind λts => if ts.length <= 1000 then .ok (.v (.tup ts) false, p.2) else .bad
theorem abC {α : Type} {r : Rs α} {EX : Str -> Prop} {P : α -> Prop} (h : r.post EX P) (n : ∀ c, r ≠ .ex c) : ∃ a, r = .ok a /\ P a := by
 cases r with
 | bad => exact h.elim
 | ex c => exact (n c rfl).elim
 | ok a => exact ⟨a, rfl, h⟩
theorem acK {ta : TA} {g : AF} (h1 : SA t ta g) : SE t (avV ta) (afn g) := λW ρ σ H Q e h => by
 refine h1 W ρ σ H _ e (Rs.aag (Rs.aae h) λp h vs H1 e1 s1 v1 => ?_)
 obtain ⟨ts, q, h⟩ := abC (Rs.aae h) (aeQ _)
 have r := agV e.wn v1 q
 split at h
 ·rename_i hl
  refine ⟨by rw [r.length]; exact Nat.le_trans hl (by decide), λz hz => h _ _ (e1.grow (aaC hz _)) (s1.trans (Stp.of (aaC hz _))) ?_⟩
  exact (VOE.of (σ' := σ) e1 (aaC hz _) (VOk.new hz r)).back s1.dom
 ·exact h.elim
theorem adw {ta : TA} {g : AF} (h1 : SA t ta g) : SE t (avU ta) (afZ g) := λW ρ σ H Q e h => by
 refine h1 W ρ σ H _ e (Rs.aag (Rs.aae h) λp h vs H1 e1 s1 v1 => ?_)
 obtain ⟨ts, q, h⟩ := abC (Rs.aae h) (aeQ _)
 have r := agV e.wn v1 q
 split at h
 ·rename_i hl
  refine ⟨by rw [r.length]; exact Nat.le_trans hl (by decide), λz hz => h _ _ (e1.grow (aaC hz _)) (s1.trans (Stp.of (aaC hz _))) ?_⟩
  exact .low ((VOk.newT (σ := σ) (W := W) e1.wl hz r))
 ·exact h.elim
noncomputable abbrev G1 := Tr -> Rs (Tr × Bool)
noncomputable def UnT (K : PySem.W.Frag) (r : V -> Hp -> VK -> Prop) (g : G1) : Prop := ∀ W x a H Q, (∀ b, W b -> Lt H b) -> Rp K W H x a -> (g a).post (λ_ => False) (λp => ∀ v H', Same H H' -> VOk K W [] H H' v (.v p.1 p.2) -> Q v H') -> r x H Q
noncomputable def eUn (g : G1) (fa : EF) : EF := λρ => (fa ρ).bind λp => (dr p.2 p.1).bind λa => (g a).bind λz => .ok (.v z.1 z.2, p.2)
theorem auu {r : V -> Hp -> VK -> Prop} {g : G1} {ta : TE} {fa : EF} (o : UnT t.K r g) (ng : ∀ a c, g a ≠ .ex c) (ha : SE t ta fa) : SE t (tUn r ta) (eUn g fa) := λW ρ σ H Q e h => by
 refine ha W ρ σ H _ e (Rs.aag (Rs.aae h) λp h x H1 e1 s1 v1 => ?_)
 obtain ⟨a, k1, h⟩ := abC (Rs.aae h) (acq _ _)
 refine o W x a H1 Q e1.wl (adT e1 e.wn v1.1 k1) (Rs.aag (aiN (Rs.aae h) (ng a)) λz h v H2 s2 v2 => ?_)
 exact h v H2 (e1.grow s2) (s1.trans (Stp.of s2)) ((VOE.of e1 s2 v2).back s1.dom)
noncomputable def aoC : G1
 | .int i => .ok (.int (-i), false)
 | _ => .bad
theorem aoD {K : PySem.W.Frag} : UnT K (rU λi => .int (-i)) aoC := λW x a H Q hw rx h => by
 cases a <;> try exact h.elim
 rw [rx.int]
 exact ⟨_, rfl, h _ H (Same.refl _) (.atm (.int _))⟩
noncomputable def bOf : Tr -> Rs Bool
 | .bl b => .ok b
 | _ => .bad
theorem alX (a : Tr) (c : Str) : bOf a ≠ .ex c := by cases a <;> (intro z; cases z)
noncomputable def abm (fa : EF) : BF := λρ => (fa ρ).bind λp => (dr p.2 p.1).bind λa => (bOf a).bind λb => .ok (b, p.2)
theorem arL {K : PySem.W.Frag} {W : Addr -> Prop} {H : Hp} {v : V} {a : Tr} {b : Bool} (h : Rp K W H v a) (q : bOf a = .ok b) : v = .bl b := by
 cases a <;> cases q
 exact h.bl
theorem aaY {ta : TE} {fa : EF} (ha : SE t ta fa) : ST t (apj ta) (abm fa) := λW ρ σ H Q e h => by
 refine ha W ρ σ H _ e (Rs.aag (Rs.aae h) λp h x H1 e1 s1 v1 => ?_)
 obtain ⟨a, k1, h⟩ := abC (Rs.aae h) (acq _ _)
 obtain ⟨b, k2, h⟩ := abC (Rs.aae h) (alX _)
 exact ⟨b, arL (adT e1 e.wn v1.1 k1) k2, h H1 e1 s1⟩
noncomputable def tru : Tr -> Rs Bool
 | .non => .ok false
 | .bl b => .ok b
 | .int i => .ok (i != 0)
 | .lst ts => .ok (!ts.isEmpty)
 | .tup ts => .ok (!ts.isEmpty)
 | .str x => if x.length <= 100000 then .ok ((x.length : Int) != 0) else .bad
 | .exn _ => .bad
theorem apH (a : Tr) (c : Str) : tru a ≠ .ex c := by
 cases a <;> try (intro z; cases z; done)
 dsimp only [tru]
 split <;> (intro z; cases z)
theorem af0 {α β : Type} {a : List α} {b : List β} (h : a.length = b.length) : a.isEmpty = b.isEmpty := by
 cases a <;> cases b <;> first | rfl | cases h
theorem arM {K : PySem.W.Frag} {W : Addr -> Prop} {H : Hp} {v : V} {a : Tr} {b : Bool} (h : Rp (nlK K) W H v a) (q : tru a = .ok b) : aq5 K v H b := by
 cases a with
 | non => cases q; rw [h.non]; rfl
 | bl i => cases q; rw [h.bl]; rfl
 | int i => cases q; rw [h.int]; rfl
 | str i =>
  dsimp only [tru] at q
  split at q
  ·rename_i e
   cases q
   rw [h.str]
   exact ⟨big e, rfl⟩
  ·cases q
 | tup ts =>
  cases q
  obtain ⟨p, xs, rfl, q, r⟩ := h.tup
  exact .inr (.inl ⟨xs, q.toK, by rw [af0 r.length]⟩)
 | lst ts =>
  cases q
  obtain ⟨p, xs, rfl, q, r⟩ := h.lst
  exact .inl ⟨xs, q.toK, by rw [af0 r.length]⟩
 | exn c => cases q
noncomputable def akC (fa : EF) : BF := λρ => (fa ρ).bind λp => (dr p.2 p.1).bind λa => (tru a).bind λb => .ok (b, p.2)
noncomputable def awO (K : PySem.W.Frag) (ta : TE) : TT := λσ H Q => ta σ H λx H' => ∃ k, aq5 K x H' k /\ Q k H'
theorem ad2 {K : PySem.W.Frag} (hK : t.K = nlK K) {ta : TE} {fa : EF} (ha : SE t ta fa) : ST t (awO K ta) (akC fa) := λW ρ σ H Q e h => by
 refine ha W ρ σ H _ e (Rs.aag (Rs.aae h) λp h x H1 e1 s1 v1 => ?_)
 obtain ⟨a, k1, h⟩ := abC (Rs.aae h) (acq _ _)
 obtain ⟨b, k2, h⟩ := abC (Rs.aae h) (apH _)
 have r := adT e1 e.wn v1.1 k1
 rw [hK] at r
 exact ⟨b, arM r k2, h H1 e1 s1⟩
noncomputable def awP (f g : BF) : BF := λρ => (f ρ).bind λp => if p.1 = true then g p.2 else .ok (false, p.2)
noncomputable def bOr (f g : BF) : BF := λρ => (f ρ).bind λp => if p.1 = true then .ok (true, p.2) else g p.2
noncomputable def alp (f : BF) : BF := λρ => (f ρ).bind λp => .ok (!p.1, p.2)
theorem alY {ta tb : TT} {f g : BF} (ha : ST t ta f) (hb : ST t tb g) : ST t (tOr ta tb) (bOr f g) := λW ρ σ H Q e h => by
 refine ha W ρ σ H _ e (Rs.aag (Rs.aae h) λp h H1 e1 s1 => ?_)
 split at h
 ·rename_i c
  exact if_pos c ▸ h H1 e1 s1
 ·rename_i c
  refine if_neg c ▸ hb W p.2 σ H1 _ e1 (Rs.aag h λq h H2 e2 s2 => h H2 e2 (s1.trans s2))
theorem aem {ta : TT} {f : BF} (ha : ST t ta f) : ST t (avK ta) (alp f) := λW ρ σ H Q e h =>
 ha W ρ σ H _ e (Rs.aag (Rs.aae h) λp h H1 e1 s1 => h H1 e1 s1)
noncomputable def eB (b : Bool) : Rv := .v (.bl b) false
noncomputable def anm (f g : EF) : EF := λρ => (abm f ρ).bind λp => if p.1 = true then g p.2 else .ok (eB false, p.2)
noncomputable def eOr (f g : EF) : EF := λρ => (abm f ρ).bind λp => if p.1 = true then .ok (eB true, p.2) else g p.2
noncomputable def auv (f : EF) : EF := λρ => (abm f ρ).bind λp => .ok (eB (!p.1), p.2)
theorem agW {ta tb : TE} {f g : EF} (ha : SE t ta f) (hb : SE t tb g) : SE t (aqW ta tb) (anm f g) := λW ρ σ H Q e h => by
 refine aaY ha W ρ σ H _ e (Rs.aag (Rs.aae h) λp h H1 e1 s1 => ?_)
 split at h
 ·rename_i c
  refine if_pos c ▸ hb W p.2 σ H1 _ e1 (Rs.aag h λq h v H2 e2 s2 v2 => h v H2 e2 (s1.trans s2) (v2.back s1.dom))
 ·rename_i c
  exact if_neg c ▸ h _ H1 e1 s1 (.low (.bl false))
theorem arN {ta : TE} {f : EF} (ha : SE t ta f) : SE t (aqX ta) (auv f) := λW ρ σ H Q e h =>
 aaY ha W ρ σ H _ e (Rs.aag (Rs.aae h) λp h H1 e1 s1 => h _ H1 e1 s1 (.low (.bl _)))
noncomputable def eIf (c : BF) (f g : EF) : EF := λρ => (c ρ).bind λp => if p.1 = true then f p.2 else g p.2
end
end L2
end
section
namespace L2
open PySem PySem.Spec PyProof.Rows
section
variable {t : Tx}
noncomputable def agX (g g' : G2) (fa fb fc : EF) : EF := λρ => (fa ρ).bind λp => (fb p.2).bind λq => (dr q.2 p.1).bind λa => (dr q.2 q.1).bind λb => (g a b).bind λz => (bOf z.1).bind λk =>
 if k = true then (fc q.2).bind λs => (dr s.2 q.1).bind λb => (dr s.2 s.1).bind λc => (g' b c).bind λz => .ok (.v z.1 z.2, s.2) else .ok (eB false, q.2)
theorem ano {r r' : R2} {g g' : G2} {ta tb tc : TE} {fa fb fc : EF} (o : OpT t.K r g) (o' : OpT t.K r' g') (ng : ∀ a b c, g a b ≠ .ex c) (ng' : ∀ a b c, g' a b ≠ .ex c) (ha : SE t ta fa) (hb : SE t tb fb) (hc : SE t tc fc) : SE t (ajE r r' ta tb tc) (agX g g' fa fb fc) := λW ρ σ H Q e h => by
 refine ha W ρ σ H _ e (Rs.aag (Rs.aae h) λp h x H1 e1 s1 v1 => ?_)
 refine hb W p.2 σ H1 _ e1 (Rs.aag (Rs.aae h) λq h y H2 e2 s2 v2 => ?_)
 obtain ⟨a, k1, h⟩ := abC (Rs.aae h) (acq _ _)
 obtain ⟨b, k2, h⟩ := abC (Rs.aae h) (acq _ _)
 refine o W x y a b H2 _ e2.wl (adT e2 e.wn (v1.1.step e.wn s2) k1) (adT e2 e1.wn v2.1 k2) (Rs.aag (aiN (Rs.aae h) (ng a b)) λz h v H3 s3 v3 => ?_)
 obtain ⟨k, k3, h⟩ := abC (Rs.aae h) (alX _)
 have e3 := e2.grow s3
 have b3 : v = .bl k := arL (.inl (VOk.rep (σ := []) e2.wn v3)) k3
 refine ⟨k, b3, ?_⟩
 split at h
 ·rename_i c
  rw [if_pos c]
  refine hc W q.2 σ H3 _ e3 (Rs.aag (Rs.aae h) λu h w H4 e4 s4 v4 => ?_)
  obtain ⟨b', k4, h⟩ := abC (Rs.aae h) (acq _ _)
  obtain ⟨c', k5, h⟩ := abC (Rs.aae h) (acq _ _)
  refine o' W y w b' c' H4 _ e4.wl (adT e4 e1.wn ((v2.1.step e1.wn (Stp.of s3)).step e1.wn s4) k4) (adT e4 e3.wn v4.1 k5) (Rs.aag (aiN (Rs.aae h) (ng' b' c')) λz h v H5 s5 v5 => ?_)
  have st : Stp W H H4 := (s1.trans (s2.trans (Stp.of s3))).trans s4
  exact h v H5 (e4.grow s5) (st.trans (Stp.of s5)) ((VOE.of e4 s5 v5).back st.dom)
 ·rename_i c
  rw [if_neg c]
  exact h _ H3 e3 ((s1.trans s2).trans (Stp.of s3)) (.low (.bl false))
noncomputable abbrev OF := En -> Rs (Option Int × En)
noncomputable def SO (t : Tx) (te : TO) (f : OF) : Prop := ∀ W ρ σ H Q, EOk t W ρ σ H -> (f ρ).post t.EX (λp => ∀ H', EOk t W p.2 σ H' -> Stp W H H' -> Q p.1 H') -> te σ H Q
noncomputable def oNo : OF := λρ => .ok (none, ρ)
theorem arO : SO t alI oNo := λW ρ σ H Q e h => h H e (Stp.refl _ _)
noncomputable def iOf : Tr -> Rs Int
 | .int i => .ok i
 | _ => .bad
theorem alZ (a : Tr) (c : Str) : iOf a ≠ .ex c := by cases a <;> (intro z; cases z)
theorem aoE {K : PySem.W.Frag} {W : Addr -> Prop} {H : Hp} {v : V} {a : Tr} {b : Int} (h : Rp K W H v a) (q : iOf a = .ok b) : v = .int b := by
 cases a <;> cases q
 exact h.int
noncomputable def akD (fa : EF) : OF := λρ => (fa ρ).bind λp => (dr p.2 p.1).bind λa => (iOf a).bind λb => .ok (some b, p.2)
theorem al0 {ta : TE} {fa : EF} (ha : SE t ta fa) : SO t (arb ta) (akD fa) := λW ρ σ H Q e h => by
 refine ha W ρ σ H _ e (Rs.aag (Rs.aae h) λp h x H1 e1 s1 v1 => ?_)
 obtain ⟨a, k1, h⟩ := abC (Rs.aae h) (acq _ _)
 obtain ⟨b, k2, h⟩ := abC (Rs.aae h) (alZ _)
 exact ⟨b, aoE (adT e1 e.wn v1.1 k1) k2, h H1 e1 s1⟩
noncomputable def cut {α : Type} (xs : List α) (lo hi : Option Int) : List α := (xs.drop (HT.sIx xs.length 0 lo)).take (HT.sIx xs.length xs.length hi - HT.sIx xs.length 0 lo)
theorem aaO.cut {K : PySem.W.Frag} {H : Hp} {xs : List V} {ts : List Tr} (r : aaO K H xs ts) (lo hi : Option Int) : aaO K H (aou xs lo hi) (L2.cut ts lo hi) := by
 unfold aou L2.cut
 rw [r.length]
 exact (r.drop _).take _
noncomputable def awa (K : PySem.W.Frag) : V -> Option Int -> Option Int -> Hp -> VK -> Prop := λx lo hi H Q => av1 K x lo hi H Q \/ avW K x lo hi H Q \/ av2 x lo hi H Q
theorem awb {X : Cx} : SlR X (awa X.K) := SlR.or apq (SlR.or ard aru)
noncomputable def gSl (lo hi : Option Int) : G1
 | .lst ts => .ok (.lst (cut ts lo hi), true)
 | .tup ts => if ¬ (HT.sIx ts.length 0 lo = 0 /\ HT.sIx ts.length ts.length hi = ts.length) then .ok (.tup (cut ts lo hi), false) else .bad
 | .str z => if z.length <= 100000 then .ok (.str (Txt.slice z lo hi), false) else .bad
 | _ => .bad
theorem apI (lo hi : Option Int) (a : Tr) (c : Str) : gSl lo hi a ≠ .ex c := by
 cases a <;> dsimp only [gSl] <;> (try split) <;> (intro z; cases z)
noncomputable def eSl (fa : EF) (fl fh : OF) : EF := λρ => (fa ρ).bind λp => (fl p.2).bind λl => (fh l.2).bind λh => (dr h.2 p.1).bind λa => (gSl l.1 h.1 a).bind λz => .ok (.v z.1 z.2, h.2)
theorem arP {K : PySem.W.Frag} (hK : t.K = nlK K) {ta : TE} {tl th : TO} {fa : EF} {fl fh : OF} (ha : SE t ta fa) (hl : SO t tl fl) (hh : SO t th fh) : SE t (tSl (awa K) ta tl th) (eSl fa fl fh) := λW ρ σ H Q e h => by
 refine ha W ρ σ H _ e (Rs.aag (Rs.aae h) λp h x H1 e1 s1 v1 => ?_)
 refine hl W p.2 σ H1 _ e1 (Rs.aag (Rs.aae h) λl h H2 e2 s2 => ?_)
 refine hh W l.2 σ H2 _ e2 (Rs.aag (Rs.aae h) λu h H3 e3 s3 => ?_)
 obtain ⟨a, k1, h⟩ := abC (Rs.aae h) (acq _ _)
 obtain ⟨z, k2, h⟩ := abC (Rs.aae h) (apI _ _ _)
 have st : Stp W H H3 := s1.trans (s2.trans s3)
 have rx := adT e3 e.wn (v1.1.step e.wn (s2.trans s3)) k1
 rw [hK] at rx
 cases a with
 | exn c => cases k2
 | lst ts =>
  cases k2
  obtain ⟨b, xs, rfl, q, r⟩ := rx.lst
  refine .inl ⟨b, xs, rfl, q.toK, λy hy => h _ _ (e3.grow (aaC hy _)) (st.trans (Stp.of (aaC hy _))) ?_⟩
  rw [<-hK] at r
  exact (VOE.of (σ' := σ) e3 (aaC hy _) (VOk.new hy (r.cut _ _))).back st.dom
 | tup ts =>
  dsimp only [gSl] at k2
  split at k2
  ·rename_i c
   cases k2
   obtain ⟨b, xs, rfl, q, r⟩ := rx.tup
   refine .inr (.inl ⟨b, xs, rfl, q.toK, by rw [r.length]; exact c, λy hy => h _ _ (e3.grow (aaC hy _)) (st.trans (Stp.of (aaC hy _))) ?_⟩)
   rw [<-hK] at r
   exact .low (VOk.newT (σ := σ) (W := W) e3.wl hy (r.cut _ _))
  ·cases k2
 | str i =>
  dsimp only [gSl] at k2
  split at k2
  ·rename_i c
   cases k2
   rw [rx.str]
   exact .inr (.inr ⟨i, rfl, big c, h _ H3 e3 st (.low (.str _))⟩)
  ·cases k2
 | non => cases k2
 | bl i => cases k2
 | int i => cases k2
noncomputable abbrev GN := List Tr -> Rs (Tr × Bool)
noncomputable def CbT (K : PySem.W.Frag) (r : List V -> Hp -> VK -> Prop) (g : GN) : Prop := ∀ W xs as H Q, (∀ b, W b -> Lt H b) -> Rps K W H xs as -> (g as).post (λ_ => False) (λp => ∀ v H', Same H H' -> VOk K W [] H H' v (.v p.1 p.2) -> Q v H') -> r xs H Q
noncomputable def eCB (g : GN) (fa : AF) : EF := λρ => (fa ρ).bind λp => (drs p.2 p.1).bind λas => (g as).bind λz => .ok (.v z.1 z.2, p.2)
theorem akE {r : List V -> Hp -> VK -> Prop} {g : GN} {ta : TA} {fa : AF} (o : CbT t.K r g) (ng : ∀ as c, g as ≠ .ex c) (ha : SA t ta fa) : SE t (tCB r ta) (eCB g fa) := λW ρ σ H Q e h => by
 refine ha W ρ σ H _ e (Rs.aag (Rs.aae h) λp h xs H1 e1 s1 v1 => ?_)
 obtain ⟨as, k1, h⟩ := abC (Rs.aae h) (aeP _ _)
 refine o W xs as H1 Q e1.wl (aib e1 e.wn v1 k1) (Rs.aag (aiN (Rs.aae h) (ng as)) λz h v H2 s2 v2 => ?_)
 exact h v H2 (e1.grow s2) (s1.trans (Stp.of s2)) ((VOE.of e1 s2 v2).back s1.dom)
noncomputable def g1 (g : G1) : GN
 | [a] => g a
 | _ => .bad
theorem ajV {g : G1} (h : ∀ a c, g a ≠ .ex c) (as : List Tr) (c : Str) : g1 g as ≠ .ex c := by
 match as with
 | [] => intro z; cases z
 | [a] => exact h a c
 | _ :: _ :: _ => intro z; cases z
theorem atO {K : PySem.W.Frag} {r : List V -> Hp -> VK -> Prop} {g : G1} (h : UnT K (λx => r [x]) g) : CbT K r (g1 g) := λW xs as H Q hw rs q => by
 cases rs with
 | nil => exact q.elim
 | cons h1 r1 =>
  cases r1 with
  | nil => exact h W _ _ H Q hw h1 q
  | cons _ _ => exact q.elim
noncomputable def g2 (g : G2) : GN
 | [a, b] => g a b
 | _ => .bad
theorem aoF {g : G2} (h : ∀ a b c, g a b ≠ .ex c) (as : List Tr) (c : Str) : g2 g as ≠ .ex c := by
 match as with
 | [] => intro z; cases z
 | [a] => intro z; cases z
 | [a, b] => exact h a b c
 | _ :: _ :: _ :: _ => intro z; cases z
theorem awc {K : PySem.W.Frag} {r : List V -> Hp -> VK -> Prop} {g : G2} (h : OpT K (λx y => r [x, y]) g) : CbT K r (g2 g) := λW xs as H Q hw rs q => by
 cases rs with
 | nil => exact q.elim
 | cons h1 r1 =>
  cases r1 with
  | nil => exact q.elim
  | cons h2 r2 =>
   cases r2 with
   | nil => exact h W _ _ _ _ H Q hw h1 h2 q
   | cons _ _ => exact q.elim
end
section
variable {K : PySem.W.Frag}
noncomputable def apJ (K : PySem.W.Frag) : List V -> Hp -> VK -> Prop := λxs H Q => (∃ p ys, xs = [.ref p] /\ (SqL K H p ys \/ SqT K H p ys) /\ Q (.int ys.length) H) \/ (∃ z, xs = [.str z] /\ z.length <= sizeLine /\ Q (.int z.length) H)
theorem abL {X : Cx} : acH X (.builtin "len") (apJ X.K) := acH.or ah7 ah8
noncomputable def abZ : G1
 | .lst ts => .ok (.int ts.length, false)
 | .tup ts => .ok (.int ts.length, false)
 | .str z => if z.length <= 100000 then .ok (.int z.length, false) else .bad
 | _ => .bad
theorem arQ : UnT (nlK K) (λx => apJ K [x]) abZ := λW x a H Q hw rx h => by
 cases a <;> try exact h.elim
 ·rename_i z
  dsimp only [abZ] at h
  split at h
  ·rename_i e
   rw [rx.str]
   exact .inr ⟨z, rfl, big e, h _ H (Same.refl _) (.atm (.int _))⟩
  ·exact h.elim
 ·obtain ⟨p, xs, rfl, q, r⟩ := rx.tup
  refine .inl ⟨p, xs, rfl, .inr q.toK, ?_⟩
  rw [r.length]
  exact h _ H (Same.refl _) (.atm (.int _))
 ·obtain ⟨p, xs, rfl, q, r⟩ := rx.lst
  refine .inl ⟨p, xs, rfl, .inl q.toK, ?_⟩
  rw [r.length]
  exact h _ H (Same.refl _) (.atm (.int _))
noncomputable def ad8 : G1
 | .int i => .ok (.int (if i < 0 then -i else i), false)
 | _ => .bad
theorem arR : UnT K (λx H Q => ∃ i, [x] = [V.int i] /\ Q (.int (if i < 0 then -i else i)) H) ad8 := λW x a H Q hw rx h => by
 cases a <;> try exact h.elim
 rw [rx.int]
 exact ⟨_, rfl, h _ H (Same.refl _) (.atm (.int _))⟩
noncomputable def aci : G1
 | .lst ts => .ok (.lst ts, true)
 | .tup ts => .ok (.lst ts, true)
 | _ => .bad
noncomputable def aa5 : G1
 | .lst ts => .ok (.tup ts, false)
 | .tup ts => .ok (.tup ts, false)
 | _ => .bad
theorem anp : UnT (nlK K) (λx H Q => ∃ p ys, [x] = [V.ref p] /\ ((SqL K H p ys /\ ∀ l, H l = none -> Q (.ref l) (upd H l (.tup ys))) \/ (SqT K H p ys /\ Q (.ref p) H))) aa5 := λW x a H Q hw rx h => by
 cases a <;> try exact h.elim
 ·have rt := rx.av7
  obtain ⟨p, xs, rfl, q, r⟩ := rx.tup
  exact ⟨p, xs, rfl, .inr ⟨q.toK, h _ H (Same.refl _) rt⟩⟩
 ·obtain ⟨p, xs, rfl, q, r⟩ := rx.lst
  exact ⟨p, xs, rfl, .inl ⟨q.toK, λz hz => h _ _ (aaC hz _) (.newT hw hz r)⟩⟩
noncomputable def ad9 : G2
 | .int i, .int j => .ok (.int (if j < i then j else i), false)
 | _, _ => .bad
noncomputable def aea : G2
 | .int i, .int j => .ok (.int (if j > i then j else i), false)
 | _, _ => .bad
theorem arS : OpT K (λx y H Q => ∃ i j, [x, y] = [V.int i, V.int j] /\ Q (.int (if j < i then j else i)) H) ad9 := λW x y a b H Q hw rx ry h => by
 cases a <;> cases b <;> try exact h.elim
 rw [rx.int, ry.int]
 exact ⟨_, _, rfl, h _ H (Same.refl _) (.atm (.int _))⟩
theorem arT : OpT K (λx y H Q => ∃ i j, [x, y] = [V.int i, V.int j] /\ Q (.int (if j > i then j else i)) H) aea := λW x y a b H Q hw rx ry h => by
 cases a <;> cases b <;> try exact h.elim
 rw [rx.int, ry.int]
 exact ⟨_, _, rfl, h _ H (Same.refl _) (.atm (.int _))⟩
noncomputable def ahk : List Tr -> Option (List Bool)
 | [] => some []
 | .bl i :: r => (ahk r).map (i :: ·)
 | _ :: _ => none
theorem aoG {H : Hp} : ∀ {ts : List Tr} {ns : List Bool} {xs : List V}, ahk ts = some ns -> aaO K H xs ts -> xs = ns.map V.bl
 | [], ns, xs, h, r => by cases h; cases r; rfl
 | .bl i :: q, ns, xs, h, r => by
  unfold ahk at h
  cases e : ahk q with
  | none => rw [e] at h; cases h
  | some ms =>
   rw [e] at h
   cases h
   cases r with
   | cons h1 r1 =>
    cases h1
    rw [aoG e r1]
    rfl
 | .non :: q, ns, xs, h, r => by cases h
 | .int _ :: q, ns, xs, h, r => by cases h
 | .str _ :: q, ns, xs, h, r => by cases h
 | .tup _ :: q, ns, xs, h, r => by cases h
 | .lst _ :: q, ns, xs, h, r => by cases h
noncomputable def ac5 : G1
 | .lst ts => match ahk ts with
  | some bs => .ok (.bl (bs.all id), false)
  | none => .bad
 | _ => .bad
theorem arU : UnT (nlK K) (λx => aui K [x]) ac5 := λW x a H Q hw rx h => by
 cases a <;> try exact h.elim
 dsimp only [ac5] at h
 split at h
 ·rename_i bs e
  obtain ⟨p, xs, rfl, q, r⟩ := rx.lst
  have z := aoG e r
  subst z
  exact ⟨p, bs, rfl, q.toK, h _ H (Same.refl _) (.atm (.bl _))⟩
 ·exact h.elim
noncomputable def al1 (c : Ty) (fa : EF) : EF := λρ => (fa ρ).bind λp => (dr p.2 p.1).bind λa => .ok (eB (adS a c), p.2)
theorem agY {t : Tx} (hK : t.K = nlK K) (c : Ty) {ta : TE} {fa : EF} (ha : SE t ta fa) : SE t (tCB (atL K) (ac4 ta (ac4 (tC (.ty c.name)) alE))) (al1 c fa) := λW ρ σ H Q e h => by
 refine ha W ρ σ H _ e (Rs.aag (Rs.aae h) λp h x H1 e1 s1 v1 => ?_)
 obtain ⟨a, k1, h⟩ := abC (Rs.aae h) (acq _ _)
 have r := adT e1 e.wn v1.1 k1
 rw [hK] at r
 exact ⟨x, a, c, rfl, r.rep.toK, h _ H1 e1 s1 (.low (.bl _))⟩
end
end L2
end
section
namespace L2
open PySem PySem.Spec PyProof.Rows
inductive Fl where
 | nx | rt (T : Tr) (fr : Bool) | bk | ct
noncomputable abbrev SF := En -> Rs (Fl × En)
noncomputable def Nxt (W : Addr -> Prop) (H : Hp) (W' : Addr -> Prop) (H' : Hp) : Prop := ∀ b o, ¬ W b -> H b = some o -> ¬ W' b /\ H' b = some o
theorem Nxt.refl (W : Addr -> Prop) (H : Hp) : Nxt W H W H := λ_ _ n h => ⟨n, h⟩
theorem Nxt.trans {W W1 W2 : Addr -> Prop} {H H1 H2 : Hp} (a : Nxt W H W1 H1) (b : Nxt W1 H1 W2 H2) : Nxt W H W2 H2 := λc o n h => by
 obtain ⟨n1, h1⟩ := a c o n h
 exact b c o n1 h1
theorem Stp.nxt {W : Addr -> Prop} {H H' : Hp} (s : Stp W H H') : Nxt W H W H' := λb o n h => ⟨n, s.keep b o n h⟩
theorem Nxt.same {W W' : Addr -> Prop} {H H' : Hp} (a : Nxt W H W' H') : Same (aaT W H) (aaT W' H') := λb o h => by
 obtain ⟨n, h⟩ := abe h
 obtain ⟨n', h'⟩ := a b o n h
 rw [aaM n']
 exact h'
noncomputable def VR (t : Tx) (H' : Hp) (v : V) (T : Tr) : Bool -> Prop
 | false => Rep t.K (aaT t.Z H') v T
 | true => ∃ a xs ts, v = .ref a /\ T = .lst ts /\ t.H0 a = none /\ H' a = some (.lst xs) /\ aaO t.K (off a (aaT t.Z H')) xs ts
noncomputable def af2 (t : Tx) (W : Addr -> Prop) (H : Hp) (D : Ends) (p : Fl × En) : Prop := match p.1 with
 | .nx => ∀ W' σ' H', EOk t W' p.2 σ' H' -> Nxt W H W' H' -> D.nx σ' H'
 | .rt T fr => ∀ v W' σ' H', EOk t W' p.2 σ' H' -> VR t H' v T fr -> D.rt v H'
 | .bk => ∀ W' σ' H', EOk t W' p.2 σ' H' -> Nxt W H W' H' -> D.bk σ' H'
 | .ct => ∀ W' σ' H', EOk t W' p.2 σ' H' -> Nxt W H W' H' -> D.ct σ' H'
noncomputable def SS (t : Tx) (ts : TS) (f : SF) : Prop := ∀ W ρ σ H D, EOk t W ρ σ H -> (f ρ).post t.EX (af2 t W H D) -> ts D σ H
theorem af2.back {t : Tx} {W W' : Addr -> Prop} {H H' : Hp} {D : Ends} {p : Fl × En} (h : af2 t W H D p) (n : Nxt W H W' H') : af2 t W' H' D p := by
 obtain ⟨fl, ρ⟩ := p
 cases fl with
 | nx => exact λW2 σ2 H2 e m => h W2 σ2 H2 e (n.trans m)
 | rt T fr => exact h
 | bk => exact λW2 σ2 H2 e m => h W2 σ2 H2 e (n.trans m)
 | ct => exact λW2 σ2 H2 e m => h W2 σ2 H2 e (n.trans m)
section
variable {t : Tx}
noncomputable def adp : SF := λρ => .ok (.nx, ρ)
theorem abw : SS t aqZ adp := λW ρ σ H D e h => h W σ H e (Nxt.refl _ _)
noncomputable def aaP (f g : SF) : SF := λρ => (f ρ).bind λp => match p.1 with
 | .nx => g p.2
 | fl => .ok (fl, p.2)
theorem aar {ta tb : TS} {f g : SF} (h1 : SS t ta f) (h2 : SS t tb g) : SS t (avL ta tb) (aaP f g) := λW ρ σ H D e h => by
 refine h1 W ρ σ H _ e (Rs.aag (Rs.aae h) λp h => ?_)
 obtain ⟨fl, ρ1⟩ := p
 cases fl with
 | nx => exact λW1 σ1 H1 e1 n1 => h2 W1 ρ1 σ1 H1 D e1 (Rs.aag h λq h => h.back n1)
 | rt T fr => exact h
 | bk => exact h
 | ct => exact h
theorem get_set {α : Type} {l : List α} {i j : Nat} {a b : α} (h : (l.set i a)[j]? = some b) : (j = i /\ b = a /\ i < l.length) \/ (j ≠ i /\ l[j]? = some b) := by
 by_cases e : i = j
 ·subst e
  rw [List.getElem?_set_self'] at h
  cases q : l[i]? with
  | none => rw [q] at h; cases h
  | some c =>
   rw [q] at h
   cases h
   exact .inl ⟨rfl, rfl, (List.getElem?_eq_some_iff.mp q).1⟩
 ·rw [List.getElem?_set_ne e] at h
  exact .inr ⟨Ne.symm e, h⟩
theorem aeR {α : Type} {l : List α} {i : Nat} {a : α} (h : i < l.length) : (l.set i a)[i]? = some a := by
 rw [List.getElem?_set_self' , List.getElem?_eq_getElem h]
 rfl
theorem EOk.ajW {W : Addr -> Prop} {ρ : En} {σ : St} {H : Hp} {i : Nat} {v : V} {T : Tr} (e : EOk t W ρ σ H) (r : Rep t.K (aaT W H) v T) : EOk t W (ρ.set i (.sh T)) (σ.set i (some v)) H := by
 have mu : ∀ j, Mu (ρ.set i (.sh T)) j -> j ≠ i /\ Mu ρ j := λj h => by
  obtain ⟨ts, h | h⟩ := h <;> rcases get_set h with ⟨rfl, z, _⟩ | ⟨ne, h⟩
  ·cases z
  ·exact ⟨ne, ts, .inl h⟩
  ·cases z
  ·exact ⟨ne, ts, .inr h⟩
 have dpo : ∀ j us, (ρ.set i (.sh T))[j]? = some (.dp us) -> j ≠ i /\ ρ[j]? = some (.dp us) := λj us h => by
  rcases get_set h with ⟨rfl, z, _⟩ | ⟨ne, h⟩
  ·cases z
  ·exact ⟨ne, h⟩
 obtain ⟨F, e⟩ := e
 refine ⟨F, by rw [List.length_set, List.length_set]; exact e.len, e.zw, e.z0, e.wl, e.f0, e.n0, λj u h => ?_, λj ts h => ?_, λj ts h => ?_, λj k a h1 h2 q1 q2 => ?_, e.pn, λj a m q => e.pd j a (mu j m).2 (by rw [List.getElem?_set_ne (Ne.symm (mu j m).1)] at q; exact q),
  λj us h => ?_, λj k us ws n h1 h2 => e.dd j k us ws n (dpo j us h1).2 (dpo k ws h2).2, λj k us c h1 m q => e.dm j k us c (dpo j us h1).2 (mu k m).2 (by rw [List.getElem?_set_ne (Ne.symm (mu k m).1)] at q; exact q), λj us h => e.db j us (dpo j us h).2, e.tab⟩
 ·rcases get_set h with ⟨rfl, z, l⟩ | ⟨ne, h⟩
  ·cases z
   exact ⟨v, aeR (by rw [<-e.len]; exact l), r⟩
  ·obtain ⟨w, h1, h2⟩ := e.sh j u h
   exact ⟨w, by rw [List.getElem?_set_ne (Ne.symm ne)]; exact h1, h2⟩
 ·rcases get_set h with ⟨rfl, z, l⟩ | ⟨ne, h⟩
  ·cases z
  ·obtain ⟨a, xs, h1, h2⟩ := e.ow j ts h
   exact ⟨a, xs, by rw [List.getElem?_set_ne (Ne.symm ne)]; exact h1, h2⟩
 ·rcases get_set h with ⟨rfl, z, l⟩ | ⟨ne, h⟩
  ·cases z
  ·obtain ⟨a, xs, h1, h2⟩ := e.rf j ts h
   exact ⟨a, xs, by rw [List.getElem?_set_ne (Ne.symm ne)]; exact h1, h2⟩
 ·obtain ⟨n1, m1⟩ := mu j h1
  obtain ⟨n2, m2⟩ := mu k h2
  rw [List.getElem?_set_ne (Ne.symm n1)] at q1
  rw [List.getElem?_set_ne (Ne.symm n2)] at q2
  exact e.dis j k a m1 m2 q1 q2
 ·obtain ⟨ne, h⟩ := dpo j us h
  obtain ⟨c, ys, h1, d⟩ := e.dp j us h
  exact ⟨c, ys, by rw [List.getElem?_set_ne (Ne.symm ne)]; exact h1, d⟩
theorem EOk.addr {W : Addr -> Prop} {ρ : En} {σ : St} {H : Hp} {i : Nat} {a : Addr} (e : EOk t W ρ σ H) (m : Mu ρ i) (q : σ[i]? = some (some (.ref a))) : W a := by
 obtain ⟨ts, h | h⟩ := m
 ·obtain ⟨b, xs, h1, h2, _⟩ := e.ow i ts h
  rw [q] at h1
  cases h1
  exact h2
 ·obtain ⟨b, xs, h1, h2, _⟩ := e.rf i ts h
  rw [q] at h1
  cases h1
  exact h2
theorem EOk.arV {W : Addr -> Prop} {ρ : En} {σ : St} {H : Hp} {i : Nat} {a : Addr} {xs : List V} {ts : List Tr} (e0 : EOk t W ρ σ H) (nw : ¬ W a) (e : EOh t W a ρ σ H) (h0 : t.H0 a = none) (hB : t.B a = none) (ha : H a = some (.lst xs)) (r : aaO t.K (off a (aaT W H)) xs ts) :
  EOk t (λb => W b \/ b = a) (ρ.set i (.ow ts)) (σ.set i (some (.ref a))) H := by
 have mu : ∀ j, Mu (ρ.set i (.ow ts)) j -> j = i \/ (j ≠ i /\ Mu ρ j) := λj h => by
  obtain ⟨ts, h | h⟩ := h <;> rcases get_set h with ⟨rfl, z, _⟩ | ⟨ne, h⟩
  ·exact .inl rfl
  ·exact .inr ⟨ne, ts, .inl h⟩
  ·exact .inl rfl
  ·exact .inr ⟨ne, ts, .inr h⟩
 have m : Same (off a (aaT W H)) (aaT (λb => W b \/ b = a) H) := λb o q => by
  obtain ⟨ne, q⟩ := adJ q
  obtain ⟨n, q⟩ := abe q
  rw [aaM]
  ·exact q
  ·rintro (z | z)
   ·exact n z
   ·exact ne z
 have dpo : ∀ j us, (ρ.set i (.ow ts))[j]? = some (.dp us) -> j ≠ i /\ ρ[j]? = some (.dp us) := λj us h => by
  rcases get_set h with ⟨rfl, z, _⟩ | ⟨ne, h⟩
  ·cases z
  ·exact ⟨ne, h⟩
 obtain ⟨F, e, na⟩ := e
 refine ⟨F, by rw [List.length_set, List.length_set]; exact e.len, e.zw, e.z0, e.wl, e.f0, e.n0, λj u h => ?_, λj us h => ?_, λj us h => ?_, λj k c h1 h2 q1 q2 => ?_, e.pn, λj c m q => ?_,
  λj us h => ?_, λj k us ws n h1 h2 => e.dd j k us ws n (dpo j us h1).2 (dpo k ws h2).2, λj k us c h1 m q => ?_, λj us h => e.db j us (dpo j us h).2, e.tab⟩
 ·rcases get_set h with ⟨rfl, z, l⟩ | ⟨ne, h⟩
  ·cases z
  ·obtain ⟨w, h1, h2⟩ := e.sh j u h
   exact ⟨w, by rw [List.getElem?_set_ne (Ne.symm ne)]; exact h1, h2⟩
 ·rcases get_set h with ⟨rfl, z, l⟩ | ⟨ne, h⟩
  ·cases z
   exact ⟨a, xs, aeR (by rw [<-e.len]; exact l), .inr rfl, h0, ha, r.mono m⟩
  ·obtain ⟨c, ys, h1, h2⟩ := e.ow j us h
   exact ⟨c, ys, by rw [List.getElem?_set_ne (Ne.symm ne)]; exact h1, h2⟩
 ·rcases get_set h with ⟨rfl, z, l⟩ | ⟨ne, h⟩
  ·cases z
  ·obtain ⟨c, ys, h1, h2⟩ := e.rf j us h
   exact ⟨c, ys, by rw [List.getElem?_set_ne (Ne.symm ne)]; exact h1, h2⟩
 ·have old : ∀ j, j ≠ i -> Mu ρ j -> (σ.set i (some (.ref a)))[j]? ≠ some (some (.ref a)) := λj ne m q => by
   rw [List.getElem?_set_ne (Ne.symm ne)] at q
   exact nw (e0.addr m q)
  have self : ∀ c, (σ.set i (some (V.ref a)))[i]? = some (some (.ref c)) -> c = a := λc q => by
   rcases get_set q with ⟨_, z, _⟩ | ⟨ne, _⟩
   ·cases z; rfl
   ·exact absurd rfl ne
  rcases mu j h1 with rfl | ⟨n1, m1⟩ <;> rcases mu k h2 with rfl | ⟨n2, m2⟩
  ·rfl
  ·have := self c q1
   subst this
   exact (old k n2 m2 q2).elim
  ·have := self c q2
   subst this
   exact (old j n1 m1 q1).elim
  ·rw [List.getElem?_set_ne (Ne.symm n1)] at q1
   rw [List.getElem?_set_ne (Ne.symm n2)] at q2
   exact e.dis j k c m1 m2 q1 q2
 ·rcases mu j m with rfl | ⟨n1, m1⟩
  ·rcases get_set q with ⟨_, z, _⟩ | ⟨ne, _⟩
   ·cases z; exact hB
   ·exact absurd rfl ne
  ·rw [List.getElem?_set_ne (Ne.symm n1)] at q
   exact e.pd j c m1 q
 ·obtain ⟨ne, h⟩ := dpo j us h
  obtain ⟨c, ys, h1, d⟩ := e.dp j us h
  exact ⟨c, ys, by rw [List.getElem?_set_ne (Ne.symm ne)]; exact h1, d⟩
 ·obtain ⟨nj, hj⟩ := dpo j us h1
  rcases mu k m with rfl | ⟨n2, m2⟩
  ·rcases get_set q with ⟨_, z, _⟩ | ⟨nk, _⟩
   ·cases z
    exact na j us hj
   ·exact absurd rfl nk
  ·rw [List.getElem?_set_ne (Ne.symm n2)] at q
   exact e.dm j k us c hj m2 q
theorem EOk.noB {W : Addr -> Prop} {ρ : En} {σ : St} {H : Hp} {a : Addr} (e : EOk t W ρ σ H) (n : H a = none) : t.B a = none := by
 cases q : t.B a with
 | none => rfl
 | some o => rw [e.pn a o q] at n; cases n
noncomputable abbrev GF := Tr -> En -> Rs En
noncomputable def SG (t : Tx) (g : TG) (f : GF) (js : List Nat) : Prop := ∀ W ρ σ H v T Q, EOk t W ρ σ H -> Rep t.K (aaT W H) v T -> (f T ρ).post (λ_ => False) (λρ' => ∀ σ', EOk t W ρ' σ' H -> (∀ k, k ∉ js -> σ'[k]? = σ[k]?) -> Q σ' H) -> g v σ H Q
noncomputable def gN (i : Nat) : GF := λT ρ => .ok (ρ.set i (.sh T))
theorem aap (i : Nat) : SG t (acS i) (gN i) [i] := λW ρ σ H v T Q e r h => h _ (e.ajW r) λk n => List.getElem?_set_ne (λz => n (by rw [z]; exact List.mem_singleton.mpr rfl))
noncomputable abbrev GFs := List Tr -> En -> Rs En
noncomputable def SGs (t : Tx) (g : TGs) (f : GFs) (js : List Nat) : Prop := ∀ W ρ σ H vs Ts Q, EOk t W ρ σ H -> aaO t.K (aaT W H) vs Ts -> (f Ts ρ).post (λ_ => False) (λρ' => ∀ σ', EOk t W ρ' σ' H -> (∀ k, k ∉ js -> σ'[k]? = σ[k]?) -> Q σ' H) -> g vs σ H Q
noncomputable def ab1 : GFs := λTs ρ => match Ts with
 | [] => .ok ρ
 | _ => .bad
noncomputable def aaA (f : GF) (g : GFs) : GFs := λTs ρ => match Ts with
 | T :: r => (f T ρ).bind λρ' => g r ρ'
 | [] => .bad
theorem adx : SGs t aqH ab1 [] := λW ρ σ H vs Ts Q e r h => by
 cases r with
 | nil => exact ⟨rfl, h σ e λ_ _ => rfl⟩
 | cons _ _ => exact h.elim
theorem abq {g : TG} {u : TGs} {f : GF} {fs : GFs} {js ks : List Nat} (h1 : SG t g f js) (h2 : SGs t u fs ks) : SGs t (agz g u) (aaA f fs) (js ++ ks) := λW ρ σ H vs Ts Q e r h => by
 cases r with
 | nil => exact h.elim
 | @cons x T xs Ts r1 r2 =>
  refine ⟨x, xs, rfl, h1 W ρ σ H x T _ e r1 (Rs.aag (Rs.aae h) λρ' h σ' e' n1 => ?_)⟩
  refine h2 W ρ' σ' H xs Ts _ e' r2 (Rs.aag h λρ2 h σ2 e2 n2 => h σ2 e2 λk n => ?_)
  rw [List.mem_append, not_or] at n
  rw [n2 k n.2, n1 k n.1]
noncomputable def gT (n : Nat) (f : GFs) : GF := λT ρ => match T with
 | .tup Ts => if Ts.length = n then f Ts ρ else .bad
 | _ => .bad
theorem afb {K : PySem.W.Frag} (hK : t.K = nlK K) {n : Nat} {u : TGs} {fs : GFs} {js : List Nat} (h2 : SGs t u fs js) : SG t (aqI K n u) (gT n fs) js := λW ρ σ H v T Q e r h => by
 cases T <;> try exact h.elim
 rename_i Ts
 dsimp only [gT] at h
 split at h
 ·rename_i c
  cases r with
  | @tup a xs _ q r =>
   have q' := (abf W H).aqJ q
   rw [hK] at q'
   exact ⟨a, xs, rfl, q'.toK, by rw [r.length]; exact c, h2 W ρ σ H xs Ts Q e r h⟩
 ·exact h.elim
noncomputable def abG (f : EF) (g : GF) : SF := λρ => (f ρ).bind λp => match p.1 with
 | .v T _ => (g T p.2).bind λρ' => .ok (.nx, ρ')
 | .s _ => .bad
theorem aaI {te : TE} {g : TG} {f : EF} {gf : GF} {js : List Nat} (h1 : SE t te f) (h2 : SG t g gf js) (ng : ∀ T ρ c, gf T ρ ≠ .ex c) : SS t (am1 te g) (abG f gf) := λW ρ σ H D e h => by
 refine h1 W ρ σ H _ e (Rs.aag (Rs.aae h) λp h v H1 e1 s1 v1 => ?_)
 obtain ⟨r, ρ1⟩ := p
 cases r with
 | s i => exact h.elim
 | v T fr => exact h2 W ρ1 σ H1 v T _ e1 (v1.1.rep e.wn) (Rs.aag (aiN (Rs.aae h) (ng T ρ1)) λρ' h σ' e' _ => h W σ' H1 e' s1.nxt)
noncomputable def akF (i : Nat) (f : EF) : SF := λρ => (f ρ).bind λp => match p.1 with
 | .v (.lst ts) true => .ok (.nx, p.2.set i (.ow ts))
 | _ => .bad
theorem aic {te : TE} {f : EF} (i : Nat) (h1 : SE t te f) : SS t (am1 te (acS i)) (akF i f) := λW ρ σ H D e h => by
 refine h1 W ρ σ H _ e (Rs.aag (Rs.aae h) λp h v H1 e1 s1 v1 => ?_)
 obtain ⟨r, ρ1⟩ := p
 dsimp only at h
 split at h
 ·rename_i ts
  obtain ⟨⟨a, xs, us, rfl, z, n, q, rr⟩, he⟩ := v1
  cases z
  have nw : ¬ W a := λw => e.wn a w n
  refine h _ _ H1 (e1.arV nw (he _ a rfl rfl) (e.n0 a n) (e.noB n) q rr) λb o nb hb => ⟨?_, s1.keep b o nb hb⟩
  rintro (z | rfl)
  ·exact nb z
  ·rw [n] at hb; cases hb
 ·exact h.elim
noncomputable def ahl (f : EF) : SF := λρ => (f ρ).bind λp => .ok (.nx, p.2)
theorem al2 {te : TE} {f : EF} (h1 : SE t te f) : SS t (apa te) (ahl f) := λW ρ σ H D e h =>
 h1 W ρ σ H _ e (Rs.aag (Rs.aae h) λp h v H1 e1 s1 v1 => h W σ H1 e1 s1.nxt)
noncomputable def abO (f : EF) : SF := λρ => (f ρ).bind λp => match p.1 with
 | .v T fr => .ok (.rt T fr, p.2)
 | .s i => match p.2[i]? with
  | some (.ow ts) => .ok (.rt (.lst ts) true, p.2)
  | _ => .bad
theorem ajX {W : Addr -> Prop} {ρ : En} {σ : St} {H : Hp} (e : EOk t W ρ σ H) : Same (aaT W H) (aaT t.Z H) := ab9 (λb _ _ z => e.zw b z) λ_ _ _ h => h
theorem aaG {te : TE} {f : EF} (h1 : SE t te f) : SS t (avM te) (abO f) := λW ρ σ H D e h => by
 refine h1 W ρ σ H _ e (Rs.aag (Rs.aae h) λp h v H1 e1 s1 v1 => ?_)
 obtain ⟨r, ρ1⟩ := p
 cases r with
 | v T fr =>
  refine h v W σ H1 e1 ?_
  cases fr with
  | false => exact Rep.mono (ajX e1) v1.1
  | true =>
   obtain ⟨a, xs, us, rfl, z, n, q, rr⟩ := v1.1
   refine ⟨a, xs, us, rfl, z, e.n0 a n, q, rr.mono λb o q => ?_⟩
   obtain ⟨ne, q⟩ := adJ q
   rw [off_ne ne]
   exact ajX e1 b o q
 | s i =>
  dsimp only at h
  split at h
  ·rename_i ts q
   obtain ⟨a, xs, h1, h2, h3, h4, h5⟩ := e1.ow i ts q
   have ev : σ[i]? = some (some v) := v1.1
   rw [ev] at h1
   cases h1
   refine h _ W σ H1 e1 ⟨a, xs, ts, rfl, rfl, h3, h4, h5.mono λb o q => ?_⟩
   have ne : b ≠ a := λz => by subst z; rw [ahh h2] at q; cases q
   rw [off_ne ne]
   exact ajX e1 b o q
  ·exact h.elim
noncomputable def sIf (c : BF) (f g : SF) : SF := λρ => (c ρ).bind λp => if p.1 = true then f p.2 else g p.2
theorem acf {tc : TT} {ta tb : TS} {c : BF} {f g : SF} (hc : ST t tc c) (ha : SS t ta f) (hb : SS t tb g) : SS t (avN tc ta tb) (sIf c f g) := λW ρ σ H D e h => by
 refine hc W ρ σ H _ e (Rs.aag (Rs.aae h) λp h H1 e1 s1 => ?_)
 split at h
 ·rename_i d
  refine if_pos d ▸ ha W p.2 σ H1 D e1 (Rs.aag h λq h => h.back s1.nxt)
 ·rename_i d
  refine if_neg d ▸ hb W p.2 σ H1 D e1 (Rs.aag h λq h => h.back s1.nxt)
noncomputable def frz (i : Nat) (ρ : En) : En := match ρ[i]? with
 | some (.ow ts) => ρ.set i (.sh (.lst ts))
 | _ => ρ
end
end L2
end
section
namespace L2
open PySem PySem.Spec PyProof.Rows
section
variable {t : Tx}
noncomputable def awQ (i : Nat) (f : SF) : SF := λρ => f (frz i ρ)
noncomputable def af3 (c : BF) (b : SF) : Nat -> SF
 | 0 => λ_ => .bad
 | n + 1 => λρ => (c ρ).bind λp => if p.1 = true then (b p.2).bind λq => (match q.1 with
  | .nx => af3 c b n q.2
  | .ct => af3 c b n q.2
  | .bk => .ok (.nx, q.2)
  | .rt T fr => .ok (.rt T fr, q.2)) else .ok (.nx, p.2)
noncomputable def agZ (fu : En -> Nat) (c : BF) (b : SF) : SF := λρ => af3 c b (fu ρ) ρ
theorem ajY {tc : TT} {tb : TS} {c : BF} {b : SF} (fu : En -> Nat) (hc : ST t tc c) (hb : SS t tb b) : SS t (aos tc tb) (agZ fu c b) := λW ρ σ H D e h => by
 refine ⟨λm σ' H' => ∃ ρ' W', EOk t W' ρ' σ' H' /\ (af3 c b m ρ').post t.EX (af2 t W' H' D), ⟨fu ρ, ρ, W, e, h⟩, ?_⟩
 rintro m σ1 H1 ⟨ρ1, W1, e1, h1⟩
 cases m with
 | zero => exact h1.elim
 | succ n =>
  refine hc W1 ρ1 σ1 H1 _ e1 (Rs.aag (Rs.aae h1) λp h H2 e2 s2 => ?_)
  split at h
  ·rename_i d
   rw [if_pos d]
   refine ⟨λσ' H' => ∃ ρ' W', EOk t W' ρ' σ' H' /\ (af3 c b n ρ').post t.EX (af2 t W' H' D), λσ' H' q => ⟨n, Nat.lt_succ_self n, q⟩, ?_⟩
   refine hb W1 p.2 σ1 H2 _ e2 (Rs.aag (Rs.aae h) λq h => ?_)
   obtain ⟨fl, ρ3⟩ := q
   cases fl with
   | nx => exact λW3 σ3 H3 e3 n3 => ⟨ρ3, W3, e3, Rs.aag h λr h => h.back (s2.nxt.trans n3)⟩
   | ct => exact λW3 σ3 H3 e3 n3 => ⟨ρ3, W3, e3, Rs.aag h λr h => h.back (s2.nxt.trans n3)⟩
   | bk => exact λW3 σ3 H3 e3 n3 => h W3 σ3 H3 e3 (s2.nxt.trans n3)
   | rt T fr => exact h
  ·rename_i d
   rw [if_neg d]
   exact h W1 σ1 H2 e2 s2.nxt
noncomputable def aqL (K : PySem.W.Frag) (W : Addr -> Prop) (H : Hp) (J : It) (us : List Tr) : Prop := ∀ W' H', Same (aaT W H) (aaT W' H') -> (∀ b, W' b -> Lt H' b) -> ∀ i, (i = us.length -> J.stop i H') /\ ∀ u, us[i]? = some u -> J.go i H' /\ ∀ x H'', J.yld i H' x H'' -> Same H' H'' /\ Rep K (aaT W' H'') x u
noncomputable abbrev IF := En -> Rs (List Tr × En)
noncomputable def SI (t : Tx) (wi : TI) (f : IF) : Prop := ∀ W ρ σ H R, EOk t W ρ σ H -> (f ρ).post t.EX (λp => ∀ J H', EOk t W p.2 σ H' -> Stp W H H' -> aqL t.K W H' J p.1 -> R J H') -> wi σ H R
noncomputable def acj (g : GF) (b : SF) : List Tr -> SF
 | [] => λρ => .ok (.nx, ρ)
 | u :: us => λρ => (g u ρ).bind λρ1 => (b ρ1).bind λq => (match q.1 with
  | .nx => acj g b us q.2
  | .ct => acj g b us q.2
  | .bk => .ok (.nx, q.2)
  | .rt T fr => .ok (.rt T fr, q.2))
noncomputable def agx (fi : IF) (g : GF) (b : SF) : SF := λρ => (fi ρ).bind λp => acj g b p.1 p.2
theorem ag0 {wi : TI} {g : TG} {tb : TS} {fi : IF} {gf : GF} {b : SF} {js : List Nat} (hi : SI t wi fi) (hg : SG t g gf js) (ng : ∀ T ρ c, gf T ρ ≠ .ex c) (hb : SS t tb b) : SS t (avS wi g tb) (agx fi gf b) := λW ρ σ H D e h => by
 refine hi W ρ σ H _ e (Rs.aag (Rs.aae h) λp h J H1 e1 s1 it => ?_)
 obtain ⟨us, ρ1⟩ := p
 dsimp only at h it e1
 refine ⟨λi m σ' H' => m = us.length - i /\ i <= us.length /\ ∃ ρ' W', EOk t W' ρ' σ' H' /\ Nxt W H1 W' H' /\ (acj gf b (us.drop i) ρ').post t.EX (af2 t W' H' D), ⟨us.length, by simp, Nat.zero_le _, ρ1, W, e1, Nxt.refl _ _, by rw [List.drop_zero]; exact Rs.aag h λr h => h.back s1.nxt⟩, ?_⟩
 rintro i m σ2 H2 ⟨rfl, hi, ρ2, W2, e2, n2, h2⟩
 have q := it W2 H2 n2.same e2.wl i
 by_cases hlt : i < us.length
 ·rw [List.drop_eq_getElem_cons hlt] at h2
  obtain ⟨go, y⟩ := q.2 us[i] (by simp [hlt])
  refine .inr ⟨go, λσ' H' => ∃ ρ' W', EOk t W' ρ' σ' H' /\ Nxt W H1 W' H' /\ (acj gf b (us.drop (i + 1)) ρ').post t.EX (af2 t W' H' D), λσ' H' z => ⟨us.length - (i + 1), by omega, rfl, hlt, z⟩, λx H3 yl => ?_⟩
  obtain ⟨s3, r3⟩ := y x H3 yl
  have e3 := e2.grow s3
  have n3 : Nxt W H1 W2 H3 := n2.trans (Stp.of s3).nxt
  refine hg W2 ρ2 σ2 H3 x us[i] _ e3 r3 (Rs.aag (aiN (Rs.aae h2) (ng _ _)) λρ4 h σ4 e4 _ => ?_)
  refine hb W2 ρ4 σ4 H3 _ e4 (Rs.aag (Rs.aae h) λr h => ?_)
  obtain ⟨fl, ρ5⟩ := r
  cases fl with
  | nx => exact λW5 σ5 H5 e5 n5 => ⟨ρ5, W5, e5, n3.trans n5, Rs.aag h λr h => h.back ((Stp.of s3).nxt.trans n5)⟩
  | ct => exact λW5 σ5 H5 e5 n5 => ⟨ρ5, W5, e5, n3.trans n5, Rs.aag h λr h => h.back ((Stp.of s3).nxt.trans n5)⟩
  | bk => exact λW5 σ5 H5 e5 n5 => h W5 σ5 H5 e5 ((Stp.of s3).nxt.trans n5)
  | rt T fr => exact h
 ·have z : i = us.length := by omega
  subst z
  rw [List.drop_length] at h2
  exact .inl ⟨q.1 rfl, h2 W2 σ2 H2 e2 (Nxt.refl _ _)⟩
noncomputable def iSq (K : PySem.W.Frag) (tl : TE) : TI := λσ H R => aq1 K tl σ H R \/ avR K tl σ H R
theorem afc {X : Cx} {tg l : Expr} {tl : TE} (hl : PE X l tl) : PI X tg l (iSq X.K tl) := λpins s σ H R I h => by
 rcases h with h | h
 ·exact ape hl pins s σ H R I h
 ·exact aq2 hl pins s σ H R I h
noncomputable def adU : Rv -> Rs (List Tr × Bool)
 | .v (.lst ts) _ => .ok (ts, true)
 | .v (.tup ts) _ => .ok (ts, false)
 | _ => .bad
noncomputable def fSq (f : EF) : IF := λρ => (f ρ).bind λp => (adU p.1).bind λz => .ok (z.1, p.2)
theorem apK {K : PySem.W.Frag} {W : Addr -> Prop} {H : Hp} {a : Addr} {xs : List V} {us : List Tr} (q : SqL (nlK K) (aaT W H) a xs) (r : aaO (nlK K) (aaT W H) xs us) : aqL (nlK K) W H (Itl K a) us := λW' H' m hw i => by
 have q' : SqL K H' a xs := ((abf W' H').seq (m.seq q)).toK
 refine ⟨λz => ⟨xs, q', by rw [r.length]; omega⟩, λu hu => ?_⟩
 obtain ⟨x, hx, rx⟩ := r.aoB hu
 refine ⟨⟨xs, x, q', hx⟩, λy H'' yl => ?_⟩
 obtain ⟨rfl, z⟩ := yl
 have := z xs q'
 rw [hx] at this
 cases this
 exact ⟨Same.refl _, rx.mono m⟩
theorem arW {K : PySem.W.Frag} {W : Addr -> Prop} {H : Hp} {a : Addr} {xs : List V} {us : List Tr} (q : SqT (nlK K) (aaT W H) a xs) (r : aaO (nlK K) (aaT W H) xs us) : aqL (nlK K) W H (Itt K a) us := λW' H' m hw i => by
 have q' : SqT K H' a xs := ((abf W' H').aqJ (m.aqJ q)).toK
 refine ⟨λz => ⟨xs, q', by rw [r.length]; omega⟩, λu hu => ?_⟩
 obtain ⟨x, hx, rx⟩ := r.aoB hu
 refine ⟨⟨xs, x, q', hx⟩, λy H'' yl => ?_⟩
 obtain ⟨rfl, z⟩ := yl
 have := z xs q'
 rw [hx] at this
 cases this
 exact ⟨Same.refl _, rx.mono m⟩
theorem afd {K : PySem.W.Frag} (hK : t.K = nlK K) {tl : TE} {f : EF} (h1 : SE t tl f) : SI t (iSq K tl) (fSq f) := λW ρ σ H R e h => by
 have h := Rs.aae h
 have key : ∀ b : Bool, (f ρ).post t.EX (λp => ∃ us, adU p.1 = .ok (us, b) /\ ∀ J H', EOk t W p.2 σ H' -> Stp W H H' -> aqL t.K W H' J us -> R J H') -> iSq K tl σ H R := λb h => by
  cases b with
  | true =>
   refine .inl (h1 W ρ σ H _ e (Rs.aag h λp h v H1 e1 s1 v1 => ?_))
   obtain ⟨us, q, h⟩ := h
   obtain ⟨r, ρ1⟩ := p
   cases r with
   | s i => cases q
   | v T fr =>
    cases T <;> cases q
    have rr := v1.1.rep e.wn
    cases rr with
    | @lst a xs _ q r =>
     refine ⟨a, rfl, ⟨xs, ?_⟩, h _ H1 e1 s1 ?_⟩
     ·rw [hK] at q
      exact ((abf _ _).seq q).toK
     ·rw [hK] at q r ⊢
      exact apK q r
  | false =>
   refine .inr (h1 W ρ σ H _ e (Rs.aag h λp h v H1 e1 s1 v1 => ?_))
   obtain ⟨us, q, h⟩ := h
   obtain ⟨r, ρ1⟩ := p
   cases r with
   | s i => cases q
   | v T fr =>
    cases T <;> cases q
    have rr := v1.1.rep e.wn
    cases rr with
    | @tup a xs _ q r =>
     refine ⟨a, rfl, ⟨xs, ?_⟩, h _ H1 e1 s1 ?_⟩
     ·rw [hK] at q
      exact ((abf _ _).aqJ q).toK
     ·rw [hK] at q r ⊢
      exact arW q r
 cases k : f ρ with
 | bad => rw [k] at h; exact h.elim
 | ex c =>
  refine key true ?_
  rw [k] at h ⊢
  exact h
 | ok p =>
  rw [k] at h
  have h : ((adU p.1).bind _).post _ _ := h
  cases k2 : adU p.1 with
  | bad => rw [k2] at h; exact h.elim
  | ex c =>
   exfalso
   revert k2
   unfold adU
   split <;> (intro z; cases z)
  | ok z =>
   rw [k2] at h
   refine key z.2 ?_
   rw [k]
   exact ⟨z.1, k2, h⟩
noncomputable def upTo (lo : Int) : Nat -> List Tr
 | 0 => []
 | n + 1 => .int lo :: upTo (lo + 1) n
theorem anq (lo : Int) : ∀ n, (upTo lo n).length = n := λn => by
 induction n generalizing lo with
 | zero => rfl
 | succ n ih => rw [upTo, List.length_cons, ih]
theorem anr {lo : Int} {n i : Nat} {u : Tr} (h : (upTo lo n)[i]? = some u) : i < n /\ u = .int (lo + i) := by
 induction n generalizing lo i with
 | zero => simp [upTo] at h
 | succ n ih =>
  rw [upTo] at h
  cases i with
  | zero =>
   simp at h
   subst h
   exact ⟨Nat.zero_lt_succ _, by simp⟩
  | succ i =>
   obtain ⟨h1, h2⟩ := ih (lo := lo + 1) (i := i) (by simpa using h)
   refine ⟨Nat.succ_lt_succ h1, h2.trans ?_⟩
   congr 1
   omega
theorem ant {K : PySem.W.Frag} {W : Addr -> Prop} {H : Hp} (lo : Int) (n : Nat) : aqL K W H (Itr lo n) (upTo lo n) := λW' H' m hw i => by
 refine ⟨λz => ?_, λu hu => ?_⟩
 ·rw [anq] at z
  exact Nat.le_of_eq z.symm
 ·obtain ⟨h1, rfl⟩ := anr hu
  refine ⟨h1, λx H'' yl => ?_⟩
  obtain ⟨rfl, rfl⟩ := yl
  exact ⟨Same.refl _, .int _⟩
noncomputable def okR (i : Int) : Bool := decide (-1000000 <= i) && decide (i <= 1000000)
noncomputable def akG (fa : AF) : IF := λρ => (fa ρ).bind λp => (drs p.2 p.1).bind λas => match as with
 | [.int j] => if okR j = true then .ok (upTo 0 j.toNat, p.2) else .bad
 | _ => .bad
theorem ajZ {ta : TA} {fa : AF} (ha : SA t ta fa) : SI t (apf ta) (akG fa) := λW ρ σ H R e h => by
 refine ha W ρ σ H _ e (Rs.aag (Rs.aae h) λp h vs H1 e1 s1 v1 => ?_)
 obtain ⟨as, k1, h⟩ := abC (Rs.aae h) (aeP _ _)
 have r := aib e1 e.wn v1 k1
 split at h
 ·rename_i j
  split at h
  ·rename_i c
   unfold okR at c
   rw [Bool.and_eq_true] at c
   have c1 := of_decide_eq_true c.1
   have c2 := of_decide_eq_true c.2
   cases r with
   | cons h1 r1 =>
    cases r1
    rw [h1.int]
    exact ⟨j, rfl, by omega, by omega, h _ H1 e1 s1 (ant 0 _)⟩
  ·exact h.elim
 ·exact h.elim
noncomputable def auw (fa : AF) : IF := λρ => (fa ρ).bind λp => (drs p.2 p.1).bind λas => match as with
 | [.int i, .int j] => if okR i = true /\ okR j = true then .ok (upTo i (j - i).toNat, p.2) else .bad
 | _ => .bad
noncomputable def con (ρ : En) (i : Nat) : Rs (List Tr) := match ρ[i]? with
 | some (.ow ts) => .ok ts
 | some (.rf ts) => .ok ts
 | _ => .bad
theorem af4 (ρ : En) (i : Nat) (c : Str) : con ρ i ≠ .ex c := by
 unfold con
 split <;> (intro z; cases z)
noncomputable def abI (i : Nat) (us : List Tr) (ρ : En) : En := match ρ[i]? with
 | some (.ow _) => ρ.set i (.ow us)
 | some (.rf _) => ρ.set i (.rf us)
 | _ => ρ
theorem EOk.con {W : Addr -> Prop} {ρ : En} {σ : St} {H : Hp} {i : Nat} {ts : List Tr} (e : EOk t W ρ σ H) (q : con ρ i = .ok ts) : Mu ρ i /\ ∃ a xs, σ[i]? = some (some (.ref a)) /\ W a /\ H a = some (.lst xs) /\ aaO t.K (aaT W H) xs ts /\ (∀ o, t.H0 a = some o -> t.R a) := by
 unfold L2.con at q
 split at q
 ·rename_i us h
  cases q
  obtain ⟨a, xs, h1, h2, h3, h4, h5⟩ := e.ow i ts h
  exact ⟨⟨ts, .inl h⟩, a, xs, h1, h2, h4, h5, λo z => by rw [h3] at z; cases z⟩
 ·rename_i us h
  cases q
  obtain ⟨a, xs, h1, h2, h3, h4, h5⟩ := e.rf i ts h
  exact ⟨⟨ts, .inr h⟩, a, xs, h1, h2, h4, h5, λo z => h3⟩
 ·cases q
theorem aeS {ρ : En} {i j : Nat} {us : List Tr} (h : Mu (abI i us ρ) j) : Mu ρ j := by
 unfold abI at h
 split at h
 ·rename_i ws q
  obtain ⟨ts, h | h⟩ := h <;> rcases get_set h with ⟨rfl, z, _⟩ | ⟨ne, h⟩
  ·exact ⟨_, .inl q⟩
  ·exact ⟨_, .inl h⟩
  ·exact ⟨_, .inl q⟩
  ·exact ⟨_, .inr h⟩
 ·rename_i ws q
  obtain ⟨ts, h | h⟩ := h <;> rcases get_set h with ⟨rfl, z, _⟩ | ⟨ne, h⟩
  ·exact ⟨_, .inr q⟩
  ·exact ⟨_, .inl h⟩
  ·exact ⟨_, .inr q⟩
  ·exact ⟨_, .inr h⟩
 ·exact h
theorem ahm {ρ : En} {i : Nat} {us : List Tr} : (abI i us ρ).length = ρ.length := by
 unfold abI
 split
 ·rw [List.length_set]
 ·rw [List.length_set]
 ·rfl
theorem ac6 {ρ : En} {i j : Nat} {us : List Tr} {s : Sl} (h : (abI i us ρ)[j]? = some s) : (j ≠ i /\ ρ[j]? = some s) \/ (j = i /\ ((∃ ts, ρ[i]? = some (.ow ts) /\ s = .ow us) \/ (∃ ts, ρ[i]? = some (.rf ts) /\ s = .rf us) \/ (¬ Mu ρ i /\ ρ[i]? = some s))) := by
 unfold abI at h
 split at h
 ·rename_i ws q
  rcases get_set h with ⟨rfl, z, _⟩ | ⟨ne, h⟩
  ·exact .inr ⟨rfl, .inl ⟨ws, q, z⟩⟩
  ·exact .inl ⟨ne, h⟩
 ·rename_i ws q
  rcases get_set h with ⟨rfl, z, _⟩ | ⟨ne, h⟩
  ·exact .inr ⟨rfl, .inr (.inl ⟨ws, q, z⟩)⟩
  ·exact .inl ⟨ne, h⟩
 ·rename_i n1 n2
  by_cases e : j = i
  ·subst e
   refine .inr ⟨rfl, .inr (.inr ⟨?_, h⟩)⟩
   rintro ⟨ts, z | z⟩
   ·exact n1 ts z
   ·exact n2 ts z
  ·exact .inl ⟨e, h⟩
theorem ady {ρ : En} {i j : Nat} {us ws : List Tr} (h : (abI i us ρ)[j]? = some (.dp ws)) : ρ[j]? = some (.dp ws) := by
 rcases ac6 h with ⟨_, h⟩ | ⟨rfl, ⟨_, _, z⟩ | ⟨_, _, z⟩ | ⟨_, h⟩⟩
 ·exact h
 ·cases z
 ·cases z
 ·exact h
theorem DR.lst {K : PySem.W.Frag} {G H : Hp} : ∀ {xs : List V} {ts : List Tr} {bs : List Addr}, DR K G H xs ts bs -> ∀ b ∈ bs, ∃ ys, H b = some (.lst ys)
 | _, _, _, .nil, _, h => by cases h
 | _, _, _, .cl _ _ r, b, h => DR.lst r b h
 | _, _, _, .rw q _ r, b, h => by
  rcases List.mem_cons.mp h with rfl | h
  ·exact ⟨_, q⟩
  ·exact DR.lst r b h
theorem aoy.lst {t : Tx} {W : Addr -> Prop} {H : Hp} {a : Addr} {xs : List V} {ts : List Tr} {fp : List Addr} (d : aoy t W H a xs ts fp) : ∀ b ∈ fp, ∃ ys, H b = some (.lst ys) := λb hb => by
 obtain ⟨bs, e, _, _, ha, r⟩ := d
 rw [e] at hb
 rcases List.mem_cons.mp hb with rfl | hb
 ·exact ⟨_, ha⟩
 ·exact r.lst b hb
theorem aoy.nt {t : Tx} {K : PySem.W.Frag} {W : Addr -> Prop} {H : Hp} {a : Addr} {xs : List V} {ts : List Tr} {fp : List Addr} (d : aoy t W H a xs ts fp) (tb : TbS K H) {b : Addr} (z : Tb K b) (hb : b ∈ fp) : False := by
 obtain ⟨ys, e⟩ := d.lst b hb
 exact tb.ne z e rfl
theorem EOk.arX {W : Addr -> Prop} {ρ : En} {σ : St} {H : Hp} {i : Nat} {a : Addr} (e : EOk t W ρ σ H) (m : Mu ρ i) (q : σ[i]? = some (some (.ref a))) : ∃ xs, H a = some (.lst xs) := by
 obtain ⟨ts, h | h⟩ := m
 ·obtain ⟨b, xs, h1, _, _, h4, _⟩ := e.ow i ts h
  rw [q] at h1
  cases h1
  exact ⟨xs, h4⟩
 ·obtain ⟨b, xs, h1, _, _, h4, _⟩ := e.rf i ts h
  rw [q] at h1
  cases h1
  exact ⟨xs, h4⟩
theorem EOF.move {W W' : Addr -> Prop} {ρ : En} {σ : St} {H H' : Hp} {i : Nat} {a : Addr} {xs : List V} {us : List Tr} {F : Nat -> List Addr} (e : EOF t W ρ σ H F) (mi : Mu ρ i) (hi : σ[i]? = some (some (.ref a))) (m : Same (aaT W H) (aaT W' H')) (sub : ∀ b, W b -> W' b) (wl : ∀ b, W' b -> Lt H' b)
  (tb : TbS t.K H') (fr : ∀ b o, H b = some o -> b ≠ a -> ¬ Tb t.K b -> H' b = some o) (dom : ∀ b, H' b = none -> H b = none) (h0 : ∀ o, t.H0 a = some o -> t.R a) (ha : H' a = some (.lst xs)) (r : aaO t.K (aaT W' H') xs us) : EOF t W' (abI i us ρ) σ H' F := by
 have ne : ∀ j c, j ≠ i -> Mu ρ j -> σ[j]? = some (some (.ref c)) -> c ≠ a := λj c n mj q z => by
  subst z
  exact n (e.dis j i c mj mi q hi)
 have nt : ∀ {c : Addr} {ys : List V}, H c = some (.lst ys) -> ¬ Tb t.K c := λq z => e.tab.ok.ne z q rfl
 refine ⟨by rw [ahm]; exact e.len, λb z => sub b (e.zw b z), e.z0, wl, λb o h n => ?_, λb h => e.n0 b (dom b h), λj u h => ?_, λj ts h => ?_, λj ts h => ?_, λj k c h1 h2 => e.dis j k c (aeS h1) (aeS h2), λb o h => fr b o (e.pn b o h) (λz => by subst z; rw [e.pd i b mi hi] at h; cases h) (λz => by rw [e.tab.B b z] at h; cases h), λj c m q => e.pd j c (aeS m) q, λj ws h => ?_, λj k ws zs n h1 h2 => e.dd j k ws zs n (ady h1) (ady h2), λj k ws c h1 m q => e.dm j k ws c (ady h1) (aeS m) q, λj ws h => e.db j ws (ady h), ⟨tb, λb z => sub b (e.tab.w b z), e.tab.r, e.tab.B⟩⟩
 ·refine fr b o (e.f0 b o h n) (λz => ?_) λz => n (e.tab.r b z)
  subst z
  exact n (h0 o h)
 ·rcases ac6 h with ⟨n, h⟩ | ⟨rfl, ⟨ts, q, z⟩ | ⟨ts, q, z⟩ | ⟨nm, h⟩⟩
  ·obtain ⟨w, h1, h2⟩ := e.sh j u h
   exact ⟨w, h1, h2.mono m⟩
  ·cases z
  ·cases z
  ·exact (nm mi).elim
 ·rcases ac6 h with ⟨n, h⟩ | ⟨rfl, ⟨ts', q, z⟩ | ⟨ts', q, z⟩ | ⟨nm, h⟩⟩
  ·obtain ⟨c, ys, h1, h2, h3, h4, h5⟩ := e.ow j ts h
   exact ⟨c, ys, h1, sub c h2, h3, fr c _ h4 (ne j c n ⟨ts, .inl h⟩ h1) (nt h4), h5.mono m⟩
  ·cases z
   obtain ⟨c, ys, h1, h2, h3, h4, h5⟩ := e.ow j ts' q
   rw [hi] at h1
   cases h1
   exact ⟨a, xs, hi, sub a h2, h3, ha, r⟩
  ·cases z
  ·exact (nm mi).elim
 ·rcases ac6 h with ⟨n, h⟩ | ⟨rfl, ⟨ts', q, z⟩ | ⟨ts', q, z⟩ | ⟨nm, h⟩⟩
  ·obtain ⟨c, ys, h1, h2, h3, h4, h5⟩ := e.rf j ts h
   exact ⟨c, ys, h1, sub c h2, h3, fr c _ h4 (ne j c n ⟨ts, .inr h⟩ h1) (nt h4), h5.mono m⟩
  ·cases z
  ·cases z
   obtain ⟨c, ys, h1, h2, h3, h4, h5⟩ := e.rf j ts' q
   rw [hi] at h1
   cases h1
   exact ⟨a, xs, hi, sub a h2, h3, ha, r⟩
  ·exact (nm mi).elim
 ·obtain ⟨c, ys, h1, d⟩ := e.dp j ws (ady h)
  exact ⟨c, ys, h1, d.move rfl rfl m (λb hb => sub b (by obtain ⟨_, _, _, ww, _⟩ := d; exact (ww b hb).1)) λb o hb q => fr b o q (λz => by subst z; exact e.dm j i ws b (ady h) mi hi hb) λz => d.nt e.tab.ok z hb⟩
theorem EOk.move {W W' : Addr -> Prop} {ρ : En} {σ : St} {H H' : Hp} {i : Nat} {a : Addr} {xs : List V} {us : List Tr} (e : EOk t W ρ σ H) (mi : Mu ρ i) (hi : σ[i]? = some (some (.ref a))) (m : Same (aaT W H) (aaT W' H')) (sub : ∀ b, W b -> W' b) (wl : ∀ b, W' b -> Lt H' b)
  (tb : TbS t.K H') (fr : ∀ b o, H b = some o -> b ≠ a -> ¬ Tb t.K b -> H' b = some o) (dom : ∀ b, H' b = none -> H b = none) (h0 : ∀ o, t.H0 a = some o -> t.R a) (ha : H' a = some (.lst xs)) (r : aaO t.K (aaT W' H') xs us) : EOk t W' (abI i us ρ) σ H' := by
 obtain ⟨F, e⟩ := e
 exact ⟨F, e.move mi hi m sub wl tb fr dom h0 ha r⟩
theorem EOk.put {W : Addr -> Prop} {ρ : En} {σ : St} {H : Hp} {i : Nat} {a : Addr} {xs : List V} {us : List Tr} (e : EOk t W ρ σ H) (mi : Mu ρ i) (hi : σ[i]? = some (some (.ref a))) (h0 : ∀ o, t.H0 a = some o -> t.R a) (r : aaO t.K (aaT W H) xs us) : EOk t W (abI i us ρ) σ (upd H a (.lst xs)) /\ Stp W H (upd H a (.lst xs)) := by
 have w := e.addr mi hi
 obtain ⟨zs, hz⟩ := e.arX mi hi
 refine ⟨e.move mi hi (by rw [acI w]; exact Same.refl _) (λ_ h => h) (λb z => ?_) (e.tab.ok.upd hz) (λb o h n _ => by rw [aaw n]; exact h) (λb h => ?_) h0 aaQ (by rw [acI w]; exact r), ⟨λb o n h => ?_, λb h => ?_⟩⟩
 ·by_cases q : b = a
  ·subst q; exact .inl ⟨xs, aaQ⟩
  ·unfold Lt; rw [aaw q]; exact e.wl b z
 ·by_cases q : b = a
  ·subst q; rw [aaQ] at h; cases h
  ·rw [aaw q] at h; exact h
 ·rw [aaw (λz => n (by rw [z]; exact w))]; exact h
 ·by_cases q : b = a
  ·subst q; rw [aaQ] at h; cases h
  ·rw [aaw q] at h; exact h
noncomputable abbrev GM := List Tr -> List Tr -> Rs (List Tr × Tr)
noncomputable def MtT (r : V -> List V -> Hp -> VK -> Prop) (m : GM) : Prop := ∀ (K : PySem.W.Frag) (G : Hp) a xs ts vs as H Q ts' T, H a = some (.lst xs) -> aaO K G xs ts -> aaO K G vs as -> m ts as = .ok (ts', T) -> (∀ xs' v, aaO K G xs' ts' -> Rep K G v T -> Q v (upd H a (.lst xs'))) -> r (.ref a) vs H Q
noncomputable def eMt (i : Nat) (m : GM) (fa : AF) : EF := λρ => (con ρ i).bind λ_ => (fa ρ).bind λp => (cls p.1).bind λas => (con p.2 i).bind λts => (m ts as).bind λz => .ok (.v z.2 false, abI i z.1 p.2)
theorem auy {K : PySem.W.Frag} {r : V -> List V -> Hp -> VK -> Prop} {m : GM} {ta : TA} {fa : AF} (i : Nat) (hm : MtT r m) (ng : ∀ ts as c, m ts as ≠ .ex c) (ha : SA t ta fa) : SE t (tBM K "list" r (am0 i) ta) (eMt i m fa) := λW ρ σ H Q e h => by
 obtain ⟨us, k0, h⟩ := abC (Rs.aae h) (af4 _ _)
 obtain ⟨_, a, xs, hi, _, hx, _⟩ := e.con k0
 refine ⟨_, hi, .inl ⟨rfl, xs, SqL.of hx⟩, ?_⟩
 refine ha W ρ σ H _ e (Rs.aag (Rs.aae h) λp h vs H1 e1 s1 v1 => ?_)
 obtain ⟨as, k1, h⟩ := abC (Rs.aae h) (aeQ _)
 obtain ⟨ts, k2, h⟩ := abC (Rs.aae h) (af4 _ _)
 obtain ⟨⟨ts', T⟩, k3, h⟩ := abC (Rs.aae h) (ng _ _)
 obtain ⟨mi, a', ys, hi', w, hy, ry, h0⟩ := e1.con k2
 rw [hi] at hi'
 cases hi'
 refine hm t.K (aaT W H1) a ys ts vs as H1 Q ts' T hy ry (agV e.wn v1 k1) k3 λxs' v r' rv => ?_
 obtain ⟨e2, s2⟩ := e1.put mi hi h0 r'
 refine h v _ e2 (s1.trans s2) (.low ?_)
 rw [acI w]
 exact rv
noncomputable def awR (i : Nat) (m : GM) : EF := λρ => (con ρ i).bind λts => (m ts []).bind λz => .ok (.v z.2 false, abI i z.1 ρ)
noncomputable def al3 : GM := λts as => match as with
 | [T] => if ts.length <= 100000 then .ok (ts ++ [T], .non) else .bad
 | _ => .bad
theorem arY : MtT aiQ al3 := λK G a xs ts vs as H Q ts' T hx r ra q h => by
 unfold al3 at q
 split at q
 ·rename_i U
  split at q
  ·rename_i c
   cases q
   cases ra with
   | cons h1 r1 =>
    cases r1
    exact ⟨a, xs, _, rfl, rfl, hx, Nat.lt_of_le_of_lt (by rw [r.length]; exact c) (by decide), h _ _ (r.app (.cons h1 .nil)) .non⟩
  ·cases q
 ·cases q
theorem apL (ts as : List Tr) (c : Str) : al3 ts as ≠ .ex c := by
 unfold al3
 split <;> (try split) <;> (intro z; cases z)
theorem aaO.set {K : PySem.W.Frag} {H : Hp} {v : V} {T : Tr} (h : Rep K H v T) : ∀ {xs : List V} {ts : List Tr} (j : Nat), aaO K H xs ts -> aaO K H (xs.set j v) (ts.set j T)
 | _, _, _, .nil => .nil
 | _, _, 0, .cons _ r => .cons h r
 | _, _, j + 1, .cons h1 r => .cons h1 (aaO.set h j r)
noncomputable def apM (i : Nat) (fk fe : EF) : SF := λρ => (fe ρ).bind λp => (cls [p.1]).bind λTs => (con p.2 i).bind λ_ => (fk p.2).bind λq => (dr q.2 q.1).bind λkT => (iOf kT).bind λk => (con q.2 i).bind λts => match Ts, ixN ts.length k with
 | [T], some j => .ok (.nx, abI i (ts.set j T) q.2)
 | _, _ => .bad
theorem apO {te ti : TE} {fk fe : EF} (i : Nat) (he : SE t te fe) (hk : SE t ti fk) : SS t (am1 te (avP (am0 i) ti arl)) (apM i fk fe) := λW ρ σ H D e h => by
 refine he W ρ σ H _ e (Rs.aag (Rs.aae h) λp h v H1 e1 s1 v1 => ?_)
 obtain ⟨Ts, k1, h⟩ := abC (Rs.aae h) (aeQ _)
 obtain ⟨us, k2, h⟩ := abC (Rs.aae h) (af4 _ _)
 obtain ⟨_, a, xs, hi, _, hx, _⟩ := e1.con k2
 refine ⟨_, hi, hk W p.2 σ H1 _ e1 (Rs.aag (Rs.aae h) λq h w H2 e2 s2 v2 => ?_)⟩
 obtain ⟨kT, k3, h⟩ := abC (Rs.aae h) (acq _ _)
 obtain ⟨k, k4, h⟩ := abC (Rs.aae h) (alZ _)
 obtain ⟨ts, k5, h⟩ := abC (Rs.aae h) (af4 _ _)
 obtain ⟨mi, a', ys, hi', wa, hy, ry, h0⟩ := e2.con k5
 rw [hi] at hi'
 cases hi'
 have kk : ∃ T j, Ts = [T] /\ ixN ts.length k = some j /\ af2 t W H D (.nx, abI i (ts.set j T) q.2) := by
  cases Ts with
  | nil => exact h.elim
  | cons T r =>
   cases r with
   | cons _ _ => exact h.elim
   | nil =>
    cases kj : ixN ts.length k with
    | none => rw [kj] at h; exact h.elim
    | some j => rw [kj] at h; exact ⟨T, j, rfl, rfl, h⟩
 obtain ⟨T, j, rfl, k6, h⟩ := kk
 ·have rv : Rep t.K (aaT W H2) v T := by
   have r1 := agV (vs := [v]) e.wn (.cons v1.1 .nil) k1
   cases r1 with
   | cons r1 _ => exact r1.mono s2.off
  obtain ⟨e3, s3⟩ := e2.put mi hi h0 (ry.set rv j)
  refine ⟨a, ys, k, j, rfl, aoE (adT e2 e1.wn v2.1 k3) k4, hy, by rw [ry.length]; exact k6, h W σ _ e3 ?_⟩
  exact ((s1.trans s2).trans s3).nxt
noncomputable def awS (i : Nat) (p : Int -> Int -> Int) (f : EF) : SF := λρ => match ρ[i]? with
 | some (.sh (.int x)) => (f ρ).bind λq => (dr q.2 q.1).bind λyT => (iOf yT).bind λy => .ok (.nx, q.2.set i (.sh (.int (p x y))))
 | _ => .bad
noncomputable def arZ (i j : Nat) (fa : AF) : SF := λρ => (fa ρ).bind λp => (cls p.1).bind λTs => match Ts with
 | [T, U] => .ok (.nx, (p.2.set i (.sh T)).set j (.sh U))
 | _ => .bad
theorem aoH {ta : TA} {fa : AF} (i j : Nat) (ha : SA t ta fa) : SS t (avQ i j ta) (arZ i j fa) := λW ρ σ H D e h => by
 refine ha W ρ σ H _ e (Rs.aag (Rs.aae h) λp h vs H1 e1 s1 v1 => ?_)
 obtain ⟨Ts, k1, h⟩ := abC (Rs.aae h) (aeQ _)
 have r := agV e.wn v1 k1
 split at h
 ·cases r with
  | cons h1 r1 =>
   cases r1 with
   | cons h2 r2 =>
    cases r2
    exact ⟨_, _, rfl, h W _ H1 ((e1.ajW h1).ajW h2) s1.nxt⟩
 ·exact h.elim
noncomputable def aie (c : Str) (f : EF) : SF := λρ => (f ρ).bind λ_ => .ex c
noncomputable def F0 (t : Tx) (H' : Hp) : Prop := (∀ b o, t.H0 b = some o -> ¬ t.R b -> H' b = some o) /\ TbS t.K H'
theorem ahn {E : XK} {C : Addr} {te : TE} {f : EF} {c : Str} (hx : ∀ H', F0 t H' -> t.EX c -> E (.ref C) none H') (he : SE t te f) : SS t (aow E C te) (aie c f) := λW ρ σ H D e h =>
 he W ρ σ H _ e (Rs.aag (Rs.aae h) λp h v H1 e1 s1 v1 => ⟨rfl, hx H1 ⟨e1.f0, e1.tab.ok⟩ h⟩)
end
end L2
end
section
namespace L2
open PySem PySem.Spec PyProof.Rows
mutual
noncomputable def aoI : Tr -> Bool
 | .tup ts => agC ts
 | .lst _ => false
 | _ => true
noncomputable def agC : List Tr -> Bool
 | [] => true
 | t :: r => aoI t && agC r
end
noncomputable def anu (G G' : Hp) : Prop := (∀ b xs, (G b = some (.tup xs) -> G' b = some (.tup xs)) /\ ∀ o, G b = some (.frz o (.tup xs)) -> G' b = some (.frz o (.tup xs))) /\ ∀ b C, G b = some (exO b C) -> G' b = some (exO b C)
mutual
theorem Rep.flat {K : PySem.W.Frag} {G G' : Hp} (m : anu G G') : ∀ {v : V} {T : Tr}, Rep K G v T -> aoI T = true -> Rep K G' v T
 | _, _, .non, _ => .non
 | _, _, .bl b, _ => .bl b
 | _, _, .int i, _ => .int i
 | _, _, .str x, _ => .str x
 | _, _, .tup h r, n => by
  refine .tup ?_ (aaO.flat m r (by unfold aoI at n; exact n))
  rcases h with (h | ⟨o, h⟩) | h
  ·exact .inl (.inl ((m.1 _ _).1 h))
  ·exact .inl (.inr ⟨o, (m.1 _ _).2 o h⟩)
  ·exact .inr h
 | _, _, .lst h r, n => by unfold aoI at n; cases n
 | _, _, .exn h k n, _ => .exn (m.2 _ _ h) k n
theorem aaO.flat {K : PySem.W.Frag} {G G' : Hp} (m : anu G G') : ∀ {v : List V} {T : List Tr}, aaO K G v T -> agC T = true -> aaO K G' v T
 | _, _, .nil, _ => .nil
 | _, _, .cons h r, n => by
  unfold agC at n
  rw [Bool.and_eq_true] at n
  exact .cons (Rep.flat m h n.1) (aaO.flat m r n.2)
end
theorem af5 {W W' : Addr -> Prop} {H : Hp} (wl : ∀ b, W' b -> Lt H b) : anu (aaT W H) (aaT W' H) := by
 have key : ∀ b o, aaT W H b = some o -> (∀ ys, o ≠ .lst ys) -> (∀ ys, o ≠ .tbl ys) -> aaT W' H b = some o := λb o h n n' => by
  obtain ⟨_, h⟩ := abe h
  rw [aaM]
  ·exact h
  ·intro w
   rcases wl b w with ⟨ys, e⟩ | ⟨ys, e⟩ <;> (rw [h] at e; cases e)
   ·exact n ys rfl
   ·exact n' ys rfl
 exact ⟨λb xs => ⟨λh => key _ _ h (λys z => by cases z) (λys z => by cases z), λo h => key _ _ h (λys z => by cases z) (λys z => by cases z)⟩, λb C h => key _ _ h (λys z => by cases z) (λys z => by cases z)⟩
theorem akH {a : Addr} {W : Addr -> Prop} {H : Hp} {xs : List V} (wl : ∀ b, W b -> Lt H b) (ha : H a = some (.lst xs)) (G : Hp) (hG : ∀ b o, G b = some o -> H b = some o) : anu G (off a (aaT W H)) := by
 have key : ∀ b o, G b = some o -> (∀ ys, o ≠ .lst ys) -> (∀ ys, o ≠ .tbl ys) -> off a (aaT W H) b = some o := λb o h n n' => by
  have h := hG b o h
  rw [off_ne, aaM]
  ·exact h
  ·intro w
   rcases wl b w with ⟨ys, e⟩ | ⟨ys, e⟩ <;> (rw [h] at e; cases e)
   ·exact n ys rfl
   ·exact n' ys rfl
  ·rintro rfl
   rw [h] at ha
   cases ha
   exact n _ rfl
 exact ⟨λb xs => ⟨λh => key _ _ h (λys z => by cases z) (λys z => by cases z), λo h => key _ _ h (λys z => by cases z) (λys z => by cases z)⟩, λb C h => key _ _ h (λys z => by cases z) (λys z => by cases z)⟩
noncomputable def VRt (K : PySem.W.Frag) (Z : Addr -> Prop) (H H' : Hp) (v : V) (T : Tr) : Bool -> Prop
 | false => Rep K (aaT Z H') v T
 | true => ∃ a xs ts, v = .ref a /\ T = .lst ts /\ H a = none /\ H' a = some (.lst xs) /\ aaO K (off a (aaT Z H')) xs ts
noncomputable def SmT (K : PySem.W.Frag) (H H' : Hp) : Prop := (∀ b o, H b = some o -> ¬ Tb K b -> H' b = some o) /\ TbS K H'
theorem SmT.dom {K : PySem.W.Frag} {H H' : Hp} (s : SmT K H H') : ∀ b, H' b = none -> H b = none := λb h => by
 cases q : H b with
 | none => rfl
 | some o =>
  by_cases z : Tb K b
  ·obtain ⟨ps, e⟩ := s.2.tbl z
   rw [h] at e
   cases e
  ·rw [s.1 b o q z] at h
   cases h
noncomputable def anv (G G' : Hp) : Prop := ∀ b o, (∀ ps, o ≠ .tbl ps) -> G b = some o -> G' b = some o
theorem Rd.afo {G G' : Hp} (m : anv G G') {a : Addr} {u : HO} (n : ∀ ps, u ≠ .tbl ps) (h : Rd G a u) : Rd G' a u := by
 rcases h with h | ⟨o, h⟩
 ·exact .inl (m _ _ n h)
 ·exact .inr ⟨o, m _ _ (λ_ z => by cases z) h⟩
mutual
theorem Rep.afo {K : PySem.W.Frag} {G G' : Hp} (m : anv G G') : ∀ {v : V} {T : Tr}, Rep K G v T -> Rep K G' v T
 | _, _, .non => .non
 | _, _, .bl b => .bl b
 | _, _, .int i => .int i
 | _, _, .str x => .str x
 | _, _, .tup h r => by
  refine .tup ?_ (aaO.afo m r)
  rcases h with h | h
  ·exact .inl (Rd.afo m (λ_ z => by cases z) h)
  ·exact .inr h
 | _, _, .lst h r => by
  refine .lst ?_ (aaO.afo m r)
  rcases h with h | h
  ·exact .inl (Rd.afo m (λ_ z => by cases z) h)
  ·exact .inr h
 | _, _, .exn h k n => .exn (m _ _ (λ_ z => by cases z) h) k n
theorem aaO.afo {K : PySem.W.Frag} {G G' : Hp} (m : anv G G') : ∀ {v : List V} {T : List Tr}, aaO K G v T -> aaO K G' v T
 | _, _, .nil => .nil
 | _, _, .cons h r => .cons (Rep.afo m h) (aaO.afo m r)
end
theorem afE {K : PySem.W.Frag} {Z : Addr -> Prop} {H : Hp} (tb : TbS K H) : anv (aaT Z H) (aaT (λb => Z b \/ Tb K b) H) := λb o n h => by
 obtain ⟨nz, h⟩ := abe h
 rw [aaM]
 ·exact h
 ·rintro (z | z)
  ·exact nz z
  ·obtain ⟨ps, e⟩ := tb.tbl z
   rw [h] at e
   cases e
   exact n _ rfl
theorem EOk.al4 {t : Tx} {W : Addr -> Prop} {ρ : En} {σ : St} {H H' : Hp} (e : EOk t W ρ σ H) (s : SmT t.K H H') : EOk t W ρ σ H' /\ Stp W H H' := by
 have st : Stp W H H' := ⟨λb o n q => s.1 b o q λz => n (e.tab.w b z), s.dom⟩
 refine ⟨?_, st⟩
 have m := st.off
 obtain ⟨F, e⟩ := e
 have ls : ∀ {a : Addr} {xs : List V}, H a = some (.lst xs) -> H' a = some (.lst xs) := λq => s.1 _ _ q λz => e.tab.ok.ne z q rfl
 refine ⟨F, e.len, e.zw, e.z0, λb w => ?_, λb o h n => s.1 b o (e.f0 b o h n) λz => n (e.tab.r b z), λb h => e.n0 b (s.dom b h), λi u h => ?_, λi ts h => ?_, λi ts h => ?_, e.dis, λb o h => s.1 b o (e.pn b o h) λz => (by rw [e.tab.B b z] at h; cases h), e.pd, λi ts h => ?_, e.dd, e.dm, e.db, ⟨s.2, e.tab.w, e.tab.r, e.tab.B⟩⟩
 ·rcases e.wl b w with ⟨xs, q⟩ | ⟨ps, q⟩
  ·exact .inl ⟨xs, ls q⟩
  ·by_cases z : Tb t.K b
   ·exact .inr (s.2.tbl z)
   ·exact .inr ⟨ps, s.1 b _ q z⟩
 ·obtain ⟨v, h1, h2⟩ := e.sh i u h
  exact ⟨v, h1, h2.mono m⟩
 ·obtain ⟨a, xs, h1, h2, h3, h4, h5⟩ := e.ow i ts h
  exact ⟨a, xs, h1, h2, h3, ls h4, h5.mono m⟩
 ·obtain ⟨a, xs, h1, h2, h3, h4, h5⟩ := e.rf i ts h
  exact ⟨a, xs, h1, h2, h3, ls h4, h5.mono m⟩
 ·obtain ⟨a, xs, h1, d⟩ := e.dp i ts h
  exact ⟨a, xs, h1, d.move rfl rfl m (λb hb => by obtain ⟨_, _, _, ww, _⟩ := d; exact (ww b hb).1) λb o hb q => s.1 b o q λz => d.nt e.tab.ok z hb⟩
theorem EOk.ar0 {t : Tx} {W : Addr -> Prop} {ρ : En} {σ : St} {H H' : Hp} {a : Addr} {xs : List V} (e : EOk t W ρ σ H) (s : SmT t.K H H') (n : H a = none) (q : H' a = some (.lst xs)) : EOh t W a ρ σ H' := by
 have na : ∀ b, W b -> b ≠ a := λb w z => by subst z; exact e.wn b w n
 obtain ⟨e', st⟩ := e.al4 s
 have m : Same (aaT W H') (aaT (λb => W b \/ b = a) H') -> True := λ_ => trivial
 have mm : ∀ {v : V} {T : Tr}, Rep t.K (aaT W H) v T -> Rep t.K (aaT (λb => W b \/ b = a) H') v T := λr => r.mono λb o h => by
  obtain ⟨w, h⟩ := abe h
  rw [aaM]
  ·exact st.keep b o w h
  ·rintro (z | rfl)
   ·exact w z
   ·rw [n] at h; cases h
 have mms : Same (aaT W H) (aaT (λb => W b \/ b = a) H') := λb o h => by
  obtain ⟨w, h⟩ := abe h
  rw [aaM]
  ·exact st.keep b o w h
  ·rintro (z | rfl)
   ·exact w z
   ·rw [n] at h; cases h
 obtain ⟨F, e⟩ := e
 have ls : ∀ {a : Addr} {xs : List V}, H a = some (.lst xs) -> H' a = some (.lst xs) := λq => s.1 _ _ q λz => e.tab.ok.ne z q rfl
 refine ⟨F, ⟨e.len, λb z => .inl (e.zw b z), e.z0, λb w => ?_, e'.f0, e'.n0, λi u h => ?_, λi ts h => ?_, λi ts h => ?_, e.dis, e'.pn, e.pd, λi ts h => ?_, e.dd, e.dm, e.db, e'.tab.wid λb w => .inl w⟩, λi ts h z => ?_⟩
 ·rcases w with w | rfl
  ·exact e'.wl b w
  ·exact .inl ⟨xs, q⟩
 ·obtain ⟨v, h1, h2⟩ := e.sh i u h
  exact ⟨v, h1, mm h2⟩
 ·obtain ⟨c, ys, h1, h2, h3, h4, h5⟩ := e.ow i ts h
  exact ⟨c, ys, h1, .inl h2, h3, ls h4, h5.mono mms⟩
 ·obtain ⟨c, ys, h1, h2, h3, h4, h5⟩ := e.rf i ts h
  exact ⟨c, ys, h1, .inl h2, h3, ls h4, h5.mono mms⟩
 ·obtain ⟨c, ys, h1, d⟩ := e.dp i ts h
  exact ⟨c, ys, h1, d.move rfl rfl mms (λb hb => by obtain ⟨_, _, _, ww, _⟩ := d; exact .inl (ww b hb).1) λb o hb q => s.1 b o q λz => d.nt e.tab.ok z hb⟩
 ·obtain ⟨c, ys, h1, bs, _, _, ww, _⟩ := e.dp i ts h
  exact na a (ww a z).1 rfl
noncomputable abbrev FP := List Tr -> Rs (Tr × Bool)
noncomputable def spP (K : PySem.W.Frag) (cl : Str -> Addr) (n : Nat) (F : FP) : Sp := λvs H Q E => ∃ Z ts, vs.length = n /\ aaO (nlK K) (aaT Z H) vs ts /\ (∀ b, Z b -> Lt H b) /\ TbS (nlK K) H /\
 (F ts).post (λc => ∀ H', SmT (nlK K) H H' -> E (.ref (cl c)) none H') (λp => ∀ v H', SmT (nlK K) H H' -> VRt (nlK K) Z H H' v p.1 p.2 -> Q v H')
noncomputable def aaH (nl : Nat) (ts : List Tr) : En := ts.map Sl.sh ++ List.replicate (nl - ts.length) Sl.un
noncomputable def fnP (nl : Nat) (b : SF) : FP := λts => (b (aaH nl ts)).bind λq => match q.1 with
 | .rt T fr => .ok (T, fr)
 | .nx => .ok (.non, false)
 | _ => .bad
theorem abr {nl : Nat} {ts : List Tr} {i : Nat} {s : Sl} (h : (aaH nl ts)[i]? = some s) : (∃ u, ts[i]? = some u /\ s = .sh u) \/ s = .un := by
 unfold aaH at h
 by_cases l : i < ts.length
 ·rw [List.getElem?_append_left (by simpa using l), List.getElem?_map] at h
  rw [List.getElem?_eq_getElem l] at h ⊢
  cases h
  exact .inl ⟨_, rfl, rfl⟩
 ·rw [List.getElem?_append_right (by simpa using Nat.le_of_not_lt l)] at h
  rw [List.getElem?_replicate] at h
  split at h
  ·cases h; exact .inr rfl
  ·cases h
theorem aen {N : List Str} {vs : List V} {i : Nat} {v : V} (h : vs[i]? = some v) : (start N vs)[i]? = some (some v) := by
 unfold start
 have l : i < vs.length := (List.getElem?_eq_some_iff.mp h).1
 rw [List.getElem?_append_left (by simpa using l), List.getElem?_map, h]
 rfl
section
variable {P : Program} {w : World} {K : PySem.W.Frag} {mg : Str -> Option Value} {base : Heap}
theorem At.dfP {k : Nat} {x : Str} {st : Stmt} {N ps : List Str} {cl : Str -> Addr} {b : SF} (a : At K mg x st) (S : aaE N ps (aak st)) (hn : ps.length <= N.length)
  (hb : ∀ (kV doc pm : Value) (an : Option Addr) (cdv ct : Value) (us : List Value), us.length = ps.length -> bindArgs (PySem.W.fnOf x x (acC st) (abH st) (aak st) .none kV doc pm an cdv ct) ⟨us, []⟩ = pure (ps.zip us))
  (hbody : ∀ (f : Addr) (cdv : Value) (A : Around) (outer : List Env) (s : Shared) (H : Hp) (E : XK), aeI k (A.deeper (envOfC x (aak st) s.heap.objs.size f cdv)) ->
   ∃ ts, PSs (ajI (CXF P w) P w K mg base N x (aak st) f cdv A outer s H E) (abH st) ts /\ ∀ t : Tx, t.K = nlK K -> (∀ c H', F0 t H' -> t.EX c -> E (.ref (cl c)) none H') -> SS t ts b) :
  DfX P w K mg base (k + 1) x ps (spP K cl ps.length (fnP N.length b)) := by
 refine a.dfx S hb (λvs H Q E h => ?_) (λf cdv A outer s H vs Q E hr h => ?_)
 ·obtain ⟨_, _, h, _⟩ := h; exact h
 obtain ⟨Z, as, hl, r, zl, tb, h⟩ := h
 obtain ⟨ts, h1, h2⟩ := hbody f cdv A outer s H E hr
 refine ⟨ts, h1, ?_⟩
 have sm : ∀ (b : Addr) (W : Addr -> Prop) ρ σ H', EOk ⟨nlK K, Z, Tb (nlK K), H, λ_ => none, λc => ∀ H', SmT (nlK K) H H' -> E (.ref (cl c)) none H'⟩ W ρ σ H' -> SmT (nlK K) H H' := λ_ W ρ σ H' e => ⟨λb o q n => e.f0 b o q n, e.tab.ok⟩
 have r := r.afo (afE tb)
 refine h2 ⟨nlK K, Z, Tb (nlK K), H, λ_ => none, λc => ∀ H', SmT (nlK K) H H' -> E (.ref (cl c)) none H'⟩ rfl (λc H' f0 q => q H' ⟨λb o z n => f0.1 b o z n, f0.2⟩) (λb => Z b \/ Tb (nlK K) b) (aaH N.length as) (start N vs) H _ ?_ (Rs.aag (Rs.aae h) λq h => ?_)
 ·have la := r.length
  have aj0 : ∀ (i : Nat) (us : List Tr), (aaH N.length as)[i]? = some (.dp us) -> False := λi us q => by
   rcases abr q with ⟨u', q1, z⟩ | z <;> cases z
  refine ⟨λ_ => [], ?_, λ_ z => .inl z, λb z => ?_, λb z => z.elim (zl b) (λz => .inr (tb.tbl z)), λb o q _ => q, λb q => q, λi u q => ?_, λi us q => ?_, λi us q => ?_, λi j c m1 m2 => ?_, λb o z => (by cases z), λ_ _ _ _ => rfl, λi us q => (aj0 i us q).elim, λi _ us _ _ q => (aj0 i us q).elim, λi _ us _ q => (aj0 i us q).elim, λi us q => (aj0 i us q).elim, ⟨tb, λ_ z => .inr z, λ_ z => z, λ_ _ => rfl⟩⟩
  ·unfold aaH start
   simp only [List.length_append, List.length_map, List.length_replicate]
   omega
  ·exact (zl b z).ne
  ·rcases abr q with ⟨u', q1, z⟩ | z
   ·cases z
    obtain ⟨v, e1, e2⟩ := r.aoB q1
    exact ⟨v, aen e1, e2⟩
   ·cases z
  ·rcases abr q with ⟨u', q1, z⟩ | z <;> cases z
  ·rcases abr q with ⟨u', q1, z⟩ | z <;> cases z
  ·obtain ⟨us, q | q⟩ := m1 <;> rcases abr q with ⟨u', q1, z⟩ | z <;> cases z
 ·obtain ⟨fl, ρ'⟩ := q
  cases fl with
  | nx => exact λW' σ' H' e n => h .non H' (sm 0 W' ρ' σ' H' e) .non
  | rt T fr =>
   refine λv W' σ' H' e n => h v H' (sm 0 W' ρ' σ' H' e) ?_
   cases fr <;> exact n
  | bk => exact h.elim
  | ct => exact h.elim
end
section
variable {X : Cx} {k : Nat} {x : Str} {ps : List Str} {sp : Sp} {p pos : Pos} {e : Expr} {es : List Expr} {ta : TA} {E : XK}
theorem anw (D : DfX X.prog X.w X.K X.mg X.base k x ps sp) (hr : aeI k X.A) (hx : Passes (CXF X.prog X.w) X E) (ha : PA X (e :: es) ta) (hg : Gl X x := by rfl) (hdb : (x == ("__debug__" : Str)) = false := by decide)
  (he : starEach (e :: es) X.env = (false, eval e X.env) :: starEach es X.env := by rfl) (hpl : (backTo pos (starEach es X.env)).any (·.1) = false := by rfl) : PE X (.Call (.Name x p) (e :: es) [] pos) (ah1 sp [] E ta) := by
 obtain ⟨f, fd, h1, h2, h3, h4⟩ := D
 exact apk h1 hr hg h4 h3 h2 .nil hx ha hdb he hpl
end
section
variable {t : Tx} {K : PySem.W.Frag}
noncomputable def isS : Rv -> Bool
 | .s _ => true
 | _ => false
noncomputable def acZ (z : Tr × Bool) : Bool := aoI z.1 || (z.2 && (match z.1 with
 | .lst us => agC us
 | _ => false))
theorem VRt.voe {W W0 : Addr -> Prop} {ρ : En} {σ : St} {H H' : Hp} {v : V} {z : Tr × Bool} {Z : Addr -> Prop} (wn : ∀ b, W b -> H b ≠ none) (wl : ∀ b, W b -> Lt H' b) (zs : (∀ b, W b -> Z b) \/ acZ z = true) (h : VRt t.K Z H H' v z.1 z.2)
  (ex : ∀ a xs, H a = none -> H' a = some (.lst xs) -> EOh t W a ρ σ H') : VOE t W ρ σ H H' v (.v z.1 z.2) := by
 obtain ⟨T, fr⟩ := z
 cases fr with
 | false =>
  refine .low ?_
  rcases zs with zs | zs
  ·exact Rep.mono (ab9 (λb _ _ z => zs b z) λ_ _ _ h => h) h
  ·unfold acZ at zs
   simp only [Bool.false_and, Bool.or_false] at zs
   exact Rep.flat (af5 wl) h zs
 | true =>
  obtain ⟨a, xs, ts, rfl, e1, n, q, r⟩ := h
  have e1 : T = .lst ts := e1
  subst e1
  refine ⟨⟨a, xs, ts, rfl, rfl, n, q, ?_⟩, λU b z eb => ?_⟩
  ·rcases zs with zs | zs
   ·refine r.mono λb o q => ?_
    obtain ⟨ne, q⟩ := adJ q
    rw [off_ne ne]
    exact ab9 (λb _ _ z => zs b z) (λ_ _ _ h => h) b o q
   ·unfold acZ at zs
    have zs : agC ts = true := by
     rw [Bool.or_eq_true] at zs
     rcases zs with zs | zs
     ·unfold aoI at zs; cases zs
     ·exact zs
    exact r.flat (akH wl q _ λb o h => abf _ _ b o (aiU _ _ b o h)) zs
  ·cases eb
   exact ex a xs n q
theorem agw.length {W : Addr -> Prop} {σ : St} {H H' : Hp} : ∀ {vs : List V} {rs : List Rv}, agw K W σ H H' vs rs -> vs.length = rs.length
 | _, _, .nil => rfl
 | _, _, .cons _ r => by rw [List.length_cons, List.length_cons, agw.length r]
theorem post_eq {α : Type} {r : Rs α} {a : α} {EX : Str -> Prop} {P : α -> Prop} (h : r = .ok a) (q : P a) : r.post EX P := by
 rw [h]
 exact q
noncomputable def aau (F : FP) (fa : AF) : EF := λρ => (fa ρ).bind λp => (drs p.2 p.1).bind λas => (F as).bind λz => if p.1.any isS = true /\ acZ z = false then .bad else .ok (.v z.1 z.2, p.2)
theorem aho {W : Addr -> Prop} {σ : St} {ρ : En} {H H' : Hp} (wn : ∀ b, W b -> H b ≠ none) : ∀ {vs : List V} {rs : List Rv} {as : List Tr}, agw t.K W σ H H' vs rs -> drs ρ rs = .ok as -> rs.any isS = false -> aaO t.K (aaT W H') vs as
 | _, _, _, .nil, q, _ => by cases q; exact .nil
 | _, .v T fr :: _, _, .cons h r, q, n => by
  unfold drs at q
  obtain ⟨a, q1, q⟩ := aaR q
  obtain ⟨as, q2, q⟩ := aaR q
  cases q
  cases q1
  exact .cons (h.rep wn) (aho wn r q2 (by simpa [List.any_cons, isS] using n))
 | _, .s i :: _, _, .cons h r, q, n => by simp [isS] at n
theorem Rps.reps {W : Addr -> Prop} {H : Hp} : ∀ {vs : List V} {as : List Tr}, Rps K W H vs as -> aaO K (aaT (λ_ => False) H) vs as
 | _, _, .nil => .nil
 | _, _, .cons h r => .cons (h.rep.mono λb o q => by rw [aaM id]; exact q) (Rps.reps r)
theorem aj1 (hK : t.K = nlK K) {cl : Str -> Addr} {n : Nat} {F : FP} {E : XK} {ta : TA} {fa : AF} (hx : ∀ c H', F0 t H' -> t.EX c -> E (.ref (cl c)) none H') (hn : ∀ ρ p, fa ρ = .ok p -> p.1.length = n) (ha : SA t ta fa) : SE t (ah1 (spP K cl n F) [] E ta) (aau F fa) := λW ρ σ H Q e h => by
 have h := Rs.aae h
 cases ek : fa ρ with
 | bad => rw [ek] at h; exact h.elim
 | ex c => exact ha W ρ σ H _ e (by rw [ek] at h ⊢; exact h)
 | ok p =>
 have hl := hn ρ p ek
 rw [ek] at h
 refine ha W ρ σ H _ e (post_eq ek ?_)
 intro vs H1 e1 s1 v1
 have h : ((drs p.2 p.1).bind _).post _ _ := h
 obtain ⟨as, k1, h⟩ := abC (Rs.aae h) (aeP _ _)
 have r := aib e1 e.wn v1 k1
 have lv : vs.length = n := v1.length.trans hl
 have fin : ∀ Z : Addr -> Prop, (∀ b, Z b -> W b) -> (∀ z, F as = .ok z -> ¬ (p.1.any isS = true /\ acZ z = false) -> (∀ b, W b -> Z b) \/ acZ z = true) -> aaO (nlK K) (aaT Z H1) vs as -> spP K cl n F (vs ++ []) H1 Q E := λZ zw zs rr => by
  rw [List.append_nil]
  refine ⟨Z, as, lv, rr, λb z => e1.wl b (zw b z), by rw [<-hK]; exact e1.tab.ok, ?_⟩
  have h := Rs.aae h
  cases ef : F as with
  | bad => rw [ef] at h; exact h.elim
  | ex c =>
   rw [ef] at h
   exact λH' sm => hx c H' ⟨λb o q nr => sm.1 b o (e1.f0 b o q nr) λz => nr (e1.tab.r b (by rw [hK]; exact z)), by rw [hK]; exact sm.2⟩ h
  | ok z =>
   rw [ef] at h
   have h : (if p.1.any isS = true /\ acZ z = false then Rs.bad else .ok (.v z.1 z.2, p.2) : Rs (Rv × En)).post _ _ := h
   split at h
   ·exact h.elim
   ·rename_i c
    intro v H' sm vr
    rw [<-hK] at vr sm
    obtain ⟨eg, sg⟩ := e1.al4 sm
    refine h v H' eg (s1.trans sg) (VOE.back (H := H1) ?_ s1.dom)
    exact VRt.voe (W0 := W) e1.wn eg.wl (zs z ef c) vr λa xs na qa => e1.ar0 sm na qa
 by_cases an : p.1.any isS = true
 ·refine fin (λ_ => False) (λ_ z => z.elim) (λz ez c => .inr ?_) ?_
  ·cases fz : acZ z with
   | true => rfl
   | false => exact (c ⟨an, fz⟩).elim
  ·rw [<-hK]
   exact r.reps
 ·refine fin W (λ_ z => z) (λz ez c => .inl λ_ z => z) ?_
  rw [<-hK]
  exact aho e.wn v1 k1 (by simpa using an)
end
end L2
end
section
namespace L2
open PySem PySem.Spec PyProof.Rows
noncomputable abbrev FR := List Tr -> Rs ((Tr × Bool) × List Tr)
noncomputable def spR (K : PySem.W.Frag) (n r : Nat) (F : FR) : Sp := λvs H Q E => ∃ (Z : Addr -> Prop) (ts : List Tr) (a : Addr) (xs : List V) (us : List Tr), vs.length = n /\ ts.length = n /\ vs[r]? = some (.ref a) /\ ts[r]? = some (.lst us) /\ Z a /\ H a = some (.lst xs) /\ aaO (nlK K) (aaT Z H) xs us /\
 (∀ j v u, j ≠ r -> vs[j]? = some v -> ts[j]? = some u -> Rep (nlK K) (aaT Z H) v u) /\ (∀ b, Z b -> Lt H b) /\ TbS (nlK K) H /\
 (F ts).post (λ_ => False) (λp => ∀ v H' ys, (∀ b o, H b = some o -> b ≠ a -> ¬ Tb (nlK K) b -> H' b = some o) -> TbS (nlK K) H' -> (∀ b, H' b = none -> H b = none) -> H' a = some (.lst ys) -> aaO (nlK K) (aaT Z H') ys p.2 -> agC p.2 = true -> VRt (nlK K) Z H H' v p.1.1 p.1.2 -> Q v H')
noncomputable def abX {α : Type} : Rs α -> Rs α
 | .bad => .bad
 | .ex _ => .bad
 | .ok a => .ok a
theorem aeo {α : Type} {r : Rs α} {EX : Str -> Prop} {P : α -> Prop} (h : (abX r).post EX P) : r.post (λ_ => False) P := by
 cases r <;> exact h
theorem aj2 {α : Type} (r : Rs α) (c : Str) : abX r ≠ .ex c := by
 cases r <;> (intro z; cases z)
theorem aj3 {α β : Type} {r : Rs α} {f : α -> Rs β} (h1 : ∀ c, r ≠ .ex c) (h2 : ∀ a c, f a ≠ .ex c) (c : Str) : r.bind f ≠ .ex c := by
 cases r with
 | bad => intro z; cases z
 | ex d => exact (h1 d rfl).elim
 | ok a => exact h2 a c
noncomputable def fnR (nl r : Nat) (b : SF) : FR := λts => match ts[r]? with
 | some (.lst us) => (abX (b ((aaH nl ts).set r (.rf us)))).bind λq => (match q.2[r]? with
  | some (.rf ws) => if agC ws = true then (match q.1 with
   | .rt T fr => .ok ((T, fr), ws)
   | .nx => .ok ((.non, false), ws)
   | _ => .bad) else .bad
  | _ => .bad)
 | _ => .bad
theorem apP (nl r : Nat) (b : SF) (as : List Tr) (c : Str) : fnR nl r b as ≠ .ex c := by
 unfold fnR
 split
 ·refine aj3 (aj2 _) (λq c => ?_) c
  split
  ·split
   ·split <;> (intro z; cases z)
   ·intro z; cases z
  ·intro z; cases z
 ·intro z; cases z
section
variable {P : Program} {w : World} {K : PySem.W.Frag} {mg : Str -> Option Value} {base : Heap}
theorem At.dfR {k : Nat} {x : Str} {st : Stmt} {N ps : List Str} {cl : Str -> Addr} {b : SF} (r : Nat) (a : At K mg x st) (S : aaE N ps (aak st)) (hn : ps.length <= N.length)
  (hb : ∀ (kV doc pm : Value) (an : Option Addr) (cdv ct : Value) (us : List Value), us.length = ps.length -> bindArgs (PySem.W.fnOf x x (acC st) (abH st) (aak st) .none kV doc pm an cdv ct) ⟨us, []⟩ = pure (ps.zip us))
  (hbody : ∀ (f : Addr) (cdv : Value) (A : Around) (outer : List Env) (s : Shared) (H : Hp) (E : XK), aeI k (A.deeper (envOfC x (aak st) s.heap.objs.size f cdv)) ->
   ∃ ts, PSs (ajI (CXF P w) P w K mg base N x (aak st) f cdv A outer s H E) (abH st) ts /\ ∀ t : Tx, t.K = nlK K -> (∀ c H', F0 t H' -> t.EX c -> E (.ref (cl c)) none H') -> SS t ts b) :
  DfX P w K mg base (k + 1) x ps (spR K ps.length r (fnR N.length r b)) := by
 refine a.dfx S hb (λvs H Q E h => ?_) (λf cdv A outer s H vs Q E hr h => ?_)
 ·obtain ⟨_, _, _, _, _, h, _⟩ := h; exact h
 obtain ⟨Z, as, ad, xs, us, hl, hl2, hv, ht, hz, hx, rx, ra, zl, tb, h⟩ := h
 have rx := rx.afo (afE tb)
 have ra : ∀ j v u, j ≠ r -> vs[j]? = some v -> as[j]? = some u -> Rep (nlK K) (aaT (λb => Z b \/ Tb (nlK K) b) H) v u := λj v u n q1 q2 => (ra j v u n q1 q2).afo (afE tb)
 obtain ⟨ts, h1, h2⟩ := hbody f cdv A outer s H E hr
 refine ⟨ts, h1, ?_⟩
 unfold fnR at h
 rw [ht] at h
 have h : ((abX (b ((aaH N.length as).set r (.rf us)))).bind _).post _ _ := h
 refine h2 ⟨nlK K, Z, λb => b = ad \/ Tb (nlK K) b, H, λ_ => none, λ_ => False⟩ rfl (λc H' f0 q => q.elim) (λb => Z b \/ Tb (nlK K) b) ((aaH N.length as).set r (.rf us)) (start N vs) H _ ?_ (Rs.aag (aeo (Rs.aae h)) λq h => ?_)
 ·have lr : r < as.length := (List.getElem?_eq_some_iff.mp ht).1
  have mu : ∀ j, Mu ((aaH N.length as).set r (.rf us)) j -> j = r := λj m => by
   obtain ⟨ws, q | q⟩ := m <;> rcases get_set q with ⟨rfl, _, _⟩ | ⟨ne, q⟩
   ·rfl
   ·rcases abr q with ⟨u', q1, z⟩ | z <;> cases z
   ·rfl
   ·rcases abr q with ⟨u', q1, z⟩ | z <;> cases z
  have aj0 : ∀ (i : Nat) (ws : List Tr), ((aaH N.length as).set r (.rf us))[i]? = some (.dp ws) -> False := λi ws q => by
   rcases get_set q with ⟨rfl, z, _⟩ | ⟨ne, q⟩
   ·cases z
   ·rcases abr q with ⟨u', q1, z⟩ | z <;> cases z
  refine ⟨λ_ => [], ?_, λ_ z => .inl z, λb z => ?_, λb z => z.elim (zl b) (λz => .inr (tb.tbl z)), λb o q _ => q, λb q => q, λi u q => ?_, λi ws q => ?_, λi ws q => ?_, λi j c m1 m2 _ _ => (mu i m1).trans (mu j m2).symm, λb o z => (by cases z), λ_ _ _ _ => rfl, λi us q => (aj0 i us q).elim, λi _ us _ _ q => (aj0 i us q).elim, λi _ us _ q => (aj0 i us q).elim, λi us q => (aj0 i us q).elim, ⟨tb, λ_ z => .inr z, λ_ z => .inr z, λ_ _ => rfl⟩⟩
  ·unfold aaH start
   simp only [List.length_append, List.length_map, List.length_replicate, List.length_set]
   omega
  ·exact (zl b z).ne
  ·rcases get_set q with ⟨rfl, z, _⟩ | ⟨ne, q⟩
   ·cases z
   ·rcases abr q with ⟨u', q1, z⟩ | z
    ·cases z
     have lj : i < vs.length := by
      rw [hl, <-hl2]
      exact (List.getElem?_eq_some_iff.mp q1).1
     exact ⟨vs[i], aen (List.getElem?_eq_getElem lj), ra i _ _ ne (List.getElem?_eq_getElem lj) q1⟩
    ·cases z
  ·rcases get_set q with ⟨rfl, z, _⟩ | ⟨ne, q⟩
   ·cases z
   ·rcases abr q with ⟨u', q1, z⟩ | z <;> cases z
  ·rcases get_set q with ⟨rfl, z, _⟩ | ⟨ne, q⟩
   ·cases z
    exact ⟨ad, xs, aen hv, .inl hz, .inl rfl, hx, rx⟩
   ·rcases abr q with ⟨u', q1, z⟩ | z <;> cases z
 ·obtain ⟨fl, ρ'⟩ := q
  dsimp only at h
  split at h
  ·rename_i ws q
   split at h
   ·rename_i fl'
    have key : ∀ W' σ' H', EOk ⟨nlK K, Z, λb => b = ad \/ Tb (nlK K) b, H, λ_ => none, λ_ => False⟩ W' ρ' σ' H' -> (∀ b o, H b = some o -> b ≠ ad -> ¬ Tb (nlK K) b -> H' b = some o) /\ TbS (nlK K) H' /\ (∀ b, H' b = none -> H b = none) /\ ∃ ys, H' ad = some (.lst ys) /\ aaO (nlK K) (aaT Z H') ys ws := λW' σ' H' e => by
     obtain ⟨c, ys, q1, q2, q3, q4, q5⟩ := e.rf r ws q
     have q3 : c = ad := q3.elim id λz => (e.tab.ok.ne z q4 rfl).elim
     subst q3
     exact ⟨λb o z n n' => e.f0 b o z λy => y.elim n n', e.tab.ok, e.n0, ys, q4, q5.mono (ajX e)⟩
    cases fl with
    | nx =>
     intro W' σ' H' e n
     obtain ⟨k1, k1b, k2, ys, k3, k4⟩ := key W' σ' H' e
     exact h .non H' ys k1 k1b k2 k3 k4 fl' .non
    | rt T fr =>
     intro v W' σ' H' e n
     obtain ⟨k1, k1b, k2, ys, k3, k4⟩ := key W' σ' H' e
     refine h v H' ys k1 k1b k2 k3 k4 fl' ?_
     cases fr <;> exact n
    | bk => exact h.elim
    | ct => exact h.elim
   ·exact h.elim
  ·exact h.elim
end
section
variable {t : Tx} {K : PySem.W.Frag}
theorem agw.get {W : Addr -> Prop} {σ : St} {H H' : Hp} : ∀ {vs : List V} {rs : List Rv} {j : Nat} {v : V} {r : Rv}, agw K W σ H H' vs rs -> vs[j]? = some v -> rs[j]? = some r -> VOk K W σ H H' v r
 | _, _, _, _, _, .nil, e, _ => by simp at e
 | _, _, 0, _, _, .cons h _, e, q => by simp at e q; subst e q; exact h
 | _, _, j + 1, _, _, .cons _ t, e, q => agw.get (j := j) t (by simpa using e) (by simpa using q)
theorem aiW {ρ : En} : ∀ {rs : List Rv} {as : List Tr} {j : Nat} {u : Tr}, drs ρ rs = .ok as -> as[j]? = some u -> ∃ r, rs[j]? = some r /\ dr ρ r = .ok u
 | [], _, _, _, h, e => by cases h; simp at e
 | r :: rs, as, j, u, h, e => by
  unfold drs at h
  obtain ⟨a, q1, h⟩ := aaR h
  obtain ⟨bs, q2, h⟩ := aaR h
  cases h
  cases j with
  | zero => simp at e; subst e; exact ⟨r, rfl, q1⟩
  | succ j =>
   obtain ⟨r', k1, k2⟩ := aiW (j := j) q2 (by simpa using e)
   exact ⟨r', by simpa using k1, k2⟩
theorem al5 {ρ : En} : ∀ {rs : List Rv} {as : List Tr}, drs ρ rs = .ok as -> as.length = rs.length
 | [], _, h => by cases h; rfl
 | r :: rs, as, h => by
  unfold drs at h
  obtain ⟨a, q1, h⟩ := aaR h
  obtain ⟨bs, q2, h⟩ := aaR h
  cases h
  rw [List.length_cons, List.length_cons, al5 q2]
theorem aoJ {ρ : En} : ∀ {rs : List Rv} {as : List Tr} {j : Nat} {r : Rv}, drs ρ rs = .ok as -> rs[j]? = some r -> ∃ u, as[j]? = some u /\ dr ρ r = .ok u
 | [], _, _, _, h, e => by simp at e
 | r :: rs, as, j, u, h, e => by
  unfold drs at h
  obtain ⟨a, q1, h⟩ := aaR h
  obtain ⟨bs, q2, h⟩ := aaR h
  cases h
  cases j with
  | zero => simp at e; subst e; exact ⟨a, rfl, q1⟩
  | succ j =>
   obtain ⟨r', k1, k2⟩ := aoJ (j := j) q2 (by simpa using e)
   exact ⟨r', by simpa using k1, k2⟩
noncomputable def others (r i : Nat) (rs : List Rv) : Bool := (rs.eraseIdx r).all λx => match x with
 | .s j => j != i
 | _ => true
noncomputable def abv (r : Nat) (F : FR) (fa : AF) : EF := λρ => (fa ρ).bind λp => match p.1[r]? with
 | some (.s i) => if others r i p.1 = true then ((con p.2 i).bind λ_ => (drs p.2 p.1).bind λas => (F as).bind λz => if (p.1.eraseIdx r).any isS = true /\ acZ z.1 = false then .bad else .ok (.v z.1.1 z.1.2, abI i z.2 p.2)) else .bad
 | _ => .bad
theorem aif {α : Type} {l : List α} {r j : Nat} {x : α} (n : j ≠ r) (h : l[j]? = some x) : x ∈ l.eraseIdx r := by
 rw [List.mem_eraseIdx_iff_getElem?]
 exact ⟨j, n, h⟩
theorem anx (hK : t.K = nlK K) {n r : Nat} {F : FR} {E : XK} {ta : TA} {fa : AF} (nF : ∀ as c, F as ≠ .ex c) (hn : ∀ ρ p, fa ρ = .ok p -> p.1.length = n) (ha : SA t ta fa) : SE t (ah1 (spR K n r F) [] E ta) (abv r F fa) := λW ρ σ H Q e h => by
 have h := Rs.aae h
 cases ek : fa ρ with
 | bad => rw [ek] at h; exact h.elim
 | ex c => exact ha W ρ σ H _ e (by rw [ek] at h ⊢; exact h)
 | ok p =>
 have hl := hn ρ p ek
 rw [ek] at h
 refine ha W ρ σ H _ e (post_eq ek ?_)
 intro vs H1 e1 s1 v1
 have h : (match p.1[r]? with
  | some (.s i) => if others r i p.1 = true then ((con p.2 i).bind λ_ => (drs p.2 p.1).bind λas => (F as).bind λz => if (p.1.eraseIdx r).any isS = true /\ acZ z.1 = false then .bad else .ok (.v z.1.1 z.1.2, abI i z.2 p.2)) else .bad
  | _ => .bad : Rs (Rv × En)).post _ _ := h
 split at h
 ·rename_i i er
  split at h
  ·rename_i ho
   obtain ⟨us, k0, h⟩ := abC (Rs.aae h) (af4 _ _)
   obtain ⟨as, k1, h⟩ := abC (Rs.aae h) (aeP _ _)
   obtain ⟨z, k2, h⟩ := abC (Rs.aae h) (nF _)
   obtain ⟨mi, a, xs, hi, wa, hx, rx, h0⟩ := e1.con k0
   have lr : r < vs.length := by rw [v1.length]; exact (List.getElem?_eq_some_iff.mp er).1
   have hvr : vs[r]? = some (.ref a) := by
    have q := v1.get (List.getElem?_eq_getElem lr) er
    have q : σ[i]? = some (some vs[r]) := q
    rw [hi] at q
    rw [List.getElem?_eq_getElem lr, Option.some.inj (Option.some.inj q)]
   have hur : as[r]? = some (.lst us) := by
    obtain ⟨u, q1, q2⟩ := aoJ k1 er
    rw [q1]
    unfold L2.con at k0
    dsimp only [dr] at q2
    split at k0 <;> rename_i q3
    ·rw [q3] at q2; cases q2; cases k0; rfl
    ·rw [q3] at q2; cases q2; cases k0; rfl
    ·cases k0
   split at h
   ·exact h.elim
   ·rename_i c
    have fin : ∀ Z : Addr -> Prop, Z a -> (∀ b, Z b -> W b) -> ((∀ b, W b -> Z b) \/ acZ z.1 = true) -> (∀ j v u, j ≠ r -> vs[j]? = some v -> as[j]? = some u -> Rep (nlK K) (aaT Z H1) v u) -> spR K n r F (vs ++ []) H1 Q E := λZ za zw zs rr => by
     rw [List.append_nil]
     refine ⟨Z, as, a, xs, us, v1.length.trans hl, (al5 k1).trans hl, hvr, hur, za, hx, ?_, rr, λb z => e1.wl b (zw b z), by rw [<-hK]; exact e1.tab.ok, ?_⟩
     ·rw [<-hK]
      exact rx.mono (ab9 (λb _ _ z => zw b z) λ_ _ _ h => h)
     rw [k2]
     intro v H' ys fr tb dm hy ry fl vr
     rw [<-hK] at ry vr fr tb
     have kp : ∀ b o, ¬ W b -> H1 b = some o -> H' b = some o := λb o nw q => fr b o q (λz => by subst z; exact nw wa) λz => nw (e1.tab.w b z)
     have wl' : ∀ b, W b -> Lt H' b := λb wb => by
      by_cases q : b = a
      ·subst q; exact .inl ⟨ys, hy⟩
      ·by_cases z : Tb t.K b
       ·exact .inr (tb.tbl z)
       ·rcases e1.wl b wb with ⟨zs, q2⟩ | ⟨zs, q2⟩
        ·exact .inl ⟨zs, fr b _ q2 q z⟩
        ·exact .inr ⟨zs, fr b _ q2 q z⟩
     have st : Stp W H1 H' := ⟨kp, dm⟩
     have e2 : EOk t W (abI i z.2 p.2) σ H' := e1.move mi hi st.off (λ_ h => h) wl' tb fr dm h0 hy (ry.flat (af5 wl') fl)
     refine h v H' e2 (s1.trans st) (VOE.back (H := H1) ?_ s1.dom)
     refine VRt.voe (W0 := W) (z := z.1) e1.wn wl' zs vr λb zs nb qb => ?_
     have wl2 : ∀ c, (W c \/ c = b) -> Lt H' c := λc wc => by
      rcases wc with wc | rfl
      ·exact wl' c wc
      ·exact .inl ⟨zs, qb⟩
     obtain ⟨F, e1F⟩ := id e1
     refine ⟨F, e1F.move mi hi (λc o q => ?_) (λ_ h => .inl h) wl2 tb fr dm h0 hy (ry.flat (af5 wl2) fl), λj us hj zj => ?_⟩
     rotate_left
     ·obtain ⟨c, ys, h1, bs, _, _, ww, _⟩ := e1F.dp j us (ady hj)
      exact e1.wn b (ww b zj).1 nb
     obtain ⟨nc, q⟩ := abe q
     rw [aaM]
     ·exact kp c o nc q
     ·rintro (z | rfl)
      ·exact nc z
      ·rw [nb] at q; cases q
    by_cases an : (p.1.eraseIdx r).any isS = true
    ·refine fin (λb => b = a) rfl (λb z => by subst z; exact wa) (.inr ?_) λj v u nj qv qu => ?_
     ·cases fz : acZ z.1 with
      | true => rfl
      | false => exact (c ⟨an, fz⟩).elim
     ·obtain ⟨x, q1, q2⟩ := aiW k1 qu
      have ok := v1.get qv q1
      rw [<-hK]
      cases x with
      | v T fr =>
       cases q2
       exact (ok.rep e.wn).mono (ab9 (λb _ _ z => by subst z; exact wa) λ_ _ _ h => h)
      | s j' =>
       have nj' : j' ≠ i := by
        have := List.all_eq_true.mp ho _ (aif nj q1)
        simpa using this
       have ok : σ[j']? = some (some v) := ok
       have q2 : dr p.2 (.s j') = .ok u := q2
       have q3 : ∃ ws, L2.con p.2 j' = .ok ws /\ u = .lst ws := by
        dsimp only [dr] at q2
        unfold L2.con
        split at q2 <;> rename_i q3
        ·cases q2; (try rw [q3]); exact ⟨_, rfl, rfl⟩
        ·cases q2; (try rw [q3]); exact ⟨_, rfl, rfl⟩
        ·cases q2
       obtain ⟨ws, q3, rfl⟩ := q3
       obtain ⟨mj, a', zs, hj, wj, hz, rz, _⟩ := e1.con q3
       rw [ok] at hj
       cases hj
       have na : a' ≠ a := λy => by
        subst y
        exact nj' (e1.dis j' i a' mj mi ok hi)
       refine .lst (SqL.of ?_) (rz.mono (ab9 (λb _ _ z => by subst z; exact wa) λ_ _ _ h => h))
       rw [aaM (W := λb => b = a) na]
       exact hz
    ·refine fin W wa (λ_ z => z) (.inl λ_ z => z) λj v u nj qv qu => ?_
     obtain ⟨x, q1, q2⟩ := aiW k1 qu
     have ok := v1.get qv q1
     rw [<-hK]
     cases x with
     | v T fr => cases q2; exact ok.rep e.wn
     | s j' =>
      refine (an ?_).elim
      exact List.any_eq_true.mpr ⟨_, aif nj q1, rfl⟩
  ·exact h.elim
 ·exact h.elim
end
end L2
end
section
namespace L2
open PySem PySem.Spec PyProof.Rows
section
variable {prog : Program} {w : World} {A : Around} {R : Result -> Shared -> Prop} {s : Shared}
theorem aii {elt target iter c : Expr} {scope : Scope} {pos : Pos} {it acc : Value} {env : Env} (I : Nat -> Shared -> Prop)
  (turn : ∀ n s, I n s -> wpAny (model prog w) A (pyNext it) (λr s₁ => match r with
   | none => R (.ok .next) s₁
   | some v => wpAny (model prog w) A (letOwnedTupleGo target it v) (λ_ s₁' => wpAny (model prog w) A (assign target env v) (λ_ s₂ => wpAny (model prog w) A (isTrue c env (eval c env)) (λb s₂' => if b = true then wpAny (model prog w) A (eval elt env) (λx s₃ =>
     wpAny (model prog w) A (call (.builtin "list.append") [acc, x]) (λ_ s₄ => ∃ m, m < n /\ I m s₄) (λ_ _ => False) s₃) (λ_ _ => False) s₂' else ∃ m, m < n /\ I m s₂') (λ_ _ => False) s₂) (λ_ _ => False) s₁') (λ_ _ => False) s₁) (λ_ _ => False) s)
  (n : Nat) (h : I n s) :
  codeAny (model prog w) A (.compLoop (.ListComp elt [⟨target, iter, [c], 0⟩] scope pos) 0 it acc env) R s := by
 refine codeAny_loop rfl I (λn s hI => ?_) n h
 show wpAny _ _ ((compTurn (.ListComp elt [⟨target, iter, [c], 0⟩] scope pos) 0 it acc env).onRaise (λx => do noteFrame x env; theTreesLotGoes x)) _ _ s
 refine wpAny_noted (wpAny_noRaise ?_)
 rw [compTurn_list]
 refine wpAny_bind (wpAny_standAt (wpAny_bind (wpAny_mono (turn n s hI) (λr s₁ h₁ => ?_) λ_ _ h' => h')))
 cases r with
 | none => exact wpAny_pure h₁
 | some v =>
  refine wpAny_bind (wpAny_mono h₁ (λ_ s₁' h₁' => ?_) λ_ _ h' => h')
  refine wpAny_bind (wpAny_mono h₁' (λ_ s₂ h₂ => wpAny_bind (wpAny_tests_one (wpAny_mono h₂ (λok s₃ h₃ => ?_) λ_ _ h' => h'))) λ_ _ h' => h')
  cases ok with
  | false => exact wpAny_pure ⟨rfl, h₃⟩
  | true =>
   exact wpAny_bind (wpAny_bind (wpAny_mono h₃ (λx s₄ h₄ => wpAny_bind (wpAny_mono h₄ (λ_ s₅ h₅ => wpAny_pure (wpAny_pure ⟨rfl, h₅⟩)) λ_ _ h' => h')) λ_ _ h' => h'))
end
noncomputable def aij (wi : TI) (g : TG) (src : List (Option Nat)) (tc : TT) (te : TE) : TE := λσ H Q => wi σ H λJ H1 => ∀ D, H1 D = none ->
 ∃ W : Nat -> Nat -> St -> Hp -> Prop, (∃ m, W 0 m (aeK src σ) (upd H1 D (.lst []))) /\ ∀ i m σ' H', W i m σ' H' ->
  (J.stop i H' /\ QAt Q D H') \/ (J.go i H' /\ ∀ x H'', J.yld i H' x H'' -> g x σ' H'' λσ2 H2 => tc σ2 H2 λb H2' => if b = true then te σ2 H2' λv H3 => ∃ xs, H3 D = some (.lst xs) /\ xs.length < sizeLine /\ ∃ m', m' < m /\ W (i + 1) m' σ2 (upd H3 D (.lst (xs ++ [v]))) else ∃ m', m' < m /\ W (i + 1) m' σ2 H2')
section
variable {X : Cx} {elt tg iter cnd : Expr} {scope sc : Scope} {pos : Pos} {No N : List Str} {src : List (Option Nat)} {wi : TI} {g : TG} {te : TE} {tc : TT}
theorem al6 {pins : List (Addr × Obj)} {σ : St} {H : Hp} {s : Shared} {Q : VK} {RR : Value -> Addr -> Result -> Shared -> Prop} (hsc : X.env.scope = sc) (hNo : X.N = No) (S : afU sc No N src scope) (hc : X.calm = true)
  (hi : PI X tg iter wi) (hg : ∀ C s H ex, PG (abB X N scope C s H ex) tg g) (hq : ∀ C s H ex, PT (abB X N scope C s H ex) cnd tc) (he : ∀ C s H ex, PE (abB X N scope C s H ex) elt te) (I : Inv X pins σ H s) (h : aij wi g src tc te σ H Q)
  (hRR : ∀ D C H' s' m, Inv X pins σ H' s' -> H' C = none -> C ≠ X.env.locals -> X.s₀.heap.objs.size <= C -> (∀ x c, X.env.cells.lookup x = some c -> c ≠ C) -> (∀ p ∈ X.pn ++ pins, p.1 ≠ C) -> s'.heap.Ns C m -> Q (.ref D) H' -> RR (.ref D) C (.ok .next) s') :
  wpAny (model X.prog X.w) X.A (eval iter X.env) (λx s₁ => wpAny (model X.prog X.w) X.A (pyIter x) (λit s₂ => wpAny (model X.prog X.w) X.A (newList []) (λacc s₃ =>
   wpAny (model X.prog X.w) X.A (newFunctionEnv scope X.env.globals (aas X.env.cells scope.names []) [] X.env.qual none .none (some X.env)) (λcenv s₄ =>
    codeAny (model X.prog X.w) X.A (.compStart (.ListComp elt [⟨tg, iter, [cnd], 0⟩] scope pos) 0 it acc { cenv with scope := relabel scope X.env }) (RR acc cenv.locals) s₄) X.xe s₃) X.xe s₂) X.xe s₁) X.xe s := by
 refine thn (hi pins s σ H _ I h) λv s1 h1 => thn h1 λitv s2 h2 => ?_
 obtain ⟨it, fp, tn, J, H2, e, I2, T, st2, f2, hW⟩ := h2
 subst e
 have hD0 : H2 s2.heap.objs.size = none := I2.hok.fresh (Nat.le_refl _)
 obtain ⟨W, ⟨m0, w0⟩, turn⟩ := hW s2.heap.objs.size hD0
 have arp : ∀ b ∈ fp, b < s2.heap.objs.size := λb hb => by
  obtain ⟨o, e, _⟩ := T.obj 0 _ st2 b hb
  exact Heap.lt_size e
 refine wpAny_newObj_type ?_
 have I3 : Inv X pins σ (upd H2 s2.heap.objs.size (.lst [])) { s2 with heap := s2.heap.push { cls := .type "list", dict := none, data := .seq ([] : List Value).toArray } } := I2.atH (t' := s2.toks) (ys := []) .nil (Nat.zero_le _)
 have f3 : ∀ b ∈ fp, ad7 X pins (upd H2 s2.heap.objs.size (.lst [])) b := λb hb => by
  obtain ⟨q, r⟩ := f2 b hb
  exact ⟨by rw [aaw (Nat.ne_of_lt (arp b hb))]; exact q, r⟩
 have st3 : tn 0 (s2.heap.push { cls := .type "list", dict := none, data := .seq ([] : List Value).toArray }) := T.keep _ _ _ st2 λb hb o e => Heap.get?_push_of_some _ e
 have lt3 : ∀ b ∈ fp, b < (s2.heap.push { cls := .type "list", dict := none, data := .seq ([] : List Value).toArray }).objs.size := λb hb => by
  rw [Heap.size_push]; exact Nat.lt_succ_of_lt (arp b hb)
 generalize hD : s2.heap.objs.size = D at *
 generalize hh3 : s2.heap.push { cls := .type "list", dict := none, data := .seq ([] : List Value).toArray } = h3 at *
 generalize hH3 : upd H2 D (.lst []) = H3 at *
 refine adk λh₁ hns old ck => ?_
 dsimp only at hns old ck ⊢
 have I4 : Inv (abB X N scope h3.objs.size { s2 with heap := h3 } H3 fp) [] (aeK src σ) H3 { s2 with heap := h₁, toks := s2.toks + ([] : List (Str × Value)).length } := agU (s := { s2 with heap := h3 }) hsc hNo S I3 f3 lt3 hns old ck
 have st4 : tn 0 h₁ := T.keep _ _ _ st3 λb hb o e => old b o e
 have loop : codeAny (model X.prog X.w) X.A (.compLoop (.ListComp elt [⟨tg, iter, [cnd], 0⟩] scope pos) 0 (.ref it) (.ref D) (compEnvC scope (cellsFrom (h3.objs.size + 1) scope.names (aas X.env.cells scope.names [])) h3.objs.size X.env)) (RR (.ref D) h3.objs.size) { s2 with heap := h₁, toks := s2.toks + ([] : List (Str × Value)).length } := by
  have stat : ∀ {H' : Hp}, (∀ b ∈ fp, H' b = none) -> ∀ b ∈ fp, ad7 (abB X N scope h3.objs.size { s2 with heap := h3 } H3 fp) [] H' b := λhn b hb => by
   obtain ⟨g0, g1, g2, g3, g4, g5⟩ := f3 b hb
   refine ⟨hn b hb, Nat.ne_of_lt (lt3 b hb), λz => ?_, .inl hb, λx c e => ?_, λp hp => absurd (show p ∈ ([] : List (Addr × Obj)) from hp) (by simp)⟩
   ·rcases List.mem_cons.mp (I3.ahV b z) with z | z
    ·exact g1 z
    ·exact g2 z
   ·have e : (cellsFrom (h3.objs.size + 1) scope.names (aas X.env.cells scope.names [])).lookup x = some c := e
    rw [aa1, acv] at e
    split at e
    ·rename_i z
     cases e
     exact λy => absurd (Nat.le_trans (ck.empty x c (PySem.mem_of_lookup z)).2 (y ▸ Nat.le_of_lt (lt3 b hb))) (Nat.not_succ_le_self _)
    ·rcases abd e with q | q
     ·simp at q
     ·exact g4 x c q
  refine aii (λn s' => ∃ i σ' H', Inv (abB X N scope h3.objs.size { s2 with heap := h3 } H3 fp) [] σ' H' s' /\ tn i s'.heap /\ (∀ b ∈ fp, H' b = none) /\ W i n σ' H') ?_ m0 ⟨0, aeK src σ, H3, I4, st4, λb hb => (f3 b hb).1, w0⟩
  rintro n s5 ⟨i, σ5, H5, I5, st5, fr5, w5⟩
  rcases turn i n σ5 H5 w5 with ⟨stop, qn⟩ | ⟨go, step⟩
  ·refine thn (T.done (abB X N scope h3.objs.size { s2 with heap := h3 } H3 fp) rfl rfl rfl hc i [] s5 σ5 H5 (λ_ _ => False) I5 (stat fr5) st5 stop) λr s6 ⟨hr, I6⟩ => ?_
   subst hr
   obtain ⟨mC, hnC, _⟩ := id I6.loc
   have I7 : Inv X pins σ H5 s6 := I3.call' (ch := fp) I6.os I6.base I6.hok I6.bare λb hb => by
    obtain ⟨g0, g1, g2, g3, g4, g5⟩ := f3 b hb
    exact ⟨g3, g1, g4, g5⟩
   refine hRR D h3.objs.size H5 s6 mC I7 I6.free (Nat.ne_of_gt I3.lt) I3.sz (λx c e z => ?_) (λp hp z => ?_) hnC qn
   ·obtain ⟨v, q⟩ := I3.cell x c e
    exact absurd q.lt (by rw [z]; exact Nat.lt_irrefl _)
   ·exact absurd (Heap.lt_size (I3.pin p hp).1) (by rw [z]; exact Nat.lt_irrefl _)
  ·refine thn (T.item (abB X N scope h3.objs.size { s2 with heap := h3 } H3 fp) rfl rfl rfl hc i [] s5 σ5 H5 (λ_ _ => False) I5 (stat fr5) st5 go) λr s6 ⟨u, hr, h6⟩ => ?_
   subst hr
   refine thn h6 λ_ s7 ⟨x, H7, I7, r7, y7, st7, fr7⟩ => ?_
   have I7' := I7.pinned (stat fr7) (T.obj _ _ st7)
   refine thn (hg _ _ _ _ _ s7 σ5 H7 x u _ I7' r7 (step x H7 y7)) λ_ s8 ⟨σ8, H8, I8, q8⟩ => ?_
   refine thn (hq _ _ _ _ _ s8 σ8 H8 _ I8 q8) λbb s8' ⟨H8', I8', q8'⟩ => ?_
   cases bb with
   | false =>
    rw [if_neg (by decide)] at q8' ⊢
    obtain ⟨m', hm, w9⟩ := q8'
    refine ⟨m', hm, i + 1, σ8, H8', I8'.adH (pins := []), T.keep _ _ _ st7 λb hb o e => (I8'.pin (b, o) (List.mem_append_right _ (List.mem_append_right _ (abR hb e)))).1, λb hb => ?_, w9⟩
    obtain ⟨o, e, d⟩ := T.obj _ _ st7 b hb
    exact (I8'.pin (b, o) (List.mem_append_right _ (List.mem_append_right _ (abR hb e)))).2.1
   | true =>
   rw [if_pos rfl] at q8' ⊢
   refine thn (he _ _ _ _ _ s8' σ8 H8' _ I8' q8') λyv s9 ⟨y, H9, I9, r9, q9⟩ => ?_
   obtain ⟨xs, e9, l9, m', hm, w9⟩ := q9
   refine thn (aej (X := abB X N scope h3.objs.size { s2 with heap := h3 } H3 fp) _ s9 σ8 H9 (.ref D) [y] (.ref D) [yv] (λ_ H' => W (i + 1) m' σ8 H') I9 rfl (.cons r9 .nil) ⟨D, xs, y, rfl, rfl, e9, l9, w9⟩) λ_ s10 ⟨_, H10, I10, _, q10⟩ => ?_
   refine ⟨m', hm, i + 1, σ8, H10, I10.adH (pins := []), T.keep _ _ _ st7 λb hb o e => (I10.pin (b, o) (List.mem_append_right _ (List.mem_append_right _ (abR hb e)))).1, λb hb => ?_, q10⟩
   obtain ⟨o, e, d⟩ := T.obj _ _ st7 b hb
   exact (I10.pin (b, o) (List.mem_append_right _ (List.mem_append_right _ (abR hb e)))).2.1
 exact codeAny_compStart_list loop (T.self _ _ _ _ _ st4 loop)
theorem aiX {i : Nat} {y : Str} {py spos : Pos} (hN : X.N.Nodup) (hyi : X.N[i]? = some y) (hy : Loc X.env.scope y) (hsc : X.env.scope = sc) (hNo : X.N = No) (S : afU sc No N src scope) (hc : X.calm = true)
  (hi : PI X tg iter wi) (hg : ∀ C s H ex, PG (abB X N scope C s H ex) tg g) (hq : ∀ C s H ex, PT (abB X N scope C s H ex) cnd tc) (he : ∀ C s H ex, PE (abB X N scope C s H ex) elt te)
  (hsw : swapsWith (.ListComp elt [⟨tg, iter, [cnd], 0⟩] scope pos) (some (.Name y py)) spos.line X.env = pure true := by rfl) (hs : ∀ x, foldedSetIterable iter X.env x = pure x := by intro _; rfl)
  (hf : X.fn y = true \/ X.env.scope.names.lookup y = some .local := by first | exact .inl rfl | exact .inr rfl | assumption) :
  PS X (.Assign [.Name y py] (.ListComp elt [⟨tg, iter, [cnd], 0⟩] scope pos) spos) (am1 (aij wi g src tc te) (acS i)) := by
 refine ⟨λpins s σ H D I h => ?_⟩
 rw [exec_Assign_Name_used _ _ _ _ hsw]
 have hcl : closureFor scope X.env = pure (aas X.env.cells scope.names []) := adI λy hy e => by
  have k := S.free y hy e
  rw [<-hsc] at k
  obtain ⟨c, q⟩ := I.ok.has y.1 k
  rw [q]; rfl
 refine wpAny_bind (wpAny_standAt (wpAny_bind ?_))
 show wpAny _ X.A (do let _ <-comprehension (.ListComp elt [⟨tg, iter, [cnd], 0⟩] scope pos) scope X.env _ (newList []) false (eval iter X.env) (some (assign (.Name y py) X.env))) _ _ s
 refine wpAny_bind (wpAny_mono (wpAny_comprehension_free (use := some (assign (.Name y py) X.env)) (Q := λ_ s' => SP X pins D .next s') rfl hs hcl S.kind S.names
  (al6 (Q := λv H' => D.nx (σ.set i (some v)) H') (RR := λacc C => compPost (model X.prog X.w) X.A X.xe (some (assign (.Name y py) X.env)) (λ_ s' => SP X pins D .next s') acc C) hsc hNo S hc hi hg hq he I h ?_)) (λ_ s' hq => wpAny_pure (wpAny_pure hq)) λ_ _ e => e)
 intro Da C H' s' m I' n1 n2 n3 n4 n5 hn q
 show wpAny _ X.A (assign (.Name y py) X.env (.ref Da)) _ _ _
 refine wpAny_assign_Name (afN I' hN hyi hy (v := .ref Da) rfl (λs2 I2 hsame => ?_) hf)
 obtain ⟨a, hsb, ha⟩ := hsame
 have hCa : C ≠ a := by
  rcases ha with z | z
  ·rw [z]; exact n2
  ·exact λe => n4 y a z e.symm
 refine ⟨m, hn.sameBut hsb hCa, λh' hs' => ⟨σ.set i (some (.ref Da)), H', ?_, q⟩⟩
 exact I2.turned (t' := s2.toks) (λb o hb e => (hs'.2 b hb).trans e) n1 n2 (.inr n3) n4 n5
end
end L2
end
section
namespace L2
open PySem PySem.Spec PyProof.Rows
noncomputable def aeb : Sl -> Sl
 | .dp _ => .un
 | s => s
noncomputable def acL (src : List (Option Nat)) (ρ : En) : En := src.map λo => match o with
 | some j => aeb ((ρ[j]?).getD .un)
 | none => .un
noncomputable def abQ : List (Option Nat) -> En -> En -> En
 | some j :: src, .ow ts :: ρi, ρ => abQ src ρi (abI j ts ρ)
 | some j :: src, .rf ts :: ρi, ρ => abQ src ρi (abI j ts ρ)
 | _ :: src, _ :: ρi, ρ => abQ src ρi ρ
 | _, _, ρ => ρ
noncomputable def adK : Option Sl -> Bool
 | some (.ow _) => true
 | some (.rf _) => true
 | _ => false
noncomputable def acV : List (Option Nat) -> En -> En -> Bool
 | some j :: src, s :: ρi, ρ => (!adK ρ[j]? || adK (some s)) && acV src ρi ρ
 | none :: src, _ :: ρi, ρ => acV src ρi ρ
 | [], _, _ => true
 | _, [], _ => false
theorem aj4 {ρ : En} {i : Nat} : adK ρ[i]? = true ↔ Mu ρ i := by
 constructor
 ·intro h
  unfold adK at h
  split at h <;> rename_i q
  ·exact ⟨_, .inl q⟩
  ·exact ⟨_, .inr q⟩
  ·cases h
 ·rintro ⟨ts, h | h⟩ <;> rw [h] <;> rfl
theorem ahp : ∀ {src : List (Option Nat)} {ρi ρ : En} {k j : Nat}, acV src ρi ρ = true -> src[k]? = some (some j) -> Mu ρ j -> Mu ρi k
 | [], _, _, _, _, _, h, _ => by simp at h
 | some j' :: src, s :: ρi, ρ, k, j, h, hk, m => by
  unfold acV at h
  rw [Bool.and_eq_true] at h
  cases k with
  | zero =>
   simp at hk
   subst hk
   have h1 := h.1
   rw [aj4.mpr m] at h1
   have h1 : adK (some s) = true := by simpa using h1
   cases s with
   | un => cases h1
   | sh _ => cases h1
   | dp _ => cases h1
   | ow ts => exact ⟨ts, .inl rfl⟩
   | rf ts => exact ⟨ts, .inr rfl⟩
  | succ k =>
   obtain ⟨ts, q⟩ := ahp (k := k) h.2 (by simpa using hk) m
   exact ⟨ts, by simpa using q⟩
 | none :: src, s :: ρi, ρ, k, j, h, hk, m => by
  unfold acV at h
  cases k with
  | zero => simp at hk
  | succ k =>
   obtain ⟨ts, q⟩ := ahp (k := k) h (by simpa using hk) m
   exact ⟨ts, by simpa using q⟩
 | some j' :: src, [], ρ, k, j, h, hk, m => by unfold acV at h; cases h
 | none :: src, [], ρ, k, j, h, hk, m => by unfold acV at h; cases h
noncomputable def Inj (src : List (Option Nat)) : Prop := ∀ (k k' j : Nat), src[k]? = some (some j) -> src[k']? = some (some j) -> k = k'
theorem afe {src : List (Option Nat)} (h : (src.filterMap id).Nodup) : Inj src := by
 induction src with
 | nil => intro k k' j h1; simp at h1
 | cons o src ih =>
  have tail : Inj src := by
   cases o with
   | none => exact ih (by simpa using h)
   | some j => exact ih (by simpa using (List.nodup_cons.mp (by simpa using h)).2)
  intro k k' j h1 h2
  have no : ∀ {m : Nat}, o = some j -> src[m]? = some (some j) -> False := λ{m} e q => by
   subst e
   have n := (List.nodup_cons.mp (show (j :: src.filterMap id).Nodup by simpa using h)).1
   exact n (List.mem_filterMap.mpr ⟨some j, List.mem_of_getElem? q, rfl⟩)
  cases k with
  | zero =>
   have e1 : o = some j := by simpa using h1
   cases k' with
   | zero => rfl
   | succ k' => exact (no e1 (by simpa using h2)).elim
  | succ k =>
   cases k' with
   | zero => exact (no (by simpa using h2) (by simpa using h1)).elim
   | succ k' => rw [tail k k' j (by simpa using h1) (by simpa using h2)]
theorem al7 {ρ : En} {i j : Nat} {ts : List Tr} (h : j ≠ i) : (abI i ts ρ)[j]? = ρ[j]? := by
 unfold abI
 split
 ·exact List.getElem?_set_ne (Ne.symm h)
 ·exact List.getElem?_set_ne (Ne.symm h)
 ·rfl
theorem apQ {ρ ρ' : En} {i : Nat} {ts : List Tr} (h : ρ[i]? = ρ'[i]?) : (abI i ts ρ)[i]? = (abI i ts ρ')[i]? := by
 unfold abI
 rw [h]
 cases q : ρ'[i]? with
 | none => dsimp only; rw [h, q]
 | some s =>
  have l' : i < ρ'.length := (List.getElem?_eq_some_iff.mp q).1
  have l : i < ρ.length := (List.getElem?_eq_some_iff.mp (h.trans q)).1
  cases s with
  | un => dsimp only; rw [h, q]
  | sh _ => dsimp only; rw [h, q]
  | dp _ => dsimp only; rw [h, q]
  | ow _ => dsimp only; rw [aeR l, aeR l']
  | rf _ => dsimp only; rw [aeR l, aeR l']
theorem af6 : ∀ (src : List (Option Nat)) (ρi ρ : En), (abQ src ρi ρ).length = ρ.length
 | [], ρi, ρ => by unfold abQ; rfl
 | o :: src, [], ρ => by cases o <;> (unfold abQ; rfl)
 | none :: src, s :: ρi, ρ => by unfold abQ; exact af6 src ρi ρ
 | some j :: src, .un :: ρi, ρ => by unfold abQ; exact af6 src ρi ρ
 | some j :: src, .sh _ :: ρi, ρ => by unfold abQ; exact af6 src ρi ρ
 | some j :: src, .dp _ :: ρi, ρ => by unfold abQ; exact af6 src ρi ρ
 | some j :: src, .ow ts :: ρi, ρ => by unfold abQ; rw [af6 src ρi, ahm]
 | some j :: src, .rf ts :: ρi, ρ => by unfold abQ; rw [af6 src ρi, ahm]
theorem af7 : ∀ {src : List (Option Nat)} {ρi ρ : En} {j : Nat} {s : Sl}, Inj src -> (abQ src ρi ρ)[j]? = some s ->
  (∃ (k : Nat) (ts : List Tr), src[k]? = some (some j) /\ (ρi[k]? = some (.ow ts) \/ ρi[k]? = some (.rf ts)) /\ (abI j ts ρ)[j]? = some s) \/ ((∀ k : Nat, src[k]? = some (some j) -> ¬ Mu ρi k) /\ ρ[j]? = some s)
 | [], ρi, ρ, j, s, _, h => by
  unfold abQ at h
  exact .inr ⟨λk q => by simp at q, h⟩
 | o :: src, [], ρ, j, s, _, h => by
  have h : ρ[j]? = some s := by cases o <;> (unfold abQ at h; exact h)
  refine .inr ⟨λk _ m => ?_, h⟩
  obtain ⟨_, q | q⟩ := m <;> simp at q
 | o :: src, x :: ρi, ρ, j, s, I, h => by
  have It : Inj src := λk k' j h1 h2 => by
   have := I (k + 1) (k' + 1) j (by simpa using h1) (by simpa using h2)
   omega
  have keep : (o = none \/ adK (some x) = false) -> (abQ src ρi ρ)[j]? = some s -> (∃ (k : Nat) (ts : List Tr), (o :: src)[k]? = some (some j) /\ ((x :: ρi)[k]? = some (.ow ts) \/ (x :: ρi)[k]? = some (.rf ts)) /\ (abI j ts ρ)[j]? = some s) \/ ((∀ k : Nat, (o :: src)[k]? = some (some j) -> ¬ Mu (x :: ρi) k) /\ ρ[j]? = some s) := λc h => by
   rcases af7 It h with ⟨k, ts, q1, q2, q3⟩ | ⟨n, q⟩
   ·exact .inl ⟨k + 1, ts, by simpa using q1, by simpa using q2, q3⟩
   ·refine .inr ⟨λk qk m => ?_, q⟩
    cases k with
    | zero =>
     rcases c with c | c
     ·subst c; simp at qk
     ·rw [<-aj4] at m
      have m : adK (some x) = true := m
      rw [c] at m
      cases m
    | succ k =>
     obtain ⟨ts, m⟩ := m
     exact n k (by simpa using qk) ⟨ts, by simpa using m⟩
  have put : ∀ (i : Nat) (ts : List Tr), o = some i -> (x = .ow ts \/ x = .rf ts) -> (abQ src ρi (abI i ts ρ))[j]? = some s -> (∃ (k : Nat) (ts : List Tr), (o :: src)[k]? = some (some j) /\ ((x :: ρi)[k]? = some (.ow ts) \/ (x :: ρi)[k]? = some (.rf ts)) /\ (abI j ts ρ)[j]? = some s) \/ ((∀ k : Nat, (o :: src)[k]? = some (some j) -> ¬ Mu (x :: ρi) k) /\ ρ[j]? = some s) := λi ts eo ex h => by
   rcases af7 It h with ⟨k, us, q1, q2, q3⟩ | ⟨n, q⟩
   ·have ne : j ≠ i := λz => by
     subst z
     have := I 0 (k + 1) j (by simpa using eo) (by simpa using q1)
     omega
    refine .inl ⟨k + 1, us, by simpa using q1, by simpa using q2, ?_⟩
    rw [<-apQ (al7 ne)]
    exact q3
   ·by_cases e : j = i
    ·subst e
     refine .inl ⟨0, ts, by simpa using eo, ?_, q⟩
     rcases ex with rfl | rfl
     ·exact .inl rfl
     ·exact .inr rfl
    ·rw [al7 e] at q
     refine .inr ⟨λk qk m => ?_, q⟩
     cases k with
     | zero =>
      rw [eo] at qk
      simp at qk
      exact e qk.symm
     | succ k =>
      obtain ⟨ts, m⟩ := m
      exact n k (by simpa using qk) ⟨ts, by simpa using m⟩
  cases o with
  | none => unfold abQ at h; exact keep (.inl rfl) h
  | some i =>
   cases x with
   | un => unfold abQ at h; exact keep (.inr rfl) h
   | sh _ => unfold abQ at h; exact keep (.inr rfl) h
   | dp _ => unfold abQ at h; exact keep (.inr rfl) h
   | ow ts => unfold abQ at h; exact put i ts rfl (.inl rfl) h
   | rf ts => unfold abQ at h; exact put i ts rfl (.inr rfl) h
theorem aik {src : List (Option Nat)} {ρ : En} {k : Nat} {s : Sl} (h : (acL src ρ)[k]? = some s) (n : s ≠ .un) : ∃ j, src[k]? = some (some j) /\ ρ[j]? = some s := by
 unfold acL at h
 rw [List.getElem?_map] at h
 cases q : src[k]? with
 | none => rw [q] at h; cases h
 | some o =>
  rw [q] at h
  cases o with
  | none => cases h; exact (n rfl).elim
  | some j =>
   refine ⟨j, rfl, ?_⟩
   have h : aeb ((ρ[j]?).getD .un) = s := Option.some.inj h
   cases z : ρ[j]? with
   | none => rw [z] at h; exact (n h.symm).elim
   | some s' =>
    rw [z] at h
    have h : aeb s' = s := h
    cases s' <;> first | exact congrArg some h | exact (n h.symm).elim
theorem anz {src : List (Option Nat)} {ρ : En} {k : Nat} {ts : List Tr} (h : (acL src ρ)[k]? = some (.dp ts)) : False := by
 unfold acL at h
 rw [List.getElem?_map] at h
 cases q : src[k]? with
 | none => rw [q] at h; cases h
 | some o =>
  rw [q] at h
  cases o with
  | none => cases h
  | some j =>
   have h : aeb ((ρ[j]?).getD .un) = .dp ts := Option.some.inj h
   cases z : (ρ[j]?).getD Sl.un <;> rw [z] at h <;> cases h
theorem akI {src : List (Option Nat)} {ρi ρ : En} {j : Nat} {ts : List Tr} (I : Inj src) (h : (abQ src ρi ρ)[j]? = some (.dp ts)) : ρ[j]? = some (.dp ts) := by
 rcases af7 I h with ⟨k, us, _, _, q⟩ | ⟨_, q⟩
 ·exact ady q
 ·exact q
theorem ahq {src : List (Option Nat)} {σ : St} {k j : Nat} (h : src[k]? = some (some j)) : (aeK src σ)[k]? = some ((σ[j]?).join) := by
 unfold aeK
 rw [List.getElem?_map, h]
 rfl
end L2
end
section
namespace L2
open PySem PySem.Spec PyProof.Rows
noncomputable def OU (src : List (Option Nat)) (ρ : En) (σ : St) (F : Nat -> List Addr) (b : Addr) : Prop := (∃ j : Nat, Mu ρ j /\ σ[j]? = some (some (.ref b)) /\ ∀ k : Nat, src[k]? ≠ some (some j)) \/ ∃ (j : Nat) (ts : List Tr), ρ[j]? = some (.dp ts) /\ b ∈ F j
open Classical in
noncomputable def tB' (t : Tx) (src : List (Option Nat)) (ρ : En) (σ : St) (F : Nat -> List Addr) (H1 : Hp) (D : Addr) (xs : List V) : Tx := ⟨t.K, t.Z, t.R, t.H0, λb => if b = D then some (.lst xs) else if OU src ρ σ F b then H1 b else t.B b, λ_ => False⟩
section
variable {t : Tx} {src : List (Option Nat)} {ρ1 : En} {σ : St} {F : Nat -> List Addr} {H1 : Hp} {D : Addr} {W : Addr -> Prop}
theorem B_D {xs : List V} : (tB' t src ρ1 σ F H1 D xs).B D = some (.lst xs) := if_pos rfl
theorem aoK {xs : List V} {b : Addr} (h1 : b ≠ D) (h2 : ¬ OU src ρ1 σ F b) : (tB' t src ρ1 σ F H1 D xs).B b = t.B b := by
 unfold tB'
 dsimp only
 rw [if_neg h1, if_neg h2]
theorem apR {xs : List V} {b : Addr} (h1 : b ≠ D) (h2 : OU src ρ1 σ F b) : (tB' t src ρ1 σ F H1 D xs).B b = H1 b := by
 unfold tB'
 dsimp only
 rw [if_neg h1, if_pos h2]
theorem apS {k : Nat} (h : Mu (acL src ρ1) k) : ∃ j, src[k]? = some (some j) /\ Mu ρ1 j := by
 obtain ⟨ts, q | q⟩ := h
 ·obtain ⟨j, h1, h2⟩ := aik q (by intro z; cases z)
  exact ⟨j, h1, ts, .inl h2⟩
 ·obtain ⟨j, h1, h2⟩ := aik q (by intro z; cases z)
  exact ⟨j, h1, ts, .inr h2⟩
theorem ahr {k j : Nat} {v : V} (h : src[k]? = some (some j)) (q : (aeK src σ)[k]? = some (some v)) : σ[j]? = some (some v) := by
 rw [ahq h] at q
 have q := Option.some.inj q
 cases z : σ[j]? with
 | none => rw [z] at q; cases q
 | some o =>
  rw [z] at q
  have q : o = some v := q
  rw [q]
theorem afF {k j : Nat} {v : V} (h : src[k]? = some (some j)) (q : σ[j]? = some (some v)) : (aeK src σ)[k]? = some (some v) := by
 rw [ahq h, q]
 rfl
theorem OU.tab {b : Addr} (e1F : EOF t W ρ1 σ H1 F) (z : Tb t.K b) : ¬ OU src ρ1 σ F b := by
 rintro (⟨j, m, q, _⟩ | ⟨j, ts, d', y⟩)
 ·obtain ⟨xs, h⟩ := EOk.arX ⟨F, e1F⟩ m q
  exact e1F.tab.ok.ne z h rfl
 ·obtain ⟨a, xs, _, d⟩ := e1F.dp j ts d'
  exact d.nt e1F.tab.ok z y
theorem auz {xs : List V} {b : Addr} (e1F : EOF t W ρ1 σ H1 F) (hD : H1 D = none) (z : Tb t.K b) : (tB' t src ρ1 σ F H1 D xs).B b = none := by
 have nD : b ≠ D := λy => by
  obtain ⟨ps, h⟩ := e1F.tab.ok.tbl z
  rw [y, hD] at h
  cases h
 rw [aoK nD (OU.tab e1F z)]
 exact e1F.tab.B b z
theorem EOF.enter (I : Inj src) (e1F : EOF t W ρ1 σ H1 F) (hD : H1 D = none) : EOk (tB' t src ρ1 σ F H1 D []) (λb => W b \/ b = D) (acL src ρ1) (aeK src σ) (upd H1 D (.lst [])) := by
 have e1 : EOk t W ρ1 σ H1 := ⟨F, e1F⟩
 have e2 := (e1.hide (aaC hD (.lst [])) hD aaQ).ok
 have tf := e2.tab
 refine ⟨λ_ => [], ?_, e2.zw, e2.z0, e2.wl, e2.f0, e2.n0, λk u h => ?_, λk ts h => ?_, λk ts h => ?_, λk k' a m1 m2 q1 q2 => ?_, λb o h => ?_, λk a m q => ?_, λk ts h => (anz h).elim, λk _ ts _ _ h => (anz h).elim, λk _ ts _ h => (anz h).elim, λk ts h => (anz h).elim, ⟨tf.ok, tf.w, tf.r, λb z => auz e1F hD z⟩⟩
 ·unfold acL aeK
  rw [List.length_map, List.length_map]
 ·obtain ⟨j, h1, h2⟩ := aik h (by intro z; cases z)
  obtain ⟨v, q1, q2⟩ := e2.sh j u h2
  exact ⟨v, afF h1 q1, q2⟩
 ·obtain ⟨j, h1, h2⟩ := aik h (by intro z; cases z)
  obtain ⟨a, xs, q1, q2⟩ := e2.ow j ts h2
  exact ⟨a, xs, afF h1 q1, q2⟩
 ·obtain ⟨j, h1, h2⟩ := aik h (by intro z; cases z)
  obtain ⟨a, xs, q1, q2⟩ := e2.rf j ts h2
  exact ⟨a, xs, afF h1 q1, q2⟩
 ·obtain ⟨j, h1, n1⟩ := apS m1
  obtain ⟨j', h2, n2⟩ := apS m2
  have := e2.dis j j' a n1 n2 (ahr h1 q1) (ahr h2 q2)
  subst this
  exact I k k' j h1 h2
 ·by_cases h1 : b = D
  ·subst h1
   rw [B_D] at h
   rw [aaQ]
   exact h
  ·by_cases h2 : OU src ρ1 σ F b
   ·rw [apR h1 h2] at h
    rw [aaw h1]
    exact h
   ·rw [aoK h1 h2] at h
    exact e2.pn b o h
 ·obtain ⟨j, h1, n1⟩ := apS m
  have q := ahr h1 q
  have wa := e1.addr n1 q
  have nD : a ≠ D := λz => by subst z; exact e1.wn a wa hD
  have nO : ¬ OU src ρ1 σ F a := by
   rintro (⟨j', m', q', u'⟩ | ⟨j', ts, d', z⟩)
   ·have := e1.dis j j' a n1 m' q q'
    subst this
    exact u' k h1
   ·exact e1F.dm j' j ts a d' n1 q z
  rw [aoK nD nO]
  exact e1.pd j a n1 q
theorem EOk.auA {xs ys : List V} {ρ : En} {τ : St} {H : Hp} {W' : Addr -> Prop} (e : EOk (tB' t src ρ1 σ F H1 D xs) W' ρ τ H) (w : W' D) (h0 : t.H0 D = none) : EOk (tB' t src ρ1 σ F H1 D ys) W' ρ τ (upd H D (.lst ys)) := by
 have ne : ∀ i a, Mu ρ i -> τ[i]? = some (some (.ref a)) -> a ≠ D := λi a m q z => by
  subst z
  have := e.pd i a m q
  rw [B_D] at this
  cases this
 obtain ⟨F', e⟩ := e
 have neD : ∀ i ts, ρ[i]? = some (Sl.dp ts) -> ∀ b ∈ F' i, b ≠ D := λi ts h b hb z => by
  subst z
  have := e.db i ts h b hb
  rw [B_D] at this
  cases this
 refine ⟨F', e.len, e.zw, e.z0, λb z => ?_, λb o h n => ?_, λb h => ?_, λi u h => ?_, λi ts h => ?_, λi ts h => ?_, e.dis, λb o h => ?_, λi a m q => ?_, λi ts h => ?_, e.dd, e.dm, λi ts h b hb => ?_, ⟨e.tab.ok.upd (e.pn D _ B_D), e.tab.w, e.tab.r, λb z => ?_⟩⟩
 ·by_cases q : b = D
  ·subst q; exact .inl ⟨ys, aaQ⟩
  ·unfold Lt; rw [aaw q]; exact e.wl b z
 ·rw [aaw]
  ·exact e.f0 b o h n
  ·rintro rfl
   have h : t.H0 b = some o := h
   rw [h0] at h
   cases h
 ·by_cases q : b = D
  ·subst q; exact h0
  ·rw [aaw q] at h; exact e.n0 b h
 ·rw [acI w]
  exact e.sh i u h
 ·obtain ⟨a, zs, q1, q2, q3, q4, q5⟩ := e.ow i ts h
  rw [acI w]
  exact ⟨a, zs, q1, q2, q3, by rw [aaw (ne i a ⟨ts, .inl h⟩ q1)]; exact q4, q5⟩
 ·obtain ⟨a, zs, q1, q2, q3, q4, q5⟩ := e.rf i ts h
  rw [acI w]
  exact ⟨a, zs, q1, q2, q3, by rw [aaw (ne i a ⟨ts, .inr h⟩ q1)]; exact q4, q5⟩
 ·by_cases h1 : b = D
  ·subst h1
   rw [B_D] at h
   rw [aaQ]
   exact h
  ·rw [aaw h1]
   refine e.pn b o ?_
   by_cases h2 : OU src ρ1 σ F b
   ·rw [apR h1 h2] at h ⊢; exact h
   ·rw [aoK h1 h2] at h ⊢; exact h
 ·have nD := ne i a m q
  have z := e.pd i a m q
  by_cases h2 : OU src ρ1 σ F a
  ·rw [apR nD h2] at z ⊢; exact z
  ·rw [aoK nD h2] at z ⊢; exact z
 ·obtain ⟨a, zs, q1, d⟩ := e.dp i ts h
  exact ⟨a, zs, q1, d.move rfl rfl (by rw [acI w]; exact Same.refl _) (λb hb => by obtain ⟨_, _, _, ww, _⟩ := d; exact (ww b hb).1) λb o hb q => by rw [aaw (neD i ts h b hb)]; exact q⟩
 ·have nD := neD i ts h b hb
  have z := e.db i ts h b hb
  by_cases h2 : OU src ρ1 σ F b
  ·rw [apR nD h2] at z ⊢; exact z
  ·rw [aoK nD h2] at z ⊢; exact z
 ·have y := e.tab.B b z
  have nD : b ≠ D := λq => by
   subst q
   rw [B_D] at y
   cases y
  by_cases h2 : OU src ρ1 σ F b
  ·rw [apR nD h2] at y ⊢; exact y
  ·rw [aoK nD h2] at y ⊢; exact y
theorem EOF.leave {xs : List V} {ρ : En} {τ : St} {H : Hp} {Wx : Addr -> Prop} {js : List Nat} (I : Inj src) (e1F : EOF t W ρ1 σ H1 F) (hD : H1 D = none) (e : EOk (tB' t src ρ1 σ F H1 D xs) (λb => W b \/ b = D) ρ τ H) (nx : ∀ b o, ¬ W b -> H1 b = some o -> H b = some o)
  (hj : ∀ k j : Nat, src[k]? = some (some j) -> k ∉ js) (ag : ∀ k, k ∉ js -> τ[k]? = (aeK src σ)[k]?) (so : acV src ρ ρ1 = true) (w1 : ∀ b, W b -> Wx b) (w2 : ∀ b, Wx b -> W b \/ b = D) : EOF t Wx (abQ src ρ ρ1) σ H F := by
 have e1 : EOk t W ρ1 σ H1 := ⟨F, e1F⟩
 have m1 : Same (aaT W H1) (aaT Wx H) := λb o h => by
  obtain ⟨n, h⟩ := abe h
  rw [aaM]
  ·exact nx b o n h
  ·intro z
   rcases w2 b z with z | rfl
   ·exact n z
   ·rw [hD] at h; cases h
 have m2 : Same (aaT (λb => W b \/ b = D) H) (aaT Wx H) := ab9 (λb _ _ z => w2 b z) λ_ _ _ h => h
 have muo : ∀ j, Mu (abQ src ρ ρ1) j -> Mu ρ1 j := λj m => by
  obtain ⟨ts, m | m⟩ := m <;> rcases af7 I m with ⟨k, us, q1, q2, q3⟩ | ⟨n, q⟩
  ·exact aeS ⟨ts, .inl q3⟩
  ·exact ⟨ts, .inl q⟩
  ·exact aeS ⟨ts, .inr q3⟩
  ·exact ⟨ts, .inr q⟩
 have inner : ∀ (k j : Nat) (ts : List Tr) (a : Addr), src[k]? = some (some j) -> (ρ[k]? = some (.ow ts) \/ ρ[k]? = some (.rf ts)) -> σ[j]? = some (some (.ref a)) -> ∃ ys, H a = some (.lst ys) /\ aaO t.K (aaT Wx H) ys ts := λk j ts a q1 q2 q3 => by
  have z := ag k (hj k j q1)
  rw [afF q1 q3] at z
  rcases q2 with q2 | q2
  ·obtain ⟨c, ys, h1, h2, h3, h4, h5⟩ := e.ow k ts q2
   rw [z] at h1
   cases h1
   exact ⟨ys, h4, h5.mono m2⟩
  ·obtain ⟨c, ys, h1, h2, h3, h4, h5⟩ := e.rf k ts q2
   rw [z] at h1
   cases h1
   exact ⟨ys, h4, h5.mono m2⟩
 have outer : ∀ (j : Nat) (a : Addr) (ys : List V), Mu ρ1 j -> (∀ k, src[k]? = some (some j) -> ¬ Mu ρ k) -> σ[j]? = some (some (.ref a)) -> H1 a = some (.lst ys) -> H a = some (.lst ys) := λj a ys m n q h => by
  have wa := e1.addr m q
  have nD : a ≠ D := λz => by subst z; exact e1.wn a wa hD
  refine e.pn a _ ?_
  rw [apR nD (.inl ⟨j, m, q, λk z => n k z (ahp so z m)⟩)]
  exact h
 refine ⟨by rw [af6]; exact e1.len, λb z => w1 b (e1.zw b z), e1.z0, λb z => e.wl b (w2 b z), e.f0, e.n0, λj u h => ?_, λj ts h => ?_, λj ts h => ?_, λj k a n1 n2 => e1.dis j k a (muo j n1) (muo k n2), λb o h => ?_, λj a m => e1.pd j a (muo j m), λj ts h => ?_, λj k ts us n h1 h2 => e1F.dd j k ts us n (akI I h1) (akI I h2), λj k ts c h1 m q => e1F.dm j k ts c (akI I h1) (muo k m) q, λj ts h => e1F.db j ts (akI I h), ⟨e.tab.ok, λb z => w1 b (e1.tab.w b z), e1.tab.r, e1.tab.B⟩⟩
 ·have h' : ρ1[j]? = some (.sh u) := by
   rcases af7 I h with ⟨k, us, q1, q2, q3⟩ | ⟨n, q⟩
   ·rcases ac6 q3 with ⟨ne, _⟩ | ⟨_, ⟨_, _, z⟩ | ⟨_, _, z⟩ | ⟨_, q⟩⟩
    ·exact (ne rfl).elim
    ·cases z
    ·cases z
    ·exact q
   ·exact q
  obtain ⟨v, q1, q2⟩ := e1.sh j u h'
  exact ⟨v, q1, q2.mono m1⟩
 ·rcases af7 I h with ⟨k, us, q1, q2, q3⟩ | ⟨n, q⟩
  ·rcases ac6 q3 with ⟨ne, _⟩ | ⟨_, ⟨ts0, q0, z⟩ | ⟨_, _, z⟩ | ⟨nm, q⟩⟩
   ·exact (ne rfl).elim
   ·cases z
    obtain ⟨a, ys, h1, h2, h3, h4, h5⟩ := e1.ow j ts0 q0
    obtain ⟨zs, k1, k2⟩ := inner k j ts a q1 q2 h1
    exact ⟨a, zs, h1, w1 a h2, h3, k1, k2⟩
   ·cases z
   ·exact (nm ⟨ts, .inl q⟩).elim
  ·obtain ⟨a, ys, h1, h2, h3, h4, h5⟩ := e1.ow j ts q
   exact ⟨a, ys, h1, w1 a h2, h3, outer j a ys ⟨ts, .inl q⟩ n h1 h4, h5.mono m1⟩
 ·rcases af7 I h with ⟨k, us, q1, q2, q3⟩ | ⟨n, q⟩
  ·rcases ac6 q3 with ⟨ne, _⟩ | ⟨_, ⟨_, _, z⟩ | ⟨ts0, q0, z⟩ | ⟨nm, q⟩⟩
   ·exact (ne rfl).elim
   ·cases z
   ·cases z
    obtain ⟨a, ys, h1, h2, h3, h4, h5⟩ := e1.rf j ts0 q0
    obtain ⟨zs, k1, k2⟩ := inner k j ts a q1 q2 h1
    exact ⟨a, zs, h1, w1 a h2, h3, k1, k2⟩
   ·exact (nm ⟨ts, .inr q⟩).elim
  ·obtain ⟨a, ys, h1, h2, h3, h4, h5⟩ := e1.rf j ts q
   exact ⟨a, ys, h1, w1 a h2, h3, outer j a ys ⟨ts, .inr q⟩ n h1 h4, h5.mono m1⟩
 ·have nD : b ≠ D := λz => by
   subst z
   rw [e1.noB hD] at h
   cases h
  have nO : ¬ OU src ρ1 σ F b := by
   rintro (⟨j, m, q, _⟩ | ⟨j, ts, d', z⟩)
   ·rw [e1.pd j b m q] at h
    cases h
   ·rw [e1F.db j ts d' b z] at h
    cases h
  refine e.pn b o ?_
  rw [aoK nD nO]
  exact h
 ·have hd := akI I h
  obtain ⟨a, ys, q1, d⟩ := e1F.dp j ts hd
  have ww : ∀ b ∈ F j, W b := λb hb => by obtain ⟨_, _, _, ww, _⟩ := d; exact (ww b hb).1
  refine ⟨a, ys, q1, d.move rfl rfl m1 (λb hb => w1 b (ww b hb)) λb o hb q => ?_⟩
  have nD : b ≠ D := λz => by subst z; exact e1.wn b (ww b hb) hD
  refine e.pn b o ?_
  rw [apR nD (.inr ⟨j, ts, hd, hb⟩)]
  exact q
end
noncomputable def clV : Rv -> Rs Tr
 | .v T _ => .ok T
 | .s _ => .bad
theorem apT (r : Rv) (c : Str) : clV r ≠ .ex c := by cases r <;> (intro z; cases z)
noncomputable def adq (g : GF) (c : BF) (f : EF) : List Tr -> En -> Rs (List Tr × En)
 | [], ρ => .ok ([], ρ)
 | u :: us, ρ => (g u ρ).bind λρ1 => (c ρ1).bind λb => if b.1 = true then (f b.2).bind λp => (clV p.1).bind λT => (adq g c f us p.2).bind λz => .ok (T :: z.1, z.2) else adq g c f us b.2
noncomputable def acn (src : List (Option Nat)) (fi : IF) (g : GF) (c : BF) (f : EF) : EF := λρ => (fi ρ).bind λp => if p.1.length <= 100000 then (abX (adq g c f p.1 (acL src p.2))).bind λz => if acV src z.2 p.2 = true then .ok (.v (.lst z.1) true, abQ src z.2 p.2) else .bad else .bad
theorem aj5 {t : Tx} {wi : TI} {g : TG} {src : List (Option Nat)} {tc : TT} {te : TE} {fi : IF} {gf : GF} {c : BF} {f : EF} {js : List Nat} (hi : SI t wi fi) (I : Inj src) (hj : ∀ k j : Nat, src[k]? = some (some j) -> k ∉ js) (ng : ∀ T ρ c, gf T ρ ≠ .ex c)
  (hg : ∀ t' : Tx, t'.K = t.K -> (∀ c, ¬ t'.EX c) -> SG t' g gf js) (hc : ∀ t' : Tx, t'.K = t.K -> (∀ c, ¬ t'.EX c) -> ST t' tc c) (he : ∀ t' : Tx, t'.K = t.K -> (∀ c, ¬ t'.EX c) -> SE t' te f) : SE t (aij wi g src tc te) (acn src fi gf c f) := λW ρ σ H Q e h => by
 refine hi W ρ σ H _ e (Rs.aag (Rs.aae h) λp h J H1 e1 s1 it => ?_)
 obtain ⟨us, ρ1⟩ := p
 dsimp only at h it e1
 split at h
 case isFalse => exact h.elim
 rename_i hlen
 intro D hD
 have h := aeo (Rs.aae h)
 obtain ⟨F, e1F⟩ := id e1
 have wD : ∀ b, W b -> b ≠ D := λb w z => by subst z; exact e1.wn b w hD
 have h0D : t.H0 D = none := e1.n0 D hD
 refine ⟨λi m τ H' => m = us.length - i /\ i <= us.length /\ ∃ ρ' xs acc, EOk (tB' t src ρ1 σ F H1 D xs) (λb => W b \/ b = D) ρ' τ H' /\ aaO t.K (aaT (λb => W b \/ b = D) H') xs acc /\ xs.length <= i /\ (∀ b o, ¬ W b -> H1 b = some o -> H' b = some o) /\ (∀ k, k ∉ js -> τ[k]? = (aeK src σ)[k]?) /\
   (adq gf c f (us.drop i) ρ').post (λ_ => False) (λz => (if acV src z.2 ρ1 = true then .ok (.v (.lst (acc ++ z.1)) true, abQ src z.2 ρ1) else .bad : Rs (Rv × En)).post t.EX (λp => ∀ v H', EOk t W p.2 σ H' -> Stp W H H' -> VOE t W p.2 σ H H' v p.1 -> Q v H')), ?_, ?_⟩
 ·refine ⟨us.length, by simp, Nat.zero_le _, acL src ρ1, [], [], e1F.enter I hD, .nil, Nat.le_refl _, λb o _ q => ?_, λ_ _ => rfl, ?_⟩
  ·rw [aaw (aaS q hD)]; exact q
  ·rw [List.drop_zero]; exact h
 ·rintro i m τ H2 ⟨rfl, hi, ρ2, xs, acc, e2, r2, l2, n2, a2, h2⟩
  have sm : Same (aaT W H1) (aaT (λb => W b \/ b = D) H2) := λb o q => by
   obtain ⟨nw, q⟩ := abe q
   rw [aaM]
   ·exact n2 b o nw q
   ·rintro (z | rfl)
    ·exact nw z
    ·rw [hD] at q; cases q
  have q := it _ H2 sm e2.wl i
  by_cases hlt : i < us.length
  ·rw [List.drop_eq_getElem_cons hlt] at h2
   obtain ⟨go, y⟩ := q.2 us[i] (by simp [hlt])
   refine .inr ⟨go, λx H3 yl => ?_⟩
   obtain ⟨s3, r3⟩ := y x H3 yl
   have e3 := e2.grow s3
   refine hg (tB' t src ρ1 σ F H1 D xs) rfl (λ_ => id) _ ρ2 τ H3 x us[i] _ e3 r3 (Rs.aag (aiN (Rs.aae h2) (ng _ _)) λρ4 h σ4 e4 a4 => ?_)
   refine hc (tB' t src ρ1 σ F H1 D xs) rfl (λ_ => id) _ ρ4 σ4 H3 _ e4 (Rs.aag (Rs.aae h) λb h H5 e5 s5 => ?_)
   have st5 : Stp (λb => W b \/ b = D) H2 H5 := (Stp.of s3).trans s5
   have n5 : ∀ b o, ¬ W b -> H1 b = some o -> H5 b = some o := λb o nw qb => by
    have nD : b ≠ D := aaS qb hD
    refine st5.keep b o ?_ (n2 b o nw qb)
    rintro (z | z)
    ·exact nw z
    ·exact nD z
   have a5 : ∀ k, k ∉ js -> σ4[k]? = (aeK src σ)[k]? := λk nk => (a4 k nk).trans (a2 k nk)
   split at h
   ·rename_i cb
    rw [if_pos cb]
    refine he (tB' t src ρ1 σ F H1 D xs) rfl (λ_ => id) _ b.2 σ4 H5 _ e5 (Rs.aag (Rs.aae h) λp h v H6 e6 s6 v6 => ?_)
    obtain ⟨T, kT, h⟩ := abC (Rs.aae h) (apT _)
    have rv : Rep t.K (aaT (λb => W b \/ b = D) H6) v T := by
     obtain ⟨r, ρ7⟩ := p
     cases r with
     | s i => cases kT
     | v U fr =>
      cases kT
      exact VOk.rep (K := t.K) e5.wn v6.1
    refine ⟨xs, e6.pn D _ B_D, Nat.lt_of_le_of_lt (show xs.length <= 100000 by omega) (by decide), us.length - (i + 1), by omega, rfl, hlt, p.2, xs ++ [v], acc ++ [T], e6.auA (.inr rfl) h0D, ?_, by rw [List.length_append]; simp; omega, λb o nw q => ?_, a5, ?_⟩
    ·rw [acI (.inr rfl)]
     exact (r2.mono (st5.trans s6).off).app (.cons rv .nil)
    ·have nD : b ≠ D := aaS q hD
     rw [aaw nD]
     refine s6.keep b o ?_ (n5 b o nw q)
     rintro (z | z)
     ·exact nw z
     ·exact nD z
    ·refine Rs.aag (Rs.aae h) λz h => ?_
     rw [List.append_assoc]
     exact h
   ·rename_i cb
    rw [if_neg cb]
    exact ⟨us.length - (i + 1), by omega, rfl, hlt, b.2, xs, acc, e5, r2.mono st5.off, by omega, n5, a5, h⟩
  ·have z : i = us.length := by omega
   subst z
   rw [List.drop_length] at h2
   have h2 : (if acV src ρ2 ρ1 = true then .ok (.v (.lst (acc ++ [])) true, abQ src ρ2 ρ1) else .bad : Rs (Rv × En)).post t.EX _ := h2
   refine .inl ⟨q.1 rfl, ?_⟩
   split at h2
   ·rename_i so
    rw [List.append_nil] at h2
    have hxs : H2 D = some (.lst xs) := e2.pn D _ B_D
    have eW : EOk t W (abQ src ρ2 ρ1) σ H2 := ⟨F, e1F.leave (Wx := W) I hD e2 n2 hj a2 so (λ_ w => w) λ_ w => .inl w⟩
    have eD : EOh t W D (abQ src ρ2 ρ1) σ H2 := ⟨F, e1F.leave (Wx := λb => W b \/ b = D) I hD e2 n2 hj a2 so (λ_ w => .inl w) λ_ w => w, λi ts hi z => by
     obtain ⟨c, ys, _, bs, _, _, ww, _⟩ := e1F.dp i ts (akI I hi)
     exact wD D (ww D z).1 rfl⟩
    have st : Stp W H1 H2 := ⟨n2, λb q => by
     cases z : H1 b with
     | none => rfl
     | some o =>
      by_cases w : W b
      ·exact ((e2.wl b (.inl w)).ne q).elim
      ·rw [n2 b o w z] at q
       cases q⟩
    refine h2 (.ref D) H2 eW (s1.trans st) ⟨⟨D, xs, acc, rfl, rfl, s1.dom D hD, hxs, r2.mono λb o q => ?_⟩, λU a _ ea => ?_⟩
    ·obtain ⟨nb, q⟩ := abe q
     rw [off_ne λz => nb (.inr z), aaM λz => nb (.inl z)]
     exact q
    ·cases ea
     exact eD
   ·exact h2.elim
noncomputable def aeT : BF := λρ => .ok (true, ρ)
theorem anA {wi : TI} {g : TG} {src : List (Option Nat)} {te : TE} : akz wi g src te = aij wi g src (λ_ H Q => Q true H) te := by
 funext σ H Q
 simp only [akz, aij, if_true]
theorem aec {t : Tx} {wi : TI} {g : TG} {src : List (Option Nat)} {te : TE} {fi : IF} {gf : GF} {f : EF} {js : List Nat} (hi : SI t wi fi) (I : Inj src) (hj : ∀ k j : Nat, src[k]? = some (some j) -> k ∉ js) (ng : ∀ T ρ c, gf T ρ ≠ .ex c)
  (hg : ∀ t' : Tx, t'.K = t.K -> (∀ c, ¬ t'.EX c) -> SG t' g gf js) (he : ∀ t' : Tx, t'.K = t.K -> (∀ c, ¬ t'.EX c) -> SE t' te f) : SE t (akz wi g src te) (acn src fi gf aeT f) := by
 rw [anA]
 exact aj5 hi I hj ng hg (λt' _ _ W ρ σ H Q e h => h H e (Stp.refl _ _)) he
end L2
end
section
namespace L2
open PySem PySem.Spec PyProof.Rows
theorem PS.nox {X : Cx} {st : Stmt} {t : TS} (h : PS X.nox st t) : PS X st t := ⟨λpins s σ H D I hw =>
 wpAny_mono (h pins s σ H D (I.wish _) hw) (λ_ _ q => q.aei) λ_ _ z => False.elim z⟩
theorem EOk.ex {t : Tx} {EX : Str -> Prop} {W : Addr -> Prop} {ρ : En} {σ : St} {H : Hp} (e : EOk t W ρ σ H) : EOk { t with EX := EX } W ρ σ H := e.elim λF e => ⟨F, e.len, e.zw, e.z0, e.wl, e.f0, e.n0, e.sh, e.ow, e.rf, e.dis, e.pn, e.pd, e.dp, e.dd, e.dm, e.db, ⟨e.tab.ok, e.tab.w, e.tab.r, e.tab.B⟩⟩
theorem EOk.atP {t : Tx} {EX : Str -> Prop} {W : Addr -> Prop} {ρ : En} {σ : St} {H : Hp} (e : EOk { t with EX := EX } W ρ σ H) : EOk t W ρ σ H := e.elim λF e => ⟨F, e.len, e.zw, e.z0, e.wl, e.f0, e.n0, e.sh, e.ow, e.rf, e.dis, e.pn, e.pd, e.dp, e.dd, e.dm, e.db, ⟨e.tab.ok, e.tab.w, e.tab.r, e.tab.B⟩⟩
noncomputable def adV (f : SF) : SF := λρ => abX (f ρ)
theorem afg {t : Tx} {ts : TS} {f : SF} (h : ∀ t' : Tx, t'.K = t.K -> (∀ c, ¬ t'.EX c) -> SS t' ts f) : SS t ts (adV f) := λW ρ σ H D e q => by
 refine h { t with EX := λ_ => False } rfl (λ_ => id) W ρ σ H D e.ex (Rs.aag (aeo q) λp q => ?_)
 obtain ⟨fl, ρ'⟩ := p
 cases fl with
 | nx => exact λW' σ' H' e' n => q W' σ' H' e'.atP n
 | rt T fr =>
  refine λv W' σ' H' e' n => q v W' σ' H' e'.atP ?_
  cases fr <;> exact n
 | bk => exact λW' σ' H' e' n => q W' σ' H' e'.atP n
 | ct => exact λW' σ' H' e' n => q W' σ' H' e'.atP n
theorem awT {p : Int -> Int -> Int} (a b : Tr) (c : Str) : gI p a b ≠ .ex c := by
 cases a <;> cases b <;> (intro z; cases z)
theorem apU {q : Int -> Int -> Bool} {p : Int -> Int -> Int} (a b : Tr) (c : Str) : gIC q p a b ≠ .ex c := by
 cases a <;> cases b <;> first | (intro z; cases z; done) | (dsimp only [gIC]; split <;> (intro z; cases z))
theorem awd {p : Int -> Int -> Bool} (a b : Tr) (c : Str) : gB p a b ≠ .ex c := by
 cases a <;> cases b <;> (intro z; cases z)
theorem auB (a b : Tr) (c : Str) : gEq a b ≠ .ex c := by unfold gEq; split <;> (intro z; cases z)
theorem auC (a b : Tr) (c : Str) : gNe a b ≠ .ex c := by unfold gNe; split <;> (intro z; cases z)
theorem auD {f : Bool -> Bool} (a b : Tr) (c : Str) : gIn f a b ≠ .ex c := by
 cases b <;> first | (intro z; cases z; done) | (dsimp only [gIn]; split <;> (intro z; cases z))
theorem auE {f : Bool -> Bool} (a b : Tr) (c : Str) : gIs f a b ≠ .ex c := by
 cases b <;> (intro z; cases z)
theorem ar3 (a b : Tr) (c : Str) : aa9 a b ≠ .ex c := by
 cases a <;> cases b <;> first | (intro z; cases z; done) | (dsimp only [aa9]; split <;> (intro z; cases z))
theorem ar4 (a b : Tr) (c : Str) : abz a b ≠ .ex c := by
 cases a <;> cases b <;> first | (intro z; cases z; done) | (dsimp only [abz]; split <;> (intro z; cases z))
theorem ar5 (a b : Tr) (c : Str) : ac2 a b ≠ .ex c := apU a b c
theorem ar6 (a b : Tr) (c : Str) : ace a b ≠ .ex c := apU a b c
theorem ar7 (a b : Tr) (c : Str) : acw a b ≠ .ex c := apU a b c
theorem ar8 (a b : Tr) (c : Str) : ac3 a b ≠ .ex c := awT a b c
theorem akJ (a b : Tr) (c : Str) : gLe a b ≠ .ex c := awd a b c
theorem auF (a b : Tr) (c : Str) : gGe a b ≠ .ex c := awd a b c
theorem auG (a b : Tr) (c : Str) : gLt a b ≠ .ex c := by
 cases a <;> cases b <;> first | (intro z; cases z; done) | (dsimp only [gLt]; split <;> (intro z; cases z))
theorem auH (a b : Tr) (c : Str) : gIx a b ≠ .ex c := by
 cases a <;> cases b <;> first | (intro z; cases z; done) | (dsimp only [gIx]; split <;> first | (intro z; cases z; done) | (split <;> (intro z; cases z)))
theorem ar9 (a : Tr) (c : Str) : aoC a ≠ .ex c := by cases a <;> (intro z; cases z)
theorem asa (a : Tr) (c : Str) : abZ a ≠ .ex c := by
 cases a <;> first | (intro z; cases z; done) | (dsimp only [abZ]; split <;> (intro z; cases z))
theorem asb (a : Tr) (c : Str) : ad8 a ≠ .ex c := by cases a <;> (intro z; cases z)
theorem anB (a : Tr) (c : Str) : aa5 a ≠ .ex c := by cases a <;> (intro z; cases z)
theorem asd (a b : Tr) (c : Str) : ad9 a b ≠ .ex c := by cases a <;> cases b <;> (intro z; cases z)
theorem ase (a b : Tr) (c : Str) : aea a b ≠ .ex c := by cases a <;> cases b <;> (intro z; cases z)
theorem asf (a : Tr) (c : Str) : ac5 a ≠ .ex c := by
 cases a <;> first | (intro z; cases z; done) | (dsimp only [ac5]; split <;> (intro z; cases z))
theorem abM {i : Nat} (T : Tr) (ρ : En) (c : Str) : gN i T ρ ≠ .ex c := by intro z; cases z
theorem afh (Ts : List Tr) (ρ : En) (c : Str) : ab1 Ts ρ ≠ .ex c := by cases Ts <;> (intro z; cases z)
theorem adW {f : GF} {g : GFs} (h1 : ∀ T ρ c, f T ρ ≠ .ex c) (h2 : ∀ T ρ c, g T ρ ≠ .ex c) (Ts : List Tr) (ρ : En) (c : Str) : aaA f g Ts ρ ≠ .ex c := by
 cases Ts with
 | nil => intro z; cases z
 | cons T r => exact aj3 (h1 T ρ) (λρ' => h2 r ρ') c
theorem aoL {n : Nat} {f : GFs} (h : ∀ T ρ c, f T ρ ≠ .ex c) (T : Tr) (ρ : En) (c : Str) : gT n f T ρ ≠ .ex c := by
 cases T <;> first | (intro z; cases z; done) | (dsimp only [gT]; split <;> first | exact h _ _ _ | (intro z; cases z))
noncomputable def aqM (f : AF) (n : Nat) : Prop := ∀ ρ p, f ρ = .ok p -> p.1.length = n
theorem aaB : aqM aax 0 := λρ p h => by cases h; rfl
theorem aaj {f : EF} {g : AF} {n : Nat} (h : aqM g n) : aqM (aaf f g) (n + 1) := λρ p q => by
 unfold aaf at q
 obtain ⟨a, q1, q⟩ := aaR q
 obtain ⟨b, q2, q⟩ := aaR q
 cases q
 rw [List.length_cons, h _ _ q2]
noncomputable def Gk (K : PySem.W.Frag) (mg : Str -> Option Value) (x : Str) (v : V) (T : Tr) : Prop := ∃ u, mg x = some u /\ RelV v u /\ ∀ H, Rep (nlK K) H v T
theorem auI {X : Cx} {x : Str} {v : V} {T : Tr} {pos : Pos} (h : Gk X.K X.mg x v T) (hg : Gl X x := by rfl) (hd : (x == ("__debug__" : Str)) = false := by decide) : PE X (.Name x pos) (tC v) := by
 obtain ⟨u, h1, h2, _⟩ := h
 exact alu hg h1 h2 hd
theorem ash {t : Tx} {K : PySem.W.Frag} {mg : Str -> Option Value} {x : Str} {v : V} {T : Tr} (hK : t.K = nlK K) (h : Gk K mg x v T) : SE t (tC v) (eC T) := by
 obtain ⟨u, _, _, h⟩ := h
 exact arx λH => by rw [hK]; exact h H
end L2
end
section
namespace L2
open PySem PySem.Spec PyProof.Rows
section
variable {t : Tx} {K : PySem.W.Frag} {ta tb tc : TE} {fa fb fc : EF}
theorem acr (hK : t.K = nlK K) (ha : SE t ta fa) (hb : SE t tb fb) : SE t (tOp (apF K) ta tb) (eOp aa9 fa fb) := aeO (by rw [hK]; exact arE) ar3 ha hb
theorem al8 (hK : t.K = nlK K) (ha : SE t ta fa) (hb : SE t tb fb) : SE t (tOp (rI0 λi j => .int (i - j)) ta tb) (eOp ac3 fa fb) := aeO (by rw [hK]; exact arJ) ar8 ha hb
theorem acW (hK : t.K = nlK K) (ha : SE t ta fa) (hb : SE t tb fb) : SE t (tOp (apG K) ta tb) (eOp abz fa fb) := aeO (by rw [hK]; exact arF (K := K)) ar4 ha hb
theorem ail (hK : t.K = nlK K) (ha : SE t ta fa) (hb : SE t tb fb) : SE t (tOp (rI anl λi j => .int (i.fdiv j)) ta tb) (eOp ac2 fa fb) := aeO (by rw [hK]; exact arG) ar5 ha hb
theorem agD (hK : t.K = nlK K) (ha : SE t ta fa) (hb : SE t tb fb) : SE t (tOp (rI (λ_ j => j ≠ 0) λi j => .int (i.fmod j)) ta tb) (eOp ace fa fb) := aeO (by rw [hK]; exact arH) ar6 ha hb
theorem aiY (hK : t.K = nlK K) (ha : SE t ta fa) (hb : SE t tb fb) : SE t (tOp (rI auc λi j => .int (i ^ j.toNat)) ta tb) (eOp acw fa fb) := aeO (by rw [hK]; exact arI) ar7 ha hb
theorem x_eq (hK : t.K = nlK K) (ha : SE t ta fa) (hb : SE t tb fb) : SE t (tOp (aue K) ta tb) (eOp gEq fa fb) := aeO (by rw [hK]; exact auo) auB ha hb
theorem aoM (hK : t.K = nlK K) (ha : SE t ta fa) (hb : SE t tb fb) : SE t (tOp (aum K) ta tb) (eOp gNe fa fb) := aeO (by rw [hK]; exact aup) auC ha hb
theorem awU (hK : t.K = nlK K) (ha : SE t ta fa) (hb : SE t tb fb) : SE t (tOp (auh K) ta tb) (eOp (gIn id) fa fb) := aeO (by rw [hK]; exact auq) auD ha hb
theorem awV (hK : t.K = nlK K) (ha : SE t ta fa) (hb : SE t tb fb) : SE t (tOp (λx y H Q => y = .non /\ Q (.bl (decide (x = .non))) H) ta tb) (eOp (gIs id) fa fb) := aeO (by rw [hK]; exact arD) auE ha hb
theorem x_lt (hK : t.K = nlK K) (ha : SE t ta fa) (hb : SE t tb fb) : SE t (tOp (aus K) ta tb) (eOp gLt fa fb) := aeO (by rw [hK]; exact aut) auG ha hb
theorem x_ge (hK : t.K = nlK K) (ha : SE t ta fa) (hb : SE t tb fb) : SE t (tOp (rI0 λi j => .bl (decide (j <= i))) ta tb) (eOp gGe fa fb) := aeO (by rw [hK]; exact aur) auF ha hb
theorem aep (hK : t.K = nlK K) (ha : SE t ta fa) (hb : SE t tb fb) : SE t (tOp (rIx K) ta tb) (eOp gIx fa fb) := aeO (by rw [hK]; exact arK) auH ha hb
theorem aiZ (hK : t.K = nlK K) {r r' : R2} {g g' : G2} (o : OpT (nlK K) r g) (o' : OpT (nlK K) r' g') (n : ∀ a b c, g a b ≠ .ex c) (n' : ∀ a b c, g' a b ≠ .ex c) (ha : SE t ta fa) (hb : SE t tb fb) (hc : SE t tc fc) : SE t (ajE r r' ta tb tc) (agX g g' fa fb fc) := ano (by rw [hK]; exact o) (by rw [hK]; exact o') n n' ha hb hc
theorem auJ (ha : SE t ta fa) : SE t (tUn (rU λi => .int (-i)) ta) (eUn aoC fa) := auu aoD ar9 ha
variable {tl : TA} {fl : AF}
theorem x_len (hK : t.K = nlK K) (ha : SA t tl fl) : SE t (tCB (apJ K) tl) (eCB (g1 abZ) fl) := akE (by rw [hK]; exact atO arQ) (ajV asa) ha
theorem asi (hK : t.K = nlK K) (ha : SA t tl fl) : SE t (tCB (λxs H Q => ∃ i, xs = [.int i] /\ Q (.int (if i < 0 then -i else i)) H) tl) (eCB (g1 ad8) fl) := akE (by rw [hK]; exact atO arR) (ajV asb) ha
theorem apV (hK : t.K = nlK K) (ha : SA t tl fl) : SE t (tCB (λxs H Q => ∃ p ys, xs = [.ref p] /\ ((SqL K H p ys /\ ∀ l, H l = none -> Q (.ref l) (upd H l (.tup ys))) \/ (SqT K H p ys /\ Q (.ref p) H))) tl) (eCB (g1 aa5) fl) := akE (by rw [hK]; exact atO anp) (ajV anB) ha
theorem asj (hK : t.K = nlK K) (ha : SA t tl fl) : SE t (tCB (aui K) tl) (eCB (g1 ac5) fl) := akE (by rw [hK]; exact atO arU) (ajV asf) ha
theorem auK (hK : t.K = nlK K) (ha : SA t tl fl) : SE t (tCB (λxs H Q => ∃ i j, xs = [.int i, .int j] /\ Q (.int (if j < i then j else i)) H) tl) (eCB (g2 ad9) fl) := akE (by rw [hK]; exact awc arS) (aoF asd) ha
theorem auL (hK : t.K = nlK K) (ha : SA t tl fl) : SE t (tCB (λxs H Q => ∃ i j, xs = [.int i, .int j] /\ Q (.int (if j > i then j else i)) H) tl) (eCB (g2 aea) fl) := akE (by rw [hK]; exact awc arT) (aoF ase) ha
theorem aaV (hK : t.K = nlK K) {cl : Str -> Addr} {n : Nat} {F : FP} {E : XK} (hx : ∀ c H', F0 t H' -> t.EX c -> E (.ref (cl c)) none H') (hn : aqM fl n) (ha : SA t tl fl) : SE t (ah1 (spP K cl n F) [] E tl) (aau F fl) := aj1 hK hx hn ha
theorem ab6 (hK : t.K = nlK K) {cl : Str -> Addr} {n : Nat} {F : FP} {E : XK} (hx : ∀ c, ¬ t.EX c) (hn : aqM fl n) (ha : SA t tl fl) : SE t (ah1 (spP K cl n F) [] E tl) (aau F fl) := aj1 hK (λc H' _ q => (hx c q).elim) hn ha
theorem acX (hK : t.K = nlK K) {n r nl : Nat} {b : SF} {E : XK} (hn : aqM fl n) (ha : SA t tl fl) : SE t (ah1 (spR K n r (fnR nl r b)) [] E tl) (abv r (fnR nl r b) fl) := anx hK (apP nl r b) hn ha
theorem asl {te : TE} {f : EF} (i : Nat) (h : SE t te f) : SE t (tBM K "list" aiQ (am0 i) (ac4 te alE)) (eMt i al3 (aaf f aax)) := auy i arY apL (aac h aam)
end
end L2
end
section
namespace L2
open PySem PySem.Spec PyProof.Rows
noncomputable def fuI (i : Nat) (ρ : En) : Nat := match ρ[i]? with
 | some (.sh (.int n)) => n.natAbs + 1
 | _ => 0
theorem afi {src : List (Option Nat)} {js : List Nat} (h : js.all (λk => (src[k]?).join.isNone) = true) : ∀ k j : Nat, src[k]? = some (some j) -> k ∉ js := λk j q m => by
 have := List.all_eq_true.mp h k m
 rw [q] at this
 cases this
abbrev bmV : List Value := [.type "ValueError", .type "Exception", .type "BaseException", .type "object"]
noncomputable def awe : G1
 | .lst ts => .ok (.lst ts.reverse, true)
 | _ => .bad
noncomputable def awW (fa : EF) : EF := λρ => (fa ρ).bind λp => (dr p.2 p.1).bind λa => (awe a).bind λz => .ok (.v z.1 z.2, p.2)
end L2
end
section
namespace L2
open PySem PySem.Spec PyProof.Rows
noncomputable def apW (i : Int) : TE := λ_ H Q => Q (.int i) H
noncomputable def kI : Const -> Option Int
 | .int i => some i
 | _ => none
noncomputable def bI (o : Operator) (i j : Int) : Option Int := match o with
 | .Sub => some (i - j)
 | .Add => some (i + j)
 | .Pow => if 0 <= j /\ j <= 100 /\ i.natAbs <= 1000 then some (i ^ j.toNat) else none
 | _ => none
noncomputable def uI (o : UnaryOp) (i : Int) : Option Int := match o with
 | .USub => some (-i)
 | _ => none
noncomputable def cI : Expr -> Option Int
 | .Constant c _ _ => kI c
 | .UnaryOp o e _ => (cI e).bind (uI o)
 | .BinOp a o b _ => (cI a).bind λi => (cI b).bind λj => bI o i j
 | _ => none
theorem auM {X : Cx} {c : Const} {k : Nat} {p : Pos} {i : Int} (h : kI c = some i) : PE X (.Constant c k p) (apW i) := by
 cases c <;> first | (cases h; exact aan) | cases h
theorem auN {X : Cx} {o : UnaryOp} {e : Expr} {p : Pos} {i k : Int} (h : uI o i = some k) (he : PE X e (apW i)) : PE X (.UnaryOp o e p) (apW k) := by
 cases o <;> first | (cases h; exact (apg alB he).imp λσ H Q q => ⟨i, rfl, q⟩) | cases h
theorem auO {X : Cx} {o : Operator} {a b : Expr} {p : Pos} {i j k : Int} (h : bI o i j = some k) (ha : PE X a (apW i)) (hb : PE X b (apW j)) : PE X (.BinOp a o b p) (apW k) := by
 cases o <;> try cases h
 ·exact (aaz aot ha hb).imp λσ H Q q => ⟨i, j, rfl, rfl, q⟩
 ·exact (aaz agR ha hb).imp λσ H Q q => ⟨i, j, rfl, rfl, q⟩
 ·dsimp only [bI] at h
  split at h
  ·rename_i c
   cases h
   have z : (2 : Nat) ^ 64 = 18446744073709551616 := by decide
   exact (aaz ae7 ha hb).imp λσ H Q q => ⟨i, j, rfl, rfl, ⟨c.1, by omega, by omega⟩, q⟩
  ·cases h
theorem anC {X : Cx} (e : Expr) (k : Int) (h : cI e = some k) : PE X e (apW k) := by
 cases e with
 | Constant c _ _ => exact auM h
 | UnaryOp o a _ =>
  have h : (cI a).bind (uI o) = some k := h
  cases e1 : cI a with
  | none => rw [e1] at h; cases h
  | some i => rw [e1] at h; exact auN h (anC a i e1)
 | BinOp a o b _ =>
  have h : ((cI a).bind λi => (cI b).bind λj => bI o i j) = some k := h
  cases e1 : cI a with
  | none => rw [e1] at h; cases h
  | some i =>
   cases e2 : cI b with
   | none => rw [e1, e2] at h; cases h
   | some j => rw [e1, e2] at h; exact auO h (anC a i e1) (anC b j e2)
 | _ => cases h
noncomputable def kT : Const -> Option Tr
 | .none => some .non
 | .bool b => some (.bl b)
 | .str x => some (.str x)
 | .int i => some (.int i)
 | _ => none
mutual
noncomputable def cT : Expr -> Option Tr
 | .Constant c _ _ => kT c
 | .Tuple es _ _ => (cTs es).map .tup
 | .List es _ => (cTs es).map .lst
 | .UnaryOp o a p => (cI (.UnaryOp o a p)).map .int
 | .BinOp a o b p => (cI (.BinOp a o b p)).map .int
 | _ => none
noncomputable def cTs : List Expr -> Option (List Tr)
 | [] => some []
 | e :: r => match cT e, cTs r with
  | some T, some Ts => if Ts.length < 1000 then some (T :: Ts) else none
  | _, _ => none
end
theorem ahs : ∀ {es : List Expr} {Ts : List Tr}, cTs es = some Ts -> Ts.length <= 1000
 | [], Ts, h => by
  unfold cTs at h
  cases h
  decide
 | e :: r, Ts, h => by
  unfold cTs at h
  split at h
  ·split at h
   ·cases h
    rename_i h1
    rw [List.length_cons]
    omega
   ·cases h
  ·cases h
section
variable {X : Cx} {e : Expr} {es : List Expr} {T : Tr} {Ts : List Tr} {pos : Pos} {k : Nat} {G : PySem.W.Frag}
theorem anD : PA X [] (aqK G []) := aal.imp λσ H Q q => q [] H (Same.refl _) λ_ _ => .nil
theorem al9 (h : PE X e (tEv G T)) (r : PA X es (aqK G Ts)) (hs : starEach (e :: es) X.env = (false, eval e X.env) :: starEach es X.env) : PA X (e :: es) (aqK G (T :: Ts)) :=
 (acA h r hs).imp λσ H Q q v H1 s1 rv vs H2 s2 rs => q (v :: vs) H2 (s1.trans s2) λPr p => .cons ((rv Pr p).mono (p.mono s2)) (rs Pr (p.le s1))
theorem aj6 (h : PA X es (aqK G Ts)) (hl : Ts.length <= 1000) : PE X (.Tuple es k pos) (tEv G (.tup Ts)) :=
 (adi h).imp λσ H Q q vs H1 s1 rs => by
  by_cases hv : vs.length <= sizeLine
  ·exact ⟨hv, λa ha => q (.ref a) _ (s1.trans (aaC ha _)) λPr p => .tup (SqT.of ((p.le s1).new (Same.refl _) ha)) ((rs Pr p).mono (p.mono (aaC ha _)))⟩
  ·exact absurd (Nat.le_of_lt (afT (by rw [(rs _ (Pj.id H)).length]; exact hl))) hv
theorem ain (h : PA X es (aqK G Ts)) (hl : Ts.length <= 1000) : PE X (.List es pos) (atM G Ts) :=
 (acB h).imp λσ H Q q vs H1 s1 rs => by
  have e := (rs _ (Pj.id H)).length
  exact ⟨Nat.le_of_lt (afT (by rw [e]; exact hl)), λa ha => q a vs H1 s1 ha rs e⟩
theorem anE (h : PE X e (atM G Ts)) : PE X e (tEv G (.lst Ts)) :=
 h.imp λσ H Q q a xs H1 s1 ha rs _ => q (.ref a) _ (s1.trans (aaC ha _)) λPr p => .lst (SqL.of ((p.le s1).new (Same.refl _) ha)) ((rs Pr p).mono (p.mono (aaC ha _)))
theorem aoN (h : (cI e).map Tr.int = some T) : PE X e (tEv G T) := by
 cases e1 : cI e with
 | none => rw [e1] at h; cases h
 | some i =>
  rw [e1] at h; cases h
  exact (anC e i e1).imp λσ H Q q => q _ H (Same.refl _) λ_ _ => .int i
end
theorem apY {e : Expr} {es : List Expr} {env : Env} {T : Tr} (h : cT e = some T) : starEach (e :: es) env = (false, eval e env) :: starEach es env := by
 cases e <;> first | rfl | (unfold cT at h; cases h)
theorem auP {X : Cx} {G : PySem.W.Frag} {c : Const} {k : Nat} {p : Pos} {T : Tr} (h : kT c = some T) : PE X (.Constant c k p) (tEv G T) := by
 cases c <;> try cases h
 ·exact ahX.imp λσ H Q q => q _ H (Same.refl _) λ_ _ => .non
 ·exact ahW.imp λσ H Q q => q _ H (Same.refl _) λ_ _ => .bl _
 ·exact aan.imp λσ H Q q => q _ H (Same.refl _) λ_ _ => .int _
 ·exact abY.imp λσ H Q q => q _ H (Same.refl _) λ_ _ => .str _
mutual
theorem auQ {X : Cx} {G : PySem.W.Frag} (e : Expr) (T : Tr) (h : cT e = some T) : PE X e (tEv G T) := by
 cases e with
 | Constant c _ _ => exact auP (by unfold cT at h; exact h)
 | Tuple es _ _ =>
  unfold cT at h
  cases e : cTs es with
  | none => rw [e] at h; cases h
  | some Ts =>
   rw [e] at h
   cases h
   exact aj6 (ama es Ts e) (ahs e)
 | List es _ =>
  unfold cT at h
  cases e : cTs es with
  | none => rw [e] at h; cases h
  | some Ts =>
   rw [e] at h
   cases h
   exact anE (ain (ama es Ts e) (ahs e))
 | UnaryOp o a p => exact aoN (by unfold cT at h; exact h)
 | BinOp a o b p => exact aoN (by unfold cT at h; exact h)
 | _ => unfold cT at h; cases h
theorem ama {X : Cx} {G : PySem.W.Frag} : ∀ (es : List Expr) (Ts : List Tr), cTs es = some Ts -> PA X es (aqK G Ts)
 | [], Ts, h => by
  unfold cTs at h; cases h
  exact anD
 | e :: r, Ts, h => by
  unfold cTs at h
  cases e1 : cT e with
  | none => rw [e1] at h; cases h
  | some T =>
   cases e2 : cTs r with
   | none => rw [e1, e2] at h; cases h
   | some Us =>
    rw [e1, e2] at h
    dsimp only at h
    split at h
    ·cases h
     exact al9 (auQ e T e1) (ama r Us e2) (apY e1)
    ·cases h
end
theorem aeU {X : Cx} {G : PySem.W.Frag} {es : List Expr} {pos : Pos} {Ts : List Tr} (h : cTs es = some Ts) : PE X (.List es pos) (atM G Ts) := ain (ama es Ts h) (ahs h)
theorem aeV {X : Cx} {G : PySem.W.Frag} {es : List Expr} {k : Nat} {pos : Pos} {Ts : List Tr} (h : cTs es = some Ts) : PE X (.Tuple es k pos) (tEv G (.tup Ts)) := aj6 (ama es Ts h) (ahs h)
end L2
end
section
namespace L2
open PySem PySem.Spec PyProof.Rows
theorem Pj.aaT {W : Addr -> Prop} {H : Hp} (hw : ∀ b, W b -> H b ≠ none) : Pj (L2.aaT W) H where
 mono := λs => (Stp.of s).off
 sub := λH => abf W H
 new := λ{H' r o} s h => by
  rw [aaM λw => hw r w (s.free h)]
  exact aaQ
noncomputable def eCL (Ts : List Tr) : EF := λρ => .ok (.v (.lst Ts) true, ρ)
theorem akK {t : Tx} {K : PySem.W.Frag} (hK : t.K = nlK K) {T : Tr} : SE t (tEv (nlK K) T) (eC T) := λW ρ σ H Q e h => λv H' s r => by
 rw [<-hK] at r
 exact h v H' (e.grow s) (Stp.of s) (.low (r _ (Pj.aaT e.wn)))
theorem aeW {t : Tx} {K : PySem.W.Frag} (hK : t.K = nlK K) {Ts : List Tr} : SE t (atM (nlK K) Ts) (eCL Ts) := λW ρ σ H Q e h => λa xs H1 s ha r _ => by
 rw [<-hK] at r
 have e1 := e.grow s
 exact h _ _ (e1.grow (aaC ha _)) ((Stp.of s).trans (Stp.of (aaC ha _))) ((VOE.of (σ' := σ) e1 (aaC ha _) (VOk.new ha (r _ (Pj.aaT e.wn)))).back λb q => s.free q)
end L2
end
section
namespace L2
open PySem PySem.Spec PyProof.Rows
noncomputable def af8 : Expr -> Bool
 | .ListComp .. => false
 | .SetComp .. => false
 | .DictComp .. => false
 | _ => true
theorem aht {e : Expr} {t : Option Expr} {l : Nat} {env : Env} (h : af8 e = true) : swapsWith e t l env = pure false := by
 cases e <;> first | rfl | (unfold af8 at h; cases h)
section
variable {X : Cx} {x : Str} {e : Expr} {es : List Expr} {te : TE} {ta : TA} {pos pos' p : Pos} {k : Nat} {ps : List Str} {sp : Sp} {E : XK}
theorem pvL (i : Nat) (hN : X.N[i]? = some x := by kernel_rfl) (hv : X.env.scope.names.lookup x = some .local := by kernel_rfl) (hd : (x == ("__debug__" : Str)) = false := by kernel_rfl) (hc : (x == ("__classdict__" : Str)) = false := by kernel_rfl) : PE X (.Name x pos) (am0 i) := als hN (.inl hv) hd hc
theorem pvC (i : Nat) (hN : X.N[i]? = some x := by kernel_rfl) (hv : X.env.scope.names.lookup x = some .cell := by kernel_rfl) (hd : (x == ("__debug__" : Str)) = false := by kernel_rfl) (hc : (x == ("__classdict__" : Str)) = false := by kernel_rfl) : PE X (.Name x pos) (am0 i) := als hN (.inr (.inl hv)) hd hc
theorem pvF (i : Nat) (hN : X.N[i]? = some x := by kernel_rfl) (hv : X.env.scope.names.lookup x = some .free := by kernel_rfl) (hd : (x == ("__debug__" : Str)) = false := by kernel_rfl) (hc : (x == ("__classdict__" : Str)) = false := by kernel_rfl) : PE X (.Name x pos) (am0 i) := als hN (.inr (.inr hv)) hd hc
theorem psL (i : Nat) (hN : X.N.Nodup) (he : PE X e te) (hi : X.N[i]? = some x := by kernel_rfl) (hx : X.env.scope.names.lookup x = some .local := by kernel_rfl) (h : af8 e = true := by kernel_rfl) : PS X (.Assign [.Name x pos'] e pos) (am1 te (acS i)) := aoq hN hi (.inl hx) he (aht h) (.inr hx)
theorem psC (i : Nat) (hN : X.N.Nodup) (hf : X.fn x = true) (he : PE X e te) (hi : X.N[i]? = some x := by kernel_rfl) (hx : X.env.scope.names.lookup x = some .cell := by kernel_rfl) (h : af8 e = true := by kernel_rfl) : PS X (.Assign [.Name x pos'] e pos) (am1 te (acS i)) := aoq hN hi (.inr hx) he (aht h) (.inl hf)
theorem amb {K : PySem.W.Frag} (ha : PE X e te) (hK : X.K = K) (he : ∀ whole, isTrue e X.env whole = (do let v <-whole; standAt e.pos; holding [v] (truthy v))) : PT X e (λσ H Q => te σ H λx H' => ∃ k, aq5 K x H' k /\ Q k H') := hK ▸ ab5 ha he
theorem psE (he : PE X e te) (h : af8 e = true := by kernel_rfl) : PS X (.Expr e pos) (apa te) := apb he (aht h)
theorem pgL (i : Nat) (hN : X.N.Nodup) (hi : X.N[i]? = some x := by kernel_rfl) (hx : X.env.scope.names.lookup x = some .local := by kernel_rfl) : PG X (.Name x pos) (acS i) := apc hN hi (.inl hx) (.inr hx)
theorem pcF (D : DfX X.prog X.w X.K X.mg X.base k x ps sp) (hr : aeI k X.A) (hx : Passes (CXF X.prog X.w) X E) (ha : PA X (e :: es) ta) (hg : X.env.kindOf x = some .globalImplicit := by kernel_rfl) (hdb : (x == ("__debug__" : Str)) = false := by kernel_rfl)
  (he : notStar e = true := by kernel_rfl) (hpl : (backTo pos (starEach es X.env)).any (·.1) = false := by kernel_rfl) : PE X (.Call (.Name x p) (e :: es) [] pos) (ah1 sp [] E ta) := anw D hr hx ha hg hdb (acE he) hpl
theorem pcB {r : List V -> Hp -> VK -> Prop} {id : String} (hc : acH X (.builtin id) r) (hm : X.mg x = none) (ha : PA X (e :: es) ta) (hv : bootBuiltins x = some (.builtin id) := by decide +kernel) (hg : X.env.kindOf x = some .globalImplicit := by kernel_rfl) (hn : x ≠ "__name__" := by decide +kernel) (hdb : (x == ("__debug__" : Str)) = false := by kernel_rfl)
  (he : notStar e = true := by kernel_rfl) (hpl : (backTo pos (starEach es X.env)).any (·.1) = false := by kernel_rfl) : PE X (.Call (.Name x p) (e :: es) [] pos) (tCB r ta) := afB hc hg hm hv ha hn hdb (acE he) hpl
theorem awX {r : List V -> Hp -> VK -> Prop} {T : String} (hc : acH X (.type T) r) (hm : X.mg x = none) (ha : PA X (e :: es) ta) (hv : bootBuiltins x = some (.type T) := by decide +kernel) (hg : X.env.kindOf x = some .globalImplicit := by kernel_rfl) (hn : x ≠ "__name__" := by decide +kernel) (hdb : (x == ("__debug__" : Str)) = false := by kernel_rfl)
  (he : notStar e = true := by kernel_rfl) (hpl : (backTo pos (starEach es X.env)).any (·.1) = false := by kernel_rfl) : PE X (.Call (.Name x p) (e :: es) [] pos) (tCB r ta) := alG hc hg hm hv ha hn hdb (acE he) hpl
theorem pcI (hX : XOk X.K) (c : Ty) {q : Pos} (he : PE X e te) (h1 : X.mg "isinstance" = none) (h2 : X.mg x = none) (hb : bootBuiltins x = some (.type c.name) := by decide +kernel) (hg1 : X.env.kindOf "isinstance" = some .globalImplicit := by kernel_rfl) (hg2 : X.env.kindOf x = some .globalImplicit := by kernel_rfl) (hn : x ≠ "__name__" := by decide +kernel) (hd : (x == ("__debug__" : Str)) = false := by kernel_rfl)
  (hs : notStar e = true := by kernel_rfl) : PE X (.Call (.Name "isinstance" p) [e, .Name x q] [] pos) (tCB (atL X.K) (ac4 te (ac4 (tC (.ty c.name)) alE))) := ars hX c he h1 h2 hb hg1 hg2 hn hd (acE hs)
theorem paK {t : TA} (ha : PE X e te) (hr : PA X es t) (h : notStar e = true := by kernel_rfl) : PA X (e :: es) (ac4 te t) := acA ha hr (acE h)
theorem pGk {v : V} {T : Tr} (h : Gk X.K X.mg x v T) (hg : X.env.kindOf x = some .globalImplicit := by kernel_rfl) (hd : (x == ("__debug__" : Str)) = false := by kernel_rfl) : PE X (.Name x pos) (tC v) := auI h hg hd
theorem piR {a tg : Expr} (hm : X.mg "range" = none) (ha : PA X [a] ta) (hg : X.env.kindOf "range" = some .globalImplicit := by kernel_rfl) (hs : notStar a = true := by kernel_rfl) : PI X tg (.Call (.Name "range" p) [a] [] pos) (apf ta) := alz hg hm ha (acE hs)
end
end L2
end
section
namespace L2
open PySem PySem.Spec PyProof.Rows
section
variable {t : Tx} {W : Addr -> Prop} {ρ : En} {σ : St} {H : Hp}
noncomputable def adX (ρ : En) (i : Nat) : Rs (List Tr) := match ρ[i]? with
 | some (.dp ts) => .ok ts
 | _ => .bad
end
end L2
end
section
namespace L2
open PySem PySem.Spec PyProof.Rows
noncomputable abbrev QF := En -> Rs Tr
section
variable {t : Tx} {K : PySem.W.Frag}
noncomputable def awY (i : Nat) : QF := λρ => match ρ[i]? with
 | some (.sh T) => .ok T
 | _ => .bad
noncomputable def qC (T : Tr) : QF := λ_ => .ok T
noncomputable def ixT (ts : List Tr) (k : Tr) : Rs (Nat × Tr) := match k with
 | .int i => (match ixN ts.length i with
  | some j => (match ts[j]? with
   | some u => .ok (j, u)
   | none => .bad)
  | none => .bad)
 | _ => .bad
noncomputable def awZ (i : Nat) (fk fj : QF) : QF := λρ => (adX ρ i).bind λts => (fk ρ).bind λk => (ixT ts k).bind λz => match z.2 with
 | .lst us => (fj ρ).bind λj => (ixT us j).bind λy => .ok y.2
 | _ => .bad
noncomputable def aw0 (i : Nat) (fk : QF) (m : GM) (fa : QF) : SF := λρ => (adX ρ i).bind λts => (abX (fk ρ)).bind λk => (ixT ts k).bind λz => match z.2 with
 | .lst us => (abX (fa ρ)).bind λT => (m us [T]).bind λy => .ok (.nx, ρ.set i (.dp (ts.set z.1 (.lst y.1))))
 | _ => .bad
noncomputable def auR (i : Nat) (fk fj : QF) (fe : EF) : SF := λρ => (fe ρ).bind λp => (clV p.1).bind λT => (adX p.2 i).bind λts => (abX (fk p.2)).bind λk => (ixT ts k).bind λz => match z.2 with
 | .lst us => (abX (fj p.2)).bind λj => (ixT us j).bind λy => .ok (.nx, p.2.set i (.dp (ts.set z.1 (.lst (us.set y.1 T)))))
 | _ => .bad
noncomputable def dow (i : Nat) (ρ : En) : En := match ρ[i]? with
 | some (.dp ts) => ρ.set i (.ow ts)
 | _ => ρ
noncomputable def aw1 (i : Nat) (f : SF) : SF := λρ => f (dow i ρ)
end
end L2
end
section
namespace L2
open PySem PySem.Spec PyProof.Rows
section
variable {t : Tx} {src : List (Option Nat)} {ρ1 : En} {σ : St} {F : Nat -> List Addr} {H1 P : Hp} {D : Addr} {W : Addr -> Prop}
end
end L2
end
section
namespace L2
open PySem PySem.Spec PyProof.Rows
noncomputable def aeF : Rv -> Rs Tr
 | .v (.lst us) true => .ok (.lst us)
 | _ => .bad
noncomputable def anF (g : GF) (c : BF) (f : EF) : List Tr -> En -> Rs (List Tr × En)
 | [], ρ => .ok ([], ρ)
 | u :: us, ρ => (g u ρ).bind λρ1 => (c ρ1).bind λb => if b.1 = true then (f b.2).bind λp => (aeF p.1).bind λT => (anF g c f us p.2).bind λz => .ok (T :: z.1, z.2) else anF g c f us b.2
noncomputable def asn (i : Nat) (src : List (Option Nat)) (fi : IF) (g : GF) (c : BF) (f : EF) : SF := λρ => (fi ρ).bind λp => if p.1.length <= 100000 then (abX (anF g c f p.1 (acL src p.2))).bind λz => if acV src z.2 p.2 = true then .ok (.nx, (abQ src z.2 p.2).set i (.dp z.1)) else .bad else .bad
end L2
end
section
namespace L2
open PySem PySem.Spec PyProof.Rows
variable {t : Tx}
noncomputable def aoO (us vs : List Tr) : List Tr := (us.zip vs).map λp => .tup [p.1, p.2]
theorem aso {K : PySem.W.Frag} {W : Addr -> Prop} {H : Hp} {a b : Addr} {xs ys : List V} {us vs : List Tr} (q1 : SqL (nlK K) (aaT W H) a xs) (r1 : aaO (nlK K) (aaT W H) xs us) (q2 : SqL (nlK K) (aaT W H) b ys) (r2 : aaO (nlK K) (aaT W H) ys vs) : aqL (nlK K) W H (Itz K a b) (aoO us vs) := λW' H' m hw i => by
 have q1' : SqL K H' a xs := ((abf W' H').seq (m.seq q1)).toK
 have q2' : SqL K H' b ys := ((abf W' H').seq (m.seq q2)).toK
 refine ⟨λz => ⟨xs, ys, q1', q2', by rw [r1.length, r2.length, z]; simp [aoO]⟩, λu hu => ?_⟩
 unfold aoO at hu
 rw [List.getElem?_map] at hu
 obtain ⟨p, hp, rfl⟩ := Option.map_eq_some_iff.mp hu
 obtain ⟨h1, h2⟩ := List.getElem?_zip_eq_some.mp hp
 obtain ⟨x, hx, rx⟩ := r1.aoB h1
 obtain ⟨y, hy, ry⟩ := r2.aoB h2
 refine ⟨⟨xs, ys, x, y, q1', q2', hx, hy⟩, λv H'' yl => ?_⟩
 obtain ⟨T, x', y', rfl, fT, rfl, z⟩ := yl
 obtain ⟨z1, z2⟩ := z xs ys q1' q2'
 rw [hx] at z1
 rw [hy] at z2
 cases z1
 cases z2
 have nW : ¬ W' T := λw => (hw T w).ne fT
 have sm : Same H' (upd H' T (.tup [x, y])) := aaC fT _
 have so : Same (aaT W' H') (aaT W' (upd H' T (.tup [x, y]))) := λb u q => (ahj (o := .tup [x, y]) fT b u q |> λz => (aiU _ _ b u z))
 refine ⟨sm, .tup (xs := [x, y]) (.inl (.inl ?_)) (.cons ((rx.mono m).mono so) (.cons ((ry.mono m).mono so) .nil))⟩
 unfold aaT
 rw [if_neg nW, aaQ]
noncomputable def aqN (fa : AF) : IF := λρ => (fa ρ).bind λp => match p.1 with
 | [.v (.lst us) _, .v (.lst vs) _] => .ok (aoO us vs, p.2)
 | _ => .bad
theorem aoP {K : PySem.W.Frag} (hK : t.K = nlK K) {ta : TA} {fa : AF} (ha : SA t ta fa) : SI t (av6 K ta) (aqN fa) := λW ρ σ H R e h => by
 refine ha W ρ σ H _ e (Rs.aag (Rs.aae h) λp h vs H1 e1 s1 v1 => ?_)
 split at h
 ·rename_i us _ ws _ ep
  rw [ep] at v1
  cases v1 with
  | cons h1 r1 =>
   cases r1 with
   | cons h2 r2 =>
    cases r2
    have h1 := h1.rep e.wn
    have h2 := h2.rep e.wn
    rw [hK] at h1 h2
    cases h1 with
    | lst q1 p1 =>
     cases h2 with
     | lst q2 p2 =>
      refine ⟨_, _, rfl, ⟨_, ((abf _ _).seq q1).toK⟩, ⟨_, ((abf _ _).seq q2).toK⟩, h _ H1 e1 s1 ?_⟩
      rw [hK]
      exact aso q1 p1 q2 p2
 ·exact h.elim
end L2
end
section
namespace L2
open PySem PySem.Spec PyProof.Rows
section
variable {K : PySem.W.Frag}
end
end L2
end
section
namespace L2
open PySem PySem.Spec PyProof.Rows
section
variable {kf : Value -> Int × Int}
noncomputable def q1 (kf : Value -> Int × Int) (xs : Array Keyed) (i : Nat) : Int := match xs[i]? with | some p => (kf p.1).1 | none => 0
noncomputable def q2 (kf : Value -> Int × Int) (xs : Array Keyed) (i : Nat) : Int := match xs[i]? with | some p => (kf p.1).2 | none => 0
noncomputable def qr (xs : Array Keyed) (i : Nat) : Int := match xs[i]? with | some p => numOf p.2 | none => 0
noncomputable def Kl (kf : Value -> Int × Int) (xs : Array Keyed) (i j : Nat) : Prop := q1 kf xs i < q1 kf xs j \/ (q1 kf xs i = q1 kf xs j /\ q2 kf xs i < q2 kf xs j)
noncomputable instance {kf : Value -> Int × Int} {xs : Array Keyed} {i j : Nat} : Decidable (Kl kf xs i j) := by unfold Kl; infer_instance
noncomputable def Ke (kf : Value -> Int × Int) (xs : Array Keyed) (i j : Nat) : Prop := q1 kf xs i = q1 kf xs j /\ q2 kf xs i = q2 kf xs j
noncomputable def Lq (kf : Value -> Int × Int) (xs : Array Keyed) (i j : Nat) : Prop := Kl kf xs i j \/ (Ke kf xs i j /\ qr xs i < qr xs j)
noncomputable def Sta (kf : Value -> Int × Int) (xs : Array Keyed) (m : Nat) : Prop := ∀ i j, i < j -> j < m -> Lq kf xs i j
noncomputable def Dsc (kf : Value -> Int × Int) (xs : Array Keyed) (m : Nat) : Prop := ∀ i j, i < j -> j < m -> Lq kf xs j i
noncomputable def Des (kf : Value -> Int × Int) (xs : Array Keyed) (m q : Nat) : Prop := (∀ i j, i < j -> j < m -> i < q -> Lq kf xs j i /\ (q <= j -> Kl kf xs j i)) /\ ∀ i j, q <= i -> i < j -> j < m -> Ke kf xs i j /\ qr xs i < qr xs j
noncomputable def Pre (N : Nat) (xs : Array Keyed) (m : Nat) : Prop := (∀ k : Nat, k < m -> qr xs k < m) /\ ∀ k : Nat, m <= k -> k < N -> qr xs k = k
theorem anG {xs ys : Array Keyed} {i j : Nat} (h : xs[i]? = ys[j]?) : qr xs i = qr ys j := by unfold qr; rw [h]
theorem atQ {xs ys : Array Keyed} {i j : Nat} (h : xs[i]? = ys[j]?) : q1 kf xs i = q1 kf ys j := by unfold q1; rw [h]
theorem atR {xs ys : Array Keyed} {i j : Nat} (h : xs[i]? = ys[j]?) : q2 kf xs i = q2 kf ys j := by unfold q2; rw [h]
theorem mir {xs : Array Keyed} {i j : Nat} (hj : j <= xs.size) (k : Nat) : (i <= k /\ k < j /\ (mirror xs i j ((j - i) / 2))[k]? = xs[i + j - 1 - k]?) \/ (¬ (i <= k /\ k < j) /\ (mirror xs i j ((j - i) / 2))[k]? = xs[k]?) := by
 have e := getElem?_mirror_all (i := i) hj k
 by_cases h : i <= k /\ k < j
 ·rw [if_pos h] at e; exact .inl ⟨h.1, h.2, e⟩
 ·rw [if_neg h] at e; exact .inr ⟨h, e⟩
theorem anH {xs ys : Array Keyed} {i j i' j' : Nat} (h1 : xs[i]? = ys[i']?) (h2 : xs[j]? = ys[j']?) : Lq kf xs i j ↔ Lq kf ys i' j' := by
 unfold Lq Kl Ke; rw [anG h1, anG h2, atQ h1, atQ h2, atR h1, atR h2]
theorem atU {xs ys : Array Keyed} {i j i' j' : Nat} (h1 : xs[i]? = ys[i']?) (h2 : xs[j]? = ys[j']?) : Kl kf xs i j ↔ Kl kf ys i' j' := by
 unfold Kl; rw [atQ h1, atQ h2, atR h1, atR h2]
theorem Kl.tr {xs : Array Keyed} {i j k : Nat} (a : Kl kf xs i j) (b : Kl kf xs j k) : Kl kf xs i k := by
 unfold Kl at *
 generalize q1 kf xs i = a1, q2 kf xs i = a2, q1 kf xs j = b1, q2 kf xs j = b2, q1 kf xs k = c1, q2 kf xs k = c2 at *
 omega
theorem Kl.no {xs : Array Keyed} {i j : Nat} (a : ¬ Kl kf xs i j) (b : ¬ Kl kf xs j i) : Ke kf xs i j := by
 unfold Kl at *
 unfold Ke
 generalize q1 kf xs i = a1, q2 kf xs i = a2, q1 kf xs j = b1, q2 kf xs j = b2 at *
 omega
theorem Ke.s {xs : Array Keyed} {i j : Nat} (a : Ke kf xs i j) : Ke kf xs j i := ⟨a.1.symm, a.2.symm⟩
theorem Ke.t {xs : Array Keyed} {i j k : Nat} (a : Ke kf xs i j) (b : Ke kf xs j k) : Ke kf xs i k := ⟨a.1.trans b.1, a.2.trans b.2⟩
theorem Ke.l {xs : Array Keyed} {i j k : Nat} (a : Ke kf xs i j) (b : Kl kf xs j k) : Kl kf xs i k := by
 unfold Kl at *
 rw [a.1, a.2]
 exact b
theorem Ke.r {xs : Array Keyed} {i j k : Nat} (a : Kl kf xs i j) (b : Ke kf xs j k) : Kl kf xs i k := by
 unfold Kl at *
 rw [<-b.1, <-b.2]
 exact a
theorem Kl.tq {xs : Array Keyed} {i j k : Nat} (a : Kl kf xs i j) (b : Lq kf xs j k) : Kl kf xs i k := b.elim a.tr λz => Ke.r a z.1
theorem Kl.qt {xs : Array Keyed} {i j k : Nat} (a : Lq kf xs i j) (b : Kl kf xs j k) : Kl kf xs i k := a.elim (λz => z.tr b) λz => z.1.l b
theorem Lq.mk {xs : Array Keyed} {i j : Nat} (a : ¬ Kl kf xs j i) (b : qr xs i < qr xs j) : Lq kf xs i j := by
 by_cases h : Kl kf xs i j
 ·exact .inl h
 ·exact .inr ⟨Kl.no h a, b⟩
theorem Pre.mir {N : Nat} {xs : Array Keyed} {m i j : Nat} (h : Pre N xs m) (hj : j <= xs.size) (hm : j <= m) : Pre N (mirror xs i j ((j - i) / 2)) m := by
 refine ⟨λk hk => ?_, λk hk hN => ?_⟩
 ·rcases L2.mir hj k with ⟨a, b, e⟩ | ⟨n, e⟩
  ·rw [anG e]; exact h.1 _ (by omega)
  ·rw [anG e]; exact h.1 _ hk
 ·rcases L2.mir hj k with ⟨a, b, e⟩ | ⟨n, e⟩
  ·omega
  ·rw [anG e]; exact h.2 _ hk hN
theorem Dsc.turn {xs : Array Keyed} {m : Nat} (h : Dsc kf xs m) (hm : m <= xs.size) : Sta kf (mirror xs 0 m ((m - 0) / 2)) m := λi j hij hj => by
 rcases mir (i := 0) hm i with ⟨_, _, e1⟩ | ⟨n, _⟩
 ·rcases mir (i := 0) hm j with ⟨_, _, e2⟩ | ⟨n, _⟩
  ·rw [anH e1 e2]; exact h _ _ (by omega) (by omega)
  ·omega
 ·omega
theorem Des.turn {xs : Array Keyed} {m q : Nat} (h : Des kf xs m q) (hm : m <= xs.size) (hq : q < m) : Dsc kf (mirror xs q m ((m - q) / 2)) m := λi j hij hj => by
 rcases mir (i := q) hm i with ⟨a, b, e1⟩ | ⟨n, e1⟩ <;> rcases mir (i := q) hm j with ⟨a', b', e2⟩ | ⟨n', e2⟩
 ·rw [anH e2 e1]
  have z := h.2 (q + m - 1 - j) (q + m - 1 - i) (by omega) (by omega) (by omega)
  exact .inr z
 ·omega
 ·rw [anH e2 e1]
  exact (h.1 i (q + m - 1 - j) (by omega) (by omega) (by omega)).1
 ·rw [anH e2 e1]
  exact (h.1 i j hij hj (by omega)).1
theorem Des.one {xs : Array Keyed} {m q : Nat} (h : Des kf xs m q) (hq : m <= q + 1) : Dsc kf xs m := λi j hij hj => (h.1 i j hij hj (by omega)).1
end
section
variable {prog : Program} {w : World} {A : Around} {E : Value -> Shared -> Prop} {s : Shared} {N : Nat} {kd : SortKind} {kf : Value -> Int × Int}
structure SB (a₀ : Array Keyed) (kd : SortKind) (st : SortSt) : Prop where
 pm : (arrOf st).Perm a₀
 kn : kindOf st = kd
 fl : failedOf st = none
 pd : pendingOf st = #[]
theorem SB.sz {a₀ : Array Keyed} {st : SortSt} (h : SB a₀ kd st) : (arrOf st).size = a₀.size := h.pm.size_eq
theorem SB.put {a₀ : Array Keyed} {st : SortSt} (h : SB a₀ kd st) {xs : Array Keyed} (p : xs.Perm (arrOf st)) : SB a₀ kd (setArr st xs) := ⟨p.trans h.pm, h.kn, h.fl, h.pd⟩
noncomputable def Asks (prog : Program) (w : World) (A : Around) (E : Value -> Shared -> Prop) (s : Shared) (a₀ : Array Keyed) (kd : SortKind) (kf : Value -> Int × Int) : Prop :=
 ∀ (st : SortSt) (i j : Nat) (Q : Option Bool -> SortSt -> Prop), SB a₀ kd st -> i < a₀.size -> j < a₀.size -> Q (some (decide (Kl kf (arrOf st) i j))) st -> wpS (model prog w) A E s (ltAt' i j) Q st
variable {a₀ : Array Keyed} (ask : Asks prog w A E s a₀ kd kf)
include ask
theorem aoQ {st : SortSt} {a n : Nat} {Q : AscSt -> SortSt -> Prop} (hn : n <= a₀.size) (ha : 1 <= a) (han : a <= n) (B : SB a₀ kd st) (p : Pre a₀.size (arrOf st) a) (h0 : Sta kf (arrOf st) a)
  (h : ∀ m, a <= m -> m <= n -> Sta kf (arrOf st) m -> Pre a₀.size (arrOf st) m -> (m = n \/ (m < n /\ Kl kf (arrOf st) m (m - 1))) -> Q (none, m) st) : wpS (model prog w) A E s (ascLoop a n) Q st := by
 unfold ascLoop
 have up : ∀ x, a <= x -> x <= n -> Pre a₀.size (arrOf st) x := λx h1 h2 => ⟨λk hk => by
  by_cases z : k < a
  ·have := p.1 k z; omega
  ·rw [p.2 k (by omega) (by omega)]; omega, λk h3 h4 => p.2 k (by omega) h4⟩
 refine wpS_forRange (I := λx c t => t = st /\ c = (none, x) /\ x <= n /\ Sta kf (arrOf st) x) ?_ ?_ ⟨rfl, rfl, han, h0⟩
 ·rintro x c t h1 h2 ⟨rfl, rfl, _, hs⟩
  refine wpS_bind (ask _ _ _ _ B (by omega) (by omega) ?_)
  by_cases l : Kl kf (arrOf t) x (x - 1)
  ·rw [decide_eq_true l]
   exact wpS_pure (h x h1 (by omega) hs (up x h1 (by omega)) (.inr ⟨h2, l⟩))
  ·rw [decide_eq_false l]
   refine wpS_pure ⟨rfl, rfl, h2, λi j hij hj => ?_⟩
   by_cases z : j < x
   ·exact hs i j hij z
   ·have ej : j = x := by omega
    subst ej
    have r1 := (up j h1 (by omega)).1 i hij
    have r2 := (up j h1 (by omega)).2 j (Nat.le_refl _) (by omega)
    by_cases z : i = j - 1
    ·subst z
     exact Lq.mk l (by rw [r2]; exact r1)
    ·have y := hs i (j - 1) (by omega) (by omega)
     exact Lq.mk (λz => l (z.tq y)) (by rw [r2]; exact r1)
 ·rintro c t ⟨rfl, rfl, _, hs⟩
  rw [show max a n = n by omega] at hs ⊢
  exact h n han (Nat.le_refl _) hs (up n han (Nat.le_refl _)) (.inl rfl)
theorem amc {st : SortSt} {m n : Nat} {Q : Option Nat -> SortSt -> Prop} (hn : n <= a₀.size) (h1 : 1 <= m) (hm : m <= n) (B : SB a₀ kd st) (p : Pre a₀.size (arrOf st) m) (d : Dsc kf (arrOf st) m)
  (h : ∀ m t, SB a₀ kd t -> 1 <= m -> m <= n -> Sta kf (arrOf t) m -> Pre a₀.size (arrOf t) m -> Q (some m) t) : wpS (model prog w) A E s (tail3 m n) Q st := by
 unfold tail3
 have z : m <= (arrOf st).size := by rw [B.sz]; omega
 refine wpS_bind (wpS_reverse ?_)
 have B' : SB a₀ kd (setArr st (mirror (arrOf st) 0 m ((m - 0) / 2))) := B.put (mirror_perm _ _ _ _)
 exact wpS_bind (aoQ ask hn h1 hm B' (p.mir z (Nat.le_refl _)) (d.turn z) λk k1 k2 k3 k4 _ => wpS_pure (h k _ B' (by omega) k2 k3 k4))
theorem apZ {st : SortSt} {m n : Nat} {Q : DescSt -> SortSt -> Prop} (hn : n <= a₀.size) (h1 : 1 <= m) (hm : m <= n) (B : SB a₀ kd st) (p : Pre a₀.size (arrOf st) m) (d : Des kf (arrOf st) m (m - 1))
  (h : ∀ x e t, SB a₀ kd t -> m <= x -> x <= n -> e + 1 <= x -> Des kf (arrOf t) x (x - (e + 1)) -> Pre a₀.size (arrOf t) x -> Q (none, x, e) t) : wpS (model prog w) A E s (descLoop m n) Q st := by
 unfold descLoop
 refine wpS_forRange (I := λx c t => ∃ e, c = (none, x, e) /\ SB a₀ kd t /\ x <= n /\ e + 1 <= x /\ Des kf (arrOf t) x (x - (e + 1)) /\ Pre a₀.size (arrOf t) x) ?_ ?_ ⟨0, rfl, B, hm, by omega, d, p⟩
 ·rintro x c t k1 k2 ⟨e, rfl, B', _, ke, d', p'⟩
  dsimp only
  have z : x <= (arrOf t).size := by rw [B'.sz]; omega
  have pu : ∀ ys : Array Keyed, Pre a₀.size ys x -> Pre a₀.size ys (x + 1) := λys q => ⟨λk hk => by
   by_cases y : k < x
   ·have := q.1 k y; omega
   ·rw [q.2 k (by omega) (by omega)]; omega, λk h3 h4 => q.2 k (by omega) h4⟩
  refine wpS_bind (ask _ _ _ _ B' (by omega) (by omega) ?_)
  by_cases l : Kl kf (arrOf t) x (x - 1)
  ·rw [decide_eq_true l]
   have next : ∀ ys : Array Keyed, Dsc kf ys x -> (∀ i, i < x -> Kl kf ys x i) -> Des kf ys (x + 1) x := λys y1 y2 => ⟨λi j hij hj hi => by
    by_cases y : j < x
    ·exact ⟨y1 i j hij y, λz => by omega⟩
    ·have : j = x := by omega
     subst this
     exact ⟨.inl (y2 i hi), λ_ => y2 i hi⟩, λi j h1 h2 h3 => by omega⟩
   have low : ∀ i, i < x -> Kl kf (arrOf t) x i := λi hi => by
    by_cases y : i = x - 1
    ·rw [y]; exact l
    ·by_cases y2 : i < x - (e + 1)
     ·exact l.tq (d'.1 i (x - 1) (by omega) (by omega) y2).1
     ·exact Ke.r l (d'.2 i (x - 1) (by omega) (by omega) (by omega)).1.s
   show wpS _ _ _ _ (if e > 0 then _ else _) _ _
   by_cases g : e > 0
   ·rw [if_pos g]
    refine wpS_bind (wpS_reverse (wpS_pure ⟨0, rfl, B'.put (mirror_perm _ _ _ _), k2, by omega, ?_, pu _ (p'.mir z (Nat.le_refl _))⟩))
    rw [show x + 1 - (0 + 1) = x by omega]
    refine next _ (d'.turn z (by omega)) λi hi => ?_
    rcases mir (i := x - (e + 1)) z x with ⟨_, b, _⟩ | ⟨_, e1⟩
    ·omega
    ·rcases mir (i := x - (e + 1)) z i with ⟨_, _, e2⟩ | ⟨_, e2⟩
     ·rw [atU e1 e2]; exact low _ (by omega)
     ·rw [atU e1 e2]; exact low _ hi
   ·rw [if_neg g]
    refine wpS_pure ⟨0, rfl, B', k2, by omega, ?_, pu _ p'⟩
    rw [show x + 1 - (0 + 1) = x by omega]
    exact next _ (d'.one (by omega)) low
  ·rw [decide_eq_false l]
   show wpS _ _ _ _ (ltAt' (x - 1) x >>= _) _ _
   refine wpS_bind (ask _ _ _ _ B' (by omega) (by omega) ?_)
   by_cases g : Kl kf (arrOf t) (x - 1) x
   ·rw [decide_eq_true g]
    exact wpS_pure (h x e t B' k1 (by omega) ke d' p')
   ·rw [decide_eq_false g]
    have eq : Ke kf (arrOf t) (x - 1) x := Kl.no g l
    refine wpS_pure ⟨e + 1, rfl, B', k2, by omega, ?_, pu _ p'⟩
    rw [show x + 1 - (e + 1 + 1) = x - (e + 1) by omega]
    refine ⟨λi j hij hj hi => ?_, λi j hi hij hj => ?_⟩
    ·by_cases y : j < x
     ·exact d'.1 i j hij y hi
     ·have : j = x := by omega
      subst this
      have y := (d'.1 i (j - 1) (by omega) (by omega) hi).2 (by omega)
      have y' : Kl kf (arrOf t) j i := eq.s.l y
      exact ⟨.inl y', λ_ => y'⟩
    ·by_cases y : j < x
     ·exact d'.2 i j hi hij y
     ·have : j = x := by omega
      subst this
      have r1 := p'.1 i hij
      have r2 := p'.2 j (Nat.le_refl _) (by omega)
      refine ⟨?_, by omega⟩
      by_cases y : i = j - 1
      ·rw [y]; exact eq
      ·exact (d'.2 i (j - 1) hi (by omega) (by omega)).1.t eq
 ·rintro c t ⟨e, rfl, B', _, ke, d', p'⟩
  rw [show max m n = n by omega] at ke d' p' ⊢
  exact h n e t B' hm (Nat.le_refl _) ke d' p'
theorem aj7 {st : SortSt} {m n : Nat} {Q : Option Nat -> SortSt -> Prop} (hn : n <= a₀.size) (hm : m + 1 <= n) (B : SB a₀ kd st) (p : Pre a₀.size (arrOf st) (m + 1)) (d : Des kf (arrOf st) (m + 1) m)
  (h : ∀ m t, SB a₀ kd t -> 1 <= m -> m <= n -> Sta kf (arrOf t) m -> Pre a₀.size (arrOf t) m -> Q (some m) t) : wpS (model prog w) A E s (descPart m n) Q st := by
 unfold descPart
 refine wpS_bind (wpS_lift (wpAny_rule ⟨rfl, ?_⟩))
 refine wpS_bind (apZ ask hn (by omega) hm B p (by rw [show m + 1 - 1 = m by omega]; exact d) λx e t B' k1 k2 ke d' p' => ?_)
 have z : x <= (arrOf t).size := by rw [B'.sz]; omega
 show wpS _ _ _ _ (if e > 0 then (reverseSlice' (x - (e + 1)) x >>= λ_ => tail3 x n) else tail3 x n) _ _
 by_cases g : e > 0
 ·rw [if_pos g]
  exact wpS_bind (wpS_reverse (amc ask hn (by omega) k2 (B'.put (mirror_perm _ _ _ _)) (p'.mir z (Nat.le_refl _)) (d'.turn z (by omega)) h))
 ·rw [if_neg g]
  exact amc ask hn (by omega) k2 B' p' (d'.one (by omega)) h
theorem anI {st : SortSt} {n : Nat} {Q : Option Nat -> SortSt -> Prop} (hn : n <= a₀.size) (h1 : 1 <= n) (B : SB a₀ kd st) (p : Pre a₀.size (arrOf st) 0)
  (h : ∀ m t, SB a₀ kd t -> 1 <= m -> m <= n -> Sta kf (arrOf t) m -> Pre a₀.size (arrOf t) m -> Q (some m) t) : wpS (model prog w) A E s (countRun' 0 n) Q st := by
 rw [countRun0_eq]
 have p1 : Pre a₀.size (arrOf st) 1 := ⟨λk hk => by rw [p.2 k (by omega) (by omega)]; omega, λk h3 h4 => p.2 k (by omega) h4⟩
 refine wpS_bind (aoQ ask hn (Nat.le_refl 1) h1 B p1 (λi j _ _ => by omega) λm m1 m2 hs hp ho => ?_)
 show wpS _ _ _ _ (if (m == n) = true then _ else _) _ _
 by_cases e : m = n
 ·rw [if_pos (by simpa using e)]
  exact wpS_pure (h m st B m1 m2 hs hp)
 ·rw [if_neg (by simpa using e)]
  obtain ⟨ml, l⟩ := ho.resolve_left e
  have pn : ∀ ys : Array Keyed, Pre a₀.size ys m -> Pre a₀.size ys (m + 1) := λys q => ⟨λk hk => by
   by_cases y : k < m
   ·have := q.1 k y; omega
   ·rw [q.2 k (by omega) (by omega)]; omega, λk h3 h4 => q.2 k (by omega) h4⟩
  by_cases g : m > 1
  ·rw [if_pos g]
   refine wpS_bind (ask _ _ _ _ B (by omega) (by omega) ?_)
   by_cases r : Kl kf (arrOf st) 0 (m - 1)
   ·rw [decide_eq_true r]
    exact wpS_pure (h m st B m1 m2 hs hp)
   ·rw [decide_eq_false r]
    have z : m <= (arrOf st).size := by rw [B.sz]; omega
    have all : ∀ i j, i < j -> j < m -> Ke kf (arrOf st) i j /\ qr (arrOf st) i < qr (arrOf st) j := λi j hij hj => by
     have a1 := hs i j hij hj
     have a2 : i = 0 \/ Lq kf (arrOf st) 0 i := by
      by_cases y : i = 0
      ·exact .inl y
      ·exact .inr (hs 0 i (by omega) (by omega))
     have a3 : j = m - 1 \/ Lq kf (arrOf st) j (m - 1) := by
      by_cases y : j = m - 1
      ·exact .inl y
      ·exact .inr (hs j (m - 1) (by omega) (by omega))
     rcases a1 with k1 | k1
     ·have k2 : Kl kf (arrOf st) 0 j := by
       rcases a2 with y | y
       ·rw [y] at k1; exact k1
       ·exact Kl.qt y k1
      refine absurd ?_ r
      rcases a3 with y | y
      ·rw [y] at k2; exact k2
      ·exact k2.tq y
     ·exact k1
    have ds : Des kf (arrOf st) m 0 := ⟨λi j _ _ hi => by omega, λi j _ hij hj => all i j hij hj⟩
    show wpS _ _ _ _ (reverseSlice' 0 m >>= λ_ => descPart m n) _ _
    refine wpS_bind (wpS_reverse (aj7 ask hn (by omega) (B.put (mirror_perm _ _ _ _)) (pn _ (hp.mir z (Nat.le_refl _))) ?_ h))
    have dd := ds.turn z (by omega)
    have low : ∀ i, i < m -> Kl kf (arrOf st) m i := λi hi => by
     by_cases y : i = m - 1
     ·rw [y]; exact l
     ·exact Ke.r l (all i (m - 1) (by omega) (by omega)).1.s
    have awf : ∀ i, i < m -> Kl kf (mirror (arrOf st) 0 m ((m - 0) / 2)) m i := λi hi => by
     rcases mir (i := 0) z m with ⟨_, b, _⟩ | ⟨_, e1⟩
     ·omega
     ·rcases mir (i := 0) z i with ⟨_, _, e2⟩ | ⟨_, e2⟩
      ·rw [atU e1 e2]; exact low _ (by omega)
      ·rw [atU e1 e2]; exact low _ hi
    refine ⟨λi j hij hj hi => ?_, λi j _ _ _ => by omega⟩
    by_cases y : j < m
    ·exact ⟨dd i j hij y, λz => by omega⟩
    ·have : j = m := by omega
     subst this
     exact ⟨.inl (awf i hi), λ_ => awf i hi⟩
  ·rw [if_neg g]
   have e1 : m = 1 := by omega
   subst e1
   refine aj7 ask hn (by omega) B (pn _ hp) ⟨λi j hij hj hi => ?_, λi j _ _ _ => by omega⟩ h
   have i0 : i = 0 := by omega
   have j1 : j = 1 := by omega
   subst i0 j1
   exact ⟨.inl l, λ_ => l⟩
theorem asp {st : SortSt} {n ok : Nat} {Q : Bool -> SortSt -> Prop} (hn : n <= a₀.size) (h1 : 1 <= ok) (hok : ok <= n) (B : SB a₀ kd st) (p : Pre a₀.size (arrOf st) ok) (d : Sta kf (arrOf st) ok)
  (h : ∀ t, SB a₀ kd t -> Sta kf (arrOf t) n -> Q true t) : wpS (model prog w) A E s (binarySort' 0 n ok) Q st := by
 rw [binarySort'_eq]
 simp only [Nat.zero_add]
 refine wpS_bind (wpS_mono (wpS_forRange (I := λk c t => c = (none, ()) /\ SB a₀ kd t /\ k <= n /\ Sta kf (arrOf t) k /\ Pre a₀.size (arrOf t) k) (Q := λc t => c = (none, ()) /\ SB a₀ kd t /\ Sta kf (arrOf t) n) ?_ ?_ ?_) ?_)
 ·rintro k c t k1 k2 ⟨rfl, B', _, d', p'⟩
  have hk : k < a₀.size := by omega
  have rk := p'.2 k (Nat.le_refl _) hk
  refine wpS_bind (wpS_mono (wpS_forRange (I := λx c u => u = t /\ ∃ l r, c = (none, l, r) /\ l <= r /\ r <= k /\ r - l <= k - x /\ (∀ i, i < l -> ¬ Kl kf (arrOf t) k i) /\ ∀ i, r <= i -> i < k -> Kl kf (arrOf t) k i)
   (Q := λc u => u = t /\ ∃ l r, c = (none, l, r) /\ l <= k /\ (∀ i, i < l -> ¬ Kl kf (arrOf t) k i) /\ ∀ i, l <= i -> i < k -> Kl kf (arrOf t) k i) ?_ ?_ ?_) ?_)
  ·rintro x c u _ hx ⟨rfl, l, r, rfl, g1, g2, g3, lo, hi⟩
   dsimp only
   by_cases g : l >= r
   ·rw [if_pos g]
    have : l = r := by omega
    subst this
    exact wpS_pure ⟨rfl, l, l, rfl, g2, lo, hi⟩
   ·rw [if_neg g]
    refine wpS_bind (ask _ _ _ _ B' hk (by omega) ?_)
    by_cases le : Kl kf (arrOf u) k ((l + r) / 2)
    ·rw [decide_eq_true le]
     refine wpS_pure ⟨rfl, l, (l + r) / 2, rfl, by omega, by omega, by omega, lo, λi h1 h2 => ?_⟩
     by_cases y : i = (l + r) / 2
     ·rw [y]; exact le
     ·exact le.tq (d' ((l + r) / 2) i (by omega) h2)
    ·rw [decide_eq_false le]
     refine wpS_pure ⟨rfl, (l + r) / 2 + 1, r, rfl, by omega, by omega, by omega, λi h1 => ?_, hi⟩
     by_cases y : i = (l + r) / 2
     ·rw [y]; exact le
     ·exact λz => le (z.tq (d' i ((l + r) / 2) (by omega) (by omega)))
  ·rintro c u ⟨rfl, l, r, rfl, g1, g2, g3, lo, hi⟩
   have : l = r := by omega
   subst this
   exact ⟨rfl, l, l, rfl, g2, lo, hi⟩
  ·exact ⟨rfl, 0, k, rfl, by omega, by omega, by omega, λi hi => by omega, λi g1 g2 => by omega⟩
  ·rintro c u ⟨rfl, l, r, rfl, lk, lo, hi⟩
   show wpS _ _ _ _ (moveDown' k l >>= λ_ => pure (ForInStep.yield (none, ()))) _ _
   rw [moveDown'_eq]
   refine wpS_bind (wpS_modify (wpS_pure ⟨rfl, B'.put (bubble_perm _ _ _), k2, ?_, ?_⟩))
   all_goals
    have ks : k < (arrOf u).size := by rw [B'.sz]; exact hk
    have bb := getElem?_bubble ks (k - l) (by omega)
    rw [show k - (k - l) = l by omega] at bb
    have b1 : (bubble (arrOf u) k (k - l))[l]? = (arrOf u)[k]? := by rw [bb, if_pos rfl]
    have b2 : ∀ i, l < i -> i <= k -> (bubble (arrOf u) k (k - l))[i]? = (arrOf u)[i - 1]? := λi g1 g2 => by rw [bb, if_neg (by omega), if_pos ⟨g1, g2⟩]
    have b3 : ∀ i, i < l -> (bubble (arrOf u) k (k - l))[i]? = (arrOf u)[i]? := λi g1 => by rw [bb, if_neg (by omega), if_neg (by omega)]
    have b4 : ∀ i, k < i -> (bubble (arrOf u) k (k - l))[i]? = (arrOf u)[i]? := λi g1 => by rw [bb, if_neg (by omega), if_neg (by omega)]
   ·intro i j hij hj
    show Lq kf (bubble (arrOf u) k (k - l)) i j
    rcases Nat.lt_trichotomy i l with y | y | y <;> rcases Nat.lt_trichotomy j l with y' | y' | y'
    ·rw [anH (b3 i y) (b3 j y')]; exact d' i j hij (by omega)
    ·subst y'
     rw [anH (b3 i y) b1]
     exact Lq.mk (lo i y) (by rw [rk]; exact p'.1 i (by omega))
    ·rw [anH (b3 i y) (b2 j y' (by omega))]; exact d' i (j - 1) (by omega) (by omega)
    ·omega
    ·omega
    ·subst y
     rw [anH b1 (b2 j y' (by omega))]
     exact .inl (hi _ (by omega) (by omega))
    ·omega
    ·omega
    ·rw [anH (b2 i y (by omega)) (b2 j y' (by omega))]; exact d' _ _ (by omega) (by omega)
   ·refine ⟨λi hi' => ?_, λi g1 g2 => ?_⟩
    ·show qr (bubble (arrOf u) k (k - l)) i < _
     rcases Nat.lt_trichotomy i l with y | y | y
     ·rw [anG (b3 i y)]; have := p'.1 i (by omega); omega
     ·subst y; rw [anG b1, rk]; omega
     ·rw [anG (b2 i y (by omega))]; have := p'.1 (i - 1) (by omega); omega
    ·show qr (bubble (arrOf u) k (k - l)) i = _
     rw [anG (b4 i (by omega))]
     exact p'.2 i (by omega) g2
 ·rintro c t ⟨rfl, B', kn, d', p'⟩
  refine ⟨rfl, B', ?_⟩
  rwa [show max (max ok 1) n = n by omega] at d'
 ·rw [show max ok 1 = ok by omega]
  exact ⟨rfl, B, hok, d, p⟩
 ·rintro c t ⟨rfl, B', d'⟩
  exact wpS_pure (h t B' d')
theorem ap0 {st : SortSt} {Q : Unit -> SortSt -> Prop} (B : SB a₀ kd st) (h2 : 2 <= a₀.size) (h64 : a₀.size < 64) (p : Pre a₀.size (arrOf st) 0)
  (h : ∀ t, (arrOf t).Perm a₀ -> failedOf t = none -> Sta kf (arrOf t) a₀.size -> Q () t) : wpS (model prog w) A E s sortRuns' Q st := by
 rw [sortRuns'_eq]
 refine wpS_bind (wpS_get ?_)
 have mr : minRun' (arrOf st).size (arrOf st).size 0 = a₀.size := by
  rw [B.sz]
  obtain ⟨f, hf⟩ : ∃ f, a₀.size = f + 1 := ⟨a₀.size - 1, by omega⟩
  have : minRun' (f + 1) (f + 1) 0 = f + 1 := by rw [minRun'_succ, if_pos (by omega)]
  rw [hf]; exact this
 dsimp only
 rw [mr, B.sz]
 have fin : ∀ t, SB a₀ kd t -> Sta kf (arrOf t) a₀.size -> (arrOf (setPending t ((pendingOf t).push (0, a₀.size, 0)))).Perm a₀ /\ failedOf (setPending t ((pendingOf t).push (0, a₀.size, 0))) = none /\ pendingOf (setPending t ((pendingOf t).push (0, a₀.size, 0))) = #[(0, a₀.size, 0)] /\ Sta kf (arrOf (setPending t ((pendingOf t).push (0, a₀.size, 0)))) a₀.size :=
  λt B' d' => ⟨B'.pm, B'.fl, by show (pendingOf t).push _ = _; rw [B'.pd]; rfl, d'⟩
 refine wpS_bind (wpS_mono (wpS_forRange (I := λx c t => (x = 0 /\ c = (none, 0) /\ SB a₀ kd t /\ Pre a₀.size (arrOf t) 0) \/ (1 <= x /\ c = (none, a₀.size) /\ (arrOf t).Perm a₀ /\ failedOf t = none /\ pendingOf t = #[(0, a₀.size, 0)] /\ Sta kf (arrOf t) a₀.size))
  (Q := λc t => c = (none, a₀.size) /\ (arrOf t).Perm a₀ /\ failedOf t = none /\ pendingOf t = #[(0, a₀.size, 0)] /\ Sta kf (arrOf t) a₀.size) ?_ ?_ (.inl ⟨rfl, rfl, B, p⟩)) ?_)
 ·rintro x c t _ hx (⟨rfl, rfl, B', p'⟩ | ⟨hx1, rfl, D⟩)
  ·show wpS _ _ _ _ (if 0 >= a₀.size then _ else _) _ _
   rw [if_neg (by omega)]
   simp only [Nat.sub_zero, Nat.min_self, Nat.zero_add]
   refine wpS_bind (anI ask (Nat.le_refl _) (by omega) B' p' λm u B2 m1 m2 d2 p2 => ?_)
   show wpS _ _ _ _ (if m < a₀.size then _ else _) _ _
   by_cases g : m < a₀.size
   ·rw [if_pos g]
    refine wpS_bind (wpS_lift (wpAny_rule ⟨rfl, ?_⟩))
    refine wpS_bind (asp ask (Nat.le_refl _) m1 m2 B2 p2 d2 λv B3 d3 => ?_)
    simp only [Bool.not_true, Bool.false_eq_true, if_false]
    refine wpS_bind (wpS_get ?_)
    rw [show (pendingOf v).back? = none by rw [B3.pd]; rfl]
    exact wpS_bind (wpS_modify (wpS_pure (.inr ⟨by omega, rfl, fin v B3 d3⟩)))
   ·rw [if_neg g]
    have e : m = a₀.size := by omega
    subst e
    refine wpS_bind (wpS_get ?_)
    rw [show (pendingOf u).back? = none by rw [B2.pd]; rfl]
    exact wpS_bind (wpS_modify (wpS_pure (.inr ⟨by omega, rfl, fin u B2 d2⟩)))
  ·show wpS _ _ _ _ (if a₀.size >= a₀.size then _ else _) _ _
   rw [if_pos (Nat.le_refl _)]
   exact wpS_pure ⟨rfl, D⟩
 ·rintro c t (⟨hx, _, _⟩ | ⟨_, hc, D⟩)
  ·omega
  ·exact ⟨hc, D⟩
 ·rintro c t ⟨rfl, D⟩
  refine wpS_bind (wpS_mono (wpS_forRange (I := λ_ c u => u = t /\ c = (none, ())) (Q := λc u => u = t /\ c = (none, ())) ?_ (λ_ _ z => z) ⟨rfl, rfl⟩) ?_)
  ·rintro x c u _ _ ⟨rfl, rfl⟩
   refine wpS_bind (wpS_get ?_)
   rw [if_pos (by rw [D.2.2.1]; exact Nat.le_refl 1)]
   exact wpS_pure ⟨rfl, rfl⟩
  ·rintro c u ⟨rfl, rfl⟩
   exact wpS_pure (h _ D.1 D.2.1 D.2.2.2)
end
end L2
end
section
namespace L2
open PySem PySem.Spec PyProof.Rows PySem.W
section
variable {X : Cx} {pins : List (Addr × Obj)} {σ : St} {H : Hp} {s : Shared}
theorem Inv.track {a : Addr} {xs : List V} {its : List Value} {n : Nat} (I : Inv X pins σ H s) (f : ad7 X pins H a) (e : s.heap.get? a = some { cls := .type "list", data := .seq its.toArray n }) (r : Vals xs its) (hz : xs.length <= sizeLine) : Inv X pins σ (upd H a (.lst xs)) s := by
 obtain ⟨f0, f1, f2, f3, f4, f5⟩ := f
 have ok : HOk X.prog X.w (upd H a (.lst xs)) s.heap := λb u q => by
  by_cases hb : b = a
  ·subst hb; rw [aaQ] at q; cases q; exact ⟨hz, its, n, r, e⟩
  ·rw [aaw hb] at q
   exact (I.hok b u q).stay (λc v _ z => z) (λc z => by rw [aaw (aaS z f0)]; exact z) λc ys z => by rw [aaw (aaS z f0)]; exact z
 exact I.step (h' := s.heap) (g' := s.gens) (t' := s.toks) (d' := s.drawn) (ch := [a]) (λb hb => by
   have : b = a := by simpa using hb
   subst this
   exact ⟨f3, f1, f4, f5⟩) (λb o _ _ _ q _ => q) (λb o _ _ _ q _ => ⟨o.slots, q⟩) (λb o hb _ q => by rw [aaw (by simpa using hb)]; exact q) (λb o _ q => ⟨o, q⟩)
  (λb ys q => by rw [aaw (aaS q f0)]; exact q) (λb o u q => by rw [aaw (aaS q f0)]; exact q) (λb ps q => ⟨#[], by rw [aaw (aaS q f0), q]; simp⟩) (λm q => q) ok I.bare
theorem Inv.sub {agy : List (Addr × Obj)} (I : Inv X pins σ H s) (h : ∀ p ∈ agy, p ∈ pins) : Inv X agy σ H s := I.ag9 λp hp => I.pin p (List.mem_append_right _ (h p hp))
theorem Inv.ap1 {a : Addr} {o : Obj} (I : Inv X pins σ H s) (f : ad7 X pins H a) (e : s.heap.get? a = some o) (d : ∀ v, o.data ≠ .cell v) : Inv X ((a, o) :: pins) σ H s := I.ag9 λp hp => by
 rcases List.mem_cons.mp hp with rfl | hp
 ·exact ⟨e, f.1, f.2.1, f.2.2.1, d⟩
 ·exact I.pin p (List.mem_append_right _ hp)
theorem ad7.ap1 {a b : Addr} {o : Obj} (f : ad7 X pins H b) (n : a ≠ b) : ad7 X ((a, o) :: pins) H b := ⟨f.1, f.2.1, f.2.2.1, f.2.2.2.1, f.2.2.2.2.1, λp hp => by
 rcases List.mem_append.mp hp with hp | hp
 ·exact f.2.2.2.2.2 p (List.mem_append_left _ hp)
 ·rcases List.mem_cons.mp hp with rfl | hp
  ·exact n
  ·exact f.2.2.2.2.2 p (List.mem_append_right _ hp)⟩
theorem Inv.wr {a : Addr} {g : Array Value -> Array Value} {t' : Nat} (I : Inv X pins σ H s) (f : ad7 X pins H a) : Inv X pins σ H { s with heap := s.heap.update a (Obj.mapSeq g), toks := t' } := by
 obtain ⟨f0, f1, f2, f3, f4, f5⟩ := f
 exact I.turned (it := a) (λb o hb e => ((Heap.SameBut.update s.heap a _).2 b hb).trans e) f0 f1 f3 f4 f5
end
noncomputable def Srt (n : Nat) (kz : Nat -> Int × Int) (ys : List Nat) : Prop := ys.Perm (List.range n) /\ ys.Pairwise λi j => ((kz i).1 < (kz j).1 \/ ((kz i).1 = (kz j).1 /\ (kz i).2 < (kz j).2)) \/ (((kz i).1 = (kz j).1 /\ (kz i).2 = (kz j).2) /\ i < j)
structure ai0 (X : Cx) (Kv : Hp -> Value -> Int × Int -> Prop) (kd : SortKind) : Prop where
 kind : ∀ (H : Hp) (keys : Array Value) (kz : Nat -> Int × Int), 2 <= keys.size -> (∀ i v, keys[i]? = some v -> Kv H v (kz i)) -> ∀ {pins σ s Q E}, Inv X pins σ H s -> Q kd s -> wpAny (model X.prog X.w) X.A.in1.in1 (keyKind' keys) Q E s
 ask : ∀ {pins σ H s} {E : Value -> Shared -> Prop} (a₀ : Array Keyed) (kf : Value -> Int × Int), Inv X pins σ H s -> (∀ p, p ∈ a₀.toList -> Kv H p.1 (kf p.1)) -> Asks X.prog X.w X.A.in1.in1 E s a₀ kd kf
section
variable {X : Cx}
theorem asq : ai0 X (λ_ v k => ∃ t, v = .int k.1 t /\ k.2 = 0) oneType' where
 kind := λH keys kz h2 hk pins σ s Q E I q => by
  have hi : IntsAre keys.toList (keys.toList.map numOf) := by
   refine intsAre_map _ λv hv => ?_
   obtain ⟨i, hi, e⟩ := List.getElem_of_mem hv
   obtain ⟨t, z, _⟩ := hk i v (by rw [<-e]; simp [Array.getElem?_eq_getElem (show i < keys.size by simpa using hi)])
   exact ⟨_, t, z⟩
  rw [ksk_kind hi h2]
  exact wpAny_pure q
 ask := λa₀ kf I h st i j Q B hi hj q => by
  have h0 : IntKeys a₀ := λp hp => by
   obtain ⟨t, z, _⟩ := h p hp
   exact ⟨_, t, z⟩
  have B' : SBase a₀ st := ⟨B.pm, B.kn, B.fl, B.pd⟩
  have at_ : ∀ i, i < a₀.size -> q1 kf (arrOf st) i = K (arrOf st) i /\ q2 kf (arrOf st) i = 0 := λi hi => by
   obtain ⟨t, p, e⟩ := B'.at h0 hi
   have hi' : i < (arrOf st).size := by rw [B.sz]; exact hi
   have hm : (arrOf st)[i] ∈ a₀.toList := (Array.perm_iff_toList_perm.mp B.pm).mem_iff.mp (by simp)
   obtain ⟨t', z, z2⟩ := h _ hm
   have e' : (arrOf st)[i]? = some (arrOf st)[i] := getElem?_pos _ i hi'
   have e2 : (arrOf st)[i] = (Value.int (K (arrOf st) i) t, p) := by rw [e'] at e; exact Option.some.inj e
   rw [e2] at z z2
   unfold q1 q2
   rw [e]
   refine ⟨?_, z2⟩
   have z : Value.int (K (arrOf st) i) t = Value.int (kf (Value.int (K (arrOf st) i) t)).1 t' := z
   injection z with z
   exact z.symm
  refine wpS_ltK B' h0 hi hj ?_
  have : decide (Kl kf (arrOf st) i j) = decide (K (arrOf st) i < K (arrOf st) j) := by
   rw [decide_eq_decide]
   unfold Kl
   rw [(at_ i hi).1, (at_ j hj).1, (at_ i hi).2, (at_ j hj).2]
   omega
  rw [this] at q
  exact q
end
section
variable {X : Cx} {pins : List (Addr × Obj)} {σ : St} {H : Hp} {s : Shared} {Kv : Hp -> Value -> Int × Int -> Prop} {kd : SortKind} {a kS : Addr} {n : Nat} {kz : Nat -> Int × Int} {vs : List Value}
theorem amd {e1 : Nat} {keys : Array Value} {e : Nat} {st : SortSt} {P : PySem.Fin -> Shared -> Prop} {E : Value -> Shared -> Prop} (I : Inv X pins σ H s) (fk : ad7 X pins H kS) (fa : ad7 X pins H a) (ne : kS ≠ a) (hk : s.heap.get? kS = some (seqObj "list" keys e)) (ha : s.heap.get? a = some (seqObj "list" #[] e1)) (hks : keys.size <= 64) (hst : (arrOf st).size <= 64) (fl : failedOf st = none)
  (h : ∀ s' c, Inv X pins σ H s' -> s'.heap.get? a = some (seqObj "list" ((arrOf st).map (·.2)) c) -> P (.done (.ret .none)) s') : wpAny (model X.prog X.w) X.A.in1.in1 (ksk_tail a false e1 (.ref kS) st) P E s := by
 unfold ksk_tail
 refine wpAny_bind (listUpdate_at hk rfl ?_ (by rw [sizeLine_eq]; omega) (Nat.zero_le _))
 refine wpAny_bind (wpAny_letGo ?_)
 have I1 := I.wr (g := λ_ => #[]) (t' := s.toks) fk
 have ha1 : (s.heap.update kS (Obj.mapSeq λ_ => (#[] : Array Value))).get? a = some (seqObj "list" #[] e1) := ((Heap.SameBut.update s.heap kS _).2 a (Ne.symm ne)).trans ha
 refine wpAny_bind (seqEpoch_at ha1 rfl ?_)
 refine wpAny_bind (listUpdate_at ha1 rfl ?_ (Nat.zero_le _) (by simp only [Bool.false_eq_true, if_false, Array.size_map]; rw [sizeLine_eq]; omega))
 rw [fl]
 simp only [bne_self_eq_false, Bool.false_eq_true, if_false]
 exact wpAny_pure (h _ _ (I1.wr (t' := s.toks) fa) (get?_update_seq ha1 _))
theorem asr {e1 : Nat} {keys : Array Value} {e : Nat} {P : PySem.Fin -> Shared -> Prop} {E : Value -> Shared -> Prop} (T : ai0 X Kv kd) (I : Inv X pins σ H s) (fk : ad7 X pins H kS) (fa : ad7 X pins H a) (ne : kS ≠ a) (hk : s.heap.get? kS = some (seqObj "list" keys e)) (ha : s.heap.get? a = some (seqObj "list" #[] e1))
  (hv : ∀ (i : Nat) (v : Value), vs[i]? = some v -> ∃ t, v = Value.int i t) (hl : vs.length = n) (hkn : keys.size = n) (h64 : n < 64) (hK : ∀ i v, keys[i]? = some v -> Kv H v (kz i)) (inj : ∀ v k k', Kv H v k -> Kv H v k' -> k = k')
  (h : ∀ s' c out, Inv X pins σ H s' -> s'.heap.get? a = some (seqObj "list" out c) -> (∃ ys, Srt n kz ys /\ Vals (ys.map λi : Nat => V.int i) out.toList) -> P (.done (.ret .none)) s') : wpAny (model X.prog X.w) X.A.in1.in1 (ksk_end a false vs.toArray e1 (.ref kS) keys) P E s := by
 have zsz : (keys.zip vs.toArray).size = n := by rw [Array.size_zip, hkn, List.size_toArray, hl, Nat.min_self]
 have zat : ∀ i, i < n -> ∃ v t, (keys.zip vs.toArray)[i]? = some (v, .int i t) /\ Kv H v (kz i) := λi hi => by
  obtain ⟨t, e2⟩ := hv i vs[i] (by simp [hl, hi])
  have e1 : keys[i]? = some keys[i] := getElem?_pos _ _ (by omega)
  refine ⟨keys[i], t, ?_, hK i _ e1⟩
  rw [<-Array.getElem?_toList, ksk_zip, List.getElem?_zip_eq_some]
  refine ⟨by simp [Array.getElem?_toList, e1], ?_⟩
  show vs[i]? = some (Value.int i t)
  rw [List.getElem?_eq_getElem (by omega), e2]
 -- what the sorted array says
 have fin : ∀ (kf : Value -> Int × Int) (xs : Array Keyed), (∀ (i : Nat) v t, (keys.zip vs.toArray)[i]? = some (v, Value.int i t) -> kf v = kz i) -> xs.Perm (keys.zip vs.toArray) -> Sta kf xs n -> ∃ ys, Srt n kz ys /\ Vals (ys.map λi : Nat => V.int i) (xs.map (·.2)).toList := λkf xs hkf hp hs => by
  have hpl := Array.perm_iff_toList_perm.mp hp
  have mem : ∀ p ∈ xs.toList, ∃ i t, i < n /\ p.2 = .int (i : Nat) t /\ kf p.1 = kz i := λp hp' => by
   obtain ⟨i, hi, e⟩ := List.getElem_of_mem (hpl.mem_iff.mp hp')
   have hi' : i < n := by rw [Array.length_toList, zsz] at hi; exact hi
   obtain ⟨v, t, e1, _⟩ := zat i hi'
   have e2 : (keys.zip vs.toArray)[i]? = some p := by rw [<-Array.getElem?_toList, List.getElem?_eq_getElem hi, e]
   rw [e1] at e2
   cases e2
   exact ⟨i, t, hi', rfl, hkf i v t e1⟩
  refine ⟨xs.toList.map λp => (numOf p.2).toNat, ⟨?_, ?_⟩, ?_⟩
  ·have h1 := hpl.map λp : Keyed => (numOf p.2).toNat
   refine h1.trans (List.Perm.of_eq ?_)
   refine List.ext_getElem? λi => ?_
   by_cases hi : i < n
   ·obtain ⟨v, t, e1, _⟩ := zat i hi
    rw [List.getElem?_map, Array.getElem?_toList, e1, List.getElem?_range hi]
    simp [numOf]
   ·rw [List.getElem?_eq_none (by simp [zsz]; omega), List.getElem?_eq_none (by simp; omega)]
  ·rw [List.pairwise_map, List.pairwise_iff_getElem]
   intro i j hi hj hij
   have sz : xs.size = n := by rw [hp.size_eq, zsz]
   have hi' : i < xs.size := by simpa using hi
   have hj' : j < xs.size := by simpa using hj
   have z := hs i j hij (by omega)
   obtain ⟨a1, t1, _, b1, c1⟩ := mem _ (List.getElem_mem hi)
   obtain ⟨a2, t2, _, b2, c2⟩ := mem _ (List.getElem_mem hj)
   have x1 : xs[i]? = some xs.toList[i] := by rw [<-Array.getElem?_toList, List.getElem?_eq_getElem hi]
   have x2 : xs[j]? = some xs.toList[j] := by rw [<-Array.getElem?_toList, List.getElem?_eq_getElem hj]
   unfold Lq Kl Ke q1 q2 qr at z
   rw [x1, x2] at z
   dsimp only at z
   rw [b1, b2, c1, c2] at z
   rw [b1, b2]
   simp only [numOf, Int.toNat_natCast] at z ⊢
   omega
  ·rw [Array.toList_map, List.map_map]
   have go : ∀ l : List Keyed, (∀ p ∈ l, ∃ i t, i < n /\ p.2 = .int (i : Nat) t /\ kf p.1 = kz i) -> Vals (l.map ((λi : Nat => V.int i) ∘ λp : Keyed => (numOf p.2).toNat)) (l.map (·.2)) := λl => by
    induction l with
    | nil => intro _; exact .nil
    | cons p r ih =>
     intro hm
     refine .cons ?_ (ih λq hq => hm q (List.mem_cons_of_mem _ hq))
     obtain ⟨i, t, _, e, _⟩ := hm p (List.mem_cons_self ..)
     exact ⟨t, by simp [e, numOf]⟩
   exact go _ mem
 -- a function of the keys
 obtain ⟨kf, hkf⟩ : ∃ kf : Value -> Int × Int, ∀ v k, Kv H v k -> kf v = k := by
  classical
  refine ⟨λv => if q : ∃ k, Kv H v k then q.choose else (0, 0), λv k hk => ?_⟩
  have q : ∃ k, Kv H v k := ⟨k, hk⟩
  dsimp only
  rw [dif_pos q]
  exact inj v _ _ q.choose_spec hk
 have awg : ∀ (i : Nat) v t, (keys.zip vs.toArray)[i]? = some (v, Value.int i t) -> kf v = kz i := λi v t e => by
  have hi : i < n := by
   have := (Array.getElem?_eq_some_iff.mp e).1
   omega
  obtain ⟨v', t', e1, q⟩ := zat i hi
  rw [e1] at e
  cases e
  exact hkf _ _ q
 unfold ksk_end
 simp only [Bool.false_eq_true, if_false]
 rw [List.size_toArray, hl]
 by_cases h2 : n < 2
 ·rw [if_pos h2, if_pos h2]
  refine wpAny_bind (wpAny_pure ?_)
  rw [StateT.run_pure]
  refine wpAny_bind (wpAny_pure ?_)
  refine amd (st := SortSt.mk' general' (keys.zip vs.toArray) #[] 7 none) I fk fa ne hk ha (by omega) (by show (keys.zip vs.toArray).size <= 64; omega) rfl λs' c I' e' => h s' c _ I' e' (fin kf _ awg (Array.Perm.refl _) λi j hij hj => by omega)
 ·rw [if_neg h2, if_neg h2]
  refine wpAny_bind (T.kind H keys kz (by omega) hK I ?_)
  have ask := T.ask (E := E) (s := s) (keys.zip vs.toArray) kf I (λp hp => by
   obtain ⟨i, hi, e⟩ := List.getElem_of_mem hp
   have hi' : i < n := by rw [Array.length_toList, zsz] at hi; exact hi
   obtain ⟨v, t, e1, q⟩ := zat i hi'
   have e2 : (keys.zip vs.toArray)[i]? = some p := by rw [<-Array.getElem?_toList, List.getElem?_eq_getElem hi, e]
   rw [e1] at e2
   cases e2
   rw [hkf _ _ q]
   exact q)
  have B : SB (keys.zip vs.toArray) kd (SortSt.mk' kd (keys.zip vs.toArray) #[] 7 none) := ⟨Array.Perm.refl _, rfl, rfl, rfl⟩
  have p0 : Pre (keys.zip vs.toArray).size (arrOf (SortSt.mk' kd (keys.zip vs.toArray) #[] 7 none)) 0 := ⟨λk hk => by omega, λk _ hk => by
   obtain ⟨v, t, e1, _⟩ := zat k (by omega)
   show qr (keys.zip vs.toArray) k = k
   unfold qr
   rw [e1]
   rfl⟩
  refine wpAny_bind (wpAny_mono (ap0 (Q := λ_ t => (arrOf t).Perm (keys.zip vs.toArray) /\ failedOf t = none /\ Sta kf (arrOf t) (keys.zip vs.toArray).size) ask B (by omega) (by omega) p0 λt a1 a2 a3 => ⟨a1, a2, a3⟩) ?_ λ_ _ z => z)
  rintro ⟨⟨⟩, t⟩ s' ⟨rfl, hp, hf, hs⟩
  rw [zsz] at hs
  exact amd I fk fa ne hk ha (by omega) (by rw [hp.size_eq, zsz]; omega) hf λs' c I' e' => h s' c _ I' e' (fin kf _ awg hp hs)
end
end L2
end
section
namespace L2
open PySem PySem.Spec PyProof.Rows PySem.W
section
variable {X : Cx} {pins : List (Addr × Obj)} {σ : St} {H : Hp} {s : Shared} {Kv : Hp -> Value -> Int × Int -> Prop} {kd : SortKind} {n : Nat} {kz : Nat -> Int × Int} {vs : List Value} {f : Value}
theorem ad7.up {H' : Hp} {b : Addr} (h : ad7 X pins H b) (e : H' b = none) : ad7 X pins H' b := ⟨e, h.2⟩
noncomputable def ap2 (X : Cx) (pins : List (Addr × Obj)) (σ : St) (H : Hp) (Kv : Hp -> Value -> Int × Int -> Prop) (n : Nat) (kz : Nat -> Int × Int) (f : Value) : Prop :=
 ∀ (agy : List (Addr × Obj)) (i : Nat) (t : Tok) (s' : Shared) (H' : Hp), i < n -> (∀ p ∈ pins, p ∈ agy) -> Same H H' -> Inv X agy σ H' s' ->
  wpAny (model X.prog X.w) X.A.in1.in1 (call f [.int i t]) (λv s'' => ∃ H'', Same H' H'' /\ Kv H'' v (kz i) /\ Inv X agy σ H'' s'') (λ_ _ => False) s'
theorem ap3 {a kS : Addr} {e1 : Nat} {P : PySem.Fin -> Shared -> Prop} {E : Value -> Shared -> Prop} (T : ai0 X Kv kd) (mono : ∀ {H H' : Hp} {v k}, Same H H' -> Kv H v k -> Kv H' v k) (inj : ∀ (H : Hp) v k k', Kv H v k -> Kv H v k' -> k = k')
  (I : Inv X pins σ H s) (fk : ad7 X pins H kS) (fa : ad7 X pins H a) (ne : kS ≠ a) (hk : s.heap.get? kS = some (seqObj "list" #[] 0)) (ha : s.heap.get? a = some (seqObj "list" #[] e1))
  (hv : ∀ (i : Nat) (v : Value), vs[i]? = some v -> ∃ t, v = Value.int i t) (hl : vs.length = n) (h64 : n < 64) (key : ap2 X pins σ H Kv n kz f)
  (h : ∀ s' c out H', Same H H' -> H' a = none -> Inv X pins σ H' s' -> s'.heap.get? a = some (seqObj "list" out c) -> (∃ ys, Srt n kz ys /\ Vals (ys.map λi : Nat => V.int i) out.toList) -> P (.done (.ret .none)) s') :
  wpAny (model X.prog X.w) X.A.in1.in1 (ksk_rest a f false vs.toArray e1 (.ref kS)) P E s := by
 unfold ksk_rest
 refine wpAny_bind (wpAny_rule ?_)
 rw [<-Array.forIn_toList]
 simp only [List.toList_toArray]
 refine wpAny_bind (ksk_fold (λi s' => ∃ H' kA e, Same H H' ∧ H' kS = none ∧ H' a = none ∧ Inv X pins σ H' s' ∧ s'.heap.get? kS = some (seqObj "list" kA e) ∧ s'.heap.get? a = some (seqObj "list" #[] e1) ∧ kA.size = i ∧ ∀ (j : Nat) v, kA[j]? = some v → Kv H' v (kz j)) vs 0 s
  ⟨H, #[], 0, Same.refl _, fk.1, fa.1, I, hk, ha, rfl, λj v z => by simp at z⟩ ?_ ?_)
 ·rintro j x s' hx ⟨H', kA, e, sm, nk, na, I', hk', ha', sz, hK⟩
  rw [Nat.zero_add] at sz ⊢
  have hj : j < vs.length := (List.getElem?_eq_some_iff.mp hx).1
  obtain ⟨t, rfl⟩ := hv j x hx
  have fk' := fk.up nk
  have fa' := fa.up na
  have I2 : Inv X ((kS, seqObj "list" kA e) :: (a, seqObj "list" #[] e1) :: pins) σ H' s' := (I'.ap1 fa' ha' (λv z => by cases z)).ap1 (fk'.ap1 (Ne.symm ne)) hk' (λv z => by cases z)
  refine wpAny_bind (wpAny_attempt (wpAny_mono (key _ j t s' H' (by omega) (λp hp => List.mem_cons_of_mem _ (List.mem_cons_of_mem _ hp)) sm I2) (λv s'' he => ?_) λ_ _ z => z.elim))
  obtain ⟨H'', sm2, kv, I3⟩ := he
  have p1 := I3.pin (kS, seqObj "list" kA e) (List.mem_append_right _ (List.mem_cons_self ..))
  have p2 := I3.pin (a, seqObj "list" #[] e1) (List.mem_append_right _ (List.mem_cons_of_mem _ (List.mem_cons_self ..)))
  have I4 : Inv X pins σ H'' s'' := I3.sub λp hp => List.mem_cons_of_mem _ (List.mem_cons_of_mem _ hp)
  show wpAny _ _ (Builtin.List.listUpdate (.ref kS) (·.push v) >>= λ_ => pure (ForInStep.yield PUnit.unit)) _ _ _
  refine wpAny_bind (listUpdate_at p1.1 rfl ?_ (by rw [sizeLine_eq]; omega) (Nat.le_trans (Nat.le_of_eq (Array.size_push ..)) (by rw [sizeLine_eq]; omega)))
  refine wpAny_pure ⟨rfl, H'', kA.push v, _, sm.trans sm2, p1.2.1, p2.2.1, I4.wr (t' := s''.toks) (fk.up p1.2.1), get?_update_seq p1.1 _, ((Heap.SameBut.update s''.heap kS _).2 a (Ne.symm ne)).trans p2.1, by rw [Array.size_push, sz], λi u q => ?_⟩
  rw [Array.getElem?_push] at q
  split at q
  ·rename_i z
   cases q
   rw [z, sz]
   exact kv
  ·exact mono sm2 (hK i u q)
 ·rintro s' ⟨H', kA, e, sm, nk, na, I', hk', ha', sz, hK⟩
  refine wpAny_bind (listItems_at hk' rfl ?_)
  exact asr T I' (fk.up nk) (fa.up na) ne hk' ha' hv hl (by omega) h64 hK (inj H') λs'' c out I'' e'' q => h s'' c out H' sm na I'' e'' q
theorem ap4 {a : Addr} {c0 : Nat} {P : PySem.Fin -> Shared -> Prop} {E : Value -> Shared -> Prop} (T : ai0 X Kv kd) (mono : ∀ {H H' : Hp} {v k}, Same H H' -> Kv H v k -> Kv H' v k) (inj : ∀ (H : Hp) v k k', Kv H v k -> Kv H v k' -> k = k')
  (I : Inv X pins σ H s) (fa : ad7 X pins H a) (ha : s.heap.get? a = some (seqObj "list" vs.toArray c0))
  (hv : ∀ (i : Nat) (v : Value), vs[i]? = some v -> ∃ t, v = Value.int i t) (hl : vs.length = n) (h64 : n < 64) (key : ap2 X pins σ H Kv n kz f)
  (h : ∀ s' c out H', Same H H' -> H' a = none -> Inv X pins σ H' s' -> s'.heap.get? a = some (seqObj "list" out c) -> (∃ ys, Srt n kz ys /\ Vals (ys.map λi : Nat => V.int i) out.toList) -> P (.done (.ret .none)) s') :
  wpAny (model X.prog X.w) X.A.in1.in1 (ksk_tree a f false) P E s := by
 unfold ksk_tree
 refine wpAny_bind (listItems_at ha rfl ?_)
 refine wpAny_bind (listUpdate_at ha rfl ?_ (by rw [List.size_toArray, sizeLine_eq]; omega) (Nat.zero_le _))
 have I1 := I.wr (g := λ_ => #[]) (t' := s.toks) fa
 obtain ⟨e1, ha1⟩ : ∃ e1, (s.heap.update a (Obj.mapSeq λ_ => (#[] : Array Value))).get? a = some (seqObj "list" #[] e1) := ⟨_, get?_update_seq ha _⟩
 refine wpAny_bind (seqEpoch_at ha1 rfl ?_)
 refine wpAny_bind (wpAny_newTuple ?_ (by show vs.toArray.toList.length <= _; rw [List.toList_toArray, sizeLine_eq]; omega))
 refine wpAny_bind (wpAny_newList ?_ (Nat.zero_le _))
 have I2 : Inv X pins σ H { s with heap := (s.heap.update a (Obj.mapSeq λ_ => (#[] : Array Value))).push { cls := .type "tuple", data := .seq vs.toArray.toList.toArray } } := I1.kept (t' := s.toks) λb o e => Heap.get?_push_of_some _ e
 have I3 : Inv X pins σ H { s with heap := ((s.heap.update a (Obj.mapSeq λ_ => (#[] : Array Value))).push { cls := .type "tuple", data := .seq vs.toArray.toList.toArray }).push { cls := .type "list", data := .seq ([] : List Value).toArray } } := I2.kept (t' := s.toks) λb o e => Heap.get?_push_of_some _ e
 have lt : a < ((s.heap.update a (Obj.mapSeq λ_ => (#[] : Array Value))).push { cls := .type "tuple", data := .seq vs.toArray.toList.toArray }).objs.size := by
  rw [size_push', Heap.size_update]
  exact Nat.lt_succ_of_lt (Heap.lt_size ha)
 refine wpAny_holding ?_
 exact ap3 T mono inj I3 (I2.am2 (Nat.le_refl _) (I2.hok.fresh (Nat.le_refl _))) fa (Nat.ne_of_gt lt) (Heap.get?_push_size _ rfl) (Heap.get?_push_of_some _ (Heap.get?_push_of_some _ ha1)) hv hl h64 key h
theorem ai1 {A : Around} {r : Addr} {n : Nat} {t u v : Tok} {Q : List Value -> Shared -> Prop} {E : Value -> Shared -> Prop} {P : Program} {w : World} (hh : A.handled = none) (hr : IsRange s.heap r 0 n 1 t u v) (hn : n <= 1000)
  (h : ∀ h' tk (vs : List Value), (∀ b o, s.heap.get? b = some o -> h'.get? b = some o) -> vs.length = n -> (∀ (i : Nat) (v : Value), vs[i]? = some v -> ∃ t, v = Value.int i t) -> Q vs { s with heap := h', toks := tk }) :
  wpAny (model P w) A (collect (.ref r)) Q E s := by
 unfold collect
 refine wpAny_bind (wpAny_runValue (codeAny_builtin F.entry_proto_collect ?_))
 rw [Around.under_plainId F.plain_proto_collect _]
 show wpAny _ A.in1 (newList [] >>= λl => again (.builtin "list.__iadd__" ⟨[l, .ref r], []⟩)) _ _ s
 refine wpAny_bind (wpAny_newList ?_ (Nat.zero_le _))
 refine wpAny_pure ⟨plainId_quiet F.plain_list_iadd _, codeAny_builtin F.entry_list_iadd ?_⟩
 rw [Around.under_plainId F.plain_list_iadd _]
 have sz1 : Builtin.Range.rangeSize 0 (n : Int) 1 = n := by rw [rangeSize_one]; split <;> omega
 have keep : ∀ b o, s.heap.get? b = some o -> (s.heap.push { cls := .type "list", data := .seq ([] : List Value).toArray }).get? b = some o := λb o e => Heap.get?_push_of_some _ e
 show wpAny _ A.in1 (Builtin.List.listExtendWith (.ref s.heap.objs.size) (.ref r) (.ref s.heap.objs.size)) _ _ { s with heap := s.heap.push { cls := .type "list", data := .seq ([] : List Value).toArray } }
 refine wpAny_extend_range (A := A) (R := λr s' => match r with
  | Except.ok (Flow.ret v) => wpAny (model P w) A (match v with
   | Value.ref a => do
    let __do_lift <-load a
    match __do_lift.data with
     | Data.seq xs epoch => pure xs.toList
     | x => unsupported "internal:collect"
   | x => unsupported "internal:collect") Q E s'
  | Except.ok a => False
  | Except.error e => E e s') (s := { s with heap := s.heap.push { cls := .type "list", data := .seq ([] : List Value).toArray } }) hh (keep _ _ hr) (small_one (by omega) (by omega) (by omega) (by omega)) sz1 (by omega) s.heap.objs.size (.ref s.heap.objs.size) 0 (Heap.get?_push_size _ rfl) λh' tk acc c hk hS hi => ?_
 show wpAny _ A (load s.heap.objs.size >>= _) _ _ _
 refine wpAny_bind (wpAny_load hS ?_)
 refine wpAny_pure (h h' tk acc.toList (λb o e => hk b o (Nat.ne_of_lt (Heap.lt_size e)) (keep b o e)) (by rw [Array.length_toList]; exact hi.1) λi v e => ?_)
 rw [Array.getElem?_toList] at e
 obtain ⟨t, z⟩ := hi.2 i v e
 exact ⟨t, by rw [z]; simp⟩
theorem ame {r : Addr} {t u v : Tok} {q : Addr} {Q : Value -> Shared -> Prop} {E : Value -> Shared -> Prop} (T : ai0 X Kv kd) (mono : ∀ {H H' : Hp} {v k}, Same H H' -> Kv H v k -> Kv H' v k) (inj : ∀ (H : Hp) v k k', Kv H v k -> Kv H v k' -> k = k')
  (I : Inv X pins σ H s) (hh : X.A.handled = none) (hr : IsRange s.heap r 0 n 1 t u v) (h64 : n < 64) (key : ap2 X pins σ H Kv n kz (.ref q))
  (h : ∀ s' D ys H', Same H H' -> H' D = none -> Inv X pins σ (upd H' D (.lst (ys.map λi : Nat => V.int i))) s' -> Srt n kz ys -> Q (.ref D) s') :
  wpAny (model X.prog X.w) X.A (call (.builtin "sorted") [.ref r] [(Str.ofString "key", .ref q)]) Q E s := by
 refine call_function_entry_kw kind_sorted plain_sorted entry_sorted (ksk_s1 _ _) ?_
 unfold Builtin.«sorted»
 refine wpAny_bind (m := checkCount "sorted" 1 1 _) (wpAny_pure ?_)
 refine wpAny_bind (ai1 (A := X.A.in1) hh hr (by omega) λh1 tk vs keep hl hv => ?_)
 have I1 : Inv X pins σ H { s with heap := h1, toks := tk } := I.kept keep
 refine wpAny_bind (wpAny_newList ?_ (by rw [sizeLine_eq]; omega))
 have I2 : Inv X pins σ H { s with heap := h1.push { cls := .type "list", data := .seq vs.toArray }, toks := tk } := I1.kept (t' := tk) λb o e => Heap.get?_push_of_some _ e
 have ha : (h1.push { cls := .type "list", data := .seq vs.toArray }).get? h1.objs.size = some (seqObj "list" vs.toArray 0) := Heap.get?_push_size _ rfl
 refine wpAny_bind (wpAny_holding (wpAny_call_entry_kw slot_list_sort ⟨_, ha, rfl⟩ entry_list_sort ?_ (ksk_l1 _ _)))
 show wpAny (model X.prog X.w) X.A.in1.in1 (Builtin.«list.sort» ⟨[.ref h1.objs.size], [(Str.ofString "key", .ref q)]⟩) _ _ _
 rw [ksk_t1]
 have fa : ad7 X pins H h1.objs.size := I1.am2 (Nat.le_refl _) (I1.hok.fresh (Nat.le_refl _))
 refine ap4 T mono inj I2 fa ha hv hl h64 key λs' c out H' sm na I' e' ⟨ys, hs, hv'⟩ => ⟨_, rfl, ?_⟩
 refine wpAny_pure ⟨_, rfl, h s' _ ys H' sm na (I'.track (its := out.toList) (n := c) (fa.up na) e' hv' ?_) hs⟩
 have := hs.1.length_eq
 rw [List.length_map, this, List.length_range, sizeLine_eq]
 omega
end
end L2
end
section
namespace L2
open PySem PySem.Spec PyProof.Rows PySem.W
noncomputable def ap5 (X : Cx) (A : Around) (N : List Str) (qual : Str) (scope : Scope) (f : Addr) (cd : Value) (s : Shared) (H : Hp) : Cx where
 prog := X.prog
 w := X.w
 K := X.K
 mg := X.mg
 base := X.base
 A := A.deeper (envX qual scope s.heap.objs.size f cd (aas X.env.cells scope.names []))
 N := N
 s₀ := s
 H₀ := H
 env := envX qual scope s.heap.objs.size f cd (aas X.env.cells scope.names [])
 outer := X.stack
 stack := envX qual scope s.heap.objs.size f cd (aas X.env.cells scope.names []) :: X.stack
 ex := []
 fn := λ_ => false
 calm := true
 pn := []
 xe := λ_ _ => False
structure anJ (sc : Scope) (No : List Str) (x : Str) (Ns : List Str) (src : List (Option Nat)) (scope : Scope) : Prop where
 c : afU sc No (x :: Ns) (none :: src) scope
 aoR : ∀ y ∈ scope.names, y.2 ≠ .cell
 par : scope.names.lookup x = some .local
 co : scope.isCoroutine = false
 gen : scope.isGenerator = false
section
variable {X : Cx} {pins : List (Addr × Obj)} {σ : St} {H : Hp} {s : Shared} {sc scope : Scope} {No Ns : List Str} {src : List (Option Nat)} {x qual : Str}
theorem amf {A : Around} {f : Addr} {cd : Value} {h₁ : Heap} {tk : Nat} {v : V} {u : Value} (hsc : X.env.scope = sc) (hNo : X.N = No) (S : anJ sc No x Ns src scope) (hfr : A.frames = some X.stack) (hhd : A.handled = none) (I : Inv X pins σ H s) (rv : RelV v u)
  (hns : h₁.Ns s.heap.objs.size (λy => ([(x, u)] : List (Str × Value)).reverse.lookup y)) (old : ∀ b o, s.heap.get? b = some o -> h₁.get? b = some o) :
  Inv (ap5 X A (x :: Ns) qual scope f cd s H) [] (some v :: aeK src σ) H { s with heap := h₁, toks := tk } := by
 subst hsc
 subst hNo
 have af9 : ∀ x c, (aas X.env.cells scope.names []).lookup x = some c -> X.env.cells.lookup x = some c := λx c h => by
  rcases abd h with q | q
  ·simp at q
  ·exact q
 refine ⟨⟨I.ok.mod, S.c.kind, rfl, rfl, Nat.le_refl _, λx y c h1 h2 => I.ok.inj x y c (af9 _ _ h1) (af9 _ _ h2), λy hy => ?_, λx c h => (Bool.false_ne_true h).elim, λ_ => hhd, Around.frames_deeper hfr, .inr ⟨rfl, rfl⟩, λb hb => absurd (show b ∈ ([] : List Addr) from hb) (by simp),
   I.bs, Nat.le_trans I.ok.bsz I.sz, λb o e => by intro hb; exact absurd (show b ∈ ([] : List Addr) from hb) (by simp), λb hb => absurd (show b ∈ ([] : List Addr) from hb) (by simp), I.stack, I.aeG⟩,
  rfl, I.bare, Un.kept old, ⟨_, hns, λi y w' h1 h2 h3 => ?_⟩, λy c e => ?_, I.hok.fresh (Nat.le_refl _), λy c e => I.aef y c (af9 y c e), λp hp => absurd (show p ∈ ([] : List (Addr × Obj)) from hp) (by simp), I.hok.kept old, ?_⟩
 ·have hy : scope.names.lookup y = some .cell \/ scope.names.lookup y = some .free := hy
  have m : (y, NameKind.free) ∈ scope.names := by
   rcases hy with z | z
   ·exact absurd rfl (S.aoR _ (PySem.mem_of_lookup z))
   ·exact PySem.mem_of_lookup z
  have q := abk (cells := X.env.cells) (acc := []) (.inr ⟨m, by
   obtain ⟨c, e⟩ := I.ok.has y (S.c.free _ m rfl)
   rw [e]; rfl⟩)
  exact Option.isSome_iff_exists.mp q
 ·cases i with
  | zero =>
   have h1 : some x = some y := h1
   cases h1
   have h2 : some (some v) = some (some w') := h2
   cases h2
   exact ⟨u, rv, .inl ⟨S.par, by show ([(x, u)] : List (Str × Value)).reverse.lookup x = some u; simp⟩⟩
  | succ i =>
   have h1 : Ns[i]? = some y := h1
   have h2 : (aeK src σ)[i]? = some (some w') := h2
   have hi : i < src.length := by
    unfold aeK at h2
    have := (List.getElem?_eq_some_iff.mp h2).1
    simpa using this
   have h2' : ((src[i]).bind λj => (σ[j]?).join) = some w' := by
    unfold aeK at h2
    rw [List.getElem?_map, List.getElem?_eq_getElem hi] at h2
    exact Option.some.inj h2
   cases es : src[i] with
   | none => rw [es] at h2'; cases h2'
   | some j =>
    rw [es] at h2'
    have hj : σ[j]? = some (some w') := by
     have z : (σ[j]?).join = some w' := h2'
     cases q : σ[j]? with
     | none => rw [q] at z; cases z
     | some o => rw [q] at z; have z' : o = some w' := z; rw [z']
    have hz : (y, some j) ∈ (x :: Ns).zip (none :: src) := by
     refine List.mem_of_getElem? (i := i + 1) ?_
     rw [List.getElem?_zip_eq_some]
     exact ⟨by simpa using h1, by simp [List.getElem?_eq_getElem hi, es]⟩
    obtain ⟨u1, u2⟩ := S.c.up _ hz j rfl
    have m : (y, NameKind.free) ∈ scope.names := PySem.mem_of_lookup u2
    have kx := S.c.free _ m rfl
    obtain ⟨m0, hn0, hl0⟩ := id I.loc
    obtain ⟨u', r, lk⟩ := hl0 j y w' u1 hj (kx.elim (λz => .inr (.inl z)) λz => .inr (.inr z))
    refine ⟨u', r, ?_⟩
    rcases lk with ⟨k, _⟩ | ⟨_, c, e, ic⟩
    ·have k' : X.env.scope.names.lookup y = some .local := k
     rcases kx with z | z <;> (rw [z] at k'; cases k')
    ·refine .inr ⟨.inr u2, c, ?_, ?_⟩
     ·have q := abk (cells := X.env.cells) (acc := []) (.inr ⟨m, by rw [e]; rfl⟩)
      obtain ⟨c', e'⟩ := Option.isSome_iff_exists.mp q
      have e2 := af9 y c' e'
      rw [e] at e2; cases e2
      exact e'
     ·obtain ⟨o, ho, hd⟩ := ic
      exact ⟨o, old _ _ ho, hd⟩
 ·obtain ⟨v, o, ho, hd⟩ := I.cell y c (af9 y c e)
  exact ⟨v, o, old _ _ ho, hd⟩
 ·have := S.c.len
  show _ = (x :: Ns).length
  rw [List.length_cons] at this ⊢
  rw [List.length_cons]
  unfold aeK
  rw [List.length_map]
  exact this
theorem anK {A : Around} {f c' : Addr} {params : Arguments} {body : Expr} {pm ctv : Value} {v : V} {u : Value} {te : TE} {Q : VK} {E : Value -> Shared -> Prop} (hsc : X.env.scope = sc) (hNo : X.N = No) (S : anJ sc No x Ns src scope) (hfr : A.frames = some X.stack) (hhd : A.handled = none) (hroom : A.depth < recursionLimit)
  (I : Inv X pins σ H s) (ho : s.heap.get? f = some (kla_obj "<lambda>" qual params body scope (aas X.env.cells scope.names []) pm c' ctv)) (hcd : s.heap.CodeRec (.ref c') qual) (rv : RelV v u)
  (hbind : bindArgs (kla_fn "<lambda>" qual params body scope (aas X.env.cells scope.names []) pm (.ref c') ctv) ⟨[u], []⟩ = pure [(x, u)])
  (he : ∀ s H, PE (ap5 X A (x :: Ns) qual scope f (.ref c') s H) body te) (hq : te (some v :: aeK src σ) H Q) : wpAny (model X.prog X.w) A (call (.ref f) [u]) (EP X pins σ Q) E s := by
 refine wpAny_call (kla_callFunE hroom ho rfl S.co S.gen rfl hcd ?_)
 rw [hbind]
 refine wpAny_pure (wpAny_newFunctionEnv S.aoR (λy hy => ?_) (λh₁ hns hsb => ⟨I.nolimit.fresh _ hsb, ?_⟩) S.c.kind)
 ·have : y = (x, u) := by simpa using hy
  subst this
  exact S.par
 have old : ∀ b o, s.heap.get? b = some o -> h₁.get? b = some o := λb o e => hsb.extBut b o (Nat.ne_of_lt (Heap.lt_size e)) (Heap.get?_push_of_some _ e)
 have J := amf (A := A) (f := f) (cd := .ref c') (qual := qual) (tk := s.toks + [(x, u)].length) hsc hNo S hfr hhd I rv hns old
 show codeAny _ _ (.expr body (envX qual scope s.heap.objs.size f (.ref c') (aas X.env.cells scope.names []))) _ _
 refine kla_codeExpr (wpAny_mono (he s H [] _ _ H Q J hq) (λw' s' hw => ?_) λ_ _ z => z.elim)
 obtain ⟨v', H', J', r', q'⟩ := hw
 exact ⟨v', H', I.call' (ch := []) J'.os J'.base J'.hok J'.bare (λb hb => absurd hb (by simp)), r', q'⟩
end
end L2
end
section
namespace L2
open PySem PySem.Spec PyProof.Rows PySem.W
noncomputable def anL (mg : Str → Option Value) (base : Heap) : Prop := ∃ bm ob, mg "__builtins__" = some (.ref bm) ∧ bm ≠ builtinsNs ∧ bm ≠ mainGlobals ∧ base.get? bm = some ob ∧ ob.cls = .type "module" ∧ ob.dict = some builtinsNs ∧ ob.data = .plain
theorem aio {a b : Int} {t u : Tok} {c : Value} : ∀ {l : List Value}, TriplesOk l -> TriplesOk (l ++ [.int a t, .int b u, c])
 | [], _ => trivial
 | .int _ _ :: .int _ _ :: _ :: r, h => aio (l := r) h
theorem ag1 {a b : Int} {t u : Tok} {c v : Value} {pos : Pos} : ∀ {l : List Value}, TriplesOk l -> codeAmong pos (l ++ [.int a t, .int b u, c]) = some v -> codeAmong pos l = some v \/ v = c
 | [], _, h => by
  have h : (if _ then some c else none) = some v := h
  split at h
  ·cases h; exact .inr rfl
  ·cases h
 | .int x _ :: .int y _ :: z :: r, o, h => by
  have h : (if (x == pos.line && y == pos.col) = true then some z else codeAmong pos (r ++ [.int a t, .int b u, c])) = some v := h
  show (if (x == pos.line && y == pos.col) = true then some z else codeAmong pos r) = some v \/ _
  split at h
  ·rename_i q
   rw [if_pos q]
   exact .inl h
  ·rename_i q
   rw [if_neg q]
   exact ag1 (l := r) o h
section
variable {X : Cx} {pins : List (Addr × Obj)} {σ : St} {H : Hp} {s : Shared} {sc scope : Scope} {No Ns : List Str} {src : List (Option Nat)} {x : Str}
structure atV (P : Addr) (q : Str) (H H' : Hp) : Prop where
 kp : ∀ b o, H b = some o -> b ≠ P -> H' b = some o
 tb : ∃ ps, H' P = some (.tbl ps) /\ atN H' q ps
theorem anM {A : Around} {c P : Addr} {ps : Array Value} {params : Arguments} {body : Expr} {pos : Pos} {Q : Value -> Shared -> Prop} {E : Value -> Shared -> Prop} (hsc : X.env.scope = sc) (S : anJ sc No x Ns src scope) (hcode : X.env.code = .ref c) (C : CodeHd X.base c P) (B : anL X.mg X.base)
  (hdef : defaultsOf params X.env = ([], [])) (I : Inv X pins σ H s) (hP : H P = some (.tbl ps)) (ok : atN H (X.env.qual ++ ("<lambda>" : Str)) ps)
  (h : ∀ f c' ctv pm H' s' oc, atV P (X.env.qual ++ ("<lambda>" : Str)) H H' → Inv X ((f, kla_obj "<lambda>" (X.env.qual ++ ("<lambda>" : Str)) params body scope (aas X.env.cells scope.names []) pm c' ctv) :: pins) σ H' s' → H' c' = some (.frz oc (.own 0)) → aoz oc (X.env.qual ++ ("<lambda>" : Str)) → Q (.ref f) s') :
  wpAny (model X.prog X.w) A (eval (.Lambda params body scope pos) X.env) Q E s := by
 have hcl : closureFor scope X.env = pure (aas X.env.cells scope.names []) := adI λy hy e => by
  have k := S.c.free y hy e
  rw [<-hsc] at k
  obtain ⟨c, q⟩ := I.ok.has y.1 k
  rw [q]; rfl
 have oP : s.heap.get? P = some (tabObj ps) := I.hok P _ hP
 have nP : mainGlobals ≠ P := λz => by
  obtain ⟨o, es, ep, e, hd, _⟩ := I.ok.mod.glob
  have := (I.bs _ _ e).2
  rw [z, hP] at this
  cases this
 have hg : s.heap.Ns mainGlobals X.mg := let ⟨o, es, ep, e, r⟩ := I.ok.mod.glob; ⟨o, es, ep, I.bk _ _ e, r⟩
 have hB : s.heap.BuiltinsAt X.mg P := by
  obtain ⟨bm, ob, b1, b2, b3, b4, b5, b6, b7⟩ := B
  refine ⟨bm, ob, b1, b2, b3, λz => ?_, I.bk _ _ b4, b5, b6, b7⟩
  have := (I.bs _ _ b4).2
  rw [z, hP] at this
  cases this
 have C' : CodeHd s.heap c P := C.keeps I.bk
 refine kla_eval hdef ?_
 cases hf : codeAmong pos ps.toList with
 | some cv =>
  obtain ⟨c', oc, rfl, e1, e2⟩ := ok.2 pos cv hf
  refine kla_makeFunctionHit (mg := X.mg) hcl I.ok.glob hg hcode C' oP ok.1 hf hB λctv h' tk keep hsz => ?_
  have I1 : Inv X pins σ H { s with heap := h', toks := tk } := I.kept keep
  have I2 : Inv X pins σ H { s with heap := h'.push (kla_obj "<lambda>" (X.env.qual ++ ("<lambda>" : Str)) params body scope (aas X.env.cells scope.names []) ((X.mg "__name__").getD .none) c' ctv), toks := tk } := I1.kept (t' := tk) λb o e => Heap.get?_push_of_some _ e
  refine h _ c' ctv _ H _ oc ⟨λ_ _ q _ => q, ps, hP, ok⟩ (I2.ap1 (I1.am2 (Nat.le_refl _) (I1.hok.fresh (Nat.le_refl _))) (Heap.get?_push_size _ rfl) (λv z => by cases z)) e1 e2
 | none =>
  refine kla_makeFunction (mg := X.mg) hcl I.ok.glob hg hcode C' oP ok.1 hf nP hB λc' ctv h' tk ext hge hlt hrec htb => ?_
  obtain ⟨c2, oc, vs, t, e2, hoc, hd, hv⟩ := hrec
  cases e2
  have nc : H c' = none := I.hok.fresh hge
  have cP : c' ≠ P := λz => by rw [z, hP] at nc; cases nc
  have ne : ∀ b u, H b = some u -> b ≠ c' := λb u q => aaS q nc
  have up : ∀ b u, H b = some u -> b ≠ P -> (upd (upd H P (.tbl (ps ++ #[rawInt pos.line, rawInt pos.col, .ref c']))) c' (.frz oc (.own 0))) b = some u := λb u q z => by rw [aaw (ne b u q), aaw z]; exact q
  have upP : (upd (upd H P (.tbl (ps ++ #[rawInt pos.line, rawInt pos.col, .ref c']))) c' (.frz oc (.own 0))) P = some (.tbl (ps ++ #[rawInt pos.line, rawInt pos.col, .ref c'])) := by rw [aaw (Ne.symm cP)]; exact aaQ
  have keep : ∀ b o, b ≠ P -> s.heap.get? b = some o -> h'.get? b = some o := λb o z e => ext b o z e
  have hok : HOk X.prog X.w (upd (upd H P (.tbl (ps ++ #[rawInt pos.line, rawInt pos.col, .ref c']))) c' (.frz oc (.own 0))) h' := λb u q => by
   by_cases z1 : b = c'
   ·subst z1
    rw [aaQ] at q
    cases q
    exact ⟨hoc, oc, hoc⟩
   ·by_cases z2 : b = P
    ·subst z2
     rw [upP] at q
     cases q
     exact htb
    ·rw [aaw z1, aaw z2] at q
     refine (I.hok b u q).stay (λd v hd' e => keep d v ?_ e) (λd z => up d _ z ?_) λd ys z => up d _ z ?_
     ·rcases hd' with rfl | hd'
      ·exact z2
      ·rintro rfl
       rw [hP] at hd'
       cases hd'
     ·rintro rfl
      rw [hP] at z
      cases z
     ·rintro rfl
      rw [hP] at z
      cases z
  have aqG : ∀ b, H b = none -> b ≠ P := λb n z => by rw [z, hP] at n; cases n
  have I1 : Inv X pins σ (upd (upd H P (.tbl (ps ++ #[rawInt pos.line, rawInt pos.col, .ref c']))) c' (.frz oc (.own 0))) { s with heap := h', toks := tk } :=
   I.step (h' := h') (g' := s.gens) (d' := s.drawn) (t' := tk) (ch := []) (λ_ z => nomatch z) (λb o _ _ _ e n => keep b o (aqG b n) e) (λb o _ _ _ e n => ⟨o.slots, keep b o (aqG b n) e⟩)
    (λb o _ e n => by
     rw [aaw (λz => by rw [z] at e; exact absurd (Heap.lt_size e) (Nat.not_lt.mpr hge)), aaw (aqG b n)]; exact n)
    (λb o _ e => by
     by_cases z : b = P
     ·subst z; exact ⟨_, htb⟩
     ·exact ⟨o, keep b o z e⟩)
    (λb ys q => up b _ q (by rintro rfl; rw [hP] at q; cases q)) (λb o u q => up b _ q (by rintro rfl; rw [hP] at q; cases q))
    (λb qs q => by
     by_cases z : b = P
     ·subst z
      rw [hP] at q
      cases q
      exact ⟨_, upP⟩
     ·exact ⟨#[], by rw [up b _ q z]; simp⟩)
    (λm q => q.extBut ext (aqG _ I.free)) hok I.bare
  have I2 := I1.kept (t' := tk) (h' := h'.push (kla_obj "<lambda>" (X.env.qual ++ ("<lambda>" : Str)) params body scope (aas X.env.cells scope.names []) ((X.mg "__name__").getD .none) c' ctv)) λb o e => Heap.get?_push_of_some _ e
  refine h _ c' ctv _ _ _ oc ⟨up, _, upP, ?_, λpos' v q => ?_⟩ (I2.ap1 (I1.am2 (Nat.le_refl _) (I1.hok.fresh (Nat.le_refl _))) (Heap.get?_push_size _ rfl) (λv z => by cases z)) aaQ ⟨vs, t, hd, hv⟩
  ·have : (ps ++ #[rawInt pos.line, rawInt pos.col, .ref c']).toList = ps.toList ++ [rawInt pos.line, rawInt pos.col, .ref c'] := by simp
   rw [this]
   exact aio ok.1
  ·have : (ps ++ #[rawInt pos.line, rawInt pos.col, .ref c']).toList = ps.toList ++ [rawInt pos.line, rawInt pos.col, .ref c'] := by simp
   rw [this] at q
   rcases ag1 ok.1 q with q | q
   ·obtain ⟨d, o, z1, z2, z3⟩ := ok.2 pos' v q
    exact ⟨d, o, z1, up d _ z2 (by rintro rfl; rw [hP] at z2; cases z2), z3⟩
   ·exact ⟨c', oc, q, aaQ, vs, t, hd, hv⟩
end
end L2
end
section
namespace L2
open PySem PySem.Spec PyProof.Rows PySem.W
noncomputable abbrev KW := Hp -> V -> Int × Int -> Prop
noncomputable def kwI : KW := λ_ v k => v = .int k.1 /\ k.2 = 0
noncomputable def amg (Kw : KW) (P : Addr) (q : Str) (src : List (Option Nat)) (ta : TA) (te : TE) : TE := λσ H Q => ta σ H λvs H1 => ∃ (n : Nat) (kz : Nat -> Int × Int), vs = [.int n] /\ n < 64 /\ (∃ ps, H1 P = some (.tbl ps) /\ atN H1 q ps) /\ ∀ H2, atV P q H1 H2 ->
 (∀ (i : Nat), i < n -> ∀ H3, Same H2 H3 -> te (some (.int i) :: aeK src σ) H3 λv H4 => Kw H4 v (kz i) /\ Same H3 H4) /\ ∀ D (ys : List Nat) H3, Same H2 H3 -> H3 D = none -> Srt n kz ys -> Q (.ref D) (upd H3 D (.lst (ys.map λi : Nat => V.int i)))
section
variable {X : Cx} {sc scope : Scope} {No Ns : List Str} {src : List (Option Nat)} {x : Str} {Kw : KW} {kd : SortKind}
theorem anN {k : Nat} {c P : Addr} {e : Expr} {params : Arguments} {body : Expr} {p p2 pos pos2 aw2 kp : Pos} {ta : TA} {te : TE} (T : ai0 X (λH u k => ∃ v, RelV v u /\ Kw H v k) kd) (mono : ∀ {H H' : Hp} {v k}, Same H H' -> Kw H v k -> Kw H' v k) (inj : ∀ (H : Hp) u k k', (∃ v, RelV v u /\ Kw H v k) -> (∃ v, RelV v u /\ Kw H v k') -> k = k')
  (hr : aeI k X.A) (h1 : X.mg "sorted" = none) (h2 : X.mg "range" = none) (hsc : X.env.scope = sc) (hNo : X.N = No) (S : anJ sc No x Ns src scope) (hcode : X.env.code = .ref c) (C : CodeHd X.base c P) (B : anL X.mg X.base) (hdef : defaultsOf params X.env = ([], []))
  (ha : PA X [e] ta) (hbind : ∀ (pm cd ctv u : Value), bindArgs (kla_fn "<lambda>" (X.env.qual ++ ("<lambda>" : Str)) params body scope (aas X.env.cells scope.names []) pm cd ctv) ⟨[u], []⟩ = pure [(x, u)])
  (he : ∀ A f cd s H, PE (ap5 X A (x :: Ns) (X.env.qual ++ ("<lambda>" : Str)) scope f cd s H) body te)
  (hg : X.env.kindOf "sorted" = some .globalImplicit := by kernel_rfl) (hg2 : X.env.kindOf "range" = some .globalImplicit := by kernel_rfl) (hs : notStar e = true := by kernel_rfl) :
  PE X (.Call (.Name "sorted" p) [.Call (.Name "range" p2) [e] [] pos2] [⟨some (Str.ofString "key"), .Lambda params body scope aw2, kp⟩] pos) (amg Kw P (X.env.qual ++ ("<lambda>" : Str)) src ta te) := by
 refine ⟨λpins s σ H Q I h => ?_⟩
 refine wpAny_Call_Name_kw (afP I hg h1 (by decide +kernel : bootBuiltins "sorted" = some (.builtin "sorted")) ?_ (by decide +kernel) (by kernel_rfl))
 refine callWith_kw (Calls.spliced_cons (wpAny_Call_Name_kw (afP I hg2 h2 boot_range (PyProof.Rows.callWith_type1 (thn (ha pos2 pins s σ H _ I h) λus s1 ⟨vs, H1, I1, r1, q1⟩ => ?_) (acE hs) rfl) (by decide +kernel) (by kernel_rfl))))
 obtain ⟨n, kz, rfl, h64, ⟨ps, hP, ok⟩, hq⟩ := q1
 obtain ⟨u1, rfl, t1, rfl⟩ := vals1 r1
 refine call_range_1 ?_
 have rfp : ad7 X pins H1 s1.heap.objs.size := I1.am2 (Nat.le_refl _) (I1.hok.fresh (Nat.le_refl _))
 have I2 : Inv X pins σ H1 { s1 with heap := s1.heap.push { cls := .type "range", data := .fields #[.int 0 s1.toks, .int n t1, .int 1 (s1.toks + 1)] }, toks := s1.toks + 1 + 1 } := I1.kept λb o e => Heap.get?_push_of_some _ e
 have I3 := I2.ap1 rfp (Heap.get?_push_size _ rfl) (λv z => by cases z)
 refine Calls.spliced_nil ?_
 refine kws_cons (anM hsc S hcode C B hdef I3 hP ok λf c' ctv pm H2 s2 oc lh I4 e1 e2 => ?_)
 refine kws_nil ?_
 have pr := I4.pin _ (List.mem_append_right _ (List.mem_cons_of_mem _ (List.mem_cons_self ..)))
 obtain ⟨key, fin⟩ := hq H2 lh
 show wpAny _ _ (call (.builtin "sorted") [.ref s1.heap.objs.size] [(Str.ofString "key", .ref f)]) _ _ _
 refine ame T (λ{H H' u k} sm ⟨v, a1, a2⟩ => ⟨v, a1, mono sm a2⟩) inj I4 hr.hd pr.1 h64 (λagy i t s' H' hi sub sm I' => ?_) λs' D ys H3 sm nD I' hs' => ⟨.ref D, _, I'.sub λp hp => List.mem_cons_of_mem _ (List.mem_cons_of_mem _ hp), rfl, fin D ys H3 sm nD hs'⟩
 have pf := I'.pin _ (List.mem_append_right _ (sub _ (List.mem_cons_self ..)))
 have hcd : s'.heap.CodeRec (.ref c') (X.env.qual ++ ("<lambda>" : Str)) := by
  obtain ⟨vs, t, a1, a2⟩ := e2
  exact ⟨c', oc, vs, t, rfl, (I'.hok c' _ (sm _ _ e1)).1, a1, a2⟩
 refine thn (anK (A := X.A.in1.in1) (v := .int i) (te := te) (Q := λv H4 => Kw H4 v (kz i) /\ Same H' H4) hsc hNo S I.ok.frames hr.hd hr.depth I' pf.1 hcd ⟨t, rfl⟩ (hbind _ _ _ _) (λs H => he _ _ _ _ _) (key i hi H' sm)) λu s'' ⟨v, H4, I'', rv, q1, q2⟩ => ⟨H4, q2, ⟨v, rv, q1⟩, I''⟩
theorem asu : ai0 X (λH u k => ∃ v, RelV v u /\ kwI H v k) oneType' where
 kind := λH keys kz h2 hk pins σ s Q E I q => asq.kind H keys kz h2 (λi v e => by
  obtain ⟨w, r, rfl, z⟩ := hk i v e
  obtain ⟨t, rfl⟩ := r
  exact ⟨t, rfl, z⟩) I q
 ask := λa₀ kf I h => asq.ask a₀ kf I λp hp => by
  obtain ⟨w, r, z1, z⟩ := h p hp
  subst z1
  obtain ⟨t, r⟩ := r
  exact ⟨t, r, z⟩
theorem ap6 (H : Hp) (u : Value) (k k' : Int × Int) (h : ∃ v, RelV v u /\ kwI H v k) (h' : ∃ v, RelV v u /\ kwI H v k') : k = k' := by
 obtain ⟨v, r, rfl, z⟩ := h
 obtain ⟨v', r', rfl, z'⟩ := h'
 obtain ⟨t, rfl⟩ := r
 obtain ⟨t', r'⟩ := r'
 injection r' with r' _
 exact Prod.ext r' (z.trans z'.symm)
end
end L2
end
section
namespace L2
open PySem PySem.Spec PyProof.Rows PySem.W
noncomputable def bfr (kz : Nat -> Int × Int) (i j : Nat) : Prop := ((kz i).1 < (kz j).1 \/ ((kz i).1 = (kz j).1 /\ (kz i).2 < (kz j).2)) \/ (((kz i).1 = (kz j).1 /\ (kz i).2 = (kz j).2) /\ i < j)
noncomputable instance {kz : Nat -> Int × Int} {i j : Nat} : Decidable (bfr kz i j) := by unfold bfr; infer_instance
noncomputable def anO (kz : Nat -> Int × Int) (i : Nat) : List Nat -> List Nat
 | [] => [i]
 | j :: r => if bfr kz i j then i :: j :: r else j :: anO kz i r
noncomputable def amh (n : Nat) (kz : Nat -> Int × Int) : List Nat := (List.range n).foldr (anO kz) []
theorem aga (kz : Nat -> Int × Int) (i : Nat) : ∀ l, (anO kz i l).Perm (i :: l)
 | [] => .refl _
 | j :: r => by
  unfold anO
  split
  ·exact .refl _
  ·exact ((aga kz i r).cons j).trans (.swap i j r)
theorem ami (kz : Nat -> Int × Int) (i : Nat) : ∀ l, (∀ j ∈ l, i ≠ j) -> l.Pairwise (bfr kz) -> (anO kz i l).Pairwise (bfr kz)
 | [], _, _ => by simp [anO]
 | j :: r, hn, hp => by
  have hp' := List.pairwise_cons.mp hp
  unfold anO
  split
  ·rename_i b
   refine List.pairwise_cons.mpr ⟨λk hk => ?_, hp⟩
   rcases List.mem_cons.mp hk with rfl | hk
   ·exact b
   ·have := hp'.1 k hk
    unfold bfr at b this ⊢
    omega
  ·rename_i b
   refine List.pairwise_cons.mpr ⟨λk hk => ?_, ami kz i r (λk hk => hn k (List.mem_cons_of_mem _ hk)) hp'.2⟩
   rcases List.mem_cons.mp ((aga kz i r).mem_iff.mp hk) with rfl | hk
   ·have := hn j (List.mem_cons_self ..)
    unfold bfr at b ⊢
    omega
   ·exact hp'.1 k hk
theorem aip (kz : Nat -> Int × Int) : ∀ l : List Nat, l.Nodup -> (l.foldr (anO kz) []).Perm l /\ (l.foldr (anO kz) []).Pairwise (bfr kz)
 | [], _ => ⟨.refl _, .nil⟩
 | i :: r, nd => by
  have nd' := List.nodup_cons.mp nd
  obtain ⟨h1, h2⟩ := aip kz r nd'.2
  exact ⟨(aga kz i _).trans (h1.cons i), ami kz i _ (λj hj z => nd'.1 (by rw [z]; exact h1.mem_iff.mp hj)) h2⟩
theorem aiq (n : Nat) (kz : Nat -> Int × Int) : Srt n kz (amh n kz) := aip kz _ List.nodup_range
theorem amj {R : Nat -> Nat -> Prop} (as : ∀ a b, R a b -> ¬ R b a) : ∀ {l m : List Nat}, l.Perm m -> l.Pairwise R -> m.Pairwise R -> l = m
 | [], m, p, _, _ => by rw [List.nil_perm.mp p]
 | a :: l, [], p, _, _ => by simpa using p.length_eq
 | a :: l, b :: m, p, h1, h2 => by
  have h1' := List.pairwise_cons.mp h1
  have h2' := List.pairwise_cons.mp h2
  have e : a = b := by
   rcases List.mem_cons.mp (p.mem_iff.mp (List.mem_cons_self ..)) with z | z
   ·exact z
   ·rcases List.mem_cons.mp (p.mem_iff.mpr (List.mem_cons_self (a := b))) with y | y
    ·exact y.symm
    ·exact (as _ _ (h1'.1 b y) (h2'.1 a z)).elim
  subst e
  rw [amj as p.cons_inv h1'.2 h2'.2]
theorem Srt.eq {n : Nat} {kz : Nat -> Int × Int} {ys : List Nat} (h : Srt n kz ys) : ys = amh n kz := by
 have g := aiq n kz
 refine amj (R := bfr kz) (λa b h1 h2 => ?_) (h.1.trans g.1.symm) h.2 g.2
 unfold bfr at h1 h2
 omega
noncomputable abbrev RF := List (Option Tr) -> Rs Tr
noncomputable def QS (K : PySem.W.Frag) (te : TE) (f : RF) : Prop := ∀ (W : Addr -> Prop) (σ : St) (H : Hp) (Q : VK) (ts : List (Option Tr)) (T : Tr), (∀ b, W b -> Lt H b) -> (∀ (i : Nat) U, ts[i]? = some (some U) -> ∃ v, σ[i]? = some (some v) /\ Rp K W H v U) -> f ts = .ok T ->
 (∀ v H', Same H H' -> Rp K W H' v T -> Q v H') -> te σ H Q
theorem Rp.up {K : PySem.W.Frag} {W : Addr -> Prop} {H H' : Hp} {v : V} {T : Tr} (h : Rp K W H v T) (s : Same H H') : Rp K W H' v T := by
 have m : Same (aaT W H) (aaT W H') := (Stp.of s).off
 rcases h with h | ⟨a, xs, ts, e1, e2, e, r⟩
 ·exact .inl (h.mono m)
 ·exact .inr ⟨a, xs, ts, e1, e2, s _ _ e, r.mono m⟩
section
variable {K : PySem.W.Frag} {ta tb : TE} {fa fb : RF}
noncomputable def anP (i : Nat) : RF := λts => match ts[i]? with
 | some (some U) => .ok U
 | _ => .bad
theorem aoS (i : Nat) : QS K (am0 i) (anP i) := λW σ H Q ts T hw h e q => by
 unfold anP at e
 split at e
 ·rename_i U z
  cases e
  obtain ⟨v, h1, h2⟩ := h i _ z
  exact ⟨v, h1, q v H (Same.refl _) h2⟩
 ·cases e
noncomputable def rOp (g : G2) (fa fb : RF) : RF := λts => (fa ts).bind λa => (fb ts).bind λb => (g a b).bind λz => .ok z.1
theorem auS {r : R2} {g : G2} (o : OpT K r g) (ha : QS K ta fa) (hb : QS K tb fb) : QS K (tOp r ta tb) (rOp g fa fb) := λW σ H Q ts T hw h e q => by
 unfold rOp at e
 obtain ⟨a, e1, e⟩ := aaR e
 obtain ⟨b, e2, e⟩ := aaR e
 obtain ⟨z, e3, e⟩ := aaR e
 cases e
 refine ha W σ H _ ts a hw h e1 λx H1 s1 r1 => ?_
 refine hb W σ H1 _ ts b (λb w => (hw b w).grow s1) (λi U z => let ⟨v, h1, h2⟩ := h i U z; ⟨v, h1, h2.up s1⟩) e2 λy H2 s2 r2 => ?_
 refine o W x y a b H2 Q (λb w => (hw b w).grow (s1.trans s2)) (r1.up s2) r2 ?_
 rw [e3]
 intro v H3 s3 v3
 refine q v H3 ((s1.trans s2).trans s3) (.inl ?_)
 exact VOk.rep (λb w => ((hw b w).grow (s1.trans s2)).ne) v3
noncomputable def rUn (g : G1) (fa : RF) : RF := λts => (fa ts).bind λa => (g a).bind λz => .ok z.1
theorem auT {r : V -> Hp -> VK -> Prop} {g : G1} (o : UnT K r g) (ha : QS K ta fa) : QS K (tUn r ta) (rUn g fa) := λW σ H Q ts T hw h e q => by
 unfold rUn at e
 obtain ⟨a, e1, e⟩ := aaR e
 obtain ⟨z, e3, e⟩ := aaR e
 cases e
 refine ha W σ H _ ts a hw h e1 λx H1 s1 r1 => ?_
 refine o W x a H1 Q (λb w => (hw b w).grow s1) r1 ?_
 rw [e3]
 intro v H3 s3 v3
 refine q v H3 (s1.trans s3) (.inl ?_)
 exact VOk.rep (λb w => ((hw b w).grow s1).ne) v3
end
noncomputable def slT (ρ : En) (j : Nat) : Option Tr := match ρ[j]? with
 | some (.sh T) => some T
 | some (.ow ts) => some (.lst ts)
 | some (.rf ts) => some (.lst ts)
 | _ => none
noncomputable def amk (src : List (Option Nat)) (ρ : En) : List (Option Tr) := src.map λo => o.bind (slT ρ)
noncomputable def asv : Tr -> Option (Int × Int)
 | .int i => some (i, 0)
 | _ => none
noncomputable def ai2 (kt : Tr -> Option (Int × Int)) (fb : RF) (ts : List (Option Tr)) : List Nat -> Rs (List (Int × Int))
 | [] => .ok []
 | i :: r => (fb (some (Tr.int i) :: ts)).bind λT => match kt T with
  | some k => (ai2 kt fb ts r).bind λks => .ok (k :: ks)
  | none => .bad
theorem air {kt : Tr -> Option (Int × Int)} {fb : RF} {ts : List (Option Tr)} : ∀ {l : List Nat} {ks : List (Int × Int)}, ai2 kt fb ts l = .ok ks -> ks.length = l.length /\ ∀ (j i : Nat), l[j]? = some i -> ∃ T k, fb (some (Tr.int i) :: ts) = .ok T /\ kt T = some k /\ ks[j]? = some k
 | [], ks, h => by cases h; exact ⟨rfl, λj i z => by simp at z⟩
 | a :: l, ks, h => by
  unfold ai2 at h
  obtain ⟨T, e1, h⟩ := aaR h
  split at h
  ·rename_i k e2
   obtain ⟨ks', e3, h⟩ := aaR h
   cases h
   obtain ⟨h1, h2⟩ := air e3
   refine ⟨by simp [h1], λj i z => ?_⟩
   cases j with
   | zero => simp at z; subst z; exact ⟨T, k, e1, e2, by simp⟩
   | succ j => simpa using h2 j i (by simpa using z)
  ·cases h
noncomputable def aj8 (kt : Tr -> Option (Int × Int)) (src : List (Option Nat)) (fa : AF) (fb : RF) : EF := λρ => (fa ρ).bind λp => match p.1 with
 | [.v (.int n) _] => if 0 <= n /\ n < 64 then (abX (ai2 kt fb (amk src p.2) (List.range n.toNat))).bind λks => .ok (.v (.lst ((amh n.toNat λi => ks.getD i (0, 0)).map λi : Nat => Tr.int i)) true, p.2) else .bad
 | _ => .bad
theorem aj9 {K : PySem.W.Frag} {H : Hp} : ∀ l : List Nat, aaO K H (l.map λi : Nat => V.int i) (l.map λi : Nat => Tr.int i)
 | [] => .nil
 | n :: l => .cons (.int n) (aj9 l)
theorem asw {t : Tx} {W : Addr -> Prop} {ρ : En} {σ : St} {H : Hp} {j : Nat} {U : Tr} (e : EOk t W ρ σ H) (h : slT ρ j = some U) : ∃ v, σ[j]? = some (some v) /\ Rp t.K W H v U := by
 unfold slT at h
 split at h
 ·rename_i T q
  cases h
  obtain ⟨v, h1, h2⟩ := e.sh j _ q
  exact ⟨v, h1, .inl h2⟩
 ·rename_i ts q
  cases h
  obtain ⟨a, xs, h1, _, _, h4, h5⟩ := e.ow j _ q
  exact ⟨_, h1, .inr ⟨a, xs, ts, rfl, rfl, h4, h5⟩⟩
 ·rename_i ts q
  cases h
  obtain ⟨a, xs, h1, _, _, h4, h5⟩ := e.rf j _ q
  exact ⟨_, h1, .inr ⟨a, xs, ts, rfl, rfl, h4, h5⟩⟩
 ·cases h
theorem atV.smt {K : PySem.W.Frag} {P c : Addr} {x : Str} {H H' : Hp} (tb : TbS K H) (hx : x ∈ aa7) (ht : tabIn K x = some (c, P)) (hu : ∀ x' ∈ aa7, ∀ c', tabIn K x' = some (c', P) -> x' = x) (l : atV P (ahi x) H H') : SmT K H H' := by
 refine ⟨λb o q n => l.kp b o q λz => n ?_, λx' hx' c' b e => ?_⟩
 ·subst z
  exact ⟨x, hx, c, ht⟩
 ·by_cases z : b = P
  ·subst z
   have := hu x' hx' c' e
   subst this
   exact l.tb
  ·obtain ⟨ps, q, t1, t2⟩ := tb x' hx' c' b e
   refine ⟨ps, l.kp _ _ q z, t1, λpos v k => ?_⟩
   obtain ⟨d, o, e1, e2, e3⟩ := t2 pos v k
   refine ⟨d, o, e1, l.kp _ _ e2 ?_, e3⟩
   rintro rfl
   obtain ⟨qs, y, _⟩ := tb x hx c d ht
   rw [y] at e2
   cases e2
theorem anQ {t : Tx} {Kw : KW} {kt : Tr -> Option (Int × Int)} {c P : Addr} {x : Str} {src : List (Option Nat)} {ta : TA} {fa : AF} {te : TE} {fb : RF} (hx : x ∈ aa7) (ht : tabIn t.K x = some (c, P)) (hu : ∀ x' ∈ aa7, ∀ c', tabIn t.K x' = some (c', P) -> x' = x)
  (hkt : ∀ (W : Addr -> Prop) (H : Hp) v T k, Rp t.K W H v T -> kt T = some k -> Kw H v k) (ha : SA t ta fa) (hb : QS t.K te fb) : SE t (amg Kw P (ahi x) src ta te) (aj8 kt src fa fb) := λW ρ σ H Q e h => by
 refine ha W ρ σ H _ e (Rs.aag (Rs.aae h) λp h vs H1 e1 s1 v1 => ?_)
 obtain ⟨rs, ρ1⟩ := p
 dsimp only at h e1 v1
 split at h
 case h_2 => exact h.elim
 rename_i n fr
 split at h
 case isFalse => exact h.elim
 rename_i hn
 have ev : vs = [.int n] := by
  cases v1 with
  | cons h1 r1 =>
   cases r1
   cases fr with
   | false =>
    have h1 : Rep _ _ _ (Tr.int n) := h1
    cases h1
    rfl
   | true =>
    obtain ⟨_, _, _, _, z, _⟩ := h1
    cases z
 obtain ⟨ks, k1, h⟩ := abC (Rs.aae h) (aj2 _)
 have un : ∀ {α : Type} {x : Rs α} {a : α}, abX x = .ok a -> x = .ok a := λ{α x a} z => by cases x <;> first | exact z | cases z
 obtain ⟨kl, kg⟩ := air (un k1)
 have nn : ((n.toNat : Nat) : Int) = n := by omega
 refine ⟨n.toNat, λi => ks.getD i (0, 0), by rw [ev, nn], by omega, e1.tab.ok x hx c P ht, λH2 lh => ?_⟩
 obtain ⟨e2, s2⟩ := e1.al4 (lh.smt e1.tab.ok hx ht hu)
 refine ⟨λi hi H3 s3 => ?_, λD ys H3 s3 nD hs => ?_⟩
 ·obtain ⟨T, k, f1, f2, f3⟩ := kg i i (List.getElem?_range hi)
  have e3 := e2.grow s3
  refine hb W _ H3 _ _ T e3.wl (λj U z => ?_) f1 λv H4 s4 r4 => ⟨hkt W H4 v T _ r4 ?_, s4⟩
  ·cases j with
   | zero => simp at z; subst z; exact ⟨.int i, by simp, .inl (.int i)⟩
   | succ j =>
    have z : (amk src ρ1)[j]? = some (some U) := z
    unfold amk at z
    rw [List.getElem?_map] at z
    cases eq : src[j]? with
    | none => rw [eq] at z; cases z
    | some o =>
     rw [eq] at z
     have z : o.bind (slT ρ1) = some U := Option.some.inj z
     cases o with
     | none => cases z
     | some l =>
      obtain ⟨v, h1, h2⟩ := asw e3 (show slT ρ1 l = some U from z)
      refine ⟨v, ?_, h2⟩
      show (aeK src σ)[j]? = some (some v)
      rw [ahq eq, h1]
      rfl
  ·rw [f2]
   show some k = some (ks.getD i (0, 0))
   rw [List.getD_eq_getElem?_getD, f3]
   rfl
 ·have e3 := e2.grow s3
  have hs' := hs.eq
  have st : Stp W H1 H3 := s2.trans (Stp.of s3)
  refine h (.ref D) _ (e3.grow (aaC nD _)) ((s1.trans st).trans (Stp.of (aaC nD _))) (VOE.back (H := H3) (VOE.of (σ' := σ) e3 (aaC nD _) (VOk.new nD ?_)) λb q => (s1.trans st).dom b q)
  rw [hs']
  exact aj9 _
theorem asx (K : PySem.W.Frag) (W : Addr -> Prop) (H : Hp) (v : V) (T : Tr) (k : Int × Int) (r : Rp K W H v T) (e : asv T = some k) : kwI H v k := by
 unfold asv at e
 split at e
 ·cases e
  exact ⟨r.int, rfl⟩
 ·cases e
end L2
end
section
namespace L2
open PySem PySem.Spec PyProof.Rows PySem.W
noncomputable def AtL (K : PySem.W.Frag) (mg : Str -> Option Value) (x : Str) (st : Stmt) (c : Addr) : Prop := ∃ f fd, Fun K x x st f fd /\ mg x = some (.ref f) /\ fd.code = .ref c
section
variable {P : Program} {w : World} {K : PySem.W.Frag} {mg : Str -> Option Value} {base : Heap}
theorem AtL.aw3 {c : Addr} {k : Nat} {x : Str} {st : Stmt} {N ps : List Str} {sp : Sp} (a : AtL K mg x st c) (S : aaE N ps (aak st))
  (hb : ∀ (kV doc pm : Value) (an : Option Addr) (cdv ct : Value) (us : List Value), us.length = ps.length -> bindArgs (fnOf x x (acC st) (abH st) (aak st) .none kV doc pm an cdv ct) ⟨us, []⟩ = pure (ps.zip us))
  (len : ∀ vs H Q E, sp vs H Q E -> vs.length = ps.length)
  (hbody : ∀ (f : Addr) (A : Around) (outer : List Env) (s : Shared) (H : Hp) (vs : List V) (Q : VK) (E : XK), aeI k (A.deeper (envOfC x (aak st) s.heap.objs.size f (.ref c))) -> sp vs H Q E ->
   ∃ t, PSs (ajI (CXF P w) P w K mg base N x (aak st) f (.ref c) A outer s H E) (abH st) t /\ t { nx := λ_ H' => Q .non H', rt := Q } (start N vs) H) : DfX P w K mg base (k + 1) x ps sp := by
 obtain ⟨f, fd, F, m, hc⟩ := a
 refine ⟨f, fd, ?_, F.binds hb, F.kp, m⟩
 obtain ⟨oc, od, kV, doc, pm, an, cdv, ct, osl, rfl, lk, hcd⟩ := F.ex
 have hc : cdv = .ref c := hc
 subst hc
 exact aq9 lk hcd S len λA outer s H vs Q E hr h => hbody f A outer s H vs Q E hr h
theorem AtL.aw4 {c : Addr} {k : Nat} {x : Str} {st : Stmt} {N ps : List Str} {cl : Str -> Addr} {b : SF} (a : AtL K mg x st c) (S : aaE N ps (aak st)) (hn : ps.length <= N.length)
  (hb : ∀ (kV doc pm : Value) (an : Option Addr) (cdv ct : Value) (us : List Value), us.length = ps.length -> bindArgs (PySem.W.fnOf x x (acC st) (abH st) (aak st) .none kV doc pm an cdv ct) ⟨us, []⟩ = pure (ps.zip us))
  (hbody : ∀ (f : Addr) (A : Around) (outer : List Env) (s : Shared) (H : Hp) (E : XK), aeI k (A.deeper (envOfC x (aak st) s.heap.objs.size f (.ref c))) ->
   ∃ ts, PSs (ajI (CXF P w) P w K mg base N x (aak st) f (.ref c) A outer s H E) (abH st) ts /\ ∀ t : Tx, t.K = nlK K -> (∀ c H', F0 t H' -> t.EX c -> E (.ref (cl c)) none H') -> SS t ts b) :
  DfX P w K mg base (k + 1) x ps (spP K cl ps.length (fnP N.length b)) := by
 refine a.aw3 S hb (λvs H Q E h => ?_) (λf A outer s H vs Q E hr h => ?_)
 ·obtain ⟨_, _, h, _⟩ := h; exact h
 obtain ⟨Z, as, hl, r, zl, tb, h⟩ := h
 obtain ⟨ts, h1, h2⟩ := hbody f A outer s H E hr
 refine ⟨ts, h1, ?_⟩
 have sm : ∀ (b : Addr) (W : Addr -> Prop) ρ σ H', EOk ⟨nlK K, Z, Tb (nlK K), H, λ_ => none, λc => ∀ H', SmT (nlK K) H H' -> E (.ref (cl c)) none H'⟩ W ρ σ H' -> SmT (nlK K) H H' := λ_ W ρ σ H' e => ⟨λb o q n => e.f0 b o q n, e.tab.ok⟩
 have r := r.afo (afE tb)
 refine h2 ⟨nlK K, Z, Tb (nlK K), H, λ_ => none, λc => ∀ H', SmT (nlK K) H H' -> E (.ref (cl c)) none H'⟩ rfl (λc H' f0 q => q H' ⟨λb o z n => f0.1 b o z n, f0.2⟩) (λb => Z b \/ Tb (nlK K) b) (aaH N.length as) (start N vs) H _ ?_ (Rs.aag (Rs.aae h) λq h => ?_)
 ·have la := r.length
  have aj0 : ∀ (i : Nat) (us : List Tr), (aaH N.length as)[i]? = some (.dp us) -> False := λi us q => by
   rcases abr q with ⟨u', q1, z⟩ | z <;> cases z
  refine ⟨λ_ => [], ?_, λ_ z => .inl z, λb z => ?_, λb z => z.elim (zl b) (λz => .inr (tb.tbl z)), λb o q _ => q, λb q => q, λi u q => ?_, λi us q => ?_, λi us q => ?_, λi j c m1 m2 => ?_, λb o z => (by cases z), λ_ _ _ _ => rfl, λi us q => (aj0 i us q).elim, λi _ us _ _ q => (aj0 i us q).elim, λi _ us _ q => (aj0 i us q).elim, λi us q => (aj0 i us q).elim, ⟨tb, λ_ z => .inr z, λ_ z => z, λ_ _ => rfl⟩⟩
  ·unfold aaH start
   simp only [List.length_append, List.length_map, List.length_replicate]
   omega
  ·exact (zl b z).ne
  ·rcases abr q with ⟨u', q1, z⟩ | z
   ·cases z
    obtain ⟨v, e1, e2⟩ := r.aoB q1
    exact ⟨v, aen e1, e2⟩
   ·cases z
  ·rcases abr q with ⟨u', q1, z⟩ | z <;> cases z
  ·rcases abr q with ⟨u', q1, z⟩ | z <;> cases z
  ·obtain ⟨us, q | q⟩ := m1 <;> rcases abr q with ⟨u', q1, z⟩ | z <;> cases z
 ·obtain ⟨fl, ρ'⟩ := q
  cases fl with
  | nx => exact λW' σ' H' e n => h .non H' (sm 0 W' ρ' σ' H' e) .non
  | rt T fr =>
   refine λv W' σ' H' e n => h v H' (sm 0 W' ρ' σ' H' e) ?_
   cases fr <;> exact n
  | bk => exact h.elim
  | ct => exact h.elim
end
noncomputable def asy (K : PySem.W.Frag) (x : Str) : Option (Addr × Addr) := match K.lookup mainGlobals with
 | some o => if o.cls == .type "list" then none else (match nsIn K mainGlobals x with
  | some (some (.ref f)) => (match K.lookup f with
   | some o => if o.cls == .type "list" then none else (match o.data with
    | .func fd => (match fd.code with
     | .ref c => (match K.lookup c with
      | some o => if o.cls == .type "list" then none else tabIn K x
      | _ => none)
     | _ => none)
    | _ => none)
   | _ => none)
  | _ => none)
 | _ => none
theorem ahu {o : Obj} (h : (o.cls == .type "list") = false) : noL o = o := by
 unfold noL
 rw [if_neg]
 rintro ⟨z, _⟩
 rw [z] at h
 exact absurd h (by decide +kernel)
theorem ap7 {K : PySem.W.Frag} {x : Str} {o : Obj} (h : K.lookup mainGlobals = some o) (n : (o.cls == .type "list") = false) : nsIn (nlK K) mainGlobals x = nsIn K mainGlobals x := by
 have e : (nlK K).lookup mainGlobals = K.lookup mainGlobals := by
  rw [aa3, h]
  show some (noL o) = some o
  rw [ahu n]
 unfold nsIn
 rw [e]
theorem aml {K : PySem.W.Frag} {x : Str} {z : Addr × Addr} (h : asy K x = some z) : tabIn K x = some z /\ tabIn (nlK K) x = some z := by
 unfold asy at h
 split at h
 ·rename_i o1 h1
  split at h
  ·cases h
  ·rename_i n1
   split at h
   ·rename_i f hf
    split at h
    ·rename_i o2 h2
     split at h
     ·cases h
     ·rename_i n2
      split at h
      ·rename_i fd hd
       split at h
       ·rename_i c hc
        split at h
        ·rename_i o3 h3
         split at h
         ·cases h
         ·rename_i n3
          refine ⟨h, ?_⟩
          rw [<-h]
          unfold tabIn
          rw [ap7 h1 (by simpa using n1), hf]
          dsimp only
          rw [aa3, h2]
          dsimp only [Option.map]
          rw [ahu (by simpa using n2)]
          obtain ⟨a1, a2, a3, a4⟩ := o2
          dsimp only at hd
          subst hd
          dsimp only
          rw [hc]
          dsimp only
          rw [aa3, h3]
          dsimp only [Option.map]
          rw [ahu (by simpa using n3)]
        ·cases h
       ·cases h
      ·cases h
    ·cases h
   ·cases h
 ·cases h
theorem amm {o : Obj} {d : Data} (h : (noL o).data = d) (n : d ≠ .fields #[]) : noL o = o := by
 unfold noL at h ⊢
 split at h
 ·exact (n h.symm).elim
 ·rename_i q
  rw [if_neg q]
theorem akb {K : PySem.W.Frag} {x : Str} {z : Addr × Addr} (h : tabIn (nlK K) x = some z) : tabIn K x = some z := by
 unfold tabIn at h
 split at h
 ·rename_i f hf
  have g1 : nsIn K mainGlobals x = some (some (.ref f)) := by
   unfold nsIn at hf
   rw [aa3] at hf
   cases e : K.lookup mainGlobals with
   | none => rw [e] at hf; cases hf
   | some o =>
    rw [e] at hf
    unfold nsIn
    rw [e]
    have q : noL o = o := by
     dsimp only [Option.map] at hf
     split at hf
     ·rename_i a b es ep c eq
      have eq : noL o = ⟨a, b, .dict es ep, c⟩ := Option.some.inj eq
      exact amm (d := .dict es ep) (by rw [eq]) (by intro z; cases z)
     ·cases hf
    dsimp only [Option.map] at hf
    rw [q] at hf
    exact hf
  split at h
  ·rename_i a b fd osl hfo
   have g2 : K.lookup f = some ⟨a, b, .func fd, osl⟩ := by
    rw [aa3] at hfo
    cases e : K.lookup f with
    | none => rw [e] at hfo; cases hfo
    | some o =>
     rw [e] at hfo
     have eq : noL o = ⟨a, b, .func fd, osl⟩ := Option.some.inj hfo
     rw [amm (d := .func fd) (by rw [eq]) (by intro z; cases z)] at eq
     rw [eq]
   split at h
   ·rename_i c hc
    split at h
    ·rename_i a' b' vs awh hco
     split at h
     ·rename_i Pp hv
      cases h
      have g3 : K.lookup c = some ⟨a', b', .fields vs, awh⟩ := by
       rw [aa3] at hco
       cases e : K.lookup c with
       | none => rw [e] at hco; cases hco
       | some o =>
        rw [e] at hco
        have eq : noL o = ⟨a', b', .fields vs, awh⟩ := Option.some.inj hco
        rw [amm (d := .fields vs) (by rw [eq]) (by intro z; injection z with z; subst z; simp at hv)] at eq
        rw [eq]
      unfold tabIn
      rw [g1]
      dsimp only
      rw [g2]
      dsimp only
      rw [hc]
      dsimp only
      rw [g3]
      dsimp only
      rw [hv]
     ·cases h
    ·cases h
   ·cases h
  ·cases h
 ·cases h
structure anR (K : PySem.W.Frag) (mg : Str -> Option Value) (base : Heap) (x : Str) (c P : Addr) : Prop where
 nm : x ∈ aa7
 hd : CodeHd base c P
 bm : anL mg base
 tab : tabIn (nlK K) x = some (c, P)
 un : ∀ x' ∈ aa7, ∀ c', tabIn (nlK K) x' = some (c', P) -> x' = x
theorem ap8 {t : Tx} {K : PySem.W.Frag} {mg : Str -> Option Value} {base : Heap} {x : Str} {c P : Addr} {src : List (Option Nat)} {ta : TA} {fa : AF} {te : TE} {fb : RF} (L : anR K mg base x c P) (hK : t.K = nlK K) (ha : SA t ta fa) (hb : QS (nlK K) te fb) : SE t (amg kwI P (ahi x) src ta te) (aj8 asv src fa fb) :=
 anQ (c := c) L.nm (by rw [hK]; exact L.tab) (by rw [hK]; exact L.un) (asx _) ha (by rw [hK]; exact hb)
theorem ap9 {K : PySem.W.Frag} {x : Str} {f c P : Addr} {o1 : Obj} {oc : Value} {od : Option Addr} {fd : FuncData} {sl : Array (Option Value)} {cc : Value} {cd : Option Addr} {vs : Array Value} {cs : Array (Option Value)} (a : nsIn K mainGlobals x = some (some (.ref f))) (l1 : K.lookup mainGlobals = some o1) (n1 : (o1.cls == .type "list") = false)
  (l2 : K.lookup f = some ⟨oc, od, .func fd, sl⟩) (n2 : (oc == .type "list") = false) (hc : fd.code = .ref c) (l3 : K.lookup c = some ⟨cc, cd, .fields vs, cs⟩) (n3 : (cc == .type "list") = false) (hv : vs[11]? = some (.ref P)) : asy K x = some (c, P) := by
 unfold asy
 rw [l1]
 dsimp only
 rw [if_neg (by rw [n1]; exact Bool.false_ne_true), a]
 dsimp only
 rw [l2]
 dsimp only
 rw [if_neg (by rw [n2]; exact Bool.false_ne_true), hc]
 dsimp only
 rw [l3]
 dsimp only
 rw [if_neg (by rw [n3]; exact Bool.false_ne_true)]
 unfold tabIn
 rw [a]
 dsimp only
 rw [l2]
 dsimp only
 rw [hc]
 dsimp only
 rw [l3]
 dsimp only
 rw [hv]
theorem akc {K : PySem.W.Frag} {x : Str} (a : nsIn K mainGlobals x = some none) : tabIn K x = none := by
 unfold tabIn
 rw [a]
theorem anS {K : PySem.W.Frag} {mg : Str -> Option Value} {base : Heap} {x : Str} {c P : Addr} (nm : x ∈ aa7) (hc : ∀ x ∈ aa7, ∀ c b, tabIn K x = some (c, b) -> CodeHd base c b) (bm : anL mg base) (q : asy K x = some (c, P)) (ho : ∀ x' ∈ aa7, x' = x \/ ∀ c', tabIn K x' ≠ some (c', P)) : anR K mg base x c P :=
 ⟨nm, hc x nm c P (aml q).1, bm, (aml q).2, λx' hx' c' e => (ho x' hx').elim id λz => (z c' (akb e)).elim⟩
end L2
end
section
namespace L2
open PySem PySem.Spec PyProof.Rows PySem.W
section
variable {X : Cx}
end
noncomputable def eLR (fa : AF) : EF := λρ => (fa ρ).bind λp => match p.1 with
 | [.v (.int n) _] => if 0 <= n /\ n <= 1000 then .ok (.v (.lst ((List.range n.toNat).map λi : Nat => Tr.int i)) true, p.2) else .bad
 | _ => .bad
end L2
end
section
namespace L2
open PySem PySem.Spec PyProof.Rows
section
variable {t : Tx} {K : PySem.W.Frag}
noncomputable def aqa (F : FR) (fa : EF) : EF := λρ => (fa ρ).bind λp => match p.1 with
 | .v (.lst us) true => (F [.lst us]).bind λz => .ok (.v z.1.1 z.1.2, p.2)
 | _ => .bad
end
end L2
end
section
namespace L2
open PySem PySem.Spec PyProof.Rows
section
variable {X : Cx}
end
end L2
end
section
namespace L2
open PySem PySem.Spec PyProof.Rows
section
variable {P : Program} {w : World} {K : PySem.W.Frag}
end
section
variable {X : Cx}
end
section
variable {t : Tx}
end
section
variable {X : Cx}
end
section
variable {K : PySem.W.Frag}
end
end L2
end
section
namespace L2
open PySem PySem.Spec PyProof.Rows
end L2
end
section
namespace L2
open PySem PySem.Spec PyProof.Rows PySem.W
noncomputable def ag2 : List Str := "HeadError" :: abN
noncomputable def isub (c d : Str) : Bool := c == d || d == ("HeadError" : Str)
noncomputable def asz : List Ty := [.int, .bool, .str, .tuple, .list]
noncomputable def anT (K : Frag) (cs : List Str) (p : Str -> Addr -> Bool) : Bool := cs.all λc => match nsIn K mainGlobals c with
 | some (some (.ref C)) => p c C
 | _ => true
theorem ahv {K : Frag} {cs : List Str} {p : Str -> Addr -> Bool} (h : anT K cs p = true) {c : Str} (m : c ∈ cs) {C : Addr} (n : nsIn K mainGlobals c = some (some (.ref C))) : p c C = true := by
 have := List.all_eq_true.mp h c m
 rw [n] at this
 exact this
noncomputable def auU (K : Frag) (C : Addr) : Bool := findIn K (.ref C) "__getattribute__" == some (some (.builtin "BaseException.__getattribute__")) && findIn K (.ref C) "__getattr__" == some none && findIn K (.ref C) "__class__" == some (some (.builtin "object.__class__")) && mroIn K C (.type "object") == some true && mroIn K C (.type "BaseException") == some true && (clsIn K C).isSome
theorem aqb {K : Frag} {C : Addr} (h : auU K C = true) : alQ K C := by
 unfold auU at h
 simp only [Bool.and_eq_true] at h
 obtain ⟨⟨⟨⟨⟨h1, h2⟩, h3⟩, h4⟩, h5⟩, h6⟩ := h
 exact ⟨beq_iff_eq.mp h1, beq_iff_eq.mp h2, beq_iff_eq.mp h3, beq_iff_eq.mp h4, beq_iff_eq.mp h5, h6⟩
noncomputable def asA (K : Frag) : Bool :=
 anT K abN (λ_ C => auU K C && asz.all (λy => kitOne K (.ref C) (.type y.name) == some false) && kitOne K (.ref C) (.type "ValueError") == some true) &&
 anT K ag2 (λd D => kitOne K (.type "NoneType") (.ref D) == some false && anT K abN (λc C => kitOne K (.ref C) (.ref D) == some (isub c d) && (!(d == ("HeadError" : Str)) || exmOne K (.ref C) (.ref D) == some true))) &&
 kitOne K (.type "NoneType") (.type "ValueError") == some false && (match K.lookup mainGlobals with
  | some o => o.cls != .type "list"
  | none => true)
structure aiK (K : Frag) : Prop where
 o : XOk K
 n : ∀ d ∈ ag2, ∀ D, nsIn K mainGlobals d = some (some (.ref D)) -> kitOne K (.type "NoneType") (.ref D) = some false
 k : ∀ d ∈ ag2, ∀ D, nsIn K mainGlobals d = some (some (.ref D)) -> ∀ c ∈ abN, ∀ C, nsIn K mainGlobals c = some (some (.ref C)) -> kitOne K (.ref C) (.ref D) = some (isub c d)
 v : ∀ c ∈ abN, ∀ C, nsIn K mainGlobals c = some (some (.ref C)) -> kitOne K (.ref C) (.type "ValueError") = some true
 vn : kitOne K (.type "NoneType") (.type "ValueError") = some false
 h : ∀ D, nsIn K mainGlobals "HeadError" = some (some (.ref D)) -> ∀ c ∈ abN, ∀ C, nsIn K mainGlobals c = some (some (.ref C)) -> exmOne K (.ref C) (.ref D) = some true
 x : ∀ c ∈ abN, ∀ C, nsIn K mainGlobals c = some (some (.ref C)) -> alQ K C
 mc : ∀ o, K.lookup mainGlobals = some o -> o.cls ≠ .type "list"
theorem aiK.of {K : Frag} (h : asA K = true) : aiK K := by
 unfold asA at h
 simp only [Bool.and_eq_true] at h
 obtain ⟨⟨⟨h1, h2⟩, h3⟩, h4⟩ := h
 have a1 : ∀ c ∈ abN, ∀ C, nsIn K mainGlobals c = some (some (.ref C)) -> alQ K C /\ (∀ y : Ty, kitOne K (.ref C) (.type y.name) = some false) /\ kitOne K (.ref C) (.type "ValueError") = some true := λc m C n => by
  have := ahv h1 m n
  simp only [Bool.and_eq_true] at this
  obtain ⟨⟨x1, x2⟩, x3⟩ := this
  refine ⟨aqb x1, λy => ?_, beq_iff_eq.mp x3⟩
  have := List.all_eq_true.mp x2 y (by cases y <;> simp [asz])
  exact beq_iff_eq.mp this
 have a2 : ∀ d ∈ ag2, ∀ D, nsIn K mainGlobals d = some (some (.ref D)) → kitOne K (.type "NoneType") (.ref D) = some false ∧ ∀ c ∈ abN, ∀ C, nsIn K mainGlobals c = some (some (.ref C)) → kitOne K (.ref C) (.ref D) = some (isub c d) ∧ (d = "HeadError" → exmOne K (.ref C) (.ref D) = some true) := λd m D n => by
  have := ahv h2 m n
  rw [Bool.and_eq_true] at this
  refine ⟨beq_iff_eq.mp this.1, λc mc C nc => ?_⟩
  have := ahv this.2 mc nc
  rw [Bool.and_eq_true] at this
  refine ⟨beq_iff_eq.mp this.1, λe => ?_⟩
  have z := this.2
  rw [Bool.or_eq_true] at z
  rcases z with z | z
  ·rw [e] at z; cases z
  ·exact beq_iff_eq.mp z
 refine ⟨λc m C n => ⟨λa => ajP (a1 c m C n).1, (a1 c m C n).2.1⟩, λd m D n => (a2 d m D n).1, λd m D n c mc C nc => ((a2 d m D n).2 c mc C nc).1, λc m C n => (a1 c m C n).2.2, beq_iff_eq.mp h3, λD n c mc C nc => ((a2 "HeadError" (List.mem_cons_self ..) D n).2 c mc C nc).2 rfl, λc m C n => (a1 c m C n).1, λo e => ?_⟩
 rw [e] at h4
 simpa using h4
noncomputable def isc : Tr -> Str -> Option Bool
 | .exn c, d => some (isub c d)
 | .non, _ => some false
 | _, _ => none
noncomputable def isv : Tr -> Option Bool
 | .exn _ => some true
 | .non => some false
 | _ => none
noncomputable def auV (K : Frag) (d : Str) (D : Addr) : List V -> Hp -> VK -> Prop := λxs H Q => ∃ v T b, xs = [v, .ref D] /\ Rep K H v T /\ isc T d = some b /\ Q (.bl b) H
noncomputable def auW (K : Frag) : List V -> Hp -> VK -> Prop := λxs H Q => ∃ v T b, xs = [v, .ty "ValueError"] /\ Rep K H v T /\ isv T = some b /\ Q (.bl b) H
section
variable {X : Cx}
theorem anU (hX : aiK X.K) {d : Str} {D : Addr} (hd : d ∈ ag2) (hn : nsIn X.K mainGlobals d = some (some (.ref D))) : acH X (.builtin "isinstance") (auV X.K d D) := by
 intro pins s σ H xs us Q I r h
 obtain ⟨v, T, b, rfl, q1, hb, q⟩ := h
 cases q1 with
 | exn h m n =>
  cases hb
  exact ajQ pins s σ H _ us Q I r ⟨_, _, .ref D, _, _, rfl, h, hX.x _ m _ n, λu h => h, hX.k d hd D hn _ m _ n, q⟩
 | non =>
  cases hb
  exact ajR pins s σ H _ us Q I r ⟨.ref D, _, _, rfl, λu h => h, hX.n d hd D hn, q⟩
 | bl y => cases hb
 | int i => cases hb
 | str y => cases hb
 | tup h r => cases hb
 | lst h r => cases hb
theorem anV (hX : aiK X.K) : acH X (.builtin "isinstance") (auW X.K) := by
 intro pins s σ H xs us Q I r h
 obtain ⟨v, T, b, rfl, q1, hb, q⟩ := h
 cases q1 with
 | exn h m n =>
  cases hb
  exact ajQ pins s σ H _ us Q I r ⟨_, _, .type "ValueError", _, _, rfl, h, hX.x _ m _ n, λu h => h, hX.v _ m _ n, q⟩
 | non =>
  cases hb
  exact ajR pins s σ H _ us Q I r ⟨.type "ValueError", _, _, rfl, λu h => h, hX.vn, q⟩
 | bl y => cases hb
 | int i => cases hb
 | str y => cases hb
 | tup h r => cases hb
 | lst h r => cases hb
variable {e : Expr} {te : TE} {x : Str} {p q pos : Pos}
theorem pcX (hX : aiK X.K) {D : Addr} (hd : x ∈ ag2) (hn : nsIn X.K mainGlobals x = some (some (.ref D))) (hm : X.mg x = some (.ref D)) (he : PE X e te) (h1 : X.mg "isinstance" = none) (hg1 : X.env.kindOf "isinstance" = some .globalImplicit := by kernel_rfl) (hg2 : X.env.kindOf x = some .globalImplicit := by kernel_rfl) (hdb : (x == ("__debug__" : Str)) = false := by kernel_rfl)
  (hs : notStar e = true := by kernel_rfl) : PE X (.Call (.Name "isinstance" p) [e, .Name x q] [] pos) (tCB (auV X.K x D) (ac4 te (ac4 (tC (.ref D)) alE))) :=
 afB (anU hX hd hn) hg1 h1 PyProof.Rows.boot_isinstance (acA he (acA (alu (v := .ref D) hg2 hm rfl hdb) aal) (acE hs)) (by decide +kernel) (by kernel_rfl) (acE hs)
theorem pcV (hX : aiK X.K) (he : PE X e te) (h1 : X.mg "isinstance" = none) (h2 : X.mg "ValueError" = none) (hg1 : X.env.kindOf "isinstance" = some .globalImplicit := by kernel_rfl) (hg2 : X.env.kindOf "ValueError" = some .globalImplicit := by kernel_rfl)
  (hs : notStar e = true := by kernel_rfl) : PE X (.Call (.Name "isinstance" p) [e, .Name "ValueError" q] [] pos) (tCB (auW X.K) (ac4 te (ac4 (tC (.ty "ValueError")) alE))) :=
 afB (anV hX) hg1 h1 PyProof.Rows.boot_isinstance (acA he (acA (alv (v := .ty "ValueError") hg2 h2 (by decide +kernel) rfl (by decide +kernel) (by kernel_rfl)) aal) (acE hs)) (by decide +kernel) (by kernel_rfl) (acE hs)
end
section
variable {t : Tx} {K : Frag}
noncomputable def aiL (d : Str) (fa : EF) : EF := λρ => (fa ρ).bind λp => (dr p.2 p.1).bind λa => match isc a d with
 | some b => .ok (eB b, p.2)
 | none => .bad
noncomputable def auX (fa : EF) : EF := λρ => (fa ρ).bind λp => (dr p.2 p.1).bind λa => match isv a with
 | some b => .ok (eB b, p.2)
 | none => .bad
theorem acM (hK : t.K = nlK K) {d : Str} {D : Addr} {ta : TE} {fa : EF} (ha : SE t ta fa) : SE t (tCB (auV K d D) (ac4 ta (ac4 (tC (.ref D)) alE))) (aiL d fa) := λW ρ σ H Q e h => by
 refine ha W ρ σ H _ e (Rs.aag (Rs.aae h) λp h x H1 e1 s1 v1 => ?_)
 obtain ⟨a, k1, h⟩ := abC (Rs.aae h) (acq _ _)
 have r := adT e1 e.wn v1.1 k1
 rw [hK] at r
 cases z : isc a d with
 | none => rw [z] at h; exact h.elim
 | some b =>
  rw [z] at h
  exact ⟨x, a, b, rfl, r.rep.toK, z, h _ H1 e1 s1 (.low (.bl _))⟩
theorem asB (hK : t.K = nlK K) {ta : TE} {fa : EF} (ha : SE t ta fa) : SE t (tCB (auW K) (ac4 ta (ac4 (tC (.ty "ValueError")) alE))) (auX fa) := λW ρ σ H Q e h => by
 refine ha W ρ σ H _ e (Rs.aag (Rs.aae h) λp h x H1 e1 s1 v1 => ?_)
 obtain ⟨a, k1, h⟩ := abC (Rs.aae h) (acq _ _)
 have r := adT e1 e.wn v1.1 k1
 rw [hK] at r
 cases z : isv a with
 | none => rw [z] at h; exact h.elim
 | some b =>
  rw [z] at h
  exact ⟨x, a, b, rfl, r.rep.toK, z, h _ H1 e1 s1 (.low (.bl _))⟩
noncomputable def Pr {α : Type} (f : En -> Rs (α × En)) : Prop := ∀ ρ, (∀ p, f ρ = .ok p -> p.2 = ρ) /\ ∀ c, f ρ ≠ .ex c
theorem aoT (i : Nat) : Pr (aai i) := λρ => by
 unfold aai
 refine ⟨λp h => ?_, λc h => ?_⟩ <;> (split at h <;> cases h)
 all_goals rfl
theorem asC : Pr aax := λρ => ⟨λp h => by cases h; rfl, λc h => by cases h⟩
theorem amn {f : EF} {g : AF} (h1 : Pr f) (h2 : Pr g) : Pr (aaf f g) := λρ => by
 unfold aaf
 cases e1 : f ρ with
 | bad => exact ⟨λp h => (by cases h), λc h => (by cases h)⟩
 | ex c => exact absurd e1 ((h1 ρ).2 c)
 | ok p =>
  have z := (h1 ρ).1 p e1
  obtain ⟨r, ρ1⟩ := p
  dsimp only at z
  subst z
  show (∀ p, ((g ρ1).bind _) = .ok p -> _) /\ ∀ c, ((g ρ1).bind _) ≠ .ex c
  cases e2 : g ρ1 with
  | bad => exact ⟨λp h => (by cases h), λc h => (by cases h)⟩
  | ex c => exact absurd e2 ((h2 ρ1).2 c)
  | ok q =>
   have z := (h2 ρ1).1 q e2
   exact ⟨λp h => by cases h; exact z, λc h => by cases h⟩
noncomputable def SEX (t : Tx) (cl : Str -> Addr) (te : TEX) (f : EF) : Prop := ∀ W ρ σ H Q (EX : St -> XK), EOk t W ρ σ H -> (f ρ).post (λc => ∀ H', EOk t W ρ σ H' -> Stp W H H' -> EX σ (.ref (cl c)) none H') (λp => ∀ v H', EOk t W p.2 σ H' -> Stp W H H' -> VOE t W p.2 σ H H' v p.1 -> Q v H') -> te EX σ H Q
noncomputable def SX (t : Tx) (cl : Str -> Addr) (tb : TX) (f : SF) : Prop := ∀ W ρ σ H D (EX : St -> XK), EOk t W ρ σ H -> (f ρ).post (λc => ∀ H', EOk t W ρ σ H' -> Stp W H H' -> EX σ (.ref (cl c)) none H') (af2 t W H D) -> tb D EX σ H
theorem anW (hK : t.K = nlK K) {cl : Str -> Addr} {n : Nat} {F : FP} {ta : TA} {fa : AF} (pr : Pr fa) (hn : ∀ ρ p, fa ρ = .ok p -> p.1.length = n) (ha : SA t ta fa) : SEX t cl (alP (spP K cl n F) ta) (aau F fa) := λW ρ σ H Q EX e h => by
 have h := Rs.aae h
 cases ek : fa ρ with
 | bad => rw [ek] at h; exact h.elim
 | ex c => exact absurd ek ((pr ρ).2 c)
 | ok p =>
 have hl := hn ρ p ek
 have h2 := (pr ρ).1 p ek
 rw [ek] at h
 refine ha W ρ σ H _ e (post_eq ek ?_)
 intro vs H1 e1 s1 v1
 have h : ((drs p.2 p.1).bind _).post _ _ := h
 obtain ⟨as, k1, h⟩ := abC (Rs.aae h) (aeP _ _)
 have r := aib e1 e.wn v1 k1
 have lv : vs.length = n := v1.length.trans hl
 have fin : ∀ Z : Addr -> Prop, (∀ b, Z b -> W b) -> (∀ z, F as = .ok z -> ¬ (p.1.any isS = true /\ acZ z = false) -> (∀ b, W b -> Z b) \/ acZ z = true) -> aaO (nlK K) (aaT Z H1) vs as -> spP K cl n F vs H1 Q (EX σ) := λZ zw zs rr => by
  refine ⟨Z, as, lv, rr, λb z => e1.wl b (zw b z), by rw [<-hK]; exact e1.tab.ok, ?_⟩
  have h := Rs.aae h
  cases ef : F as with
  | bad => rw [ef] at h; exact h.elim
  | ex c =>
   rw [ef] at h
   intro H' sm
   rw [<-hK] at sm
   obtain ⟨eg, sg⟩ := e1.al4 sm
   exact h H' (h2 ▸ eg) (s1.trans sg)
  | ok z =>
   rw [ef] at h
   have h : (if p.1.any isS = true /\ acZ z = false then Rs.bad else .ok (.v z.1 z.2, p.2) : Rs (Rv × En)).post _ _ := h
   split at h
   ·exact h.elim
   ·rename_i c
    intro v H' sm vr
    rw [<-hK] at vr sm
    obtain ⟨eg, sg⟩ := e1.al4 sm
    refine h v H' eg (s1.trans sg) (VOE.back (H := H1) ?_ s1.dom)
    exact VRt.voe (W0 := W) e1.wn eg.wl (zs z ef c) vr λa xs na qa => e1.ar0 sm na qa
 by_cases an : p.1.any isS = true
 ·refine fin (λ_ => False) (λ_ z => z.elim) (λz ez c => .inr ?_) ?_
  ·cases fz : acZ z with
   | true => rfl
   | false => exact (c ⟨an, fz⟩).elim
  ·rw [<-hK]
   exact r.reps
 ·refine fin W (λ_ z => z) (λz ez c => .inl λ_ z => z) ?_
  rw [<-hK]
  exact aho e.wn v1 k1 (by simpa using an)
theorem aqc {cl : Str -> Addr} {te : TEX} {f : EF} (h1 : SEX t cl te f) : SX t cl (λD EX σ H => te EX σ H λ_ H1 => D.nx σ H1) (ahl f) := λW ρ σ H D EX e h =>
 h1 W ρ σ H _ EX e (Rs.aag (Rs.aae h) λp h v H1 e1 s1 v1 => h W σ H1 e1 s1.nxt)
theorem EOk.unset {W : Addr -> Prop} {ρ : En} {σ : St} {H : Hp} {i : Nat} (e : EOk t W ρ σ H) : EOk t W (ρ.set i .un) (σ.set i none) H := by
 have mu : ∀ j, Mu (ρ.set i .un) j -> j ≠ i /\ Mu ρ j := λj h => by
  obtain ⟨ts, h | h⟩ := h <;> rcases get_set h with ⟨rfl, z, _⟩ | ⟨ne, h⟩
  ·cases z
  ·exact ⟨ne, ts, .inl h⟩
  ·cases z
  ·exact ⟨ne, ts, .inr h⟩
 have dpo : ∀ j us, (ρ.set i .un)[j]? = some (.dp us) -> j ≠ i /\ ρ[j]? = some (.dp us) := λj us h => by
  rcases get_set h with ⟨rfl, z, _⟩ | ⟨ne, h⟩
  ·cases z
  ·exact ⟨ne, h⟩
 obtain ⟨F, e⟩ := e
 refine ⟨F, by rw [List.length_set, List.length_set]; exact e.len, e.zw, e.z0, e.wl, e.f0, e.n0, λj u h => ?_, λj ts h => ?_, λj ts h => ?_, λj k a h1 h2 q1 q2 => ?_, e.pn, λj a m q => e.pd j a (mu j m).2 (by rw [List.getElem?_set_ne (Ne.symm (mu j m).1)] at q; exact q),
  λj us h => ?_, λj k us ws n h1 h2 => e.dd j k us ws n (dpo j us h1).2 (dpo k ws h2).2, λj k us c h1 m q => e.dm j k us c (dpo j us h1).2 (mu k m).2 (by rw [List.getElem?_set_ne (Ne.symm (mu k m).1)] at q; exact q), λj us h => e.db j us (dpo j us h).2, e.tab⟩
 ·rcases get_set h with ⟨rfl, z, l⟩ | ⟨ne, h⟩
  ·cases z
  ·obtain ⟨w, h1, h2⟩ := e.sh j u h
   exact ⟨w, by rw [List.getElem?_set_ne (Ne.symm ne)]; exact h1, h2⟩
 ·rcases get_set h with ⟨rfl, z, l⟩ | ⟨ne, h⟩
  ·cases z
  ·obtain ⟨a, xs, h1, h2⟩ := e.ow j ts h
   exact ⟨a, xs, by rw [List.getElem?_set_ne (Ne.symm ne)]; exact h1, h2⟩
 ·rcases get_set h with ⟨rfl, z, l⟩ | ⟨ne, h⟩
  ·cases z
  ·obtain ⟨a, xs, h1, h2⟩ := e.rf j ts h
   exact ⟨a, xs, by rw [List.getElem?_set_ne (Ne.symm ne)]; exact h1, h2⟩
 ·obtain ⟨n1, m1⟩ := mu j h1
  obtain ⟨n2, m2⟩ := mu k h2
  rw [List.getElem?_set_ne (Ne.symm n1)] at q1
  rw [List.getElem?_set_ne (Ne.symm n2)] at q2
  exact e.dis j k a m1 m2 q1 q2
 ·obtain ⟨ne, h⟩ := dpo j us h
  obtain ⟨c, ys, h1, d⟩ := e.dp j us h
  exact ⟨c, ys, by rw [List.getElem?_set_ne (Ne.symm ne)]; exact h1, d⟩
noncomputable def Cg (K : Frag) (mg : Str -> Option Value) (x : Str) (k : Addr) : Prop := nsIn K mainGlobals x = some (some (.ref k)) /\ mg x = some (.ref k)
noncomputable def XCl (K : Frag) (cl : Str -> Addr) (cs : List Str) : Prop := ∀ c ∈ cs, c ∈ abN /\ nsIn K mainGlobals c = some (some (.ref (cl c)))
noncomputable def amW (cs : List Str) (j : Nat) (fb fh : SF) : SF := λρ => match fb ρ with
 | .bad => .bad
 | .ok q => .ok q
 | .ex c => if c ∈ cs then (abX (fh (ρ.set j (.sh (.exn c))))).bind λq => .ok (q.1, q.2.set j .un) else .bad
theorem asD (hK : t.K = nlK K) {cl : Str -> Addr} {cs : List Str} {cH : Addr} {j : Nat} {tb : TX} {ts : TS} {fb fh : SF} (hX : aiK K) (hC : XCl K cl cs) (hn : nsIn K mainGlobals "HeadError" = some (some (.ref cH))) (hb : SX t cl tb fb)
  (hh : ∀ t' : Tx, t'.K = t.K -> (∀ c, ¬ t'.EX c) -> SS t' ts fh) : SS t (av3 K cH j tb ts) (amW cs j fb fh) := λW ρ σ H D e h => by
 show tb D (exK K cH j ts D) σ H
 refine hb W ρ σ H D (exK K cH j ts D) e ?_
 unfold amW at h
 cases ek : fb ρ with
 | bad => rw [ek] at h; exact h.elim
 | ok q => rw [ek] at h; exact h
 | ex c =>
  rw [ek] at h
  dsimp only at h
  split at h
  ·rename_i mc
   obtain ⟨me, nc⟩ := hC c mc
   intro H' e' s'
   refine ⟨cl c, rfl, hX.h cH hn c me (cl c) nc, λea fe => ?_⟩
   have sm := aaC fe (exO ea (cl c))
   have e1 := e'.grow sm
   have nw : ¬ W ea := λw => e'.wn ea w fe
   have e2 : EOk t W (ρ.set j (.sh (.exn c))) (σ.set j (some (.ref ea))) (upd H' ea (exO ea (cl c))) := e1.ajW (by
    refine .exn (C := cl c) ?_ me (by rw [hK]; exact apB hX.mc nc)
    rw [aaM nw, aaQ])
   refine hh { t with EX := λ_ => False } rfl (λ_ => id) W _ _ _ (goes j D) e2.ex (Rs.aag (aeo (Rs.aae h)) λq h => ?_)
   have ex3 : ∀ {W2 : Addr -> Prop} {ρ2 : En} {σ2 : St} {H2 : Hp}, EOk { t with EX := λ_ => False } W2 ρ2 σ2 H2 -> EOk t W2 ρ2 σ2 H2 := λe => EOk.ex (t := { t with EX := λ_ => False }) (EX := t.EX) e
   have st : Stp W H (upd H' ea (exO ea (cl c))) := s'.trans (Stp.of sm)
   obtain ⟨fl, ρ'⟩ := q
   have h : af2 t W H D (fl, ρ'.set j .un) := h
   cases fl with
   | nx => exact λW2 σ2 H2 e3 n3 => h W2 _ H2 (EOk.unset (ex3 e3)) (st.nxt.trans n3)
   | rt T fr => exact λv W2 σ2 H2 e3 r3 => h v W2 _ H2 (EOk.unset (ex3 e3)) (by cases fr <;> exact r3)
   | bk => exact λW2 σ2 H2 e3 n3 => h W2 _ H2 (EOk.unset (ex3 e3)) (st.nxt.trans n3)
   | ct => exact λW2 σ2 H2 e3 n3 => h W2 _ H2 (EOk.unset (ex3 e3)) (st.nxt.trans n3)
  ·exact h.elim
end
section
variable {X : Cx} {e : Expr} {te : TEX} {pos : Pos}
theorem aqd (he : PEX X e te) (hs : swapsWith e none pos.line X.env = pure false := by rfl) : PX X (.Expr e pos) (λD EX σ H => te EX σ H λ_ H1 => D.nx σ H1) := by
 intro pins s σ H D EX I h
 exact wpAny_Expr_any (wpAny_mono (he pins s σ H _ EX I h) (λv s1 ⟨x, H1, I1, r1, q1⟩ => ⟨σ, H1, I1, q1⟩) λ_ _ z => z) I.quiet hs
end
end L2
end
section
namespace BH
open PySem L2
noncomputable def afp : SF := (aaP (adV (agZ (fuI 1) (abm (eOp gNe (aai 1) (eC (.int 0)))) (arZ 0 1 (aaf (aai 1) (aaf (eOp ace (aai 0) (aai 1)) aax))))) (abO (eCB (g1 ad8) (aaf (aai 0) aax))))
noncomputable def aaK : FP := fnP 2 afp
noncomputable def aer : SF := (aaP (sIf (abm (eOp gEq (aai 1) (eC (.int 0)))) (aie "NoBottom" (eC (.str "a fraction has no bottom of 0"))) adp) (aaP (abG (aau aaK (aaf (aai 0) (aaf (aai 1) aax))) (gN 2)) (aaP (sIf (abm (eOp gLt (aai 1) (eC (.int 0)))) (abG (eUn aoC (aai 2)) (gN 2)) adp) (abO (afZ (aaf (eOp ac2 (aai 0) (aai 2)) (aaf (eOp ac2 (aai 1) (aai 2)) aax)))))))
noncomputable def abA : FP := fnP 3 aer
noncomputable def ag3 : SF := (abO (aau abA (aaf (eOp aa9 (eOp abz (eOp gIx (aai 0) (eC (.int 0))) (eOp gIx (aai 1) (eC (.int 1)))) (eOp abz (eOp gIx (aai 1) (eC (.int 0))) (eOp gIx (aai 0) (eC (.int 1))))) (aaf (eOp abz (eOp gIx (aai 0) (eC (.int 1))) (eOp gIx (aai 1) (eC (.int 1)))) aax))))
noncomputable def acy : FP := fnP 2 ag3
noncomputable def afj : SF := (abO (aau abA (aaf (eOp abz (eOp gIx (aai 0) (eC (.int 0))) (eOp gIx (aai 1) (eC (.int 0)))) (aaf (eOp abz (eOp gIx (aai 0) (eC (.int 1))) (eOp gIx (aai 1) (eC (.int 1)))) aax))))
noncomputable def abg : FP := fnP 2 afj
noncomputable def akL : SF := (abO (anm (al1 .int (aai 0)) (auv (al1 .bool (aai 0)))))
noncomputable def ab2 : FP := fnP 1 akL
noncomputable def aes : SF := (aaP (sIf (bOr (alp (akC (al1 .tuple (aai 0)))) (abm (eOp gNe (eCB (g1 abZ) (aaf (aai 0) aax)) (eC (.int 2))))) (abO (eC (.bl false))) adp) (aaP (abG (aai 0) (gT 2 (aaA (gN 1) (aaA (gN 2) ab1)))) (aaP (sIf (bOr (alp (akC (aau ab2 (aaf (aai 1) aax)))) (alp (akC (aau ab2 (aaf (aai 2) aax))))) (abO (eC (.bl false))) adp) (abO (anm (eOp gGe (aai 2) (eC (.int 1))) (eOp gEq (aau aaK (aaf (aai 1) (aaf (aai 2) aax))) (eC (.int 1))))))))
noncomputable def abh : FP := fnP 3 aes
noncomputable def ag4 : SF := (abO (anm (aau abh (aaf (aai 0) aax)) (agX gLe gLe (eC (.int 0)) (eOp gIx (aai 0) (eC (.int 0))) (eOp gIx (aai 0) (eC (.int 1))))))
noncomputable def abS : FP := fnP 1 ag4
noncomputable def afk : SF := (aaP (sIf (bOr (alp (akC (al1 .list (aai 0)))) (alp (abm (agX gLe gLe (eC (.int 1)) (eCB (g1 abZ) (aaf (aai 0) aax)) (aai 1))))) (abO (eC (.bl false))) adp) (abO (eCB (g1 ac5) (aaf (acn [none] (fSq (aai 0)) (gN 0) aeT (aau abS (aaf (aai 0) aax))) aax))))
noncomputable def acg : FP := fnP 2 afk
noncomputable def agb : SF := (aaP (abG (eC (.int 1)) (gN 1)) (aaP (adV (agx (fSq (aai 0)) (gT 2 (aaA (gN 2) (aaA (gN 3) ab1))) (abG (eOp ac2 (eOp abz (aai 1) (aai 3)) (aau aaK (aaf (aai 1) (aaf (aai 3) aax)))) (gN 1)))) (abO (aai 1))))
noncomputable def abJ : FP := fnP 4 agb
noncomputable def adY : SF := (aaP (abG (aau abJ (aaf (aai 0) aax)) (gN 1)) (abO (acn [none, none, some 1] (fSq (aai 0)) (gT 2 (aaA (gN 0) (aaA (gN 1) ab1))) aeT (eOp abz (aai 0) (eOp ac2 (aai 2) (aai 1))))))
noncomputable def abt : FP := fnP 2 adY
noncomputable def adn : SF := (aaP (abG (aau abt (aaf (aai 0) aax)) (gN 1)) (abO (aj8 asv [some 1] (aaf (eCB (g1 abZ) (aaf (aai 1) aax)) aax) (rUn aoC (rOp gIx (anP 1) (anP 0))))))
noncomputable def abb : FP := fnP 2 adn
noncomputable def ahw : SF := (aaP (sIf (bOr (alp (akC (al1 .list (aai 0)))) (abm (eOp gNe (eCB (g1 abZ) (aaf (aai 0) aax)) (aai 1)))) (abO (eC (.bl false))) adp) (abO (eCB (g1 ac5) (aaf (acn [none] (fSq (aai 0)) (gN 0) aeT (anm (aau abh (aaf (aai 0) aax)) (eOp gGe (eOp gIx (aai 0) (eC (.int 0))) (eC (.int 0))))) aax))))
noncomputable def acs : FP := fnP 2 ahw
noncomputable def adz : SF := (aaP (sIf (alp (akC (al1 .tuple (aai 0)))) (abO (eC (.bl false))) adp) (aaP (sIf (abm (eOp gNe (eCB (g1 abZ) (aaf (aai 0) aax)) (eC (.int 2)))) (abO (eOp (gIn id) (aai 0) (eC (.tup [(.tup [(.str "least")]), (.tup [(.str "greatest")]), (.tup [(.str "product")])])))) adp) (aaP (abG (aai 0) (gT 2 (aaA (gN 2) (aaA (gN 3) ab1)))) (aaP (sIf (abm (eOp gEq (aai 2) (eC (.str "shares")))) (abO (aau acs (aaf (aai 3) (aaf (aai 1) aax)))) adp) (abO (anm (eOp gEq (aai 2) (eC (.str "middle"))) (anm (aau ab2 (aaf (aai 3) aax)) (agX gLe gLe (eC (.int 1)) (aai 3) (aai 1)))))))))
noncomputable def abj : FP := fnP 4 adz
noncomputable def agE : SF := (aaP (abG (eC (.tup [.int 0, .int 1])) (gN 2)) (aaP (adV (agx (aqN (aaf (aai 0) (aaf (aai 1) aax))) (gT 2 (aaA (gN 3) (aaA (gN 4) ab1))) (abG (aau acy (aaf (aai 2) (aaf (aau abg (aaf (aai 3) (aaf (aai 4) aax))) aax))) (gN 2)))) (abO (aai 2))))
noncomputable def ab7 : FP := fnP 5 agE
noncomputable def agc : SF := (aaP (abG (eC (.tup [.int 1, .int 1])) (gN 1)) (aaP (adV (agx (fSq (aai 0)) (gN 2) (abG (aau abg (aaf (aai 1) (aaf (aai 2) aax))) (gN 1)))) (abO (aai 1))))
noncomputable def abV : FP := fnP 3 agc
noncomputable def adL : SF := (aaP (sIf (abm (eOp gEq (eOp gIx (aai 0) (eC (.int 0))) (eC (.str "greatest")))) (abO (eC (.int 1))) adp) (aaP (sIf (abm (eOp gEq (eOp gIx (aai 0) (eC (.int 0))) (eC (.str "least")))) (abO (aai 1)) adp) (abO (eOp gIx (aai 0) (eC (.int 1))))))
noncomputable def ab3 : FP := fnP 2 adL
noncomputable def adM : SF := (aaP (sIf (abm (eOp gEq (eOp gIx (aai 0) (eC (.int 0))) (eC (.str "shares")))) (abO (aau ab7 (aaf (eOp gIx (aai 0) (eC (.int 1))) (aaf (aai 1) aax)))) adp) (aaP (sIf (abm (eOp gEq (eOp gIx (aai 0) (eC (.int 0))) (eC (.str "product")))) (abO (aau abV (aaf (aai 1) aax))) adp) (abO (eOp gIx (aai 1) (eOp gIx (aau abb (aaf (aai 1) aax)) (eOp ac3 (aau ab3 (aaf (aai 0) (aaf (eCB (g1 abZ) (aaf (aai 1) aax)) aax))) (eC (.int 1))))))))
noncomputable def abT : FP := fnP 2 adM
noncomputable def acN : SF := (aaP (sIf (alp (akC (aau acg (aaf (aai 1) (aaf (eC (.int 4)) aax))))) (aie "NoWorth" (eC (.str "this is no list of one to four worths"))) adp) (aaP (sIf (alp (akC (aau abj (aaf (aai 0) (aaf (eCB (g1 abZ) (aaf (aai 1) aax)) aax))))) (aie "NoRule" (eC (.str "this is no rule for as many lists"))) adp) (abO (aau abT (aaf (aai 0) (aaf (aai 1) aax))))))
noncomputable def aaL : FP := fnP 2 acN
end BH
end
section
namespace K12
open PySem L2 BH
noncomputable def top (i : Nat) : Stmt := PySem.Challenge.pw_bestheads_k12_refused_worths.main.body.getD i (.Pass ⟨0, 0, 0, 0⟩)
noncomputable abbrev aeX : Stmt := top 17
noncomputable abbrev aco : Stmt := top 18
noncomputable abbrev ac7 : Stmt := top 19
noncomputable abbrev aeY : Stmt := top 20
noncomputable abbrev adA : Stmt := top 21
noncomputable abbrev ac8 : Stmt := top 22
noncomputable abbrev acF : Stmt := top 23
noncomputable abbrev abu : Stmt := top 24
noncomputable abbrev abP : Stmt := top 25
noncomputable abbrev aeZ : Stmt := top 28
noncomputable abbrev acO : Stmt := top 29
noncomputable abbrev acu : Stmt := top 32
noncomputable abbrev agd : Stmt := top 33
noncomputable abbrev acY : Stmt := top 34
noncomputable abbrev acG : Stmt := top 35
noncomputable abbrev ae0 : Stmt := top 36
noncomputable abbrev ae1 : Stmt := top 37
noncomputable abbrev adB : Stmt := top 38
noncomputable abbrev amo : Stmt := top 40
noncomputable abbrev amq : Stmt := top 41
noncomputable abbrev ahx : Stmt := top 42
noncomputable abbrev amr : Stmt := top 43
noncomputable abbrev ai3 : Stmt := top 47
noncomputable abbrev ag5 : Stmt := top 48
noncomputable abbrev afG : Stmt := top 49
noncomputable abbrev ai4 : Stmt := top 50
noncomputable abbrev anY : Stmt := top 51
structure Nm (mg : Str -> Option Value) : Prop where
 ais : mg "ValueError" = none
 asF : mg "abs" = none
 asG : mg "all" = none
 asH : mg "bool" = none
 auY : mg "int" = none
 aav : mg "isinstance" = none
 agF : mg "len" = none
 aoU : mg "list" = none
 auZ : mg "max" = none
 au0 : mg "min" = none
 agf : mg "range" = none
 anZ : mg "sorted" = none
 ai5 : mg "tuple" = none
 asI : mg "zip" = none
noncomputable def aoV : SF := (aaP (abG (eC (.int 0)) (gN 2)) (aaP (sIf (abm (eOp gLt (aai 1) (eCB (g1 abZ) (aaf (aai 0) aax)))) (abG (eOp gIx (aai 0) (aai 1)) (gN 2)) adp) (aaP (sIf (abm (eOp gGe (aai 2) (eOp acw (eC (.int 10)) (eC (.int 18))))) (abO (eOp ace (eOp ac3 (aai 2) (eOp acw (eC (.int 10)) (eC (.int 18)))) (eOp acw (eC (.int 10)) (eC (.int 60))))) adp) (aaP (abG (eOp ace (eOp aa9 (eOp aa9 (eOp abz (aai 2) (eC (.int 48271))) (eOp abz (aai 1) (eC (.int 69621)))) (eC (.int 11))) (eC (.int 2147483629))) (gN 3)) (aaP (abG (eC (.int 0)) (gN 4)) (aaP (adV (agx (akG (aaf (eC (.int 8)) aax)) (gN 5) (aaP (abG (eOp ace (eOp aa9 (eOp aa9 (eOp abz (aai 3) (aai 3)) (eOp abz (eC (.int 69621)) (aai 5))) (eC (.int 7))) (eC (.int 2147483587))) (gN 3)) (abG (eOp aa9 (eOp abz (aai 4) (eC (.int 2147483563))) (eOp ace (eOp abz (aai 3) (aai 3)) (eC (.int 2147483563)))) (gN 4))))) (abO (aai 4))))))))
noncomputable def ab0 : FP := fnP 6 aoV
noncomputable def aoW : SF := (aaP (abG (eOp ace (eOp gIx (aai 0) (eC (.int 0))) (aai 1)) (gN 2)) (aaP (apM 0 (eC (.int 0)) (eOp ac2 (eOp gIx (aai 0) (eC (.int 0))) (aai 1))) (abO (aai 2))))
noncomputable def abK : FR := fnR 3 0 aoW
noncomputable def an0 : SF := (aaP (adV (agZ (fuI 1) (abm (eOp gNe (aai 1) (eC (.int 0)))) (arZ 0 1 (aaf (aai 1) (aaf (eOp ace (aai 0) (aai 1)) aax))))) (abO (eCB (g1 ad8) (aaf (aai 0) aax))))
noncomputable def afH : FP := fnP 2 an0
noncomputable def aoX : SF := (aaP (abG (aau afH (aaf (aai 0) (aaf (aai 1) aax))) (gN 2)) (aaP (sIf (abm (eOp gLt (aai 1) (eC (.int 0)))) (abG (eOp ac3 (eC (.int 0)) (aai 2)) (gN 2)) adp) (abO (afZ (aaf (eOp ac2 (aai 0) (aai 2)) (aaf (eOp ac2 (aai 1) (aai 2)) aax))))))
noncomputable def ad3 : FP := fnP 3 aoX
noncomputable def aqe : SF := (aaP (abG (eOp gIx (eCL [.int 1, .int 2, .int 3, .int 4, .int 6, .int 10, .int 12]) (abv 0 abK (aaf (aai 0) (aaf (eC (.int 7)) aax)))) (gN 1)) (aaP (abG (abv 0 abK (aaf (aai 0) (aaf (eOp aa9 (aai 1) (eC (.int 1))) aax))) (gN 2)) (aaP (sIf (abm (eOp gEq (abv 0 abK (aaf (aai 0) (aaf (eC (.int 8)) aax))) (eC (.int 7)))) (aaP (abG (eOp ac3 (eOp aa9 (eOp abz (aai 2) (eOp acw (eC (.int 10)) (eC (.int 10)))) (abv 0 abK (aaf (aai 0) (aaf (eC (.int 5)) aax)))) (eC (.int 2))) (gN 2)) (abG (eOp abz (aai 1) (eOp acw (eC (.int 10)) (eC (.int 10)))) (gN 1))) adp) (abO (aau ad3 (aaf (eCB (g2 aea) (aaf (eC (.int 0)) (aaf (eCB (g2 ad9) (aaf (aai 1) (aaf (aai 2) aax))) aax))) (aaf (aai 1) aax)))))))
noncomputable def ac9 : FR := fnR 3 0 aqe
noncomputable def aoY : SF := (aaP (akF 2 (afn (aaf (aai 0) aax))) (aaP (abG (abv 0 abK (aaf (aai 2) (aaf (eC (.int 6)) aax))) (gN 3)) (aaP (sIf (abm (eOp gLt (aai 3) (eC (.int 2)))) (aaP (abG (acn [none, some 2] (akG (aaf (aai 1) aax)) (gN 0) aeT (afZ (aaf (abv 0 abK (aaf (aai 1) (aaf (eC (.int 7)) aax))) (aaf (eOp aa9 (eC (.int 1)) (abv 0 abK (aaf (aai 1) (aaf (eC (.int 4)) aax)))) aax)))) (gN 4)) (aaP (sIf (abm (eOp gEq (abv 0 abK (aaf (aai 2) (aaf (eC (.int 8)) aax))) (eC (.int 7)))) (abG (acn [none, none] (fSq (aai 4)) (gT 2 (aaA (gN 0) (aaA (gN 1) ab1))) aeT (afZ (aaf (eOp aa9 (eOp abz (aai 0) (eOp acw (eC (.int 10)) (eC (.int 11)))) (eC (.int 1))) (aaf (eOp abz (aai 1) (eOp acw (eC (.int 10)) (eC (.int 11)))) aax)))) (gN 4)) adp) (abO (afZ (aaf (eC (.str "shares")) (aaf (acn [none, none] (fSq (aai 4)) (gT 2 (aaA (gN 0) (aaA (gN 1) ab1))) aeT (aau ad3 (aaf (aai 0) (aaf (aai 1) aax)))) aax)))))) adp) (aaP (sIf (abm (eOp gEq (aai 3) (eC (.int 2)))) (abO (afZ (aaf (eC (.str "middle")) (aaf (eOp aa9 (eC (.int 1)) (abv 0 abK (aaf (aai 2) (aaf (aai 1) aax)))) aax)))) adp) (abO (eOp gIx (eCL [.tup [.str "least"], .tup [.str "greatest"], .tup [.str "product"]]) (eOp ac3 (aai 3) (eC (.int 3)))))))))
noncomputable def ag6 : FP := fnP 5 aoY
noncomputable def an1 : SF := (aaP (sIf (abm (eOp (gIs id) (aai 0) (eC .non))) (abO (afn aax)) adp) (aaP (abG (afn (aaf (aiL "NoBottom" (aai 0)) (aaf (aiL "NoBook" (aai 0)) (aaf (aiL "NoList" (aai 0)) aax)))) (gN 1)) (aaP (abG (eOp aa9 (aai 1) (afn (aaf (aiL "NoRule" (aai 0)) (aaf (aiL "NoCount" (aai 0)) (aaf (aiL "NoLooks" (aai 0)) aax))))) (gN 1)) (aaP (abG (eOp aa9 (aai 1) (afn (aaf (aiL "NoThings" (aai 0)) (aaf (aiL "NotSure" (aai 0)) (aaf (aiL "NoSlack" (aai 0)) aax))))) (gN 1)) (aaP (abG (eOp aa9 (aai 1) (afn (aaf (aiL "NoThing" (aai 0)) (aaf (aiL "NoWorth" (aai 0)) (aaf (aiL "TooMany" (aai 0)) aax))))) (gN 1)) (aaP (abG (eOp aa9 (aai 1) (afn (aaf (aiL "NoText" (aai 0)) (aaf (aiL "NoLine" (aai 0)) aax)))) (gN 1)) (aaP (abG (eCL [.str "bottom", .str "book", .str "list", .str "rule", .str "count", .str "looks", .str "things", .str "sure", .str "slack", .str "thing", .str "worth", .str "many"]) (gN 2)) (aaP (abG (acn [none, none] (aqN (aaf (eOp aa9 (aai 2) (eCL [.str "text", .str "line"])) (aaf (aai 1) aax))) (gT 2 (aaA (gN 0) (aaA (gN 1) ab1))) (akC (aai 1)) (aai 0)) (gN 3)) (aaP (sIf (akC (auX (aai 0))) (abO (aai 3)) adp) (abO (eCL [.str "none"])))))))))))
noncomputable def acP : FP := fnP 4 an1
noncomputable def aqf : SF := (aaP (abG (eC .non) (gN 2)) (aaP (amW ["NoBottom", "NoRule", "NoWorth"] 3 (ahl (aau aaL (aaf (aai 0) (aaf (aai 1) aax)))) (abG (aai 3) (gN 2))) (abO (aau acP (aaf (aai 2) aax)))))
noncomputable def abW : FP := fnP 4 aqf
noncomputable def aqg : SF := (aaP (abG (eOp aa9 (eC (.int 1)) (eOp ace (aau ab0 (aaf (aai 0) (aaf (eC (.int 0)) aax))) (eC (.int 4)))) (gN 1)) (aaP (akF 2 (afn (aaf (aau ab0 (aaf (aai 0) (aaf (eC (.int 1)) aax))) aax))) (aaP (abG (acn [none, some 2] (akG (aaf (aai 1) aax)) (gN 0) aeT (abv 0 ac9 (aaf (aai 1) aax))) (gN 3)) (aaP (abG (aau ag6 (aaf (aau ab0 (aaf (aai 0) (aaf (eC (.int 2)) aax))) (aaf (aai 1) aax))) (gN 4)) (aaP (abG (aau ab0 (aaf (aai 0) (aaf (eC (.int 3)) aax))) (gN 5)) (aaP (abG (eOp ace (aai 5) (aai 1)) (gN 6)) (aaP (akF 7 (afn (aaf (eC .non) (aaf (afn aax) (aaf (eOp abz (aai 3) (eC (.int 5))) (aaf (eCB (g1 aa5) (aaf (aai 3) aax)) (aaf (eC (.int 0)) (aaf (eC (.str "worths")) aax)))))))) (aaP (adV (agx (fSq (eCL [.tup [.int (-1), .int 2], .tup [.int 3, .int 2], .int 1, .tup [.int 2, .int 4], .bl true, .non, .lst [.int 1, .int 2], .tup [.int 1, .int 0], .str "1/2", .tup [.int 1, .int 2, .int 3], .tup [.int (-1), .int 1]])) (gN 8) (ahl (eMt 7 al3 (aaf (eOp aa9 (eOp aa9 (eSl (aai 3) oNo (akD (aai 6))) (afn (aaf (aai 8) aax))) (eSl (aai 3) (akD (eOp aa9 (aai 6) (eC (.int 1)))) oNo)) aax))))) (aaP (akF 9 (afn (aaf (eC .non) (aaf (afZ aax) (aaf (eCL [.str "least"]) (aaf (eC (.tup [.str "least", .int 1])) (aaf (afZ (aaf (eC (.str "shares")) (aaf (eOp abz (eCL [.tup [.int 1, .int 1]]) (eOp aa9 (aai 1) (eC (.int 1)))) aax))) (aaf (afZ (aaf (eC (.str "middle")) (aaf (eOp aa9 (aai 1) (eC (.int 1))) aax))) aax)))))))) (aaP (akF 9 (eOp aa9 (aai 9) (afn (aaf (eC (.tup [.str "middle", .int 0])) (aaf (eC (.tup [.str "sum"])) (aaf (afZ (aaf (eC (.str "shares")) (aaf (eOp abz (eCL [.tup [.int (-1), .int 1]]) (aai 1)) aax))) (aaf (eC (.str "least")) (aaf (eC (.tup [.str "middle", .bl true])) aax)))))))) (aaP (ahl (eMt 9 al3 (aaf (afZ (aaf (eC (.str "shares")) (aaf (eOp abz (eCL [.int 1]) (aai 1)) aax))) aax))) (aaP (adV (agx (akG (aaf (eCB (g1 abZ) (aaf (aai 7) aax)) aax)) (gN 10) (aaP (abG (eOp gIx (aai 9) (eOp ace (eOp aa9 (eOp ac2 (aai 5) (eC (.int 4))) (aai 10)) (eCB (g1 abZ) (aaf (aai 9) aax)))) (gN 11)) (aaP (sIf (bOr (abm (eOp gNe (aau abW (aaf (aai 11) (aaf (eOp gIx (aai 7) (aai 10)) aax))) (eCL [.str "worth"]))) (abm (eOp gNe (aau abW (aaf (aai 4) (aaf (eOp gIx (aai 7) (aai 10)) aax))) (eCL [.str "worth"])))) (abO (eC (.bl false))) adp) (sIf (abm (eOp gNe (aau abW (aaf (aai 11) (aaf (aai 3) aax))) (eCL [.str "rule"]))) (abO (eC (.bl false))) adp))))) (abO (eOp gEq (aau abW (aaf (aai 4) (aaf (aai 3) aax))) (afn aax)))))))))))))))
noncomputable def akM : FP := fnP 12 aqg
end K12
end
section
namespace K12
open PySem L2 BH
section
variable {P : Program} {w : World} {K : PySem.W.Frag} {mg : Str -> Option Value} {base : Heap} {cl : Str -> Addr}
theorem an2 (a : At K mg "_law_called" afG) (M : Nm mg) (XT : aiK K) {ahy : Addr} (afI : Cg K mg "NoBook" ahy) {acz : Addr} (ac0 : Cg K mg "NoBottom" acz) {agg : Addr} (aeu : Cg K mg "NoCount" agg) {ahz : Addr} (afJ : Cg K mg "NoLine" ahz) {ahA : Addr} (afK : Cg K mg "NoList" ahA) {agh : Addr} (aev : Cg K mg "NoLooks" agh) {adN : Addr} (aew : Cg K mg "NoRule" adN) {agi : Addr} (aex : Cg K mg "NoSlack" agi) {ahB : Addr} (afL : Cg K mg "NoText" ahB) {agj : Addr} (aey : Cg K mg "NoThing" agj) {ae2 : Addr} (adO : Cg K mg "NoThings" ae2) {ac1 : Addr} (adC : Cg K mg "NoWorth" ac1) {agk : Addr} (aez : Cg K mg "NotSure" agk) {agl : Addr} (aeA : Cg K mg "TooMany" agl) : DfX P w K mg base 1 "_law_called" (["_law_caught"] : List Str) (spP K cl 1 acP) := by
 have S : aaE (["_law_caught", "_law_some", "_law_names", "_law_found"] : List Str) (["_law_caught"] : List Str) (aak afG) := ⟨rfl, rfl, rfl, by decide +kernel, rfl, by decide +kernel, by decide +kernel⟩
 exact a.dfP S (cl := cl) (by decide) (λ_ _ _ _ _ _ us hl => match us, hl with | [_], _ => by kernel_rfl) (λf cdv A outer s H E hr => ⟨_, (aah (ab8 (aa4 aq4 (pvL 0) ahX (abo _)) (aaq (aaF (acB aal))) aaX) (aah (psL 1 S.nd (acB (paK (pcX XT (by decide +kernel) ac0.1 ac0.2 (pvL 0) M.aav) (paK (pcX XT (by decide +kernel) afI.1 afI.2 (pvL 0) M.aav) (paK (pcX XT (by decide +kernel) afK.1 afK.2 (pvL 0) M.aav) aal))))) (aah (psL 1 S.nd (aaz aa2 (pvL 1) (acB (paK (pcX XT (by decide +kernel) aew.1 aew.2 (pvL 0) M.aav) (paK (pcX XT (by decide +kernel) aeu.1 aeu.2 (pvL 0) M.aav) (paK (pcX XT (by decide +kernel) aev.1 aev.2 (pvL 0) M.aav) aal)))))) (aah (psL 1 S.nd (aaz aa2 (pvL 1) (acB (paK (pcX XT (by decide +kernel) adO.1 adO.2 (pvL 0) M.aav) (paK (pcX XT (by decide +kernel) aez.1 aez.2 (pvL 0) M.aav) (paK (pcX XT (by decide +kernel) aex.1 aex.2 (pvL 0) M.aav) aal)))))) (aah (psL 1 S.nd (aaz aa2 (pvL 1) (acB (paK (pcX XT (by decide +kernel) aey.1 aey.2 (pvL 0) M.aav) (paK (pcX XT (by decide +kernel) adC.1 adC.2 (pvL 0) M.aav) (paK (pcX XT (by decide +kernel) aeA.1 aeA.2 (pvL 0) M.aav) aal)))))) (aah (psL 1 S.nd (aaz aa2 (pvL 1) (acB (paK (pcX XT (by decide +kernel) afL.1 afL.2 (pvL 0) M.aav) (paK (pcX XT (by decide +kernel) afJ.1 afJ.2 (pvL 0) M.aav) aal))))) (aah (psL 2 S.nd (aeU (G := nlK K) (Ts := [.str "bottom", .str "book", .str "list", .str "rule", .str "count", .str "looks", .str "things", .str "sure", .str "slack", .str "thing", .str "worth", .str "many"]) (by kernel_rfl))) (aah (aiX (i := 3) (sc := aak afG) (No := (["_law_caught", "_law_some", "_law_names", "_law_found"] : List Str)) (N := (["_law_name", "_law_truth"] : List Str)) (src := [none, none]) (g := (aqI K 2 (agz (acS 0) (agz (acS 1) aqH)))) S.nd rfl (Or.inl rfl) rfl rfl ⟨by rfl, by decide +kernel, by decide +kernel, by decide +kernel, by rfl, by decide +kernel⟩ rfl (aox M.asI (paK (aaz aa2 (pvL 2) (aeU (G := nlK K) (Ts := [.str "text", .str "line"]) (by kernel_rfl))) (paK (pvL 1) aal))) (λC s H ex => (ae6 rfl (abp (pgL 0 (show List.Nodup (["_law_name", "_law_truth"] : List Str) by decide +kernel)) (abp (pgL 1 (show List.Nodup (["_law_name", "_law_truth"] : List Str) by decide +kernel)) adu)))) (λC s H ex => (amb (K := K) (pvL 1) rfl (by intro _; rfl))) (λC s H ex => (pvL 0))) (aah (ab8 (ab5 (pcV XT (pvL 0) M.aav M.ais) (by intro _; rfl)) (aaq (aaF (pvL 3))) aaX) (aaq (aaF (aeU (G := nlK K) (Ts := [.str "none"]) (by kernel_rfl))))))))))))), λt hK hx => (aar (acf (aaY (awV hK (aad 0) ajS)) (aaG (acK aam)) abw) (aar (aaI (acK (aac (acM hK (aad 0)) (aac (acM hK (aad 0)) (aac (acM hK (aad 0)) aam)))) (aap 1) abM) (aar (aaI (acr hK (aad 1) (acK (aac (acM hK (aad 0)) (aac (acM hK (aad 0)) (aac (acM hK (aad 0)) aam))))) (aap 1) abM) (aar (aaI (acr hK (aad 1) (acK (aac (acM hK (aad 0)) (aac (acM hK (aad 0)) (aac (acM hK (aad 0)) aam))))) (aap 1) abM) (aar (aaI (acr hK (aad 1) (acK (aac (acM hK (aad 0)) (aac (acM hK (aad 0)) (aac (acM hK (aad 0)) aam))))) (aap 1) abM) (aar (aaI (acr hK (aad 1) (acK (aac (acM hK (aad 0)) (aac (acM hK (aad 0)) aam)))) (aap 1) abM) (aar (aaI (aeW hK) (aap 2) abM) (aar (aaI (aj5 (aoP hK (aac (acr hK (aad 2) (aeW hK)) (aac (aad 1) aam))) (afe (by decide)) (afi (js := [0, 1]) (by decide)) (aoL (adW abM (adW abM afh))) (λt1 h1 k1 => (afb (h1.trans hK) (abq (aap 0) (abq (aap 1) adx)))) (λt1 h1 k1 => (ad2 (h1.trans hK) (aad 1))) (λt1 h1 k1 => (aad 0))) (aap 3) abM) (aar (acf (ad2 hK (asB hK (aad 0))) (aaG (aad 3)) abw) (aaG (aeW hK)))))))))))⟩)
theorem asJ (a : At K mg "_law_cell" amo) (M : Nm mg) : DfX P w K mg base 1 "_law_cell" (["_law_script", "_law_k"] : List Str) (spP K cl 2 ab0) := by
 have S : aaE (["_law_script", "_law_k", "_law_cell_here", "_law_number", "_law_found", "_law_turn"] : List Str) (["_law_script", "_law_k"] : List Str) (aak amo) := ⟨rfl, rfl, rfl, by decide +kernel, rfl, by decide +kernel, by decide +kernel⟩
 exact a.dfP S (cl := cl) (by decide) (λ_ _ _ _ _ _ us hl => match us, hl with | [_, _], _ => by kernel_rfl) (λf cdv A outer s H E hr => ⟨_, (aah (psL 2 S.nd aan) (aah (ab8 (aa4 (ajU hr.units) (pvL 1) (pcB abL M.agF (paK (pvL 0) aal)) (abo _)) (aaq (psL 2 S.nd (abU aa8 (pvL 0) (pvL 1) (λ_ _ => rfl)))) aaX) (aah (ab8 (aa4 aph (pvL 2) (aaz ae7 aan aan) (abo _)) (aaq (aaF (aaz acT (aaz agR (pvL 2) (aaz ae7 aan aan)) (aaz ae7 aan aan)))) aaX) (aah (psL 3 S.nd (aaz acT (aaz aa2 (aaz aa2 (aaz abl (pvL 2) aan) (aaz abl (pvL 1) aan)) aan) aan)) (aah (psL 4 S.nd aan) (aah (PS.nox (agQ PassesOwn.never rfl (piR M.agf (paK aan aal)) (pgL 5 S.nd) (aah (psL 3 S.nd (aaz acT (aaz aa2 (aaz aa2 (aaz abl (pvL 3) (pvL 3)) (aaz abl aan (pvL 5))) aan) aan)) (aaq (psL 4 S.nd (aaz aa2 (aaz abl (pvL 4) aan) (aaz acT (aaz abl (pvL 3) (pvL 3)) aan))))))) (aaq (aaF (pvL 4))))))))), λt hK hx => (aar (aaI (aao _) (aap 2) abM) (aar (acf (aaY (x_lt hK (aad 1) (x_len hK (aac (aad 0) aam)))) (aaI (aep hK (aad 0) (aad 1)) (aap 2) abM) abw) (aar (acf (aaY (x_ge hK (aad 2) (aiY hK (aao _) (aao _)))) (aaG (agD hK (al8 hK (aad 2) (aiY hK (aao _) (aao _))) (aiY hK (aao _) (aao _)))) abw) (aar (aaI (agD hK (acr hK (acr hK (acW hK (aad 2) (aao _)) (acW hK (aad 1) (aao _))) (aao _)) (aao _)) (aap 3) abM) (aar (aaI (aao _) (aap 4) abM) (aar (afg (λt1 h1 k1 => (ag0 (ajZ (aac (aao _) aam)) (aap 5) abM (aar (aaI (agD (h1.trans hK) (acr (h1.trans hK) (acr (h1.trans hK) (acW (h1.trans hK) (aad 3) (aad 3)) (acW (h1.trans hK) (aao _) (aad 5))) (aao _)) (aao _)) (aap 3) abM) (aaI (acr (h1.trans hK) (acW (h1.trans hK) (aad 4) (aao _)) (agD (h1.trans hK) (acW (h1.trans hK) (aad 3) (aad 3)) (aao _))) (aap 4) abM))))) (aaG (aad 4))))))))⟩)
theorem aqh (a : At K mg "_law_flags" ai4) (M : Nm mg) (XT : aiK K) (XC : XCl K cl (["NoBottom", "NoRule", "NoWorth"] : List Str)) {aed : Addr} (ada : Cg K mg "HeadError" aed) (an3 : DfX P w K mg base 1 "_law_called" (["_law_caught"] : List Str) (spP K cl 1 acP)) (ait : DfX P w K mg base 6 "rule_worth" (["rule", "worths"] : List Str) (spP K cl 2 aaL)) : DfX P w K mg base 7 "_law_flags" (["_law_rule_here", "_law_worths"] : List Str) (spP K cl 2 abW) := by
 have S : aaE (["_law_rule_here", "_law_worths", "_law_caught", "e"] : List Str) (["_law_rule_here", "_law_worths"] : List Str) (aak ai4) := ⟨rfl, rfl, rfl, by decide +kernel, rfl, by decide +kernel, by decide +kernel⟩
 exact a.dfP S (cl := cl) (by decide) (λ_ _ _ _ _ _ us hl => match us, hl with | [_, _], _ => by kernel_rfl) (λf cdv A outer s H E hr => ⟨_, (aah (psL 2 S.nd ahX) (aah (arv (j := 3) rfl S.nd rfl rfl (apu (aqd (alV (ait.mono (by decide)) hr (paK (pvL 0) (paK (pvL 1) aal))))) ada.2 (λe => (aaq (psL 2 S.nd (pvL 3))))) (aaq (aaF (pcF (E := E) (an3.mono (by decide)) hr aat (paK (pvL 2) aal)))))), λt hK hx => (aar (aaI ajS (aap 2) abM) (aar (asD hK XT XC ada.1 (aqc (anW hK (amn (aoT 0) (amn (aoT 1) asC)) (aaj (aaj aaB)) (aac (aad 0) (aac (aad 1) aam)))) (λt1 h1 k1 => (aaI (aad 3) (aap 2) abM))) (aaG (aaV hK hx (aaj aaB) (aac (aad 2) aam)))))⟩)
theorem asK (a : At K mg "_law_frac" amr) (M : Nm mg) (an4 : DfX P w K mg base 1 "_law_shared" (["_law_one", "_law_other"] : List Str) (spP K cl 2 afH)) : DfX P w K mg base 2 "_law_frac" (["_law_top", "_law_bottom"] : List Str) (spP K cl 2 ad3) := by
 have S : aaE (["_law_top", "_law_bottom", "_law_by_here"] : List Str) (["_law_top", "_law_bottom"] : List Str) (aak amr) := ⟨rfl, rfl, rfl, by decide +kernel, rfl, by decide +kernel, by decide +kernel⟩
 exact a.dfP S (cl := cl) (by decide) (λ_ _ _ _ _ _ us hl => match us, hl with | [_, _], _ => by kernel_rfl) (λf cdv A outer s H E hr => ⟨_, (aah (psL 2 S.nd (pcF (E := E) (an4.mono (by decide)) hr aat (paK (pvL 0) (paK (pvL 1) aal)))) (aah (ab8 (aa4 (ajU hr.units) (pvL 1) aan (abo _)) (aaq (psL 2 S.nd (aaz agR aan (pvL 2)))) aaX) (aaq (aaF (adi (paK (aaz acJ (pvL 0) (pvL 2)) (paK (aaz acJ (pvL 1) (pvL 2)) aal))))))), λt hK hx => (aar (aaI (aaV hK hx (aaj (aaj aaB)) (aac (aad 0) (aac (aad 1) aam))) (aap 2) abM) (aar (acf (aaY (x_lt hK (aad 1) (aao _))) (aaI (al8 hK (aao _) (aad 2)) (aap 2) abM) abw) (aaG (adw (aac (ail hK (aad 0) (aad 2)) (aac (ail hK (aad 1) (aad 2)) aam))))))⟩)
theorem asL (a : At K mg "_law_rule" ag5) (M : Nm mg) (ad4 : DfX P w K mg base 1 "_law_take" (["_law_pile", "_law_size"] : List Str) (spR K 2 0 abK)) (ams : DfX P w K mg base 2 "_law_frac" (["_law_top", "_law_bottom"] : List Str) (spP K cl 2 ad3)) : DfX P w K mg base 3 "_law_rule" (["_law_cell_here", "_law_lists"] : List Str) (spP K cl 2 ag6) := by
 have S : aaE (["_law_cell_here", "_law_lists", "_law_pile", "_law_way", "_law_weights"] : List Str) (["_law_cell_here", "_law_lists"] : List Str) (aak ag5) := ⟨rfl, rfl, rfl, by decide +kernel, rfl, by decide +kernel, by decide +kernel⟩
 exact a.dfP S (cl := cl) (by decide) (λ_ _ _ _ _ _ us hl => match us, hl with | [_, _], _ => by kernel_rfl) (λf cdv A outer s H E hr => ⟨_, (aah (psC 2 S.nd rfl (acB (paK (pvL 0) aal))) (aah (psL 3 S.nd (pcF (E := E) (ad4.mono (by decide)) hr aat (paK (pvC 2) (paK aan aal)))) (aah (ab8 (aa4 (ajU hr.units) (pvL 3) aan (abo _)) (aah (aeM (i := 4) (sc := aak ag5) (No := (["_law_cell_here", "_law_lists", "_law_pile", "_law_way", "_law_weights"] : List Str)) (N := (["_law_place", "_law_pile"] : List Str)) (src := [none, some 2]) (g := (acS 0)) S.nd rfl (Or.inl rfl) rfl rfl ⟨by rfl, by decide +kernel, by decide +kernel, by decide +kernel, by rfl, by decide +kernel⟩ rfl (piR M.agf (paK (pvL 1) aal)) (λC s H ex => (pgL 0 (show List.Nodup (["_law_place", "_law_pile"] : List Str) by decide +kernel))) (λC s H ex => (adi (paK (pcF (E := E0) (ad4.mono (by decide)) hr aeN (paK (pvC 1) (paK aan aal))) (paK (aaz aa2 aan (pcF (E := E0) (ad4.mono (by decide)) hr aeN (paK (pvC 1) (paK aan aal)))) aal))))) (aah (ab8 (aa4 (adl hr.units) (pcF (E := E) (ad4.mono (by decide)) hr aat (paK (pvC 2) (paK aan aal))) aan (abo _)) (aaq (aeM (i := 4) (sc := aak ag5) (No := (["_law_cell_here", "_law_lists", "_law_pile", "_law_way", "_law_weights"] : List Str)) (N := (["_law_top", "_law_bottom"] : List Str)) (src := [none, none]) (g := (aqI K 2 (agz (acS 0) (agz (acS 1) aqH)))) S.nd rfl (Or.inl rfl) rfl rfl ⟨by rfl, by decide +kernel, by decide +kernel, by decide +kernel, by rfl, by decide +kernel⟩ rfl (afc (pvL 4)) (λC s H ex => (ae6 rfl (abp (pgL 0 (show List.Nodup (["_law_top", "_law_bottom"] : List Str) by decide +kernel)) (abp (pgL 1 (show List.Nodup (["_law_top", "_law_bottom"] : List Str) by decide +kernel)) adu)))) (λC s H ex => (adi (paK (aaz aa2 (aaz abl (pvL 0) (aaz ae7 aan aan)) aan) (paK (aaz abl (pvL 1) (aaz ae7 aan aan)) aal)))))) aaX) (aaq (aaF (adi (paK abY (paK (ahf (sc := aak ag5) (No := (["_law_cell_here", "_law_lists", "_law_pile", "_law_way", "_law_weights"] : List Str)) (N := (["_law_top", "_law_bottom"] : List Str)) (src := [none, none]) (g := (aqI K 2 (agz (acS 0) (agz (acS 1) aqH)))) rfl rfl ⟨by rfl, by decide +kernel, by decide +kernel, by decide +kernel, by rfl, by decide +kernel⟩ rfl (afc (pvL 4)) (λC s H ex => (ae6 rfl (abp (pgL 0 (show List.Nodup (["_law_top", "_law_bottom"] : List Str) by decide +kernel)) (abp (pgL 1 (show List.Nodup (["_law_top", "_law_bottom"] : List Str) by decide +kernel)) adu)))) (λC s H ex => (pcF (E := E0) (ams.mono (by decide)) hr aeN (paK (pvL 0) (paK (pvL 1) aal))))) aal))))))) aaX) (aah (ab8 (aa4 (adl hr.units) (pvL 3) aan (abo _)) (aaq (aaF (adi (paK abY (paK (aaz aa2 aan (pcF (E := E) (ad4.mono (by decide)) hr aat (paK (pvC 2) (paK (pvL 1) aal)))) aal))))) aaX) (aaq (aaF (abU aa8 (aeU (G := nlK K) (Ts := [.tup [.str "least"], .tup [.str "greatest"], .tup [.str "product"]]) (by kernel_rfl)) (aaz agR (pvL 3) aan) (λ_ _ => rfl)))))))), λt hK hx => (aar (aic 2 (acK (aac (aad 0) aam))) (aar (aaI (acX hK (aaj (aaj aaB)) (aac (aad 2) (aac (aao _) aam))) (aap 3) abM) (aar (acf (aaY (x_lt hK (aad 3) (aao _))) (aar (aaI (aec (ajZ (aac (aad 1) aam)) (afe (by decide)) (afi (js := [0]) (by decide)) abM (λt1 h1 k1 => (aap 0)) (λt1 h1 k1 => (adw (aac (acX (h1.trans hK) (aaj (aaj aaB)) (aac (aad 1) (aac (aao _) aam))) (aac (acr (h1.trans hK) (aao _) (acX (h1.trans hK) (aaj (aaj aaB)) (aac (aad 1) (aac (aao _) aam)))) aam))))) (aap 4) abM) (aar (acf (aaY (x_eq hK (acX hK (aaj (aaj aaB)) (aac (aad 2) (aac (aao _) aam))) (aao _))) (aaI (aec (afd hK (aad 4)) (afe (by decide)) (afi (js := [0, 1]) (by decide)) (aoL (adW abM (adW abM afh))) (λt2 h2 k2 => (afb (h2.trans hK) (abq (aap 0) (abq (aap 1) adx)))) (λt2 h2 k2 => (adw (aac (acr (h2.trans hK) (acW (h2.trans hK) (aad 0) (aiY (h2.trans hK) (aao _) (aao _))) (aao _)) (aac (acW (h2.trans hK) (aad 1) (aiY (h2.trans hK) (aao _) (aao _))) aam))))) (aap 4) abM) abw) (aaG (adw (aac (acd _) (aac (aec (afd hK (aad 4)) (afe (by decide)) (afi (js := [0, 1]) (by decide)) (aoL (adW abM (adW abM afh))) (λt3 h3 k3 => (afb (h3.trans hK) (abq (aap 0) (abq (aap 1) adx)))) (λt3 h3 k3 => (ab6 (h3.trans hK) k3 (aaj (aaj aaB)) (aac (aad 0) (aac (aad 1) aam))))) aam)))))) abw) (aar (acf (aaY (x_eq hK (aad 3) (aao _))) (aaG (adw (aac (acd _) (aac (acr hK (aao _) (acX hK (aaj (aaj aaB)) (aac (aad 2) (aac (aad 1) aam)))) aam)))) abw) (aaG (aep hK (aeW hK) (al8 hK (aad 3) (aao _))))))))⟩)
theorem an5 (a : At K mg "_law_shared" ahx) (M : Nm mg) : DfX P w K mg base 1 "_law_shared" (["_law_one", "_law_other"] : List Str) (spP K cl 2 afH) := by
 have S : aaE (["_law_one", "_law_other"] : List Str) (["_law_one", "_law_other"] : List Str) (aak ahx) := ⟨rfl, rfl, rfl, by decide +kernel, rfl, by decide +kernel, by decide +kernel⟩
 exact a.dfP S (cl := cl) (by decide) (λ_ _ _ _ _ _ us hl => match us, hl with | [_, _], _ => by kernel_rfl) (λf cdv A outer s H E hr => ⟨_, (aah (PS.nox (ajC PassesOwn.never (aa4 (ae9 hr.units) (pvL 1) aan (abo _)) (aaq (aor (i := 0) (j := 1) rfl S.nd rfl rfl (by decide) rfl rfl (paK (pvL 1) (paK (aaz acT (pvL 0) (pvL 1)) aal)) rfl)))) (aaq (aaF (pcB ajG M.asF (paK (pvL 0) aal))))), λt hK hx => (aar (afg (λt1 h1 k1 => (ajY (fuI 1) (aaY (aoM (h1.trans hK) (aad 1) (aao _))) (aoH 0 1 (aac (aad 1) (aac (agD (h1.trans hK) (aad 0) (aad 1)) aam)))))) (aaG (asi hK (aac (aad 0) aam))))⟩)
theorem asM (a : At K mg "_law_take" amq) (M : Nm mg) : DfX P w K mg base 1 "_law_take" (["_law_pile", "_law_size"] : List Str) (spR K 2 0 abK) := by
 have S : aaE (["_law_pile", "_law_size", "_law_digit"] : List Str) (["_law_pile", "_law_size"] : List Str) (aak amq) := ⟨rfl, rfl, rfl, by decide +kernel, rfl, by decide +kernel, by decide +kernel⟩
 exact a.dfR 0 S (cl := λ_ => 0) (by decide) (λ_ _ _ _ _ _ us hl => match us, hl with | [_, _], _ => by kernel_rfl) (λf cdv A outer s H E hr => ⟨_, (aah (psL 2 S.nd (aaz acT (abU aa8 (pvL 0) aan (λ_ _ => rfl)) (pvL 1))) (aah (alx (aaz acJ (abU aa8 (pvL 0) aan (λ_ _ => rfl)) (pvL 1)) (aq0 (pvL 0) aan set_list)) (aaq (aaF (pvL 2))))), λt hK hx => (aar (aaI (agD hK (aep hK (aad 0) (aao _)) (aad 1)) (aap 2) abM) (aar (apO 0 (ail hK (aep hK (aad 0) (aao _)) (aad 1)) (aao _)) (aaG (aad 2))))⟩)
theorem aqi (a : At K mg "_law_worth" ai3) (M : Nm mg) (ad4 : DfX P w K mg base 1 "_law_take" (["_law_pile", "_law_size"] : List Str) (spR K 2 0 abK)) (ams : DfX P w K mg base 2 "_law_frac" (["_law_top", "_law_bottom"] : List Str) (spP K cl 2 ad3)) : DfX P w K mg base 3 "_law_worth" (["_law_pile"] : List Str) (spR K 1 0 ac9) := by
 have S : aaE (["_law_pile", "_law_bottom", "_law_top"] : List Str) (["_law_pile"] : List Str) (aak ai3) := ⟨rfl, rfl, rfl, by decide +kernel, rfl, by decide +kernel, by decide +kernel⟩
 exact a.dfR 0 S (cl := cl) (by decide) (λ_ _ _ _ _ _ us hl => match us, hl with | [_], _ => by kernel_rfl) (λf cdv A outer s H E hr => ⟨_, (aah (psL 1 S.nd (abU aa8 (aeU (G := nlK K) (Ts := [.int 1, .int 2, .int 3, .int 4, .int 6, .int 10, .int 12]) (by kernel_rfl)) (pcF (E := E) (ad4.mono (by decide)) hr aat (paK (pvL 0) (paK aan aal))) (λ_ _ => rfl))) (aah (psL 2 S.nd (pcF (E := E) (ad4.mono (by decide)) hr aat (paK (pvL 0) (paK (aaz aa2 (pvL 1) aan) aal)))) (aah (ab8 (aa4 (adl hr.units) (pcF (E := E) (ad4.mono (by decide)) hr aat (paK (pvL 0) (paK aan aal))) aan (abo _)) (aah (psL 2 S.nd (aaz agR (aaz aa2 (aaz abl (pvL 2) (aaz ae7 aan aan)) (pcF (E := E) (ad4.mono (by decide)) hr aat (paK (pvL 0) (paK aan aal)))) aan)) (aaq (psL 1 S.nd (aaz abl (pvL 1) (aaz ae7 aan aan))))) aaX) (aaq (aaF (pcF (E := E) (ams.mono (by decide)) hr aat (paK (pcB (alC rfl) M.auZ (paK aan (paK (pcB (alD rfl) M.au0 (paK (pvL 1) (paK (pvL 2) aal))) aal))) (paK (pvL 1) aal)))))))), λt hK hx => (aar (aaI (aep hK (aeW hK) (acX hK (aaj (aaj aaB)) (aac (aad 0) (aac (aao _) aam)))) (aap 1) abM) (aar (aaI (acX hK (aaj (aaj aaB)) (aac (aad 0) (aac (acr hK (aad 1) (aao _)) aam))) (aap 2) abM) (aar (acf (aaY (x_eq hK (acX hK (aaj (aaj aaB)) (aac (aad 0) (aac (aao _) aam))) (aao _))) (aar (aaI (al8 hK (acr hK (acW hK (aad 2) (aiY hK (aao _) (aao _))) (acX hK (aaj (aaj aaB)) (aac (aad 0) (aac (aao _) aam)))) (aao _)) (aap 2) abM) (aaI (acW hK (aad 1) (aiY hK (aao _) (aao _))) (aap 1) abM)) abw) (aaG (aaV hK hx (aaj (aaj aaB)) (aac (auL hK (aac (aao _) (aac (auK hK (aac (aad 1) (aac (aad 2) aam))) aam))) (aac (aad 1) aam)))))))⟩)
theorem agG (a : At K mg "are_weights" acu) (M : Nm mg) (XT : aiK K) (adb : DfX P w K mg base 2 "is_fraction" (["thing"] : List Str) (spP K cl 1 abh)) : DfX P w K mg base 3 "are_weights" (["thing", "many"] : List Str) (spP K cl 2 acs) := by
 have S : aaE (["thing", "many"] : List Str) (["thing", "many"] : List Str) (aak acu) := ⟨rfl, rfl, rfl, by decide +kernel, rfl, by decide +kernel, by decide +kernel⟩
 exact a.dfP S (cl := cl) (by decide) (λ_ _ _ _ _ _ us hl => match us, hl with | [_, _], _ => by kernel_rfl) (λf cdv A outer s H E hr => ⟨_, (aah (ab8 (PW.pt (alw (aeh (ab5 (pcI XT.o .list (pvL 0) M.aav M.aoU) (by intro _; rfl))) (ahY (aa4 (ae9 hr.units) (pcB abL M.agF (paK (pvL 0) aal)) (pvL 1) (abo _))))) (aaq (aaF ahW)) aaX) (aaq (aaF (pcB (ajN rfl) M.asG (paK (ahf (sc := aak acu) (No := (["thing", "many"] : List Str)) (N := (["part"] : List Str)) (src := [none]) (g := (acS 0)) rfl rfl ⟨by rfl, by decide +kernel, by decide +kernel, by decide +kernel, by rfl, by decide +kernel⟩ rfl (afc (pvL 0)) (λC s H ex => (pgL 0 (show List.Nodup (["part"] : List Str) by decide +kernel))) (λC s H ex => (agP (pcF (E := E0) (adb.mono (by decide)) hr aeN (paK (pvL 0) aal)) (ahZ (aeH aph (abU aa8 (pvL 0) aan (λ_ _ => rfl)) aan (abo _)))))) aal))))), λt hK hx => (aar (acf (alY (aem (ad2 hK (agY hK .list (aad 0)))) (aaY (aoM hK (x_len hK (aac (aad 0) aam)) (aad 1)))) (aaG (aiV _)) abw) (aaG (asj hK (aac (aec (afd hK (aad 0)) (afe (by decide)) (afi (js := [0]) (by decide)) abM (λt1 h1 k1 => (aap 0)) (λt1 h1 k1 => (agW (ab6 (h1.trans hK) k1 (aaj aaB) (aac (aad 0) aam)) (x_ge (h1.trans hK) (aep (h1.trans hK) (aad 0) (aao _)) (aao _))))) aam))))⟩)
theorem ahC (a : At K mg "are_worths" acO) (M : Nm mg) (XT : aiK K) (akN : DfX P w K mg base 3 "is_worth" (["thing"] : List Str) (spP K cl 1 abS)) : DfX P w K mg base 4 "are_worths" (["thing", "most"] : List Str) (spP K cl 2 acg) := by
 have S : aaE (["thing", "most"] : List Str) (["thing", "most"] : List Str) (aak acO) := ⟨rfl, rfl, rfl, by decide +kernel, rfl, by decide +kernel, by decide +kernel⟩
 exact a.dfP S (cl := cl) (by decide) (λ_ _ _ _ _ _ us hl => match us, hl with | [_, _], _ => by kernel_rfl) (λf cdv A outer s H E hr => ⟨_, (aah (ab8 (PW.pt (alw (aeh (ab5 (pcI XT.o .list (pvL 0) M.aav M.aoU) (by intro _; rfl))) (ahY (aeh (am4 akq akq aan (pcB abL M.agF (paK (pvL 0) aal)) (pvL 1)))))) (aaq (aaF ahW)) aaX) (aaq (aaF (pcB (ajN rfl) M.asG (paK (ahf (sc := aak acO) (No := (["thing", "most"] : List Str)) (N := (["part"] : List Str)) (src := [none]) (g := (acS 0)) rfl rfl ⟨by rfl, by decide +kernel, by decide +kernel, by decide +kernel, by rfl, by decide +kernel⟩ rfl (afc (pvL 0)) (λC s H ex => (pgL 0 (show List.Nodup (["part"] : List Str) by decide +kernel))) (λC s H ex => (pcF (E := E0) (akN.mono (by decide)) hr aeN (paK (pvL 0) aal)))) aal))))), λt hK hx => (aar (acf (alY (aem (ad2 hK (agY hK .list (aad 0)))) (aem (aaY (aiZ hK akB akB akJ akJ (aao _) (x_len hK (aac (aad 0) aam)) (aad 1))))) (aaG (aiV _)) abw) (aaG (asj hK (aac (aec (afd hK (aad 0)) (afe (by decide)) (afi (js := [0]) (by decide)) abM (λt1 h1 k1 => (aap 0)) (λt1 h1 k1 => (ab6 (h1.trans hK) k1 (aaj aaB) (aac (aad 0) aam)))) aam))))⟩)
theorem afq (a : At K mg "common_bottom" acF) (M : Nm mg) (abD : DfX P w K mg base 1 "common_divisor" (["one", "other"] : List Str) (spP K cl 2 aaK)) : DfX P w K mg base 2 "common_bottom" (["fractions"] : List Str) (spP K cl 1 abJ) := by
 have S : aaE (["fractions", "bottom", "top", "own"] : List Str) (["fractions"] : List Str) (aak acF) := ⟨rfl, rfl, rfl, by decide +kernel, rfl, by decide +kernel, by decide +kernel⟩
 exact a.dfP S (cl := cl) (by decide) (λ_ _ _ _ _ _ us hl => match us, hl with | [_], _ => by kernel_rfl) (λf cdv A outer s H E hr => ⟨_, (aah (psL 1 S.nd aan) (aah (PS.nox (agQ PassesOwn.never rfl (afc (pvL 0)) (ae6 rfl (abp (pgL 2 S.nd) (abp (pgL 3 S.nd) adu))) (aaq (psL 1 S.nd (aaz acJ (aaz abl (pvL 1) (pvL 3)) (pcF (E := E0) (abD.mono (by decide)) hr aeN (paK (pvL 1) (paK (pvL 3) aal)))))))) (aaq (aaF (pvL 1))))), λt hK hx => (aar (aaI (aao _) (aap 1) abM) (aar (afg (λt1 h1 k1 => (ag0 (afd (h1.trans hK) (aad 0)) (afb (h1.trans hK) (abq (aap 2) (abq (aap 3) adx))) (aoL (adW abM (adW abM afh))) (aaI (ail (h1.trans hK) (acW (h1.trans hK) (aad 1) (aad 3)) (ab6 (h1.trans hK) k1 (aaj (aaj aaB)) (aac (aad 1) (aac (aad 3) aam)))) (aap 1) abM)))) (aaG (aad 1))))⟩)
theorem ae3 (a : At K mg "common_divisor" aco) (M : Nm mg) : DfX P w K mg base 1 "common_divisor" (["one", "other"] : List Str) (spP K cl 2 aaK) := by
 have S : aaE (["one", "other"] : List Str) (["one", "other"] : List Str) (aak aco) := ⟨rfl, rfl, rfl, by decide +kernel, rfl, by decide +kernel, by decide +kernel⟩
 exact a.dfP S (cl := cl) (by decide) (λ_ _ _ _ _ _ us hl => match us, hl with | [_, _], _ => by kernel_rfl) (λf cdv A outer s H E hr => ⟨_, (aah (PS.nox (ajC PassesOwn.never (aa4 (ae9 hr.units) (pvL 1) aan (abo _)) (aaq (aor (i := 0) (j := 1) rfl S.nd rfl rfl (by decide) rfl rfl (paK (pvL 1) (paK (aaz acT (pvL 0) (pvL 1)) aal)) rfl)))) (aaq (aaF (pcB ajG M.asF (paK (pvL 0) aal))))), λt hK hx => (aar (afg (λt1 h1 k1 => (ajY (fuI 1) (aaY (aoM (h1.trans hK) (aad 1) (aao _))) (aoH 0 1 (aac (aad 1) (aac (agD (h1.trans hK) (aad 0) (aad 1)) aam)))))) (aaG (asi hK (aac (aad 0) aam))))⟩)
theorem ae4 {c_ P_ : Addr} (a : AtL K mg "falling_places" abP c_) (L : anR K mg base "falling_places" c_ P_) (M : Nm mg) (adZ : DfX P w K mg base 3 "tops_on_one_bottom" (["fractions"] : List Str) (spP K cl 1 abt)) : DfX P w K mg base 4 "falling_places" (["fractions"] : List Str) (spP K cl 1 abb) := by
 have S : aaE (["fractions", "tops"] : List Str) (["fractions"] : List Str) (aak abP) := ⟨rfl, rfl, rfl, by decide +kernel, rfl, by decide +kernel, by decide +kernel⟩
 exact a.aw4 S (cl := cl) (by decide) (λ_ _ _ _ _ _ us hl => match us, hl with | [_], _ => by kernel_rfl) (λf A outer s H E hr => ⟨_, (aah (psC 1 S.nd rfl (pcF (E := E) (adZ.mono (by decide)) hr aat (paK (pvL 0) aal))) (aaq (aaF (anN (sc := aak abP) (No := (["fractions", "tops"] : List Str)) (x := "place") (Ns := (["tops"] : List Str)) (src := [some 1]) asu (λ_ h => h) ap6 hr M.anZ M.agf rfl rfl ⟨⟨by rfl, by decide +kernel, by decide +kernel, by decide +kernel, by rfl, by decide +kernel⟩, by decide +kernel, by rfl, by rfl, by rfl⟩ rfl L.hd L.bm rfl (paK (pcB abL M.agF (paK (pvC 1) aal)) aal) (λ_ _ _ _ => by kernel_rfl) (λA f cd s H => (apg alB (abU aa8 (pvF 1) (pvL 0) (λ_ _ => rfl)))))))), λt hK hx => (aar (aaI (aaV hK hx (aaj aaB) (aac (aad 0) aam)) (aap 1) abM) (aaG (ap8 L hK (aac (x_len hK (aac (aad 1) aam)) aam) (auT aoD (auS arK (aoS 1) (aoS 0))))))⟩)
theorem ai6 (a : At K mg "frac_sum" aeY) (M : Nm mg) (ade : DfX P w K mg base 2 "fraction_of" (["top", "bottom"] : List Str) (spP K cl 2 abA)) : DfX P w K mg base 3 "frac_sum" (["one", "other"] : List Str) (spP K cl 2 acy) := by
 have S : aaE (["one", "other"] : List Str) (["one", "other"] : List Str) (aak aeY) := ⟨rfl, rfl, rfl, by decide +kernel, rfl, by decide +kernel, by decide +kernel⟩
 exact a.dfP S (cl := cl) (by decide) (λ_ _ _ _ _ _ us hl => match us, hl with | [_, _], _ => by kernel_rfl) (λf cdv A outer s H E hr => ⟨_, (aaq (aaF (pcF (E := E) (ade.mono (by decide)) hr aat (paK (aaz aa2 (aaz abl (abU aa8 (pvL 0) aan (λ_ _ => rfl)) (abU aa8 (pvL 1) aan (λ_ _ => rfl))) (aaz abl (abU aa8 (pvL 1) aan (λ_ _ => rfl)) (abU aa8 (pvL 0) aan (λ_ _ => rfl)))) (paK (aaz abl (abU aa8 (pvL 0) aan (λ_ _ => rfl)) (abU aa8 (pvL 1) aan (λ_ _ => rfl))) aal))))), λt hK hx => (aaG (aaV hK hx (aaj (aaj aaB)) (aac (acr hK (acW hK (aep hK (aad 0) (aao _)) (aep hK (aad 1) (aao _))) (acW hK (aep hK (aad 1) (aao _)) (aep hK (aad 0) (aao _)))) (aac (acW hK (aep hK (aad 0) (aao _)) (aep hK (aad 1) (aao _))) aam))))⟩)
theorem ahD (a : At K mg "frac_times" adA) (M : Nm mg) (ade : DfX P w K mg base 2 "fraction_of" (["top", "bottom"] : List Str) (spP K cl 2 abA)) : DfX P w K mg base 3 "frac_times" (["one", "other"] : List Str) (spP K cl 2 abg) := by
 have S : aaE (["one", "other"] : List Str) (["one", "other"] : List Str) (aak adA) := ⟨rfl, rfl, rfl, by decide +kernel, rfl, by decide +kernel, by decide +kernel⟩
 exact a.dfP S (cl := cl) (by decide) (λ_ _ _ _ _ _ us hl => match us, hl with | [_, _], _ => by kernel_rfl) (λf cdv A outer s H E hr => ⟨_, (aaq (aaF (pcF (E := E) (ade.mono (by decide)) hr aat (paK (aaz abl (abU aa8 (pvL 0) aan (λ_ _ => rfl)) (abU aa8 (pvL 1) aan (λ_ _ => rfl))) (paK (aaz abl (abU aa8 (pvL 0) aan (λ_ _ => rfl)) (abU aa8 (pvL 1) aan (λ_ _ => rfl))) aal))))), λt hK hx => (aaG (aaV hK hx (aaj (aaj aaB)) (aac (acW hK (aep hK (aad 0) (aao _)) (aep hK (aad 1) (aao _))) (aac (acW hK (aep hK (aad 0) (aao _)) (aep hK (aad 1) (aao _))) aam))))⟩)
theorem agH (a : At K mg "fraction_of" ac7) (M : Nm mg) (adP : PyProof.Rows.OwnCls "NoBottom" (cl "NoBottom") bmV "ValueError.__new__" mg base) (abD : DfX P w K mg base 1 "common_divisor" (["one", "other"] : List Str) (spP K cl 2 aaK)) : DfX P w K mg base 2 "fraction_of" (["top", "bottom"] : List Str) (spP K cl 2 abA) := by
 have S : aaE (["top", "bottom", "divisor"] : List Str) (["top", "bottom"] : List Str) (aak ac7) := ⟨rfl, rfl, rfl, by decide +kernel, rfl, by decide +kernel, by decide +kernel⟩
 exact a.dfP S (cl := cl) (by decide) (λ_ _ _ _ _ _ us hl => match us, hl with | [_, _], _ => by kernel_rfl) (λf cdv A outer s H E hr => ⟨_, (aah (ab8 (aa4 (adl hr.units) (pvL 1) aan (abo _)) (aaq (ahg afY adP PySem.F.excBase_ValueError rfl abY)) aaX) (aah (psL 2 S.nd (pcF (E := E) (abD.mono (by decide)) hr aat (paK (pvL 0) (paK (pvL 1) aal)))) (aah (ab8 (aa4 (ajU hr.units) (pvL 1) aan (abo _)) (aaq (psL 2 S.nd (apg alB (pvL 2)))) aaX) (aaq (aaF (adi (paK (aaz acJ (pvL 0) (pvL 2)) (paK (aaz acJ (pvL 1) (pvL 2)) aal)))))))), λt hK hx => (aar (acf (aaY (x_eq hK (aad 1) (aao _))) (ahn (λH' => hx "NoBottom" H') (acd _)) abw) (aar (aaI (aaV hK hx (aaj (aaj aaB)) (aac (aad 0) (aac (aad 1) aam))) (aap 2) abM) (aar (acf (aaY (x_lt hK (aad 1) (aao _))) (aaI (auJ (aad 2)) (aap 2) abM) abw) (aaG (adw (aac (ail hK (aad 0) (aad 2)) (aac (ail hK (aad 1) (aad 2)) aam)))))))⟩)
theorem agI (a : At K mg "is_fraction" ac8) (M : Nm mg) (XT : aiK K) (adQ : DfX P w K mg base 1 "is_whole" (["thing"] : List Str) (spP K cl 1 ab2)) (abD : DfX P w K mg base 1 "common_divisor" (["one", "other"] : List Str) (spP K cl 2 aaK)) : DfX P w K mg base 2 "is_fraction" (["thing"] : List Str) (spP K cl 1 abh) := by
 have S : aaE (["thing", "top", "bottom"] : List Str) (["thing"] : List Str) (aak ac8) := ⟨rfl, rfl, rfl, by decide +kernel, rfl, by decide +kernel, by decide +kernel⟩
 exact a.dfP S (cl := cl) (by decide) (λ_ _ _ _ _ _ us hl => match us, hl with | [_], _ => by kernel_rfl) (λf cdv A outer s H E hr => ⟨_, (aah (ab8 (PW.pt (alw (aeh (ab5 (pcI XT.o .tuple (pvL 0) M.aav M.ai5) (by intro _; rfl))) (ahY (aa4 (ae9 hr.units) (pcB abL M.agF (paK (pvL 0) aal)) aan (abo _))))) (aaq (aaF ahW)) aaX) (aah (alx (pvL 0) (ae6 rfl (abp (pgL 1 S.nd) (abp (pgL 2 S.nd) adu)))) (aah (ab8 (PW.pt (alw (aeh (ab5 (pcF (E := E) (adQ.mono (by decide)) hr aat (paK (pvL 1) aal)) (by intro _; rfl))) (ahY (aeh (ab5 (pcF (E := E) (adQ.mono (by decide)) hr aat (paK (pvL 2) aal)) (by intro _; rfl)))))) (aaq (aaF ahW)) aaX) (aaq (aaF (agP (aeH aph (pvL 2) aan (abo _)) (ahZ (aeH (adl hr.units) (pcF (E := E) (abD.mono (by decide)) hr aat (paK (pvL 1) (paK (pvL 2) aal))) aan (abo _))))))))), λt hK hx => (aar (acf (alY (aem (ad2 hK (agY hK .tuple (aad 0)))) (aaY (aoM hK (x_len hK (aac (aad 0) aam)) (aao _)))) (aaG (aiV _)) abw) (aar (aaI (aad 0) (afb hK (abq (aap 1) (abq (aap 2) adx))) (aoL (adW abM (adW abM afh)))) (aar (acf (alY (aem (ad2 hK (aaV hK hx (aaj aaB) (aac (aad 1) aam)))) (aem (ad2 hK (aaV hK hx (aaj aaB) (aac (aad 2) aam))))) (aaG (aiV _)) abw) (aaG (agW (x_ge hK (aad 2) (aao _)) (x_eq hK (aaV hK hx (aaj (aaj aaB)) (aac (aad 1) (aac (aad 2) aam))) (aao _)))))))⟩)
theorem akO (a : At K mg "is_rule" agd) (M : Nm mg) {adD : V} (acQ : Gk K mg "BARE_RULES" adD (.tup [(.tup [(.str "least")]), (.tup [(.str "greatest")]), (.tup [(.str "product")])])) (XT : aiK K) (ahE : DfX P w K mg base 3 "are_weights" (["thing", "many"] : List Str) (spP K cl 2 acs)) (adQ : DfX P w K mg base 1 "is_whole" (["thing"] : List Str) (spP K cl 1 ab2)) : DfX P w K mg base 4 "is_rule" (["thing", "many"] : List Str) (spP K cl 2 abj) := by
 have S : aaE (["thing", "many", "word", "rest"] : List Str) (["thing", "many"] : List Str) (aak agd) := ⟨rfl, rfl, rfl, by decide +kernel, rfl, by decide +kernel, by decide +kernel⟩
 exact a.dfP S (cl := cl) (by decide) (λ_ _ _ _ _ _ us hl => match us, hl with | [_, _], _ => by kernel_rfl) (λf cdv A outer s H E hr => ⟨_, (aah (ab8 (aeh (ab5 (pcI XT.o .tuple (pvL 0) M.aav M.ai5) (by intro _; rfl))) (aaq (aaF ahW)) aaX) (aah (ab8 (aa4 (ae9 hr.units) (pcB abL M.agF (paK (pvL 0) aal)) aan (abo _)) (aaq (aaF (aeH (arq hr.units) (pvL 0) (pGk acQ) (by with_unfolding_all rfl)))) aaX) (aah (alx (pvL 0) (ae6 rfl (abp (pgL 2 S.nd) (abp (pgL 3 S.nd) adu)))) (aah (ab8 (aa4 (adl hr.units) (pvL 2) abY (abo _)) (aaq (aaF (pcF (E := E) (ahE.mono (by decide)) hr aat (paK (pvL 3) (paK (pvL 1) aal))))) aaX) (aaq (aaF (agP (aeH (adl hr.units) (pvL 2) abY (abo _)) (agP (pcF (E := E) (adQ.mono (by decide)) hr aat (paK (pvL 3) aal)) (ahZ (ajF akq akq aan (pvL 3) (pvL 1))))))))))), λt hK hx => (aar (acf (aem (ad2 hK (agY hK .tuple (aad 0)))) (aaG (aiV _)) abw) (aar (acf (aaY (aoM hK (x_len hK (aac (aad 0) aam)) (aao _))) (aaG (awU hK (aad 0) (ash hK acQ))) abw) (aar (aaI (aad 0) (afb hK (abq (aap 2) (abq (aap 3) adx))) (aoL (adW abM (adW abM afh)))) (aar (acf (aaY (x_eq hK (aad 2) (acd _))) (aaG (aaV hK hx (aaj (aaj aaB)) (aac (aad 3) (aac (aad 1) aam)))) abw) (aaG (agW (x_eq hK (aad 2) (acd _)) (agW (aaV hK hx (aaj aaB) (aac (aad 3) aam)) (aiZ hK akB akB akJ akJ (aao _) (aad 3) (aad 1)))))))))⟩)
theorem ai7 (a : At K mg "is_whole" aeX) (M : Nm mg) (XT : aiK K) : DfX P w K mg base 1 "is_whole" (["thing"] : List Str) (spP K cl 1 ab2) := by
 have S : aaE (["thing"] : List Str) (["thing"] : List Str) (aak aeX) := ⟨rfl, rfl, rfl, by decide +kernel, rfl, by decide +kernel, by decide +kernel⟩
 exact a.dfP S (cl := cl) (by decide) (λ_ _ _ _ _ _ us hl => match us, hl with | [_], _ => by kernel_rfl) (λf cdv A outer s H E hr => ⟨_, (aaq (aaF (agP (pcI XT.o .int (pvL 0) M.aav M.auY) (ahZ (aqY (pcI XT.o .bool (pvL 0) M.aav M.asH)))))), λt hK hx => (aaG (agW (agY hK .int (aad 0)) (arN (agY hK .bool (aad 0)))))⟩)
theorem ai8 (a : At K mg "is_worth" aeZ) (M : Nm mg) (adb : DfX P w K mg base 2 "is_fraction" (["thing"] : List Str) (spP K cl 1 abh)) : DfX P w K mg base 3 "is_worth" (["thing"] : List Str) (spP K cl 1 abS) := by
 have S : aaE (["thing"] : List Str) (["thing"] : List Str) (aak aeZ) := ⟨rfl, rfl, rfl, by decide +kernel, rfl, by decide +kernel, by decide +kernel⟩
 exact a.dfP S (cl := cl) (by decide) (λ_ _ _ _ _ _ us hl => match us, hl with | [_], _ => by kernel_rfl) (λf cdv A outer s H E hr => ⟨_, (aaq (aaF (agP (pcF (E := E) (adb.mono (by decide)) hr aat (paK (pvL 0) aal)) (ahZ (ajF akq akq aan (abU aa8 (pvL 0) aan (λ_ _ => rfl)) (abU aa8 (pvL 0) aan (λ_ _ => rfl))))))), λt hK hx => (aaG (agW (aaV hK hx (aaj aaB) (aac (aad 0) aam)) (aiZ hK akB akB akJ akJ (aao _) (aep hK (aad 0) (aao _)) (aep hK (aad 0) (aao _)))))⟩)
theorem asN (a : At K mg "law" anY) (M : Nm mg) (asO : DfX P w K mg base 3 "_law_rule" (["_law_cell_here", "_law_lists"] : List Str) (spP K cl 2 ag6)) (akd : DfX P w K mg base 1 "_law_cell" (["_law_script", "_law_k"] : List Str) (spP K cl 2 ab0)) (aqj : DfX P w K mg base 3 "_law_worth" (["_law_pile"] : List Str) (spR K 1 0 ac9)) (ahF : DfX P w K mg base 7 "_law_flags" (["_law_rule_here", "_law_worths"] : List Str) (spP K cl 2 abW)) : DfX P w K mg base 8 "law" (["_law_script"] : List Str) (spP K cl 1 akM) := by
 have S : aaE (["_law_script", "_law_lists", "_law_pile", "_law_worths", "_law_rule_here", "_law_cell_here", "_law_place", "_law_bads", "_law_bad", "_law_rules", "_law_k", "_law_odd"] : List Str) (["_law_script"] : List Str) (aak anY) := ⟨rfl, rfl, rfl, by decide +kernel, rfl, by decide +kernel, by decide +kernel⟩
 exact a.dfP S (cl := cl) (by decide) (λ_ _ _ _ _ _ us hl => match us, hl with | [_], _ => by kernel_rfl) (λf cdv A outer s H E hr => ⟨_, (aah (psL 1 S.nd (aaz aa2 aan (aaz acT (pcF (E := E) (akd.mono (by decide)) hr aat (paK (pvL 0) (paK aan aal))) aan))) (aah (psC 2 S.nd rfl (acB (paK (pcF (E := E) (akd.mono (by decide)) hr aat (paK (pvL 0) (paK aan aal))) aal))) (aah (aeM (i := 3) (sc := aak anY) (No := (["_law_script", "_law_lists", "_law_pile", "_law_worths", "_law_rule_here", "_law_cell_here", "_law_place", "_law_bads", "_law_bad", "_law_rules", "_law_k", "_law_odd"] : List Str)) (N := (["_law_place", "_law_pile"] : List Str)) (src := [none, some 2]) (g := (acS 0)) S.nd rfl (Or.inl rfl) rfl rfl ⟨by rfl, by decide +kernel, by decide +kernel, by decide +kernel, by rfl, by decide +kernel⟩ rfl (piR M.agf (paK (pvL 1) aal)) (λC s H ex => (pgL 0 (show List.Nodup (["_law_place", "_law_pile"] : List Str) by decide +kernel))) (λC s H ex => (pcF (E := E0) (aqj.mono (by decide)) hr aeN (paK (pvC 1) aal)))) (aah (psL 4 S.nd (pcF (E := E) (asO.mono (by decide)) hr aat (paK (pcF (E := E) (akd.mono (by decide)) hr aat (paK (pvL 0) (paK aan aal))) (paK (pvL 1) aal)))) (aah (psL 5 S.nd (pcF (E := E) (akd.mono (by decide)) hr aat (paK (pvL 0) (paK aan aal)))) (aah (psL 6 S.nd (aaz acT (pvL 5) (pvL 1))) (aah (psL 7 S.nd (acB (paK ahX (paK (acB aal) (paK (aaz abl (pvL 3) aan) (paK (awX ahe M.ai5 (paK (pvL 3) aal)) (paK aan (paK abY aal)))))))) (aah (PS.nox (agQ PassesOwn.never rfl (afc (aeU (G := nlK K) (Ts := [.tup [.int (-1), .int 2], .tup [.int 3, .int 2], .int 1, .tup [.int 2, .int 4], .bl true, .non, .lst [.int 1, .int 2], .tup [.int 1, .int 0], .str "1/2", .tup [.int 1, .int 2, .int 3], .tup [.int (-1), .int 1]]) (by kernel_rfl))) (pgL 8 S.nd) (aaq (psE (aro PySem.F.plainAttrs_list PySem.F.slot_list_append PySem.F.type_list_append aej (pvL 7) (acA (aaz aa2 (aaz aa2 (ajK awb (pvL 3) alJ (alK (pvL 6))) (acB (paK (pvL 8) aal))) (ajK awb (pvL 3) (alK (aaz aa2 (pvL 6) aan)) alJ)) aal)))))) (aah (psL 9 S.nd (acB (paK ahX (paK (adi aal) (paK (aeU (G := nlK K) (Ts := [.str "least"]) (by kernel_rfl)) (paK (aeV (G := nlK K) (Ts := [.str "least", .int 1]) (by kernel_rfl)) (paK (adi (paK abY (paK (aaz abl (aeU (G := nlK K) (Ts := [.tup [.int 1, .int 1]]) (by kernel_rfl)) (aaz aa2 (pvL 1) aan)) aal))) (paK (adi (paK abY (paK (aaz aa2 (pvL 1) aan) aal))) aal)))))))) (aah (psL 9 S.nd (aaz aa2 (pvL 9) (acB (paK (aeV (G := nlK K) (Ts := [.str "middle", .int 0]) (by kernel_rfl)) (paK (aeV (G := nlK K) (Ts := [.str "sum"]) (by kernel_rfl)) (paK (adi (paK abY (paK (aaz abl (aeU (G := nlK K) (Ts := [.tup [.int (-1), .int 1]]) (by kernel_rfl)) (pvL 1)) aal))) (paK abY (paK (aeV (G := nlK K) (Ts := [.str "middle", .bl true]) (by kernel_rfl)) aal)))))))) (aah (psE (aro PySem.F.plainAttrs_list PySem.F.slot_list_append PySem.F.type_list_append aej (pvL 9) (acA (adi (paK abY (paK (aaz abl (aeU (G := nlK K) (Ts := [.int 1]) (by kernel_rfl)) (pvL 1)) aal))) aal))) (aah (PS.nox (agQ PassesOwn.never rfl (piR M.agf (paK (pcB abL M.agF (paK (pvL 7) aal)) aal)) (pgL 10 S.nd) (aah (psL 11 S.nd (abU aa8 (pvL 9) (aaz acT (aaz aa2 (aaz acJ (pvL 5) aan) (pvL 10)) (pcB abL M.agF (paK (pvL 9) aal))) (λ_ _ => rfl))) (aah (ab8 (PW.pt (alw (aa4 (ae9 hr.units) (pcF (E := E0) (ahF.mono (by decide)) hr aeN (paK (pvL 11) (paK (abU aa8 (pvL 7) (pvL 10) (λ_ _ => rfl)) aal))) (aeU (G := nlK K) (Ts := [.str "worth"]) (by kernel_rfl)) (abo _)) (ahY (aa4 (ae9 hr.units) (pcF (E := E0) (ahF.mono (by decide)) hr aeN (paK (pvL 4) (paK (abU aa8 (pvL 7) (pvL 10) (λ_ _ => rfl)) aal))) (aeU (G := nlK K) (Ts := [.str "worth"]) (by kernel_rfl)) (abo _))))) (aaq (aaF ahW)) aaX) (aaq (ab8 (aa4 (ae9 hr.units) (pcF (E := E0) (ahF.mono (by decide)) hr aeN (paK (pvL 11) (paK (pvL 3) aal))) (aeU (G := nlK K) (Ts := [.str "rule"]) (by kernel_rfl)) (abo _)) (aaq (aaF ahW)) aaX)))))) (aaq (aaF (aeH (adl hr.units) (pcF (E := E) (ahF.mono (by decide)) hr aat (paK (pvL 4) (paK (pvL 3) aal))) (acB aal) (abo _)))))))))))))))), λt hK hx => (aar (aaI (acr hK (aao _) (agD hK (aaV hK hx (aaj (aaj aaB)) (aac (aad 0) (aac (aao _) aam))) (aao _))) (aap 1) abM) (aar (aic 2 (acK (aac (aaV hK hx (aaj (aaj aaB)) (aac (aad 0) (aac (aao _) aam))) aam))) (aar (aaI (aec (ajZ (aac (aad 1) aam)) (afe (by decide)) (afi (js := [0]) (by decide)) abM (λt1 h1 k1 => (aap 0)) (λt1 h1 k1 => (acX (h1.trans hK) (aaj aaB) (aac (aad 1) aam)))) (aap 3) abM) (aar (aaI (aaV hK hx (aaj (aaj aaB)) (aac (aaV hK hx (aaj (aaj aaB)) (aac (aad 0) (aac (aao _) aam))) (aac (aad 1) aam))) (aap 4) abM) (aar (aaI (aaV hK hx (aaj (aaj aaB)) (aac (aad 0) (aac (aao _) aam))) (aap 5) abM) (aar (aaI (agD hK (aad 5) (aad 1)) (aap 6) abM) (aar (aic 7 (acK (aac ajS (aac (acK aam) (aac (acW hK (aad 3) (aao _)) (aac (apV hK (aac (aad 3) aam)) (aac (aao _) (aac (acd _) aam)))))))) (aar (afg (λt2 h2 k2 => (ag0 (afd (h2.trans hK) (aeW (h2.trans hK))) (aap 8) abM (al2 (asl 7 (acr (h2.trans hK) (acr (h2.trans hK) (arP (h2.trans hK) (aad 3) arO (al0 (aad 6))) (acK (aac (aad 8) aam))) (arP (h2.trans hK) (aad 3) (al0 (acr (h2.trans hK) (aad 6) (aao _))) arO))))))) (aar (aic 9 (acK (aac ajS (aac (adw aam) (aac (aeW hK) (aac (akK hK) (aac (adw (aac (acd _) (aac (acW hK (aeW hK) (acr hK (aad 1) (aao _))) aam))) (aac (adw (aac (acd _) (aac (acr hK (aad 1) (aao _)) aam))) aam)))))))) (aar (aic 9 (acr hK (aad 9) (acK (aac (akK hK) (aac (akK hK) (aac (adw (aac (acd _) (aac (acW hK (aeW hK) (aad 1)) aam))) (aac (acd _) (aac (akK hK) aam)))))))) (aar (al2 (asl 9 (adw (aac (acd _) (aac (acW hK (aeW hK) (aad 1)) aam))))) (aar (afg (λt3 h3 k3 => (ag0 (ajZ (aac (x_len (h3.trans hK) (aac (aad 7) aam)) aam)) (aap 10) abM (aar (aaI (aep (h3.trans hK) (aad 9) (agD (h3.trans hK) (acr (h3.trans hK) (ail (h3.trans hK) (aad 5) (aao _)) (aad 10)) (x_len (h3.trans hK) (aac (aad 9) aam)))) (aap 11) abM) (aar (acf (alY (aaY (aoM (h3.trans hK) (ab6 (h3.trans hK) k3 (aaj (aaj aaB)) (aac (aad 11) (aac (aep (h3.trans hK) (aad 7) (aad 10)) aam))) (aeW (h3.trans hK)))) (aaY (aoM (h3.trans hK) (ab6 (h3.trans hK) k3 (aaj (aaj aaB)) (aac (aad 4) (aac (aep (h3.trans hK) (aad 7) (aad 10)) aam))) (aeW (h3.trans hK))))) (aaG (aiV _)) abw) (acf (aaY (aoM (h3.trans hK) (ab6 (h3.trans hK) k3 (aaj (aaj aaB)) (aac (aad 11) (aac (aad 3) aam))) (aeW (h3.trans hK)))) (aaG (aiV _)) abw)))))) (aaG (x_eq hK (aaV hK hx (aaj (aaj aaB)) (aac (aad 4) (aac (aad 3) aam))) (acK aam)))))))))))))))⟩)
theorem ai9 (a : At K mg "place_of" ae0) (M : Nm mg) : DfX P w K mg base 1 "place_of" (["rule", "many"] : List Str) (spP K cl 2 ab3) := by
 have S : aaE (["rule", "many"] : List Str) (["rule", "many"] : List Str) (aak ae0) := ⟨rfl, rfl, rfl, by decide +kernel, rfl, by decide +kernel, by decide +kernel⟩
 exact a.dfP S (cl := cl) (by decide) (λ_ _ _ _ _ _ us hl => match us, hl with | [_, _], _ => by kernel_rfl) (λf cdv A outer s H E hr => ⟨_, (aah (ab8 (aa4 (adl hr.units) (abU aa8 (pvL 0) aan (λ_ _ => rfl)) abY (abo _)) (aaq (aaF aan)) aaX) (aah (ab8 (aa4 (adl hr.units) (abU aa8 (pvL 0) aan (λ_ _ => rfl)) abY (abo _)) (aaq (aaF (pvL 1))) aaX) (aaq (aaF (abU aa8 (pvL 0) aan (λ_ _ => rfl)))))), λt hK hx => (aar (acf (aaY (x_eq hK (aep hK (aad 0) (aao _)) (acd _))) (aaG (aao _)) abw) (aar (acf (aaY (x_eq hK (aep hK (aad 0) (aao _)) (acd _))) (aaG (aad 1)) abw) (aaG (aep hK (aad 0) (aao _)))))⟩)
theorem afr (a : At K mg "product_worth" acG) (M : Nm mg) (adE : DfX P w K mg base 3 "frac_times" (["one", "other"] : List Str) (spP K cl 2 abg)) : DfX P w K mg base 4 "product_worth" (["worths"] : List Str) (spP K cl 1 abV) := by
 have S : aaE (["worths", "product", "worth"] : List Str) (["worths"] : List Str) (aak acG) := ⟨rfl, rfl, rfl, by decide +kernel, rfl, by decide +kernel, by decide +kernel⟩
 exact a.dfP S (cl := cl) (by decide) (λ_ _ _ _ _ _ us hl => match us, hl with | [_], _ => by kernel_rfl) (λf cdv A outer s H E hr => ⟨_, (aah (psL 1 S.nd (aeV (G := nlK K) (Ts := [.int 1, .int 1]) (by kernel_rfl))) (aah (PS.nox (agQ PassesOwn.never rfl (afc (pvL 0)) (pgL 2 S.nd) (aaq (psL 1 S.nd (pcF (E := E0) (adE.mono (by decide)) hr aeN (paK (pvL 1) (paK (pvL 2) aal))))))) (aaq (aaF (pvL 1))))), λt hK hx => (aar (aaI (akK hK) (aap 1) abM) (aar (afg (λt1 h1 k1 => (ag0 (afd (h1.trans hK) (aad 0)) (aap 2) abM (aaI (ab6 (h1.trans hK) k1 (aaj (aaj aaB)) (aac (aad 1) (aac (aad 2) aam))) (aap 1) abM)))) (aaG (aad 1))))⟩)
theorem ahG (a : At K mg "rule_worth" adB) (M : Nm mg) {adF : V} (acR : Gk K mg "MOST_LISTS" adF (.int 4)) (afM : PyProof.Rows.OwnCls "NoRule" (cl "NoRule") bmV "ValueError.__new__" mg base) (aeB : PyProof.Rows.OwnCls "NoWorth" (cl "NoWorth") bmV "ValueError.__new__" mg base) (akP : DfX P w K mg base 5 "worth_by" (["rule", "worths"] : List Str) (spP K cl 2 abT)) (aiu : DfX P w K mg base 4 "are_worths" (["thing", "most"] : List Str) (spP K cl 2 acg)) (amt : DfX P w K mg base 4 "is_rule" (["thing", "many"] : List Str) (spP K cl 2 abj)) : DfX P w K mg base 6 "rule_worth" (["rule", "worths"] : List Str) (spP K cl 2 aaL) := by
 have S : aaE (["rule", "worths"] : List Str) (["rule", "worths"] : List Str) (aak adB) := ⟨rfl, rfl, rfl, by decide +kernel, rfl, by decide +kernel, by decide +kernel⟩
 exact a.dfP S (cl := cl) (by decide) (λ_ _ _ _ _ _ us hl => match us, hl with | [_, _], _ => by kernel_rfl) (λf cdv A outer s H E hr => ⟨_, (aah (ab8 (aeh (ab5 (pcF (E := E) (aiu.mono (by decide)) hr aat (paK (pvL 1) (paK (pGk acR) aal))) (by intro _; rfl))) (aaq (ahg afY aeB PySem.F.excBase_ValueError rfl abY)) aaX) (aah (ab8 (aeh (ab5 (pcF (E := E) (amt.mono (by decide)) hr aat (paK (pvL 0) (paK (pcB abL M.agF (paK (pvL 1) aal)) aal))) (by intro _; rfl))) (aaq (ahg afY afM PySem.F.excBase_ValueError rfl abY)) aaX) (aaq (aaF (pcF (E := E) (akP.mono (by decide)) hr aat (paK (pvL 0) (paK (pvL 1) aal))))))), λt hK hx => (aar (acf (aem (ad2 hK (aaV hK hx (aaj (aaj aaB)) (aac (aad 1) (aac (ash hK acR) aam))))) (ahn (λH' => hx "NoWorth" H') (acd _)) abw) (aar (acf (aem (ad2 hK (aaV hK hx (aaj (aaj aaB)) (aac (aad 0) (aac (x_len hK (aac (aad 1) aam)) aam))))) (ahn (λH' => hx "NoRule" H') (acd _)) abw) (aaG (aaV hK hx (aaj (aaj aaB)) (aac (aad 0) (aac (aad 1) aam))))))⟩)
theorem agm (a : At K mg "shares_worth" acY) (M : Nm mg) (akQ : DfX P w K mg base 3 "frac_sum" (["one", "other"] : List Str) (spP K cl 2 acy)) (adE : DfX P w K mg base 3 "frac_times" (["one", "other"] : List Str) (spP K cl 2 abg)) : DfX P w K mg base 4 "shares_worth" (["weights", "worths"] : List Str) (spP K cl 2 ab7) := by
 have S : aaE (["weights", "worths", "total", "weight", "worth"] : List Str) (["weights", "worths"] : List Str) (aak acY) := ⟨rfl, rfl, rfl, by decide +kernel, rfl, by decide +kernel, by decide +kernel⟩
 exact a.dfP S (cl := cl) (by decide) (λ_ _ _ _ _ _ us hl => match us, hl with | [_, _], _ => by kernel_rfl) (λf cdv A outer s H E hr => ⟨_, (aah (psL 2 S.nd (aeV (G := nlK K) (Ts := [.int 0, .int 1]) (by kernel_rfl))) (aah (PS.nox (agQ PassesOwn.never rfl (aox M.asI (paK (pvL 0) (paK (pvL 1) aal))) (ae6 rfl (abp (pgL 3 S.nd) (abp (pgL 4 S.nd) adu))) (aaq (psL 2 S.nd (pcF (E := E0) (akQ.mono (by decide)) hr aeN (paK (pvL 2) (paK (pcF (E := E0) (adE.mono (by decide)) hr aeN (paK (pvL 3) (paK (pvL 4) aal))) aal))))))) (aaq (aaF (pvL 2))))), λt hK hx => (aar (aaI (akK hK) (aap 2) abM) (aar (afg (λt1 h1 k1 => (ag0 (aoP (h1.trans hK) (aac (aad 0) (aac (aad 1) aam))) (afb (h1.trans hK) (abq (aap 3) (abq (aap 4) adx))) (aoL (adW abM (adW abM afh))) (aaI (ab6 (h1.trans hK) k1 (aaj (aaj aaB)) (aac (aad 2) (aac (ab6 (h1.trans hK) k1 (aaj (aaj aaB)) (aac (aad 3) (aac (aad 4) aam))) aam))) (aap 2) abM)))) (aaG (aad 2))))⟩)
theorem adG (a : At K mg "tops_on_one_bottom" abu) (M : Nm mg) (agn : DfX P w K mg base 2 "common_bottom" (["fractions"] : List Str) (spP K cl 1 abJ)) : DfX P w K mg base 3 "tops_on_one_bottom" (["fractions"] : List Str) (spP K cl 1 abt) := by
 have S : aaE (["fractions", "bottom"] : List Str) (["fractions"] : List Str) (aak abu) := ⟨rfl, rfl, rfl, by decide +kernel, rfl, by decide +kernel, by decide +kernel⟩
 exact a.dfP S (cl := cl) (by decide) (λ_ _ _ _ _ _ us hl => match us, hl with | [_], _ => by kernel_rfl) (λf cdv A outer s H E hr => ⟨_, (aah (psC 1 S.nd rfl (pcF (E := E) (agn.mono (by decide)) hr aat (paK (pvL 0) aal))) (aaq (aaF (ahf (sc := aak abu) (No := (["fractions", "bottom"] : List Str)) (N := (["top", "own", "bottom"] : List Str)) (src := [none, none, some 1]) (g := (aqI K 2 (agz (acS 0) (agz (acS 1) aqH)))) rfl rfl ⟨by rfl, by decide +kernel, by decide +kernel, by decide +kernel, by rfl, by decide +kernel⟩ rfl (afc (pvL 0)) (λC s H ex => (ae6 rfl (abp (pgL 0 (show List.Nodup (["top", "own", "bottom"] : List Str) by decide +kernel)) (abp (pgL 1 (show List.Nodup (["top", "own", "bottom"] : List Str) by decide +kernel)) adu)))) (λC s H ex => (aaz abl (pvL 0) (aaz acJ (pvC 2) (pvL 1)))))))), λt hK hx => (aar (aaI (aaV hK hx (aaj aaB) (aac (aad 0) aam)) (aap 1) abM) (aaG (aec (afd hK (aad 0)) (afe (by decide)) (afi (js := [0, 1]) (by decide)) (aoL (adW abM (adW abM afh))) (λt1 h1 k1 => (afb (h1.trans hK) (abq (aap 0) (abq (aap 1) adx)))) (λt1 h1 k1 => (acW (h1.trans hK) (aad 0) (ail (h1.trans hK) (aad 2) (aad 1)))))))⟩)
theorem aja (a : At K mg "worth_by" ae1) (M : Nm mg) (agJ : DfX P w K mg base 4 "shares_worth" (["weights", "worths"] : List Str) (spP K cl 2 ab7)) (ago : DfX P w K mg base 4 "product_worth" (["worths"] : List Str) (spP K cl 1 abV)) (afs : DfX P w K mg base 4 "falling_places" (["fractions"] : List Str) (spP K cl 1 abb)) (akR : DfX P w K mg base 1 "place_of" (["rule", "many"] : List Str) (spP K cl 2 ab3)) : DfX P w K mg base 5 "worth_by" (["rule", "worths"] : List Str) (spP K cl 2 abT) := by
 have S : aaE (["rule", "worths"] : List Str) (["rule", "worths"] : List Str) (aak ae1) := ⟨rfl, rfl, rfl, by decide +kernel, rfl, by decide +kernel, by decide +kernel⟩
 exact a.dfP S (cl := cl) (by decide) (λ_ _ _ _ _ _ us hl => match us, hl with | [_, _], _ => by kernel_rfl) (λf cdv A outer s H E hr => ⟨_, (aah (ab8 (aa4 (adl hr.units) (abU aa8 (pvL 0) aan (λ_ _ => rfl)) abY (abo _)) (aaq (aaF (pcF (E := E) (agJ.mono (by decide)) hr aat (paK (abU aa8 (pvL 0) aan (λ_ _ => rfl)) (paK (pvL 1) aal))))) aaX) (aah (ab8 (aa4 (adl hr.units) (abU aa8 (pvL 0) aan (λ_ _ => rfl)) abY (abo _)) (aaq (aaF (pcF (E := E) (ago.mono (by decide)) hr aat (paK (pvL 1) aal)))) aaX) (aaq (aaF (abU aa8 (pvL 1) (abU aa8 (pcF (E := E) (afs.mono (by decide)) hr aat (paK (pvL 1) aal)) (aaz agR (pcF (E := E) (akR.mono (by decide)) hr aat (paK (pvL 0) (paK (pcB abL M.agF (paK (pvL 1) aal)) aal))) aan) (λ_ _ => rfl)) (λ_ _ => rfl)))))), λt hK hx => (aar (acf (aaY (x_eq hK (aep hK (aad 0) (aao _)) (acd _))) (aaG (aaV hK hx (aaj (aaj aaB)) (aac (aep hK (aad 0) (aao _)) (aac (aad 1) aam)))) abw) (aar (acf (aaY (x_eq hK (aep hK (aad 0) (aao _)) (acd _))) (aaG (aaV hK hx (aaj aaB) (aac (aad 1) aam))) abw) (aaG (aep hK (aad 1) (aep hK (aaV hK hx (aaj aaB) (aac (aad 1) aam)) (al8 hK (aaV hK hx (aaj (aaj aaB)) (aac (aad 0) (aac (x_len hK (aac (aad 1) aam)) aam))) (aao _)))))))⟩)
end
end K12
end
section
namespace L2
open PySem
@[simp] theorem Rs.aaR {α β : Type} (a : α) (f : α -> Rs β) : (Rs.ok a).bind f = f a := rfl
@[simp] theorem Rs.atX {α β : Type} (f : α -> Rs β) : (Rs.bad : Rs α).bind f = .bad := rfl
@[simp] theorem Rs.au1 {α β : Type} (c : Str) (f : α -> Rs β) : (Rs.ex c : Rs α).bind f = .ex c := rfl
inductive Tg {α β : Type} (f : α -> Rs β) : Type
 | mk
noncomputable def bd {α β : Type} (r : Rs α) (f : α -> Rs β) (_ : Tg f) : Rs β := r.bind f
@[simp] theorem aqk {α β : Type} (f : α -> Rs β) (a : α) (u : Tg f) : bd (.ok a) f u = f a := rfl
@[simp] theorem awi {α β : Type} (f : α -> Rs β) (u : Tg f) : bd .bad f u = .bad := rfl
@[simp] theorem aw5 {α β : Type} (f : α -> Rs β) (c : Str) (u : Tg f) : bd (.ex c) f u = .ex c := rfl
@[simp] theorem ajb (f g : SF) (ρ : En) : aaP f g ρ = ((bd (f ρ) (λp => match p.1 with
 | .nx => g p.2
 | fl => .ok (fl, p.2)) .mk)) := rfl
@[simp] theorem awj (c : BF) (f g : SF) (ρ : En) : sIf c f g ρ = ((bd (c ρ) (λp => if p.1 = true then f p.2 else g p.2) .mk)) := rfl
@[simp] theorem au2 (f : EF) (ρ : En) : abO f ρ = ((bd (f ρ) (λp => match p.1 with
 | .v T fr => .ok (.rt T fr, p.2)
 | .s i => match p.2[i]? with
  | some (.ow ts) => .ok (.rt (.lst ts) true, p.2)
  | _ => .bad) .mk)) := rfl
@[simp] theorem au3 (f : EF) (g : GF) (ρ : En) : abG f g ρ = ((bd (f ρ) (λp => match p.1 with
 | .v T _ => (bd (g T p.2) (λρ' => .ok (.nx, ρ')) .mk)
 | .s _ => .bad) .mk)) := rfl
@[simp] theorem au4 (i : Nat) (f : EF) (ρ : En) : akF i f ρ = ((bd (f ρ) (λp => match p.1 with
 | .v (.lst ts) true => .ok (.nx, p.2.set i (.ow ts))
 | _ => .bad) .mk)) := rfl
@[simp] theorem au5  (ρ : En) : adp  ρ = (.ok (.nx, ρ)) := rfl
@[simp] theorem au6 (f : SF) (ρ : En) : adV f ρ = (abX (f ρ)) := rfl
@[simp] theorem au7 (i j : Nat) (fa : AF) (ρ : En) : arZ i j fa ρ = ((bd (fa ρ) (λp => (bd (cls p.1) (λTs => match Ts with
 | [T, U] => .ok (.nx, (p.2.set i (.sh T)).set j (.sh U))
 | _ => .bad) .mk)) .mk)) := rfl
@[simp] theorem atY (i : Nat) (fk fe : EF) (ρ : En) : apM i fk fe ρ = ((bd (fe ρ) (λp => (bd (cls [p.1]) (λTs => (bd (con p.2 i) (λ_ => (bd (fk p.2) (λq => (bd (dr q.2 q.1) (λkT => (bd (iOf kT) (λk => (bd (con q.2 i) (λts => match Ts, ixN ts.length k with
 | [T], some j => .ok (.nx, abI i (ts.set j T) q.2)
 | _, _ => .bad) .mk)) .mk)) .mk)) .mk)) .mk)) .mk)) .mk)) := rfl
@[simp] theorem atZ (f : EF) (ρ : En) : ahl f ρ = ((bd (f ρ) (λp => .ok (.nx, p.2)) .mk)) := rfl
@[simp] theorem au8 (fi : IF) (g : GF) (b : SF) (ρ : En) : agx fi g b ρ = ((bd (fi ρ) (λp => acj g b p.1 p.2) .mk)) := rfl
@[simp] theorem au9 (i : Nat) (f : SF) (ρ : En) : awQ i f ρ = (f (frz i ρ)) := rfl
@[simp] theorem ava (i : Nat) (f : SF) (ρ : En) : aw1 i f ρ = (f (dow i ρ)) := rfl
@[simp] theorem avb (i : Nat) (p : Int -> Int -> Int) (f : EF) (ρ : En) : awS i p f ρ = (match ρ[i]? with
 | some (.sh (.int x)) => (bd (f ρ) (λq => (bd (dr q.2 q.1) (λyT => (bd (iOf yT) (λy => .ok (.nx, q.2.set i (.sh (.int (p x y))))) .mk)) .mk)) .mk)
 | _ => .bad) := rfl
@[simp] theorem avc (i : Nat) (fk : QF) (m : GM) (fa : QF) (ρ : En) : aw0 i fk m fa ρ = ((bd (adX ρ i) (λts => (bd (abX (fk ρ)) (λk => (bd (ixT ts k) (λz => match z.2 with
 | .lst us => (bd (abX (fa ρ)) (λT => (bd (m us [T]) (λy => .ok (.nx, ρ.set i (.dp (ts.set z.1 (.lst y.1))))) .mk)) .mk)
 | _ => .bad) .mk)) .mk)) .mk)) := rfl
@[simp] theorem at3 (i : Nat) (fk fj : QF) (fe : EF) (ρ : En) : auR i fk fj fe ρ = ((bd (fe ρ) (λp => (bd (clV p.1) (λT => (bd (adX p.2 i) (λts => (bd (abX (fk p.2)) (λk => (bd (ixT ts k) (λz => match z.2 with
 | .lst us => (bd (abX (fj p.2)) (λj => (bd (ixT us j) (λy => .ok (.nx, p.2.set i (.dp (ts.set z.1 (.lst (us.set y.1 T)))))) .mk)) .mk)
 | _ => .bad) .mk)) .mk)) .mk)) .mk)) .mk)) := rfl
@[simp] theorem asQ (i : Nat) (src : List (Option Nat)) (fi : IF) (g : GF) (c : BF) (f : EF) (ρ : En) : asn i src fi g c f ρ = ((bd (fi ρ) (λp => if p.1.length <= 100000 then (bd (abX (anF g c f p.1 (acL src p.2))) (λz => if acV src z.2 p.2 = true then .ok (.nx, (abQ src z.2 p.2).set i (.dp z.1)) else .bad) .mk) else .bad) .mk)) := rfl
@[simp] theorem avd (i : Nat) (ρ : En) : awY i ρ = (match ρ[i]? with
 | some (.sh T) => .ok T
 | _ => .bad) := rfl
@[simp] theorem aw6 (T : Tr) (ρ : En) : qC T ρ = .ok T := rfl
@[simp] theorem ave (i : Nat) (fk fj : QF) (ρ : En) : awZ i fk fj ρ = ((bd (adX ρ i) (λts => (bd (fk ρ) (λk => (bd (ixT ts k) (λz => match z.2 with
 | .lst us => (bd (fj ρ) (λj => (bd (ixT us j) (λy => .ok y.2) .mk)) .mk)
 | _ => .bad) .mk)) .mk)) .mk)) := rfl
@[simp] theorem avf (i : Nat) (ρ : En) : aai i ρ = (match ρ[i]? with
 | some (.sh T) => .ok (.v T false, ρ)
 | some (.ow _) => .ok (.s i, ρ)
 | some (.rf _) => .ok (.s i, ρ)
 | _ => .bad) := rfl
@[simp] theorem aw7 (T : Tr) (ρ : En) : eC T ρ = (.ok (.v T false, ρ)) := rfl
@[simp] theorem awk (Ts : List Tr) (ρ : En) : eCL Ts ρ = .ok (.v (.lst Ts) true, ρ) := rfl
@[simp] theorem awl (g : G2) (fa fb : EF) (ρ : En) : eOp g fa fb ρ = ((bd (fa ρ) (λp => (bd (fb p.2) (λq => (bd (dr q.2 p.1) (λa => (bd (dr q.2 q.1) (λb => (bd (g a b) (λz => .ok (.v z.1 z.2, q.2)) .mk)) .mk)) .mk)) .mk)) .mk)) := rfl
@[simp] theorem awm (g : G1) (fa : EF) (ρ : En) : eUn g fa ρ = ((bd (fa ρ) (λp => (bd (dr p.2 p.1) (λa => (bd (g a) (λz => .ok (.v z.1 z.2, p.2)) .mk)) .mk)) .mk)) := rfl
@[simp] theorem awn (g : GN) (fa : AF) (ρ : En) : eCB g fa ρ = ((bd (fa ρ) (λp => (bd (drs p.2 p.1) (λas => (bd (g as) (λz => .ok (.v z.1 z.2, p.2)) .mk)) .mk)) .mk)) := rfl
@[simp] theorem asR (F : FP) (fa : AF) (ρ : En) : aau F fa ρ = ((bd (fa ρ) (λp => (bd (drs p.2 p.1) (λas => (bd (F as) (λz => if p.1.any isS = true /\ acZ z = false then .bad else .ok (.v z.1 z.2, p.2)) .mk)) .mk)) .mk)) := rfl
@[simp] theorem asS (r : Nat) (F : FR) (fa : AF) (ρ : En) : abv r F fa ρ = ((bd (fa ρ) (λp => match p.1[r]? with
 | some (.s i) => if others r i p.1 = true then ((bd (con p.2 i) (λ_ => (bd (drs p.2 p.1) (λas => (bd (F as) (λz => if (p.1.eraseIdx r).any isS = true /\ acZ z.1 = false then .bad else .ok (.v z.1.1 z.1.2, abI i z.2 p.2)) .mk)) .mk)) .mk)) else .bad
 | _ => .bad) .mk)) := rfl
@[simp] theorem avh (g : AF) (ρ : En) : afn g ρ = ((bd (g ρ) (λp => (bd (cls p.1) (λts => if ts.length <= 1000 then .ok (.v (.lst ts) true, p.2) else .bad) .mk)) .mk)) := rfl
@[simp] theorem avi (g : AF) (ρ : En) : afZ g ρ = ((bd (g ρ) (λp => (bd (cls p.1) (λts => if ts.length <= 1000 then .ok (.v (.tup ts) false, p.2) else .bad) .mk)) .mk)) := rfl
@[simp] theorem avj (f g : EF) (ρ : En) : anm f g ρ = ((bd (abm f ρ) (λp => if p.1 = true then g p.2 else .ok (eB false, p.2)) .mk)) := rfl
@[simp] theorem awo (f g : EF) (ρ : En) : eOr f g ρ = ((bd (abm f ρ) (λp => if p.1 = true then .ok (eB true, p.2) else g p.2) .mk)) := rfl
@[simp] theorem avk (f : EF) (ρ : En) : auv f ρ = ((bd (abm f ρ) (λp => .ok (eB (!p.1), p.2)) .mk)) := rfl
@[simp] theorem awp (c : BF) (f g : EF) (ρ : En) : eIf c f g ρ = ((bd (c ρ) (λp => if p.1 = true then f p.2 else g p.2) .mk)) := rfl
@[simp] theorem avl (c : Ty) (fa : EF) (ρ : En) : al1 c fa ρ = ((bd (fa ρ) (λp => (bd (dr p.2 p.1) (λa => .ok (eB (adS a c), p.2)) .mk)) .mk)) := rfl
@[simp] theorem asT (g g' : G2) (fa fb fc : EF) (ρ : En) : agX g g' fa fb fc ρ = ((bd (fa ρ) (λp => (bd (fb p.2) (λq => (bd (dr q.2 p.1) (λa => (bd (dr q.2 q.1) (λb => (bd (g a b) (λz => (bd (bOf z.1) (λk => if k = true then (bd (fc q.2) (λs => (bd (dr s.2 q.1) (λb => (bd (dr s.2 s.1) (λc => (bd (g' b c) (λz => .ok (.v z.1 z.2, s.2)) .mk)) .mk)) .mk)) .mk) else .ok (eB false, q.2)) .mk)) .mk)) .mk)) .mk)) .mk)) .mk)) := rfl
@[simp] theorem awq (fa : EF) (fl fh : OF) (ρ : En) : eSl fa fl fh ρ = ((bd (fa ρ) (λp => (bd (fl p.2) (λl => (bd (fh l.2) (λh => (bd (dr h.2 p.1) (λa => (bd (gSl l.1 h.1 a) (λz => .ok (.v z.1 z.2, h.2)) .mk)) .mk)) .mk)) .mk)) .mk)) := rfl
@[simp] theorem ake (src : List (Option Nat)) (fi : IF) (g : GF) (c : BF) (f : EF) (ρ : En) : acn src fi g c f ρ = ((bd (fi ρ) (λp => if p.1.length <= 100000 then (bd (abX (adq g c f p.1 (acL src p.2))) (λz => if acV src z.2 p.2 = true then .ok (.v (.lst z.1) true, abQ src z.2 p.2) else .bad) .mk) else .bad) .mk)) := rfl
@[simp] theorem awr (i : Nat) (m : GM) (fa : AF) (ρ : En) : eMt i m fa ρ = ((bd (con ρ i) (λ_ => (bd (fa ρ) (λp => (bd (cls p.1) (λas => (bd (con p.2 i) (λts => (bd (m ts as) (λz => .ok (.v z.2 false, abI i z.1 p.2)) .mk)) .mk)) .mk)) .mk)) .mk)) := rfl
@[simp] theorem avm (i : Nat) (m : GM) (ρ : En) : awR i m ρ = ((bd (con ρ i) (λts => (bd (m ts []) (λz => .ok (.v z.2 false, abI i z.1 ρ)) .mk)) .mk)) := rfl
@[simp] theorem at4 (fa : EF) (ρ : En) : abm fa ρ = ((bd (fa ρ) (λp => (bd (dr p.2 p.1) (λa => (bd (bOf a) (λb => .ok (b, p.2)) .mk)) .mk)) .mk)) := rfl
@[simp] theorem avn (fa : EF) (ρ : En) : akC fa ρ = ((bd (fa ρ) (λp => (bd (dr p.2 p.1) (λa => (bd (tru a) (λb => .ok (b, p.2)) .mk)) .mk)) .mk)) := rfl
@[simp] theorem avo (f g : BF) (ρ : En) : awP f g ρ = ((bd (f ρ) (λp => if p.1 = true then g p.2 else .ok (false, p.2)) .mk)) := rfl
@[simp] theorem aws (f g : BF) (ρ : En) : bOr f g ρ = ((bd (f ρ) (λp => if p.1 = true then .ok (true, p.2) else g p.2) .mk)) := rfl
@[simp] theorem avp (f : BF) (ρ : En) : alp f ρ = ((bd (f ρ) (λp => .ok (!p.1, p.2)) .mk)) := rfl
@[simp] theorem aql  (ρ : En) : aeT  ρ = (.ok (true, ρ)) := rfl
@[simp] theorem avq  (ρ : En) : aax  ρ = (.ok ([], ρ)) := rfl
@[simp] theorem at5 (f : EF) (g : AF) (ρ : En) : aaf f g ρ = ((bd (f ρ) (λp => (bd (g p.2) (λq => .ok (p.1 :: q.1, q.2)) .mk)) .mk)) := rfl
@[simp] theorem awt (f : EF) (ρ : En) : fSq f ρ = ((bd (f ρ) (λp => (bd (adU p.1) (λz => .ok (z.1, p.2)) .mk)) .mk)) := rfl
@[simp] theorem avr (fa : AF) (ρ : En) : akG fa ρ = ((bd (fa ρ) (λp => (bd (drs p.2 p.1) (λas => match as with
 | [.int j] => if okR j = true then .ok (upTo 0 j.toNat, p.2) else .bad
 | _ => .bad) .mk)) .mk)) := rfl
@[simp] theorem at6 (fa : AF) (ρ : En) : auw fa ρ = ((bd (fa ρ) (λp => (bd (drs p.2 p.1) (λas => match as with
 | [.int i, .int j] => if okR i = true /\ okR j = true then .ok (upTo i (j - i).toNat, p.2) else .bad
 | _ => .bad) .mk)) .mk)) := rfl
@[simp] theorem avs (fa : AF) (ρ : En) : aqN fa ρ = ((bd (fa ρ) (λp => match p.1 with
 | [.v (.lst us) _, .v (.lst vs) _] => .ok (aoO us vs, p.2)
 | _ => .bad) .mk)) := rfl
@[simp] theorem awu  (ρ : En) : oNo  ρ = (.ok (none, ρ)) := rfl
@[simp] theorem at7 (fa : EF) (ρ : En) : akD fa ρ = ((bd (fa ρ) (λp => (bd (dr p.2 p.1) (λa => (bd (iOf a) (λb => .ok (some b, p.2)) .mk)) .mk)) .mk)) := rfl
@[simp] theorem aw8 (i : Nat) (T : Tr) (ρ : En) : gN i T ρ = (.ok (ρ.set i (.sh T))) := rfl
@[simp] theorem aw9 (n : Nat) (f : GFs) (T : Tr) (ρ : En) : gT n f T ρ = (match T with
 | .tup Ts => if Ts.length = n then f Ts ρ else .bad
 | _ => .bad) := rfl
@[simp] theorem at8  (Ts : List Tr) (ρ : En) : ab1  Ts ρ = (match Ts with
 | [] => .ok ρ
 | _ => .bad) := rfl
@[simp] theorem asU (f : GF) (g : GFs) (Ts : List Tr) (ρ : En) : aaA f g Ts ρ = (match Ts with
 | T :: r => (bd (f T ρ) (λρ' => g r ρ') .mk)
 | [] => .bad) := rfl
@[simp] theorem awv (a : Tr) : aaH 1 [a] = [.sh a] := rfl
end L2
end
section
namespace BH
open PySem L2
theorem aaJ (i : Int) : dep (.int i) = 0 := rfl
theorem abE (i : Bool) : dep (.bl i) = 0 := rfl
theorem aaN (i : Str) : dep (.str i) = 0 := rfl
theorem aaZ : dep .non = 0 := rfl
theorem aa0 (ts : List Tr) : dep (.tup ts) = deps ts + 1 := by simp only [dep]
theorem aaU (ts : List Tr) : dep (.lst ts) = deps ts + 1 := by simp only [dep]
theorem aaD : deps [] = 0 := rfl
theorem aay (t : Tr) (ts : List Tr) : deps (t :: ts) = max (dep t) (deps ts) := by simp only [deps]
theorem aa6 (i j : Int) : eqT (.int i) (.int j) = (i == j) := by simp only [eqT]
theorem abF (i j : Bool) : eqT (.bl i) (.bl j) = (i == j) := by simp only [eqT]
theorem abx (i j : Str) : eqT (.str i) (.str j) = (i == j) := by simp only [eqT]
noncomputable def isW : Tr -> Bool
 | .int _ => true
 | _ => false
theorem agp (T : Tr) : ab2 [T] = .ok (.bl (isW T), false) := by cases T <;> rfl
noncomputable def wc : BF := abm (eOp gNe (aai 1) (eC (.int 0)))
noncomputable def wb : SF := arZ 0 1 (aaf (aai 1) (aaf (eOp ace (aai 0) (aai 1)) aax))
theorem avt (a b : Int) : wc [.sh (.int a), .sh (.int b)] = .ok (!(b == 0), [.sh (.int a), .sh (.int b)]) := rfl
theorem avu (a b : Int) (h : b ≠ 0) : wb [.sh (.int a), .sh (.int b)] = .ok (.nx, [.sh (.int b), .sh (.int (a.fmod b))]) := by
 unfold wb; simp -dsimp [abX, frz, dow, abI, con, adX, eB, bOf, tru, dr, drs, cls, clV, aeF, g1, g2, gI, gIC, gB, gEq, gNe, gIn, aa9, abz, ac2, ace, acw, ac3, gLt, gGt, gLe, gGe, gIx, abZ, ad8, aci, aa5, ad9, aea, ac5, adU, okR, iOf, isS, others, acL, abQ, acV, adK, aeb, aaJ, abE, aaN, aaZ, aa0, aaU, aaD, aay, aa6, abF, abx, adS, atI, ixN, aaH, h]
theorem akf : ∀ (n : Nat) (a b : Int), b.natAbs < n -> ∃ g : Int, af3 wc wb n [.sh (.int a), .sh (.int b)] = .ok (.nx, [.sh (.int g), .sh (.int 0)]) /\ (if g < 0 then -g else g) = ((Int.gcd a b : Nat) : Int)
 | 0, a, b, h => by omega
 | n + 1, a, b, h => by
  unfold af3
  rw [avt]
  by_cases z : b = 0
  ·subst z
   exact ⟨a, rfl, apw a⟩
  ·obtain ⟨g, h1, h2⟩ := akf n b (a.fmod b) (by have := akA a b z; omega)
   refine ⟨g, ?_, by rw [h2, anh]⟩
   have e : (!(b == 0)) = true := by simp [z]
   simp only [Rs.bind, e, if_true]
   rw [avu a b z]
   exact h1
noncomputable def aww : SF := (aaP (adV (agZ (fuI 1) wc wb)) (abO (eCB (g1 ad8) (aaf (aai 0) aax))))
theorem amu (a b : Int) : fnP 2 aww [.int a, .int b] = .ok (.int (Int.gcd a b : Nat), false) := by
 obtain ⟨g, h1, h2⟩ := akf (b.natAbs + 1) a b (by omega)
 have h0 : aaH 2 [.int a, .int b] = [.sh (.int a), .sh (.int b)] := rfl
 have h3 : adV (agZ (fuI 1) wc wb) [.sh (.int a), .sh (.int b)] = .ok (.nx, [.sh (.int g), .sh (.int 0)]) := by
  unfold adV agZ
  rw [show fuI 1 [.sh (.int a), .sh (.int b)] = b.natAbs + 1 from rfl, h1]
  rfl
 rw [<-h2]
 unfold fnP aww aaP
 rw [h0, h3]
 rfl
theorem ab4 (a b : Int) : aaK [.int a, .int b] = .ok (.int (Int.gcd a b : Nat), false) := amu a b
noncomputable def an6 : Tr -> Tr -> Bool
 | .int p, .int q => decide (1 <= q) && (Int.gcd p q == 1)
 | _, _ => false
noncomputable def alq : Tr -> Bool
 | .tup [a, b] => an6 a b
 | _ => false
theorem aqm (n : Nat) : ((n : Int) == 1) = (n == 1) := by
 rw [Bool.eq_iff_iff]; simp; omega
theorem abn (T : Tr) : abh [T] = .ok (.bl (alq T), false) := by
 unfold abh aes fnP
 cases T with
 | tup ts =>
  match ts with
  | [] => rfl
  | [_] => rfl
  | [a, b] =>
   cases a <;> cases b <;> try rfl
   rename_i p q
   simp -dsimp [abX, frz, dow, abI, con, adX, eB, bOf, tru, dr, drs, cls, clV, aeF, g1, g2, gI, gIC, gB, gEq, gNe, gIn, aa9, abz, ac2, ace, acw, ac3, gLt, gGt, gLe, gGe, gIx, abZ, ad8, aci, aa5, ad9, aea, ac5, adU, okR, iOf, isS, others, acL, abQ, acV, adK, aeb, aaJ, abE, aaN, aaZ, aa0, aaU, aaD, aay, aa6, abF, abx, adS, atI, ixN, aaH, agp, isW, ab4, alq, an6, aqm]
   by_cases h : 1 <= q <;> simp [h]
  | a :: b :: c :: r =>
   have : ((r.length : Int) + 1 + 1 + 1 == 2) = false := by simp; omega
   simp -dsimp [abX, frz, dow, abI, con, adX, eB, bOf, tru, dr, drs, cls, clV, aeF, g1, g2, gI, gIC, gB, gEq, gNe, gIn, aa9, abz, ac2, ace, acw, ac3, gLt, gGt, gLe, gGe, gIx, abZ, ad8, aci, aa5, ad9, aea, ac5, adU, okR, iOf, isS, others, acL, abQ, acV, adK, aeb, aaJ, abE, aaN, aaZ, aa0, aaU, aaD, aay, aa6, abF, abx, adS, atI, ixN, aaH, alq, this]
 | _ => rfl
noncomputable def aqn : Tr -> Tr -> Bool
 | .int p, .int q => decide (0 <= p) && decide (p <= q) && decide (1 <= q) && (Int.gcd p q == 1)
 | _, _ => false
noncomputable def agK : Tr -> Bool
 | .tup [a, b] => aqn a b
 | _ => false
theorem ajc (T : Tr) : abS [T] = .ok (.bl (agK T), false) := by
 unfold abS ag4 fnP
 cases T with
 | tup ts =>
  match ts with
  | [] => simp -dsimp [abX, frz, dow, abI, con, adX, eB, bOf, tru, dr, drs, cls, clV, aeF, g1, g2, gI, gIC, gB, gEq, gNe, gIn, aa9, abz, ac2, ace, acw, ac3, gLt, gGt, gLe, gGe, gIx, abZ, ad8, aci, aa5, ad9, aea, ac5, adU, okR, iOf, isS, others, acL, abQ, acV, adK, aeb, aaJ, abE, aaN, aaZ, aa0, aaU, aaD, aay, aa6, abF, abx, adS, atI, ixN, aaH, abn, alq, agK]
  | [_] => simp -dsimp [abX, frz, dow, abI, con, adX, eB, bOf, tru, dr, drs, cls, clV, aeF, g1, g2, gI, gIC, gB, gEq, gNe, gIn, aa9, abz, ac2, ace, acw, ac3, gLt, gGt, gLe, gGe, gIx, abZ, ad8, aci, aa5, ad9, aea, ac5, adU, okR, iOf, isS, others, acL, abQ, acV, adK, aeb, aaJ, abE, aaN, aaZ, aa0, aaU, aaD, aay, aa6, abF, abx, adS, atI, ixN, aaH, abn, alq, agK]
  | [a, b] =>
   by_cases w : isW a = true /\ isW b = true
   case neg =>
    have w1 : an6 a b = false := by cases a <;> cases b <;> first | rfl | exact absurd ⟨rfl, rfl⟩ w
    have w2 : aqn a b = false := by cases a <;> cases b <;> first | rfl | exact absurd ⟨rfl, rfl⟩ w
    simp -dsimp [abX, frz, dow, abI, con, adX, eB, bOf, tru, dr, drs, cls, clV, aeF, g1, g2, gI, gIC, gB, gEq, gNe, gIn, aa9, abz, ac2, ace, acw, ac3, gLt, gGt, gLe, gGe, gIx, abZ, ad8, aci, aa5, ad9, aea, ac5, adU, okR, iOf, isS, others, acL, abQ, acV, adK, aeb, aaJ, abE, aaN, aaZ, aa0, aaU, aaD, aay, aa6, abF, abx, adS, atI, ixN, aaH, abn, alq, agK, w1, w2]
   cases a <;> try cases w.1
   cases b <;> try cases w.2
   rename_i p q
   simp -dsimp [abX, frz, dow, abI, con, adX, eB, bOf, tru, dr, drs, cls, clV, aeF, g1, g2, gI, gIC, gB, gEq, gNe, gIn, aa9, abz, ac2, ace, acw, ac3, gLt, gGt, gLe, gGe, gIx, abZ, ad8, aci, aa5, ad9, aea, ac5, adU, okR, iOf, isS, others, acL, abQ, acV, adK, aeb, aaJ, abE, aaN, aaZ, aa0, aaU, aaD, aay, aa6, abF, abx, adS, atI, ixN, aaH, abn, alq, agK, an6, aqn]
   by_cases h : 1 <= q <;> by_cases h2 : p.gcd q = 1 <;> by_cases h3 : 0 <= p <;> simp [h, h2, h3]
  | a :: b :: c :: r => simp -dsimp [abX, frz, dow, abI, con, adX, eB, bOf, tru, dr, drs, cls, clV, aeF, g1, g2, gI, gIC, gB, gEq, gNe, gIn, aa9, abz, ac2, ace, acw, ac3, gLt, gGt, gLe, gGe, gIx, abZ, ad8, aci, aa5, ad9, aea, ac5, adU, okR, iOf, isS, others, acL, abQ, acV, adK, aeb, aaJ, abE, aaN, aaZ, aa0, aaU, aaD, aay, aa6, abF, abx, adS, atI, ixN, aaH, abn, alq, agK]
 | _ => simp -dsimp [abX, frz, dow, abI, con, adX, eB, bOf, tru, dr, drs, cls, clV, aeF, g1, g2, gI, gIC, gB, gEq, gNe, gIn, aa9, abz, ac2, ace, acw, ac3, gLt, gGt, gLe, gGe, gIx, abZ, ad8, aci, aa5, ad9, aea, ac5, adU, okR, iOf, isS, others, acL, abQ, acV, adK, aeb, aaJ, abE, aaN, aaZ, aa0, aaU, aaD, aay, aa6, abF, abx, adS, atI, ixN, aaH, abn, alq, agK]
end BH
end
section
namespace BH
open PySem L2
theorem comp_map {f : EF} {h : Tr -> Tr} {τ : En} : ∀ (us : List Tr) (s : Sl), (∀ u ∈ us, ∃ fr, f (.sh u :: τ) = .ok (.v (h u) fr, .sh u :: τ)) -> ∃ s', adq (gN 0) aeT f us (s :: τ) = .ok (us.map h, s' :: τ)
 | [], s, _ => ⟨s, rfl⟩
 | u :: us, s, q => by
  obtain ⟨fr, e⟩ := q u (by simp)
  obtain ⟨s', e'⟩ := comp_map us (.sh u) λv hv => q v (by simp [hv])
  refine ⟨s', ?_⟩
  unfold adq
  simp [e, clV, e']
theorem amv {p : Tr -> Bool} : ∀ us : List Tr, ahk (us.map λu => .bl (p u)) = some (us.map p)
 | [] => rfl
 | u :: us => by simp [ahk, amv us]
theorem an7 {F : FP} {p : Tr -> Bool} {us : List Tr} {ρ : En} {i : IF} {fe : EF} (hl : us.length <= 100000) (hi : i ρ = .ok (us, ρ)) (hf : ∀ u ∈ us, ∃ fr, fe [.sh u] = .ok (.v (.bl (p u)) fr, [.sh u])) : eCB (g1 ac5) (aaf (acn [none] i (gN 0) aeT fe) aax) ρ = .ok (.v (.bl (us.all p)) false, ρ) := by
 obtain ⟨s', e⟩ := comp_map (h := λu => .bl (p u)) us .un hf
 simp -dsimp [abX, frz, dow, abI, con, adX, eB, bOf, tru, dr, drs, cls, clV, aeF, g1, g2, gI, gIC, gB, gEq, gNe, gIn, aa9, abz, ac2, ace, acw, ac3, gLt, gGt, gLe, gGe, gIx, abZ, ad8, aci, aa5, ad9, aea, ac5, adU, okR, iOf, isS, others, acL, abQ, acV, adK, aeb, aaJ, abE, aaN, aaZ, aa0, aaU, aaD, aay, aa6, abF, abx, adS, atI, ixN, aaH, hi, hl, e, amv]
noncomputable def adt (m : Int) : Tr -> Bool
 | .lst ts => decide (1 <= (ts.length : Int)) && decide ((ts.length : Int) <= m) && ts.all agK
 | _ => false
theorem adf (T : Tr) (m : Int) (hm : m <= 1000) : acg [T, .int m] = .ok (.bl (adt m T), false) := by
 unfold acg afk fnP
 cases T with
 | lst ts =>
  by_cases h1 : 1 <= (ts.length : Int)
  ·by_cases h2 : (ts.length : Int) <= m
   ·have e := an7 (F := abS) (p := agK) (us := ts) (ρ := [.sh (.lst ts), .sh (.int m)]) (i := fSq (aai 0)) (fe := aau abS (aaf (aai 0) aax)) (by omega) rfl (λu _ => ⟨false, by simp -dsimp [abX, frz, dow, abI, con, adX, eB, bOf, tru, dr, drs, cls, clV, aeF, g1, g2, gI, gIC, gB, gEq, gNe, gIn, aa9, abz, ac2, ace, acw, ac3, gLt, gGt, gLe, gGe, gIx, abZ, ad8, aci, aa5, ad9, aea, ac5, adU, okR, iOf, isS, others, acL, abQ, acV, adK, aeb, aaJ, abE, aaN, aaZ, aa0, aaU, aaD, aay, aa6, abF, abx, adS, atI, ixN, aaH, ajc]⟩)
    generalize eCB (g1 ac5) (aaf (acn [none] (fSq (aai 0)) (gN 0) aeT (aau abS (aaf (aai 0) aax))) aax) = G at e ⊢
    simp -dsimp [abX, frz, dow, abI, con, adX, eB, bOf, tru, dr, drs, cls, clV, aeF, g1, g2, gI, gIC, gB, gEq, gNe, gIn, aa9, abz, ac2, ace, acw, ac3, gLt, gGt, gLe, gGe, gIx, abZ, ad8, aci, aa5, ad9, aea, ac5, adU, okR, iOf, isS, others, acL, abQ, acV, adK, aeb, aaJ, abE, aaN, aaZ, aa0, aaU, aaD, aay, aa6, abF, abx, adS, atI, ixN, aaH, h1, h2, e, adt]
   ·simp -dsimp [abX, frz, dow, abI, con, adX, eB, bOf, tru, dr, drs, cls, clV, aeF, g1, g2, gI, gIC, gB, gEq, gNe, gIn, aa9, abz, ac2, ace, acw, ac3, gLt, gGt, gLe, gGe, gIx, abZ, ad8, aci, aa5, ad9, aea, ac5, adU, okR, iOf, isS, others, acL, abQ, acV, adK, aeb, aaJ, abE, aaN, aaZ, aa0, aaU, aaD, aay, aa6, abF, abx, adS, atI, ixN, aaH, h1, h2, adt]
  ·simp -dsimp [abX, frz, dow, abI, con, adX, eB, bOf, tru, dr, drs, cls, clV, aeF, g1, g2, gI, gIC, gB, gEq, gNe, gIn, aa9, abz, ac2, ace, acw, ac3, gLt, gGt, gLe, gGe, gIx, abZ, ad8, aci, aa5, ad9, aea, ac5, adU, okR, iOf, isS, others, acL, abQ, acV, adK, aeb, aaJ, abE, aaN, aaZ, aa0, aaU, aaD, aay, aa6, abF, abx, adS, atI, ixN, aaH, h1, adt]
 | _ => simp -dsimp [abX, frz, dow, abI, con, adX, eB, bOf, tru, dr, drs, cls, clV, aeF, g1, g2, gI, gIC, gB, gEq, gNe, gIn, aa9, abz, ac2, ace, acw, ac3, gLt, gGt, gLe, gGe, gIx, abZ, ad8, aci, aa5, ad9, aea, ac5, adU, okR, iOf, isS, others, acL, abQ, acV, adK, aeb, aaJ, abE, aaN, aaZ, aa0, aaU, aaD, aay, aa6, abF, abx, adS, atI, ixN, aaH, adt]
end BH
end
section
namespace L2
open PySem
@[simp] theorem awx (fa : AF) (ρ : En) : eLR fa ρ = bd (fa ρ) (λp => match p.1 with
 | [.v (.int n) _] => if 0 <= n /\ n <= 1000 then .ok (.v (.lst ((List.range n.toNat).map λi : Nat => Tr.int i)) true, p.2) else .bad
 | _ => .bad) .mk := rfl
@[simp] theorem aqO (F : FR) (fa : EF) (ρ : En) : aqa F fa ρ = bd (fa ρ) (λp => match p.1 with
 | .v (.lst us) true => bd (F [.lst us]) (λz => .ok (.v z.1.1 z.1.2, p.2)) .mk
 | _ => .bad) .mk := rfl
@[simp] theorem asV (kt : Tr -> Option (Int × Int)) (src : List (Option Nat)) (fa : AF) (fb : RF) (ρ : En) : aj8 kt src fa fb ρ = bd (fa ρ) (λp => match p.1 with
 | [.v (.int n) _] => if 0 <= n /\ n < 64 then bd (abX (ai2 kt fb (amk src p.2) (List.range n.toNat))) (λks => .ok (.v (.lst ((amh n.toNat λi => ks.getD i (0, 0)).map λi : Nat => Tr.int i)) true, p.2)) .mk else .bad
 | _ => .bad) .mk := rfl
end L2
namespace BH
open PySem L2
noncomputable def fT (x : Int × Int) : Tr := .tup [.int x.1, .int x.2]
theorem lg2 {k : Int} {M : Nat} (h : k.natAbs < 2 ^ M) (hM : M <= 8000) : k.natAbs.log2 < 9000 := by
 by_cases z : k.natAbs = 0
 ·rw [z]; decide
 ·have := (Nat.log2_lt (n := k.natAbs) (k := M) z).mpr h
  omega
theorem aoZ {k : Int} {M : Nat} (h : k.natAbs < 2 ^ M) (hM : M <= 8000) : fit k = true := by
 have := lg2 h hM
 unfold fit
 rw [decide_eq_true_eq]
 omega
theorem aee {i j : Int} {M N : Nat} (h1 : i.natAbs < 2 ^ M) (hM : M <= 8000) (h2 : j.natAbs < 2 ^ N) (hN : N <= 8000) : afa i j = true := by
 unfold afa
 rw [aoZ h1 hM, aoZ h2 hN]
 rfl
theorem ae5 {i j : Int} {M : Nat} (h0 : j ≠ 0) (h : j.natAbs < 2 ^ M) (hM : M <= 8000) : alW i j = true := by
 unfold alW
 rw [Bool.and_eq_true, decide_eq_true_eq, decide_eq_true_eq]
 exact ⟨h0, lg2 h hM⟩
theorem an8 {B q : Int} (hB : 1 <= B) (hq : 1 <= q) : let B' := (B * q).fdiv ((Int.gcd B q : Nat) : Int); 1 <= B' /\ B ∣ B' /\ q ∣ B' /\ B' <= B * q := by
 have g0 : 0 < Int.gcd B q := Int.gcd_pos_of_ne_zero_left _ (by omega)
 obtain ⟨b, hb⟩ := Int.gcd_dvd_left (a := B) (b := q)
 obtain ⟨o, ho⟩ := Int.gcd_dvd_right (a := B) (b := q)
 generalize hg : ((Int.gcd B q : Nat) : Int) = g at hb ho
 have g1 : 0 < g := by omega
 have b1 : 0 < b := by
  rcases Int.lt_or_le 0 b with z | z
  ·exact z
  ·have := Int.mul_nonpos_of_nonneg_of_nonpos (a := g) (b := b) (by omega) z; omega
 have o1 : 0 < o := by
  rcases Int.lt_or_le 0 o with z | z
  ·exact z
  ·have := Int.mul_nonpos_of_nonneg_of_nonpos (a := g) (b := o) (by omega) z; omega
 have e : (B * q).fdiv g = B * o := by
  rw [Int.fdiv_eq_ediv_of_nonneg _ (by omega)]
  have : B * q = g * (B * o) := by rw [ho]; ac_rfl
  rw [this]
  exact Int.mul_ediv_cancel_left _ (by omega)
 dsimp only
 rw [e]
 refine ⟨?_, ⟨o, rfl⟩, ⟨b, ?_⟩, ?_⟩
 ·have := Int.mul_pos (a := B) (b := o) (by omega) o1; omega
 ·conv => lhs; rw [hb]
  conv => rhs; rw [ho]
  ac_rfl
 ·refine Int.mul_le_mul_of_nonneg_left ?_ (by omega)
  rw [ho]
  have := Int.mul_le_mul_of_nonneg_right (a := 1) (b := g) (c := o) (by omega) (by omega)
  omega
noncomputable def cbB : SF := (abG (eOp ac2 (eOp abz (aai 1) (aai 3)) (aau aaK (aaf (aai 1) (aaf (aai 3) aax)))) (gN 1))
theorem asW (s0 : Sl) (B p q : Int) {M N : Nat} (hB : 1 <= B) (hq : 1 <= q) (hB2 : B < 2 ^ M) (hM : M <= 8000) (hq2 : q < 2 ^ N) (hN : N <= 8000) : cbB [s0, .sh (.int B), .sh (.int p), .sh (.int q)] = .ok (.nx, [s0, .sh (.int ((B * q).fdiv ((Int.gcd B q : Nat) : Int))), .sh (.int p), .sh (.int q)]) := by
 have g0 : 0 < Int.gcd B q := Int.gcd_pos_of_ne_zero_left _ (by omega)
 have gl : Int.gcd B q <= q.natAbs := Nat.le_of_dvd (by omega) (Int.gcd_dvd_natAbs_right ..)
 have eM : ((2 ^ M : Nat) : Int) = 2 ^ M := by push_cast; rfl
 have eN : ((2 ^ N : Nat) : Int) = 2 ^ N := by push_cast; rfl
 have c1 : afa B q = true := aee (M := M) (N := N) (by omega) hM (by omega) hN
 have c2 : ∀ i, alW i ((Int.gcd B q : Nat) : Int) = true := λi => ae5 (M := N) (by omega) (by omega) hN
 unfold cbB
 simp -dsimp [abX, frz, dow, abI, con, adX, eB, bOf, tru, dr, drs, cls, clV, aeF, g1, g2, gI, gIC, gB, gEq, gNe, gIn, aa9, abz, ac2, ace, acw, ac3, gLt, gGt, gLe, gGe, gIx, abZ, ad8, aci, aa5, ad9, aea, ac5, adU, okR, iOf, isS, others, acL, abQ, acV, adK, aeb, aaJ, abE, aaN, aaZ, aa0, aaU, aaD, aay, aa6, abF, abx, adS, atI, ixN, aaH, ab4, c1, c2]
noncomputable def Fr (N : Nat) (l : List (Int × Int)) : Prop := ∀ x ∈ l, 1 <= x.2 /\ x.2 < 2 ^ N
theorem amw {N : Nat} (s0 : Sl) : ∀ (l : List (Int × Int)) (B : Int) (M : Nat) (s2 s3 : Sl), Fr N l -> 1 <= B -> B < 2 ^ M -> M + N * l.length <= 8000 -> N <= 8000 -> ∃ B' t2 t3, acj (gT 2 (aaA (gN 2) (aaA (gN 3) ab1))) cbB (l.map fT) [s0, .sh (.int B), s2, s3] = .ok (.nx, [s0, .sh (.int B'), t2, t3]) /\ 1 <= B' /\ B' < 2 ^ (M + N * l.length) /\ B ∣ B' /\ ∀ x ∈ l, x.2 ∣ B'
 | [], B, M, s2, s3, _, h1, h2, _, _ => ⟨B, s2, s3, rfl, h1, by simpa using h2, Int.dvd_refl _, by simp⟩
 | x :: l, B, M, s2, s3, h, h1, h2, h3, h4 => by
  obtain ⟨a1, a2⟩ := h x (by simp)
  obtain ⟨b1, b2, b3, b4⟩ := an8 h1 a1
  have e := asW s0 B x.1 x.2 h1 a1 h2 (by omega) a2 h4
  generalize (B * x.2).fdiv ((Int.gcd B x.2 : Nat) : Int) = B1 at b1 b2 b3 b4 e
  have lt : B1 < 2 ^ (M + N) := by
   have p1 : (0 : Int) < 2 ^ N := Int.pow_pos (by omega)
   have q1 : B * x.2 <= B * 2 ^ N := Int.mul_le_mul_of_nonneg_left (by omega) (by omega)
   have q2 : B * 2 ^ N < 2 ^ M * 2 ^ N := Int.mul_lt_mul_of_pos_right h2 p1
   rw [Int.pow_add]
   omega
  rw [List.length_cons] at h3
  have hm : M + N + N * l.length = M + N * (l.length + 1) := by rw [Nat.mul_succ]; omega
  obtain ⟨B', t2, t3, e', c1, c2, c3, c4⟩ := amw s0 l B1 (M + N) (.sh (.int x.1)) (.sh (.int x.2)) (λy hy => h y (by simp [hy])) b1 lt (by omega) h4
  refine ⟨B', t2, t3, ?_, c1, by rw [List.length_cons, <-hm]; exact c2, Int.dvd_trans b2 c3, λy hy => ?_⟩
  ·show acj _ cbB (fT x :: l.map fT) _ = _
   unfold acj
   rw [show (gT 2 (aaA (gN 2) (aaA (gN 3) ab1))) (fT x) [s0, .sh (.int B), s2, s3] = .ok [s0, .sh (.int B), .sh (.int x.1), .sh (.int x.2)] from rfl]
   simp only [Rs.aaR]
   rw [e]
   exact e'
  ·rcases List.mem_cons.mp hy with rfl | hy
   ·exact Int.dvd_trans b3 c3
   ·exact c4 y hy
theorem aft {N : Nat} (l : List (Int × Int)) (h : Fr N l) (hl : 1 + N * l.length <= 8000) (hN : N <= 8000) : ∃ B, abJ [.lst (l.map fT)] = .ok (.int B, false) /\ 1 <= B /\ B < 2 ^ (1 + N * l.length) /\ ∀ x ∈ l, x.2 ∣ B := by
 obtain ⟨B, t2, t3, e, h1, h2, _, h3⟩ := amw (.sh (.lst (l.map fT))) l 1 1 .un .un h (by omega) (by omega) hl hN
 refine ⟨B, ?_, h1, h2, h3⟩
 show fnP 4 (aaP (abG (eC (.int 1)) (gN 1)) (aaP (adV (agx (fSq (aai 0)) (gT 2 (aaA (gN 2) (aaA (gN 3) ab1))) cbB)) (abO (aai 1)))) [.lst (l.map fT)] = _
 have e1 : adV (agx (fSq (aai 0)) (gT 2 (aaA (gN 2) (aaA (gN 3) ab1))) cbB) [.sh (.lst (l.map fT)), .sh (.int 1), .un, .un] = .ok (.nx, [.sh (.lst (l.map fT)), .sh (.int B), t2, t3]) := by
  unfold adV agx
  show abX (acj _ cbB (l.map fT) _) = _
  rw [e]
  rfl
 generalize adV _ = G at e1 ⊢
 generalize Tr.lst (l.map fT) = T at e1 ⊢
 unfold fnP
 simp -dsimp [abX, frz, dow, abI, con, adX, eB, bOf, tru, dr, drs, cls, clV, aeF, g1, g2, gI, gIC, gB, gEq, gNe, gIn, aa9, abz, ac2, ace, acw, ac3, gLt, gGt, gLe, gGe, gIx, abZ, ad8, aci, aa5, ad9, aea, ac5, adU, okR, iOf, isS, others, acL, abQ, acV, adK, aeb, aaJ, abE, aaN, aaZ, aa0, aaU, aaD, aay, aa6, abF, abx, adS, atI, ixN, aaH, e1]
noncomputable def tpE : EF := (eOp abz (aai 0) (eOp ac2 (aai 2) (aai 1)))
theorem aiv {B : Int} {M N : Nat} (hB : 1 <= B) (hB2 : B < 2 ^ M) (hM : M <= 8000) (hN : N <= 8000) : ∀ (l : List (Int × Int)) (s0 s1 : Sl), Fr N l -> (∀ x ∈ l, x.1.natAbs < 2 ^ N) -> ∃ t0 t1, adq (gT 2 (aaA (gN 0) (aaA (gN 1) ab1))) aeT tpE (l.map fT) [s0, s1, .sh (.int B)] = .ok (l.map λx => .int (x.1 * (B / x.2)), [t0, t1, .sh (.int B)])
 | [], s0, s1, _, _ => ⟨s0, s1, rfl⟩
 | x :: l, s0, s1, h, h' => by
  obtain ⟨a1, a2⟩ := h x (by simp)
  have a3 := h' x (by simp)
  obtain ⟨t0, t1, e⟩ := aiv hB hB2 hM hN l (.sh (.int x.1)) (.sh (.int x.2)) (λy hy => h y (by simp [hy])) (λy hy => h' y (by simp [hy]))
  refine ⟨t0, t1, ?_⟩
  have eM : ((2 ^ M : Nat) : Int) = 2 ^ M := by push_cast; rfl
  have eN : ((2 ^ N : Nat) : Int) = 2 ^ N := by push_cast; rfl
  have d0 := Int.ediv_nonneg (a := B) (b := x.2) (by omega) (by omega)
  have d1 := Int.ediv_le_self (a := B) x.2 (by omega)
  have c1 : alW B x.2 = true := ae5 (M := N) (by omega) (by omega) hN
  have c2 : afa x.1 (B / x.2) = true := aee (M := N) (N := M) a3 hN (by omega) hM
  have e1 : tpE [.sh (.int x.1), .sh (.int x.2), .sh (.int B)] = .ok (.v (.int (x.1 * (B / x.2))) false, [.sh (.int x.1), .sh (.int x.2), .sh (.int B)]) := by
   unfold tpE
   have fe : B.fdiv x.2 = B / x.2 := Int.fdiv_eq_ediv_of_nonneg _ (by omega)
   simp -dsimp [abX, frz, dow, abI, con, adX, eB, bOf, tru, dr, drs, cls, clV, aeF, g1, g2, gI, gIC, gB, gEq, gNe, gIn, aa9, abz, ac2, ace, acw, ac3, gLt, gGt, gLe, gGe, gIx, abZ, ad8, aci, aa5, ad9, aea, ac5, adU, okR, iOf, isS, others, acL, abQ, acV, adK, aeb, aaJ, abE, aaN, aaZ, aa0, aaU, aaD, aay, aa6, abF, abx, adS, atI, ixN, aaH, c1, fe, c2]
  show adq _ aeT tpE (fT x :: l.map fT) _ = _
  unfold adq
  rw [show (gT 2 (aaA (gN 0) (aaA (gN 1) ab1))) (fT x) [s0, s1, .sh (.int B)] = .ok [.sh (.int x.1), .sh (.int x.2), .sh (.int B)] from rfl]
  simp only [Rs.aaR, aql, if_true]
  rw [e1]
  simp only [Rs.aaR, clV]
  rw [e]
  rfl
noncomputable def Frs (N : Nat) (l : List (Int × Int)) : Prop := ∀ x ∈ l, 1 <= x.2 /\ x.2 < 2 ^ N /\ x.1.natAbs < 2 ^ N
theorem Frs.fr {N : Nat} {l : List (Int × Int)} (h : Frs N l) : Fr N l := λx hx => ⟨(h x hx).1, (h x hx).2.1⟩
theorem aqo {N : Nat} (l : List (Int × Int)) (h : Frs N l) (hl : 1 + N * l.length <= 8000) (hN : N <= 8000) (hl2 : l.length <= 1000) : ∃ B, abt [.lst (l.map fT)] = .ok (.lst (l.map λx => .int (x.1 * (B / x.2))), true) /\ 1 <= B /\ ∀ x ∈ l, x.2 ∣ B := by
 obtain ⟨B, e, h1, h2, h3⟩ := aft l h.fr hl hN
 obtain ⟨t0, t1, e2⟩ := aiv h1 h2 hl hN l .un .un h.fr λx hx => (h x hx).2.2
 refine ⟨B, ?_, h1, h3⟩
 show fnP 2 (aaP (abG (aau abJ (aaf (aai 0) aax)) (gN 1)) (abO (acn [none, none, some 1] (fSq (aai 0)) (gT 2 (aaA (gN 0) (aaA (gN 1) ab1))) aeT tpE))) [.lst (l.map fT)] = _
 unfold fnP
 simp -dsimp [abX, frz, dow, abI, con, adX, eB, bOf, tru, dr, drs, cls, clV, aeF, g1, g2, gI, gIC, gB, gEq, gNe, gIn, aa9, abz, ac2, ace, acw, ac3, gLt, gGt, gLe, gGe, gIx, abZ, ad8, aci, aa5, ad9, aea, ac5, adU, okR, iOf, isS, others, acL, abQ, acV, adK, aeb, aaJ, abE, aaN, aaZ, aa0, aaU, aaD, aay, aa6, abF, abx, adS, atI, ixN, aaH, e, e2, show l.length <= 100000 by omega]
noncomputable def Bfr (l : List (Int × Int)) (i j : Nat) : Prop := (l.getD j (0, 1)).1 * (l.getD i (0, 1)).2 < (l.getD i (0, 1)).1 * (l.getD j (0, 1)).2 \/ ((l.getD j (0, 1)).1 * (l.getD i (0, 1)).2 = (l.getD i (0, 1)).1 * (l.getD j (0, 1)).2 /\ i < j)
noncomputable def Fall (l : List (Int × Int)) (ys : List Nat) : Prop := ys.Perm (List.range l.length) /\ ys.Pairwise (Bfr l)
theorem akg (ts : List Int) : ∀ (is : List Nat), (∀ i ∈ is, i < ts.length) -> ai2 asv (rUn aoC (rOp gIx (anP 1) (anP 0))) [some (.lst (ts.map Tr.int))] is = .ok (is.map λi => (-(ts.getD i 0), 0))
 | [], _ => rfl
 | i :: is, h => by
  have hi := h i (by simp)
  have e : (rUn aoC (rOp gIx (anP 1) (anP 0))) [some (Tr.int i), some (.lst (ts.map Tr.int))] = .ok (.int (-(ts.getD i 0))) := by
   unfold rUn rOp anP
   have a : atI (ts.map Tr.int) (i : Int) = some (.int (ts.getD i 0)) := by
    unfold atI ixN
    simp [hi]
   simp [gIx, a, aoC]
  unfold ai2
  rw [e, akg ts is λj hj => h j (by simp [hj])]
  rfl
theorem top_lt {B p q r s : Int} (hB : 1 <= B) (hq : 1 <= q) (hs : 1 <= s) (dq : q ∣ B) (ds : s ∣ B) : (p * (B / q) < r * (B / s) ↔ p * s < r * q) /\ (p * (B / q) = r * (B / s) ↔ p * s = r * q) := by
 obtain ⟨a, ha⟩ := dq
 obtain ⟨b, hb⟩ := ds
 have e1 : B / q = a := by rw [ha]; exact Int.mul_ediv_cancel_left _ (by omega)
 have e2 : B / s = b := by rw [hb]; exact Int.mul_ediv_cancel_left _ (by omega)
 rw [e1, e2]
 have x1 : (p * a) * (q * s) = (p * s) * B := by rw [ha]; ac_rfl
 have x2 : (r * b) * (q * s) = (r * q) * B := by rw [hb]; ac_rfl
 have qs : 0 < q * s := Int.mul_pos (by omega) (by omega)
 constructor
 ·constructor
  ·intro h
   have := Int.mul_lt_mul_of_pos_right h qs
   rw [x1, x2] at this
   exact Int.lt_of_mul_lt_mul_right this (by omega)
  ·intro h
   have := Int.mul_lt_mul_of_pos_right h (show 0 < B by omega)
   rw [<-x1, <-x2] at this
   exact Int.lt_of_mul_lt_mul_right this (by omega)
 ·constructor
  ·intro h
   rw [h, x2] at x1
   exact (Int.eq_of_mul_eq_mul_right (by omega) x1).symm
  ·intro h
   rw [h, <-x2] at x1
   exact Int.eq_of_mul_eq_mul_right (by omega) x1
theorem akS {N : Nat} (l : List (Int × Int)) (h : Frs N l) (hl : 1 + N * l.length <= 8000) (hN : N <= 8000) (h64 : l.length < 64) : ∃ ys, abb [.lst (l.map fT)] = .ok (.lst (ys.map λi : Nat => Tr.int i), true) /\ Fall l ys := by
 obtain ⟨B, e, h1, h3⟩ := aqo l h hl hN (by omega)
 have ek := akg (l.map λx => x.1 * (B / x.2)) (List.range l.length) λi hi => by simpa using hi
 refine ⟨amh l.length λi => ((List.range l.length).map λi => (-((l.map λx => x.1 * (B / x.2)).getD i 0), (0 : Int))).getD i (0, 0), ?_, ?_⟩
 ·unfold abb adn fnP
  have z1 : (l.map λx => Tr.int (x.1 * (B / x.2))) = (l.map λx => x.1 * (B / x.2)).map Tr.int := by rw [List.map_map]; rfl
  rw [z1] at e
  generalize hts : (l.map λx => x.1 * (B / x.2)) = ts at e ek ⊢
  have tl : ts.length = l.length := by rw [<-hts, List.length_map]
  generalize Tr.lst (l.map fT) = T at e ⊢
  have q1 : (l.length : Int) < 64 := by omega
  simp -dsimp [abX, frz, dow, abI, con, adX, eB, bOf, tru, dr, drs, cls, clV, aeF, g1, g2, gI, gIC, gB, gEq, gNe, gIn, aa9, abz, ac2, ace, acw, ac3, gLt, gGt, gLe, gGe, gIx, abZ, ad8, aci, aa5, ad9, aea, ac5, adU, okR, iOf, isS, others, acL, abQ, acV, adK, aeb, aaJ, abE, aaN, aaZ, aa0, aaU, aaD, aay, aa6, abF, abx, adS, atI, ixN, aaH, e, tl, q1, amk, slT, ek]
 ·have hs := aiq l.length λi => ((List.range l.length).map λi => (-((l.map λx => x.1 * (B / x.2)).getD i 0), (0 : Int))).getD i (0, 0)
  refine ⟨hs.1, ?_⟩
  refine hs.2.imp_of_mem λ{i j} hi hj hb => ?_
  have hi' : i < l.length := by simpa using hs.1.mem_iff.mp hi
  have hj' : j < l.length := by simpa using hs.1.mem_iff.mp hj
  have k : ∀ i, i < l.length -> ((List.range l.length).map λi => (-((l.map λx => x.1 * (B / x.2)).getD i 0), (0 : Int))).getD i (0, 0) = (-(l[i]!.1 * (B / l[i]!.2)), 0) := λi hi => by
   rw [List.getD_eq_getElem?_getD, List.getElem?_map, List.getElem?_range hi]
   simp [hi]
  simp only [k i hi', k j hj'] at hb
  have g : ∀ i, i < l.length -> l.getD i (0, 1) = l[i]! /\ l[i]! ∈ l := λi hi => by
   refine ⟨by simp [hi], by simp [hi]⟩
  obtain ⟨g1, m1⟩ := g i hi'
  obtain ⟨g2, m2⟩ := g j hj'
  unfold Bfr
  rw [g1, g2]
  have t := top_lt (p := l[j]!.1) (r := l[i]!.1) h1 (h _ m2).1 (h _ m1).1 (h3 _ m2) (h3 _ m1)
  rw [<-t.1, <-t.2]
  omega
theorem agq {xs : List Tr} {i : Nat} {T : Tr} (h : xs[i]? = some T) : gIx (.lst xs) (.int i) = .ok (T, false) := by
 obtain ⟨hi, e⟩ := List.getElem?_eq_some_iff.mp h
 show (match atI xs i with
  | some t => Rs.ok (t, false)
  | none => .bad) = _
 have : atI xs (i : Int) = some T := by
  unfold atI ixN
  simp [hi, e]
 rw [this]
theorem an9 {xs : List Tr} {i : Nat} {T : Tr} (h : xs[i]? = some T) : gIx (.lst xs) (.int i) = .ok (T, false) := agq h
end BH
namespace BH
open PySem L2
noncomputable def Wo (x : Int × Int) : Prop := 0 <= x.1 /\ x.1 <= x.2 /\ 1 <= x.2 /\ x.2 <= 1000000000000 /\ Int.gcd x.1 x.2 = 1
noncomputable instance (x : Int × Int) : Decidable (Wo x) := by unfold Wo; infer_instance
noncomputable def aaW (l : List (Int × Int)) : Tr := .lst (l.map fT)
theorem Wo.agK {x : Int × Int} (h : Wo x) : agK (fT x) = true := by
 obtain ⟨h1, h2, h3, h4, h5⟩ := h
 show (decide (0 <= x.1) && decide (x.1 <= x.2) && decide (1 <= x.2) && (Int.gcd x.1 x.2 == 1)) = true
 simp [h1, h2, h3, h5]
theorem Wo.frs {l : List (Int × Int)} (h : ∀ x ∈ l, Wo x) : Frs 40 l := λx hx => by
 obtain ⟨h1, h2, h3, h4, h5⟩ := h x hx
 exact ⟨h3, by omega, by omega⟩
end BH
end
section
namespace L2
open PySem
@[simp] theorem avv (fa : EF) (ρ : En) : awW fa ρ = bd (fa ρ) (λp => bd (dr p.2 p.1) (λa => bd (awe a) (λz => .ok (.v z.1 z.2, p.2)) .mk) .mk) .mk := rfl
end L2
namespace BH
open PySem L2
theorem aoa {α : Type} (xs : List α) (k : Nat) : L2.cut xs (some (k : Int)) none = xs.drop k := by
 unfold L2.cut HT.sIx
 by_cases h : (k : Int) < 0
 ·omega
 ·simp only [h, if_false, Int.toNat_natCast]
  by_cases z : k <= xs.length
  ·rw [Nat.min_eq_left z]
   exact List.take_of_length_le (by simp)
  ·rw [Nat.min_eq_right (by omega), List.drop_eq_nil_of_le (by omega), List.drop_eq_nil_of_le (by omega)]
   simp
theorem asY {α : Type} (xs : List α) (k : Nat) : L2.cut xs none (some (k : Int)) = xs.take k := by
 unfold L2.cut HT.sIx
 by_cases h : (k : Int) < 0
 ·omega
 ·simp only [h, if_false, Int.toNat_natCast, Nat.sub_zero, List.drop_zero]
  by_cases z : k <= xs.length
  ·rw [Nat.min_eq_left z]
  ·rw [Nat.min_eq_right (by omega), List.take_of_length_le (by omega), List.take_of_length_le (by omega)]
noncomputable def nT (ys : List Nat) : Tr := .lst (ys.map λi : Nat => Tr.int i)
theorem ahH {T : Tr} (h : dep T <= 40) : gNe T T = .ok (.bl false, false) := by
 unfold gNe
 rw [if_pos ⟨h, h⟩, afC]
 rfl
theorem akh {T : Tr} (h : dep T <= 40) : gEq T T = .ok (.bl true, false) := by
 unfold gEq
 rw [if_pos ⟨h, h⟩, afC]
end BH
end
section
namespace BH
open PySem L2
theorem asZ {l : List (Int × Int)} {i : Nat} (h : i < l.length) : gIx (aaW l) (.int i) = .ok (fT (l.getD i (0, 1)), false) := agq (by simp [h])
theorem amx {α : Type} {r h : α -> Tr} {f : EF} {τ : En} : ∀ (xs : List α) (s : Sl), (∀ x ∈ xs, ∃ fr, f (.sh (r x) :: τ) = .ok (.v (h x) fr, .sh (r x) :: τ)) -> ∃ s', adq (gN 0) aeT f (xs.map r) (s :: τ) = .ok (xs.map h, s' :: τ)
 | [], s, _ => ⟨s, rfl⟩
 | x :: xs, s, q => by
  obtain ⟨fr, e⟩ := q x (by simp)
  obtain ⟨s', e'⟩ := amx xs (.sh (r x)) λv hv => q v (by simp [hv])
  refine ⟨s', ?_⟩
  rw [List.map_cons]
  unfold adq
  simp [e, clV, e']
theorem ao0 {α : Type} {p : α -> Bool} : ∀ xs : List α, ahk (xs.map λx => .bl (p x)) = some (xs.map p)
 | [] => rfl
 | x :: xs => by simp [ahk, ao0 xs]
theorem axa {α : Type} {r h : α -> Tr} {xs : List α} {ρ τ : En} {rest : List (Option Nat)} {i : IF} {fe : EF} (hl : xs.length <= 100000) (hi : i ρ = .ok (xs.map r, ρ)) (hτ : acL rest ρ = τ) (hs : ∀ s', acV (none :: rest) (s' :: τ) ρ = true) (hd : ∀ s', abQ (none :: rest) (s' :: τ) ρ = ρ)
  (hf : ∀ x ∈ xs, ∃ fr, fe (.sh (r x) :: τ) = .ok (.v (h x) fr, .sh (r x) :: τ)) : acn (none :: rest) i (gN 0) aeT fe ρ = .ok (.v (.lst (xs.map h)) true, ρ) := by
 obtain ⟨s', e⟩ := amx xs .un hf
 have hu : acL (none :: rest) ρ = .un :: τ := by rw [<-hτ]; rfl
 have hl' : (xs.map r).length <= 100000 := by rw [List.length_map]; exact hl
 rw [ake, hi]
 simp only [aqk]
 rw [if_pos hl', hu, e]
 simp only [abX, aqk]
 rw [if_pos (hs s'), hd s']
noncomputable def lt2 (x y : Int × Int) : Bool := decide (x.1 * y.2 < y.1 * x.2)
theorem akT (n k : Int) (h : 0 < k) : 0 <= n.fmod k /\ n.fmod k < k := ⟨Int.fmod_nonneg_of_pos n h, Int.fmod_lt_of_pos n h⟩
theorem as3 {i : Int} (h : -1000000000000000000 < i /\ i < 1000000000000000000) : tiny i = true := by
 unfold tiny
 rw [Bool.and_eq_true]
 exact ⟨decide_eq_true (by omega), decide_eq_true (by omega)⟩
theorem aqp {i j : Int} (h : -1000000000000000000 < i /\ i < 1000000000000000000) : afa i j = true := by unfold afa; rw [as3 h]; simp
theorem ajd {i j : Int} (h : -1000000000000000000 < j /\ j < 1000000000000000000) : afa i j = true := by unfold afa; rw [as3 h]; simp
theorem aki : ∀ (n m : Nat), L2.upTo (m : Int) n = (List.range' m n).map λi : Nat => Tr.int i
 | 0, _ => rfl
 | n + 1, m => by
  unfold L2.upTo
  rw [show ((m : Int) + 1) = ((m + 1 : Nat) : Int) by omega, aki n (m + 1), List.range'_succ]
  rfl
theorem adR (n : Nat) : L2.upTo 0 n = (List.range n).map λi : Nat => Tr.int i := by
 rw [List.range_eq_range']
 exact aki n 0
end BH
end
section
namespace BH
open PySem L2
noncomputable def red (a b : Int) : Int × Int := (a / ((Int.gcd a b : Nat) : Int), b / ((Int.gcd a b : Nat) : Int))
noncomputable def Fq (M : Nat) (x : Int × Int) : Prop := 0 <= x.1 /\ x.1 < 2 ^ M /\ 1 <= x.2 /\ x.2 < 2 ^ M /\ Int.gcd x.1 x.2 = 1
theorem aqP (M : Nat) : ((2 ^ M : Nat) : Int) = 2 ^ M := by push_cast; rfl
theorem amy {a b : Int} {M : Nat} (ha : 0 <= a) (ha2 : a < 2 ^ M) (hb : 1 <= b) (hb2 : b < 2 ^ M) : Fq M (red a b) := by
 obtain ⟨g1, g2, g3, g4, g5, g6, g7⟩ := ael (a := a) (b := b) (by omega)
 have d1 := Int.ediv_le_self (a := a) ((Int.gcd a b : Nat) : Int) ha
 have d2 := Int.ediv_le_self (a := b) ((Int.gcd a b : Nat) : Int) (by omega)
 exact ⟨g5 ha, by unfold red; dsimp only; omega, g3, by unfold red; dsimp only; omega, g4⟩
noncomputable def le2 (x y : Int × Int) : Prop := x.1 * y.2 <= y.1 * x.2
noncomputable def sumF (x y : Int × Int) : Int × Int := red (x.1 * y.2 + y.1 * x.2) (x.2 * y.2)
noncomputable def aob (x y : Int × Int) : Int × Int := red (x.1 * y.1) (x.2 * y.2)
theorem adg {a b : Int} {M N : Nat} (ha : 0 <= a) (ha2 : a < 2 ^ M) (hb : 0 <= b) (hb2 : b < 2 ^ N) : a * b < 2 ^ (M + N) := by
 have p1 : (0 : Int) < 2 ^ N := Int.pow_pos (by omega)
 have q1 : a * b <= a * 2 ^ N := Int.mul_le_mul_of_nonneg_left (by omega) ha
 have q2 : a * 2 ^ N < 2 ^ M * 2 ^ N := Int.mul_lt_mul_of_pos_right ha2 p1
 rw [Int.pow_add]
 omega
theorem ahI {x y : Int × Int} {M N : Nat} (hx : Fq M x) (hy : Fq N y) : Fq (M + N) (aob x y) :=
 amy (Int.mul_nonneg hx.1 hy.1) (adg hx.1 hx.2.1 hy.1 hy.2.1) (by have := Int.mul_pos (a := x.2) (b := y.2) (by have := hx.2.2.1; omega) (by have := hy.2.2.1; omega); omega) (adg (by have := hx.2.2.1; omega) hx.2.2.2.1 (by have := hy.2.2.1; omega) hy.2.2.2.1)
theorem aqq {x y : Int × Int} {M N : Nat} (hx : Fq M x) (hy : Fq N y) : Fq (M + N + 1) (sumF x y) := by
 obtain ⟨x1, x2, x3, x4, _⟩ := hx
 obtain ⟨y1, y2, y3, y4, _⟩ := hy
 have m1 := adg x1 x2 (by omega) y4
 have m2 := adg y1 y2 (by omega) x4
 have m3 := adg (by omega) x4 (by omega) y4
 rw [Nat.add_comm N M] at m2
 have p := Int.mul_pos (a := x.2) (b := y.2) (by omega) (by omega)
 have n1 := Int.mul_nonneg x1 (show 0 <= y.2 by omega)
 have n2 := Int.mul_nonneg y1 (show 0 <= x.2 by omega)
 have e : (2 : Int) ^ (M + N + 1) = 2 ^ (M + N) * 2 := Int.pow_succ ..
 exact amy (by omega) (by rw [e]; omega) (by omega) (by rw [e]; omega)
theorem ad5 {a b : Int} {M : Nat} (hb : 1 <= b) (hb2 : b < 2 ^ M) (hM : M <= 8000) : abA [.int a, .int b] = .ok (fT (red a b), false) := by
 obtain ⟨g1, g2, _⟩ := ael (a := a) (b := b) (by omega)
 have e1 : a.fdiv (Int.gcd a b : Nat) = a / (Int.gcd a b : Nat) := Int.fdiv_eq_ediv_of_nonneg _ (by omega)
 have e2 : b.fdiv (Int.gcd a b : Nat) = b / (Int.gcd a b : Nat) := Int.fdiv_eq_ediv_of_nonneg _ (by omega)
 have hs := ab4 a b
 have np := aqP M
 unfold abA aer fnP fT red
 generalize hg : ((Int.gcd a b : Nat) : Int) = g at *
 have h3 : ¬ b < 0 := by omega
 have h4 : (b == 0) = false := by simp; omega
 have c1 : ∀ n, alW n g = true := λn => ae5 (M := M) (by omega) (by omega) hM
 simp -dsimp [abX, frz, dow, abI, con, adX, eB, bOf, tru, dr, drs, cls, clV, aeF, g1, g2, gI, gIC, gB, gEq, gNe, gIn, aa9, abz, ac2, ace, acw, ac3, gLt, gGt, gLe, gGe, gIx, abZ, ad8, aci, aa5, ad9, aea, ac5, adU, okR, iOf, isS, others, acL, abQ, acV, adK, aeb, aaJ, abE, aaN, aaZ, aa0, aaU, aaD, aay, aa6, abF, abx, adS, atI, ixN, aaH, hs, h3, h4, c1, e1, e2]
theorem aeC {x y : Int × Int} {M N : Nat} (hx : Fq M x) (hy : Fq N y) (hM : M + N <= 8000) : abg [fT x, fT y] = .ok (fT (aob x y), false) := by
 have q := ahI hx hy
 obtain ⟨x1, x2, x3, x4, _⟩ := hx
 obtain ⟨y1, y2, y3, y4, _⟩ := hy
 have nM := aqP M
 have nN := aqP N
 have c1 : afa x.1 y.1 = true := aee (M := M) (N := N) (by omega) (by omega) (by omega) (by omega)
 have c2 : afa x.2 y.2 = true := aee (M := M) (N := N) (by omega) (by omega) (by omega) (by omega)
 have p := Int.mul_pos (a := x.2) (b := y.2) (by omega) (by omega)
 have e := ad5 (a := x.1 * y.1) (b := x.2 * y.2) (M := M + N) (by omega) (adg (by omega) x4 (by omega) y4) hM
 unfold abg afj fnP
 show _ = Rs.ok (fT (red (x.1 * y.1) (x.2 * y.2)), false)
 generalize fT (red (x.1 * y.1) (x.2 * y.2)) = R at e ⊢
 unfold fT
 simp -dsimp [abX, frz, dow, abI, con, adX, eB, bOf, tru, dr, drs, cls, clV, aeF, g1, g2, gI, gIC, gB, gEq, gNe, gIn, aa9, abz, ac2, ace, acw, ac3, gLt, gGt, gLe, gGe, gIx, abZ, ad8, aci, aa5, ad9, aea, ac5, adU, okR, iOf, isS, others, acL, abQ, acV, adK, aeb, aaJ, abE, aaN, aaZ, aa0, aaU, aaD, aay, aa6, abF, abx, adS, atI, ixN, aaH, c1, c2, e]
theorem aje {x y : Int × Int} {M N : Nat} (hx : Fq M x) (hy : Fq N y) (hM : M + N <= 8000) : acy [fT x, fT y] = .ok (fT (sumF x y), false) := by
 obtain ⟨x1, x2, x3, x4, _⟩ := hx
 obtain ⟨y1, y2, y3, y4, _⟩ := hy
 have nM := aqP M
 have nN := aqP N
 have c1 : afa x.1 y.2 = true := aee (M := M) (N := N) (by omega) (by omega) (by omega) (by omega)
 have c2 : afa y.1 x.2 = true := aee (M := N) (N := M) (by omega) (by omega) (by omega) (by omega)
 have c3 : afa x.2 y.2 = true := aee (M := M) (N := N) (by omega) (by omega) (by omega) (by omega)
 have p := Int.mul_pos (a := x.2) (b := y.2) (by omega) (by omega)
 have e := ad5 (a := x.1 * y.2 + y.1 * x.2) (b := x.2 * y.2) (M := M + N) (by omega) (adg (by omega) x4 (by omega) y4) hM
 unfold acy ag3 fnP
 show _ = Rs.ok (fT (red (x.1 * y.2 + y.1 * x.2) (x.2 * y.2)), false)
 generalize fT (red (x.1 * y.2 + y.1 * x.2) (x.2 * y.2)) = R at e ⊢
 unfold fT
 simp -dsimp [abX, frz, dow, abI, con, adX, eB, bOf, tru, dr, drs, cls, clV, aeF, g1, g2, gI, gIC, gB, gEq, gNe, gIn, aa9, abz, ac2, ace, acw, ac3, gLt, gGt, gLe, gGe, gIx, abZ, ad8, aci, aa5, ad9, aea, ac5, adU, okR, iOf, isS, others, acL, abQ, acV, adK, aeb, aaJ, abE, aaN, aaZ, aa0, aaU, aaD, aay, aa6, abF, abx, adS, atI, ixN, aaH, c1, c2, c3, e]
end BH
end
section
namespace BH
open PySem L2
noncomputable def shF (ps : List ((Int × Int) × (Int × Int))) (t : Int × Int) : Int × Int := ps.foldl (λt p => sumF t (aob p.1 p.2)) t
noncomputable def prF (xs : List (Int × Int)) (t : Int × Int) : Int × Int := xs.foldl aob t
theorem Wo.fq {x : Int × Int} (h : Wo x) : Fq 45 x := by
 obtain ⟨h1, h2, h3, h4, h5⟩ := h
 exact ⟨h1, by omega, h3, by omega, h5⟩
noncomputable def ShB (B : SF) : Prop := ∀ (t w x : Int × Int) (M : Nat) (s0 s1 : Sl) (τ : En), Fq M t -> Fq 45 w -> Fq 45 x -> M + 90 <= 8000 -> B (s0 :: s1 :: .sh (fT t) :: .sh (fT w) :: .sh (fT x) :: τ) = .ok (.nx, s0 :: s1 :: .sh (fT (sumF t (aob w x))) :: .sh (fT w) :: .sh (fT x) :: τ)
theorem amz {B : SF} (hB : ShB B) (s0 s1 : Sl) (τ : En) : ∀ (ps : List ((Int × Int) × (Int × Int))) (t : Int × Int) (M : Nat) (s3 s4 : Sl), Fq M t -> (∀ p ∈ ps, Fq 45 p.1 /\ Fq 45 p.2) -> M + 91 * ps.length <= 8000 ->
  ∃ t3 t4, acj (gT 2 (aaA (gN 3) (aaA (gN 4) ab1))) B (ps.map λp => Tr.tup [fT p.1, fT p.2]) (s0 :: s1 :: .sh (fT t) :: s3 :: s4 :: τ) = .ok (.nx, s0 :: s1 :: .sh (fT (shF ps t)) :: t3 :: t4 :: τ)
 | [], t, M, s3, s4, _, _, _ => ⟨s3, s4, rfl⟩
 | p :: ps, t, M, s3, s4, h, hp, hl => by
  rw [List.length_cons] at hl
  have h1 := ahI (hp p (by simp)).1 (hp p (by simp)).2
  have h2 := aqq h h1
  have e := hB t p.1 p.2 M s0 s1 τ h (hp p (by simp)).1 (hp p (by simp)).2 (by omega)
  obtain ⟨t3, t4, e'⟩ := amz hB s0 s1 τ ps _ _ (.sh (fT p.1)) (.sh (fT p.2)) h2 (λq hq => hp q (by simp [hq])) (by omega)
  refine ⟨t3, t4, ?_⟩
  rw [List.map_cons]
  unfold acj
  rw [show (gT 2 (aaA (gN 3) (aaA (gN 4) ab1))) (Tr.tup [fT p.1, fT p.2]) (s0 :: s1 :: .sh (fT t) :: s3 :: s4 :: τ) = .ok (s0 :: s1 :: .sh (fT t) :: .sh (fT p.1) :: .sh (fT p.2) :: τ) from rfl]
  simp only [Rs.aaR]
  rw [e]
  exact e'
theorem as4 (ws xs : List (Int × Int)) : aoO (ws.map fT) (xs.map fT) = (ws.zip xs).map λp => Tr.tup [fT p.1, fT p.2] := by
 unfold aoO
 rw [List.zip_map, List.map_map]
 rfl
noncomputable def swB : SF := (abG (aau acy (aaf (aai 2) (aaf (aau abg (aaf (aai 3) (aaf (aai 4) aax))) aax))) (gN 2))
theorem as5 : ShB swB := λt w x M s0 s1 τ ht hw hx hM => by
 have e1 := aeC hw hx (by omega)
 have e2 := aje ht (ahI hw hx) (by omega)
 generalize fT (sumF t (aob w x)) = R at e2 ⊢
 generalize fT (aob w x) = P at e1 e2
 generalize fT t = T at *
 generalize fT w = W at *
 generalize fT x = Y at *
 unfold swB
 simp -dsimp [drs, dr, isS, e1, e2]
theorem axb : Fq 1 (0, 1) := by unfold Fq; decide
theorem axc : Fq 1 (1, 1) := by unfold Fq; decide
theorem as6 {ws xs : List (Int × Int)} (hw : ∀ w ∈ ws, Fq 45 w) (hx : ∀ x ∈ xs, Fq 45 x) : ∀ p ∈ ws.zip xs, Fq 45 p.1 /\ Fq 45 p.2 := λp hp => ⟨hw _ (List.of_mem_zip hp).1, hx _ (List.of_mem_zip hp).2⟩
theorem agr {ws xs : List (Int × Int)} (hw : ∀ w ∈ ws, Fq 45 w) (hx : ∀ x ∈ xs, Fq 45 x) (hl : xs.length <= 12) : ab7 [aaW ws, aaW xs] = .ok (fT (shF (ws.zip xs) (0, 1)), false) := by
 have hz : (ws.zip xs).length <= 12 := by rw [List.length_zip]; omega
 obtain ⟨t3, t4, e⟩ := amz as5 (.sh (aaW ws)) (.sh (aaW xs)) [] (ws.zip xs) (0, 1) 1 .un .un axb (as6 hw hx) (by omega)
 rw [<-as4] at e
 have e1 : adV (agx (aqN (aaf (aai 0) (aaf (aai 1) aax))) (gT 2 (aaA (gN 3) (aaA (gN 4) ab1))) swB) [.sh (aaW ws), .sh (aaW xs), .sh (fT (0, 1)), .un, .un] = .ok (.nx, [.sh (aaW ws), .sh (aaW xs), .sh (fT (shF (ws.zip xs) (0, 1))), t3, t4]) := by
  show abX (acj _ swB (aoO (ws.map fT) (xs.map fT)) _) = _
  rw [e]
  rfl
 show fnP 5 (aaP (abG (eC (.tup [.int 0, .int 1])) (gN 2)) (aaP (adV (agx (aqN (aaf (aai 0) (aaf (aai 1) aax))) (gT 2 (aaA (gN 3) (aaA (gN 4) ab1))) swB)) (abO (aai 2)))) [aaW ws, aaW xs] = _
 have e0 : Tr.tup [.int 0, .int 1] = fT (0, 1) := rfl
 rw [e0]
 generalize adV _ = G at e1 ⊢
 generalize fT (shF (ws.zip xs) (0, 1)) = R at *
 generalize fT (0, 1) = Z at *
 generalize aaW ws = W at *
 generalize aaW xs = Y at *
 unfold fnP
 simp -dsimp [aaH, e1]
noncomputable def pwB : SF := (abG (aau abg (aaf (aai 1) (aaf (aai 2) aax))) (gN 1))
theorem amA (s0 : Sl) : ∀ (xs : List (Int × Int)) (t : Int × Int) (M : Nat) (s2 : Sl), Fq M t -> (∀ p ∈ xs, Fq 45 p) -> M + 45 * xs.length <= 8000 ->
  ∃ t2, acj (gN 2) pwB (xs.map fT) [s0, .sh (fT t), s2] = .ok (.nx, [s0, .sh (fT (prF xs t)), t2])
 | [], t, M, s2, _, _, _ => ⟨s2, rfl⟩
 | x :: xs, t, M, s2, h, hp, hl => by
  rw [List.length_cons] at hl
  have e := aeC h (hp x (by simp)) (by omega)
  obtain ⟨t2, e'⟩ := amA s0 xs _ _ (.sh (fT x)) (ahI h (hp x (by simp))) (λq hq => hp q (by simp [hq])) (by omega)
  refine ⟨t2, ?_⟩
  have e1 : pwB [s0, .sh (fT t), .sh (fT x)] = .ok (.nx, [s0, .sh (fT (aob t x)), .sh (fT x)]) := by
   generalize fT (aob t x) = R at e ⊢
   generalize fT t = T at *
   generalize fT x = Y at *
   unfold pwB
   simp -dsimp [drs, dr, isS, e]
  rw [List.map_cons]
  unfold acj
  rw [show gN 2 (fT x) [s0, .sh (fT t), s2] = .ok [s0, .sh (fT t), .sh (fT x)] from rfl]
  simp only [Rs.aaR]
  rw [e1]
  exact e'
theorem afu {xs : List (Int × Int)} (hx : ∀ x ∈ xs, Fq 45 x) (hl : xs.length <= 12) : abV [aaW xs] = .ok (fT (prF xs (1, 1)), false) := by
 obtain ⟨t2, e⟩ := amA (.sh (aaW xs)) xs (1, 1) 1 .un axc hx (by omega)
 have e1 : adV (agx (fSq (aai 0)) (gN 2) pwB) [.sh (aaW xs), .sh (fT (1, 1)), .un] = .ok (.nx, [.sh (aaW xs), .sh (fT (prF xs (1, 1))), t2]) := by
  show abX (acj _ pwB (xs.map fT) _) = _
  rw [e]
  rfl
 show fnP 3 (aaP (abG (eC (.tup [.int 1, .int 1])) (gN 1)) (aaP (adV (agx (fSq (aai 0)) (gN 2) pwB)) (abO (aai 1)))) [aaW xs] = _
 have e0 : Tr.tup [.int 1, .int 1] = fT (1, 1) := rfl
 rw [e0]
 generalize adV _ = G at e1 ⊢
 generalize fT (prF xs (1, 1)) = R at *
 generalize fT (1, 1) = Z at *
 generalize aaW xs = Y at *
 unfold fnP
 simp -dsimp [aaH, e1]
noncomputable def Dsc (xs zs : List (Int × Int)) : Prop := zs.Perm xs /\ zs.Pairwise λa b => le2 b a
theorem agL (xs : List (Int × Int)) : (List.range xs.length).map (λi => xs.getD i (0, 1)) = xs := by
 apply List.ext_getElem
 ·simp
 ·intro i h1 h2
  simp [List.getD_eq_getElem?_getD, h2]
theorem Fall.dsc {xs : List (Int × Int)} {ys : List Nat} (h : Fall xs ys) : Dsc xs (ys.map λi => xs.getD i (0, 1)) := by
 refine ⟨?_, ?_⟩
 ·have := h.1.map λi => xs.getD i (0, 1)
  rw [agL] at this
  exact this
 ·rw [List.pairwise_map]
  refine h.2.imp λ{i j} hb => ?_
  unfold Bfr at hb
  unfold le2
  omega
noncomputable def ov (t x : Int × Int) : Bool := lt2 t x
end BH
end
section
namespace BH
open PySem L2
inductive Ru where
 | sh (ws : List (Int × Int)) | mid (k : Nat) | least | greatest | product
noncomputable def ruT : Ru -> Tr
 | .sh ws => .tup [.str "shares", aaW ws]
 | .mid k => .tup [.str "middle", .int k]
 | .least => .tup [.str "least"]
 | .greatest => .tup [.str "greatest"]
 | .product => .tup [.str "product"]
noncomputable def amX (n : Nat) : Ru -> Prop
 | .sh ws => ws.length = n /\ ∀ w ∈ ws, Fq 45 w
 | .mid k => 1 <= k /\ k <= n
 | _ => True
theorem sEq (a : Str) : gEq (.str a) (.str a) = .ok (.bl true, false) := akh (T := .str a) (by rw [aaN]; omega)
theorem sNe {a b : Str} (h : (a == b) = false) : gEq (.str a) (.str b) = .ok (.bl false, false) := by
 unfold gEq
 rw [if_pos ⟨by rw [aaN]; omega, by rw [aaN]; omega⟩, abx, h]
theorem axd {α : Type} {r : α -> Tr} {xs : List α} {ρ τ : En} {rest : List (Option Nat)} {i : IF} {fe : EF} (hl : xs.length <= 100000) (hi : i ρ = .ok (xs.map r, ρ)) (hτ : acL rest ρ = τ) (hs : ∀ s', acV (none :: rest) (s' :: τ) ρ = true) (hd : ∀ s', abQ (none :: rest) (s' :: τ) ρ = ρ)
  (hf : ∀ x ∈ xs, ∃ fr, fe (.sh (r x) :: τ) = .ok (.v (.bl true) fr, .sh (r x) :: τ)) : eCB (g1 ac5) (aaf (acn (none :: rest) i (gN 0) aeT fe) aax) ρ = .ok (.v (.bl true) false, ρ) := by
 have e := axa (h := λx => .bl ((λ_ : α => true) x)) hl hi hτ hs hd hf
 have eg : ac5 (.lst (xs.map λx => .bl ((λ_ : α => true) x))) = .ok (.bl true, false) := by
  unfold ac5
  simp only [ao0]
  rw [show (xs.map λ_ => true).all id = true by simp]
 generalize acn _ _ _ _ _ = G at e ⊢
 generalize Tr.lst (xs.map λx => .bl ((λ_ : α => true) x)) = T at e eg
 simp [e, eg, drs, dr, g1]
theorem Fq.alq {M : Nat} {x : Int × Int} (h : Fq M x) : alq (fT x) = true := by
 show (decide (1 <= x.2) && (Int.gcd x.1 x.2 == 1)) = true
 simp [h.2.2.1, h.2.2.2.2]
noncomputable def awE : EF := (anm (aau abh (aaf (aai 0) aax)) (eOp gGe (eOp gIx (aai 0) (eC (.int 0))) (eC (.int 0))))
theorem agM {ws : List (Int × Int)} (hw : ∀ w ∈ ws, Fq 45 w) (hl : ws.length <= 12) : acs [aaW ws, .int ws.length] = .ok (.bl true, false) := by
 have e1 := axd (r := fT) (xs := ws) (ρ := [.sh (aaW ws), .sh (.int ws.length)]) (rest := []) (i := fSq (aai 0)) (fe := awE) (by omega) rfl rfl (λs' => rfl) (λs' => rfl) (λw hw' => ⟨false, by
  have h := hw w hw'
  have e := abn (fT w)
  rw [h.alq] at e
  have h0 := h.1
  unfold awE
  dsimp only [acL, List.map]
  have g0 : gIx (fT w) (.int 0) = .ok (.int w.1, false) := rfl
  generalize fT w = T at *
  simp -dsimp [drs, dr, isS, e, bOf, g0, gGe, gB, h0]⟩)
 have el : abZ (aaW ws) = .ok (.int (ws.length : Int), false) := by
  show Rs.ok (Tr.int ((ws.map fT).length : Int), false) = _
  rw [List.length_map]
 have ei : al1 .list (aai 0) [.sh (aaW ws), .sh (.int ws.length)] = .ok (.v (.bl true) false, [.sh (aaW ws), .sh (.int ws.length)]) := by
  simp [aaW, adS, dr, eB]
 have en := ahH (T := .int (ws.length : Int)) (by rw [aaJ]; omega)
 show fnP 2 (aaP (sIf (bOr (alp (akC (al1 .list (aai 0)))) (abm (eOp gNe (eCB (g1 abZ) (aaf (aai 0) aax)) (aai 1)))) (abO (eC (.bl false))) adp) (abO (eCB (g1 ac5) (aaf (acn [none] (fSq (aai 0)) (gN 0) aeT awE) aax)))) [aaW ws, .int ws.length] = _
 generalize eCB (g1 ac5) _ = G at e1 ⊢
 generalize al1 _ _ = G2 at ei ⊢
 generalize aaW ws = T at *
 generalize (ws.length : Int) = N at *
 unfold fnP
 simp -dsimp [aaH, e1, ei, dr, drs, g1, el, en, bOf, tru]
theorem aqr {T : Tr} (h : T = .tup [.str "least"] ∨ T = .tup [.str "greatest"] ∨ T = .tup [.str "product"]) : gIn id T (.tup [(.tup [(.str "least")]), (.tup [(.str "greatest")]), (.tup [(.str "product")])]) = .ok (.bl true, false) := by
 rcases h with rfl | rfl | rfl <;> kernel_rfl
theorem akU {r : Ru} {n : Nat} (h : amX n r) (hn : n <= 12) : abj [ruT r, .int n] = .ok (.bl true, false) := by
 have bare : ∀ T : Tr, (T = .tup [.str "least"] ∨ T = .tup [.str "greatest"] ∨ T = .tup [.str "product"]) → abj [T, .int n] = .ok (.bl true, false) := λT hT => by
  have e := aqr hT
  have e1 : adS T .tuple = true := by rcases hT with rfl | rfl | rfl <;> rfl
  have e2 : abZ T = .ok (.int 1, false) := by rcases hT with rfl | rfl | rfl <;> rfl
  have e3 : gNe (.int 1) (.int 2) = .ok (.bl true, false) := rfl
  unfold abj adz fnP
  simp -dsimp [aaH, eB, e1, e2, e3, e, dr, drs, g1, bOf, tru]
 cases r with
 | least => exact bare _ (.inl rfl)
 | greatest => exact bare _ (.inr (.inl rfl))
 | product => exact bare _ (.inr (.inr rfl))
 | sh ws =>
  obtain ⟨h1, h2⟩ := h
  subst h1
  have e := agM h2 hn
  have e2 : ∀ N : Tr, abZ (.tup [.str "shares", N]) = .ok (.int 2, false) := λ_ => rfl
  have e3 : gNe (.int 2) (.int 2) = .ok (.bl false, false) := rfl
  have e4 := sEq "shares"
  show fnP 4 adz [.tup [.str "shares", aaW ws], .int ws.length] = _
  unfold adz fnP
  generalize aaW ws = T at *
  simp -dsimp [aaH, eB, adS, e2, e3, e4, e, isS, dr, drs, g1, bOf, tru]
 | mid k =>
  obtain ⟨h1, h2⟩ := h
  have e2 : ∀ N : Tr, abZ (.tup [.str "middle", N]) = .ok (.int 2, false) := λ_ => rfl
  have e3 : gNe (.int 2) (.int 2) = .ok (.bl false, false) := rfl
  have e4 : gEq (.str "middle") (.str "shares") = .ok (.bl false, false) := sNe (by decide +kernel)
  have e5 := sEq "middle"
  have e6 := agp (.int k)
  have q1 : (1 : Int) <= k := by omega
  have q2 : (k : Int) <= n := by omega
  unfold abj adz fnP ruT
  simp -dsimp [aaH, eB, adS, e2, e3, e4, e5, e6, isW, isS, dr, drs, g1, bOf, tru, gLe, gB, q1, q2]
noncomputable def plc (n : Nat) : Ru -> Nat
 | .mid k => k
 | .least => n
 | .greatest => 1
 | _ => 0
noncomputable def Wv (r : Ru) (xs : List (Int × Int)) (v : Int × Int) : Prop := match r with
 | .sh ws => v = shF (ws.zip xs) (0, 1)
 | .product => v = prF xs (1, 1)
 | r => ∃ zs, Dsc xs zs /\ zs[plc xs.length r - 1]? = some v
noncomputable def placed : Ru -> Bool
 | .mid _ => true
 | .least => true
 | .greatest => true
 | _ => false
theorem amB (r : Ru) : ∃ w : Str, gIx (ruT r) (.int 0) = .ok (.str w, false) ∧ gEq (.str w) (.str "shares") = .ok (.bl (match r with | .sh _ => true | _ => false), false) ∧ gEq (.str w) (.str "product") = .ok (.bl (match r with | .product => true | _ => false), false) ∧
  gEq (.str w) (.str "greatest") = .ok (.bl (match r with | .greatest => true | _ => false), false) ∧ gEq (.str w) (.str "least") = .ok (.bl (match r with | .least => true | _ => false), false) ∧ gEq (.str w) (.str "middle") = .ok (.bl (match r with | .mid _ => true | _ => false), false) := by
 cases r with
 | sh ws => exact ⟨"shares", rfl, sEq _, sNe (by decide +kernel), sNe (by decide +kernel), sNe (by decide +kernel), sNe (by decide +kernel)⟩
 | mid k => exact ⟨"middle", rfl, sNe (by decide +kernel), sNe (by decide +kernel), sNe (by decide +kernel), sNe (by decide +kernel), sEq _⟩
 | least => exact ⟨"least", rfl, sNe (by decide +kernel), sNe (by decide +kernel), sNe (by decide +kernel), sEq _, sNe (by decide +kernel)⟩
 | greatest => exact ⟨"greatest", rfl, sNe (by decide +kernel), sNe (by decide +kernel), sEq _, sNe (by decide +kernel), sNe (by decide +kernel)⟩
 | product => exact ⟨"product", rfl, sNe (by decide +kernel), sEq _, sNe (by decide +kernel), sNe (by decide +kernel), sNe (by decide +kernel)⟩
theorem ajf {r : Ru} {n : Nat} (h : placed r = true) : ab3 [ruT r, .int n] = .ok (.int (plc n r : Nat), false) := by
 obtain ⟨w, e1, _, _, e2, e3, _⟩ := amB r
 cases r with
 | sh ws => cases h
 | product => cases h
 | least =>
  unfold ab3 adL fnP plc
  generalize ruT .least = T at *
  simp -dsimp [aaH, dr, e1, e2, e3, bOf]
 | greatest =>
  unfold ab3 adL fnP plc
  generalize ruT .greatest = T at *
  simp -dsimp [aaH, dr, e1, e2, e3, bOf]
 | mid k =>
  have e4 : gIx (ruT (.mid k)) (.int 1) = .ok (.int k, false) := rfl
  unfold ab3 adL fnP plc
  generalize ruT (.mid k) = T at *
  simp -dsimp [aaH, dr, e1, e2, e3, e4, bOf]
theorem aqs {r : Ru} {n : Nat} (h : placed r = true) (ho : amX n r) (hn : 1 <= n) : 1 <= plc n r /\ plc n r <= n := by
 cases r with
 | sh ws => cases h
 | product => cases h
 | least => exact ⟨hn, Nat.le_refl _⟩
 | greatest => exact ⟨Nat.le_refl _, hn⟩
 | mid k => exact ho
theorem ajg {r : Ru} {xs : List (Int × Int)} (hx : ∀ x ∈ xs, Wo x) (h1 : 1 <= xs.length) (h2 : xs.length <= 12) (ho : amX xs.length r) : ∃ v, abT [ruT r, aaW xs] = .ok (fT v, false) /\ Wv r xs v := by
 have hq : ∀ x ∈ xs, Fq 45 x := λx m => (hx x m).fq
 obtain ⟨w, e1, e2, e3, _⟩ := amB r
 have pl : placed r = true -> ∃ v, abT [ruT r, aaW xs] = .ok (fT v, false) /\ ∃ zs, Dsc xs zs /\ zs[plc xs.length r - 1]? = some v := λhp => by
  obtain ⟨ys, ef, hf⟩ := akS (N := 40) xs (Wo.frs hx) (by omega) (by omega) (by omega)
  have pr := aqs hp ho h1
  have ep := ajf (n := xs.length) hp
  have ly : ys.length = xs.length := by have := hf.1.length_eq; simpa using this
  obtain ⟨i, hi⟩ : ∃ i, ys[plc xs.length r - 1]? = some i := ⟨_, List.getElem?_eq_getElem (by omega)⟩
  have il : i < xs.length := by simpa using hf.1.mem_iff.mp (List.mem_of_getElem? hi)
  refine ⟨xs.getD i (0, 1), ?_, _, hf.dsc, by rw [List.getElem?_map, hi]; rfl⟩
  have gg1 : gIx (.lst (ys.map λi : Nat => Tr.int i)) (.int ((plc xs.length r - 1 : Nat) : Int)) = .ok (.int (i : Int), false) := agq (by rw [List.getElem?_map, hi]; rfl)
  have g2 := asZ il
  have el : abZ (aaW xs) = .ok (.int (xs.length : Int), false) := by
   show Rs.ok (Tr.int ((xs.map fT).length : Int), false) = _
   rw [List.length_map]
  have sub : ((plc xs.length r : Nat) : Int) - 1 = ((plc xs.length r - 1 : Nat) : Int) := by omega
  have ef' : abb [aaW xs] = .ok (.lst (ys.map λi : Nat => Tr.int i), true) := ef
  have e2 : gEq (.str w) (.str "shares") = .ok (.bl false, false) := by cases r <;> first | exact e2 | cases hp
  have e3 : gEq (.str w) (.str "product") = .ok (.bl false, false) := by cases r <;> first | exact e3 | cases hp
  unfold abT adM fnP
  generalize fT (xs.getD i (0, 1)) = R at *
  generalize Tr.lst (ys.map λi : Nat => Tr.int i) = Y at *
  generalize ruT r = T at *
  generalize aaW xs = X at *
  rw [<-sub] at gg1
  simp -dsimp [aaH, dr, drs, isS, e1, e2, e3, bOf, ef', el, ep, g1, ac3, gI, gg1, g2]
 cases r with
 | sh ws =>
  have es := agr ho.2 hq h2
  refine ⟨_, ?_, rfl⟩
  have e4 : gIx (ruT (.sh ws)) (.int 1) = .ok (aaW ws, false) := rfl
  unfold abT adM fnP
  generalize ruT (.sh ws) = T at *
  generalize fT (shF (ws.zip xs) (0, 1)) = R at *
  generalize aaW ws = W at *
  generalize aaW xs = X at *
  simp -dsimp [aaH, dr, drs, isS, e1, e2, bOf, e4, es]
 | product =>
  have es := afu hq h2
  refine ⟨_, ?_, rfl⟩
  unfold abT adM fnP
  generalize ruT .product = T at *
  generalize fT (prF xs (1, 1)) = R at *
  generalize aaW xs = X at *
  simp -dsimp [aaH, dr, drs, isS, e1, e2, e3, bOf, es]
 | least => exact pl rfl
 | greatest => exact pl rfl
 | mid k => exact pl rfl
theorem ahJ {r : Ru} {xs : List (Int × Int)} (hx : ∀ x ∈ xs, Wo x) (h1 : 1 <= xs.length) (h2 : xs.length <= 4) (ho : amX xs.length r) : ∃ v, aaL [ruT r, aaW xs] = .ok (fT v, false) /\ Wv r xs v := by
 obtain ⟨v, e, hv⟩ := ajg hx h1 (by omega) ho
 refine ⟨v, ?_, hv⟩
 have e1 := adf (aaW xs) 4 (by omega)
 have hw : adt 4 (aaW xs) = true := by
  show (decide (1 <= ((xs.map fT).length : Int)) && decide (((xs.map fT).length : Int) <= 4) && (xs.map fT).all agK) = true
  rw [List.length_map, decide_eq_true (by omega), decide_eq_true (by omega)]
  simp only [Bool.true_and, List.all_eq_true]
  intro t ht
  obtain ⟨x, hx', rfl⟩ := List.mem_map.mp ht
  exact (hx x hx').agK
 rw [hw] at e1
 have e2 := akU ho (by omega)
 have el : abZ (aaW xs) = .ok (.int (xs.length : Int), false) := by
  show Rs.ok (Tr.int ((xs.map fT).length : Int), false) = _
  rw [List.length_map]
 unfold aaL acN fnP
 generalize fT v = R at *
 generalize ruT r = T at *
 generalize aaW xs = X at *
 generalize (xs.length : Int) = N at *
 simp -dsimp [aaH, dr, drs, isS, e1, e2, el, g1, tru, e]
end BH
end
section
namespace L2
open PySem
@[simp] theorem avw (d : Str) (fa : EF) (ρ : En) : aiL d fa ρ = bd (fa ρ) (λp => bd (dr p.2 p.1) (λa => match isc a d with
 | some b => .ok (eB b, p.2)
 | none => .bad) .mk) .mk := rfl
@[simp] theorem avx (fa : EF) (ρ : En) : auX fa ρ = bd (fa ρ) (λp => bd (dr p.2 p.1) (λa => match isv a with
 | some b => .ok (eB b, p.2)
 | none => .bad) .mk) .mk := rfl
@[simp] theorem as7 (c : Str) (f : EF) (ρ : En) : aie c f ρ = bd (f ρ) (λ_ => .ex c) .mk := rfl
theorem aqt {cs : List Str} {j : Nat} {fb fh : SF} {ρ : En} {q : Fl × En} (h : fb ρ = .ok q) : amW cs j fb fh ρ = .ok q := by
 unfold amW
 rw [h]
theorem amC {cs : List Str} {j : Nat} {fb fh : SF} {ρ : En} {c : Str} (h : fb ρ = .ex c) (hc : c ∈ cs) : amW cs j fb fh ρ = bd (abX (fh (ρ.set j (.sh (.exn c))))) (λq => .ok (q.1, q.2.set j .un)) .mk := by
 unfold amW
 rw [h]
 exact if_pos hc
end L2
namespace BH
open PySem L2
end BH
end
section
namespace BH
open PySem L2
theorem as8 {ts : List Tr} {t : Tr} {k : Int} (m : t ∈ ts) (h : agK t = false) : adt k (.lst ts) = false := by
 have : ts.all agK = false := by
  cases e : ts.all agK with
  | false => rfl
  | true => rw [List.all_eq_true.mp e t m] at h; cases h
 show (decide (1 <= (ts.length : Int)) && decide ((ts.length : Int) <= k) && ts.all agK) = false
 rw [this, Bool.and_false]
theorem aqu {α : Type} (n : Nat) (l : List α) : (List.replicate n l).flatten.length = n * l.length := by
 rw [List.length_flatten, List.map_replicate, List.sum_replicate_nat]
theorem as9 (L : List Tr) (k : Nat) : gSl none (some (k : Int)) (.lst L) = .ok (.lst (L.take k), true) := by
 show Rs.ok (Tr.lst (L2.cut L none (some (k : Int))), true) = _
 rw [asY]
theorem aoc (L : List Tr) (k : Nat) : gSl (some (k : Int)) none (.lst L) = .ok (.lst (L.drop k), true) := by
 show Rs.ok (Tr.lst (L2.cut L (some (k : Int)) none), true) = _
 rw [aoa]
theorem amD {A B : List Tr} (h : A.length + B.length <= 100000) : aa9 (.lst A) (.lst B) = .ok (.lst (A ++ B), true) := by
 show (if A.length + B.length <= 100000 then Rs.ok (Tr.lst (A ++ B), true) else .bad) = _
 rw [if_pos h]
theorem akj {A : List Tr} {k : Nat} (h : A.length <= 100) (hk : k <= 1000) : abz (.lst A) (.int (k : Nat)) = .ok (.lst (List.replicate k A).flatten, true) := by
 show (if (-1000 <= (k : Int) /\ (k : Int) <= 1000) /\ A.length <= 100 then Rs.ok (Tr.lst (List.replicate (k : Int).toNat A).flatten, true) else .bad) = _
 rw [if_pos (by omega), Int.toNat_natCast]
theorem aod {ts : List Tr} {k : Nat} (h : k < ts.length) : adt k (.lst ts) = false := by
 show (decide (1 <= (ts.length : Int)) && decide ((ts.length : Int) <= (k : Int)) && ts.all agK) = false
 rw [decide_eq_false (p := (ts.length : Int) <= (k : Int)) (by omega)]
 simp
theorem ahK {R T : Tr} (h : adt 4 T = false) : aaL [R, T] = .ex "NoWorth" := by
 have e := adf T 4 (by omega)
 rw [h] at e
 unfold aaL acN fnP
 simp -dsimp [aaH, drs, dr, isS, e, tru]
theorem ahL {R : Tr} {xs : List (Int × Int)} (h : adt 4 (aaW xs) = true) (hr : abj [R, .int (xs.length : Nat)] = .ok (.bl false, false)) : aaL [R, aaW xs] = .ex "NoRule" := by
 have e := adf (aaW xs) 4 (by omega)
 rw [h] at e
 have el : abZ (aaW xs) = .ok (.int (xs.length : Nat), false) := by
  show Rs.ok (Tr.int ((xs.map fT).length : Int), false) = _
  rw [List.length_map]
 generalize aaW xs = X at *
 generalize Tr.int (xs.length : Nat) = N at *
 unfold aaL acN fnP
 simp -dsimp [aaH, drs, dr, isS, e, tru, g1, el, hr]
end BH
end
section
namespace K12
open PySem L2 BH
theorem amE (a b : Int) : afH [.int a, .int b] = .ok (.int (Int.gcd a b : Nat), false) := amu a b
theorem adh (n k : Int) (h : 0 < k) (hk : k.natAbs < 2 ^ 60) : ∃ x m, abK [.lst [.int n], .int k] = .ok ((.int x, false), [.int m]) /\ 0 <= x /\ x < k := by
 have h0 : k ≠ 0 := by omega
 have h1 : alW n k = true := ae5 (M := 60) h0 hk (by omega)
 refine ⟨n.fmod k, n.fdiv k, ?_, akT n k h⟩
 unfold abK aoW fnR
 simp -dsimp [abX, frz, dow, abI, con, adX, eB, bOf, tru, dr, drs, cls, clV, aeF, g1, g2, gI, gIC, gB, gEq, gNe, gIn, aa9, abz, ac2, ace, acw, ac3, gLt, gGt, gLe, gGe, gIx, abZ, ad8, aci, aa5, ad9, aea, ac5, adU, okR, iOf, isS, others, acL, abQ, acV, adK, aeb, aaJ, abE, aaN, aaZ, aa0, aaU, aaD, aay, aa6, abF, abx, adS, atI, ixN, aaH, h0, h1, agC, aoI]
theorem akk {a b : Int} {M : Nat} (hb : 1 <= b) (hb2 : b < 2 ^ M) (hM : M <= 8000) : ad3 [.int a, .int b] = .ok (fT (red a b), false) := by
 obtain ⟨g1, g2, _⟩ := ael (a := a) (b := b) (by omega)
 have e1 : a.fdiv (Int.gcd a b : Nat) = a / (Int.gcd a b : Nat) := Int.fdiv_eq_ediv_of_nonneg _ (by omega)
 have e2 : b.fdiv (Int.gcd a b : Nat) = b / (Int.gcd a b : Nat) := Int.fdiv_eq_ediv_of_nonneg _ (by omega)
 have hs := amE a b
 have np := aqP M
 unfold ad3 aoX fnP fT red
 generalize hg : ((Int.gcd a b : Nat) : Int) = g at *
 have h3 : ¬ b < 0 := by omega
 have c1 : ∀ n, alW n g = true := λn => ae5 (M := M) (by omega) (by omega) hM
 simp -dsimp [abX, frz, dow, abI, con, adX, eB, bOf, tru, dr, drs, cls, clV, aeF, g1, g2, gI, gIC, gB, gEq, gNe, gIn, aa9, abz, ac2, ace, acw, ac3, gLt, gGt, gLe, gGe, gIx, abZ, ad8, aci, aa5, ad9, aea, ac5, adU, okR, iOf, isS, others, acL, abQ, acV, adK, aeb, aaJ, abE, aaN, aaZ, aa0, aaU, aaD, aay, aa6, abF, abx, adS, atI, ixN, aaH, hs, h3, c1, e1, e2]
noncomputable def clB : SF := (aaP (abG (eOp ace (eOp aa9 (eOp aa9 (eOp abz (aai 3) (aai 3)) (eOp abz (eC (.int 69621)) (aai 5))) (eC (.int 7))) (eC (.int 2147483587))) (gN 3)) (abG (eOp aa9 (eOp abz (aai 4) (eC (.int 2147483563))) (eOp ace (eOp abz (aai 3) (aai 3)) (eC (.int 2147483563)))) (gN 4)))
theorem amF (s0 s1 s2 : Sl) : ∀ (us : List Tr) (num fnd : Int) (s5 : Sl), 0 <= num -> num < 3000000000 -> (∀ u ∈ us, ∃ j : Int, u = .int j /\ 0 <= j /\ j < 1000) -> ∃ x y t5, acj (gN 5) clB us [s0, s1, s2, .sh (.int num), .sh (.int fnd), s5] = .ok (.nx, [s0, s1, s2, .sh (.int x), .sh (.int y), t5])
 | [], num, fnd, s5, _, _, _ => ⟨num, fnd, s5, rfl⟩
 | u :: us, num, fnd, s5, h0, h1, h => by
  obtain ⟨j, rfl, j0, j1⟩ := h u (by simp)
  have c1 : afa num num = true := aqp (by omega)
  have c2 : afa 69621 j = true := aqp (by omega)
  have rA := akT (num * num + 69621 * j + 7) 2147483587 (by omega)
  generalize hA : (num * num + 69621 * j + 7).fmod 2147483587 = A at rA
  have c3 : afa A A = true := aqp (by omega)
  have c4 : afa fnd 2147483563 = true := ajd (by omega)
  generalize hB : (A * A).fmod 2147483563 = B
  obtain ⟨x, y, t5, e'⟩ := amF s0 s1 s2 us A (fnd * 2147483563 + B) (.sh (.int j)) rA.1 (by omega) λv hv => h v (by simp [hv])
  have e : clB [s0, s1, s2, .sh (.int num), .sh (.int fnd), .sh (.int j)] = .ok (.nx, [s0, s1, s2, .sh (.int A), .sh (.int (fnd * 2147483563 + B)), .sh (.int j)]) := by
   unfold clB
   simp -dsimp [dr, abz, gIC, c1, c2, aa9, gI, ace, hA, c3, c4, hB]
  refine ⟨x, y, t5, ?_⟩
  unfold acj
  simp [e, e']
noncomputable def clT : SF := (aaP (sIf (abm (eOp gGe (aai 2) (eOp acw (eC (.int 10)) (eC (.int 18))))) (abO (eOp ace (eOp ac3 (aai 2) (eOp acw (eC (.int 10)) (eC (.int 18)))) (eOp acw (eC (.int 10)) (eC (.int 60))))) adp) (aaP (abG (eOp ace (eOp aa9 (eOp aa9 (eOp abz (aai 2) (eC (.int 48271))) (eOp abz (aai 1) (eC (.int 69621)))) (eC (.int 11))) (eC (.int 2147483629))) (gN 3)) (aaP (abG (eC (.int 0)) (gN 4)) (aaP (adV (agx (akG (aaf (eC (.int 8)) aax)) (gN 5) clB)) (abO (aai 4))))))
theorem aoe : aoV = (aaP (abG (eC (.int 0)) (gN 2)) (aaP (sIf (abm (eOp gLt (aai 1) (eCB (g1 abZ) (aaf (aai 0) aax)))) (abG (eOp gIx (aai 0) (aai 1)) (gN 2)) adp) clT)) := rfl
theorem ao1 (s0 : Sl) (k cell : Int) : ∃ x ρ, clT [s0, .sh (.int k), .sh (.int cell), .un, .un, .un] = .ok (.rt (.int x) false, ρ) := by
 have p18 : acw (.int 10) (.int 18) = .ok (.int 1000000000000000000, false) := by kernel_rfl
 by_cases h : 1000000000000000000 <= cell
 ·have p60 : acw (.int 10) (.int 60) = .ok (.int (10 ^ 60), false) := by kernel_rfl
  have m60 : ace (.int (cell - 1000000000000000000)) (.int (10 ^ 60)) = .ok (.int ((cell - 1000000000000000000).fmod (10 ^ 60)), false) := by
   show (if decide ((10 : Int) ^ 60 ≠ 0) = true then Rs.ok (Tr.int ((cell - 1000000000000000000).fmod (10 ^ 60)), false) else .bad) = _
   rw [if_pos (by decide)]
  generalize (10 : Int) ^ 60 = P at *
  refine ⟨(cell - 1000000000000000000).fmod P, [s0, .sh (.int k), .sh (.int cell), .un, .un, .un], ?_⟩
  unfold clT
  simp -dsimp [dr, p18, gGe, gB, h, bOf, p60, ac3, gI, m60]
 ·have c1 : afa cell 48271 = true := ajd (by omega)
  have c2 : afa k 69621 = true := ajd (by omega)
  have rA := akT (cell * 48271 + k * 69621 + 11) 2147483629 (by omega)
  generalize hA : (cell * 48271 + k * 69621 + 11).fmod 2147483629 = A at rA
  obtain ⟨x, y, t5, e⟩ := amF s0 (.sh (.int k)) (.sh (.int cell)) (L2.upTo 0 8) A 0 .un rA.1 (by omega) λu hu => by
   rw [adR] at hu
   obtain ⟨i, hi, rfl⟩ := List.mem_map.mp hu
   have := List.mem_range.mp hi
   exact ⟨i, rfl, by omega, by omega⟩
  have e1 : adV (agx (akG (aaf (eC (.int 8)) aax)) (gN 5) clB) [s0, .sh (.int k), .sh (.int cell), .sh (.int A), .sh (.int 0), .un] = .ok (.nx, [s0, .sh (.int k), .sh (.int cell), .sh (.int x), .sh (.int y), t5]) := by
   show abX (acj (gN 5) clB (L2.upTo 0 8) _) = _
   rw [e]
   rfl
  refine ⟨y, [s0, .sh (.int k), .sh (.int cell), .sh (.int x), .sh (.int y), t5], ?_⟩
  unfold clT
  generalize adV _ = G at e1 ⊢
  simp -dsimp [dr, p18, gGe, gB, h, bOf, abz, gIC, c1, c2, aa9, gI, ace, hA, e1]
theorem cell_eq (ns : List Int) (k : Nat) : ∃ x : Int, ab0 [.lst (ns.map .int), .int k] = .ok (.int x, false) := by
 unfold ab0
 rw [aoe]
 have el : abZ (.lst (ns.map .int)) = .ok (.int (ns.length : Int), false) := by
  show Rs.ok (Tr.int ((ns.map Tr.int).length : Int), false) = _
  rw [List.length_map]
 by_cases h : k < ns.length
 ·have e := an9 (xs := ns.map .int) (i := k) (T := .int ns[k]) (by simp [h])
  obtain ⟨x, ρ, e1⟩ := ao1 (.sh (.lst (ns.map .int))) k ns[k]
  refine ⟨x, ?_⟩
  unfold fnP
  generalize clT = G at e1 ⊢
  generalize ns[k] = cell at e e1
  have q : (k : Int) < ns.length := by omega
  generalize Tr.lst (ns.map .int) = T at *
  simp -dsimp [aaH, dr, drs, g1, el, gLt, gB, q, bOf, e, e1]
 ·obtain ⟨x, ρ, e1⟩ := ao1 (.sh (.lst (ns.map .int))) k 0
  refine ⟨x, ?_⟩
  unfold fnP
  generalize clT = G at e1 ⊢
  have q : ¬ (k : Int) < ns.length := by omega
  generalize Tr.lst (ns.map .int) = T at *
  simp -dsimp [aaH, dr, drs, g1, el, gLt, gB, q, bOf, e1]
noncomputable def Wq (y : Int × Int) : Prop := Wo y /\ y.2 <= 120000000000
theorem ata {z b : Int} (h0 : 0 <= z) (h1 : z <= b) (h2 : 1 <= b) (h3 : b <= 120000000000) : Wq (red z b) := by
 obtain ⟨g1, g2, g3, g4, g5, g6, g7⟩ := ael (a := z) (b := b) (by omega)
 have d2 := Int.ediv_le_self (a := b) ((Int.gcd z b : Nat) : Int) (by omega)
 have d3 := Int.ediv_le_ediv g1 h1
 exact ⟨⟨g5 h0, d3, g3, by show b / ((Int.gcd z b : Nat) : Int) <= _; omega, g4⟩, by show b / ((Int.gcd z b : Nat) : Int) <= _; omega⟩
noncomputable def woE : EF := (aau ad3 (aaf (eCB (g2 aea) (aaf (eC (.int 0)) (aaf (eCB (g2 ad9) (aaf (aai 1) (aaf (aai 2) aax))) aax))) (aaf (aai 1) aax)))
theorem ao2 (s0 : Sl) {b t : Int} (hb : 1 <= b) (hb2 : b <= 120000000000) : ∃ y, woE [s0, .sh (.int b), .sh (.int t)] = .ok (.v (fT y) false, [s0, .sh (.int b), .sh (.int t)]) /\ Wq y := by
 have mn : ad9 (.int b) (.int t) = .ok (.int (if t < b then t else b), false) := rfl
 generalize hm : (if t < b then t else b) = m at mn
 have hm' : m <= b := by rw [<-hm]; split <;> omega
 have mx : aea (.int 0) (.int m) = .ok (.int (if m > 0 then m else 0), false) := rfl
 generalize hz : (if m > 0 then m else 0) = z at mx
 have hz0 : 0 <= z /\ z <= b := by rw [<-hz]; split <;> omega
 have e := akk (a := z) (b := b) (M := 60) hb (by omega) (by omega)
 refine ⟨red z b, ?_, ata hz0.1 hz0.2 hb hb2⟩
 generalize fT (red z b) = R at *
 unfold woE
 simp -dsimp [dr, drs, isS, g2, mn, mx, e]
noncomputable def wo2 : SF := (aaP (sIf (abm (eOp gEq (abv 0 abK (aaf (aai 0) (aaf (eC (.int 8)) aax))) (eC (.int 7)))) (aaP (abG (eOp ac3 (eOp aa9 (eOp abz (aai 2) (eOp acw (eC (.int 10)) (eC (.int 10)))) (abv 0 abK (aaf (aai 0) (aaf (eC (.int 5)) aax)))) (eC (.int 2))) (gN 2)) (abG (eOp abz (aai 1) (eOp acw (eC (.int 10)) (eC (.int 10)))) (gN 1))) adp) (abO woE))
theorem atb (n b t : Int) (hb : 1 <= b) (hb2 : b <= 12) (ht : 0 <= t) (ht2 : t <= 12) : ∃ y m ρ, wo2 [.rf [.int n], .sh (.int b), .sh (.int t)] = .ok (.rt (fT y) false, .rf [.int m] :: ρ) /\ Wq y := by
 obtain ⟨x, n1, e1, x0, x1⟩ := adh n 8 (by omega) (by decide)
 have p10 : acw (.int 10) (.int 10) = .ok (.int 10000000000, false) := by kernel_rfl
 by_cases h : x = 7
 ·subst h
  obtain ⟨z, n2, e2, z0, z1⟩ := adh n1 5 (by omega) (by decide)
  have c1 : afa t 10000000000 = true := ajd (by omega)
  have c2 : afa b 10000000000 = true := ajd (by omega)
  obtain ⟨y, e3, hy⟩ := ao2 (.rf [.int n2]) (b := b * 10000000000) (t := t * 10000000000 + z - 2) (by omega) (by omega)
  refine ⟨y, n2, [.sh (.int (b * 10000000000)), .sh (.int (t * 10000000000 + z - 2))], ?_, hy⟩
  generalize fT y = R at *
  unfold wo2
  generalize woE = G at e3 ⊢
  simp -dsimp [con, drs, dr, isS, others, abI, e1, gEq, aaJ, aa6, bOf, p10, abz, gIC, c1, c2, e2, aa9, ac3, gI, e3]
 ·obtain ⟨y, e3, hy⟩ := ao2 (.rf [.int n1]) (b := b) (t := t) (by omega) (by omega)
  refine ⟨y, n1, [.sh (.int b), .sh (.int t)], ?_, hy⟩
  have q : (x == 7) = false := by simp [h]
  generalize fT y = R at *
  unfold wo2
  generalize woE = G at e3 ⊢
  simp -dsimp [con, drs, dr, isS, others, abI, e1, gEq, aaJ, aa6, q, bOf, e3]
theorem aof (n : Int) : ∃ y m, ac9 [.lst [.int n]] = .ok ((fT y, false), [.int m]) /\ Wq y := by
 obtain ⟨x, n1, e1, x0, x1⟩ := adh n 7 (by omega) (by decide)
 obtain ⟨b, eb, b0, b1⟩ : ∃ b : Int, gIx (.lst [.int 1, .int 2, .int 3, .int 4, .int 6, .int 10, .int 12]) (.int x) = .ok (.int b, false) /\ 1 <= b /\ b <= 12 := by
  rcases (show x = 0 \/ x = 1 \/ x = 2 \/ x = 3 \/ x = 4 \/ x = 5 \/ x = 6 by omega) with rfl | rfl | rfl | rfl | rfl | rfl | rfl
  ·exact ⟨1, rfl, by omega, by omega⟩
  ·exact ⟨2, rfl, by omega, by omega⟩
  ·exact ⟨3, rfl, by omega, by omega⟩
  ·exact ⟨4, rfl, by omega, by omega⟩
  ·exact ⟨6, rfl, by omega, by omega⟩
  ·exact ⟨10, rfl, by omega, by omega⟩
  ·exact ⟨12, rfl, by omega, by omega⟩
 obtain ⟨t, n2, e2, t0, t1⟩ := adh n1 (b + 1) (by omega) (by omega)
 obtain ⟨y, m, ρ, e3, hy⟩ := atb n2 b t b0 b1 t0 (by omega)
 refine ⟨y, m, ?_, hy⟩
 show fnR 3 0 (aaP (abG (eOp gIx (eCL [.int 1, .int 2, .int 3, .int 4, .int 6, .int 10, .int 12]) (abv 0 abK (aaf (aai 0) (aaf (eC (.int 7)) aax)))) (gN 1)) (aaP (abG (abv 0 abK (aaf (aai 0) (aaf (eOp aa9 (aai 1) (eC (.int 1))) aax))) (gN 2)) wo2)) [.lst [.int n]] = _
 generalize wo2 = G at e3 ⊢
 generalize fT y = R at *
 unfold fnR
 generalize ([.int 1, .int 2, .int 3, .int 4, .int 6, .int 10, .int 12] : List Tr) = L at *
 simp -dsimp [aaH, con, drs, dr, isS, others, abI, abX, agC, aoI, e1, eb, aa9, e2, e3]
theorem akl {f : EF} {h : Int × Int -> Tr} : ∀ (xs : List (Int × Int)) (s0 s1 : Sl), (∀ x ∈ xs, ∃ fr, f [.sh (.int x.1), .sh (.int x.2)] = .ok (.v (h x) fr, [.sh (.int x.1), .sh (.int x.2)])) -> ∃ t0 t1, adq (gT 2 (aaA (gN 0) (aaA (gN 1) ab1))) aeT f (xs.map fT) [s0, s1] = .ok (xs.map h, [t0, t1])
 | [], s0, s1, _ => ⟨s0, s1, rfl⟩
 | x :: xs, s0, s1, q => by
  obtain ⟨fr, e⟩ := q x (by simp)
  obtain ⟨t0, t1, e'⟩ := akl xs (.sh (.int x.1)) (.sh (.int x.2)) λv hv => q v (by simp [hv])
  refine ⟨t0, t1, ?_⟩
  rw [List.map_cons]
  unfold adq
  rw [show (gT 2 (aaA (gN 0) (aaA (gN 1) ab1))) (fT x) [s0, s1] = .ok [.sh (.int x.1), .sh (.int x.2)] from rfl]
  simp [e, clV, e']
theorem atc {f : EF} {h : Int × Int -> Tr} {i : IF} {ρ : En} {xs : List (Int × Int)} (hl : xs.length <= 100000) (hi : i ρ = .ok (xs.map fT, ρ)) (q : ∀ x ∈ xs, ∃ fr, f [.sh (.int x.1), .sh (.int x.2)] = .ok (.v (h x) fr, [.sh (.int x.1), .sh (.int x.2)])) :
  acn [none, none] i (gT 2 (aaA (gN 0) (aaA (gN 1) ab1))) aeT f ρ = .ok (.v (.lst (xs.map h)) true, ρ) := by
 obtain ⟨t0, t1, e⟩ := akl xs .un .un q
 have hl' : (xs.map fT).length <= 100000 := by rw [List.length_map]; exact hl
 rw [ake, hi]
 simp only [aqk]
 rw [if_pos hl', show acL [none, none] ρ = [.un, .un] from rfl, e]
 rfl
noncomputable def ruE : EF := (afZ (aaf (abv 0 abK (aaf (aai 1) (aaf (eC (.int 7)) aax))) (aaf (eOp aa9 (eC (.int 1)) (abv 0 abK (aaf (aai 1) (aaf (eC (.int 4)) aax)))) aax)))
noncomputable def P1 (p : Int × Int) : Prop := 0 <= p.1 /\ p.1 <= 600000000001 /\ 1 <= p.2 /\ p.2 <= 400000000000
noncomputable def P0 (p : Int × Int) : Prop := 0 <= p.1 /\ p.1 <= 6 /\ 1 <= p.2 /\ p.2 <= 4
theorem amG : ∀ (us : List Tr) (s : Sl) (n : Int), ∃ (ws : List (Int × Int)) (s' : Sl) (m : Int), adq (gN 0) aeT ruE us [s, .ow [.int n]] = .ok (ws.map fT, [s', .ow [.int m]]) /\ ws.length = us.length /\ ∀ w ∈ ws, P0 w
 | [], s, n => ⟨[], s, n, rfl, rfl, by simp⟩
 | u :: us, s, n => by
  obtain ⟨x, n1, e1, x0, x1⟩ := adh n 7 (by omega) (by decide)
  obtain ⟨y, n2, e2, y0, y1⟩ := adh n1 4 (by omega) (by decide)
  obtain ⟨ws, s', m, e', hl, hp⟩ := amG us (.sh u) n2
  refine ⟨(x, 1 + y) :: ws, s', m, ?_, by simp [hl], λw hw => (List.mem_cons.mp hw).elim (λz => z ▸ ⟨x0, by show x <= 6; omega, by show 1 <= 1 + y; omega, by show 1 + y <= 4; omega⟩) (hp w)⟩
  have e : ruE [.sh u, .ow [.int n]] = .ok (.v (fT (x, 1 + y)) false, [.sh u, .ow [.int n2]]) := by
   unfold ruE fT
   simp -dsimp [con, drs, dr, isS, others, abI, cls, e1, aa9, e2]
  generalize ruE = G at e e' ⊢
  unfold adq
  simp [e, clV, e']
noncomputable def ruS : SF := (abO (afZ (aaf (eC (.str "shares")) (aaf (acn [none, none] (fSq (aai 4)) (gT 2 (aaA (gN 0) (aaA (gN 1) ab1))) aeT (aau ad3 (aaf (aai 0) (aaf (aai 1) aax)))) aax))))
theorem ao3 (s0 s1 s2 s3 : Sl) {ws : List (Int × Int)} (hw : ∀ w ∈ ws, P1 w) (hl : ws.length <= 4) : ∃ vs ρ, ruS [s0, s1, s2, s3, .sh (aaW ws)] = .ok (.rt (ruT (.sh vs)) false, ρ) /\ vs.length = ws.length /\ ∀ v ∈ vs, Fq 45 v := by
 have e := atc (f := aau ad3 (aaf (aai 0) (aaf (aai 1) aax))) (h := λx => fT (red x.1 x.2)) (i := fSq (aai 4)) (ρ := [s0, s1, s2, s3, .sh (aaW ws)]) (xs := ws) (by omega) rfl (λx hx => ⟨false, by
  obtain ⟨h1, h2, h3, h4⟩ := hw x hx
  have := akk (a := x.1) (b := x.2) (M := 60) h3 (by omega) (by omega)
  generalize fT (red x.1 x.2) = R at *
  simp -dsimp [drs, dr, isS, this]⟩)
 refine ⟨ws.map λx => red x.1 x.2, [s0, s1, s2, s3, .sh (aaW ws)], ?_, by simp, λv hv => ?_⟩
 ·have hr : Tr.lst (ws.map λx => fT (red x.1 x.2)) = aaW (ws.map λx => red x.1 x.2) := by unfold aaW; rw [List.map_map]; rfl
  rw [hr] at e
  show _ = Rs.ok (Fl.rt (.tup [.str "shares", aaW (ws.map λx => red x.1 x.2)]) false, _)
  unfold ruS
  generalize acn _ _ _ _ _ = G at e ⊢
  generalize aaW (ws.map λx => red x.1 x.2) = R at *
  generalize aaW ws = T at *
  simp -dsimp [cls, e]
 ·obtain ⟨x, hx, rfl⟩ := List.mem_map.mp hv
  obtain ⟨h1, h2, h3, h4⟩ := hw x hx
  exact amy h1 (by omega) h3 (by omega)
noncomputable def ru4 : SF := (aaP (sIf (abm (eOp gEq (abv 0 abK (aaf (aai 2) (aaf (eC (.int 8)) aax))) (eC (.int 7)))) (abG (acn [none, none] (fSq (aai 4)) (gT 2 (aaA (gN 0) (aaA (gN 1) ab1))) aeT (afZ (aaf (eOp aa9 (eOp abz (aai 0) (eOp acw (eC (.int 10)) (eC (.int 11)))) (eC (.int 1))) (aaf (eOp abz (aai 1) (eOp acw (eC (.int 10)) (eC (.int 11)))) aax)))) (gN 4)) adp) ruS)
theorem atd (s0 s1 s3 : Sl) (n : Int) {ws : List (Int × Int)} (hw : ∀ w ∈ ws, P0 w) (hl : ws.length <= 4) : ∃ vs ρ, ru4 [s0, s1, .ow [.int n], s3, .sh (aaW ws)] = .ok (.rt (ruT (.sh vs)) false, ρ) /\ vs.length = ws.length /\ ∀ v ∈ vs, Fq 45 v := by
 obtain ⟨x, n1, e1, x0, x1⟩ := adh n 8 (by omega) (by decide)
 have p11 : acw (.int 10) (.int 11) = .ok (.int 100000000000, false) := by kernel_rfl
 by_cases h : x = 7
 ·subst h
  have e := atc (f := (afZ (aaf (eOp aa9 (eOp abz (aai 0) (eOp acw (eC (.int 10)) (eC (.int 11)))) (eC (.int 1))) (aaf (eOp abz (aai 1) (eOp acw (eC (.int 10)) (eC (.int 11)))) aax)))) (h := λx => fT (x.1 * 100000000000 + 1, x.2 * 100000000000)) (i := fSq (aai 4)) (ρ := [s0, s1, .ow [.int n1], s3, .sh (aaW ws)]) (xs := ws) (by omega) rfl (λx hx => ⟨false, by
   have c1 : afa x.1 100000000000 = true := ajd (by omega)
   have c2 : afa x.2 100000000000 = true := ajd (by omega)
   unfold fT
   simp -dsimp [dr, p11, abz, gIC, c1, c2, aa9, cls]⟩)
  obtain ⟨vs, ρ, e2, h1, h2⟩ := ao3 s0 s1 (.ow [.int n1]) s3 (ws := ws.map λx => (x.1 * 100000000000 + 1, x.2 * 100000000000)) (λw hw' => by
   obtain ⟨x, hx, rfl⟩ := List.mem_map.mp hw'
   obtain ⟨h1, h2, h3, h4⟩ := hw x hx
   exact ⟨by show 0 <= x.1 * 100000000000 + 1; omega, by show x.1 * 100000000000 + 1 <= _; omega, by show 1 <= x.2 * 100000000000; omega, by show x.2 * 100000000000 <= _; omega⟩) (by simpa using hl)
  refine ⟨vs, ρ, ?_, by simpa using h1, h2⟩
  have hr : Tr.lst (ws.map λx => fT (x.1 * 100000000000 + 1, x.2 * 100000000000)) = aaW (ws.map λx => (x.1 * 100000000000 + 1, x.2 * 100000000000)) := by unfold aaW; rw [List.map_map]; rfl
  rw [hr] at e
  unfold ru4
  generalize ruS = G2 at e2 ⊢
  generalize acn _ _ _ _ _ = G at e ⊢
  generalize aaW (ws.map λx => (x.1 * 100000000000 + 1, x.2 * 100000000000)) = R at *
  generalize aaW ws = T at *
  simp -dsimp [con, drs, dr, isS, others, abI, e1, gEq, aaJ, aa6, bOf, e, e2]
 ·obtain ⟨vs, ρ, e2, h1, h2⟩ := ao3 s0 s1 (.ow [.int n1]) s3 (ws := ws) (λw hw' => by
   obtain ⟨h1, h2, h3, h4⟩ := hw w hw'
   exact ⟨h1, by omega, h3, by omega⟩) hl
  refine ⟨vs, ρ, ?_, h1, h2⟩
  have q : (x == 7) = false := by simp [h]
  unfold ru4
  generalize ruS = G2 at e2 ⊢
  generalize aaW ws = T at *
  simp -dsimp [con, drs, dr, isS, others, abI, e1, gEq, aaJ, aa6, q, bOf, e2]
noncomputable def ru3 : SF := (aaP (abG (acn [none, some 2] (akG (aaf (aai 1) aax)) (gN 0) aeT ruE) (gN 4)) ru4)
theorem ate (s0 s3 s4 : Sl) (n : Int) (k : Nat) (hk : k <= 4) : ∃ vs ρ, ru3 [s0, .sh (.int k), .ow [.int n], s3, s4] = .ok (.rt (ruT (.sh vs)) false, ρ) /\ vs.length = k /\ ∀ v ∈ vs, Fq 45 v := by
 obtain ⟨ws, s', m, e, hl, hp⟩ := amG (L2.upTo 0 k) .un n
 have ul : (L2.upTo 0 k).length = k := by rw [adR]; simp
 rw [ul] at hl
 obtain ⟨vs, ρ, e2, h1, h2⟩ := atd s0 (.sh (.int k)) s3 m hp (by omega)
 refine ⟨vs, ρ, ?_, h1.trans hl, h2⟩
 have q1 : (-1000000 : Int) <= k := by omega
 have q2 : (k : Int) <= 1000000 := by omega
 have q3 : k <= 100000 := by omega
 have hrow : Tr.lst (ws.map fT) = aaW ws := rfl
 unfold ru3
 generalize ruE = G at e ⊢
 generalize ru4 = G2 at e2 ⊢
 generalize aaW ws = R at *
 generalize ws.map fT = L at *
 subst hrow
 simp -dsimp [abX, frz, dow, abI, con, adX, eB, bOf, tru, dr, drs, cls, clV, aeF, g1, g2, adU, okR, iOf, isS, others, acL, abQ, acV, adK, aeb, aaH, acZ, q1, q2, q3, ul, e, e2]
theorem aog : aoY = (aaP (akF 2 (afn (aaf (aai 0) aax))) (aaP (abG (abv 0 abK (aaf (aai 2) (aaf (eC (.int 6)) aax))) (gN 3)) (aaP (sIf (abm (eOp gLt (aai 3) (eC (.int 2)))) ru3 adp) (aaP (sIf (abm (eOp gEq (aai 3) (eC (.int 2)))) (abO (afZ (aaf (eC (.str "middle")) (aaf (eOp aa9 (eC (.int 1)) (abv 0 abK (aaf (aai 2) (aaf (aai 1) aax)))) aax)))) adp) (abO (eOp gIx (eCL [.tup [.str "least"], .tup [.str "greatest"], .tup [.str "product"]]) (eOp ac3 (aai 3) (eC (.int 3))))))))) := rfl
theorem aqv (n : Int) {k : Nat} (h1 : 1 <= k) (h4 : k <= 4) : ∃ r, ag6 [.int n, .int k] = .ok (ruT r, false) /\ amX k r := by
 obtain ⟨x, n1, e1, x0, x1⟩ := adh n 6 (by omega) (by decide)
 unfold ag6
 rw [aog]
 by_cases h2 : x < 2
 ·obtain ⟨vs, ρ, e2, a1, a2⟩ := ate (.sh (.int n)) (.sh (.int x)) .un n1 k h4
  refine ⟨.sh vs, ?_, a1, a2⟩
  generalize ru3 = G at e2 ⊢
  generalize ruT (.sh vs) = R at *
  unfold fnP
  simp -dsimp [aaH, con, drs, dr, isS, others, abI, cls, e1, gLt, gB, h2, bOf, e2]
 ·by_cases h3 : x = 2
  ·subst h3
   obtain ⟨y, n2, e2, y0, y1⟩ := adh n1 k (by omega) (by omega)
   obtain ⟨j, hj⟩ : ∃ j : Nat, (j : Int) = 1 + y := ⟨(1 + y).toNat, by omega⟩
   refine ⟨.mid j, ?_, by omega, by omega⟩
   show _ = Rs.ok (Tr.tup [.str "middle", .int j], false)
   unfold fnP
   generalize ru3 = G
   simp -dsimp [aaH, con, drs, dr, isS, others, abI, cls, e1, gLt, gB, bOf, gEq, aaJ, aa6, aa9, e2, hj]
  ·have q : (x == 2) = false := by simp [h3]
   obtain ⟨r, er, hr⟩ : ∃ r, gIx (.lst [.tup [.str "least"], .tup [.str "greatest"], .tup [.str "product"]]) (.int (x - 3)) = .ok (ruT r, false) /\ amX k r := by
    rcases (show x = 3 \/ x = 4 \/ x = 5 by omega) with rfl | rfl | rfl
    ·exact ⟨.least, rfl, trivial⟩
    ·exact ⟨.greatest, rfl, trivial⟩
    ·exact ⟨.product, rfl, trivial⟩
   refine ⟨r, ?_, hr⟩
   generalize ([.tup [.str "least"], .tup [.str "greatest"], .tup [.str "product"]] : List Tr) = L at *
   generalize ru3 = G
   generalize ruT r = R at *
   unfold fnP
   simp -dsimp [aaH, con, drs, dr, isS, others, abI, cls, e1, gLt, gB, h2, bOf, gEq, aaJ, aa6, q, ac3, gI, er]
end K12
end
section
namespace K12
open PySem L2 BH
theorem amH : ∀ (us : List Tr) (s : Sl) (n : Int), ∃ (ws : List (Int × Int)) (s' : Sl) (m : Int), adq (gN 0) aeT (abv 0 ac9 (aaf (aai 1) aax)) us [s, .ow [.int n]] = .ok (ws.map fT, [s', .ow [.int m]]) /\ ws.length = us.length /\ ∀ w ∈ ws, Wq w
 | [], s, n => ⟨[], s, n, rfl, rfl, by simp⟩
 | u :: us, s, n => by
  obtain ⟨y, n1, e, hy⟩ := aof n
  obtain ⟨ws, s', m, e', hl, hp⟩ := amH us (.sh u) n1
  refine ⟨y :: ws, s', m, ?_, by simp [hl], λw hw => (List.mem_cons.mp hw).elim (λz => z ▸ hy) (hp w)⟩
  have e1 : abv 0 ac9 (aaf (aai 1) aax) [.sh u, .ow [.int n]] = .ok (.v (fT y) false, [.sh u, .ow [.int n1]]) := by
   generalize fT y = Y at *
   simp -dsimp [con, drs, dr, isS, others, abI, e]
  generalize abv 0 ac9 (aaf (aai 1) aax) = G at e1 e' ⊢
  unfold adq
  simp [e1, clV, e']
noncomputable def woC : EF := (acn [none, some 2] (akG (aaf (aai 1) aax)) (gN 0) aeT (abv 0 ac9 (aaf (aai 1) aax)))
theorem atf (s0 : Sl) (k : Nat) (hk : k <= 4) (n : Int) (τ : En) : ∃ xs m, woC (s0 :: .sh (.int k) :: .ow [.int n] :: τ) = .ok (.v (aaW xs) true, s0 :: .sh (.int k) :: .ow [.int m] :: τ) /\ xs.length = k /\ ∀ x ∈ xs, Wq x := by
 obtain ⟨ws, s', m, e, hl, hp⟩ := amH (L2.upTo 0 k) .un n
 have ul : (L2.upTo 0 k).length = k := by rw [adR]; simp
 rw [ul] at hl
 refine ⟨ws, m, ?_, hl, hp⟩
 have q1 : (-1000000 : Int) <= k := by omega
 have q2 : (k : Int) <= 1000000 := by omega
 have q3 : k <= 100000 := by omega
 unfold aaW woC
 generalize abv 0 ac9 (aaf (aai 1) aax) = G at e ⊢
 generalize ws.map fT = L at *
 simp -dsimp [abX, frz, dow, abI, con, adX, eB, bOf, tru, dr, drs, cls, clV, aeF, g1, g2, adU, okR, iOf, isS, others, acL, abQ, acV, adK, aeb, aaH, acZ, q1, q2, q3, ul, e]
theorem aoh : acP [.non] = .ok (.lst [], true) := by kernel_rfl
theorem aoi : acP [.exn "NoWorth"] = .ok (.lst [.str "worth"], false) := by kernel_rfl
theorem aoj : acP [.exn "NoRule"] = .ok (.lst [.str "rule"], false) := by kernel_rfl
noncomputable def flB : SF := (ahl (aau aaL (aaf (aai 0) (aaf (aai 1) aax))))
theorem atg {R T V : Tr} {f : Bool} (s2 s3 : Sl) (h : aaL [R, T] = .ok (V, f)) : flB [.sh R, .sh T, s2, s3] = .ok (.nx, [.sh R, .sh T, s2, s3]) := by
 unfold flB
 simp -dsimp [drs, dr, isS, h]
theorem ao4 {R T : Tr} {c : Str} (s2 s3 : Sl) (h : aaL [R, T] = .ex c) : flB [.sh R, .sh T, s2, s3] = .ex c := by
 unfold flB
 simp -dsimp [drs, dr, isS, h]
theorem ahM {R T X L : Tr} {fr : Bool} (e : amW ["NoBottom", "NoRule", "NoWorth"] 3 flB (abG (aai 3) (gN 2)) [.sh R, .sh T, .sh .non, .un] = .ok (.nx, [.sh R, .sh T, .sh X, .un])) (h : acP [X] = .ok (L, fr)) : abW [R, T] = .ok (L, fr) := by
 show fnP 4 (aaP (abG (eC .non) (gN 2)) (aaP (amW ["NoBottom", "NoRule", "NoWorth"] 3 flB (abG (aai 3) (gN 2))) (abO (aau acP (aaf (aai 2) aax))))) [R, T] = _
 generalize amW _ _ _ _ = G at e ⊢
 unfold fnP
 simp -dsimp [aaH, drs, dr, isS, e, h]
theorem aok {R T V : Tr} {f : Bool} (h : aaL [R, T] = .ok (V, f)) : abW [R, T] = .ok (.lst [], true) := ahM (aqt (atg (.sh .non) .un h)) aoh
theorem amI {R T : Tr} (h : adt 4 T = false) : abW [R, T] = .ok (.lst [.str "worth"], false) := by
 refine ahM (X := .exn "NoWorth") ?_ aoi
 rw [amC (ao4 (.sh .non) .un (ahK h)) (by simp)]
 rfl
theorem aqw {R : Tr} {xs : List (Int × Int)} (h : adt 4 (aaW xs) = true) (hr : abj [R, .int (xs.length : Nat)] = .ok (.bl false, false)) : abW [R, aaW xs] = .ok (.lst [.str "rule"], false) := by
 refine ahM (X := .exn "NoRule") ?_ aoj
 rw [amC (ao4 (.sh .non) .un (ahL h hr)) (by simp)]
 rfl
noncomputable def avy (k : Nat) : List Tr := [.non, .tup [], .lst [.str "least"], .tup [.str "least", .int 1], .tup [.str "shares", .lst (List.replicate (k + 1) [.tup [.int 1, .int 1]]).flatten], .tup [.str "middle", .int ((k : Int) + 1)]] ++ [.tup [.str "middle", .int 0], .tup [.str "sum"], .tup [.str "shares", .lst (List.replicate k [.tup [.int (-1), .int 1]]).flatten], .str "least", .tup [.str "middle", .bl true]] ++ [.tup [.str "shares", .lst (List.replicate k [.int 1]).flatten]]
noncomputable def chk : Rs (Tr × Bool) -> Bool
 | .ok (.bl false, false) => true
 | _ => false
theorem ath {r : Rs (Tr × Bool)} (h : chk r = true) : r = .ok (.bl false, false) := by
 unfold chk at h
 split at h
 ·rfl
 ·cases h
theorem ati {k : Nat} (h1 : 1 <= k) (h4 : k <= 4) : ∀ R ∈ avy k, abj [R, .int (k : Nat)] = .ok (.bl false, false) := λR m => by
 have : (avy k).all (λR => chk (abj [R, .int (k : Nat)])) = true := by
  rcases (show k = 1 \/ k = 2 \/ k = 3 \/ k = 4 by omega) with rfl | rfl | rfl | rfl <;> kernel_rfl
 exact ath (List.all_eq_true.mp this R m)
noncomputable def ao5 : List Tr := [.tup [.int (-1), .int 2], .tup [.int 3, .int 2], .int 1, .tup [.int 2, .int 4], .bl true, .non, .lst [.int 1, .int 2], .tup [.int 1, .int 0], .str "1/2", .tup [.int 1, .int 2, .int 3], .tup [.int (-1), .int 1]]
theorem aqx : ∀ o ∈ ao5, agK o = false := by
 unfold ao5
 simp only [List.forall_mem_cons]
 exact ⟨rfl, rfl, rfl, rfl, rfl, rfl, rfl, rfl, rfl, rfl, rfl, λ_ h => nomatch h⟩
noncomputable def bd1 (xs : List (Int × Int)) (p : Nat) (b : Tr) : Tr := .lst ((xs.map fT).take p ++ [b] ++ (xs.map fT).drop (p + 1))
noncomputable def atj (xs : List (Int × Int)) : List Tr := [.non, .lst [], .lst (List.replicate 5 (xs.map fT)).flatten, .tup (xs.map fT), .int 0, .str "worths"]
noncomputable def avz (xs : List (Int × Int)) (p : Nat) : List Tr := atj xs ++ ao5.map (bd1 xs p)
theorem aqy {xs : List (Int × Int)} (h : 1 <= xs.length) (p : Nat) : ∀ T ∈ avz xs p, adt 4 T = false := λT hT => by
 rcases List.mem_append.mp hT with hT | hT
 ·unfold atj at hT
  simp only [List.mem_cons, List.mem_nil_iff, or_false] at hT
  rcases hT with rfl | rfl | rfl | rfl | rfl | rfl
  ·rfl
  ·rfl
  ·exact aod (k := 4) (by rw [aqu, List.length_map]; omega)
  ·rfl
  ·rfl
  ·rfl
 ·obtain ⟨b, mb, rfl⟩ := List.mem_map.mp hT
  exact as8 (t := b) (by simp) (aqx b mb)
noncomputable def bdB : SF := (ahl (eMt 7 al3 (aaf (eOp aa9 (eOp aa9 (eSl (aai 3) oNo (akD (aai 6))) (afn (aaf (aai 8) aax))) (eSl (aai 3) (akD (eOp aa9 (aai 6) (eC (.int 1)))) oNo)) aax)))
theorem atk {xs : List (Int × Int)} (hl : xs.length <= 4) (p : Nat) (b : Tr) {B : List Tr} (hB : B.length <= 100) (s0 s1 s2 s4 s5 s9 s10 s11 : Sl) : bdB [s0, s1, s2, .sh (aaW xs), s4, s5, .sh (.int (p : Nat)), .ow B, .sh b, s9, s10, s11] = .ok (.nx, [s0, s1, s2, .sh (aaW xs), s4, s5, .sh (.int (p : Nat)), .ow (B ++ [bd1 xs p b]), .sh b, s9, s10, s11]) := by
 have q5 : gSl none (some (p : Int)) (aaW xs) = .ok (.lst ((xs.map fT).take p), true) := as9 _ p
 have q6 : gSl (some ((p : Int) + 1)) none (aaW xs) = .ok (.lst ((xs.map fT).drop (p + 1)), true) := aoc _ (p + 1)
 have q7 : aa9 (.lst ((xs.map fT).take p)) (.lst [b]) = .ok (.lst ((xs.map fT).take p ++ [b]), true) := amD (by simp; omega)
 have q8 : aa9 (.lst ((xs.map fT).take p ++ [b])) (.lst ((xs.map fT).drop (p + 1))) = .ok (bd1 xs p b, true) := amD (by simp; omega)
 have dz : aa9 (.int (p : Nat)) (.int 1) = .ok (.int ((p : Int) + 1), false) := rfl
 have em : ∀ T, al3 B [T] = .ok (B ++ [T], .non) := λT => by
  show (if B.length <= 100000 then Rs.ok (B ++ [T], Tr.non) else .bad) = _
  rw [if_pos (by omega)]
 generalize bd1 xs p b = Z at *
 generalize Tr.lst ((xs.map fT).take p ++ [b]) = Z4 at *
 generalize Tr.lst ((xs.map fT).take p) = Z5 at *
 generalize Tr.lst ((xs.map fT).drop (p + 1)) = Z6 at *
 generalize aaW xs = X at *
 generalize (p : Int) + 1 = P1 at *
 generalize (p : Int) = P at *
 unfold bdB
 simp -dsimp [con, drs, dr, isS, cls, iOf, abI, q5, q6, q7, q8, dz, em]
theorem amJ {xs : List (Int × Int)} (hl : xs.length <= 4) (p : Nat) (s0 s1 s2 s4 s5 s9 s10 s11 : Sl) : ∀ (bs B : List Tr) (s8 : Sl), B.length + bs.length <= 100 -> ∃ t8, acj (gN 8) bdB bs [s0, s1, s2, .sh (aaW xs), s4, s5, .sh (.int (p : Nat)), .ow B, s8, s9, s10, s11] = .ok (.nx, [s0, s1, s2, .sh (aaW xs), s4, s5, .sh (.int (p : Nat)), .ow (B ++ bs.map (bd1 xs p)), t8, s9, s10, s11])
 | [], B, s8, _ => ⟨s8, by rw [List.map_nil, List.append_nil]; rfl⟩
 | b :: bs, B, s8, h => by
  rw [List.length_cons] at h
  obtain ⟨t8, e'⟩ := amJ hl p s0 s1 s2 s4 s5 s9 s10 s11 bs (B ++ [bd1 xs p b]) (.sh b) (by simp; omega)
  refine ⟨t8, ?_⟩
  unfold acj
  rw [show gN 8 b [s0, s1, s2, .sh (aaW xs), s4, s5, .sh (.int (p : Nat)), .ow B, s8, s9, s10, s11] = .ok [s0, s1, s2, .sh (aaW xs), s4, s5, .sh (.int (p : Nat)), .ow B, .sh b, s9, s10, s11] from rfl]
  simp only [Rs.aaR]
  rw [atk hl p b (by omega)]
  simp only [Rs.aaR]
  rw [e', List.map_cons, List.append_assoc]
  rfl
noncomputable def lwX : SF := (aaP (abG (eOp gIx (aai 9) (eOp ace (eOp aa9 (eOp ac2 (aai 5) (eC (.int 4))) (aai 10)) (eCB (g1 abZ) (aaf (aai 9) aax)))) (gN 11)) (aaP (sIf (bOr (abm (eOp gNe (aau abW (aaf (aai 11) (aaf (eOp gIx (aai 7) (aai 10)) aax))) (eCL [.str "worth"]))) (abm (eOp gNe (aau abW (aaf (aai 4) (aaf (eOp gIx (aai 7) (aai 10)) aax))) (eCL [.str "worth"])))) (abO (eC (.bl false))) adp) (sIf (abm (eOp gNe (aau abW (aaf (aai 11) (aaf (aai 3) aax))) (eCL [.str "rule"]))) (abO (eC (.bl false))) adp)))
theorem atl {xs : List (Int × Int)} (hx : ∀ x ∈ xs, Wo x) (h1 : 1 <= xs.length) (h4 : xs.length <= 4) (R : Tr) {B O : List Tr} (hB : ∀ T ∈ B, adt 4 T = false) (hO : ∀ T ∈ O, abj [T, .int (xs.length : Nat)] = .ok (.bl false, false)) (hn : O.length = 12) (n : Int) {j : Nat} (hj : j < B.length) (s0 s1 s2 s6 s8 s11 : Sl) :
  ∃ t11, lwX [s0, s1, s2, .sh (aaW xs), .sh R, .sh (.int n), s6, .ow B, s8, .ow O, .sh (.int (j : Nat)), s11] = .ok (.nx, [s0, s1, s2, .sh (aaW xs), .sh R, .sh (.int n), s6, .ow B, s8, .ow O, .sh (.int (j : Nat)), t11]) := by
 have hw : adt 4 (aaW xs) = true := by
  show (decide (1 <= ((xs.map fT).length : Int)) && decide (((xs.map fT).length : Int) <= 4) && (xs.map fT).all agK) = true
  rw [List.length_map, decide_eq_true (by omega), decide_eq_true (by omega)]
  simp only [Bool.true_and, List.all_eq_true]
  intro t ht
  obtain ⟨x, m, rfl⟩ := List.mem_map.mp ht
  exact (hx x m).agK
 obtain ⟨b, eb⟩ : ∃ b, B[j]? = some b := ⟨_, List.getElem?_eq_getElem hj⟩
 have g1b := agq eb
 have hm := akT (n.fdiv 4 + j) 12 (by omega)
 obtain ⟨q, hq⟩ := Int.eq_ofNat_of_zero_le hm.1
 obtain ⟨o, eo⟩ : ∃ o, O[q]? = some o := ⟨_, List.getElem?_eq_getElem (by omega)⟩
 have g1o := agq eo
 have d1 : ac2 (.int n) (.int 4) = .ok (.int (n.fdiv 4), false) := by
  show (if alW n 4 = true then Rs.ok (Tr.int (n.fdiv 4), false) else .bad) = _
  rw [if_pos (ae5 (M := 10) (by omega) (by omega) (by omega))]
 have d2 : aa9 (.int (n.fdiv 4)) (.int (j : Nat)) = .ok (.int (n.fdiv 4 + j), false) := rfl
 have d3 : ace (.int (n.fdiv 4 + j)) (.int 12) = .ok (.int (q : Nat), false) := by
  show (if decide ((12 : Int) ≠ 0) = true then Rs.ok (Tr.int ((n.fdiv 4 + j).fmod 12), false) else .bad) = _
  rw [hq]
  rfl
 have el : abZ (.lst O) = .ok (.int 12, false) := by
  show Rs.ok (Tr.int (O.length : Int), false) = _
  rw [hn]
  rfl
 have f1 := amI (R := o) (hB b (List.mem_of_getElem? eb))
 have f2 := amI (R := R) (hB b (List.mem_of_getElem? eb))
 have f3 := aqw hw (hO o (List.mem_of_getElem? eo))
 have n1 : gNe (.lst [.str "worth"]) (.lst [.str "worth"]) = .ok (.bl false, false) := ahH (by rw [aaU, aay, aaD, aaN]; omega)
 have n2 : gNe (.lst [.str "rule"]) (.lst [.str "rule"]) = .ok (.bl false, false) := ahH (by rw [aaU, aay, aaD, aaN]; omega)
 refine ⟨.sh o, ?_⟩
 generalize aaW xs = X at *
 unfold lwX
 simp -dsimp [con, drs, dr, isS, iOf, g1, d1, d2, d3, el, g1b, g1o, f1, f2, f3, n1, n2, bOf]
end K12
end
section
namespace K12
open PySem L2 BH
theorem amK {xs : List (Int × Int)} (hx : ∀ x ∈ xs, Wo x) (h1 : 1 <= xs.length) (h4 : xs.length <= 4) (R : Tr) {B O : List Tr} (hB : ∀ T ∈ B, adt 4 T = false) (hO : ∀ T ∈ O, abj [T, .int (xs.length : Nat)] = .ok (.bl false, false)) (hn : O.length = 12) (n : Int) (s0 s1 s2 s6 s8 : Sl) :
  ∀ (js : List Nat) (s10 s11 : Sl), (∀ j ∈ js, j < B.length) -> ∃ t10 t11, acj (gN 10) lwX (js.map λj : Nat => Tr.int j) [s0, s1, s2, .sh (aaW xs), .sh R, .sh (.int n), s6, .ow B, s8, .ow O, s10, s11] = .ok (.nx, [s0, s1, s2, .sh (aaW xs), .sh R, .sh (.int n), s6, .ow B, s8, .ow O, t10, t11])
 | [], s10, s11, _ => ⟨s10, s11, rfl⟩
 | j :: js, s10, s11, h => by
  obtain ⟨t11, e⟩ := atl hx h1 h4 R hB hO hn n (j := j) (h j (by simp)) s0 s1 s2 s6 s8 s11
  obtain ⟨r10, r11, e'⟩ := amK hx h1 h4 R hB hO hn n s0 s1 s2 s6 s8 js (.sh (.int (j : Nat))) t11 (λi m => h i (by simp [m]))
  refine ⟨r10, r11, ?_⟩
  rw [List.map_cons]
  unfold acj
  rw [show gN 10 (Tr.int (j : Nat)) [s0, s1, s2, .sh (aaW xs), .sh R, .sh (.int n), s6, .ow B, s8, .ow O, s10, s11] = .ok [s0, s1, s2, .sh (aaW xs), .sh R, .sh (.int n), s6, .ow B, s8, .ow O, .sh (.int (j : Nat)), s11] from rfl]
  simp only [Rs.aaR]
  rw [e]
  exact e'
noncomputable def lwF : SF := (aaP (adV (agx (akG (aaf (eCB (g1 abZ) (aaf (aai 7) aax)) aax)) (gN 10) lwX)) (abO (eOp gEq (aau abW (aaf (aai 4) (aaf (aai 3) aax))) (afn aax))))
theorem atn {xs : List (Int × Int)} (hx : ∀ x ∈ xs, Wo x) (h1 : 1 <= xs.length) (h4 : xs.length <= 4) {r : Ru} (hr : amX xs.length r) {B O : List Tr} (hB : ∀ T ∈ B, adt 4 T = false) (hl : B.length = 17) (hO : ∀ T ∈ O, abj [T, .int (xs.length : Nat)] = .ok (.bl false, false)) (hn : O.length = 12) (n : Int) (s0 s1 s2 s6 s8 : Sl) :
  ∃ ρ, lwF [s0, s1, s2, .sh (aaW xs), .sh (ruT r), .sh (.int n), s6, .ow B, s8, .ow O, .un, .un] = .ok (.rt (.bl true) false, ρ) := by
 obtain ⟨t10, t11, e⟩ := amK hx h1 h4 (ruT r) hB hO hn n s0 s1 s2 s6 s8 (List.range 17) .un .un (λj m => by rw [hl]; simpa using m)
 rw [<-adR] at e
 have el : abZ (.lst B) = .ok (.int 17, false) := by
  show Rs.ok (Tr.int (B.length : Int), false) = _
  rw [hl]
  rfl
 have e2 : adV (agx (akG (aaf (eCB (g1 abZ) (aaf (aai 7) aax)) aax)) (gN 10) lwX) [s0, s1, s2, .sh (aaW xs), .sh (ruT r), .sh (.int n), s6, .ow B, s8, .ow O, .un, .un] = .ok (.nx, [s0, s1, s2, .sh (aaW xs), .sh (ruT r), .sh (.int n), s6, .ow B, s8, .ow O, t10, t11]) := by
  have ef : akG (aaf (eCB (g1 abZ) (aaf (aai 7) aax)) aax) [s0, s1, s2, .sh (aaW xs), .sh (ruT r), .sh (.int n), s6, .ow B, s8, .ow O, .un, .un] = .ok (L2.upTo 0 17, [s0, s1, s2, .sh (aaW xs), .sh (ruT r), .sh (.int n), s6, .ow B, s8, .ow O, .un, .un]) := by
   generalize aaW xs = X at *
   generalize ruT r = R at *
   simp -dsimp [drs, dr, okR, el, g1]
  unfold adV agx
  rw [ef]
  show abX (acj (gN 10) lwX (L2.upTo 0 17) _) = _
  rw [e]
  rfl
 obtain ⟨v, e3, _⟩ := ahJ hx h1 h4 hr
 have e4 := aok e3
 have e5 : gEq (.lst []) (.lst []) = .ok (.bl true, false) := akh (by rw [aaU, aaD]; omega)
 refine ⟨[s0, s1, s2, .sh (aaW xs), .sh (ruT r), .sh (.int n), s6, .ow B, s8, .ow O, t10, t11], ?_⟩
 unfold lwF
 generalize adV _ = G at e2 ⊢
 generalize aaW xs = X at *
 generalize ruT r = R at *
 simp -dsimp [drs, dr, isS, cls, e2, e4, e5]
noncomputable def lwD : SF := (aaP (akF 9 (afn (aaf (eC .non) (aaf (afZ aax) (aaf (eCL [.str "least"]) (aaf (eC (.tup [.str "least", .int 1])) (aaf (afZ (aaf (eC (.str "shares")) (aaf (eOp abz (eCL [.tup [.int 1, .int 1]]) (eOp aa9 (aai 1) (eC (.int 1)))) aax))) (aaf (afZ (aaf (eC (.str "middle")) (aaf (eOp aa9 (aai 1) (eC (.int 1))) aax))) aax)))))))) (aaP (akF 9 (eOp aa9 (aai 9) (afn (aaf (eC (.tup [.str "middle", .int 0])) (aaf (eC (.tup [.str "sum"])) (aaf (afZ (aaf (eC (.str "shares")) (aaf (eOp abz (eCL [.tup [.int (-1), .int 1]]) (aai 1)) aax))) (aaf (eC (.str "least")) (aaf (eC (.tup [.str "middle", .bl true])) aax)))))))) (aaP (ahl (eMt 9 al3 (aaf (afZ (aaf (eC (.str "shares")) (aaf (eOp abz (eCL [.int 1]) (aai 1)) aax))) aax))) lwF)))
theorem ato {xs : List (Int × Int)} (hx : ∀ x ∈ xs, Wo x) (h1 : 1 <= xs.length) (h4 : xs.length <= 4) {r : Ru} (hr : amX xs.length r) {B : List Tr} (hB : ∀ T ∈ B, adt 4 T = false) (hl : B.length = 17) (n : Int) (s0 s2 s6 s8 : Sl) :
  ∃ ρ, lwD [s0, .sh (.int (xs.length : Nat)), s2, .sh (aaW xs), .sh (ruT r), .sh (.int n), s6, .ow B, s8, .un, .un, .un] = .ok (.rt (.bl true) false, ρ) := by
 obtain ⟨ρ, e⟩ := atn hx h1 h4 hr hB hl (ati h1 h4) rfl n s0 (.sh (.int (xs.length : Nat))) s2 s6 s8
 refine ⟨ρ, ?_⟩
 have a1 : aa9 (.int (xs.length : Nat)) (.int 1) = .ok (.int ((xs.length : Int) + 1), false) := rfl
 have m1 : abz (.lst [.tup [.int 1, .int 1]]) (.int ((xs.length : Int) + 1)) = .ok (.lst (List.replicate (xs.length + 1) [.tup [.int 1, .int 1]]).flatten, true) := akj (k := xs.length + 1) (by simp) (by omega)
 have m2 : abz (.lst [.tup [.int (-1), .int 1]]) (.int (xs.length : Nat)) = .ok (.lst (List.replicate xs.length [.tup [.int (-1), .int 1]]).flatten, true) := akj (by simp) (by omega)
 have m3 : abz (.lst [.int 1]) (.int (xs.length : Nat)) = .ok (.lst (List.replicate xs.length [.int 1]).flatten, true) := akj (by simp) (by omega)
 unfold avy at e
 generalize Tr.lst (List.replicate (xs.length + 1) [.tup [.int 1, .int 1]]).flatten = L1 at *
 generalize Tr.lst (List.replicate xs.length [.tup [.int (-1), .int 1]]).flatten = L2' at *
 generalize Tr.lst (List.replicate xs.length [.int 1]).flatten = L3 at *
 have a2 : ∀ A B : List Tr, A.length <= 20 -> B.length <= 20 -> aa9 (.lst A) (.lst B) = .ok (.lst (A ++ B), true) := λA B h1 h2 => amD (by omega)
 have em : ∀ (B : List Tr) (T : Tr), B.length <= 20 -> al3 B [T] = .ok (B ++ [T], .non) := λB T h => by
  show (if B.length <= 100000 then Rs.ok (B ++ [T], Tr.non) else .bad) = _
  rw [if_pos (by omega)]
 have x1 := a2 [.non, .tup [], .lst [.str "least"], .tup [.str "least", .int 1], .tup [.str "shares", L1], .tup [.str "middle", .int ((xs.length : Int) + 1)]] [.tup [.str "middle", .int 0], .tup [.str "sum"], .tup [.str "shares", L2'], .str "least", .tup [.str "middle", .bl true]] (by simp) (by simp)
 have x2 := em ([.non, .tup [], .lst [.str "least"], .tup [.str "least", .int 1], .tup [.str "shares", L1], .tup [.str "middle", .int ((xs.length : Int) + 1)]] ++ [.tup [.str "middle", .int 0], .tup [.str "sum"], .tup [.str "shares", L2'], .str "least", .tup [.str "middle", .bl true]]) (.tup [.str "shares", L3]) (by simp)
 generalize hA : ([.non, .tup [], .lst [.str "least"], .tup [.str "least", .int 1], .tup [.str "shares", L1], .tup [.str "middle", .int ((xs.length : Int) + 1)]] : List Tr) ++ [.tup [.str "middle", .int 0], .tup [.str "sum"], .tup [.str "shares", L2'], .str "least", .tup [.str "middle", .bl true]] = AB at *
 generalize hAB : AB ++ [.tup [.str "shares", L3]] = ABC at *
 generalize aaW xs = X at *
 generalize ruT r = R at *
 generalize (xs.length : Int) + 1 = K1 at *
 generalize (xs.length : Int) = K at *
 unfold lwD
 generalize lwF = G at *
 simp -dsimp [con, drs, dr, isS, cls, abI, a1, m1, m2, m3, x1, x2, e]
noncomputable def lwC : SF := (aaP (akF 7 (afn (aaf (eC .non) (aaf (afn aax) (aaf (eOp abz (aai 3) (eC (.int 5))) (aaf (eCB (g1 aa5) (aaf (aai 3) aax)) (aaf (eC (.int 0)) (aaf (eC (.str "worths")) aax)))))))) (aaP (adV (agx (fSq (eCL ao5)) (gN 8) bdB)) lwD))
theorem atp {xs : List (Int × Int)} (hx : ∀ x ∈ xs, Wo x) (h1 : 1 <= xs.length) (h4 : xs.length <= 4) {r : Ru} (hr : amX xs.length r) (n : Int) (p : Nat) (s0 s2 : Sl) :
  ∃ ρ, lwC [s0, .sh (.int (xs.length : Nat)), s2, .sh (aaW xs), .sh (ruT r), .sh (.int n), .sh (.int (p : Nat)), .un, .un, .un, .un, .un] = .ok (.rt (.bl true) false, ρ) := by
 obtain ⟨t8, e⟩ := amJ h4 p s0 (.sh (.int (xs.length : Nat))) s2 (.sh (ruT r)) (.sh (.int n)) .un .un .un ao5 (atj xs) .un (by show 6 + 11 <= 100; omega)
 have e2 : adV (agx (fSq (eCL ao5)) (gN 8) bdB) [s0, .sh (.int (xs.length : Nat)), s2, .sh (aaW xs), .sh (ruT r), .sh (.int n), .sh (.int (p : Nat)), .ow (atj xs), .un, .un, .un, .un] = .ok (.nx, [s0, .sh (.int (xs.length : Nat)), s2, .sh (aaW xs), .sh (ruT r), .sh (.int n), .sh (.int (p : Nat)), .ow (avz xs p), t8, .un, .un, .un]) := by
  show abX (acj (gN 8) bdB ao5 _) = _
  rw [e]
  rfl
 obtain ⟨ρ, e3⟩ := ato hx h1 h4 hr (aqy h1 p) rfl n s0 s2 (.sh (.int (p : Nat))) t8
 refine ⟨ρ, ?_⟩
 have m1 : abz (aaW xs) (.int 5) = .ok (.lst (List.replicate 5 (xs.map fT)).flatten, true) := akj (k := 5) (by rw [List.length_map]; omega) (by omega)
 have m2 : aa5 (aaW xs) = .ok (.tup (xs.map fT), false) := rfl
 unfold atj at e2
 generalize Tr.lst (List.replicate 5 (xs.map fT)).flatten = L1 at *
 generalize Tr.tup (xs.map fT) = L2' at *
 generalize avz xs p = BA at *
 generalize aaW xs = X at *
 generalize ruT r = R at *
 generalize (xs.length : Int) = K at *
 generalize (p : Int) = P at *
 unfold lwC
 generalize adV _ = G1 at *
 generalize lwD = G2 at *
 simp -dsimp [drs, dr, isS, cls, g1, m1, m2, e2, e3]
noncomputable def lw5 : SF := (aaP (abG (aau ab0 (aaf (aai 0) (aaf (eC (.int 3)) aax))) (gN 5)) (aaP (abG (eOp ace (aai 5) (aai 1)) (gN 6)) lwC))
noncomputable def lw4 : SF := (aaP (abG (aau ag6 (aaf (aau ab0 (aaf (aai 0) (aaf (eC (.int 2)) aax))) (aaf (aai 1) aax))) (gN 4)) lw5)
theorem aqz : aqg = (aaP (abG (eOp aa9 (eC (.int 1)) (eOp ace (aau ab0 (aaf (aai 0) (aaf (eC (.int 0)) aax))) (eC (.int 4)))) (gN 1)) (aaP (akF 2 (afn (aaf (aau ab0 (aaf (aai 0) (aaf (eC (.int 1)) aax))) aax))) (aaP (abG woC (gN 3)) lw4))) := by
 unfold aqg lw4 lw5 lwC lwD lwF lwX bdB ao5 woC
 rfl
theorem atq (ns : List Int) {xs : List (Int × Int)} (hx : ∀ x ∈ xs, Wo x) (h1 : 1 <= xs.length) (h4 : xs.length <= 4) {r : Ru} (hr : amX xs.length r) (s2 : Sl) :
  ∃ ρ, lw5 [.sh (.lst (ns.map .int)), .sh (.int (xs.length : Nat)), s2, .sh (aaW xs), .sh (ruT r), .un, .un, .un, .un, .un, .un, .un] = .ok (.rt (.bl true) false, ρ) := by
 obtain ⟨c3, e3⟩ := cell_eq ns 3
 have hp := akT c3 (xs.length : Int) (by omega)
 obtain ⟨p, ep⟩ := Int.eq_ofNat_of_zero_le hp.1
 obtain ⟨ρ, e6⟩ := atp hx h1 h4 hr c3 p (.sh (.lst (ns.map .int))) s2
 have e3' : ab0 [.lst (ns.map .int), .int 3] = .ok (.int c3, false) := e3
 have eq : ace (.int c3) (.int (xs.length : Nat)) = .ok (.int (p : Nat), false) := by
  show (if decide ((xs.length : Int) ≠ 0) = true then Rs.ok (Tr.int (c3.fmod (xs.length : Nat)), false) else .bad) = _
  rw [if_pos (decide_eq_true (by omega)), ep]
 refine ⟨ρ, ?_⟩
 generalize Tr.lst (ns.map .int) = S at *
 generalize aaW xs = X at *
 generalize ruT r = R at *
 generalize Tr.int (xs.length : Nat) = K at *
 generalize Tr.int (p : Nat) = P at *
 unfold lw5
 generalize lwC = G2 at *
 simp -dsimp [dr, drs, isS, e3', eq, e6]
theorem atr (ns : List Int) {xs : List (Int × Int)} (hx : ∀ x ∈ xs, Wo x) (h1 : 1 <= xs.length) (h4 : xs.length <= 4) (s2 : Sl) :
  ∃ ρ, lw4 [.sh (.lst (ns.map .int)), .sh (.int (xs.length : Nat)), s2, .sh (aaW xs), .un, .un, .un, .un, .un, .un, .un, .un] = .ok (.rt (.bl true) false, ρ) := by
 obtain ⟨c2, e2⟩ := cell_eq ns 2
 obtain ⟨r, e5, ho⟩ := aqv c2 (k := xs.length) h1 h4
 obtain ⟨ρ, e6⟩ := atq ns hx h1 h4 ho s2
 have e2' : ab0 [.lst (ns.map .int), .int 2] = .ok (.int c2, false) := e2
 refine ⟨ρ, ?_⟩
 generalize Tr.lst (ns.map .int) = S at *
 generalize aaW xs = X at *
 generalize ruT r = R at *
 generalize Tr.int (xs.length : Nat) = K at *
 unfold lw4
 generalize lw5 = G2 at *
 simp -dsimp [dr, drs, isS, e2', e5, e6]
theorem atu (ns : List Int) : akM [.lst (ns.map .int)] = .ok (.bl true, false) := by
 obtain ⟨c0, e0⟩ := cell_eq ns 0
 obtain ⟨c1, e1⟩ := cell_eq ns 1
 have hm := akT c0 4 (by omega)
 obtain ⟨k, hk⟩ : ∃ k : Nat, (k : Int) = 1 + c0.fmod 4 := ⟨(1 + c0.fmod 4).toNat, by omega⟩
 obtain ⟨xs, m, e3, hl, hx⟩ := atf (.sh (.lst (ns.map .int))) k (by omega) c1 [.un, .un, .un, .un, .un, .un, .un, .un, .un]
 subst hl
 obtain ⟨ρ, e4⟩ := atr ns (λx hm => (hx x hm).1) (by omega) (by omega) (.ow [.int m])
 have e0' : ab0 [.lst (ns.map .int), .int 0] = .ok (.int c0, false) := e0
 have e1' : ab0 [.lst (ns.map .int), .int 1] = .ok (.int c1, false) := e1
 unfold akM
 rw [aqz]
 generalize woC = G1 at e3 ⊢
 generalize lw4 = G2 at e4 ⊢
 generalize Tr.lst (ns.map .int) = S at *
 generalize aaW xs = X at *
 have eq0 : ace (.int c0) (.int 4) = .ok (.int (c0.fmod 4), false) := by
  show (if decide ((4 : Int) ≠ 0) = true then Rs.ok (Tr.int (c0.fmod 4), false) else .bad) = _
  rw [if_pos (decide_eq_true (by omega))]
 have ea : aa9 (.int 1) (.int (c0.fmod 4)) = .ok (.int (xs.length : Nat), false) := by
  show Rs.ok (Tr.int (1 + c0.fmod 4), false) = _
  rw [<-hk]
 generalize Tr.int (xs.length : Nat) = K at *
 generalize Tr.int (c0.fmod 4) = C4 at *
 have s1 : abG (eOp aa9 (eC (.int 1)) (eOp ace (aau ab0 (aaf (aai 0) (aaf (eC (.int 0)) aax))) (eC (.int 4)))) (gN 1) [.sh S, .un, .un, .un, .un, .un, .un, .un, .un, .un, .un, .un] = .ok (.nx, [.sh S, .sh K, .un, .un, .un, .un, .un, .un, .un, .un, .un, .un]) := by
  simp -dsimp [dr, drs, isS, e0', eq0, ea]
 have s2 : akF 2 (afn (aaf (aau ab0 (aaf (aai 0) (aaf (eC (.int 1)) aax))) aax)) [.sh S, .sh K, .un, .un, .un, .un, .un, .un, .un, .un, .un, .un] = .ok (.nx, [.sh S, .sh K, .ow [.int c1], .un, .un, .un, .un, .un, .un, .un, .un, .un]) := by
  simp -dsimp [dr, drs, isS, cls, e1']
 have s3 : abG G1 (gN 3) [.sh S, .sh K, .ow [.int c1], .un, .un, .un, .un, .un, .un, .un, .un, .un] = .ok (.nx, [.sh S, .sh K, .ow [.int m], .sh X, .un, .un, .un, .un, .un, .un, .un, .un]) := by
  simp -dsimp [e3]
 have hi : aaH 12 [S] = [.sh S, .un, .un, .un, .un, .un, .un, .un, .un, .un, .un, .un] := rfl
 unfold fnP
 rw [hi, ajb, s1]
 show Rs.bind (aaP _ _ _) _ = _
 rw [ajb, s2]
 show Rs.bind (aaP _ _ _) _ = _
 rw [ajb, s3]
 show Rs.bind (G2 _) _ = _
 rw [e4]
 rfl
end K12
end
section
namespace L2
open PySem PySem.Spec PyProof.Rows PySem.W
theorem amL {P : Program} {w : World} {K : PySem.W.Frag} {mg mb : Str -> Option Value} {CX : CXT} {k : Nat} {fa a : Addr} {x : Str} {sp : Sp} {s₁ : Shared} {vs : List Value} {ns : List Int}
  (KX : K.In s₁.heap) (hns : s₁.heap.Ns mainGlobals mg) (hb : s₁.heap.Ns builtinsNs mb) (hbb : ∀ x : Str, x ≠ "__name__" -> mb x = bootBuiltins x) (hlim : s₁.heap.NoLimit) (hg : s₁.gens = #[])
  (ha : s₁.heap.get? a = some { cls := .type "list", data := .seq vs.toArray }) (hi : IntsAre vs ns) (hl : ns.length <= sizeLine) (hr : aeI k callerA)
  (hT : ∀ x ∈ aa7, ∀ c b, tabIn K x = some (c, b) -> CodeHd s₁.heap c b /\ s₁.heap.get? b = some (tabObj #[])) (hNT : noTabs K = true) (hB : anL mg s₁.heap)
  (F : ∀ base : Heap, K.In base -> base.Ns mainGlobals mg -> (∀ x ∈ aa7, ∀ c b, tabIn K x = some (c, b) -> CodeHd base c b) -> anL mg base -> ∃ fd : FuncData, (∀ (s : Shared) (u : Value), K.In s.heap -> BindsTo s fd ⟨[u], []⟩ [(x, u)]) /\ ajH P w K mg base CX k fa fd [x] sp)
  (hsp : ∀ H : Hp, TbS (nlK K) H -> SqX K H a (ns.map V.int) -> sp [.ref a] H (λv _ => v = .bl true) λ_ _ _ => False)
  (hCX : ∀ H e s', CX [] H s₁ (λ_ _ _ => False) e s' -> False) :
  codeAny (model P w) callerA (.call (.ref fa) ⟨[.ref a], []⟩) (λr s' => r = .ok (.ret (.bool true)) /\ OldK s₁.heap s'.heap /\ s'.os = s₁.os /\ AllBare s'.gens) s₁ := by
 have rv := ah9 hi
 have lenV := hi.length
 -- from an abstract heap in which nothing but the script may be tracked
 have hT' : ∀ b, Tb (nlK K) b -> ∃ c, CodeHd s₁.heap c b /\ s₁.heap.get? b = some (tabObj #[]) := λb ⟨x, hx, c, e⟩ => ⟨c, hT x hx c b (akb e)⟩
 have core : ∀ H : Hp, (∀ b, H b = none \/ (∃ o xs, H b = some (.frz o (.lst xs))) \/ (H b = some (.tbl #[]) /\ Tb (nlK K) b)) -> TbS (nlK K) H -> SqX K H a (ns.map V.int) -> HOk P w H s₁.heap -> (∀ b, H b ≠ none -> b = a \/ Tb (nlK K) b) -> (H a ≠ none -> K.lookup a = none) ->
   codeAny (model P w) callerA (.call (.ref fa) ⟨[.ref a], []⟩) (λr s' => r = .ok (.ret (.bool true)) /\ OldK s₁.heap s'.heap /\ s'.os = s₁.os /\ AllBare s'.gens) s₁ := by
  intro H hO hTb hS hok hA hK
  have ahN : ∀ {b : Addr} {o : Obj}, s₁.heap.get? b = some o -> H b = none -> (amY s₁.heap H).get? b = some o := λe n => amZ e n
  have noA : ∀ {b : Addr} {o : Obj} {es : Array DictEntry} {ep : Nat}, s₁.heap.get? b = some o -> o.data = .dict es ep -> H b = none := λ{b o es ep} e d => by
   cases q : H b with
   | none => rfl
   | some u =>
    rcases hA b (by rw [q]; simp) with e' | e'
    ·subst e'
     rw [ha] at e; cases e
     have d' : Data.seq vs.toArray _ = Data.dict es ep := d
     cases d'
    ·obtain ⟨c, _, z⟩ := hT' b e'
     rw [z] at e; cases e
     cases d
  have nsK : ∀ {b : Addr} {m : Str -> Option Value}, s₁.heap.Ns b m -> (amY s₁.heap H).Ns b m := λ{b m} ⟨o, es, ep, e, d, r⟩ => ⟨o, es, ep, ahN e (noA e d), d, r⟩
  have hKb : K.In (amY s₁.heap H) := λb o e => ahN (KX b o e) (by
   cases q : H b with
   | none => rfl
   | some u =>
    rcases hA b (by rw [q]; simp) with e' | e'
    ·subst e'
     rw [hK (by rw [q]; simp)] at e; cases e
    ·obtain ⟨c, _, z⟩ := hT' b e'
     have z2 := KX b o e
     rw [z] at z2
     cases z2
     have h2 := List.all_eq_true.mp hNT (b, _) (mem_of_lookupK e)
     exact absurd (show false = true from h2) Bool.false_ne_true)
  have hM : Mod K mg (amY s₁.heap H) := ⟨hKb, nsK hns, ⟨mb, nsK hb, hbb⟩, let ⟨mc, h1, h2⟩ := hlim; ⟨mc, nsK h1, h2⟩⟩
  have e0 : atG P w K mg (amY s₁.heap H) callerA [] s₁ H := ⟨rfl, hM, λb o e => ao8 e, Nat.le_of_eq (alr _ _), trivial, λb hb => absurd (show b ∈ ([] : List Addr) from hb) (by simp), hok, .of_eq hg⟩
  have free : ∀ {b : Addr} {o : Obj}, s₁.heap.get? b = some o -> o.cls ≠ .none -> (∀ its n, o.data ≠ .seq its n) -> H b = none := λ{b o} e n1 n2 => by
   cases q : H b with
   | none => rfl
   | some u =>
    rcases hA b (by rw [q]; simp) with e' | e'
    ·subst e'
     rw [ha] at e; cases e
     exact (n2 _ _ rfl).elim
    ·obtain ⟨c, _, z⟩ := hT' b e'
     rw [z] at e; cases e
     exact (n1 rfl).elim
  obtain ⟨fd, hbind, F1⟩ := F _ hKb (nsK hns) (λx hx c b e => by
   obtain ⟨o, vs', file, tf, flags, tg, inF, text, tt, e1, r1, r2, r3⟩ := (hT x hx c b e).1
   exact ⟨o, vs', file, tf, flags, tg, inF, text, tt, ahN e1 (free e1 (by rw [r1]; intro z; cases z) (λ_ _ z => by rw [r2] at z; cases z)), r1, r2, r3⟩) (by
   obtain ⟨bm, ob, b1, b2, b3, b4, b5, b6, b7⟩ := hB
   exact ⟨bm, ob, b1, b2, b3, ahN b4 (free b4 (by rw [b5]; intro z; cases z) (λ_ _ z => by rw [b7] at z; cases z)), b5, b6, b7⟩)
  refine codeAny_mono (F1.run callerA [] s₁ H ⟨[.ref a], []⟩ [.ref a] [.ref a] _ _ hr e0 (hbind s₁ (.ref a) KX) (.cons rfl .nil) (hsp H hTb hS)) λr s' h => ?_
  cases r with
  | error e => exact (hCX H e s' h).elim
  | ok fl =>
   cases fl with
   | next => exact False.elim h
   | brk => exact False.elim h
   | cont => exact False.elim h
   | ret u =>
    obtain ⟨v, H', os, bare, un, hok', r', q⟩ := h
    have q' : v = .bl true := q
    subst q'
    obtain rfl : u = Value.bool true := r'
    refine ⟨rfl, ⟨λb o e => ?_, λb o e => un.there b o e (by simp)⟩, os, bare⟩
    cases q : H b with
    | none => exact .inl (un.keep b o e q (by intro z; exact absurd (show b ∈ ([] : List Addr) from z) (by simp)) (by simp))
    | some u =>
     rcases hO b with z | ⟨ob, xs, z⟩ | ⟨z, zt⟩
     ·rw [q] at z; cases z
     ·have z2 := un.ajA b ob _ z
      obtain ⟨e1, _⟩ := hok b _ z
      obtain ⟨e2, _⟩ := hok' b _ z2
      rw [e] at e1; cases e1
      exact .inl e2
     ·obtain ⟨more, z2⟩ := un.ajB b _ z
      have e1 : s₁.heap.get? b = some (tabObj #[]) := hok b _ z
      have e2 : s'.heap.get? b = some (tabObj (#[] ++ more)) := hok' b _ z2
      rw [e] at e1; cases e1
      obtain ⟨c, hc, _⟩ := hT' b zt
      exact .inr (.inl ⟨(hc.tab e).isCodeTable, rfl, #[], more, rfl, e2⟩)
 classical
 have awy : ∀ H : Hp, (∀ b, Tb (nlK K) b -> H b = some (.tbl #[])) -> TbS (nlK K) H := λH h x hx c b e => ⟨#[], h b ⟨x, hx, c, e⟩, trivial, λpos v z => by cases z⟩
 have nTa : ¬ Tb (nlK K) a := λz => by
  obtain ⟨c, _, e⟩ := hT' a z
  rw [ha] at e
  cases e
 cases hk : K.lookup a with
 | some o =>
  have e := KX a o hk
  rw [ha] at e
  cases e
  refine core (λb => if Tb (nlK K) b then some (.tbl #[]) else none) (λb => ?_) (awy _ λb z => if_pos z) (.inr ⟨vs.toArray, _, hk, by rw [List.size_toArray, lenV]; exact hl, by simpa using rv⟩) (λb u z => ?_) (λb z => ?_) λz => ?_
  ·by_cases q : Tb (nlK K) b
   ·exact .inr (.inr ⟨if_pos q, q⟩)
   ·exact .inl (if_neg q)
  ·by_cases q : Tb (nlK K) b
   ·have z' := (if_pos q).symm.trans z
    cases z'
    obtain ⟨c, _, e⟩ := hT' b q
    exact e
   ·have z' := (if_neg q).symm.trans z
    cases z'
  ·by_cases q : Tb (nlK K) b
   ·exact .inr q
   ·exact absurd (if_neg q) z
  ·exact absurd (if_neg nTa) z
 | none =>
  refine core (λb => if b = a then some (.frz { cls := .type "list", data := .seq vs.toArray } (.lst (ns.map V.int))) else if Tb (nlK K) b then some (.tbl #[]) else none) (λb => ?_) (awy _ λb z => by
   have nb : ¬ b = a := λq => nTa (by rw [<-q]; exact z)
   exact (if_neg nb).trans (if_pos z)) (.inl (.inr ⟨{ cls := .type "list", data := .seq vs.toArray }, if_pos rfl⟩)) (λb u z => ?_) (λb z => ?_) λ_ => hk
  ·by_cases hb : b = a
   ·exact .inr (.inl ⟨_, _, if_pos hb⟩)
   ·by_cases q : Tb (nlK K) b
    ·exact .inr (.inr ⟨(if_neg hb).trans (if_pos q), q⟩)
    ·exact .inl ((if_neg hb).trans (if_neg q))
  ·by_cases hb : b = a
   ·have z' := (if_pos hb).symm.trans z
    cases z'
    subst hb
    exact ⟨ha, by rw [List.length_map]; exact hl, vs, _, rv, ha⟩
   ·have z' := (if_neg hb).symm.trans z
    by_cases q : Tb (nlK K) b
    ·have z' := (if_pos q).symm.trans z'
     cases z'
     obtain ⟨c, _, e⟩ := hT' b q
     exact e
    ·have z' := (if_neg q).symm.trans z'
     cases z'
  ·by_cases hb : b = a
   ·exact .inl hb
   ·by_cases q : Tb (nlK K) b
    ·exact .inr q
    ·exact absurd ((if_neg hb).trans (if_neg q)) z
theorem aol {l : PySem.W.OpenLaw} {n k : Nat} {q : Program} {loose : List Str} {XP : (Str -> Option Value) -> Heap -> Prop} {YP : World -> Heap -> Prop} {d : DefRec} {K : Params -> PySem.W.Frag} {CX : World -> CXT} {sp : World -> Sp} {x : Str}
  (hn : l.most = some n) (hn2 : n <= sizeLine) (hdf : d.params.defaults = []) (hr : aeI k callerA)
  (atv : ∀ x ∈ aa7, ((recsOf q).find? (λe => e.name == x)).isSome = true \/ ∀ w : World, nsIn (K w.params) mainGlobals x = some none) (hNT : ∀ w : World, noTabs (K w.params) = true)
  (hY : ∀ (w : World) (h : Heap), YP w h -> (K w.params).In h)
  (F : ∀ (w : World) (mg : Str -> Option Value) (fa : Addr) (h : Heap), (K w.params).In h -> h.Ns mainGlobals mg -> mg d.name = some (.ref fa) ->
   ∀ base : Heap, (K w.params).In base -> base.Ns mainGlobals mg -> (∀ x ∈ aa7, ∀ c b, tabIn (K w.params) x = some (c, b) -> CodeHd base c b) -> anL mg base -> ∃ fd : FuncData, (∀ (s : Shared) (u : Value), (K w.params).In s.heap -> BindsTo s fd ⟨[u], []⟩ [(x, u)]) /\ ajH l.prog w (K w.params) mg base (CX w) k fa fd [x] (sp w))
  (hsp : ∀ (w : World) (H : Hp) (a : Addr) (ns : List Int), ns.length <= n -> TbS (nlK (K w.params)) H -> SqX (K w.params) H a (ns.map V.int) -> sp w [.ref a] H (λv _ => v = .bl true) λ_ _ _ => False)
  (hCX : ∀ (w : World) (H : Hp) (s : Shared) (e : Value) (s' : Shared), CX w [] H s (λ_ _ _ => False) e s' -> False) :
  PySem.W.WalkO q loose XP YP l.row.toRowW d [] (λf vs => PySem.call f vs) := by
 refine Att.aiR hn hdf λw s₀ s₁ mg mb fa o pm cd doc a vs ns G Y ho hd hcd hmg hobj hints hlen hg => ?_
 have KX := hY w _ Y
 have hT : ∀ x ∈ aa7, ∀ c b, tabIn (K w.params) x = some (c, b) -> CodeHd s₁.heap c b /\ s₁.heap.get? b = some (tabObj #[]) := λx hx c b e => by
  rcases atv x hx with z | z
  ·obtain ⟨d, z⟩ := Option.isSome_iff_exists.mp z
   exact tab_of G.T KX z e
  ·rw [akc (z w)] at e; cases e
 have hB : anL mg s₁.heap := by
  obtain ⟨bm, ob, b1, b2, b3, b4, b5, b6⟩ := G.T.bmain
  refine ⟨bm, ob, b1, b2, λz => ?_, b3, b4, b5, b6⟩
  obtain ⟨o, es, ep, e, hd, _⟩ := G.T.g
  rw [z, e] at b3; cases b3
  rw [hd] at b6; cases b6
 exact amL KX G.T.g G.T.b G.T.builtins G.T.nolimit hg hobj hints (Nat.le_trans hlen hn2) hr hT (hNT w) hB (F w mg fa _ KX G.T.g hmg) (λH hO hS => hsp w H a ns hlen hO hS) λH e s' => hCX w H s₁ e s'
end L2
end
section
namespace K12
open PySem L2 BH PySem.W
section
variable {K : Frag} {mg : Str -> Option Value} {h : Heap}
theorem ach {x : Str} {st : Stmt} (X : K.In h) (G : h.Ns mainGlobals mg) {f : Addr} {od an : Option Addr} {sl : Array (Option Value)} {oc kV dc pm cd ct : Value}
  (a : nsIn K mainGlobals x = some (some (.ref f))) (l : K.lookup f = some ⟨oc, od, .func (fnOf x x (acC st) (abH st) (aak st) .none kV dc pm an cd ct), sl⟩) (c : codeIn K cd x = true) (k : keepIn K (.ref f) = true) : At K mg x st :=
 ⟨f, _, aov (st := st) l c k, mg_of X G a⟩
theorem atw {x : Str} {st : Stmt} (X : K.In h) (G : h.Ns mainGlobals mg) {f c : Addr} {od an : Option Addr} {sl : Array (Option Value)} {oc kV dc pm ct : Value}
  (a : nsIn K mainGlobals x = some (some (.ref f))) (l : K.lookup f = some ⟨oc, od, .func (fnOf x x (acC st) (abH st) (aak st) .none kV dc pm an (.ref c) ct), sl⟩) (cc : codeIn K (.ref c) x = true) (k : keepIn K (.ref f) = true) : AtL K mg x st c :=
 ⟨f, _, aov (st := st) l cc k, mg_of X G a, rfl⟩
theorem atx {x : Str} {i : Int} {tk : Tok} (X : K.In h) (G : h.Ns mainGlobals mg) (a : nsIn K mainGlobals x = some (some (.int i tk))) : Gk K mg x (.int i) (.int i) := ⟨.int i tk, mg_of X G a, by first | exact rfl | exact ⟨_, rfl⟩, λ_ => .int i⟩
theorem ahO {H : Hp} {a : Addr} {od : Option Addr} {its : Array Value} {n : Nat} {sl : Array (Option Value)} {xs : List V} {vs : List Value} {ts : List Tr} (l : K.lookup a = some ⟨.type "tuple", od, .seq its n, sl⟩) (e : its.toList = vs) (hl : vs.length <= 1000) (r : Vals xs vs) (rr : aaO (nlK K) H xs ts) : Rep (nlK K) H (.ref a) (.tup ts) := by
 refine .tup (xs := xs) (.inr ⟨_, its, n, arz l rfl, rfl, rfl, ?_, by rw [e]; exact r⟩) rr
 rw [<-Array.length_toList, e]
 exact Nat.le_of_lt (afT hl)
theorem aqA (X : K.In h) (G : h.Ns mainGlobals mg) {a r1 r2 r3 : Addr} {od o1 o2 o3 : Option Addr} {its i1 i2 i3 : Array Value} {n n1 n2 n3 : Nat} {sl sl1 sl2 sl3 : Array (Option Value)} {t1 t2 t3 : Tok}
  (m : nsIn K mainGlobals "BARE_RULES" = some (some (.ref a))) (l : K.lookup a = some ⟨.type "tuple", od, .seq its n, sl⟩) (e : its.toList = [.ref r1, .ref r2, .ref r3])
  (l1 : K.lookup r1 = some ⟨.type "tuple", o1, .seq i1 n1, sl1⟩) (e1 : i1.toList = [.str "least" t1]) (l2 : K.lookup r2 = some ⟨.type "tuple", o2, .seq i2 n2, sl2⟩) (e2 : i2.toList = [.str "greatest" t2]) (l3 : K.lookup r3 = some ⟨.type "tuple", o3, .seq i3 n3, sl3⟩) (e3 : i3.toList = [.str "product" t3]) : Gk K mg "BARE_RULES" (.ref a) (.tup [(.tup [(.str "least")]), (.tup [(.str "greatest")]), (.tup [(.str "product")])]) := by
 refine ⟨_, mg_of X G m, rfl, λH => ahO (xs := [.ref r1, .ref r2, .ref r3]) l e (Nat.le_of_ble_eq_true rfl) (.cons rfl (.cons rfl (.cons rfl .nil))) ?_⟩
 exact .cons (ahO (xs := [.str "least"]) l1 e1 (Nat.le_of_ble_eq_true rfl) (.cons ⟨_, rfl⟩ .nil) (.cons (.str _) .nil)) (.cons (ahO (xs := [.str "greatest"]) l2 e2 (Nat.le_of_ble_eq_true rfl) (.cons ⟨_, rfl⟩ .nil) (.cons (.str _) .nil)) (.cons (ahO (xs := [.str "product"]) l3 e3 (Nat.le_of_ble_eq_true rfl) (.cons ⟨_, rfl⟩ .nil) (.cons (.str _) .nil)) .nil))
theorem amM (H : Hp) : aaT (λ_ => False) H = H := by
 funext b
 exact aaM (λz => z)
theorem aiw {K : Frag} {H : Hp} : ∀ ns : List Int, aaO K H (ns.map V.int) (ns.map Tr.int)
 | [] => .nil
 | n :: ns => .cons (.int n) (aiw ns)
noncomputable def spL (K : Frag) (n : Nat) (F : FP) : Sp := λvs H Q E => ∃ Z ts, vs.length = n /\ aaO (nlK K) (aaT Z H) vs ts /\ (∀ b, Z b -> Lt H b) /\ TbS (nlK K) H /\ ∃ p, F ts = .ok p /\ ∀ v H', SmT (nlK K) H H' -> VRt (nlK K) Z H H' v p.1 p.2 -> Q v H'
theorem aqB {K : Frag} {cl : Str -> Addr} {n : Nat} {F : FP} (vs : List V) (H : Hp) (Q : VK) (E : XK) (h : spL K n F vs H Q E) : spP K cl n F vs H Q E := by
 obtain ⟨Z, ts, h1, h2, h3, h4, p, h5, h6⟩ := h
 refine ⟨Z, ts, h1, h2, h3, h4, ?_⟩
 rw [h5]
 exact h6
theorem avA (X : K.In h) (G : h.Ns mainGlobals mg) (z0 : nsIn K mainGlobals "ValueError" = some none) (z1 : nsIn K mainGlobals "abs" = some none) (z2 : nsIn K mainGlobals "all" = some none) (z3 : nsIn K mainGlobals "bool" = some none) (z4 : nsIn K mainGlobals "int" = some none) (z5 : nsIn K mainGlobals "isinstance" = some none) (z6 : nsIn K mainGlobals "len" = some none) (z7 : nsIn K mainGlobals "list" = some none) (z8 : nsIn K mainGlobals "max" = some none) (z9 : nsIn K mainGlobals "min" = some none) (z10 : nsIn K mainGlobals "range" = some none) (z11 : nsIn K mainGlobals "sorted" = some none) (z12 : nsIn K mainGlobals "tuple" = some none) (z13 : nsIn K mainGlobals "zip" = some none) : Nm mg :=
 ⟨mg_none_of X G z0, mg_none_of X G z1, mg_none_of X G z2, mg_none_of X G z3, mg_none_of X G z4, mg_none_of X G z5, mg_none_of X G z6, mg_none_of X G z7, mg_none_of X G z8, mg_none_of X G z9, mg_none_of X G z10, mg_none_of X G z11, mg_none_of X G z12, mg_none_of X G z13⟩
end
section
variable {P : Program} {w : World} {K : Frag} {mg : Str -> Option Value} {base : Heap}
theorem avB (M : Nm mg) {acz : Addr} (adP : PyProof.Rows.OwnCls "NoBottom" acz bmV "ValueError.__new__" mg base) {adN : Addr} (afM : PyProof.Rows.OwnCls "NoRule" adN bmV "ValueError.__new__" mg base) {ac1 : Addr} (aeB : PyProof.Rows.OwnCls "NoWorth" ac1 bmV "ValueError.__new__" mg base) (XT : aiK K) {ahy : Addr} (afI : Cg K mg "NoBook" ahy) (ac0 : Cg K mg "NoBottom" acz) {agg : Addr} (aeu : Cg K mg "NoCount" agg) {ahz : Addr} (afJ : Cg K mg "NoLine" ahz) {ahA : Addr} (afK : Cg K mg "NoList" ahA) {agh : Addr} (aev : Cg K mg "NoLooks" agh) (aew : Cg K mg "NoRule" adN) {agi : Addr} (aex : Cg K mg "NoSlack" agi) {ahB : Addr} (afL : Cg K mg "NoText" ahB) {agj : Addr} (aey : Cg K mg "NoThing" agj) {ae2 : Addr} (adO : Cg K mg "NoThings" ae2) (adC : Cg K mg "NoWorth" ac1) {agk : Addr} (aez : Cg K mg "NotSure" agk) {agl : Addr} (aeA : Cg K mg "TooMany" agl) {aed : Addr} (ada : Cg K mg "HeadError" aed) (akV : At K mg "is_whole" aeX) (afv : At K mg "common_divisor" aco) (ahP : At K mg "fraction_of" ac7) (akW : At K mg "frac_sum" aeY) (aix : At K mg "frac_times" adA) (ahQ : At K mg "is_fraction" ac8) (ags : At K mg "common_bottom" acF) (ad0 : At K mg "tops_on_one_bottom" abu) {ado afw : Addr} (afx : AtL K mg "falling_places" abP ado) (afy : anR K mg base "falling_places" ado afw) (akX : At K mg "is_worth" aeZ) (aiy : At K mg "are_worths" acO) (ahR : At K mg "are_weights" acu) (amN : At K mg "is_rule" agd) (agN : At K mg "shares_worth" acY) (agt : At K mg "product_worth" acG) (akY : At K mg "place_of" ae0) (akZ : At K mg "worth_by" ae1) (aiz : At K mg "rule_worth" adB) (aty : At K mg "_law_cell" amo) (atz : At K mg "_law_take" amq) (aom : At K mg "_law_shared" ahx) (atA : At K mg "_law_frac" amr) (aqC : At K mg "_law_worth" ai3) (atB : At K mg "_law_rule" ag5) (aon : At K mg "_law_called" afG) (aqD : At K mg "_law_flags" ai4) (avC : At K mg "law" anY) {adD : V} (acQ : Gk K mg "BARE_RULES" adD (.tup [(.tup [(.str "least")]), (.tup [(.str "greatest")]), (.tup [(.str "product")])])) {adF : V} (acR : Gk K mg "MOST_LISTS" adF (.int 4)) : DfX P w K mg base 8 "law" (["_law_script"] : List Str) (spL K 1 akM) := by
 obtain ⟨cl, ag7, akm, aiA⟩ : ∃ cl : Str → Addr, cl "NoBottom" = acz ∧ cl "NoRule" = adN ∧ cl "NoWorth" = ac1 := ⟨λx => if x = ("NoBottom" : Str) then acz else if x = ("NoRule" : Str) then adN else if x = ("NoWorth" : Str) then ac1 else 0, if_pos rfl, (if_neg (by decide +kernel)).trans (if_pos rfl), (if_neg (by decide +kernel)).trans ((if_neg (by decide +kernel)).trans (if_pos rfl))⟩
 rw [<-ag7] at adP
 rw [<-akm] at afM
 rw [<-aiA] at aeB
 have XC : XCl K cl (["NoBottom", "NoRule", "NoWorth"] : List Str) := List.forall_mem_cons.mpr ⟨⟨by decide +kernel, by rw [ag7]; exact ac0.1⟩, List.forall_mem_cons.mpr ⟨⟨by decide +kernel, by rw [akm]; exact aew.1⟩, List.forall_mem_cons.mpr ⟨⟨by decide +kernel, by rw [aiA]; exact adC.1⟩, λ_ h => nomatch h⟩⟩⟩
 have ag8 := ai7 (P := P) (w := w) (base := base) (cl := cl) akV M XT
 have acp := ae3 (P := P) (w := w) (base := base) (cl := cl) afv M
 have aeD := agH (P := P) (w := w) (base := base) (cl := cl) ahP M adP acp
 have ak0 := ai6 (P := P) (w := w) (base := base) (cl := cl) akW M aeD
 have afl := ahD (P := P) (w := w) (base := base) (cl := cl) aix M aeD
 have aeE := agI (P := P) (w := w) (base := base) (cl := cl) ahQ M XT ag8 acp
 have agu := afq (P := P) (w := w) (base := base) (cl := cl) ags M acp
 have ad1 := adG (P := P) (w := w) (base := base) (cl := cl) ad0 M agu
 have afz := ae4 (P := P) (w := w) (base := base) (cl := cl) afx afy M ad1
 have ak1 := ai8 (P := P) (w := w) (base := base) (cl := cl) akX M aeE
 have aiB := ahC (P := P) (w := w) (base := base) (cl := cl) aiy M XT ak1
 have ahS := agG (P := P) (w := w) (base := base) (cl := cl) ahR M XT aeE
 have amO := akO (P := P) (w := w) (base := base) (cl := cl) amN M acQ XT ahS ag8
 have agO := agm (P := P) (w := w) (base := base) (cl := cl) agN M ak0 afl
 have agv := afr (P := P) (w := w) (base := base) (cl := cl) agt M afl
 have ak2 := ai9 (P := P) (w := w) (base := base) (cl := cl) akY M
 have ak3 := aja (P := P) (w := w) (base := base) (cl := cl) akZ M agO agv afz ak2
 have aiC := ahG (P := P) (w := w) (base := base) (cl := cl) aiz M acR afM aeB ak3 aiB amO
 have atD := asJ (P := P) (w := w) (base := base) (cl := cl) aty M
 have ao6 := asM (P := P) (w := w) (base := base) atz M
 have aoo := an5 (P := P) (w := w) (base := base) (cl := cl) aom M
 have ao7 := asK (P := P) (w := w) (base := base) (cl := cl) atA M aoo
 have aqE := aqi (P := P) (w := w) (base := base) (cl := cl) aqC M ao6 ao7
 have atF := asL (P := P) (w := w) (base := base) (cl := cl) atB M ao6 ao7
 have aop := an2 (P := P) (w := w) (base := base) (cl := cl) aon M XT afI ac0 aeu afJ afK aev aew aex afL aey adO adC aez aeA
 have aqF := aqh (P := P) (w := w) (base := base) (cl := cl) aqD M XT XC ada aop aiC
 have avD := asN (P := P) (w := w) (base := base) (cl := cl) avC M atF atD aqE aqF
 obtain ⟨f, fd, h1, h2⟩ := avD
 exact ⟨f, fd, h1.imp aqB, h2⟩
end
theorem walk {l : OpenLaw} {q : Program} {loose : List Str} {XP : (Str -> Option Value) -> Heap -> Prop} {YP : World -> Heap -> Prop} {d : DefRec} {K : Params -> Frag} (hn : l.most = some 63) (hdf : d.params.defaults = []) (hd : d.name = "law")
  (atv : ∀ x ∈ aa7, ((PyProof.Rows.recsOf q).find? (λe => e.name == x)).isSome = true \/ ∀ w : World, nsIn (K w.params) mainGlobals x = some none) (hNT : ∀ w : World, noTabs (K w.params) = true)
  (hY : ∀ (w : World) (h : Heap), YP w h -> (K w.params).In h)
  (F : ∀ (w : World) (mg : Str -> Option Value) (h : Heap), (K w.params).In h -> h.Ns mainGlobals mg -> ∀ base : Heap, (K w.params).In base -> base.Ns mainGlobals mg -> (∀ x ∈ aa7, ∀ c b, tabIn (K w.params) x = some (c, b) -> CodeHd base c b) -> anL mg base -> DfX l.prog w (K w.params) mg base 8 "law" (["_law_script"] : List Str) (spL (K w.params) 1 akM)) :
  WalkO q loose XP YP l.row.toRowW d [] (λf vs => PySem.call f vs) :=
 L2.aol (n := 63) (k := 8) (x := "_law_script") (CX := λw => CXF l.prog w) (sp := λw => spL (K w.params) 1 akM) hn (by decide) hdf ⟨rfl, by decide, by decide, rfl⟩ atv hNT hY
  (λw mg fa h KX G hm base kb gb hc bm => by
   obtain ⟨f, fd, h1, h2, _, h4⟩ := F w mg h KX G base kb gb hc bm
   rw [hd] at hm
   cases h4.symm.trans hm
   exact ⟨fd, λs u ks => h2 s [u] ks rfl, h1⟩)
  (λw H a ns hl hTb hS => ⟨λ_ => False, [.lst (ns.map .int)], rfl, .cons (.lst ((amM H).symm ▸ hS.toN) (aiw ns)) .nil, λb z => z.elim, hTb, _, atu ns, λv H' _ r => by
   cases r
   rfl⟩)
  λw H s e s' h => by
   obtain ⟨_, _, _, _, _, _, z, _⟩ := h
   exact z
end K12
end
section
namespace PySem.W.Fast
end PySem.W.Fast
namespace PySem.W.Fast
end PySem.W.Fast
namespace PySem.W.Fast
theorem tw10015139538417473691 : True := ⟨⟩
theorem tw10128007583425589181 : True := ⟨⟩
theorem tw10233124963013946602 : True := ⟨⟩
theorem tw10238007879419428131 : True := ⟨⟩
theorem tw10411382329808536672 : True := ⟨⟩
theorem tw10630360422512698834 : True := ⟨⟩
theorem tw10724006834767683278 : True := ⟨⟩
theorem tw1081051865179696549 : True := ⟨⟩
theorem tw10997488776148170513 : True := ⟨⟩
theorem tw11374800933521689784 : True := ⟨⟩
theorem tw11726041066511057479 : True := ⟨⟩
theorem tw11867610335600960459 : True := ⟨⟩
theorem tw11920464307228606869 : True := ⟨⟩
theorem tw12137761146219413525 : True := ⟨⟩
theorem tw12146462702649040290 : True := ⟨⟩
theorem tw12389976240245901376 : True := ⟨⟩
theorem tw12393016420689043948 : True := ⟨⟩
theorem tw12751054243623169946 : True := ⟨⟩
theorem tw12804034758638830273 : True := ⟨⟩
theorem tw13068849421167909846 : True := ⟨⟩
theorem tw13184508590756734262 : True := ⟨⟩
theorem tw13273791020074143687 : True := ⟨⟩
theorem tw13378416639805282384 : True := ⟨⟩
theorem tw13387790518808221797 : True := ⟨⟩
theorem tw13475300400318285735 : True := ⟨⟩
theorem tw13640313389707726021 : True := ⟨⟩
theorem tw13836730288741561482 : True := ⟨⟩
theorem tw13952353147473590143 : True := ⟨⟩
theorem tw14004302074808891281 : True := ⟨⟩
theorem tw14094031143883261303 : True := ⟨⟩
theorem tw14749251061014924591 : True := ⟨⟩
theorem tw15253892283749388822 : True := ⟨⟩
theorem tw15499683188367622861 : True := ⟨⟩
theorem tw1554836991201034085 : True := ⟨⟩
theorem tw15882258856515990848 : True := ⟨⟩
theorem tw16202219286242972183 : True := ⟨⟩
theorem tw16298753111510708437 : True := ⟨⟩
theorem tw16440331600487597024 : True := ⟨⟩
theorem tw16474278377492373610 : True := ⟨⟩
theorem tw16918933428421854876 : True := ⟨⟩
theorem tw17087566711810451891 : True := ⟨⟩
theorem tw17558446797562875807 : True := ⟨⟩
theorem tw17657387360956607242 : True := ⟨⟩
theorem tw17873454725498268683 : True := ⟨⟩
theorem tw18040467604349094992 : True := ⟨⟩
theorem tw18298212028335976488 : True := ⟨⟩
theorem tw1998378771188144196 : True := ⟨⟩
theorem tw2129950783606513653 : True := ⟨⟩
theorem tw2164537567264202931 : True := ⟨⟩
theorem tw2176845293312929661 : True := ⟨⟩
theorem tw2306299957902109772 : True := ⟨⟩
theorem tw2412014625593340845 : True := ⟨⟩
theorem tw2524322842289134223 : True := ⟨⟩
theorem tw2792556235335858569 : True := ⟨⟩
theorem tw280813523423706806 : True := ⟨⟩
theorem tw2818000495359972337 : True := ⟨⟩
theorem tw2963977082718600070 : True := ⟨⟩
theorem tw3081630383982899483 : True := ⟨⟩
theorem tw3254254805778615177 : True := ⟨⟩
theorem tw332597182389127755 : True := ⟨⟩
theorem tw3802246502711436559 : True := ⟨⟩
theorem tw3805519496214871572 : True := ⟨⟩
theorem tw3831445498581080765 : True := ⟨⟩
theorem tw4073290251013672748 : True := ⟨⟩
theorem tw4495147012710123246 : True := ⟨⟩
theorem tw4609319242418806662 : True := ⟨⟩
theorem tw4746184967923652006 : True := ⟨⟩
theorem tw5066884908248697003 : True := ⟨⟩
theorem tw5153063378792341099 : True := ⟨⟩
theorem tw5190190468644254667 : True := ⟨⟩
theorem tw5209366390970766786 : True := ⟨⟩
theorem tw5523251073570891203 : True := ⟨⟩
theorem tw5660442841875169872 : True := ⟨⟩
theorem tw5732063591041457860 : True := ⟨⟩
theorem tw5959025870257508559 : True := ⟨⟩
theorem tw6040910679102393064 : True := ⟨⟩
theorem tw6140748350272981937 : True := ⟨⟩
theorem tw6317021903549704592 : True := ⟨⟩
theorem tw6546332658658787513 : True := ⟨⟩
theorem tw6995267073304880483 : True := ⟨⟩
theorem tw7212366990977761109 : True := ⟨⟩
theorem tw7374943388894012380 : True := ⟨⟩
theorem tw746344715276070347 : True := ⟨⟩
theorem tw75793396974237114 : True := ⟨⟩
theorem tw7699129519316117816 : True := ⟨⟩
theorem tw780099935244083845 : True := ⟨⟩
theorem tw7989370916416015814 : True := ⟨⟩
theorem tw823037418382364298 : True := ⟨⟩
theorem tw8337745897472475220 : True := ⟨⟩
theorem tw8650702002789030082 : True := ⟨⟩
theorem tw8681069042638766161 : True := ⟨⟩
theorem tw8863440523746152831 : True := ⟨⟩
theorem tw8881953955921269002 : True := ⟨⟩
theorem tw9202649964304880465 : True := ⟨⟩
theorem tw9236817341115415940 : True := ⟨⟩
theorem tw9292021249921803754 : True := ⟨⟩
theorem tw9351633840977358749 : True := ⟨⟩
theorem tw9357550667015243437 : True := ⟨⟩
theorem tw947808394721880499 : True := ⟨⟩
theorem tw9519983800300118957 : True := ⟨⟩
theorem tw9620835580409493084 : True := ⟨⟩
theorem tw9875781641204238604 : True := ⟨⟩
theorem tw9992265679604152824 : True := ⟨⟩
end PySem.W.Fast
open PySem PySem.W PyProof.Rows
set_option maxRecDepth 100000 in
set_option maxHeartbeats 0 in
theorem PySem.Challenge.cw_bestheads_k12_refused_worths_holds : PySem.Challenge.rw_bestheads_k12_refused_worths.Holds := by
 w_on; o_law; k_head; (case hw => w_witness2)
 k_fill
 refine K12.walk (l := PySem.Challenge.rw_bestheads_k12_refused_worths) rfl rfl rfl ?atv ?hNT (λw h Y => by first | exact PySem.W.km_in_of Y | exact PySem.W.kIn_of Y) ?F
 case atv =>
  intro x hx
  rcases (List.mem_cons.mp hx) with rfl | hx
  ·exact .inl (by kernel_rfl)
  ·rw [List.mem_singleton.mp hx]
   exact .inr λw => by k_is
 case hNT => intro w; kernel_rfl
 case F =>
  intro w mg h KX G base kb gb hcd hbm
  refine' K12.avB ?qM ?ajh ?amP ?ak4 ?qXT ?amQ ?aji ?ak5 ?amR ?amS ?ak6 ?amT ?ak7 ?amU ?ak8 ?ajj ?ak9 ?ala ?alb ?aiD ?qd1 ?qd2 ?qd3 ?qd4 ?qd5 ?qd6 ?qd7 ?qd8 ?qd9 ?qe9 ?axe ?axf ?axg ?axh ?axi ?axj ?axk ?axl ?axm ?axn ?axo ?axp ?axq ?axr ?axt ?axu ?axv ?axw ?avE ?avF
  case qM =>
   refine' K12.avA KX G ?z0 ?z1 ?z2 ?z3 ?z4 ?z5 ?z6 ?z7 ?z8 ?z9 ?z10 ?z11 ?z12 ?z13
   all_goals k_is
  case qd1 =>
   refine' K12.ach KX G ?qa1 ?ql1 ?qc1 ?qk1
   (case qa1 => k_is); (case ql1 => k_is); (case qc1 => k_is); (case qk1 => k_is)
  case qd2 =>
   refine' K12.ach KX G ?qa2 ?ql2 ?qc2 ?qk2
   (case qa2 => k_is); (case ql2 => k_is); (case qc2 => k_is); (case qk2 => k_is)
  case qd3 =>
   refine' K12.ach KX G ?qa3 ?ql3 ?qc3 ?qk3
   (case qa3 => k_is); (case ql3 => k_is); (case qc3 => k_is); (case qk3 => k_is)
  case qd4 =>
   refine' K12.ach KX G ?qa4 ?ql4 ?qc4 ?qk4
   (case qa4 => k_is); (case ql4 => k_is); (case qc4 => k_is); (case qk4 => k_is)
  case qd5 =>
   refine' K12.ach KX G ?qa5 ?ql5 ?qc5 ?qk5
   (case qa5 => k_is); (case ql5 => k_is); (case qc5 => k_is); (case qk5 => k_is)
  case qd6 =>
   refine' K12.ach KX G ?qa6 ?ql6 ?qc6 ?qk6
   (case qa6 => k_is); (case ql6 => k_is); (case qc6 => k_is); (case qk6 => k_is)
  case qd7 =>
   refine' K12.ach KX G ?qa7 ?ql7 ?qc7 ?qk7
   (case qa7 => k_is); (case ql7 => k_is); (case qc7 => k_is); (case qk7 => k_is)
  case qd8 =>
   refine' K12.ach KX G ?qa8 ?ql8 ?qc8 ?qk8
   (case qa8 => k_is); (case ql8 => k_is); (case qc8 => k_is); (case qk8 => k_is)
  case axe =>
   refine' K12.ach KX G ?axx ?axy ?axz ?axA
   (case axx => k_is); (case axy => k_is); (case axz => k_is); (case axA => k_is)
  case axf =>
   refine' K12.ach KX G ?axB ?axC ?axD ?axE
   (case axB => k_is); (case axC => k_is); (case axD => k_is); (case axE => k_is)
  case axg =>
   refine' K12.ach KX G ?axF ?axG ?axH ?axI
   (case axF => k_is); (case axG => k_is); (case axH => k_is); (case axI => k_is)
  case axh =>
   refine' K12.ach KX G ?axJ ?axK ?axL ?axM
   (case axJ => k_is); (case axK => k_is); (case axL => k_is); (case axM => k_is)
  case axi =>
   refine' K12.ach KX G ?axN ?axO ?axP ?axQ
   (case axN => k_is); (case axO => k_is); (case axP => k_is); (case axQ => k_is)
  case axj =>
   refine' K12.ach KX G ?axR ?axS ?axT ?axU
   (case axR => k_is); (case axS => k_is); (case axT => k_is); (case axU => k_is)
  case axk =>
   refine' K12.ach KX G ?axV ?axW ?axX ?axY
   (case axV => k_is); (case axW => k_is); (case axX => k_is); (case axY => k_is)
  case axl =>
   refine' K12.ach KX G ?axZ ?ax0 ?ax1 ?ax2
   (case axZ => k_is); (case ax0 => k_is); (case ax1 => k_is); (case ax2 => k_is)
  case axm =>
   refine' K12.ach KX G ?ax3 ?ax4 ?ax5 ?ax6
   (case ax3 => k_is); (case ax4 => k_is); (case ax5 => k_is); (case ax6 => k_is)
  case axn =>
   refine' K12.ach KX G ?ax7 ?ax8 ?ax9 ?aya
   (case ax7 => k_is); (case ax8 => k_is); (case ax9 => k_is); (case aya => k_is)
  case axo =>
   refine' K12.ach KX G ?ayb ?ayc ?ayd ?aye
   (case ayb => k_is); (case ayc => k_is); (case ayd => k_is); (case aye => k_is)
  case axp =>
   refine' K12.ach KX G ?ayf ?ayg ?ayh ?ayi
   (case ayf => k_is); (case ayg => k_is); (case ayh => k_is); (case ayi => k_is)
  case axq =>
   refine' K12.ach KX G ?ayj ?ayk ?ayl ?aym
   (case ayj => k_is); (case ayk => k_is); (case ayl => k_is); (case aym => k_is)
  case axr =>
   refine' K12.ach KX G ?ayn ?ayo ?ayp ?ayq
   (case ayn => k_is); (case ayo => k_is); (case ayp => k_is); (case ayq => k_is)
  case axt =>
   refine' K12.ach KX G ?ayr ?ays ?ayt ?ayu
   (case ayr => k_is); (case ays => k_is); (case ayt => k_is); (case ayu => k_is)
  case axu =>
   refine' K12.ach KX G ?ayv ?ayw ?ayx ?ayy
   (case ayv => k_is); (case ayw => k_is); (case ayx => k_is); (case ayy => k_is)
  case axv =>
   refine' K12.ach KX G ?ayz ?ayA ?ayB ?ayC
   (case ayz => k_is); (case ayA => k_is); (case ayB => k_is); (case ayC => k_is)
  case axw =>
   refine' K12.ach KX G ?ayD ?ayE ?ayF ?ayG
   (case ayD => k_is); (case ayE => k_is); (case ayF => k_is); (case ayG => k_is)
  case qd9 =>
   refine' K12.atw KX G ?qa9 ?ql9 ?qc9 ?qk9
   (case qa9 => k_is); (case ql9 => k_is); (case qc9 => k_is); (case qk9 => k_is)
  case qe9 =>
   refine' L2.anS (by decide) hcd hbm (L2.ap9 ?ra9 ?rb9 ?ayH ?rc9 ?ayI ?ayJ ?rd9 ?ayK ?ayL) ?re9
   (case ra9 => k_is); (case rb9 => k_is); (case rc9 => k_is); (case ayJ => exact rfl); (case rd9 => k_is); (case ayH => kernel_rfl); (case ayI => kernel_rfl); (case ayK => kernel_rfl); (case ayL => exact rfl)
   case re9 =>
    intro x' hx'
    rcases (List.mem_cons.mp hx') with rfl | hx'
    ·exact .inl rfl
    ·rw [List.mem_singleton.mp hx']
     exact .inr λc' z => (by have y := (L2.akc (by k_is)).symm.trans z; cases y)
  case avE =>
   refine' K12.aqA KX G ?qbm ?qbl ?qbe ?ayM ?ayN ?ayO ?ayP ?ayQ ?ayR
   (case qbm => k_is); (case qbl => k_is); (case qbe => rfl); (case ayM => k_is); (case ayN => rfl); (case ayO => k_is); (case ayP => rfl); (case ayQ => k_is); (case ayR => rfl)
  case avF =>
   refine' K12.atx KX G ?avG
   (case avG => k_is)
  case qXT => exact L2.aiK.of (by kernel_rfl)
  case amQ =>
   refine' ⟨?alc, mg_of KX G ?ald⟩
   (case alc => k_is); (case ald => k_is)
  case aji =>
   refine' ⟨?aiE, mg_of KX G ?aiF⟩
   (case aiE => k_is); (case aiF => k_is)
  case ak5 =>
   refine' ⟨?ajk, mg_of KX G ?ajl⟩
   (case ajk => k_is); (case ajl => k_is)
  case amR =>
   refine' ⟨?ale, mg_of KX G ?alf⟩
   (case ale => k_is); (case alf => k_is)
  case amS =>
   refine' ⟨?alg, mg_of KX G ?alh⟩
   (case alg => k_is); (case alh => k_is)
  case ak6 =>
   refine' ⟨?ajm, mg_of KX G ?ajn⟩
   (case ajm => k_is); (case ajn => k_is)
  case amT =>
   refine' ⟨?ali, mg_of KX G ?alj⟩
   (case ali => k_is); (case alj => k_is)
  case ak7 =>
   refine' ⟨?ajo, mg_of KX G ?ajp⟩
   (case ajo => k_is); (case ajp => k_is)
  case amU =>
   refine' ⟨?alk, mg_of KX G ?alm⟩
   (case alk => k_is); (case alm => k_is)
  case ak8 =>
   refine' ⟨?ajq, mg_of KX G ?ajr⟩
   (case ajq => k_is); (case ajr => k_is)
  case ajj =>
   refine' ⟨?aiG, mg_of KX G ?aiH⟩
   (case aiG => k_is); (case aiH => k_is)
  case ak9 =>
   refine' ⟨?ajs, mg_of KX G ?ajt⟩
   (case ajs => k_is); (case ajt => k_is)
  case ala =>
   refine' ⟨?aju, mg_of KX G ?ajv⟩
   (case aju => k_is); (case ajv => k_is)
  case alb =>
   refine' ⟨?ajw, mg_of KX G ?ajx⟩
   (case ajw => k_is); (case ajx => k_is)
  case aiD =>
   refine' ⟨?ahT, mg_of KX G ?ahU⟩
   (case ahT => k_is); (case ahU => k_is)
  case ajh =>
   refine' L2.alU kb gb ?aiI ?aiJ
   (case aiI => k_is); (case aiJ => k_exc)
  case amP =>
   refine' L2.alU kb gb ?aln ?alo
   (case aln => k_is); (case alo => k_exc)
  case ak4 =>
   refine' L2.alU kb gb ?ajy ?ajz
   (case ajy => k_is); (case ajz => k_exc)
#print axioms PySem.Challenge.cw_bestheads_k12_refused_worths_holds
end