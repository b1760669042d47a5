import PyProof.Rows.All
import Wide.All
import OpenK.AllK
import Wide.FinOn
import Lean
import PyProof.EqAt
import PyProof.EqKinds
import PyProof.TupleCall
import PyProof.ReprRoads
import PyProof.ReprBulk
import PyProof.Rows.RegStrFacts
import PyProof.StrBlockH
import PyProof.FitsBits
import KE.KTurns
import PyProof.NeKinds
import KE.KNest
import KE.KSortKey
import PyProof.ListRange
import PyProof.Rows.SortWalk
import KE.KListMore
import PySem.Challenge.RW_bestheads_k08_refused_books_and_lists
set_option exponentiation.threshold 6000
set_option Elab.async false
set_option linter.all false
set_option maxRecDepth 100000
set_option maxHeartbeats 4000000
section
namespace L2
open PySem PySem.Spec PyProof.Rows
noncomputable abbrev Key := Sum Int Str
noncomputable def aro : Key -> Value -> Bool
 | .inl k, v => Value.isInt k v
 | .inr x, v => Value.isStrOf x v
noncomputable def axo (w : World) : Key -> Int
 | .inl k => hashInt k
 | .inr x => hashStr w x
theorem abQ : ∀ {k : Key} {v : Value}, aro k v = true -> (∃ i t, k = Sum.inl i /\ v = Value.int i t) \/ (∃ x t, k = Sum.inr x /\ v = Value.str x t)
 | .inl i, v, h => by
  obtain ⟨t, e⟩ := Value.isInt_shape (k := i) (v := v) h
  exact .inl ⟨i, t, rfl, e⟩
 | .inr x, v, h => by
  obtain ⟨t, e⟩ := Value.isStrOf_shape (x := x) (v := v) h
  exact .inr ⟨x, t, rfl, e⟩
theorem arp (a b : Int) : decide ((Sum.inl a : Key) = Sum.inl b) = (a == b) := by
 by_cases e : a = b
 ·subst e; simp
 ·have h : ¬ (Sum.inl a : Key) = Sum.inl b := λq => e (Sum.inl.inj q)
  rw [decide_eq_false h]
  exact (beq_eq_false_iff_ne.mpr e).symm
theorem arq (a b : Str) : decide ((Sum.inr a : Key) = Sum.inr b) = decide (a = b) := by
 by_cases e : a = b
 ·subst e; simp
 ·have h : ¬ (Sum.inr a : Key) = Sum.inr b := λq => e (Sum.inr.inj q)
  rw [decide_eq_false h, decide_eq_false e]
theorem ars (a : Int) (b : Str) : decide ((Sum.inl a : Key) = Sum.inr b) = false := decide_eq_false (λq => nomatch q)
theorem aru (a : Str) (b : Int) : decide ((Sum.inr a : Key) = Sum.inl b) = false := decide_eq_false (λq => nomatch q)
noncomputable def aiU (prog : Program) (w : World) : PySem.KeyKind prog w Key where
 is := aro
 hash := axo w
 inj := λv a b ha hb => by
  rcases abQ ha with ⟨i, t, rfl, rfl⟩ | ⟨x, t, rfl, rfl⟩
  ·rcases abQ hb with ⟨j, u, rfl, e⟩ | ⟨y, u, rfl, e⟩
   ·injection e with e1 _; rw [e1]
   ·exact nomatch e
  ·rcases abQ hb with ⟨j, u, rfl, e⟩ | ⟨y, u, rfl, e⟩
   ·exact nomatch e
   ·injection e with e1 _; rw [e1]
 byValue := λk v h => by
  rcases abQ h with ⟨i, t, rfl, rfl⟩ | ⟨x, t, rfl, rfl⟩ <;> rfl
 pyHash := λhv h => by
  rcases abQ hv with ⟨i, t, rfl, rfl⟩ | ⟨x, t, rfl, rfl⟩
  ·exact wpAny_pyHash_int h
  ·exact wpAny_pyHash_str h
 eqBool := λhu hv h => by
  rcases abQ hu with ⟨i, t, rfl, rfl⟩ | ⟨x, t, rfl, rfl⟩
  ·rcases abQ hv with ⟨j, u, rfl, rfl⟩ | ⟨y, u, rfl, rfl⟩
   ·rw [arp] at h; exact wpAny_eqBool_int h
   ·rw [ars] at h; exact SeqAt.EqAt.int_str i t y u _ _ _ _ h
  ·rcases abQ hv with ⟨j, u, rfl, rfl⟩ | ⟨y, u, rfl, rfl⟩
   ·rw [aru] at h; exact SeqAt.EqAt.str_int x t j u _ _ _ _ h
   ·rw [arq] at h; exact wpAny_eqBool_str h
 «strs» := λk x t v h => by
  rcases abQ h with ⟨i, u, rfl, e⟩ | ⟨y, u, rfl, e⟩
  ·exact nomatch e
  ·injection e with e1 _
   subst e1
   cases v <;> rfl
end L2
namespace L2
open PySem PySem.Spec PyProof.Rows
inductive V where
 | non | bl (b : Bool) | int (i : Int) | str (x : Str) | byt (b : Array UInt8) | flt (b : UInt64) | ref (a : Addr) | ty (n : String)
 deriving DecidableEq
noncomputable def RelV : V -> Value -> Prop
 | .non, u => u = Value.none
 | .bl b, u => u = Value.bool b
 | .int i, u => ∃ t, u = Value.int i t
 | .str x, u => ∃ t, u = Value.str x t
 | .byt b, u => ∃ t, u = Value.bytes b t
 | .flt b, u => ∃ t, u = Value.float b t
 | .ref a, u => u = Value.ref a
 | .ty n, u => u = Value.type n
noncomputable abbrev Vals : List V -> List Value -> Prop := Paired RelV
theorem Vals.length {xs : List V} {us : List Value} (r : Vals xs us) : xs.length = us.length := Paired.length r
theorem Vals.get : ∀ {xs : List V} {us : List Value} {i : Nat} {x : V}, Vals xs us -> xs[i]? = some x -> ∃ u, us[i]? = some u /\ RelV x u
 | _, _, _, _, .nil, e => by simp at e
 | _, _, 0, _, .cons r _, e => by simp at e; subst e; exact ⟨_, rfl, r⟩
 | _, _, i + 1, x, .cons _ t, e => by
  obtain ⟨u, h1, h2⟩ := Vals.get (i := i) (x := x) t (by simpa using e)
  exact ⟨u, by simpa using h1, h2⟩
theorem Vals.set {x : V} {u : Value} (r : RelV x u) : ∀ {xs : List V} {us : List Value} (i : Nat), Vals xs us -> Vals (xs.set i x) (us.set i u)
 | _, _, _, .nil => .nil
 | _, _, 0, .cons _ t => .cons r t
 | _, _, i + 1, .cons q t => .cons q (Vals.set r i t)
theorem Vals.append : ∀ {xs ys : List V} {us ws : List Value}, Vals xs us -> Vals ys ws -> Vals (xs ++ ys) (us ++ ws)
 | _, _, _, _, .nil, s => s
 | _, _, _, _, .cons r t, s => .cons r (Vals.append t s)
theorem Vals.take : ∀ {xs : List V} {us : List Value} (n : Nat), Vals xs us -> Vals (xs.take n) (us.take n)
 | _, _, 0, _ => .nil
 | _, _, _ + 1, .nil => .nil
 | _, _, n + 1, .cons r t => .cons r (Vals.take n t)
theorem Vals.drop : ∀ {xs : List V} {us : List Value} (n : Nat), Vals xs us -> Vals (xs.drop n) (us.drop n)
 | _, _, 0, r => r
 | _, _, _ + 1, .nil => .nil
 | _, _, n + 1, .cons _ t => Vals.drop n t
noncomputable def awu : Option V -> Option Value -> Prop
 | some v, some u => RelV v u
 | none, none => True
 | _, _ => False
noncomputable def KV {κ : Type} : List (κ × V) -> List (κ × Value) -> Prop := Paired λ(p : κ × V) (q : κ × Value) => p.1 = q.1 /\ RelV p.2 q.2
noncomputable def kV : Key -> V
 | .inl i => .int i
 | .inr x => .str x
inductive HO where
 | lst (xs : List V)
 | tup (xs : List V)
 | dK (kvs : List (Key × V)) | dT (kvs : List (List Key × V))
 | set (S : Int -> Bool) (n : Nat)
 | ins (C dx : Addr) (fs : List (Str × V))
 | own (x : Addr)
 | xd (fs : List (Str × V))
 | met (f x : Addr)
 | rng (lo hi : Int)
 | frz (o : Obj) (u : HO)
 | tbl (ps : Array Value)
 | ext (φ : Heap -> Prop)
noncomputable abbrev Hp := Addr -> Option HO
noncomputable def upd (H : Hp) (a : Addr) (o : HO) : Hp := λb => if b = a then some o else H b
theorem aaK {H : Hp} {a : Addr} {o : HO} : upd H a o a = some o := by unfold upd; rw [if_pos rfl]
theorem aaw {H : Hp} {a b : Addr} {o : HO} (h : b ≠ a) : upd H a o b = H b := by unfold upd; rw [if_neg h]
theorem aa1 {H : Hp} {a b : Addr} {o : HO} (h : H a = some o) (h' : H b = none) : a ≠ b := by
 intro e; subst e; rw [h] at h'; cases h'
section
variable (P : Program) (w : World)
noncomputable def ad3 (H : Hp) (h : Heap) (a : Addr) : HO -> Prop
 | .lst xs => xs.length <= sizeLine /\ ∃ (its : List Value) (n : Nat), Vals xs its /\ h.get? a = some { cls := .type "list", data := .seq its.toArray n }
 | .tup xs => xs.length <= sizeLine /\ ∃ its : List Value, Vals xs its /\ IsTup h a its.toArray
 | .dK kvs => kvs.length <= sizeLine /\ (a == sysModules) = false /\ ∃ vs, KV kvs vs /\ h.DictOf (aiU P w) a vs
 | .dT kvs => kvs.length <= sizeLine /\ (a == sysModules) = false /\ ∃ xs : List (List Key × Addr × Value),
   Paired (λ(p : List Key × V) (q : List Key × Addr × Value) => p.1 = q.1 /\ H q.2.1 = some (.tup (p.1.map kV)) /\ RelV p.2 q.2.2) kvs xs /\
   ∃ o es ep, h.get? a = some o /\ o.ExactDict /\ o.data = .dict es ep /\ es.toList = xs.map (entryOfKey (tupleKind (aiU P w))) /\ (xs.map (·.1)).Nodup
 | .set S n => h.SetOf (intKind P w) a S n
 | .ins C dx fs => H dx = some (.own a) /\ fs.length <= 1000 /\ dx ≠ a /\ h.get? a = some (PySem.W.instObj C dx) /\
   ∃ mA, h.Ns1 dx mA /\ (∀ f, awu (fs.lookup f) (mA f)) /\ PySem.Within mA (fs.map (·.1))
 | .own _ => ∃ o, h.get? a = some o
 | .xd fs => ∃ mA, h.Ns1 a mA /\ ∀ f, awu (fs.lookup f) (mA f)
 | .rng lo hi => ∃ t u v, h.get? a = some { cls := .type "range", data := .fields #[.int lo t, .int hi u, .int 1 v] }
 | .frz o u => h.get? a = some o /\ ad3 H h a u
 | .tbl ps => h.get? a = some { cls := .none, data := .fields ps }
 | .met f x => h.get? a = some (PySem.W.methodObj (.ref f) (.ref x))
 | .ext φ => φ h /\ (∃ o, h.get? a = some o) /\ ∀ h1 h2 : Heap, φ h1 -> (∀ o, h1.get? a = some o -> h2.get? a = some o) -> φ h2
noncomputable def HOk (H : Hp) (h : Heap) : Prop := ∀ a o, H a = some o -> ad3 P w H h a o
end
section
variable {P : Program} {w : World} {H H' : Hp} {h h' : Heap} {a : Addr} {o : HO}
theorem ad3.lt (x : ad3 P w H h a o) : a < h.objs.size := by
 cases o with
 | lst xs => obtain ⟨_, _, _, _, e⟩ := x; exact Heap.lt_size e
 | tup xs => obtain ⟨_, _, _, p⟩ := x; exact p.lt
 | dK kvs => obtain ⟨_, _, _, _, o, _, _, e, _⟩ := x; exact Heap.lt_size e
 | dT kvs => obtain ⟨_, _, _, _, o, _, _, e, _⟩ := x; exact Heap.lt_size e
 | set S n => obtain ⟨o, _, _, _, e, _⟩ := x; exact Heap.lt_size e
 | ins C dx fs => obtain ⟨_, _, _, e, _⟩ := x; exact Heap.lt_size e
 | own y => obtain ⟨_, e⟩ := x; exact Heap.lt_size e
 | xd fs => obtain ⟨_, ⟨_, _, _, e, _⟩, _⟩ := x; exact Heap.lt_size e
 | rng lo hi => obtain ⟨_, _, _, e⟩ := x; exact Heap.lt_size e
 | frz ob u => obtain ⟨e, _⟩ := x; exact Heap.lt_size e
 | tbl ps => exact Heap.lt_size (show h.get? a = some _ from x)
 | met f y => exact Heap.lt_size (show h.get? a = some _ from x)
 | ext φ => obtain ⟨_, ⟨_, e⟩, _⟩ := x; exact Heap.lt_size e
theorem Paired.awv {α β : Type} {F G : α -> β -> Prop} : ∀ {l₁ : List α} {l₂ : List β}, Paired F l₁ l₂ -> (∀ a b, F a b -> G a b) -> Paired G l₁ l₂
 | _, _, .nil, _ => .nil
 | _, _, .cons r t, f => .cons (f _ _ r) (Paired.awv t f)
theorem ad3.stay (x : ad3 P w H h a o) (k : ∀ b u, (b = a \/ H b = some (.own a)) -> h.get? b = some u -> h'.get? b = some u)
  (ho : ∀ b, H b = some (.own a) -> H' b = some (.own a)) (ht : ∀ b xs, H b = some (.tup xs) -> H' b = some (.tup xs)) : ad3 P w H' h' a o := by
 induction o with
 | lst xs => obtain ⟨z, its, n, r, e⟩ := x; exact ⟨z, its, n, r, k _ _ (.inl rfl) e⟩
 | tup xs => obtain ⟨z, its, r, ob, e, c⟩ := x; exact ⟨z, its, r, ob, k _ _ (.inl rfl) e, c⟩
 | dK kvs => obtain ⟨z, y, vs, r, ob, es, ep, e, c⟩ := x; exact ⟨z, y, vs, r, ob, es, ep, k _ _ (.inl rfl) e, c⟩
 | dT kvs =>
  obtain ⟨z, y, xs, r, ob, es, ep, e, c⟩ := x
  exact ⟨z, y, xs, Paired.awv r λp q z => ⟨z.1, ht _ _ z.2.1, z.2.2⟩, ob, es, ep, k _ _ (.inl rfl) e, c⟩
 | set S n => obtain ⟨ob, es, ep, t, e, c⟩ := x; exact ⟨ob, es, ep, t, k _ _ (.inl rfl) e, c⟩
 | ins C dx fs =>
  obtain ⟨d, z, ne, e, mA, ⟨od, es, ep, e2, c⟩, r⟩ := x
  exact ⟨ho _ d, z, ne, k _ _ (.inl rfl) e, mA, ⟨od, es, ep, k _ _ (.inr d) e2, c⟩, r⟩
 | own y => obtain ⟨ob, e⟩ := x; exact ⟨ob, k _ _ (.inl rfl) e⟩
 | xd fs => obtain ⟨mA, ⟨od, es, ep, e, c⟩, r⟩ := x; exact ⟨mA, ⟨od, es, ep, k _ _ (.inl rfl) e, c⟩, r⟩
 | rng lo hi => obtain ⟨t, u, v, e⟩ := x; exact ⟨t, u, v, k _ _ (.inl rfl) e⟩
 | frz ob u ih => obtain ⟨e, q⟩ := x; exact ⟨k _ _ (.inl rfl) e, ih q⟩
 | tbl ps =>
  have e : h.get? a = some { cls := .none, data := .fields ps } := x
  show h'.get? a = some { cls := .none, data := .fields ps }
  exact k a _ (.inl rfl) e
 | met f y =>
  have e : h.get? a = some (PySem.W.methodObj (.ref f) (.ref y)) := x
  show h'.get? a = some (PySem.W.methodObj (.ref f) (.ref y))
  exact k a _ (.inl rfl) e
 | ext φ => obtain ⟨p, ⟨o, e⟩, st⟩ := x; exact ⟨st _ _ p λo q => k _ _ (.inl rfl) q, ⟨o, k _ _ (.inl rfl) e⟩, st⟩
theorem HOk.lt (x : HOk P w H h) (e : H a = some o) : a < h.objs.size := (x a o e).lt
theorem HOk.fresh (x : HOk P w H h) (e : h.objs.size <= a) : H a = none := by
 cases q : H a with
 | none => rfl
 | some u => exact absurd (Nat.lt_of_lt_of_le (x.lt q) e) (Nat.lt_irrefl _)
theorem HOk.kept (x : HOk P w H h) (k : ∀ b u, h.get? b = some u -> h'.get? b = some u) : HOk P w H h' := λa o e =>
 (x a o e).stay (λb u _ q => k b u q) (λ_ q => q) λ_ _ q => q
theorem HOk.laid (x : HOk P w H h) (k : ∀ b u, h.get? b = some u -> h'.get? b = some u) (hp : h.objs.size <= a) (new : ad3 P w (upd H a o) h' a o) : HOk P w (upd H a o) h' := λb u e => by
 have hn := x.fresh hp
 by_cases hb : b = a
 ·subst hb; rw [aaK] at e; cases e; exact new
 ·rw [aaw hb] at e
  exact (x b u e).stay (λc v _ q => k c v q) (λc q => by rw [aaw (aa1 q hn)]; exact q) λc xs q => by rw [aaw (aa1 q hn)]; exact q
end
noncomputable def Rd (H : Hp) (a : Addr) (u : HO) : Prop := H a = some u \/ ∃ o, H a = some (.frz o u)
theorem Rd.ok {P : Program} {w : World} {H : Hp} {h : Heap} {a : Addr} {u : HO} (r : Rd H a u) (x : HOk P w H h) : ad3 P w H h a u := by
 rcases r with r | ⟨o, r⟩
 ·exact x a u r
 ·obtain ⟨_, q⟩ := x a _ r
  exact q
noncomputable def Mut : Option HO -> Prop
 | some (.lst _) => True
 | some (.dK _) => True
 | some (.dT _) => True
 | some (.set _ _) => True
 | some (.ins _ _ _) => True
 | some (.ext _) => True
 | _ => False
section
variable {P : Program} {w : World} {H : Hp} {h h' : Heap} {x e : Addr} {o' : HO}
theorem HOk.write (ok : HOk P w H h) (mu : Mut (H x)) (he : e = x \/ H e = some (.own x)) (k : ∀ b u, b ≠ e -> h.get? b = some u -> h'.get? b = some u) (heo : ∃ u, h'.get? e = some u)
  (new : ad3 P w (upd H x o') h' x o') : HOk P w (upd H x o') h' := λb u q => by
 have aww : ∀ c y, H c = some (.own y) -> c ≠ x := λc y r z => by subst z; rw [r] at mu; exact mu
 have axp : ∀ c xs, H c = some (.tup xs) -> c ≠ x := λc xs r z => by subst z; rw [r] at mu; exact mu
 by_cases hb : b = x
 ·subst hb; rw [aaK] at q; cases q; exact new
 ·rw [aaw hb] at q
  by_cases hbe : b = e
  ·have q' : H b = some (.own x) := by
    rcases he with z | z
    ·exact absurd (hbe.trans z) hb
    ·rw [hbe]; exact z
   rw [q] at q'; cases q'
   obtain ⟨v, hv⟩ := heo
   exact ⟨v, by rw [hbe]; exact hv⟩
  ·refine (ok b u q).stay (λc v hc r => k c v ?_ r) (λc r => by rw [aaw (aww c b r)]; exact r) λc xs r => by rw [aaw (axp c xs r)]; exact r
   rcases hc with rfl | hc
   ·exact hbe
   ·rintro rfl
    rcases he with z | z
    ·exact aww c b hc z
    ·rw [hc] at z; cases z; exact hb rfl
end
structure Un (fs ex : List Addr) (H H' : Hp) (h h' : Heap) : Prop where
 keep : ∀ b o, h.get? b = some o -> H b = none -> b ∉ fs -> b ∉ ex -> h'.get? b = some o
 slot : ∀ b o, h.get? b = some o -> H b = none -> b ∈ fs -> b ∉ ex -> ∃ sl, h'.get? b = some { o with slots := sl }
 free : ∀ b o, h.get? b = some o -> H b = none -> b ∉ ex -> H' b = none
 there : ∀ b o, h.get? b = some o -> b ∉ ex -> ∃ o', h'.get? b = some o'
 tups : ∀ b xs, H b = some (.tup xs) -> H' b = some (.tup xs)
 ajS : ∀ b o u, H b = some (.frz o u) -> H' b = some (.frz o u)
 ajT : ∀ b ps, H b = some (.tbl ps) -> ∃ more, H' b = some (.tbl (ps ++ more))
section
variable {fs fs' ex ex' : List Addr} {H H1 H2 : Hp} {h h1 h2 h' : Heap} {a x e : Addr} {o : HO}
theorem Un.any (u : Un fs ex H H1 h h1) {b : Addr} {ob : Obj} (q : h.get? b = some ob) (n : H b = none) (hx : b ∉ ex) : ∃ sl, h1.get? b = some { ob with slots := sl } := by
 by_cases hb : b ∈ fs
 ·exact u.slot b ob q n hb hx
 ·exact ⟨ob.slots, u.keep b ob q n hb hx⟩
theorem Un.kept (k : ∀ b u, h.get? b = some u -> h'.get? b = some u) : Un fs ex H H h h' :=
 ⟨λb ob q _ _ _ => k b ob q, λb ob q _ _ _ => ⟨ob.slots, k b ob q⟩, λ_ _ _ n _ => n, λb ob q _ => ⟨ob, k b ob q⟩, λ_ _ q => q, λ_ _ _ q => q, λ_ ps q => ⟨#[], by rw [q]; simp⟩⟩
theorem Un.refl : Un fs ex H H h h := Un.kept λ_ _ q => q
theorem Un.laid (k : ∀ b u, h.get? b = some u -> h'.get? b = some u) (hp : h.objs.size <= a) (hn : H a = none) : Un fs ex H (upd H a o) h h' where
 keep := λb u q _ _ _ => k b u q
 slot := λb u q _ _ _ => ⟨u.slots, k b u q⟩
 free := λb u q n _ => by rw [aaw (Nat.ne_of_lt (Nat.lt_of_lt_of_le (Heap.lt_size q) hp))]; exact n
 there := λb u q _ => ⟨u, k b u q⟩
 tups := λb xs q => by rw [aaw (aa1 q hn)]; exact q
 ajS := λb u xs q => by rw [aaw (aa1 q hn)]; exact q
 ajT := λb ps q => ⟨#[], by rw [aaw (aa1 q hn), q]; simp⟩
theorem Un.write (mu : Mut (H x)) (he : e = x \/ H e = some (.own x)) (k : ∀ b u, b ≠ e -> h.get? b = some u -> h'.get? b = some u) (heo : ∃ u, h'.get? e = some u) : Un fs ex H (upd H x o) h h' := by
 have hx : ∀ b, H b = none -> b ≠ x := λb n z => by subst z; rw [n] at mu; exact mu
 have hb : ∀ b, H b = none -> b ≠ e := λb n z => by
  subst z
  rcases he with r | r
  ·exact hx b n r
  ·rw [n] at r; cases r
 have hm : ∀ b u, H b = some u -> ¬ Mut (some u) -> b ≠ x := λb u q nm z => by subst z; rw [q] at mu; exact nm mu
 refine ⟨λb u q n _ _ => k b u (hb b n) q, λb u q n _ _ => ⟨u.slots, k b u (hb b n) q⟩, λb u q n _ => by rw [aaw (hx b n)]; exact n, λb u q _ => ?_,
  λb xs q => by rw [aaw (hm b _ q λz => z)]; exact q, λb u xs q => by rw [aaw (hm b _ q λz => z)]; exact q, λb ps q => ⟨#[], by rw [aaw (hm b _ q λz => z), q]; simp⟩⟩
 by_cases hbe : b = e
 ·subst hbe; exact heo
 ·exact ⟨u, k b u hbe q⟩
end
noncomputable def trk (h : Heap) (H : Hp) : List Addr := (List.range h.objs.size).filter λa => (H a).isSome
noncomputable def ant (h : Heap) (H : Hp) : Heap := PySem.W.hideAll h (trk h H)
theorem alF (h : Heap) (H : Hp) : (ant h H).objs.size = h.objs.size := PySem.W.hideAll_size _ _
theorem anu {h : Heap} {H : Hp} {b : Addr} {o : Obj} (e : h.get? b = some o) (n : H b = none) : (ant h H).get? b = some o :=
 PySem.W.hideAll_get _ e λhm => by
  have q : (H b).isSome = true := (List.mem_filter.mp hm).2
  rw [n] at q; simp at q
theorem apu {h : Heap} {H : Hp} {b : Addr} {o : Obj} (e : (ant h H).get? b = some o) : h.get? b = some o /\ H b = none := by
 have e' : h.get? b = some o := PySem.W.of_hideAll (trk h H) e
 refine ⟨e', ?_⟩
 cases q : H b with
 | none => rfl
 | some x =>
  have hm : b ∈ trk h H := List.mem_filter.mpr ⟨List.mem_range.mpr (Heap.lt_size e'), by simp [q]⟩
  have z : (ant h H).get? b = none := PySem.W.hideAll_none (trk h H) hm
  rw [z] at e; cases e
noncomputable def apv (g h : Heap) (L : Addr) : List (Addr × Obj) := (List.range h.objs.size).filterMap λa => if a = L \/ (g.get? a).isSome = true then none else (h.get? a).map λo => (a, o)
noncomputable def rest (g h : Heap) (L d : Addr) : List (Addr × Obj) := (apv g h L).filter λp => decide (p.1 ≠ d)
end L2
namespace L2
open PySem PySem.Spec PyProof.Rows
structure Mod (K : PySem.W.Frag) (mg : Str -> Option Value) (base : Heap) : Prop where
 kin : K.In base
 glob : base.Ns mainGlobals mg
 blt : ∃ mb, base.Ns builtinsNs mb /\ ∀ x : Str, x ≠ "__name__" -> mb x = bootBuiltins x
 nolimit : base.NoLimit
structure Cx where
 prog : Program
 w : World
 K : PySem.W.Frag
 mg : Str -> Option Value
 base : Heap
 A : Around
 N : List Str
 s₀ : Shared
 H₀ : Hp
 env : Env
 outer : List Env
 stack : List Env
 ex : List Addr
 fn : Str -> Bool
 calm : Bool
 pn : List (Addr × Obj)
 xe : Value -> Shared -> Prop
noncomputable def frs (l : List Env) : List Addr := l.filterMap (·.frame)
noncomputable abbrev Cx.fs (X : Cx) : List Addr := frs X.outer
noncomputable def Vis (sc : Scope) (x : Str) : Prop := sc.names.lookup x = some .local \/ sc.names.lookup x = some .cell \/ sc.names.lookup x = some .free
noncomputable def Loc (sc : Scope) (x : Str) : Prop := sc.names.lookup x = some .local \/ sc.names.lookup x = some .cell
noncomputable def Look (env : Env) (h : Heap) (m : Str -> Option Value) (x : Str) (u : Value) : Prop :=
 (env.kindOf x = some .local /\ m x = some u) \/ ((env.kindOf x = some .cell \/ env.kindOf x = some .free) /\ ∃ c, env.cells.lookup x = some c /\ h.IsCell c (some u))
structure Cx.Ok (X : Cx) : Prop where
 mod : Mod X.K X.mg X.base
 kind : X.env.scope.kind = .function
 glob : X.env.globals = mainGlobals
 blt : X.env.builtins = builtinsNs
 above : X.s₀.heap.objs.size <= X.env.locals
 inj : ∀ x y c, X.env.cells.lookup x = some c -> X.env.cells.lookup y = some c -> x = y
 has : ∀ x, (X.env.kindOf x = some .cell \/ X.env.kindOf x = some .free) -> ∃ c, X.env.cells.lookup x = some c
 cab : ∀ x c, X.fn x = true -> X.env.cells.lookup x = some c -> X.s₀.heap.objs.size <= c
 hd : X.calm = true -> X.A.handled = none
 frames : X.A.frames = some X.stack
 stk : X.stack = X.outer \/ (X.stack = X.env :: X.outer /\ X.env.frame = some X.env.locals)
 exf : ∀ b ∈ X.ex, b ≠ X.env.locals /\ ∀ x c, X.env.cells.lookup x = some c -> c ≠ b
 bs : ∀ b o, X.base.get? b = some o -> X.s₀.heap.get? b = some o /\ X.H₀ b = none
 bsz : X.base.objs.size <= X.s₀.heap.objs.size
 aiV : ∀ b o, X.base.get? b = some o -> b ∉ X.ex
 arv : ∀ b ∈ X.ex, b ∉ X.fs
 akL : X.s₀.heap.FunFrames X.base X.outer
 frf : ∀ b ∈ X.fs, X.H₀ b = none
structure Inv (X : Cx) (pins : List (Addr × Obj)) (σ : List (Option V)) (H : Hp) (s : Shared) : Prop where
 ok : X.Ok
 os : s.os = X.s₀.os
 bare : AllBare s.gens
 base : Un X.fs X.ex X.H₀ H X.s₀.heap s.heap
 loc : ∃ m, s.heap.Ns X.env.locals m /\ ∀ (i : Nat) (x : Str) (v : V), X.N[i]? = some x -> σ[i]? = some (some v) -> Vis X.env.scope x -> ∃ u, RelV v u /\ Look X.env s.heap m x u
 cell : ∀ x c, X.env.cells.lookup x = some c -> ∃ v, s.heap.IsCell c v
 free : H X.env.locals = none
 aer : ∀ x c, X.env.cells.lookup x = some c -> H c = none
 pin : ∀ p ∈ X.pn ++ pins, s.heap.get? p.1 = some p.2 /\ H p.1 = none /\ p.1 ≠ X.env.locals /\ p.1 ∉ X.fs /\ ∀ v, p.2.data ≠ .cell v
 hok : HOk X.prog X.w H s.heap
 len : σ.length = X.N.length
section
variable {X : Cx} {pins : List (Addr × Obj)} {σ : List (Option V)} {H H' : Hp} {s : Shared} {h' : Heap}
theorem Cx.Ok.ara (ok : X.Ok) {b : Addr} {o : Obj} (e : X.base.get? b = some o) : b ∉ X.fs := λhb => by
 have := (ok.akL.mem hb).1
 rw [e] at this; cases this
theorem Inv.bs (I : Inv X pins σ H s) : ∀ b o, X.base.get? b = some o -> s.heap.get? b = some o /\ H b = none := λb o e =>
 ⟨I.base.keep b o (I.ok.bs b o e).1 (I.ok.bs b o e).2 (I.ok.ara e) (I.ok.aiV b o e), I.base.free b o (I.ok.bs b o e).1 (I.ok.bs b o e).2 (I.ok.aiV b o e)⟩
theorem Inv.bk (I : Inv X pins σ H s) : ∀ b o, X.base.get? b = some o -> s.heap.get? b = some o := λb o e => (I.bs b o e).1
theorem Inv.mod (I : Inv X pins σ H s) : Mod X.K X.mg X.base := I.ok.mod
theorem Inv.kIn (I : Inv X pins σ H s) : X.K.In s.heap := I.ok.mod.kin.keeps I.bk
theorem Inv.nolimit (I : Inv X pins σ H s) : s.heap.NoLimit := I.ok.mod.nolimit.keeps I.bk
theorem Inv.lt (I : Inv X pins σ H s) : X.env.locals < s.heap.objs.size := let ⟨_, hn, _⟩ := I.loc; hn.lt
theorem Inv.sz (I : Inv X pins σ H s) : X.s₀.heap.objs.size <= s.heap.objs.size := Nat.le_trans I.ok.above (Nat.le_of_lt I.lt)
theorem Inv.axq (I : Inv X pins σ H s) {a : Addr} (h : s.heap.objs.size <= a) : a ∉ X.fs := λhb => by
 obtain ⟨_, o, ho, _⟩ := I.ok.akL.mem hb
 exact absurd (Nat.lt_of_lt_of_le (Heap.lt_size ho) (Nat.le_trans I.sz h)) (Nat.lt_irrefl _)
theorem Inv.cne (I : Inv X pins σ H s) : ∀ x c, X.env.cells.lookup x = some c -> c ≠ X.env.locals := λx c e z => by
 obtain ⟨v, o, ho, hd⟩ := I.cell x c e
 obtain ⟨m, ⟨o', es, ep, ho', hd', _⟩, _⟩ := I.loc
 rw [z, ho'] at ho; cases ho; rw [hd'] at hd; cases hd
theorem Inv.akL (I : Inv X pins σ H s) : s.heap.FunFrames X.base X.outer := by
 have all : ∀ (l : List Env), (∀ b ∈ frs l, b ∈ X.fs) -> X.s₀.heap.FunFrames X.base l -> s.heap.FunFrames X.base l := by
  intro l
  induction l with
  | nil => intro _ _; trivial
  | cons env r ih =>
   intro hs hl
   obtain ⟨hk, ⟨L, o, hf, hn, ho, hd⟩, hr⟩ := hl
   have hL : L ∈ X.fs := hs L (by unfold frs; rw [List.filterMap_cons, hf]; exact List.mem_cons_self)
   obtain ⟨sl, e⟩ := I.base.slot L o ho (I.ok.frf L hL) hL λz => I.ok.arv L z hL
   exact ⟨hk, ⟨L, _, hf, hn, e, hd⟩, ih (λb hb => hs b (by unfold frs; rw [List.filterMap_cons, hf]; exact List.mem_cons_of_mem _ hb)) hr⟩
 exact all X.outer (λ_ hb => hb) I.ok.akL
theorem Inv.stack (I : Inv X pins σ H s) : s.heap.FunFrames X.base X.stack := by
 rcases I.ok.stk with e | ⟨e, hf⟩
 ·rw [e]; exact I.akL
 ·rw [e]
  obtain ⟨m, hn, _⟩ := I.loc
  refine .cons (by rw [I.ok.kind]; decide) hf hn ?_ I.akL
  exact Heap.get?_none_of_le (Nat.le_trans I.ok.bsz I.ok.above)
theorem Inv.ajU (I : Inv X pins σ H s) : ∀ b ∈ frs X.stack, b ∈ X.env.locals :: X.fs := λb hb => by
 rcases I.ok.stk with e | ⟨e, hf⟩
 ·rw [e] at hb; exact List.mem_cons_of_mem _ hb
 ·rw [e] at hb
  unfold frs at hb
  rw [List.filterMap_cons, hf] at hb
  exact hb
theorem Inv.aeX (I : Inv X pins σ H s) : ∀ b ∈ frs X.stack, H b = none := λb hb => by
 rcases List.mem_cons.mp (I.ajU b hb) with e | hb
 ·rw [e]; exact I.free
 ·obtain ⟨_, o, ho, _⟩ := I.ok.akL.mem hb
  exact I.base.free b o ho (I.ok.frf b hb) λz => I.ok.arv b z hb
theorem Inv.step {g' : Array GenState} {t' : Nat} {d' : Drawn} {ch : List Addr} (I : Inv X pins σ H s)
  (hch : ∀ b ∈ ch, (b ∈ X.ex \/ X.s₀.heap.objs.size <= b) /\ b ≠ X.env.locals /\ (∀ x c, X.env.cells.lookup x = some c -> c ≠ b) /\ ∀ p ∈ X.pn ++ pins, p.1 ≠ b)
  (keep : ∀ b o, b ≠ X.env.locals -> b ∉ X.fs -> b ∉ ch -> s.heap.get? b = some o -> H b = none -> h'.get? b = some o)
  (slot : ∀ b o, b ≠ X.env.locals -> b ∈ X.fs -> b ∉ ch -> s.heap.get? b = some o -> H b = none -> ∃ sl, h'.get? b = some { o with slots := sl }) (free : ∀ b o, b ∉ ch -> s.heap.get? b = some o -> H b = none -> H' b = none)
  (there : ∀ b o, b ∉ ch -> s.heap.get? b = some o -> ∃ o', h'.get? b = some o')
  (tups : ∀ b xs, H b = some (.tup xs) -> H' b = some (.tup xs)) (ajS : ∀ b o u, H b = some (.frz o u) -> H' b = some (.frz o u)) (ajT : ∀ b ps, H b = some (.tbl ps) -> ∃ more, H' b = some (.tbl (ps ++ more)))
  (ns : ∀ m, s.heap.Ns X.env.locals m -> h'.Ns X.env.locals m) (hok : HOk X.prog X.w H' h') (hg : AllBare g') :
  Inv X pins σ H' { s with heap := h', gens := g', drawn := d', toks := t' } := by
 have neL : ∀ b o, X.s₀.heap.get? b = some o -> b ≠ X.env.locals := λb o e => Nat.ne_of_lt (Nat.lt_of_lt_of_le (Heap.lt_size e) I.ok.above)
 have neC : ∀ b o, X.s₀.heap.get? b = some o -> b ∉ X.ex -> b ∉ ch := λb o e hx hb => by
  rcases (hch b hb).1 with z | z
  ·exact hx z
  ·exact absurd (Nat.lt_of_lt_of_le (Heap.lt_size e) z) (Nat.lt_irrefl _)
 have cellK : ∀ x c, X.env.cells.lookup x = some c -> ∀ v, s.heap.IsCell c v -> h'.IsCell c v := λx c e v ⟨o, ho, hd⟩ => by
  have nch : c ∉ ch := λz => (hch c z).2.2.1 x c e rfl
  by_cases hc : c ∈ X.fs
  ·obtain ⟨sl, q⟩ := slot c o (I.cne x c e) hc nch ho (I.aer x c e)
   exact ⟨_, q, hd⟩
  ·exact ⟨o, keep c o (I.cne x c e) hc nch ho (I.aer x c e), hd⟩
 refine ⟨I.ok, I.os, hg, ⟨λb o e n hb hx => ?_, λb o e n hb hx => ?_, λb o e n hx => ?_, λb o e hx => ?_, λb xs e => tups b xs (I.base.tups b xs e), λb o xs e => ajS b o xs (I.base.ajS b o xs e), λb ps e => ?_⟩, ?_, λx c e => ?_, ?_, λx c e => ?_, λp hp => ?_, hok, I.len⟩
 ·exact keep b o (neL b o e) hb (neC b o e hx) (I.base.keep b o e n hb hx) (I.base.free b o e n hx)
 ·obtain ⟨sl, e1⟩ := I.base.slot b o e n hb hx
  obtain ⟨sl', e2⟩ := slot b _ (neL b o e) hb (neC b o e hx) e1 (I.base.free b o e n hx)
  exact ⟨sl', e2⟩
 ·obtain ⟨o', e1⟩ := I.base.there b o e hx
  exact free b o' (neC b o e hx) e1 (I.base.free b o e n hx)
 ·obtain ⟨o', e1⟩ := I.base.there b o e hx
  exact there b o' (neC b o e hx) e1
 ·obtain ⟨m1, e1⟩ := I.base.ajT b ps e
  obtain ⟨m2, e2⟩ := ajT b _ e1
  exact ⟨m1 ++ m2, by rw [e2, Array.append_assoc]⟩
 ·obtain ⟨m, hn, hl⟩ := I.loc
  refine ⟨m, ns m hn, λi x v e1 e2 e3 => ?_⟩
  obtain ⟨u, r, l⟩ := hl i x v e1 e2 e3
  refine ⟨u, r, ?_⟩
  rcases l with l | ⟨k, c, e, z⟩
  ·exact .inl l
  ·exact .inr ⟨k, c, e, cellK x c e _ z⟩
 ·obtain ⟨v, z⟩ := I.cell x c e
  exact ⟨v, cellK x c e v z⟩
 ·obtain ⟨m, ⟨o, _, _, ho, _⟩, _⟩ := I.loc
  exact free _ o (λz => (hch _ z).2.1 rfl) ho I.free
 ·obtain ⟨v, o, ho, hd⟩ := I.cell x c e
  exact free c o (λz => (hch c z).2.2.1 x c e rfl) ho (I.aer x c e)
 ·obtain ⟨e, n, ne, nf, d⟩ := I.pin p hp
  have nch : p.1 ∉ ch := λz => (hch p.1 z).2.2.2 p hp rfl
  exact ⟨keep p.1 p.2 ne nf nch e n, free p.1 p.2 nch e n, ne, nf, d⟩
theorem Inv.un {t' : Nat} (I : Inv X pins σ H s) (u : Un X.fs [] H H' s.heap h') (hok : HOk X.prog X.w H' h') : Inv X pins σ H' { s with heap := h', toks := t' } := by
 obtain ⟨m, ⟨o, es, ep, ho, r⟩, _⟩ := id I.loc
 obtain ⟨sl, hL⟩ := u.any ho I.free (by simp)
 exact I.step (g' := s.gens) (d' := s.drawn) (ch := []) (λ_ z => nomatch z) (λb o _ hb _ e n => u.keep b o e n hb (by simp)) (λb o _ hb _ e n => u.slot b o e n hb (by simp)) (λb o _ e n => u.free b o e n (by simp)) (λb o _ e => u.there b o e (by simp)) u.tups u.ajS u.ajT (λm' hm => by
  obtain ⟨o', es', ep', ho', r'⟩ := hm
  rw [ho] at ho'; cases ho'
  exact ⟨_, es', ep', hL, r'⟩) hok I.bare
theorem Inv.call {g' : Array GenState} {t' : Nat} {d' : Drawn} {ch : List Addr} (I : Inv X pins σ H s) (u : Un (frs X.stack) ch H H' s.heap h') (hok : HOk X.prog X.w H' h') (hg : AllBare g')
  (hch : ∀ b ∈ ch, (b ∈ X.ex \/ X.s₀.heap.objs.size <= b) /\ b ≠ X.env.locals /\ (∀ x c, X.env.cells.lookup x = some c -> c ≠ b) /\ ∀ p ∈ X.pn ++ pins, p.1 ≠ b) :
  Inv X pins σ H' { s with heap := h', gens := g', drawn := d', toks := t' } := by
 obtain ⟨m, ⟨o, es, ep, ho, r⟩, _⟩ := id I.loc
 obtain ⟨sl, hL⟩ := u.any ho I.free λz => (hch _ z).2.1 rfl
 exact I.step (ch := ch) hch (λb o hL hb hc e n => u.keep b o e n (λz => (List.mem_cons.mp (I.ajU b z)).elim hL hb) hc) (λb o _ _ hc e n => u.any e n hc) (λb o hc e n => u.free b o e n hc) (λb o hc e => u.there b o e hc) u.tups u.ajS u.ajT (λm' hm => by
  obtain ⟨o', es', ep', ho', r'⟩ := hm
  rw [ho] at ho'; cases ho'
  exact ⟨_, es', ep', hL, r'⟩) hok hg
theorem Inv.turned {t' : Nat} {it : Addr} (I : Inv X pins σ H s) (k : ∀ b o, b ≠ it -> s.heap.get? b = some o -> h'.get? b = some o) (hn : H it = none) (hL : it ≠ X.env.locals)
  (h1 : it ∈ X.ex \/ X.s₀.heap.objs.size <= it) (h2 : ∀ x c, X.env.cells.lookup x = some c -> c ≠ it) (h3 : ∀ p ∈ X.pn ++ pins, p.1 ≠ it) : Inv X pins σ H { s with heap := h', toks := t' } := by
 have nit : ∀ b u, H b = some u -> b ≠ it := λb u e z => by rw [z, hn] at e; cases e
 refine I.step (g' := s.gens) (d' := s.drawn) (ch := [it]) (λb hb => ?_) (λb o _ _ hc e _ => k b o (λz => hc (by simp [z])) e) (λb o _ _ hc e _ => ⟨o.slots, k b o (λz => hc (by simp [z])) e⟩) (λ_ _ _ _ n => n)
  (λb o hc e => ⟨o, k b o (λz => hc (by simp [z])) e⟩) (λ_ _ e => e) (λ_ _ _ e => e) (λb ps e => ⟨#[], by rw [e]; simp⟩) (λm hm => ?_) (λb u e => ?_) I.bare
 ·have e : b = it := by simpa using hb
  subst e
  exact ⟨h1, hL, h2, h3⟩
 ·obtain ⟨o, es, ep, ho, r⟩ := hm
  exact ⟨o, es, ep, k _ o (Ne.symm hL) ho, r⟩
 ·refine (I.hok b u e).stay (λc v hc q => k c v ?_ q) (λ_ q => q) λ_ _ q => q
  rcases hc with z | z
  ·rw [z]; exact nit b u e
  ·exact nit c _ z
theorem Inv.tok (I : Inv X pins σ H s) (t : Nat) : Inv X pins σ H { s with toks := t } := I.un (h' := s.heap) (t' := t) Un.refl I.hok
theorem Inv.kept {t' : Nat} (I : Inv X pins σ H s) (k : ∀ b u, s.heap.get? b = some u -> h'.get? b = some u) : Inv X pins σ H { s with heap := h', toks := t' } := I.un (Un.kept k) (I.hok.kept k)
theorem Inv.laid {a : Addr} {o : HO} {t' : Nat} (I : Inv X pins σ H s) (k : ∀ b u, s.heap.get? b = some u -> h'.get? b = some u) (hp : s.heap.objs.size <= a) (new : ad3 X.prog X.w (upd H a o) h' a o) :
  Inv X pins σ (upd H a o) { s with heap := h', toks := t' } := I.un (Un.laid k hp (I.hok.fresh hp)) (I.hok.laid k hp new)
theorem Inv.write {x e : Addr} {o : HO} {t' : Nat} (I : Inv X pins σ H s) (mu : Mut (H x)) (he : e = x \/ H e = some (.own x)) (k : ∀ b u, b ≠ e -> s.heap.get? b = some u -> h'.get? b = some u) (heo : ∃ u, h'.get? e = some u)
  (new : ad3 X.prog X.w (upd H x o) h' x o) : Inv X pins σ (upd H x o) { s with heap := h', toks := t' } := I.un (Un.write mu he k heo) (I.hok.write mu he k heo new)
theorem Inv.ag0 {agB : List (Addr × Obj)} (I : Inv X pins σ H s) (h : ∀ p ∈ agB, s.heap.get? p.1 = some p.2 /\ H p.1 = none /\ p.1 ≠ X.env.locals /\ p.1 ∉ X.fs /\ ∀ v, p.2.data ≠ .cell v) : Inv X agB σ H s :=
 ⟨I.ok, I.os, I.bare, I.base, I.loc, I.cell, I.free, I.aer, λp hp => (List.mem_append.mp hp).elim (λz => I.pin p (List.mem_append_left _ z)) (h p), I.hok, I.len⟩
theorem ag1 {N : List Str} (hN : N.Nodup) {i j : Nat} {x : Str} (a : N[i]? = some x) (b : N[j]? = some x) : i = j := by
 obtain ⟨h1, e1⟩ := List.getElem?_eq_some_iff.mp a
 obtain ⟨h2, e2⟩ := List.getElem?_eq_some_iff.mp b
 exact (List.getElem_inj hN).mp (e1.trans e2.symm)
theorem alG {M : Model} {A : Around} {E : Value -> Shared -> Prop} {i : Nat} {x : Str} {v : V} {u : Value} {Q : Unit -> Shared -> Prop} (I : Inv X pins σ H s) (hN : X.N.Nodup) (hi : X.N[i]? = some x) (hx : Loc X.env.scope x) (r : RelV v u)
  (h : ∀ s', Inv X pins (σ.set i (some v)) H s' -> (∃ a, Heap.SameBut a s.heap s'.heap /\ (a = X.env.locals \/ X.env.cells.lookup x = some a)) -> Q () s') (hf : X.fn x = true \/ X.env.scope.names.lookup x = some .local := by first | exact .inl rfl | exact .inr rfl | assumption) : wpAny M A (storeName X.env x u) Q E s := by
 obtain ⟨m, hn, hl⟩ := id I.loc
 have hcls : (X.env.scope.kind == .class || (X.env.scope.kind == .module && X.env.locals != X.env.globals)) = false := by rw [I.ok.kind]; rfl
 have hiσ : i < σ.length := by rw [I.len]; exact (List.getElem?_eq_some_iff.mp hi).1
 have cne := I.cne
 have tracked : ∀ {a : Addr} {h' : Heap}, (∃ o, s.heap.get? a = some o /\ H a = none) -> Heap.SameBut a s.heap h' -> HOk X.prog X.w H h' := λ{a h'} ha hs b ob e => by
  obtain ⟨_, _, hfree⟩ := ha
  refine (I.hok b ob e).stay (λc w' hc q => (hs.2 c ?_).trans q) (λ_ q => q) λ_ _ q => q
  rintro rfl
  rcases hc with rfl | hc
  ·rw [hfree] at e; cases e
  ·rw [hfree] at hc; cases hc
 rcases hx with hk | hk
 ·refine wpAny_storeName_local hk hn (λh' hn' hs => ?_) hcls
  obtain ⟨oL, _, _, hoL, _⟩ := id hn
  refine h _ ⟨I.ok, I.os, I.bare, ⟨λb o e n hb hx => ?_, λb o e n hb hx => ?_, I.base.free, λb o e hx => ?_, I.base.tups, I.base.ajS, I.base.ajT⟩, ⟨_, hn', λj y v' e1 e2 e3 => ?_⟩, λy c e => ?_, I.free, I.aer, λp hp => ?_, tracked ⟨oL, hoL, I.free⟩ hs, by simpa using I.len⟩ ⟨_, hs, .inl rfl⟩
  ·exact (hs.2 b (Nat.ne_of_lt (Nat.lt_of_lt_of_le (Heap.lt_size e) I.ok.above))).trans (I.base.keep b o e n hb hx)
  ·obtain ⟨sl, e1⟩ := I.base.slot b o e n hb hx
   exact ⟨sl, (hs.2 b (Nat.ne_of_lt (Nat.lt_of_lt_of_le (Heap.lt_size e) I.ok.above))).trans e1⟩
  ·obtain ⟨o', e1⟩ := I.base.there b o e hx
   exact ⟨o', (hs.2 b (Nat.ne_of_lt (Nat.lt_of_lt_of_le (Heap.lt_size e) I.ok.above))).trans e1⟩
  ·by_cases hj : j = i
   ·subst hj
    rw [hi] at e1; cases e1
    rw [List.getElem?_set_self hiσ] at e2
    cases e2
    exact ⟨u, r, .inl ⟨hk, by simp⟩⟩
   ·rw [List.getElem?_set_ne (Ne.symm hj)] at e2
    obtain ⟨u', r', q⟩ := hl j y v' e1 e2 e3
    refine ⟨u', r', ?_⟩
    rcases q with ⟨k, e⟩ | ⟨k, c, e, z⟩
    ·refine .inl ⟨k, ?_⟩
     have : y ≠ x := λe => hj (ag1 hN e1 (e ▸ hi))
     simp [this, e]
    ·exact .inr ⟨k, c, e, z.sameBut hs (cne y c e)⟩
  ·obtain ⟨w', z⟩ := I.cell y c e
   exact ⟨w', z.sameBut hs (cne y c e)⟩
  ·obtain ⟨e, n, ne, nf, d⟩ := I.pin p hp
   exact ⟨(hs.2 p.1 ne).trans e, n, ne, nf, d⟩
 ·have hfn : X.fn x = true := by
   rcases hf with z | z
   ·exact z
   ·rw [z] at hk; cases hk
  obtain ⟨c, hc⟩ := I.ok.has x (.inl hk)
  obtain ⟨w', z⟩ := I.cell x c hc
  refine wpAny_storeName_cell I.ok.kind hk hc z (λh' hc' hs => ?_)
  obtain ⟨oc, hoc, axr⟩ := id z
  refine h { s with heap := h' } ⟨I.ok, I.os, I.bare, ⟨λb o e n hb hx => ?_, λb o e n hb hx => ?_, I.base.free, λb o e hx => ?_, I.base.tups, I.base.ajS, I.base.ajT⟩, ⟨m, hn.sameBut hs (Ne.symm (cne x c hc)), λj y v' e1 e2 e3 => ?_⟩, λy c' e => ?_, I.free, I.aer, λp hp => ?_, tracked ⟨oc, hoc, I.aer x c hc⟩ hs, by simpa using I.len⟩ ⟨c, hs, .inr hc⟩
  ·exact (hs.2 b (Nat.ne_of_lt (Nat.lt_of_lt_of_le (Heap.lt_size e) (I.ok.cab x c hfn hc)))).trans (I.base.keep b o e n hb hx)
  ·obtain ⟨sl, e1⟩ := I.base.slot b o e n hb hx
   exact ⟨sl, (hs.2 b (Nat.ne_of_lt (Nat.lt_of_lt_of_le (Heap.lt_size e) (I.ok.cab x c hfn hc)))).trans e1⟩
  ·obtain ⟨o', e1⟩ := I.base.there b o e hx
   exact ⟨o', (hs.2 b (Nat.ne_of_lt (Nat.lt_of_lt_of_le (Heap.lt_size e) (I.ok.cab x c hfn hc)))).trans e1⟩
  ·by_cases hj : j = i
   ·subst hj
    rw [hi] at e1; cases e1
    rw [List.getElem?_set_self hiσ] at e2
    cases e2
    exact ⟨u, r, .inr ⟨.inl hk, c, hc, hc'⟩⟩
   ·rw [List.getElem?_set_ne (Ne.symm hj)] at e2
    obtain ⟨u', r', q⟩ := hl j y v' e1 e2 e3
    refine ⟨u', r', ?_⟩
    rcases q with q | ⟨k, c', e, z'⟩
    ·exact .inl q
    ·refine .inr ⟨k, c', e, z'.sameBut hs ?_⟩
     rintro rfl
     exact hj (ag1 hN e1 (I.ok.inj _ _ _ e hc ▸ hi))
  ·by_cases hcc : c' = c
   ·subst hcc; exact ⟨_, hc'⟩
   ·obtain ⟨w2, z2⟩ := I.cell y c' e
    exact ⟨w2, z2.sameBut hs hcc⟩
  ·obtain ⟨e, n, ne, nf, d⟩ := I.pin p hp
   refine ⟨(hs.2 p.1 ?_).trans e, n, ne, nf, d⟩
   intro q
   rw [q, hoc] at e
   have q' : oc = p.2 := Option.some.inj e
   exact d w' (by rw [<-q']; exact axr)
theorem adS {M : Model} {A : Around} {E : Value -> Shared -> Prop} {i : Nat} {x : Str} {v : V} {u : Value} {Q : Unit -> Shared -> Prop} (I : Inv X pins σ H s) (hN : X.N.Nodup) (hi : X.N[i]? = some x) (hx : Loc X.env.scope x) (r : RelV v u)
  (h : ∀ s', Inv X pins (σ.set i (some v)) H s' -> Q () s') (hf : X.fn x = true \/ X.env.scope.names.lookup x = some .local := by first | exact .inl rfl | exact .inr rfl | assumption) : wpAny M A (storeName X.env x u) Q E s :=
 alG I hN hi hx r (λs' I' _ => h s' I') hf
theorem Inv.call' {s' : Shared} {ch : List Addr} (I : Inv X pins σ H s) (ho : s'.os = s.os) (u : Un (frs X.stack) ch H H' s.heap s'.heap) (hok : HOk X.prog X.w H' s'.heap) (hg : AllBare s'.gens)
  (hch : ∀ b ∈ ch, (b ∈ X.ex \/ X.s₀.heap.objs.size <= b) /\ b ≠ X.env.locals /\ (∀ x c, X.env.cells.lookup x = some c -> c ≠ b) /\ ∀ p ∈ X.pn ++ pins, p.1 ≠ b) : Inv X pins σ H' s' := by
 obtain ⟨h', g', d', t', o'⟩ := s'
 have e : o' = s.os := ho
 subst e
 exact I.call (g' := g') (t' := t') (d' := d') u hok hg hch
end
noncomputable abbrev XK := Value -> Option Addr -> Hp -> Prop
noncomputable abbrev St := List (Option V)
noncomputable abbrev VK := V -> Hp -> Prop
noncomputable abbrev TE := St -> Hp -> VK -> Prop
noncomputable abbrev TT := St -> Hp -> (Bool -> Hp -> Prop) -> Prop
noncomputable abbrev TA := St -> Hp -> (List V -> Hp -> Prop) -> Prop
structure Ends where
 nx : St -> Hp -> Prop
 rt : VK
 bk : St -> Hp -> Prop := λ_ _ => False
 ct : St -> Hp -> Prop := λ_ _ => False
noncomputable abbrev TS := Ends -> St -> Hp -> Prop
noncomputable def EP (X : Cx) (pins : List (Addr × Obj)) (σ : St) (Q : VK) (u : Value) (s' : Shared) : Prop := ∃ v H', Inv X pins σ H' s' /\ RelV v u /\ Q v H'
noncomputable def TP (X : Cx) (pins : List (Addr × Obj)) (σ : St) (Q : Bool -> Hp -> Prop) (b : Bool) (s' : Shared) : Prop := ∃ H', Inv X pins σ H' s' /\ Q b H'
noncomputable def AP (X : Cx) (pins : List (Addr × Obj)) (σ : St) (Q : List V -> Hp -> Prop) (us : List Value) (s' : Shared) : Prop := ∃ vs H', Inv X pins σ H' s' /\ Vals vs us /\ Q vs H'
noncomputable def SP (X : Cx) (pins : List (Addr × Obj)) (D : Ends) (f : Flow) (s' : Shared) : Prop :=
 match f with
 | .next => ∃ σ' H', Inv X pins σ' H' s' /\ D.nx σ' H'
 | .brk => ∃ σ' H', Inv X pins σ' H' s' /\ D.bk σ' H'
 | .cont => ∃ σ' H', Inv X pins σ' H' s' /\ D.ct σ' H'
 | .ret u => ∃ v σ' H', Inv X pins σ' H' s' /\ RelV v u /\ D.rt v H'
structure PE (X : Cx) (e : Expr) (t : TE) : Prop where
 run : ∀ (pins : List (Addr × Obj)) (s : Shared) (σ : St) (H : Hp) (Q : VK), Inv X pins σ H s -> t σ H Q -> wpAny (model X.prog X.w) X.A (eval e X.env) (EP X pins σ Q) X.xe s
noncomputable instance {X : Cx} {e : Expr} {t : TE} : CoeFun (PE X e t) λ_ => ∀ (pins : List (Addr × Obj)) (s : Shared) (σ : St) (H : Hp) (Q : VK), Inv X pins σ H s -> t σ H Q -> wpAny (model X.prog X.w) X.A (eval e X.env) (EP X pins σ Q) X.xe s := ⟨PE.run⟩
structure PT (X : Cx) (e : Expr) (t : TT) : Prop where
 run : ∀ (pins : List (Addr × Obj)) (s : Shared) (σ : St) (H : Hp) (Q : Bool -> Hp -> Prop), Inv X pins σ H s -> t σ H Q -> wpAny (model X.prog X.w) X.A (isTrue e X.env (eval e X.env)) (TP X pins σ Q) X.xe s
noncomputable instance {X : Cx} {e : Expr} {t : TT} : CoeFun (PT X e t) λ_ => ∀ (pins : List (Addr × Obj)) (s : Shared) (σ : St) (H : Hp) (Q : Bool -> Hp -> Prop), Inv X pins σ H s -> t σ H Q -> wpAny (model X.prog X.w) X.A (isTrue e X.env (eval e X.env)) (TP X pins σ Q) X.xe s := ⟨PT.run⟩
structure PW (X : Cx) (e : Expr) (t : TT) : Prop where
 run : ∀ (whole : Sem Value) (pins : List (Addr × Obj)) (s : Shared) (σ : St) (H : Hp) (Q : Bool -> Hp -> Prop), Inv X pins σ H s -> t σ H Q -> wpAny (model X.prog X.w) X.A (isTrue e X.env whole) (TP X pins σ Q) X.xe s
noncomputable instance {X : Cx} {e : Expr} {t : TT} : CoeFun (PW X e t) λ_ => ∀ (whole : Sem Value) (pins : List (Addr × Obj)) (s : Shared) (σ : St) (H : Hp) (Q : Bool -> Hp -> Prop), Inv X pins σ H s -> t σ H Q -> wpAny (model X.prog X.w) X.A (isTrue e X.env whole) (TP X pins σ Q) X.xe s := ⟨PW.run⟩
theorem PW.pt {X : Cx} {e : Expr} {t : TT} (h : PW X e t) : PT X e t := ⟨h.run _⟩
structure PA (X : Cx) (es : List Expr) (t : TA) : Prop where
 run : ∀ (pos : Pos) (pins : List (Addr × Obj)) (s : Shared) (σ : St) (H : Hp) (Q : List V -> Hp -> Prop), Inv X pins σ H s -> t σ H Q -> wpAny (model X.prog X.w) X.A (spliced (backTo pos (starEach es X.env))) (AP X pins σ Q) X.xe s
noncomputable instance {X : Cx} {es : List Expr} {t : TA} : CoeFun (PA X es t) λ_ => ∀ (pos : Pos) (pins : List (Addr × Obj)) (s : Shared) (σ : St) (H : Hp) (Q : List V -> Hp -> Prop), Inv X pins σ H s -> t σ H Q -> wpAny (model X.prog X.w) X.A (spliced (backTo pos (starEach es X.env))) (AP X pins σ Q) X.xe s := ⟨PA.run⟩
structure PS (X : Cx) (st : Stmt) (t : TS) : Prop where
 run : ∀ (pins : List (Addr × Obj)) (s : Shared) (σ : St) (H : Hp) (D : Ends), Inv X pins σ H s -> t D σ H -> wpAny (model X.prog X.w) X.A (exec st X.env) (SP X pins D) X.xe s
noncomputable instance {X : Cx} {st : Stmt} {t : TS} : CoeFun (PS X st t) λ_ => ∀ (pins : List (Addr × Obj)) (s : Shared) (σ : St) (H : Hp) (D : Ends), Inv X pins σ H s -> t D σ H -> wpAny (model X.prog X.w) X.A (exec st X.env) (SP X pins D) X.xe s := ⟨PS.run⟩
structure PSs (X : Cx) (st : List Stmt) (t : TS) : Prop where
 run : ∀ (pins : List (Addr × Obj)) (s : Shared) (σ : St) (H : Hp) (D : Ends), Inv X pins σ H s -> t D σ H -> wpAny (model X.prog X.w) X.A (execs st X.env) (SP X pins D) X.xe s
noncomputable instance {X : Cx} {st : List Stmt} {t : TS} : CoeFun (PSs X st t) λ_ => ∀ (pins : List (Addr × Obj)) (s : Shared) (σ : St) (H : Hp) (D : Ends), Inv X pins σ H s -> t D σ H -> wpAny (model X.prog X.w) X.A (execs st X.env) (SP X pins D) X.xe s := ⟨PSs.run⟩
theorem thn {α : Type} {t : Sem α} {Q Q' : α -> Shared -> Prop} {M : Model} {A : Around} {E : Value -> Shared -> Prop} {s : Shared} (h : wpAny M A t Q E s) (hQ : ∀ a s, Q a s -> Q' a s) : wpAny M A t Q' E s := wpAny_mono h hQ λ_ _ x => x
end L2
namespace L2
open PySem PySem.Spec PyProof.Rows
section
variable {X : Cx}
noncomputable def aiW (i : Nat) : TE := λσ H Q => ∃ v, σ[i]? = some (some v) /\ Q v H
noncomputable def tC (v : V) : TE := λ_ H Q => Q v H
theorem alH {i : Nat} {x : Str} {pos : Pos} (hN : X.N[i]? = some x) (hv : Vis X.env.scope x) (hd : (x == ("__debug__" : Str)) = false := by decide) (hcd : (x == ("__classdict__" : Str)) = false := by decide) : PE X (.Name x pos) (aiW i) := by
 refine ⟨λpins s σ H Q I h => ?_⟩
 obtain ⟨v, e, h⟩ := h
 obtain ⟨m, hn, hl⟩ := I.loc
 obtain ⟨u, r, l⟩ := hl i x v hN e hv
 have fin : EP X pins σ Q u s := ⟨v, H, I, r, h⟩
 rcases l with ⟨hk, hm⟩ | ⟨hk, c, hc, hcell⟩
 ·exact wpAny_Name (wpAny_loadName_local I.ok.kind hk hn hm fin) hd
 ·rcases hk with hk | hk
  ·exact wpAny_Name (wpAny_loadName_cell I.ok.kind hk hc hcell fin) hd
  ·exact wpAny_Name (wpAny_loadName_free I.ok.kind hk hc hcell fin hcd) hd
theorem aas {i j pos} : PE X (.Constant (.int i) j pos) (tC (.int i)) := ⟨λ_ _ _ H _ I h => wpAny_Constant_int ⟨.int i, H, I.tok _, ⟨_, rfl⟩, h⟩⟩
theorem ac8 {b j pos} : PE X (.Constant (.bool b) j pos) (tC (.bl b)) := ⟨λ_ _ _ H _ I h => Constant_bool ⟨.bl b, H, I, rfl, h⟩⟩
theorem afS {j pos} : PE X (.Constant .none j pos) (tC .non) := ⟨λ_ _ _ H _ I h => Constant_none ⟨.non, H, I, rfl, h⟩⟩
theorem afh {x j pos} : PE X (.Constant (.str x) j pos) (tC (.str x)) := ⟨λ_ _ _ H _ I h => Calls.Constant_str ⟨.str x, H, I.tok _, ⟨_, rfl⟩, h⟩⟩
noncomputable def Gl (X : Cx) (x : Str) : Prop := X.env.kindOf x = some .globalImplicit
theorem afT {E : Value -> Shared -> Prop} {pins : List (Addr × Obj)} {s : Shared} {σ : St} {H : Hp} {x : Str} {u : Value} {pos : Pos} {Q : Value -> Shared -> Prop} (I : Inv X pins σ H s) (hg : Gl X x) (hm : X.mg x = some u) (h : Q u s)
  (hd : (x == ("__debug__" : Str)) = false := by decide) : wpAny (model X.prog X.w) X.A (eval (.Name x pos) X.env) Q E s :=
 Calls.Name_function_global I.ok.kind hg (Calls.loadGlobal_global (by rw [I.ok.glob]; exact I.mod.glob.keeps I.bk) hm h) hd
theorem agJ {E : Value -> Shared -> Prop} {pins : List (Addr × Obj)} {s : Shared} {σ : St} {H : Hp} {x : Str} {u : Value} {pos : Pos} {Q : Value -> Shared -> Prop} (I : Inv X pins σ H s) (hg : Gl X x) (hm : X.mg x = none) (hv : bootBuiltins x = some u) (h : Q u s)
  (hn : x ≠ "__name__" := by decide) (hd : (x == ("__debug__" : Str)) = false := by decide) : wpAny (model X.prog X.w) X.A (eval (.Name x pos) X.env) Q E s := by
 obtain ⟨mb, h1, h2⟩ := I.mod.blt
 exact Calls.Name_function_global I.ok.kind hg (Calls.loadGlobal_builtin (by rw [I.ok.glob]; exact I.mod.glob.keeps I.bk) hm (by rw [I.ok.blt]; exact h1.keeps I.bk) ((h2 x hn).trans hv) h) hd
theorem alI {x : Str} {v : V} {u : Value} {pos : Pos} (hg : Gl X x) (hm : X.mg x = some u) (r : RelV v u) (hd : (x == ("__debug__" : Str)) = false := by decide) : PE X (.Name x pos) (tC v) :=
 ⟨λ_ _ _ H _ I h => afT I hg hm ⟨v, H, I, r, h⟩ hd⟩
theorem alJ {x : Str} {v : V} {u : Value} {pos : Pos} (hg : Gl X x) (hm : X.mg x = none) (hv : bootBuiltins x = some u) (r : RelV v u) (hn : x ≠ "__name__" := by decide) (hd : (x == ("__debug__" : Str)) = false := by decide) : PE X (.Name x pos) (tC v) :=
 ⟨λ_ _ _ H _ I h => agJ I hg hm hv ⟨v, H, I, r, h⟩ hn hd⟩
variable {a b : Expr} {ta tb : TE} {pos : Pos}
variable {tA tB' : TT} {rest : List Expr}
noncomputable def awx (t u : TT) : TT := λσ H Q => t σ H λc H1 => if c = true then u σ H1 Q else Q false H1
noncomputable def tOr (t u : TT) : TT := λσ H Q => t σ H λc H1 => if c = true then Q true H1 else u σ H1 Q
noncomputable def awy (t : TT) : TT := λσ H Q => t σ H λc H1 => Q (!c) H1
theorem apw (ha : PT X a tA) : PW X (.BoolOp .And [a] pos) tA := by
 refine ⟨λwh pins s σ H Q I h => ?_⟩
 refine isTrue_and (thn (ha pins s σ H Q I h) λc s1 e => ?_)
 cases c with
 | true => exact isTrue_and_nil e
 | false => exact e
theorem adA (ha : PT X a tA) : PW X (.BoolOp .Or [a] pos) tA := by
 refine ⟨λwh pins s σ H Q I h => ?_⟩
 refine isTrue_or (thn (ha pins s σ H Q I h) λc s1 e => ?_)
 cases c with
 | false => exact isTrue_or_nil e
 | true => exact e
theorem arw (ha : PT X a tA) (hb : PW X (.BoolOp .And (b :: rest) pos) tB') : PW X (.BoolOp .And (a :: b :: rest) pos) (awx tA tB') := by
 refine ⟨λwh pins s σ H Q I h => ?_⟩
 refine isTrue_and (thn (ha pins s σ H _ I h) λc s1 ⟨H1, I1, q1⟩ => ?_)
 cases c with
 | true => exact hb wh pins s1 σ H1 Q I1 q1
 | false => exact ⟨H1, I1, q1⟩
theorem aea (ha : PT X a tA) (hb : PW X (.BoolOp .Or (b :: rest) pos) tB') : PW X (.BoolOp .Or (a :: b :: rest) pos) (tOr tA tB') := by
 refine ⟨λwh pins s σ H Q I h => ?_⟩
 refine isTrue_or (thn (ha pins s σ H _ I h) λc s1 ⟨H1, I1, q1⟩ => ?_)
 cases c with
 | true => exact ⟨H1, I1, q1⟩
 | false => exact hb wh pins s1 σ H1 Q I1 q1
theorem ab7 (ha : PT X a tA) : PT X (.UnaryOp .Not a pos) (awy tA) := by
 refine ⟨λpins s σ H Q I h => ?_⟩
 exact isTrue_not (ha pins s σ H (λc H1 => Q (!c) H1) I h)
noncomputable def arx (ta tb : TE) : TE := λσ H Q => ta σ H λx H1 => ∃ c, x = .bl c /\ if c = true then tb σ H1 Q else Q (.bl false) H1
noncomputable def arz (ta : TE) : TE := λσ H Q => ta σ H λx H1 => ∃ c, x = .bl c /\ Q (.bl (!c)) H1
theorem afU {op} {t : TE} (h : PE X a t) : PE X (.BoolOp op [a] pos) t := ⟨λpins s σ H Q I hw => BoolOp_one (h pins s σ H Q I hw)⟩
theorem aes (ha : PE X a ta) (hb : PE X (.BoolOp .And (b :: rest) pos) tb) : PE X (.BoolOp .And (a :: b :: rest) pos) (arx ta tb) := by
 refine ⟨λpins s σ H Q I h => ?_⟩
 refine BoolOp_and (thn (ha pins s σ H _ I h) λv s1 ⟨x, H1, I1, r1, q1⟩ => ?_)
 obtain ⟨c, rfl, q1⟩ := q1
 cases r1
 refine wpAny_truthy_bool ?_
 cases c with
 | true => exact hb pins s1 σ H1 Q I1 q1
 | false => exact ⟨.bl false, H1, I1, rfl, q1⟩
theorem aoN (ha : PE X a ta) : PE X (.UnaryOp .Not a pos) (arz ta) := by
 refine ⟨λpins s σ H Q I h => ?_⟩
 refine UnaryOp_ (thn (ha pins s σ H _ I h) λv s1 ⟨x, H1, I1, r1, q1⟩ => ?_)
 obtain ⟨c, rfl, q1⟩ := q1
 cases r1
 exact not_of (wpAny_truthy_bool ⟨.bl (!c), H1, I1, rfl, q1⟩)
end
end L2
namespace L2
open PySem PySem.Spec PyProof.Rows
noncomputable def SqL (K : PySem.W.Frag) (H : Hp) (a : Addr) (xs : List V) : Prop :=
 Rd H a (.lst xs) \/
  ∃ (o : Obj) (its : Array Value) (n : Nat), K.lookup a = some o /\ o.cls = .type "list" /\ o.dict = none /\ o.data = .seq its n /\ its.size <= sizeLine /\ Vals xs its.toList
noncomputable def SqT (K : PySem.W.Frag) (H : Hp) (a : Addr) (xs : List V) : Prop :=
 Rd H a (.tup xs) \/
  ∃ (o : Obj) (its : Array Value) (n : Nat), K.lookup a = some o /\ o.cls = .type "tuple" /\ o.data = .seq its n /\ its.size <= sizeLine /\ Vals xs its.toList
noncomputable def axt : Value -> Option V
 | .none => some .non
 | .bool b => some (.bl b)
 | .int i _ => some (.int i)
 | .str x _ => some (.str x)
 | .bytes b _ => some (.byt b)
 | .float b _ => some (.flt b)
 | .ref a => some (.ref a)
 | .type n => some (.ty n)
 | _ => none
theorem RelV.abs {x : V} {u : Value} (r : RelV x u) : axt u = some x := by
 cases x with
 | non => cases r; rfl
 | bl _ => cases r; rfl
 | int _ => obtain ⟨t, rfl⟩ := r; rfl
 | str _ => obtain ⟨t, rfl⟩ := r; rfl
 | byt _ => obtain ⟨t, rfl⟩ := r; rfl
 | flt _ => obtain ⟨t, rfl⟩ := r; rfl
 | ref _ => cases r; rfl
 | ty _ => cases r; rfl
theorem RelV.inj {x y : V} {u : Value} (r : RelV x u) (q : RelV y u) : x = y := Option.some.inj (r.abs.symm.trans q.abs)
theorem Vals.inj : ∀ {xs ys : List V} {us : List Value}, Vals xs us -> Vals ys us -> xs = ys
 | _, _, _, .nil, .nil => rfl
 | _, _, _, .cons r t, .cons r' t' => by rw [r.inj r', Vals.inj t t']
section
variable {X : Cx} {pins : List (Addr × Obj)} {σ : St} {H : Hp} {s : Shared} {a : Addr} {xs ys : List V}
theorem SqL.of {K : PySem.W.Frag} (h : H a = some (.lst xs)) : SqL K H a xs := .inl (.inl h)
theorem SqT.of {K : PySem.W.Frag} (h : H a = some (.tup xs)) : SqT K H a xs := .inl (.inl h)
theorem Inv.list (I : Inv X pins σ H s) (h : SqL X.K H a xs) : ∃ its : List Value, Vals xs its /\ PlainL s.heap a its.toArray /\ xs.length <= sizeLine := by
 rcases h with h | ⟨o, its, n, hk, hc, hd, hs, hz, r⟩
 ·obtain ⟨z, its, n, r, e⟩ := h.ok I.hok
  exact ⟨its, r, ⟨_, n, e, rfl, rfl, rfl⟩, z⟩
 ·refine ⟨its.toList, r, ⟨o, n, I.kIn a o hk, hc, hd, by simpa using hs⟩, ?_⟩
  have e := r.length
  simp only [Array.length_toList] at e
  omega
theorem Inv.tuple (I : Inv X pins σ H s) (h : SqT X.K H a xs) : ∃ its : List Value, Vals xs its /\ IsTup s.heap a its.toArray /\ xs.length <= sizeLine := by
 rcases h with h | ⟨o, its, n, hk, hc, hs, hz, r⟩
 ·obtain ⟨z, its, r, p⟩ := h.ok I.hok
  exact ⟨its, r, p, z⟩
 ·refine ⟨its.toList, r, ⟨o, I.kIn a o hk, hc, n, by simpa using hs⟩, ?_⟩
  have e := r.length
  simp only [Array.length_toList] at e
  omega
theorem Inv.ajV (I : Inv X pins σ H s) (h : SqL X.K H a xs) (h' : SqL X.K H a ys) : xs = ys := by
 obtain ⟨its, r, ⟨o, n, e, _, _, d⟩, _⟩ := I.list h
 obtain ⟨its', r', ⟨o', n', e', _, _, d'⟩, _⟩ := I.list h'
 rw [e] at e'; cases e'
 rw [d] at d'
 injection d' with d1 _
 have : its = its' := by simpa using congrArg Array.toList d1
 subst this
 exact r.inj r'
theorem Inv.ahJ (I : Inv X pins σ H s) (h : SqT X.K H a xs) (h' : SqT X.K H a ys) : xs = ys := by
 obtain ⟨its, r, ⟨o, e, _, n, d⟩, _⟩ := I.tuple h
 obtain ⟨its', r', ⟨o', e', _, n', d'⟩, _⟩ := I.tuple h'
 rw [e] at e'; cases e'
 rw [d] at d'
 injection d' with d1 _
 have : its = its' := by simpa using congrArg Array.toList d1
 subst this
 exact r.inj r'
end
noncomputable abbrev Cx.wish (X : Cx) (E : Value -> Shared -> Prop) : Cx := { X with xe := E }
noncomputable abbrev Cx.nox (X : Cx) : Cx := X.wish λ_ _ => False
theorem Cx.Ok.wish {X : Cx} (ok : X.Ok) (E : Value -> Shared -> Prop) : (X.wish E).Ok :=
 ⟨ok.mod, ok.kind, ok.glob, ok.blt, ok.above, ok.inj, ok.has, ok.cab, ok.hd, ok.frames, ok.stk, ok.exf, ok.bs, ok.bsz, ok.aiV, ok.arv, ok.akL, ok.frf⟩
theorem Cx.Ok.aeu {X : Cx} {E : Value -> Shared -> Prop} (ok : (X.wish E).Ok) : X.Ok :=
 ⟨ok.mod, ok.kind, ok.glob, ok.blt, ok.above, ok.inj, ok.has, ok.cab, ok.hd, ok.frames, ok.stk, ok.exf, ok.bs, ok.bsz, ok.aiV, ok.arv, ok.akL, ok.frf⟩
section
variable {X : Cx} {pins : List (Addr × Obj)} {σ : St} {H : Hp} {s : Shared} {E : Value -> Shared -> Prop}
theorem Inv.wish (I : Inv X pins σ H s) (E : Value -> Shared -> Prop) : Inv (X.wish E) pins σ H s := ⟨I.ok.wish E, I.os, I.bare, I.base, I.loc, I.cell, I.free, I.aer, I.pin, I.hok, I.len⟩
theorem Inv.aeu (I : Inv (X.wish E) pins σ H s) : Inv X pins σ H s := ⟨I.ok.aeu, I.os, I.bare, I.base, I.loc, I.cell, I.free, I.aer, I.pin, I.hok, I.len⟩
theorem SP.aeu {D : Ends} {f : Flow} {s' : Shared} (h : SP (X.wish E) pins D f s') : SP X pins D f s' := by
 cases f with
 | next => obtain ⟨σ', H', I, q⟩ := h; exact ⟨σ', H', I.aeu, q⟩
 | brk => obtain ⟨σ', H', I, q⟩ := h; exact ⟨σ', H', I.aeu, q⟩
 | cont => obtain ⟨σ', H', I, q⟩ := h; exact ⟨σ', H', I.aeu, q⟩
 | ret u => obtain ⟨v, σ', H', I, r, q⟩ := h; exact ⟨v, σ', H', I.aeu, r, q⟩
end
section
variable {X : Cx} {st : Stmt} {rest : List Stmt} {t u : TS} {e : Expr} {te : TE} {pos : Pos}
noncomputable def arA : TS := λD σ H => D.nx σ H
noncomputable def awz (t u : TS) : TS := λD σ H => t { D with nx := u D } σ H
theorem aa7 : PSs X [] arA := ⟨λ_ _ σ H _ I h => wpAny_execs_nil ⟨σ, H, I, h⟩⟩
theorem aak (h1 : PS X st t) (h2 : PSs X rest u) : PSs X (st :: rest) (awz t u) := by
 refine ⟨λpins s σ H D I h => ?_⟩
 refine wpAny_execs_cons (thn (h1 pins s σ H { D with nx := u D } I h) λf s1 q => ?_)
 cases f with
 | next =>
  obtain ⟨σ', H', I', q⟩ := q
  exact h2 pins s1 σ' H' D I' q
 | ret v => exact q
 | brk => exact q
 | cont => exact q
theorem aaz (h1 : PS X st t) : PSs X [st] t := by
 refine ⟨λpins s σ H D I h => ?_⟩
 refine wpAny_execs_cons (thn (h1 pins s σ H D I h) λf s1 q => ?_)
 cases f with
 | next => exact wpAny_execs_nil q
 | ret v => exact q
 | brk => exact q
 | cont => exact q
theorem Inv.quiet {pins : List (Addr × Obj)} {σ : St} {H : Hp} {s : Shared} (I : Inv X pins σ H s) : interactive X.env = false := by simp [interactive, I.ok.kind]
noncomputable def anv (te : TE) : TS := λD σ H => te σ H λ_ H1 => D.nx σ H1
theorem apx (he : PE X e te) (hs : swapsWith e none pos.line X.env = pure false := by rfl) : PS X (.Expr e pos) (anv te) := by
 refine ⟨λpins s σ H D I h => ?_⟩
 exact wpAny_Expr_any (thn (he pins s σ H _ I h) λv s1 ⟨x, H1, I1, r1, q1⟩ => ⟨σ, H1, I1, q1⟩) I.quiet hs
noncomputable def awA (te : TE) : TS := λD σ H => te σ H D.rt
theorem aaT (he : PE X e te) : PS X (.Return (some e) pos) (awA te) := by
 refine ⟨λpins s σ H D I h => ?_⟩
 exact wpAny_Return_some (thn (he pins s σ H _ I h) λv s1 ⟨x, H1, I1, r1, q1⟩ => ⟨x, σ, H1, I1, r1, q1⟩)
noncomputable def awB (c : TT) (t u : TS) : TS := λD σ H => c σ H λb H1 => if b = true then t D σ H1 else u D σ H1
theorem aci {c : Expr} {a b : List Stmt} {tc : TT} (hc : PT X c tc) (ha : PSs X a t) (hb : PSs X b u) : PS X (.If c a b pos) (awB tc t u) := by
 refine ⟨λpins s σ H D I h => ?_⟩
 refine wpAny_If (thn (hc pins s σ H _ I h) λd s1 ⟨H1, I1, q1⟩ => ?_)
 cases d with
 | true => exact ha pins s1 σ H1 D I1 q1
 | false => exact hb pins s1 σ H1 D I1 q1
end
noncomputable abbrev TG := V -> St -> Hp -> (St -> Hp -> Prop) -> Prop
noncomputable abbrev TGs := List V -> St -> Hp -> (St -> Hp -> Prop) -> Prop
noncomputable def PG (X : Cx) (target : Expr) (t : TG) : Prop :=
 ∀ (pins : List (Addr × Obj)) (s : Shared) (σ : St) (H : Hp) (v : V) (u : Value) (Q : St -> Hp -> Prop), Inv X pins σ H s -> RelV v u -> t v σ H Q ->
  wpAny (model X.prog X.w) X.A (assign target X.env u) (λ_ s' => ∃ σ' H', Inv X pins σ' H' s' /\ Q σ' H') X.xe s
noncomputable def PGs (X : Cx) (ts : List Expr) (t : TGs) : Prop :=
 ∀ (pins : List (Addr × Obj)) (s : Shared) (σ : St) (H : Hp) (vs : List V) (us : List Value) (Q : St -> Hp -> Prop), Inv X pins σ H s -> Vals vs us -> t vs σ H Q ->
  wpAny (model X.prog X.w) X.A (assignInOrder ((assignEach ts X.env).map (·.2)) us) (λ_ s' => ∃ σ' H', Inv X pins σ' H' s' /\ Q σ' H') X.xe s
noncomputable abbrev auU := V -> V -> V -> Hp -> (Hp -> Prop) -> Prop
noncomputable def awC (X : Cx) (t : auU) : Prop :=
 ∀ (pins : List (Addr × Obj)) (s : Shared) (σ : St) (H : Hp) (o i v : V) (ov iv u : Value) (Q : Hp -> Prop), Inv X pins σ H s -> RelV o ov -> RelV i iv -> RelV v u -> t o i v H Q ->
  wpAny (model X.prog X.w) X.A (setItem ov iv u) (λ_ s' => ∃ H', Inv X pins σ H' s' /\ Q H') X.xe s
section
variable {X : Cx} {pos : Pos}
noncomputable def ac3 (i : Nat) : TG := λv σ H Q => Q (σ.set i (some v)) H
theorem apy {i : Nat} {x : Str} (hN : X.N.Nodup) (hi : X.N[i]? = some x) (hx : Loc X.env.scope x) (hf : X.fn x = true \/ X.env.scope.names.lookup x = some .local := by first | exact .inl rfl | exact .inr rfl | assumption) : PG X (.Name x pos) (ac3 i) := by
 intro pins s σ H v u Q I r h
 exact wpAny_assign_Name (adS I hN hi hx r (λs' I' => ⟨_, H, I', h⟩) hf)
noncomputable def auV : TGs := λvs σ H Q => vs = [] /\ Q σ H
noncomputable def anw (t : TG) (u : TGs) : TGs := λvs σ H Q => ∃ v r, vs = v :: r /\ t v σ H λσ' H' => u r σ' H' Q
theorem ag2 : PGs X [] auV := by
 intro pins s σ H vs us Q I r h
 obtain ⟨e, h⟩ := h
 subst e
 cases r
 exact assignInOrder_nil ⟨σ, H, I, h⟩
theorem acX {e : Expr} {es : List Expr} {t : TG} {u : TGs} (h1 : PG X e t) (h2 : PGs X es u)
  (hs : (assignEach (e :: es) X.env).map (·.2) = assign e X.env :: (assignEach es X.env).map (·.2) := by rfl) : PGs X (e :: es) (anw t u) := by
 intro pins s σ H vs us Q I r h
 obtain ⟨v, vr, e1, h⟩ := h
 subst e1
 cases r with
 | cons r rr =>
  rw [hs]
  refine assignInOrder_cons (thn (h1 pins s σ H _ _ _ I r h) λ_ s1 ⟨σ1, H1, I1, q1⟩ => ?_)
  exact h2 pins s1 σ1 H1 _ _ Q I1 rr q1
noncomputable def auW (K : PySem.W.Frag) (n : Nat) (t : TGs) : TG := λv σ H Q => ∃ a xs, v = .ref a /\ SqT K H a xs /\ xs.length = n /\ t xs σ H Q
theorem ajW {es : List Expr} {k : Nat} {t : TGs} {n : Nat} (hc : X.calm = true) (h : PGs X es t)
  (hn : (assignEach es X.env).length = n := by rfl) (hst : (assignEach es X.env).findIdx? (·.1) = none := by rfl) : PG X (.Tuple es k pos) (auW X.K n t) := by
 intro pins s σ H v u Q I r hw
 obtain ⟨a, xs, e1, hq, hl, hw⟩ := hw
 subst e1
 cases r
 obtain ⟨its, rv, ht, hz⟩ := I.tuple hq
 refine assign_Tuple_tuple (I.ok.hd hc) ht (by simp [hn, <-hl, rv.length]) hst λh' hx => ?_
 have I1 : Inv X pins σ H { s with heap := h' } := I.kept (t' := s.toks) λb o e => hx b o (Nat.ne_of_lt (Heap.lt_size e)) e
 exact h pins _ σ H xs _ Q I1 (by simpa using rv) hw
noncomputable def auX (to ti : TE) (t : auU) : TG := λv σ H Q => to σ H λo H1 => ti σ H1 λi H2 => t o i v H2 λH3 => Q σ H3
theorem alK {o i : Expr} {to ti : TE} {t : auU} (ho : PE X o to) (hi : PE X i ti) (hs : awC X t)
  (ha : ∀ v, assign (.Subscript o i pos) X.env v = (do
   let ov <-holding [v] (eval o X.env)
   let iv <-holding [v, ov] (eval i X.env)
   standAt pos
   holding [v, ov, iv] (setItem ov iv v)
   release [v, ov, iv] []) := by intro _; rfl) : PG X (.Subscript o i pos) (auX to ti t) := by
 intro pins s σ H v u Q I r h
 rw [ha]
 refine wpAny_bind (wpAny_holding (thn (ho pins s σ H _ I h) λov s1 ⟨x, H1, I1, r1, q1⟩ => ?_))
 refine wpAny_bind (wpAny_holding (thn (hi pins s1 σ H1 _ I1 q1) λiv s2 ⟨y, H2, I2, r2, q2⟩ => ?_))
 refine wpAny_bind (wpAny_standAt (wpAny_bind (wpAny_holding (thn (hs pins s2 σ H2 x y v ov iv u _ I2 r1 r2 r q2) λ_ s3 ⟨H3, I3, q3⟩ => ?_))))
 exact wpAny_release ⟨σ, H3, I3, q3⟩
noncomputable def ano (te : TE) (g : TG) : TS := λD σ H => te σ H λx H1 => g x σ H1 D.nx
theorem ahK {tg e : Expr} {te : TE} {g : TG} (he : PE X e te) (hg : PG X tg g) (hs : swapsWithSole [tg] e pos.line X.env = pure false := by rfl) (hw : swappedStores [tg] e X.env = pure none := by rfl)
  (h1 : (assignEach [tg] X.env).map (·.2) = [assign tg X.env] := by rfl) : PS X (.Assign [tg] e pos) (ano te g) := by
 refine ⟨λpins s σ H D I h => ?_⟩
 refine wpAny_Assign_stores (thn (he pins s σ H _ I h) λv s1 ⟨x, H1, I1, r1, q1⟩ => ?_) hs hw
 rw [h1]
 exact thn (hg pins s1 σ H1 x v _ I1 r1 q1) λ_ s2 q => q
theorem alL {i : Nat} {x : Str} {e : Expr} {te : TE} {pos' : Pos} (hN : X.N.Nodup) (hi : X.N[i]? = some x) (hx : Loc X.env.scope x) (he : PE X e te) (hs : swapsWith e (some (.Name x pos')) pos.line X.env = pure false := by rfl) (hf : X.fn x = true \/ X.env.scope.names.lookup x = some .local := by first | exact .inl rfl | exact .inr rfl | assumption) :
  PS X (.Assign [.Name x pos'] e pos) (ano te (ac3 i)) := by
 refine ⟨λpins s σ H D I h => ?_⟩
 refine wpAny_Assign_Name (thn (he pins s σ H _ I h) λv s1 ⟨y, H1, I1, r1, q1⟩ => ?_) hs
 exact adS I1 hN hi hx r1 (λs2 I2 => ⟨_, H1, I2, q1⟩) hf
noncomputable def awD (i j : Nat) (ta : TA) : TS := λD σ H => ta σ H λvs H1 => ∃ v w, vs = [v, w] /\ D.nx ((σ.set i (some v)).set j (some w)) H1
theorem aoO {i j : Nat} {x y : Str} {a b : Expr} {ta : TA} {px py pt : Pos} {kt k2 pt2} (hc : X.calm = true) (hN : X.N.Nodup) (hi : X.N[i]? = some x) (hj : X.N[j]? = some y) (hij : i ≠ j)
  (hx : X.env.scope.names.lookup x = some .local) (hy : X.env.scope.names.lookup y = some .local) (ha : PA X [a, b] ta)
  (hw : swappedStores [.Tuple [.Name x px, .Name y py] kt pt] (.Tuple [a, b] k2 pt2) X.env = pure (some [x, y]))
  (hs : swapsWithSole [.Tuple [.Name x px, .Name y py] kt pt] (.Tuple [a, b] k2 pt2) pos.line X.env = pure false := by rfl) :
  PS X (.Assign [.Tuple [.Name x px, .Name y py] kt pt] (.Tuple [a, b] k2 pt2) pos) (awD i j ta) := by
 refine ⟨λpins s σ H D I h => ?_⟩
 rw [exec_Assign_arm]
 refine wpAny_bind (wpAny_standAt ?_)
 rw [hs]
 refine wpAny_bind (wpAny_pure ?_)
 rw [if_neg (by decide)]
 refine wpAny_bind (Tuple_ (thn (ha _ pins s σ H _ I h) λus s1 ⟨vs, H1, I1, r1, q1⟩ => ?_))
 obtain ⟨v, w, e1, q1⟩ := q1
 subst e1
 obtain ⟨u1, u2, rfl, rv, rw'⟩ : ∃ u1 u2, us = [u1, u2] /\ RelV v u1 /\ RelV w u2 := by
  cases r1 with
  | cons p q =>
   cases q with
   | cons p' q' =>
    cases q'
    exact ⟨_, _, rfl, p, p'⟩
 refine wpAny_newObj_type ?_ (by show 2 <= sizeLine; decide)
 have I2 : Inv X pins σ H1 { s1 with heap := s1.heap.push { cls := .type "tuple", data := .seq [u1, u2].toArray } } := I1.kept (t' := s1.toks) λb o e => Heap.get?_push_of_some _ e
 rw [hw]
 refine wpAny_bind (wpAny_pure ?_)
 show wpAny (model X.prog X.w) X.A (do rule "assign.swapped-stores"; let items <-unpackItems (.ref s1.heap.objs.size) 2 none; assignInOrder [λv => bindName X.env y v, λv => bindName X.env x v] items.reverse; pure Flow.next) _ _ _
 refine wpAny_bind (wpAny_rule (wpAny_bind (unpackItems_tuple (items := #[u1, u2]) (I.ok.hd hc) (IsTup.new s1.heap _) λh' hx' => ?_)))
 have I3 := I2.kept (h' := h') (t' := s1.toks) λb o e => hx' b o (Nat.ne_of_lt (Heap.lt_size e)) e
 show wpAny _ _ (assignInOrder [λv => bindName X.env y v, λv => bindName X.env x v] [u2, u1] >>= λ_ => pure Flow.next) _ _ _
 refine wpAny_bind (assignInOrder_cons (wpAny_bindName (adS I3 hN hj (.inl hy) rw' (λs2 I4 => ?_) (.inr hy))))
 refine assignInOrder_cons (wpAny_bindName (adS I4 hN hi (.inl hx) rv (λs3 I5 => assignInOrder_nil (wpAny_pure ?_)) (.inr hx)))
 rw [List.set_comm _ _ (Ne.symm hij)] at I5
 exact ⟨_, H1, I5, q1⟩
end
section
variable {X : Cx} {pos : Pos}
noncomputable def aoP (c : TT) (tb : TS) : TS := λD σ H => ∃ W : Nat -> St -> Hp -> Prop, (∃ m, W m σ H) /\ ∀ m σ H, W m σ H ->
 c σ H λb H1 => if b = true then ∃ N : St -> Hp -> Prop, (∀ σ' H', N σ' H' -> ∃ m', m' < m /\ W m' σ' H') /\ tb { D with nx := N, ct := N, bk := D.nx } σ H1 else D.nx σ H1
theorem ajX {c : Expr} {body : List Stmt} {tc : TT} {tb : TS} (hp : PassesOwn (model X.prog X.w) X.A X.env X.xe) (hc : PT X c tc) (hb : PSs X body tb) : PS X (.While c body [] pos) (aoP tc tb) := by
 refine ⟨λpins s σ H D I h => ?_⟩
 obtain ⟨W, ⟨m0, w0⟩, turn⟩ := h
 refine wpAny_While (codeAny_whileLoop (λn s' => ∃ σ' H', Inv X pins σ' H' s' /\ W n σ' H') ?_ m0 ⟨σ, H, I, w0⟩)
 rintro n s1 ⟨σ1, H1, I1, w1⟩
 refine wpAny_passesOwn hp (thn (hc pins s1 σ1 H1 _ I1 (turn n σ1 H1 w1)) λb s2 ⟨H2, I2, q2⟩ => ?_)
 cases b with
 | true =>
  obtain ⟨N, hN, q2⟩ := q2
  rw [if_pos rfl]
  refine wpAny_passesOwn hp (thn (hb pins s2 σ1 H2 _ I2 q2) λf s3 q3 => ?_)
  cases f with
  | next =>
   obtain ⟨σ3, H3, I3, n3⟩ := q3
   obtain ⟨m', hm, w3⟩ := hN σ3 H3 n3
   exact ⟨m', hm, σ3, H3, I3, w3⟩
  | cont =>
   obtain ⟨σ3, H3, I3, n3⟩ := q3
   obtain ⟨m', hm, w3⟩ := hN σ3 H3 n3
   exact ⟨m', hm, σ3, H3, I3, w3⟩
  | brk => exact q3
  | ret v => exact q3
 | false =>
  rw [if_neg Bool.false_ne_true]
  exact wpAny_execs_nil ⟨σ1, H2, I2, q2⟩
end
structure It where
 go : Nat -> Hp -> Prop
 yld : Nat -> Hp -> V -> Hp -> Prop
 stop : Nat -> Hp -> Prop
noncomputable def aeY (X : Cx) (pins : List (Addr × Obj)) (H : Hp) (b : Addr) : Prop :=
 H b = none /\ b ≠ X.env.locals /\ b ∉ X.fs /\ (b ∈ X.ex \/ X.s₀.heap.objs.size <= b) /\ (∀ x c, X.env.cells.lookup x = some c -> c ≠ b) /\ ∀ p ∈ X.pn ++ pins, p.1 ≠ b
theorem Inv.aoQ {X : Cx} {pins : List (Addr × Obj)} {σ : St} {H H' : Hp} {s : Shared} {b : Addr} (I : Inv X pins σ H s) (hb : s.heap.objs.size <= b) (hn : H' b = none) : aeY X pins H' b := by
 refine ⟨hn, Nat.ne_of_gt (Nat.lt_of_lt_of_le I.lt hb), I.axq hb, .inr (Nat.le_trans I.sz hb), λx c e z => ?_, λp hp z => ?_⟩
 ·obtain ⟨v, q⟩ := I.cell x c e
  exact absurd (Nat.lt_of_lt_of_le q.lt (by rw [z]; exact hb)) (Nat.lt_irrefl _)
 ·exact absurd (Nat.lt_of_lt_of_le (Heap.lt_size (I.pin p hp).1) (by rw [z]; exact hb)) (Nat.lt_irrefl _)
structure Turn (P : Program) (w : World) (K : PySem.W.Frag) (tg : Expr) (J : It) (fp : List Addr) (it : Addr) (tn : Nat -> Heap -> Prop) : Prop where
 mem : it ∈ fp
 obj : ∀ i h, tn i h -> ∀ b ∈ fp, ∃ o, h.get? b = some o /\ ∀ v, o.data ≠ .cell v
 keep : ∀ i h h', tn i h -> (∀ b ∈ fp, ∀ o, h.get? b = some o -> h'.get? b = some o) -> tn i h'
 item : ∀ (X : Cx), X.prog = P -> X.w = w -> X.K = K -> X.calm = true -> ∀ (i : Nat) (pins : List (Addr × Obj)) (s : Shared) (σ : St) (H : Hp) (E : Value -> Shared -> Prop), Inv X pins σ H s -> (∀ b ∈ fp, aeY X pins H b) -> tn i s.heap -> J.go i H ->
  wpAny (model P w) X.A (pyNext (.ref it)) (λr s1 => ∃ u, r = some u /\
   wpAny (model P w) X.A (letOwnedTupleGo tg (.ref it) u) (λ_ s2 => ∃ x H', Inv X pins σ H' s2 /\ RelV x u /\ J.yld i H x H' /\ tn (i + 1) s2.heap /\ ∀ b ∈ fp, H' b = none) E s1) E s
 done : ∀ (X : Cx), X.prog = P -> X.w = w -> X.K = K -> X.calm = true -> ∀ (i : Nat) (pins : List (Addr × Obj)) (s : Shared) (σ : St) (H : Hp) (E : Value -> Shared -> Prop), Inv X pins σ H s -> (∀ b ∈ fp, aeY X pins H b) -> tn i s.heap -> J.stop i H ->
  wpAny (model P w) X.A (pyNext (.ref it)) (λr s1 => r = none /\ Inv X pins σ H s1) E s
 self : ∀ (A : Around) (i : Nat) (s : Shared) (Q : Value -> Shared -> Prop) (E : Value -> Shared -> Prop), tn i s.heap -> Q (.ref it) s -> wpAny (model P w) A (pyIter (.ref it)) Q E s
noncomputable abbrev TI := St -> Hp -> (It -> Hp -> Prop) -> Prop
noncomputable def PIE (X : Cx) (pins : List (Addr × Obj)) (σ : St) (tg : Expr) (R : It -> Hp -> Prop) (itv : Value) (s2 : Shared) : Prop :=
 ∃ (it : Addr) (fp : List Addr) (tn : Nat -> Heap -> Prop) (J : It) (H' : Hp), itv = .ref it /\ Inv X pins σ H' s2 /\ Turn X.prog X.w X.K tg J fp it tn /\ tn 0 s2.heap /\ (∀ b ∈ fp, aeY X pins H' b) /\ R J H'
noncomputable def PI (X : Cx) (tg iter : Expr) (wi : TI) : Prop :=
 ∀ (pins : List (Addr × Obj)) (s : Shared) (σ : St) (H : Hp) (R : It -> Hp -> Prop), Inv X pins σ H s -> wi σ H R ->
  wpAny (model X.prog X.w) X.A (eval iter X.env) (λv s1 => wpAny (model X.prog X.w) X.A (pyIter v) (PIE X pins σ tg R) X.xe s1) X.xe s
theorem apz {M : Model} {A : Around} {E : Value → Shared → Prop} {s : Shared} {tg : Expr} {it : Addr} {u : Value} {o : Obj} {n : String} {vs : Array Value} {Q : Unit → Shared → Prop} (ho : s.heap.get? it = some o) (hc : o.cls = .type n) (hd : o.data = .fields vs)
    (hn : ["enumerate", "zip", "dict_itemiterator", "dict_reverseitemiterator", "odict_iterator", "itertools.zip_longest", "itertools.pairwise"].contains n = false) (hQ : Q () s) : wpAny M A (letOwnedTupleGo tg (.ref it) u) Q E s := by
  unfold letOwnedTupleGo
  cases tg <;> first
    | exact wpAny_pure hQ
    | (cases u <;> first
        | exact wpAny_pure hQ
        | (refine wpAny_bind (wpAny_load ho ?_)
           rw [hc, hd]
           show wpAny M A (if (["enumerate", "zip", "dict_itemiterator", "dict_reverseitemiterator", "odict_iterator", "itertools.zip_longest", "itertools.pairwise"].contains n && vs[0]? == some (rawInt _)) = true then _ else _) Q E s
           rw [if_neg (by intro h; rw [hn, Bool.false_and] at h; cases h)]
           exact wpAny_pure hQ))
noncomputable def Itl (K : PySem.W.Frag) (a : Addr) : It :=
 ⟨λi H => ∃ xs x, SqL K H a xs /\ xs[i]? = some x, λi H x H' => H' = H /\ ∀ xs, SqL K H a xs -> xs[i]? = some x, λi H => ∃ xs, SqL K H a xs /\ xs.length <= i⟩
noncomputable def Itt (K : PySem.W.Frag) (a : Addr) : It :=
 ⟨λi H => ∃ xs x, SqT K H a xs /\ xs[i]? = some x, λi H x H' => H' = H /\ ∀ xs, SqT K H a xs -> xs[i]? = some x, λi H => ∃ xs, SqT K H a xs /\ xs.length <= i⟩
noncomputable def Itr (lo : Int) (n : Nat) : It := ⟨λi _ => i < n, λi H x H' => H' = H /\ x = .int (lo + i), λi _ => n <= i⟩
theorem alM {P : Program} {w : World} {K : PySem.W.Frag} {tg : Expr} (a it : Addr) : Turn P w K tg (Itl K a) [it] it (λi h => h.IsListIter it a i) where
 mem := by simp
 obj := λi h st b hb => by
  have e : b = it := by simpa using hb
  subst e
  obtain ⟨o, e, c, d⟩ := st
  exact ⟨o, e, λv z => by rw [d] at z; cases z⟩
 keep := λi h h' st k => st.at λo e => k it (by simp) o e
 item := by
  intro X hP hw hK hc i pins s σ H E I hf st hg
  subst hP hw hK
  obtain ⟨xs, x, hq, hx⟩ := hg
  obtain ⟨its, rv, p, hz⟩ := I.list hq
  obtain ⟨u, hu, ru⟩ := rv.get hx
  obtain ⟨f0, f1, f2, f3, f4, f5⟩ := hf it (by simp)
  refine wpAny_pyNext_list_item st p.isList (x := u) (by simpa using hu) λh' st' sb => ?_
  have I1 : Inv X pins σ H { s with heap := h' } := I.turned (t' := s.toks) (λb o hb e => (sb.2 b hb).trans e) f0 f1 f3 f4 f5
  obtain ⟨o, e, c, d⟩ := id st'
  exact ⟨u, rfl, apz (s := { s with heap := h' }) e c d (by decide) ⟨x, H, I1, ru, ⟨rfl, λys hy => by rw [I.ajV hy hq]; exact hx⟩, st', λb hb => (hf b hb).1⟩⟩
 done := by
  intro X hP hw hK hc i pins s σ H E I hf st hg
  subst hP hw hK
  obtain ⟨xs, hq, hx⟩ := hg
  obtain ⟨its, rv, p, hz⟩ := I.list hq
  obtain ⟨f0, f1, f2, f3, f4, f5⟩ := hf it (by simp)
  have hl := rv.length
  exact wpAny_pyNext_list_end (I.ok.hd hc) st p.isList (by simp; omega) λh' eb => ⟨rfl, I.turned (t' := s.toks) (λb o hb e => eb b o hb e) f0 f1 f3 f4 f5⟩
 self := λ_ _ _ _ _ st h => wpAny_pyIter_listiter st h
theorem akM {P : Program} {w : World} {K : PySem.W.Frag} {tg : Expr} (a it : Addr) : Turn P w K tg (Itt K a) [it] it (λi h => h.IsTupleIter it a i) where
 mem := by simp
 obj := λi h st b hb => by
  have e : b = it := by simpa using hb
  subst e
  obtain ⟨o, e, c, d⟩ := st
  exact ⟨o, e, λv z => by rw [d] at z; cases z⟩
 keep := λi h h' st k => st.at λo e => k it (by simp) o e
 item := by
  intro X hP hw hK hc i pins s σ H E I hf st hg
  subst hP hw hK
  obtain ⟨xs, x, hq, hx⟩ := hg
  obtain ⟨its, rv, p, hz⟩ := I.tuple hq
  obtain ⟨u, hu, ru⟩ := rv.get hx
  obtain ⟨f0, f1, f2, f3, f4, f5⟩ := hf it (by simp)
  refine wpAny_pyNext_tuple_item st (show s.heap.IsTuple a its.toArray from p) (x := u) (by simpa using hu) λh' st' sb => ?_
  have I1 : Inv X pins σ H { s with heap := h' } := I.turned (t' := s.toks) (λb o hb e => (sb.2 b hb).trans e) f0 f1 f3 f4 f5
  obtain ⟨o, e, c, d⟩ := id st'
  exact ⟨u, rfl, apz (s := { s with heap := h' }) e c d (by decide) ⟨x, H, I1, ru, ⟨rfl, λys hy => by rw [I.ahJ hy hq]; exact hx⟩, st', λb hb => (hf b hb).1⟩⟩
 done := by
  intro X hP hw hK hc i pins s σ H E I hf st hg
  subst hP hw hK
  obtain ⟨xs, hq, hx⟩ := hg
  obtain ⟨its, rv, p, hz⟩ := I.tuple hq
  obtain ⟨f0, f1, f2, f3, f4, f5⟩ := hf it (by simp)
  have hl := rv.length
  exact wpAny_pyNext_tuple_end (I.ok.hd hc) st (show s.heap.IsTuple a its.toArray from p) (by simp; omega) λh' eb => ⟨rfl, I.turned (t' := s.toks) (λb o hb e => eb b o hb e) f0 f1 f3 f4 f5⟩
 self := λ_ _ _ _ _ st h => wpAny_pyIter_tupleiter st h
theorem akN {P : Program} {w : World} {K : PySem.W.Frag} {tg : Expr} (it : Addr) (lo : Int) (n : Nat) : Turn P w K tg (Itr lo n) [it] it (λi h => IsRangeIter h it (lo + (i : Nat) * 1) ((n : Int) - (i : Nat)) 1) where
 mem := by simp
 obj := λi h st b hb => by
  have e : b = it := by simpa using hb
  subst e
  exact ⟨_, st, λv z => by
   have z' : Data.fields _ = Data.cell v := z
   cases z'⟩
 keep := λi h h' st k => k it (by simp) _ st
 item := by
  intro X hP hw hK hc i pins s σ H E I hf st hg
  subst hP hw hK
  obtain ⟨f0, f1, f2, f3, f4, f5⟩ := hf it (by simp)
  have W := Walks.range (prog := X.prog) (w := X.w) (I.ok.hd hc) it lo 1 n
  refine W.item i s _ _ hg st λv h' tk hv st' kk => ?_
  obtain ⟨t, rfl⟩ := hv
  have I1 : Inv X pins σ H { s with heap := h', toks := tk } := I.turned (λb o hb e => kk b o (by simpa using hb) e) f0 f1 f3 f4 f5
  refine ⟨_, rfl, apz (s := { s with heap := h', toks := tk }) (n := "range_iterator") st' rfl rfl (by decide) ⟨.int (lo + i), H, I1, ⟨t, ?_⟩, ⟨rfl, rfl⟩, st', λb hb => (hf b hb).1⟩⟩
  rw [Int.mul_one]
 done := by
  intro X hP hw hK hc i pins s σ H E I hf st hg
  subst hP hw hK
  obtain ⟨f0, f1, f2, f3, f4, f5⟩ := hf it (by simp)
  exact wpAny_pyNext_range_end (I.ok.hd hc) st (by have : n <= i := hg; omega) λh' eb => ⟨rfl, I.turned (t' := s.toks) (λb o hb e => eb b o hb e) f0 f1 f3 f4 f5⟩
 self := λ_ _ _ _ _ st h => wpAny_pyIter_rangeiter st h
end L2
namespace L2
open PySem PySem.Spec PyProof.Rows
section
variable {X : Cx} {tg : Expr}
noncomputable def arB (K : PySem.W.Frag) (tl : TE) : TI := λσ H R => tl σ H λx H1 => ∃ a, x = .ref a /\ (∃ xs, SqL K H1 a xs) /\ R (Itl K a) H1
noncomputable def awE (K : PySem.W.Frag) (tl : TE) : TI := λσ H R => tl σ H λx H1 => ∃ a, x = .ref a /\ (∃ xs, SqT K H1 a xs) /\ R (Itt K a) H1
theorem apA {l : Expr} {tl : TE} (hl : PE X l tl) : PI X tg l (arB X.K tl) := by
 intro pins s σ H R I h
 refine thn (hl pins s σ H _ I h) λv s1 ⟨x, H1, I1, r1, q1⟩ => ?_
 obtain ⟨a, e, ⟨xs, hq⟩, q⟩ := q1
 subst e
 cases r1
 obtain ⟨its, rv, p, hz⟩ := I1.list hq
 refine wpAny_pyIter_list p.isList ?_
 refine ⟨s1.heap.objs.size, [s1.heap.objs.size], _, _, H1, rfl, I1.kept (t' := s1.toks) λb o e => Heap.get?_push_of_some _ e, alM a _, ⟨_, Heap.get?_push_size _ rfl, rfl, rfl⟩, λb hb => ?_, q⟩
 have e : b = s1.heap.objs.size := by simpa using hb
 subst e
 exact I1.aoQ (Nat.le_refl _) (I1.hok.fresh (Nat.le_refl _))
theorem arC {l : Expr} {tl : TE} (hl : PE X l tl) : PI X tg l (awE X.K tl) := by
 intro pins s σ H R I h
 refine thn (hl pins s σ H _ I h) λv s1 ⟨x, H1, I1, r1, q1⟩ => ?_
 obtain ⟨a, e, ⟨xs, hq⟩, q⟩ := q1
 subst e
 cases r1
 obtain ⟨its, rv, p, hz⟩ := I1.tuple hq
 refine wpAny_pyIter_tuple (show s1.heap.IsTuple a its.toArray from p) ?_
 refine ⟨s1.heap.objs.size, [s1.heap.objs.size], _, _, H1, rfl, I1.kept (t' := s1.toks) λb o e => Heap.get?_push_of_some _ e, akM a _, ⟨_, Heap.get?_push_size _ rfl, rfl, rfl⟩, λb hb => ?_, q⟩
 have e : b = s1.heap.objs.size := by simpa using hb
 subst e
 exact I1.aoQ (Nat.le_refl _) (I1.hok.fresh (Nat.le_refl _))
theorem anx {pins : List (Addr × Obj)} {σ : St} {H : Hp} {s : Shared} {R : It -> Hp -> Prop} {E : Value -> Shared -> Prop} {lo hi : Int} {t u v : Tok} {tk : Nat} (I : Inv X pins σ H s) (h1 : -(2 ^ 62) <= lo) (h2 : lo < 2 ^ 62) (h3 : -(2 ^ 62) <= hi) (h4 : hi < 2 ^ 62)
  (q : R (Itr lo (hi - lo).toNat) H) : wpAny (model X.prog X.w) X.A (pyIter (.ref s.heap.objs.size)) (PIE X pins σ tg R) E { s with heap := s.heap.push { cls := .type "range", data := .fields #[.int lo t, .int hi u, .int 1 v] }, toks := tk } := by
 refine wpAny_pyIter_range (IsRange.new ..) (small_one h1 h2 h3 h4) ?_
 have I1 : Inv X pins σ H { s with heap := s.heap.push { cls := .type "range", data := .fields #[.int lo t, .int hi u, .int 1 v] }, toks := tk } := I.kept λb o e => Heap.get?_push_of_some _ e
 refine ⟨(s.heap.push { cls := .type "range", data := .fields #[.int lo t, .int hi u, .int 1 v] }).objs.size, [(s.heap.push { cls := .type "range", data := .fields #[.int lo t, .int hi u, .int 1 v] }).objs.size], _, _, H, rfl,
  I1.kept (t' := tk) λb o e => Heap.get?_push_of_some _ e, akN _ lo (hi - lo).toNat, ?_, λb hb => ?_, q⟩
 ·have e1 : lo + ((0 : Nat) : Int) * 1 = lo := by simp
  have e2 : (((hi - lo).toNat : Nat) : Int) - ((0 : Nat) : Int) = Builtin.Range.rangeSize lo hi 1 := by rw [rangeSize_one]; split <;> omega
  show IsRangeIter _ _ (lo + ((0 : Nat) : Int) * 1) ((((hi - lo).toNat : Nat) : Int) - ((0 : Nat) : Int)) 1
  rw [e1, e2]
  exact Heap.get?_push_size _ rfl
 ·have e : b = (s.heap.push { cls := .type "range", data := .fields #[.int lo t, .int hi u, .int 1 v] }).objs.size := by simpa using hb
  subst e
  exact I1.aoQ (Nat.le_refl _) (I1.hok.fresh (Nat.le_refl _))
noncomputable def apB (ta : TA) : TI := λσ H R => ta σ H λvs H1 => ∃ j : Int, vs = [.int j] /\ -(2 ^ 62) <= j /\ j < 2 ^ 62 /\ R (Itr 0 j.toNat) H1
theorem alN {a : Expr} {ta : TA} {p pos : Pos} (hg : Gl X "range") (hm : X.mg "range" = none) (ha : PA X [a] ta) (hs : starEach [a] X.env = [(false, eval a X.env)] := by rfl) : PI X tg (.Call (.Name "range" p) [a] [] pos) (apB ta) := by
 intro pins s σ H R I h
 refine Call_ (agJ I hg hm boot_range (PyProof.Rows.callWith_type1 (thn (ha pos pins s σ H _ I h) λus s1 ⟨vs, H1, I1, r1, q1⟩ => ?_) hs rfl))
 obtain ⟨j, e, q1, q2, q⟩ := q1
 subst e
 cases r1 with
 | cons r rr =>
  cases rr
  obtain ⟨t, rfl⟩ := r
  exact call_range_1 (anx I1 (by omega) (by omega) q1 q2 (by simpa using q))
noncomputable def awF (wi : TI) (g : TG) (tb : TS) : TS := λD σ H => wi σ H λJ H1 => ∃ W : Nat -> Nat -> St -> Hp -> Prop, (∃ m, W 0 m σ H1) /\ ∀ i m σ H, W i m σ H ->
 (J.stop i H /\ D.nx σ H) \/ (J.go i H /\ ∃ N : St -> Hp -> Prop, (∀ σ' H', N σ' H' -> ∃ m', m' < m /\ W (i + 1) m' σ' H') /\ ∀ x H', J.yld i H x H' -> g x σ H' λσ2 H2 => tb { D with nx := N, ct := N, bk := D.nx } σ2 H2)
noncomputable def ajY (fp : List Addr) (h : Heap) : List (Addr × Obj) := fp.filterMap λb => (h.get? b).map λo => (b, o)
theorem adT {fp : List Addr} {h : Heap} {b : Addr} {o : Obj} (hb : b ∈ fp) (e : h.get? b = some o) : (b, o) ∈ ajY fp h := List.mem_filterMap.mpr ⟨b, hb, by rw [e]; rfl⟩
theorem alO {fp : List Addr} {h : Heap} {p : Addr × Obj} (hp : p ∈ ajY fp h) : p.1 ∈ fp /\ h.get? p.1 = some p.2 := by
 obtain ⟨b, hb, e⟩ := List.mem_filterMap.mp hp
 cases q : h.get? b with
 | none => rw [q] at e; cases e
 | some o =>
  rw [q] at e
  have e' : (b, o) = p := Option.some.inj e
  subst e'
  exact ⟨hb, q⟩
theorem Inv.pinned {pins : List (Addr × Obj)} {σ : St} {H : Hp} {s : Shared} {fp : List Addr} (I : Inv X pins σ H s) (hf : ∀ b ∈ fp, aeY X pins H b) (ho : ∀ b ∈ fp, ∃ o, s.heap.get? b = some o /\ ∀ v, o.data ≠ .cell v) : Inv X (pins ++ ajY fp s.heap) σ H s :=
 I.ag0 λp hp => (List.mem_append.mp hp).elim (λz => I.pin p (List.mem_append_right _ z)) λz => by
  obtain ⟨hb, e⟩ := alO z
  obtain ⟨f0, f1, f2, _⟩ := hf p.1 hb
  obtain ⟨o, e', d⟩ := ho p.1 hb
  rw [e] at e'; cases e'
  exact ⟨e, f0, f1, f2, d⟩
theorem Inv.afG {pins pl : List (Addr × Obj)} {σ : St} {H : Hp} {s : Shared} (I : Inv X (pins ++ pl) σ H s) : Inv X pins σ H s := I.ag0 λp hp => I.pin p (List.mem_append_right _ (List.mem_append_left _ hp))
theorem ahL {iter : Expr} {body : List Stmt} {wi : TI} {g : TG} {tb : TS} {pos : Pos} (hp : PassesOwn (model X.prog X.w) X.A X.env X.xe) (hc : X.calm = true) (hi : PI X tg iter wi) (hg : PG X tg g) (hb : PSs X body tb)
  (hs : ∀ x, foldedSetIterable iter X.env x = pure x := by intro _; rfl) : PS X (.For tg iter body [] pos) (awF wi g tb) := by
 refine ⟨λpins s σ H D I h => ?_⟩
 refine wpAny_For (thn (hi pins s σ H _ I h) λv s1 h1 => thn h1 λitv s2 h2 => ?_) hs
 obtain ⟨it, fp, tn, J, H2, e, I2, T, st2, f2, W, ⟨m0, w0⟩, turn⟩ := h2
 subst e
 -- what stays true of the iterator's objects through the loop
 have stat : ∀ {H' : Hp}, (∀ b ∈ fp, H' b = none) -> ∀ b ∈ fp, aeY X pins H' b := λhn b hb => ⟨hn b hb, (f2 b hb).2⟩
 refine codeAny_forLoop_any (λn s' => ∃ i σ' H', Inv X pins σ' H' s' /\ tn i s'.heap /\ (∀ b ∈ fp, H' b = none) /\ W i n σ' H') ?_ m0 ⟨0, σ, H2, I2, st2, λb hb => (f2 b hb).1, w0⟩
 rintro n s3 ⟨i, σ3, H3, I3, st3, fr3, w3⟩
 rcases turn i n σ3 H3 w3 with ⟨stop, qn⟩ | ⟨go, N, hN, step⟩
 ·refine wpAny_passesOwn hp (thn (T.done X rfl rfl rfl hc i pins s3 σ3 H3 X.xe I3 (stat fr3) st3 stop) λr s4 ⟨hr, I4⟩ => ?_)
  subst hr
  exact wpAny_execs_nil ⟨σ3, H3, I4, qn⟩
 ·refine wpAny_passesOwn hp (thn (T.item X rfl rfl rfl hc i pins s3 σ3 H3 X.xe I3 (stat fr3) st3 go) λr s4 ⟨u, hr, h4⟩ => ?_)
  subst hr
  refine wpAny_passesOwn hp (thn h4 λ_ s5 ⟨x, H5, I5, r5, y5, st5, fr5⟩ => ?_)
  have I5' := I5.pinned (stat fr5) (T.obj _ _ st5)
  refine wpAny_passesOwn hp (thn (hg _ s5 σ3 H5 x u _ I5' r5 (step x H5 y5)) λ_ s6 ⟨σ6, H6, I6, q6⟩ => ?_)
  refine wpAny_passesOwn hp (thn (hb _ s6 σ6 H6 _ I6 q6) λf s7 q7 => ?_)
  have again : ∀ {σ7 : St} {H7 : Hp}, Inv X (pins ++ ajY fp s5.heap) σ7 H7 s7 -> N σ7 H7 -> ∃ m, m < n /\ ∃ i σ' H', Inv X pins σ' H' s7 /\ tn i s7.heap /\ (∀ b ∈ fp, H' b = none) /\ W i m σ' H' := λ{σ7 H7} I7 n7 => by
   obtain ⟨m', hm, w7⟩ := hN σ7 H7 n7
   refine ⟨m', hm, i + 1, σ7, H7, I7.afG, T.keep _ _ _ st5 λb hb o e => (I7.pin (b, o) (List.mem_append_right _ (List.mem_append_right _ (adT hb e)))).1, λb hb => ?_, w7⟩
   obtain ⟨o, e, d⟩ := T.obj _ _ st5 b hb
   exact (I7.pin (b, o) (List.mem_append_right _ (List.mem_append_right _ (adT hb e)))).2.1
  cases f with
  | next => obtain ⟨σ7, H7, I7, n7⟩ := q7; exact again I7 n7
  | cont => obtain ⟨σ7, H7, I7, n7⟩ := q7; exact again I7 n7
  | brk => obtain ⟨σ7, H7, I7, q7⟩ := q7; exact ⟨σ7, H7, I7.afG, q7⟩
  | ret v => obtain ⟨x7, σ7, H7, I7, r7, q7⟩ := q7; exact ⟨x7, σ7, H7, I7.afG, r7, q7⟩
end
end L2
namespace L2
open PySem PySem.Spec PyProof.Rows
noncomputable abbrev R2 := V -> V -> Hp -> VK -> Prop
noncomputable def OpR (X : Cx) (f : Value -> Value -> Sem Value) (r : R2) : Prop :=
 ∀ (pins : List (Addr × Obj)) (s : Shared) (σ : St) (H : Hp) (x y : V) (v u : Value) (Q : VK), Inv X pins σ H s -> RelV x v -> RelV y u -> r x y H Q ->
  wpAny (model X.prog X.w) X.A (f v u) (EP X pins σ Q) X.xe s
noncomputable def UnR (X : Cx) (f : Value -> Sem Value) (r : V -> Hp -> VK -> Prop) : Prop :=
 ∀ (pins : List (Addr × Obj)) (s : Shared) (σ : St) (H : Hp) (x : V) (v : Value) (Q : VK), Inv X pins σ H s -> RelV x v -> r x H Q ->
  wpAny (model X.prog X.w) X.A (f v) (EP X pins σ Q) X.xe s
noncomputable def acI (X : Cx) (f : Value) (r : List V -> Hp -> VK -> Prop) : Prop :=
 ∀ (pins : List (Addr × Obj)) (s : Shared) (σ : St) (H : Hp) (xs : List V) (us : List Value) (Q : VK), Inv X pins σ H s -> Vals xs us -> r xs H Q ->
  wpAny (model X.prog X.w) X.A (call f us) (EP X pins σ Q) X.xe s
noncomputable def axu (X : Cx) (r : V -> Hp -> (Bool -> Hp -> Prop) -> Prop) : Prop :=
 ∀ (pins : List (Addr × Obj)) (s : Shared) (σ : St) (H : Hp) (x : V) (v : Value) (Q : Bool -> Hp -> Prop), Inv X pins σ H s -> RelV x v -> r x H Q ->
  wpAny (model X.prog X.w) X.A (truthy v) (TP X pins σ Q) X.xe s
noncomputable def tOp (r : R2) (ta tb : TE) : TE := λσ H Q => ta σ H λx H1 => tb σ H1 λy H2 => r x y H2 Q
noncomputable def tUn (r : V -> Hp -> VK -> Prop) (ta : TE) : TE := λσ H Q => ta σ H λx H1 => r x H1 Q
noncomputable def rI (C : Int -> Int -> Prop) (g : Int -> Int -> V) : R2 := λx y H Q => ∃ i j, x = .int i /\ y = .int j /\ C i j /\ Q (g i j) H
noncomputable def rI0 (g : Int -> Int -> V) : R2 := λx y H Q => ∃ i j, x = .int i /\ y = .int j /\ Q (g i j) H
noncomputable def rU (g : Int -> V) : V -> Hp -> VK -> Prop := λx H Q => ∃ i, x = .int i /\ Q (g i) H
section
variable {X : Cx} {a b c : Expr} {ta tb tc : TE} {pos : Pos}
theorem auY (ha : PE X a ta) (hb : PE X b tb) {pins : List (Addr × Obj)} {s : Shared} {σ : St} {H : Hp} {R : V -> V -> Hp -> Prop} (I : Inv X pins σ H s)
  (h : ta σ H λx H1 => tb σ H1 λy H2 => R x y H2) {Q : Value -> Shared -> Prop} {f : Value -> Value -> Sem Value}
  (hf : ∀ v u s2 x y H2, Inv X pins σ H2 s2 -> RelV x v -> RelV y u -> R x y H2 -> wpAny (model X.prog X.w) X.A (f v u) Q X.xe s2) :
  wpAny (model X.prog X.w) X.A (eval a X.env) (λv s₁ => wpAny (model X.prog X.w) X.A (eval b X.env) (λu s₂ => wpAny (model X.prog X.w) X.A (f v u) Q X.xe s₂) X.xe s₁) X.xe s := by
 refine thn (ha pins s σ H _ I h) λv s1 ⟨x, H1, I1, r1, q1⟩ => ?_
 refine thn (hb pins s1 σ H1 _ I1 q1) λu s2 ⟨y, H2, I2, r2, q2⟩ => ?_
 exact hf v u s2 x y H2 I2 r1 r2 q2
theorem abb {op : Operator} {r : R2} (ho : OpR X (binaryOp op) r) (ha : PE X a ta) (hb : PE X b tb) : PE X (.BinOp a op b pos) (tOp r ta tb) := by
 refine ⟨λpins s σ H Q I h => ?_⟩
 exact wpAny_BinOp (auY ha hb I h λv u s2 x y H2 I2 rx ry q => ho pins s2 σ H2 x y v u Q I2 rx ry q)
theorem arD {op : UnaryOp} {r : V -> Hp -> VK -> Prop} (ho : UnR X (unaryOp op) r) (ha : PE X a ta) : PE X (.UnaryOp op a pos) (tUn r ta) := by
 refine ⟨λpins s σ H Q I h => ?_⟩
 exact UnaryOp_ (thn (ha pins s σ H _ I h) λv s1 ⟨x, H1, I1, r1, q1⟩ => ho pins s1 σ H1 x v Q I1 r1 q1)
theorem opI {f : Value -> Value -> Sem Value} {C : Int -> Int -> Prop} {g : Int -> Int -> Int}
  (rule : ∀ (i j : Int) (t u : Tok) (s : Shared) (Q : Value -> Shared -> Prop) (E : Value -> Shared -> Prop), C i j -> Q (.int (g i j) s.toks) { s with toks := s.toks + 1 } -> wpAny (model X.prog X.w) X.A (f (.int i t) (.int j u)) Q E s) :
  OpR X f (rI C λi j => .int (g i j)) := by
 intro pins s σ H x y v u Q I rx ry h
 obtain ⟨i, j, rfl, rfl, hc, q⟩ := h
 obtain ⟨t, rfl⟩ := rx
 obtain ⟨t', rfl⟩ := ry
 exact rule i j t t' s _ _ hc ⟨.int (g i j), H, I.tok _, ⟨_, rfl⟩, q⟩
theorem awG {f : Value -> Value -> Sem Value} {g : Int -> Int -> Int}
  (rule : ∀ (i j : Int) (t u : Tok) (s : Shared) (Q : Value -> Shared -> Prop) (E : Value -> Shared -> Prop), Q (.int (g i j) s.toks) { s with toks := s.toks + 1 } -> wpAny (model X.prog X.w) X.A (f (.int i t) (.int j u)) Q E s) :
  OpR X f (rI0 λi j => .int (g i j)) := by
 intro pins s σ H x y v u Q I rx ry h
 obtain ⟨i, j, rfl, rfl, q⟩ := h
 obtain ⟨t, rfl⟩ := rx
 obtain ⟨t', rfl⟩ := ry
 exact rule i j t t' s _ _ ⟨.int (g i j), H, I.tok _, ⟨_, rfl⟩, q⟩
theorem auq {f : Value -> Value -> Sem Value} {g : Int -> Int -> Bool}
  (rule : ∀ (i j : Int) (t u : Tok) (s : Shared) (Q : Value -> Shared -> Prop) (E : Value -> Shared -> Prop), Q (.bool (g i j)) s -> wpAny (model X.prog X.w) X.A (f (.int i t) (.int j u)) Q E s) :
  OpR X f (rI0 λi j => .bl (g i j)) := by
 intro pins s σ H x y v u Q I rx ry h
 obtain ⟨i, j, rfl, rfl, q⟩ := h
 obtain ⟨t, rfl⟩ := rx
 obtain ⟨t', rfl⟩ := ry
 exact rule i j t t' s _ _ ⟨.bl (g i j), H, I, rfl, q⟩
noncomputable def auZ (i j : Int) : Prop := 0 <= j /\ j <= 1000000 /\ i.natAbs < 2 ^ 64
theorem aoR : OpR X (binaryOp .Add) (rI0 λi j => .int (i + j)) := awG λ_ _ _ _ _ _ _ q => add_int q
theorem adB : OpR X (binaryOp .Sub) (rI0 λi j => .int (i - j)) := awG λ_ _ _ _ _ _ _ q => sub_int q
theorem adC : OpR X (binaryOp .Mod) (rI (λ_ j => j ≠ 0) λi j => .int (i.fmod j)) := opI λ_ _ _ _ _ _ _ hc q => mod_int' hc q
theorem ahM : OpR X (binaryOp .Pow) (rI auZ λi j => .int (i ^ j.toNat)) := opI λ_ _ _ _ _ _ _ hc q => pow_int_small hc.1 hc.2.1 hc.2.2 q
theorem unI {f : Value -> Sem Value} {g : Int -> Int}
  (rule : ∀ (i : Int) (t : Tok) (s : Shared) (Q : Value -> Shared -> Prop) (E : Value -> Shared -> Prop), Q (.int (g i) s.toks) { s with toks := s.toks + 1 } -> wpAny (model X.prog X.w) X.A (f (.int i t)) Q E s) :
  UnR X f (rU λi => .int (g i)) := by
 intro pins s σ H x v Q I rx h
 obtain ⟨i, rfl, q⟩ := h
 obtain ⟨t, rfl⟩ := rx
 exact rule i t s _ _ ⟨.int (g i), H, I.tok _, ⟨_, rfl⟩, q⟩
theorem aoS : UnR X (unaryOp .USub) (rU λi => .int (-i)) := unI λ_ _ _ _ _ q => neg_int q
end
section
variable {X : Cx} {a b c : Expr} {ta tb tc : TE} {pos : Pos}
theorem arE {pins : List (Addr × Obj)} {σ : St} {H : Hp} {s : Shared} {Q : VK} {k k' : Bool} (I : Inv X pins σ H s) (q : Q (.bl k) H) (e : k = k') : EP X pins σ Q (.bool k') s := by
 subst e
 exact ⟨.bl k, H, I, rfl, q⟩
theorem au0 : OpR X (compareOp .Lt) (rI0 λi j => .bl (decide (i < j))) := auq λ_ _ _ _ _ _ _ q => lt_int q
theorem ag3 : OpR X (compareOp .LtE) (rI0 λi j => .bl (decide (i <= j))) := auq λ_ _ _ _ _ _ _ q => le_int q
theorem arF : OpR X (compareOp .Gt) (rI0 λi j => .bl (decide (j < i))) := auq λ_ _ _ _ _ _ _ q => gt_int q
theorem apC : OpR X (compareOp .GtE) (rI0 λi j => .bl (decide (j <= i))) := auq λ_ _ _ _ _ _ _ q => ge_int q
theorem arG : OpR X (compareOp .Is) (λx y H Q => y = .non /\ Q (.bl (decide (x = .non))) H) := by
 intro pins s σ H x y v u Q I rx ry h
 obtain ⟨rfl, q⟩ := h
 cases ry
 refine is_none_gen (arE I q ?_)
 cases x <;> first
  | (cases rx; rfl)
  | (obtain ⟨t, rfl⟩ := rx; rfl)
theorem OpR.or {f : Value -> Value -> Sem Value} {r r' : R2} (h : OpR X f r) (h' : OpR X f r') : OpR X f (λx y H Q => r x y H Q \/ r' x y H Q) := by
 intro pins s σ H x y v u Q I rx ry q
 rcases q with q | q
 ·exact h pins s σ H x y v u Q I rx ry q
 ·exact h' pins s σ H x y v u Q I rx ry q
theorem abq (b : Expr) {op : CmpOp} (h : op ≠ .In := by decide) (h2 : op ≠ .NotIn := by decide) : behindInMarks op b = false := by
 have e1 : (op == CmpOp.In) = false := by cases op <;> first | rfl | exact absurd rfl h
 have e2 : (op == CmpOp.NotIn) = false := by cases op <;> first | rfl | exact absurd rfl h2
 cases b <;> simp [behindInMarks, e1, e2]
theorem ac4 {op : CmpOp} {r : R2} (ho : OpR X (compareOp op) r) (ha : PE X a ta) (hb : PE X b tb) (hm : behindInMarks op b = false) : PE X (.Compare a [op] [b] pos) (tOp r ta tb) := by
 refine ⟨λpins s σ H Q I h => ?_⟩
 exact wpAny_Compare1 (auY ha hb I h λv u s2 x y H2 I2 rx ry q => ho pins s2 σ H2 x y v u Q I2 rx ry q) hm
noncomputable def apD (t : TE) : TT := λσ H Q => t σ H λx H' => ∃ k, x = .bl k /\ Q k H'
theorem abn {op : CmpOp} {r : R2} (ho : OpR X (compareOp op) r) (ha : PE X a ta) (hb : PE X b tb) (hm : behindInMarks op b = false) : PT X (.Compare a [op] [b] pos) (apD (tOp r ta tb)) := by
 refine ⟨λpins s σ H Q I h => ?_⟩
 refine wpAny_isTrue_Compare1 (thn (ha pins s σ H _ I h) λv s1 ⟨x, H1, I1, r1, q1⟩ => thn (hb pins s1 σ H1 _ I1 q1) λu s2 ⟨y, H2, I2, r2, q2⟩ =>
  thn (ho pins s2 σ H2 x y v u _ I2 r1 r2 q2) λc s3 ⟨z, H3, I3, r3, k, e, q3⟩ => ?_) hm
 subst e
 cases r3
 exact wpAny_truthy_bool ⟨H3, I3, q3⟩
noncomputable def ajZ (r r' : R2) (ta tb tc : TE) : TE := λσ H Q => ta σ H λx H1 => tb σ H1 λy H2 => r x y H2 λz H3 => ∃ k, z = .bl k /\
 (if k = true then tc σ H3 λw' H4 => r' y w' H4 Q else Q (.bl false) H3)
theorem aj0 {op op' : CmpOp} {r r' : R2} (ho : OpR X (compareOp op) r) (ho' : OpR X (compareOp op') r') (ha : PE X a ta) (hb : PE X b tb) (hc : PE X c tc)
  (hm : lastMarks [op, op'] [b, c] = false := by with_unfolding_all rfl) : PE X (.Compare a [op, op'] [b, c] pos) (ajZ r r' ta tb tc) := by
 refine ⟨λpins s σ H Q I h => ?_⟩
 refine Compare_chain (thn (ha pins s σ H _ I h) λv s1 ⟨x, H1, I1, r1, q1⟩ => chain_link (thn (hb pins s1 σ H1 _ I1 q1) λu s2 ⟨y, H2, I2, r2, q2⟩ =>
  thn (ho pins s2 σ H2 x y v u _ I2 r1 r2 q2) λd s3 ⟨z, H3, I3, r3, k, e, q3⟩ => ?_)) hm
 subst e
 cases r3
 refine wpAny_truthy_bool ?_
 cases k with
 | false => exact ite_ff ⟨.bl false, H3, I3, rfl, q3⟩
 | true => exact ite_tt (chain_last (thn (hc pins s3 σ H3 _ I3 q3) λw' s4 ⟨z', H4, I4, r4, q4⟩ => ho' pins s4 σ H4 y z' u w' Q I4 r2 r4 q4))
theorem aj1 {op op' : CmpOp} {r r' : R2} (ho : OpR X (compareOp op) r) (ho' : OpR X (compareOp op') r') (ha : PE X a ta) (hb : PE X b tb) (hc : PE X c tc)
  (hm : lastMarks [op, op'] [b, c] = false := by with_unfolding_all rfl) : PT X (.Compare a [op, op'] [b, c] pos) (apD (ajZ r r' ta tb tc)) := by
 refine ⟨λpins s σ H Q I h => ?_⟩
 refine isTrue_chain (thn (ha pins s σ H _ I h) λv s1 ⟨x, H1, I1, r1, q1⟩ => test_link (thn (hb pins s1 σ H1 _ I1 q1) λu s2 ⟨y, H2, I2, r2, q2⟩ =>
  thn (ho pins s2 σ H2 x y v u _ I2 r1 r2 q2) λd s3 ⟨z, H3, I3, r3, k, e, q3⟩ => ?_)) hm
 subst e
 cases r3
 refine wpAny_truthy_bool ?_
 cases k with
 | false =>
  obtain ⟨k', e', q'⟩ := q3
  cases e'
  exact ite_ff ⟨H3, I3, q'⟩
 | true =>
  refine ite_tt (test_last (thn (hc pins s3 σ H3 _ I3 q3) λw' s4 ⟨z', H4, I4, r4, q4⟩ => thn (ho' pins s4 σ H4 y z' u w' _ I4 r2 r4 q4) λd' s5 ⟨z2, H5, I5, r5, k2, e2, q5⟩ => ?_))
  subst e2
  cases r5
  exact wpAny_truthy_bool ⟨H5, I5, q5⟩
noncomputable def aur (K : PySem.W.Frag) (x : V) (H : Hp) (k : Bool) : Prop :=
 match x with
 | .non => k = false
 | .bl b => k = b
 | .int i => k = (i != 0)
 | .str y => y.length <= sizeLine /\ k = ((y.length : Int) != 0)
 | .byt y => y.size <= sizeLine /\ k = ((y.size : Int) != 0)
 | .ref p => (∃ xs, SqL K H p xs /\ k = !xs.isEmpty) \/ (∃ xs, SqT K H p xs /\ k = !xs.isEmpty) \/ ∃ kvs, H p = some (.dK kvs) /\ k = !kvs.isEmpty
 | _ => False
theorem akO {κ : Type} {kvs : List (κ × V)} {vs : List (κ × Value)} (r : KV kvs vs) : (!vs.isEmpty) = !kvs.isEmpty := by
 cases r <;> rfl
theorem agK {xs : List V} {its : List Value} (r : Vals xs its) : (!its.toArray.isEmpty) = !xs.isEmpty := by
 cases r <;> simp
theorem afV : (sizeLine : Nat) < 2 ^ 63 := by rw [sizeLine_eq]; decide
theorem arH : axu X (λx H Q => ∃ k, aur X.K x H k /\ Q k H) := by
 intro pins s σ H x v Q I rx h
 obtain ⟨k, e, q⟩ := h
 have hl := afV
 have hs : sizeLine = 16777216 := sizeLine_eq
 cases x with
 | non =>
  cases rx
  have e' : k = false := e
  subst e'
  exact truthy_none ⟨H, I, q⟩
 | bl b =>
  cases rx
  have e' : k = b := e
  subst e'
  exact wpAny_truthy_bool ⟨H, I, q⟩
 | int i =>
  obtain ⟨t, rfl⟩ := rx
  have e' : k = (i != 0) := e
  subst e'
  exact PySem.P.truthy_int ⟨H, I, q⟩
 | str y =>
  obtain ⟨t, rfl⟩ := rx
  obtain ⟨hy, e'⟩ : y.length <= sizeLine /\ k = ((y.length : Int) != 0) := e
  subst e'
  exact PySem.P.truthy_str (by omega) ⟨H, I.tok _, q⟩
 | byt y =>
  obtain ⟨t, rfl⟩ := rx
  obtain ⟨hy, e'⟩ : y.size <= sizeLine /\ k = ((y.size : Int) != 0) := e
  subst e'
  exact PySem.W.truthy_bytes (by omega) ⟨H, I.tok _, q⟩
 | ref p =>
  cases rx
  have e' : (∃ xs, SqL X.K H p xs /\ k = !xs.isEmpty) \/ (∃ xs, SqT X.K H p xs /\ k = !xs.isEmpty) \/ ∃ kvs, H p = some (.dK kvs) /\ k = !kvs.isEmpty := e
  rcases e' with ⟨xs, hx, e'⟩ | ⟨xs, hx, e'⟩ | ⟨kvs, hx, e'⟩
  ·subst e'
   obtain ⟨its, r, pl, hz⟩ := I.list hx
   have hlen := r.length
   exact wpAny_truthy_list pl.isList (by simp only [List.size_toArray]; omega) ⟨H, I.tok _, by rw [agK r]; exact q⟩
  ·subst e'
   obtain ⟨its, r, pl, hz⟩ := I.tuple hx
   have hlen := r.length
   exact truthy_tuple pl (by simp only [List.size_toArray]; omega) ⟨H, I.tok _, by rw [agK r]; exact q⟩
  ·subst e'
   obtain ⟨hz, hS, vs, r, m⟩ : kvs.length <= sizeLine /\ (p == sysModules) = false /\ ∃ vs, KV kvs vs /\ s.heap.DictOf (aiU X.prog X.w) p vs := I.hok p _ hx
   have hlen : kvs.length = vs.length := Paired.length r
   exact wpAny_truthy_dict hS m (by omega) ⟨H, I.tok _, by rw [akO r]; exact q⟩
 | _ => exact (show False from e).elim
theorem abt (ha : PE X a ta) (he : ∀ whole, isTrue a X.env whole = (do let v <-whole; standAt a.pos; holding [v] (truthy v))) :
  PT X a (λσ H Q => ta σ H λx H' => ∃ k, aur X.K x H' k /\ Q k H') := by
 refine ⟨λpins s σ H Q I h => ?_⟩
 exact isTrue_plain (thn (ha pins s σ H _ I h) λv s1 ⟨x, H1, I1, r1, q1⟩ => arH pins s1 σ H1 x v Q I1 r1 q1) (he _)
theorem akP : OpR X (binaryOp .Add) (λx y H Q => ∃ i j, x = .str i /\ y = .str j /\ i.length + j.length <= sizeLine /\ Q (.str (i ++ j)) H) := by
 intro pins s σ H x y v u Q I rx ry h
 obtain ⟨i, j, rfl, rfl, hz, q⟩ := h
 obtain ⟨t, rfl⟩ := rx
 obtain ⟨t', rfl⟩ := ry
 exact add_str (λt' tk => ⟨.str (i ++ j), H, I.tok _, ⟨_, rfl⟩, q⟩) hz
theorem vals1 {x : V} {us : List Value} (r : Vals [x] us) : ∃ u, us = [u] /\ RelV x u := by
 cases r with
 | cons r1 r2 => cases r2; exact ⟨_, rfl, r1⟩
theorem vals2 {x y : V} {us : List Value} (r : Vals [x, y] us) : ∃ u w', us = [u, w'] /\ RelV x u /\ RelV y w' := by
 cases r with
 | cons r1 r2 =>
  cases r2 with
  | cons r3 r4 => cases r4; exact ⟨_, _, rfl, r1, r3⟩
theorem aj2 : acI X (.builtin "abs") (λxs H Q => ∃ i, xs = [.int i] /\ Q (.int (if i < 0 then -i else i)) H) := by
 intro pins s σ H xs us Q I r h
 obtain ⟨i, rfl, q⟩ := h
 obtain ⟨u, rfl, t, rfl⟩ := vals1 r
 exact call_abs_int λu tk => ⟨.int (if i < 0 then -i else i), H, I.tok _, ⟨_, rfl⟩, q⟩
theorem alP (hc : X.calm = true) : acI X (.builtin "max") (λxs H Q => ∃ i j, xs = [.int i, .int j] /\ Q (.int (if j > i then j else i)) H) := by
 intro pins s σ H xs us Q I r h
 obtain ⟨i, j, rfl, q⟩ := h
 obtain ⟨u, w', rfl, ⟨t, rfl⟩, ⟨t', rfl⟩⟩ := vals2 r
 refine max_two_ints (I.ok.hd hc) λh' tk k => ⟨_, H, I.kept k, ?_, q⟩
 by_cases hj : j > i
 ·rw [if_pos hj, if_pos hj]; exact ⟨_, rfl⟩
 ·rw [if_neg hj, if_neg hj]; exact ⟨_, rfl⟩
theorem alQ (hc : X.calm = true) : acI X (.builtin "min") (λxs H Q => ∃ i j, xs = [.int i, .int j] /\ Q (.int (if j < i then j else i)) H) := by
 intro pins s σ H xs us Q I r h
 obtain ⟨i, j, rfl, q⟩ := h
 obtain ⟨u, w', rfl, ⟨t, rfl⟩, ⟨t', rfl⟩⟩ := vals2 r
 refine min_two_ints (I.ok.hd hc) λh' tk k => ⟨_, H, I.kept k, ?_, q⟩
 by_cases hj : j < i
 ·rw [if_pos hj, if_pos hj]; exact ⟨_, rfl⟩
 ·rw [if_neg hj, if_neg hj]; exact ⟨_, rfl⟩
end
end L2
namespace L2
open PySem PySem.Spec PyProof.Rows
section
variable {prog : Program} {w : World} {A : Around} {E : Value -> Shared -> Prop} {s : Shared} {K : PySem.W.Frag} {x dx C f : Addr} {mA : Str -> Option Value} {name : Str} {v : Value}
end
section
variable {P : Program} {w : World} {H H' : Hp} {h h' : Heap} {a C dx : Addr} {fs fs' : List (Str × V)}
end
section
variable {X : Cx} {pins : List (Addr × Obj)} {σ : St} {H : Hp} {s : Shared} {a C dx : Addr} {fs : List (Str × V)} {f : Str} {v : V} {A : Around} {E : Value -> Shared -> Prop}
end
section
variable {X : Cx} {o e value : Expr} {f : Str} {pos pos' tpos : Pos} {ta tv : TE}
end
section
variable {X : Cx} {pins : List (Addr × Obj)} {σ : St} {H : Hp} {s : Shared} {A : Around} {E : Value -> Shared -> Prop} {Q : Value -> Shared -> Prop} {c : Value} {b : Bool}
end
end L2
namespace L2
open PySem PySem.Spec PyProof.Rows
structure aeZ (k : Nat) (A : Around) : Prop where
 hd : A.handled = none
 dp : A.depth + 3 * k + 5 < recursionLimit
 un : A.units + 16 * k + 200 < cLine
 gd : A.guards = some [] := by rfl
theorem aeZ.mono {j k : Nat} {A : Around} (r : aeZ k A) (h : j <= k) : aeZ j A := ⟨r.hd, by have := r.dp; omega, by have := r.un; omega, r.gd⟩
theorem aeZ.deeper {k : Nat} {A : Around} (r : aeZ (k + 1) A) (env : Env) : aeZ k (A.deeper env) :=
 ⟨r.hd, by have := r.dp; show A.depth + 1 + 3 * k + 5 < _; omega, by have := r.un; show A.units + 3 + 16 * k + 200 < _; omega, r.gd⟩
theorem aeZ.depth {k : Nat} {A : Around} (r : aeZ k A) : A.depth < recursionLimit := by have := r.dp; omega
theorem aeZ.units {k : Nat} {A : Around} (r : aeZ k A) : A.units + 64 < cLine := by have := r.un; omega
noncomputable def alR : TA := λ_ H Q => Q [] H
noncomputable def adh (ta : TE) (tr : TA) : TA := λσ H Q => ta σ H λx H1 => tr σ H1 λxs H2 => Q (x :: xs) H2
section
variable {X : Cx} {e : Expr} {es : List Expr} {te : TE} {t : TA} {pos : Pos}
theorem aal : PA X [] alR := ⟨λ_ _ _ _ H Q I h => Calls.spliced_nil ⟨[], H, I, .nil, h⟩⟩
theorem acL (ha : PE X e te) (hr : PA X es t) (hs : starEach (e :: es) X.env = (false, eval e X.env) :: starEach es X.env := by rfl) : PA X (e :: es) (adh te t) := by
 refine ⟨λpos pins s σ H Q I h => ?_⟩
 rw [hs]
 show wpAny _ _ (spliced ((false, eval e X.env) :: backTo pos (starEach es X.env))) _ _ s
 refine Calls.spliced_cons (thn (ha pins s σ H _ I h) λu s1 ⟨x, H1, I1, r1, q1⟩ => ?_)
 exact thn (hr pos pins s1 σ H1 _ I1 q1) λus s2 ⟨xs, H2, I2, r2, q2⟩ => ⟨x :: xs, H2, I2, .cons r1 r2, q2⟩
noncomputable def awH (t : TA) : TE := λσ H Q => t σ H λxs H1 => xs.length <= sizeLine /\ ∀ p, H1 p = none -> Q (.ref p) (upd H1 p (.tup xs))
noncomputable def awI (t : TA) : TE := λσ H Q => t σ H λxs H1 => xs.length <= sizeLine /\ ∀ p, H1 p = none -> Q (.ref p) (upd H1 p (.lst xs))
theorem alS {x1} (h : PA X es t) : PE X (.Tuple es x1 pos) (awH t) := by
 refine ⟨λpins s σ H Q I hq => ?_⟩
 refine wpAny_Tuple_spliced (thn (h pos pins s σ H _ I hq) λus s1 ⟨xs, H1, I1, r, z, q⟩ => ⟨by rw [<-r.length]; exact z, ?_⟩)
 have hf : H1 s1.heap.objs.size = none := I1.hok.fresh (Nat.le_refl _)
 refine ⟨.ref s1.heap.objs.size, upd H1 s1.heap.objs.size (.tup xs), I1.laid (t' := s1.toks) (λb u e => Heap.get?_push_of_some _ e) (Nat.le_refl _) ?_, rfl, q _ hf⟩
 exact ⟨z, us, r, ⟨_, Heap.get?_push_size _ rfl, rfl, _, rfl⟩⟩
theorem acH (h : PA X es t) : PE X (.List es pos) (awI t) := by
 refine ⟨λpins s σ H Q I hq => ?_⟩
 refine wpAny_List_spliced (thn (h pos pins s σ H _ I hq) λus s1 ⟨xs, H1, I1, r, z, q⟩ => ⟨by rw [<-r.length]; exact z, ?_⟩)
 have hf : H1 s1.heap.objs.size = none := I1.hok.fresh (Nat.le_refl _)
 refine ⟨.ref s1.heap.objs.size, upd H1 s1.heap.objs.size (.lst xs), I1.laid (t' := s1.toks) (λb u e => Heap.get?_push_of_some _ e) (Nat.le_refl _) ?_, rfl, q _ hf⟩
 exact ⟨z, us, 0, r, Heap.get?_push_size _ rfl⟩
end
noncomputable abbrev Sp := List V -> Hp -> VK -> XK -> Prop
noncomputable abbrev CXT := List Env -> Hp -> Shared -> XK -> Value -> Shared -> Prop
structure aus (P : Program) (w : World) (K : PySem.W.Frag) (mg : Str -> Option Value) (base : Heap) (A : Around) (outer : List Env) (s : Shared) (H : Hp) : Prop where
 frames : A.frames = some outer
 mod : Mod K mg base
 bs : ∀ b o, base.get? b = some o -> s.heap.get? b = some o /\ H b = none
 bsz : base.objs.size <= s.heap.objs.size
 akL : s.heap.FunFrames base outer
 frf : ∀ b ∈ frs outer, H b = none
 hok : HOk P w H s.heap
 bare : AllBare s.gens
noncomputable def CE (outer : List Env) (P : Program) (w : World) (H : Hp) (s : Shared) (Q : VK) (u : Value) (s' : Shared) : Prop :=
 ∃ v H', s'.os = s.os /\ AllBare s'.gens /\ Un (frs outer) [] H H' s.heap s'.heap /\ HOk P w H' s'.heap /\ RelV v u /\ Q v H'
noncomputable def CR (CX : CXT) (outer : List Env) (P : Program) (w : World) (H : Hp) (s : Shared) (Q : VK) (E : XK) (r : Result) (s' : Shared) : Prop :=
 match r with
 | .ok (.ret u) => CE outer P w H s Q u s'
 | .ok _ => False
 | .error e => CX outer H s E e s'
structure aj3 (P : Program) (w : World) (K : PySem.W.Frag) (mg : Str -> Option Value) (base : Heap) (CX : CXT) (k : Nat) (f : Addr) (fd : FuncData) (ps : List Str) (sp : Sp) : Prop where
 len : ∀ vs H Q E, sp vs H Q E -> vs.length = ps.length
 run : ∀ (A : Around) (outer : List Env) (s : Shared) (H : Hp) (args : Args) (us : List Value) (vs : List V) (Q : VK) (E : XK), aeZ k A -> aus P w K mg base A outer s H -> BindsTo s fd args (ps.zip us) -> Vals vs us -> sp vs H Q E ->
  codeAny (model P w) A (.call (.ref f) args) (CR CX outer P w H s Q E) s
theorem aj3.mono {P : Program} {w : World} {K : PySem.W.Frag} {mg : Str -> Option Value} {base : Heap} {CX : CXT} {j k : Nat} {f : Addr} {fd : FuncData} {ps : List Str} {sp : Sp} (F : aj3 P w K mg base CX j f fd ps sp) (h : j <= k) :
  aj3 P w K mg base CX k f fd ps sp := ⟨F.len, λA outer s H args us vs Q E hr => F.run A outer s H args us vs Q E (hr.mono h)⟩
theorem aj3.imp {P : Program} {w : World} {K : PySem.W.Frag} {mg : Str -> Option Value} {base : Heap} {CX : CXT} {k : Nat} {f : Addr} {fd : FuncData} {ps : List Str} {sp sp' : Sp} (F : aj3 P w K mg base CX k f fd ps sp)
  (h : ∀ vs H Q E, sp' vs H Q E -> sp vs H Q E) : aj3 P w K mg base CX k f fd ps sp' :=
 ⟨λvs H Q E q => F.len vs H Q E (h _ _ _ _ q), λA outer s H args us vs Q E hr he hb hv hs => F.run A outer s H args us vs Q E hr he hb hv (h _ _ _ _ hs)⟩
section
variable {X : Cx} {pins : List (Addr × Obj)} {σ : St} {H : Hp} {s s' : Shared}
theorem Inv.env0 (I : Inv X pins σ H s) : aus X.prog X.w X.K X.mg X.base X.A X.stack s H :=
 ⟨I.ok.frames, I.ok.mod, I.bs, Nat.le_trans I.ok.bsz I.sz, I.stack, I.aeX, I.hok, I.bare⟩
theorem Inv.after {Q : VK} {u : Value} (I : Inv X pins σ H s) (h : CE X.stack X.prog X.w H s Q u s') : EP X pins σ Q u s' := by
 obtain ⟨v, H', os, bare, un, hok, r, q⟩ := h
 obtain ⟨hh, g, d, t, os'⟩ := s'
 obtain rfl : os' = s.os := os
 exact ⟨v, H', I.call (h' := hh) (g' := g) (d' := d) (t' := t) (ch := []) un hok bare (λb z => absurd z (by simp)), r, q⟩
end
noncomputable def ahN (sp : Sp) (dvs : List V) (E : XK) (t : TA) : TE := λσ H Q => t σ H λvs H1 => sp (vs ++ dvs) H1 Q E
noncomputable def Binds (K : PySem.W.Frag) (fd : FuncData) (ps : List Str) (ds : List Value) : Prop :=
 ∀ (s : Shared) (us : List Value), K.In s.heap -> (us ++ ds).length = ps.length -> BindsTo s fd ⟨us, []⟩ (ps.zip (us ++ ds))
theorem Binds.all {K : PySem.W.Frag} {fd : FuncData} {ps : List Str} (h : ∀ us : List Value, us.length = ps.length -> bindArgs fd ⟨us, []⟩ = pure (ps.zip us)) : Binds K fd ps [] := λs us _ hl => by
 rw [List.append_nil] at hl ⊢
 exact .of_eq (h us hl)
noncomputable def Passes (CX : CXT) (X : Cx) (E : XK) : Prop := ∀ (pins : List (Addr × Obj)) (σ : St) (H : Hp) (s : Shared) (e : Value) (s' : Shared), Inv X pins σ H s -> CX X.stack H s E e s' -> X.xe e s'
section
variable {X : Cx} {CX : CXT} {k : Nat} {f C : Addr} {fd : FuncData} {ps : List Str} {sp : Sp} {dvs : List V} {ds : List Value} {E : XK} {x m : Str} {p pos apos : Pos} {e o : Expr} {es : List Expr} {ta : TE} {t : TA}
theorem arI {pins : List (Addr × Obj)} {σ : St} {H : Hp} {s : Shared} {Q : VK} {us : List Value} {vs : List V} (F : aj3 X.prog X.w X.K X.mg X.base CX k f fd ps sp) (hr : aeZ k X.A) (hb : Binds X.K fd ps ds) (hd : Vals dvs ds) (hx : Passes CX X E)
  (I : Inv X pins σ H s) (r : Vals vs us) (h : sp (vs ++ dvs) H Q E) : wpAny (model X.prog X.w) X.A (call (.ref f) us) (EP X pins σ Q) X.xe s := by
 have r2 : Vals (vs ++ dvs) (us ++ ds) := r.append hd
 have hl : (us ++ ds).length = ps.length := by rw [<-r2.length]; exact F.len _ _ _ _ h
 refine wpAny_call (codeAny_mono (F.run X.A X.stack s H ⟨us, []⟩ (us ++ ds) (vs ++ dvs) Q E hr I.env0 (hb s us I.kIn hl) r2 h) λr s' hq => ?_)
 cases r with
 | error e => exact hx pins σ H s e s' I hq
 | ok fl =>
  cases fl with
  | ret u => exact I.after hq
  | next => exact False.elim hq
  | brk => exact False.elim hq
  | cont => exact False.elim hq
theorem apE (F : aj3 X.prog X.w X.K X.mg X.base CX k f fd ps sp) (hr : aeZ k X.A) (hg : Gl X x) (hm : X.mg x = some (.ref f)) (hk : PySem.W.keepIn X.K (.ref f) = true) (hb : Binds X.K fd ps ds) (hd : Vals dvs ds) (hx : Passes CX X E)
  (ha : PA X (e :: es) t) (hdb : (x == ("__debug__" : Str)) = false := by decide) (he : starEach (e :: es) X.env = (false, eval e X.env) :: starEach es X.env := by rfl) (hpl : (backTo pos (starEach es X.env)).any (·.1) = false := by rfl) :
  PE X (.Call (.Name x p) (e :: es) [] pos) (ahN sp dvs E t) := by
 refine ⟨λpins s σ H Q I h => ?_⟩
 refine wpAny_Call_Name_kw (afT I hg hm ?_ hdb)
 refine PySem.W.callWith_K (h₀ := X.base) I.ok.mod.kin hk (thn (ha pos pins s σ H _ I h) λus s1 ⟨vs, H1, I1, r, q⟩ => ⟨I1.kIn, ?_⟩) he hpl
 exact arI F hr hb hd hx I1 r q
end
section
variable {X : Cx} {CX : CXT} {k : Nat} {f C : Addr} {fd : FuncData} {ps ks : List Str} {sp : Sp} {E : XK} {x m : Str} {p pos apos kpos : Pos} {e o : Expr} {es : List Expr} {kws : List Keyword} {te ta : TE} {t tk : TA} {nm : Option Str}
variable {g : List Value -> List Value -> List Value} {gV : List V -> List V -> List V}
end
structure aaR (N P : List Str) (sc : Scope) : Prop where
 kind : sc.kind = .function
 co : sc.isCoroutine = false
 gen : sc.isGenerator = false
 nd : N.Nodup
 pre : N.take P.length = P
 par : ∀ x ∈ P, sc.names.lookup x = some .local \/ sc.names.lookup x = some .cell
 arJ : ∀ y ∈ sc.names, y.2 ≠ .free
theorem ahO {kindOf : Str -> Option NameKind} {x : Str} : ∀ {binds : List (Str × Value)} {m : Str -> Option Value}, (∀ v, (x, v) ∉ binds) -> bindL kindOf binds m x = m x
 | [], _, _ => rfl
 | (n, v) :: r, m, h => by
  unfold bindL
  rw [ahO λw hw => h w (List.mem_cons_of_mem _ hw)]
  split
  ·have : x ≠ n := by rintro rfl; exact h v List.mem_cons_self
   simp [this]
  ·rfl
theorem ahP {kindOf : Str -> Option NameKind} {x : Str} : ∀ {binds : List (Str × Value)} {m : Str -> Option Value}, (∀ v, (x, v) ∉ binds) -> bindC kindOf binds m x = m x
 | [], _, _ => rfl
 | (n, v) :: r, m, h => by
  unfold bindC
  rw [ahP λw hw => h w (List.mem_cons_of_mem _ hw)]
  split
  ·rfl
  ·have : x ≠ n := by rintro rfl; exact h v List.mem_cons_self
   simp [this]
theorem ahQ {kindOf : Str -> Option NameKind} {x : Str} {v : Value} : ∀ {P : List Str} {vs : List Value} {i : Nat} {m : Str -> Option Value}, P.Nodup -> P[i]? = some x -> vs[i]? = some v -> kindOf x = some .local ->
  bindL kindOf (P.zip vs) m x = some v
 | [], _, _, _, _, h, _, _ => by simp at h
 | _ :: _, [], _, _, _, _, h, _ => by simp at h
 | p :: P, w :: vs, 0, m, nd, h1, h2, hk => by
  simp at h1 h2; subst h1; subst h2
  show bindL kindOf ((p, w) :: P.zip vs) m p = _
  unfold bindL
  rw [ahO λv hv => (List.nodup_cons.mp nd).1 (List.of_mem_zip hv).1, if_pos hk]
  simp
 | p :: P, w :: vs, i + 1, m, nd, h1, h2, hk => by
  show bindL kindOf ((p, w) :: P.zip vs) m x = _
  unfold bindL
  exact ahQ (i := i) (List.nodup_cons.mp nd).2 (by simpa using h1) (by simpa using h2) hk
theorem ahR {kindOf : Str -> Option NameKind} {x : Str} {v : Value} : ∀ {P : List Str} {vs : List Value} {i : Nat} {m : Str -> Option Value}, P.Nodup -> P[i]? = some x -> vs[i]? = some v -> kindOf x ≠ some .local ->
  bindC kindOf (P.zip vs) m x = some v
 | [], _, _, _, _, h, _, _ => by simp at h
 | _ :: _, [], _, _, _, _, h, _ => by simp at h
 | p :: P, w :: vs, 0, m, nd, h1, h2, hk => by
  simp at h1 h2; subst h1; subst h2
  show bindC kindOf ((p, w) :: P.zip vs) m p = _
  unfold bindC
  rw [ahP λv hv => (List.nodup_cons.mp nd).1 (List.of_mem_zip hv).1, if_neg hk]
  simp
 | p :: P, w :: vs, i + 1, m, nd, h1, h2, hk => by
  show bindC kindOf ((p, w) :: P.zip vs) m x = _
  unfold bindC
  exact ahR (i := i) (List.nodup_cons.mp nd).2 (by simpa using h1) (by simpa using h2) hk
noncomputable def start (N : List Str) (vs : List V) : St := vs.map some ++ List.replicate (N.length - vs.length) none
noncomputable def aj4 (CX : CXT) (P : Program) (w : World) (K : PySem.W.Frag) (mg : Str -> Option Value) (base : Heap) (N : List Str) (qual : Str) (scope : Scope) (f : Addr) (cd : Value) (A : Around) (outer : List Env) (s : Shared) (H : Hp) (E : XK) : Cx where
 prog := P
 w := w
 K := K
 mg := mg
 base := base
 A := A.deeper (envOfC qual scope s.heap.objs.size f cd)
 N := N
 s₀ := s
 H₀ := H
 env := envOfC qual scope s.heap.objs.size f cd
 outer := outer
 stack := envOfC qual scope s.heap.objs.size f cd :: outer
 ex := []
 calm := true
 fn := λ_ => true
 pn := []
 xe := λe s' => wpAny (model P w) (A.deeper (envOfC qual scope s.heap.objs.size f cd)) (leaving (envOfC qual scope s.heap.objs.size f cd) e) (λ_ s'' => CX outer H s E e s'') (λe' s'' => CX outer H s E e' s'') s'
theorem aj5 {sc : Scope} {n : Nat} {x : Str} (h : sc.names.lookup x = some .cell) : ∃ c, (cellsFrom n sc.names []).lookup x = some c := by
 have q := PySem.W.cellsFrom_some sc.names n [] (.inl h)
 exact Option.isSome_iff_exists.mp q
theorem alT {CX : CXT} {P : Program} {w : World} {K : PySem.W.Frag} {mg : Str -> Option Value} {base : Heap} {N ps : List Str} {qual : Str} {scope : Scope} {f : Addr} {cd : Value} {A : Around} {outer : List Env} {s s1 : Shared} {H : Hp} {E : XK} {us : List Value} {vs : List V}
  (S : aaR N ps scope) (hd : A.handled = none) (e0 : aus P w K mg base A outer s H) (hl : vs.length = ps.length) (r : Vals vs us)
  (x : InCallC s s.heap.objs.size (bindL (envOfC qual scope s.heap.objs.size f cd).kindOf (ps.zip us) λ_ => none) (cellsFrom (s.heap.objs.size + 1) scope.names []) (bindC (envOfC qual scope s.heap.objs.size f cd).kindOf (ps.zip us) λ_ => none) s1) :
  Inv (aj4 CX P w K mg base N qual scope f cd A outer s H E) [] (start N vs) H s1 := by
 have hpl : ps.length <= N.length := by have := congrArg List.length S.pre; rw [List.length_take] at this; omega
 obtain ⟨h1, tk, rfl, hk⟩ := x.done
 have noA : ∀ b : Addr, b ∉ (aj4 CX P w K mg base N qual scope f cd A outer s H E).ex := λb z => absurd (show b ∈ ([] : List Addr) from z) (by simp)
 refine ⟨⟨e0.mod, S.kind, rfl, rfl, Nat.le_refl _, λy z c h1 h2 => ?_, λy hy => ?_, λy c _ h => ?_, λ_ => hd, Around.frames_deeper e0.frames, .inr ⟨rfl, rfl⟩, λb z => absurd z (noA b), e0.bs, e0.bsz, λb _ _ => noA b, λb z => absurd z (noA b), e0.akL, e0.frf⟩,
  rfl, e0.bare, Un.kept hk, ⟨_, x.toInCall.ns, λi y v h1 h2 h3 => ?_⟩, λy c h => ⟨_, x.cell y c h⟩, e0.hok.fresh (Nat.le_refl _), λy c h => ?_, λp hp => absurd (show p ∈ ([] : List (Addr × Obj)) from hp) (by simp), e0.hok.kept hk, ?_⟩
 ·exact name_of_addr x.apart (PySem.mem_of_lookup h1) (PySem.mem_of_lookup h2)
 ·have hy : scope.names.lookup y = some .cell \/ scope.names.lookup y = some .free := hy
  rcases hy with hy | hy
  ·exact aj5 hy
  ·exact absurd rfl (S.arJ _ (PySem.mem_of_lookup hy))
 ·exact Nat.le_of_lt (x.above y c (PySem.mem_of_lookup h))
 ·have hi : i < vs.length := by
   unfold start at h2
   by_cases hi : i < vs.length
   ·exact hi
   ·rw [List.getElem?_append_right (by simpa using hi)] at h2
    rw [List.getElem?_replicate] at h2
    split at h2 <;> cases h2
  have ha : vs[i]? = some v := by
   unfold start at h2
   rw [List.getElem?_append_left (by simpa using hi), List.getElem?_map] at h2
   cases e : vs[i]? with
   | none => rw [e] at h2; cases h2
   | some a => rw [e] at h2; cases h2; rfl
  obtain ⟨u, hu, rv⟩ := r.get ha
  have hp : ps[i]? = some y := by
   rw [<-S.pre, List.getElem?_take_of_lt (by omega)]; exact h1
  have ndP : ps.Nodup := by rw [<-S.pre]; exact S.nd.sublist (List.take_sublist _ _)
  refine ⟨u, rv, ?_⟩
  rcases S.par y (List.mem_of_getElem? hp) with k | k
  ·exact .inl ⟨k, ahQ ndP hp hu k⟩
  ·obtain ⟨c, e⟩ := aj5 (n := s.heap.objs.size + 1) k
   refine .inr ⟨.inl k, c, e, ?_⟩
   have q := x.cell y c e
   rw [ahR ndP hp hu (by show scope.names.lookup y ≠ _; rw [k]; decide)] at q
   exact q
 ·exact e0.hok.fresh (Nat.le_of_lt (x.above y c (PySem.mem_of_lookup h)))
 ·unfold start
  show _ = N.length
  rw [List.length_append, List.length_map, List.length_replicate]
  omega
theorem arK {CX : CXT} {P : Program} {w : World} {K : PySem.W.Frag} {mg : Str -> Option Value} {base : Heap} {k : Nat} {f : Addr} {name qual : Str} {params : Arguments} {body : List Stmt} {scope : Scope} {dV kV doc pm cdv ct oc : Value} {an od : Option Addr}
  {osl : Array (Option Value)} {N ps : List Str} {sp : Sp} (lk : K.lookup f = some ⟨oc, od, .func (PySem.W.fnOf name qual params body scope dV kV doc pm an cdv ct), osl⟩) (hcd : PySem.W.codeIn K cdv qual = true) (S : aaR N ps scope)
  (len : ∀ vs H Q E, sp vs H Q E -> vs.length = ps.length)
  (hbody : ∀ (A : Around) (outer : List Env) (s : Shared) (H : Hp) (vs : List V) (Q : VK) (E : XK), aeZ k (A.deeper (envOfC qual scope s.heap.objs.size f cdv)) -> sp vs H Q E ->
   ∃ t, PSs (aj4 CX P w K mg base N qual scope f cdv A outer s H E) body t /\ t { nx := λ_ H' => Q .non H', rt := Q } (start N vs) H) :
  aj3 P w K mg base CX (k + 1) f (PySem.W.fnOf name qual params body scope dV kV doc pm an cdv ct) ps sp := by
 refine ⟨len, λA outer s H args us vs Q E hr e0 hb r hsp => ?_⟩
 have hl := len _ _ _ _ hsp
 have KX : K.In s.heap := e0.mod.kin.keeps λb o e => (e0.bs b o e).1
 have lim : s.heap.NoLimit := e0.mod.nolimit.keeps λb o e => (e0.bs b o e).1
 have hkind : ∀ y ∈ ps.zip us, scope.names.lookup y.1 = some .local \/ (scope.names.lookup y.1 = some .cell /\ ((cellsFrom (s.heap.objs.size + 1) scope.names []).lookup y.1).isSome = true) := λ⟨n, v⟩ hy => by
  rcases S.par n (List.of_mem_zip hy).1 with q | q
  ·exact .inl q
  ·exact .inr ⟨q, PySem.W.cellsFrom_some _ _ _ (.inl q)⟩
 refine codeAny_call_function hr.depth (KX _ _ lk) rfl S.co S.gen rfl (PySem.W.codeRec_of KX hcd) (hb _ _ _ _ ?_)
 refine wpAny_newFunctionEnv_cells S.kind hkind λenv he s1 x => ?_
 subst he
 refine ⟨lim.keeps x.toInCall.keep, codeAny_func ?_⟩
 obtain ⟨t, ht, hq⟩ := hbody A outer s H vs Q E (hr.deeper _) hsp
 have I : Inv (aj4 CX P w K mg base N qual scope f cdv A outer s H E) [] (start N vs) H s1 := alT S hr.hd e0 hl r x
 refine wpAny_mono (ht [] s1 (start N vs) H _ I hq) (λfl s' hs => ?_) λe s' hs => hs
 have fin : ∀ {σ' : St} {H' : Hp} {v : V} {u : Value}, Inv (aj4 CX P w K mg base N qual scope f cdv A outer s H E) [] σ' H' s' -> RelV v u -> Q v H' -> CE outer P w H s Q u s' :=
  λ{σ' H' v u} J rv q => ⟨v, H', J.os, J.bare, J.base, J.hok, rv, q⟩
 cases fl with
 | ret u =>
  obtain ⟨v, σ', H', J, rv, q⟩ := hs
  exact fin J rv q
 | next =>
  obtain ⟨σ', H', J, q⟩ := hs
  exact fin (v := V.non) (u := Value.none) J rfl q
 | brk =>
  obtain ⟨_, _, _, q⟩ := hs
  exact False.elim q
 | cont =>
  obtain ⟨_, _, _, q⟩ := hs
  exact False.elim q
end L2
namespace L2
open PySem PySem.Spec PyProof.Rows
section
variable {X : Cx} {x : Str} {p pos : Pos} {e : Expr} {es : List Expr} {t : TA} {id T : String} {r : List V -> Hp -> VK -> Prop}
noncomputable def tCB (r : List V -> Hp -> VK -> Prop) (t : TA) : TE := λσ H Q => t σ H λvs H1 => r vs H1 Q
theorem afH (hc : acI X (.builtin id) r) (hg : Gl X x) (hm : X.mg x = none) (hv : bootBuiltins x = some (.builtin id)) (ha : PA X (e :: es) t) (hn : x ≠ "__name__" := by decide) (hdb : (x == ("__debug__" : Str)) = false := by decide)
  (he : starEach (e :: es) X.env = (false, eval e X.env) :: starEach es X.env := by rfl) (hpl : (backTo pos (starEach es X.env)).any (·.1) = false := by rfl) : PE X (.Call (.Name x p) (e :: es) [] pos) (tCB r t) := by
 refine ⟨λpins s σ H Q I h => ?_⟩
 refine wpAny_Call_Name_kw (agJ I hg hm hv ?_ hn hdb)
 exact PyProof.Rows.callWith_builtin1 (thn (ha pos pins s σ H _ I h) λus s1 ⟨vs, H1, I1, r1, q1⟩ => hc pins s1 σ H1 vs us Q I1 r1 q1) he hpl
theorem alU (hc : acI X (.type T) r) (hg : Gl X x) (hm : X.mg x = none) (hv : bootBuiltins x = some (.type T)) (ha : PA X (e :: es) t) (hn : x ≠ "__name__" := by decide) (hdb : (x == ("__debug__" : Str)) = false := by decide)
  (he : starEach (e :: es) X.env = (false, eval e X.env) :: starEach es X.env := by rfl) (hpl : (backTo pos (starEach es X.env)).any (·.1) = false := by rfl) : PE X (.Call (.Name x p) (e :: es) [] pos) (tCB r t) := by
 refine ⟨λpins s σ H Q I h => ?_⟩
 refine wpAny_Call_Name_kw (agJ I hg hm hv ?_ hn hdb)
 exact PyProof.Rows.callWith_type1 (thn (ha pos pins s σ H _ I h) λus s1 ⟨vs, H1, I1, r1, q1⟩ => hc pins s1 σ H1 vs us Q I1 r1 q1) he hpl
end
end L2
namespace HT
open PySem PyProof.Rows
noncomputable def lexLt : List Int -> List Int -> Bool
 | [], [] => false
 | [], _ :: _ => true
 | _ :: _, [] => false
 | x :: xs, y :: ys => if x = y then lexLt xs ys else decide (x < y)
theorem akQ (x y : Int) (xs ys : List Int) : lexLt (x :: xs) (y :: ys) = if x = y then lexLt xs ys else decide (x < y) := rfl
theorem ag4 : lexLt [] [] = false := rfl
theorem agC (y : Int) (ys : List Int) : lexLt [] (y :: ys) = true := rfl
theorem agD (x : Int) (xs : List Int) : lexLt (x :: xs) [] = false := rfl
theorem anz (A : Around) (s : Shared) (a : Int) (t : Tok) (c : Int) (u : Tok) : ∃ e, SeqAt.EqAt A s (.int a t) (.int c u) e /\ (e = true ↔ a = c) :=
 ⟨(a == c), SeqAt.EqAt.int_int a t c u, by simp⟩
theorem anA (A : Around) (s : Shared) (a : Int) (t : Tok) (c : Int) (u : Tok) (prog : Program) (w : World) (E : Value -> Shared -> Prop) (Q : Value -> Shared -> Prop) (h : Q (.bool (decide (a < c))) s) :
  wpAny (model prog w) A (richCompare .Lt (.int a t) (.int c u)) Q E s :=
 (PyProof.Rows.lt_int h : wpAny (model prog w) A (compareOp .Lt (.int a t) (.int c u)) Q E s)
section
open PySem.SeqAt
open PySem.AutoSeq1 (wpAny_loadPart')
open PySem.MeetsSeq PySem.MeetsSeq2 PySem.MeetsSeq3
theorem ag5 (l b : Addr) (items items2 : Array Value) (n n2 : Nat) (dd dd2 : Option Addr) (sl sl2 : Array (Option Value)) (ns ms : List Int) (hi : IntsAre items.toList ns) (hj : IntsAre items2.toList ms) :
  Meets (Builtin.«tuple.__lt__» ⟨[.ref l, .ref b], []⟩)
   (λ_ R s => s.heap.get? l = some { cls := .type "tuple", dict := dd, data := .seq items n, slots := sl } ∧ s.heap.get? b = some { cls := .type "tuple", dict := dd2, data := .seq items2 n2, slots := sl2 } ∧
    R (.ok (.ret (.bool (lexLt ns ms)))) s) :=
 .of_wp λprog w A R s h => by
  obtain ⟨hp, g, d, tk, os⟩ := s; obtain ⟨hl, hb, h⟩ := h
  have f2 := AutoSeq1.sub_tuple_tuple
  have z1 : items.size = ns.length := by rw [<-hi.length]; simp
  have z2 : items2.size = ms.length := by rw [<-hj.length]; simp
  wp_walk using wpAny_loadPart' hl, wpAny_loadPart' hb, wpAny_forIn_list _ (λrest b s' => b.1 = none /\ s' = ⟨hp, g, d, tk, os⟩ /\ ∃ (vs ws : List Value) (ns' ms' : List Int), rest = vs.zip ws /\
   IntsAre vs ns' /\ IntsAre ws ms' /\ ns'.length + items2.size = ms'.length + items.size /\ R (.ok (.ret (.bool (lexLt ns' ms')))) ⟨hp, g, d, tk, os⟩) _
  case turn =>
   rintro ⟨y, x⟩ rest b s' ⟨hb', rfl, vs, ws, ns', ms', hz, hvi, hwi, hlen, hR⟩
   cases hvi with
   | nil => rw [List.zip_nil_left] at hz; cases hz
   | cons a t axv =>
    cases hwi with
    | nil => rw [List.zip_nil_right] at hz; cases hz
    | cons c u axw =>
     rw [List.zip_cons_cons] at hz
     injection hz with hyx hrest
     injection hyx with hy hx
     subst hy hx
     rw [akQ] at hR
     simp only [List.length_cons] at hlen
     obtain ⟨e, he, hiff⟩ := anz A.in1 ⟨hp, g, d, tk, os⟩ a t c u
     refine wpAny_bind (he prog w _ _ ?_)
     cases e with
     | true =>
      rw [if_pos (hiff.mp rfl)] at hR
      wp_walk
      exact ⟨rfl, rfl, _, _, _, _, hrest, axv, axw, by omega, hR⟩
     | false =>
      rw [if_neg (λq => absurd (hiff.mpr q) Bool.false_ne_true)] at hR
      have hri := anA A.in1 ⟨hp, g, d, tk, os⟩ a t c u prog w
      wp_walk using hri
      exact ⟨_, rfl, by simpa using hR⟩
  case fin =>
   rintro ⟨b1, b2⟩ s' ⟨hb', rfl, vs, ws, ns', ms', hz, hvi, hwi, hlen, hR⟩
   simp only at hb'
   subst hb'
   have hv : lexLt ns' ms' = decide (items.size < items2.size) := by
    cases hvi with
    | nil =>
     cases hwi with
     | nil =>
      simp only [List.length_nil] at hlen
      rw [ag4]
      exact (decide_eq_false (by omega)).symm
     | cons c u hw =>
      simp only [List.length_nil, List.length_cons] at hlen
      rw [agC]
      exact (decide_eq_true (by omega)).symm
    | cons a t hv =>
     cases hwi with
     | nil =>
      simp only [List.length_nil, List.length_cons] at hlen
      rw [agD]
      exact (decide_eq_false (by omega)).symm
     | cons c u hw =>
      rw [List.zip_cons_cons] at hz
      cases hz
   rw [hv] at hR
   wp_walk
   exact ⟨_, rfl, by simpa [Builtin.Tuple.tupleCompareSizes] using hR⟩
  case h =>
   exact ⟨rfl, rfl, items.toList, items2.toList, ns, ms, rfl, hi, hj, by omega, h⟩
end
section
variable {prog : Program} {w : World} {A : Around} {E : Value -> Shared -> Prop} {s : Shared}
theorem akR {l b : Addr} {items items2 : Array Value} {ns ms : List Int} {Q : Value -> Shared -> Prop} (hl : IsTup s.heap l items) (hb : IsTup s.heap b items2) (hi : IntsAre items.toList ns) (hj : IntsAre items2.toList ms)
  (hu : A.units < cLine) (h : Q (.bool (lexLt ns ms)) s) : wpAny (model prog w) A (compareOp .Lt (.ref l) (.ref b)) Q E s := by
 obtain ⟨⟨cls, dd, data, sl⟩, ho, hc, n, hd⟩ := id hl
 obtain ⟨⟨cls2, dd2, data2, sl2⟩, ho2, hc2, n2, hd2⟩ := id hb
 simp only at hc hd hc2 hd2
 subst hc hd hc2 hd2
 exact richCompare_meets_room (op := .Lt) ⟨_, ho, rfl⟩ ⟨_, ho2, rfl⟩ PySem.F.slot_tuple_lt PySem.F.entry_tuple_lt (PySem.F.args_tuple_lt_2 _ _) (ag5 l b items items2 n n2 dd dd2 sl sl2 ns ms hi hj)
  ⟨ho, ho2, show Value.bool (lexLt ns ms) ≠ Value.notImplemented /\ Q (.bool (lexLt ns ms)) s from ⟨(λx => nomatch x), h⟩⟩ hu
theorem apF {t b : Addr} {vs ws : List Value} {Q : Value -> Shared -> Prop} (ht : IsTup s.heap t vs.toArray) (hb : IsTup s.heap b ws.toArray) (hv : vs ≠ [])
  (h1 : ws = [] -> Q (.ref t) s) (h2 : ws ≠ [] -> Q (.ref s.heap.objs.size) { s with heap := s.heap.push { cls := .type "tuple", data := .seq (vs ++ ws).toArray } })
  (hsz : vs.length + ws.length <= sizeLine) : wpAny (model prog w) A (binaryOp .Add (.ref t) (.ref b)) Q E s := by
 obtain ⟨⟨cls, dd, data, sl⟩, ho, hc, n, hd⟩ := id ht
 obtain ⟨⟨cls2, dd2, data2, sl2⟩, ho2, hc2, n2, hd2⟩ := id hb
 simp only at hc hd hc2 hd2
 subst hc hd hc2 hd2
 have e : vs.toArray ++ ws.toArray = (vs ++ ws).toArray := by simp
 by_cases hw : ws = []
 ·exact concat_meets ⟨_, ho, rfl⟩ ⟨_, ho2, rfl⟩ noFill_tuple_add seq_tuple_add PySem.F.slot_tuple_add PySem.F.entry_tuple_add (PySem.F.args_tuple_add_2 _ _)
   (tuple_addW1 t b vs.toArray ws.toArray n n2 dd dd2 sl sl2 (by simpa using hv) (by simp [hw])) ⟨ho, ho2, h1 hw⟩
 ·refine concat_meets ⟨_, ho, rfl⟩ ⟨_, ho2, rfl⟩ noFill_tuple_add seq_tuple_add PySem.F.slot_tuple_add PySem.F.entry_tuple_add (PySem.F.args_tuple_add_2 _ _)
   (tuple_addW2 t b vs.toArray ws.toArray n n2 dd dd2 sl sl2 (by simpa using hv) (by simpa using hw) (by rw [List.size_toArray, List.size_toArray]; exact hsz)) ⟨ho, ho2, ?_⟩
  rw [e]
  exact h2 hw
noncomputable def sIx (n d : Nat) : Option Int -> Nat
 | none => d
 | some v => if v < 0 then (v + (n : Int)).toNat else min v.toNat n
theorem arL (n d : Nat) (hd : d <= n) (o : Option Int) : sIx n d o <= n := by
 cases o with
 | none => exact hd
 | some v =>
  show (if v < 0 then (v + (n : Int)).toNat else min v.toNat n) <= n
  by_cases hv : v < 0
  ·rw [if_pos hv]; omega
  ·rw [if_neg hv]; exact Nat.min_le_right _ _
theorem alV (v : Int) (n d : Nat) : (if v < 0 then max (v + (n : Int)) 0 else min v (n : Int)) = ((sIx n d (some v) : Nat) : Int) := by
 show (if v < 0 then max (v + (n : Int)) 0 else min v (n : Int)) = (((if v < 0 then (v + (n : Int)).toNat else min v.toNat n) : Nat) : Int)
 by_cases hv : v < 0
 ·simp only [if_pos hv]; omega
 ·simp only [if_neg hv]; omega
theorem akS (lo hi : Option Int) (n : Nat) : Builtin.Slice.sliceAdjust lo hi 1 (n : Int) = (((sIx n 0 lo : Nat) : Int), ((sIx n n hi : Nat) : Int)) := by
 have h1 : ¬ ((1 : Int) < 0) := by omega
 unfold Builtin.Slice.sliceAdjust
 simp only [h1, if_false]
 refine Prod.ext ?_ ?_
 ·cases lo with
  | none => rfl
  | some v => exact alV v n 0
 ·cases hi with
  | none => rfl
  | some v => exact alV v n n
theorem akT (i j : Nat) : Builtin.Slice.slicePlaces (i : Int) (j : Int) 1 = j - i := by
 unfold Builtin.Slice.slicePlaces
 have h1 : (1 : Int) > 0 := by omega
 simp only [h1, if_true, Int.ediv_one]
 split <;> omega
theorem agL {v : Value} {o : Option Int} {Q : Option Int -> Shared -> Prop} (p : IsPart v o) (h : Q o s) : wpAny (model prog w) A (Builtin.Slice.slicePartIndex v) Q E s := by
 cases p with
 | none => exact slicePart_none h
 | int i t => exact slicePart_int h
theorem afs {sl : Addr} {vl vu : Value} {lo hi : Option Int} {n : Nat} {Q : Int × Int × Nat -> Shared -> Prop} (hs : s.heap.IsSliceOf sl vl vu .none) (pl : IsPart vl lo) (pu : IsPart vu hi)
  (h : Q (((sIx n 0 lo : Nat) : Int), 1, sIx n n hi - sIx n 0 lo) s) : wpAny (model prog w) A (Builtin.Slice.sliceApplied (.ref sl) (pure (n : Int))) Q E s := by
 obtain ⟨os, hos, hcs, hds⟩ := id hs
 unfold Builtin.Slice.sliceApplied Builtin.Slice.sliceFields
 refine wpAny_bind (wpAny_bind (wpAny_field hos hds (x := vl) rfl (wpAny_bind (wpAny_field hos hds (x := vu) rfl (wpAny_bind (wpAny_field hos hds (x := .none) rfl (wpAny_pure ?_)))))))
 refine wpAny_bind (slicePart_none ?_)
 show wpAny _ _ (if ((1 : Int) == 0) = true then _ else _) _ _ s
 rw [if_neg (by decide)]
 refine wpAny_bind (agL pl (wpAny_bind (agL pu (wpAny_bind (wpAny_pure ?_)))))
 show wpAny _ _ (match Builtin.Slice.sliceAdjust lo hi 1 (n : Int) with | (lo, hi) => pure (lo, (1 : Int), Builtin.Slice.slicePlaces lo hi 1)) _ _ s
 rw [akS lo hi n]
 show wpAny _ _ (pure (((sIx n 0 lo : Nat) : Int), (1 : Int), Builtin.Slice.slicePlaces ((sIx n 0 lo : Nat) : Int) ((sIx n n hi : Nat) : Int) 1)) _ _ s
 rw [akT]
 exact wpAny_pure h
theorem anB (xs : Array Value) (i k : Nat) : ((List.range k).filterMap λ(m : Nat) => xs[((i : Int) + (m : Int) * 1).toNat]?).toArray = ((xs.toList.drop i).take k).toArray := by
 have e : (λ(m : Nat) => xs[((i : Int) + (m : Int) * 1).toNat]?) = λm => xs[i + m]? := by
  funext m
  have : ((i : Int) + (m : Int) * 1).toNat = i + m := by omega
  rw [this]
 rw [e]
 have := pick_run xs i k
 rw [List.filterMap_map] at this
 have e2 : ((λx => xs[x]?) ∘ λx => i + x) = λm => xs[i + m]? := rfl
 rw [e2] at this
 rw [this]
theorem ae0 {t sl : Addr} {items : Array Value} {vl vu : Value} {lo hi : Option Int} {Q : Value -> Shared -> Prop} (ht : IsTup s.heap t items) (hs : s.heap.IsSliceOf sl vl vu .none) (pl : IsPart vl lo) (pu : IsPart vu hi)
  (hw : ¬ (sIx items.size 0 lo = 0 /\ sIx items.size items.size hi = items.size))
  (h : Q (.ref s.heap.objs.size) { s with heap := s.heap.push { cls := .type "tuple", data := .seq ((items.toList.drop (sIx items.size 0 lo)).take (sIx items.size items.size hi - sIx items.size 0 lo)).toArray } })
  (hsz : items.size <= sizeLine) : wpAny (model prog w) A (getItem (.ref t) (.ref sl)) Q E s := by
 have anC : sizeOk (.seq ((items.toList.drop (sIx items.size 0 lo)).take (sIx items.size items.size hi - sIx items.size 0 lo)).toArray) := by
  show ((items.toList.drop (sIx items.size 0 lo)).take (sIx items.size items.size hi - sIx items.size 0 lo)).toArray.size <= sizeLine
  rw [List.size_toArray, List.length_take, List.length_drop, Array.length_toList]
  omega
 have hj : sIx items.size items.size hi <= items.size := arL _ _ (Nat.le_refl _) hi
 obtain ⟨os, hos, hcs, hds⟩ := id hs
 have hTs : s.TypeIs (.ref sl) "slice" := ⟨os, hos, hcs⟩
 unfold getItem
 try with_reducible refine wpAny_holding ?_
 first | refine wpAny_bind (wpAny_pure ?_) | skip
 refine wpAny_bind (wpAny_sequenceKey ht.typeIs (by decide) ?_)
 refine wpAny_bind (wpAny_callSpecial?_slot (name := Str.ofString "__getitem__") ht.typeIs PyProof.Rows.slot_tuple_getitem
  (wpAny_call_entry PyProof.Rows.slot_tuple_getitem ht.typeIs entry_tuple_getitem ?_ (args_tuple_getitem _ _)))
 show wpAny _ _ (Builtin.Tuple.tupleItemsOf (.ref t) >>= _) _ _ s
 refine wpAny_bind (tupleItemsOf_ ht ?_)
 refine wpAny_bind (wpAny_typeOf hTs ?_)
 rw [if_pos (by decide)]
 refine wpAny_bind (afs hs pl pu ?_)
 have hno : ¬ ((((sIx items.size 0 lo : Nat) : Int) == 0 && (1 : Int) == 1 && (sIx items.size items.size hi - sIx items.size 0 lo) == items.size) = true) := by
  intro q
  rw [Bool.and_eq_true, Bool.and_eq_true] at q
  have q1 : ((sIx items.size 0 lo : Nat) : Int) = 0 := eq_of_beq q.1.1
  have q2 : sIx items.size items.size hi - sIx items.size 0 lo = items.size := eq_of_beq q.2
  exact hw ⟨by omega, by omega⟩
 show wpAny _ _ (if (((sIx items.size 0 lo : Nat) : Int) == 0 && (1 : Int) == 1 && (sIx items.size items.size hi - sIx items.size 0 lo) == items.size) = true then _ else _) _ _ s
 rw [if_neg hno, anB]
 first
  | exact wpAny_bind (m := Builtin.Tuple.tupleExact _) (wpAny_newObj_type (wpAny_pure ⟨_, rfl, wpAny_pure h⟩) anC)
  | exact wpAny_bind (m := Builtin.Tuple.tupleExact _) (wpAny_newObj_type (wpAny_bind (wpAny_pure (wpAny_pure ⟨_, rfl, wpAny_pure h⟩))) anC)
  | exact wpAny_bind (wpAny_bind (m := Builtin.Tuple.tupleExact _) (wpAny_newObj_type (wpAny_pure (wpAny_pure ⟨_, rfl, wpAny_pure h⟩)) anC))
  | exact wpAny_bind (wpAny_bind (m := Builtin.Tuple.tupleExact _) (wpAny_newObj_type (wpAny_pure ⟨_, rfl, wpAny_pure h⟩) anC))
end
end HT
namespace L2
open PySem PySem.Spec PyProof.Rows
noncomputable abbrev TO := St -> Hp -> (Option Int -> Hp -> Prop) -> Prop
noncomputable def PO (X : Cx) (e : Option Expr) (t : TO) : Prop :=
 ∀ (pins : List (Addr × Obj)) (s : Shared) (σ : St) (H : Hp) (Q : Option Int -> Hp -> Prop), Inv X pins σ H s -> t σ H Q ->
  wpAny (model X.prog X.w) X.A (evalPart e X.env) (λu s' => ∃ o H', Inv X pins σ H' s' /\ IsPart u o /\ Q o H') X.xe s
noncomputable def alW : TO := λ_ H Q => Q none H
noncomputable def arM (t : TE) : TO := λσ H Q => t σ H λx H1 => ∃ i, x = .int i /\ Q (some i) H1
theorem intsAre_of {ns : List Int} : ∀ {us : List Value}, Vals (ns.map V.int) us -> IntsAre us ns := by
 induction ns with
 | nil => intro us r; rw [List.map_nil] at r; cases r; exact .nil
 | cons n ns ih =>
  intro us r
  rw [List.map_cons] at r
  cases r with
  | cons r1 r2 =>
   obtain ⟨t, e⟩ := r1
   subst e
   exact .cons n t (ih r2)
section
variable {X : Cx} {e : Expr} {te : TE} {lo hi : Option Expr} {tl th : TO} {pos p2 : Pos}
theorem apG : PO X none alW := by
 intro pins s σ H Q I h
 rw [evalPart_none]
 exact wpAny_pure ⟨none, H, I, .none, h⟩
theorem apH (h : PE X e te) : PO X (some e) (arM te) := by
 intro pins s σ H Q I hw
 rw [evalPart_some]
 refine thn (h pins s σ H _ I hw) λu s1 ⟨x, H1, I1, r1, q1⟩ => ?_
 obtain ⟨i, rfl, q⟩ := q1
 obtain ⟨t, rfl⟩ := r1
 exact ⟨some i, H1, I1, .int i t, q⟩
noncomputable def SlR (X : Cx) (r : V -> Option Int -> Option Int -> Hp -> VK -> Prop) : Prop :=
 ∀ (pins : List (Addr × Obj)) (s : Shared) (σ : St) (H : Hp) (x : V) (v vl vu : Value) (lo hi : Option Int) (sl : Addr) (Q : VK), Inv X pins σ H s -> RelV x v -> s.heap.IsSliceOf sl vl vu .none -> IsPart vl lo -> IsPart vu hi -> r x lo hi H Q ->
  ∃ T id, typeLookup (.type T) "__getitem__" = pure (some (.builtin id)) /\ s.TypeIs v T /\ wpAny (model X.prog X.w) X.A (getItem v (.ref sl)) (EP X pins σ Q) X.xe s
theorem SlR.or {r r' : V -> Option Int -> Option Int -> Hp -> VK -> Prop} (h : SlR X r) (h' : SlR X r') : SlR X (λx lo hi H Q => r x lo hi H Q \/ r' x lo hi H Q) := by
 intro pins s σ H x v vl vu lo hi sl Q I rx hs pl pu q
 rcases q with q | q
 ·exact h pins s σ H x v vl vu lo hi sl Q I rx hs pl pu q
 ·exact h' pins s σ H x v vl vu lo hi sl Q I rx hs pl pu q
noncomputable def tSl (r : V -> Option Int -> Option Int -> Hp -> VK -> Prop) (te : TE) (tl th : TO) : TE := λσ H Q => te σ H λx H1 => tl σ H1 λl H2 => th σ H2 λu H3 => r x l u H3 Q
theorem anD {r : V -> Option Int -> Option Int -> Hp -> VK -> Prop} (hr : SlR X r) (he : PE X e te) (hl : PO X lo tl) (hu : PO X hi th) : PE X (.Subscript e (.Slice lo hi none p2) pos) (tSl r te tl th) := by
 refine ⟨λpins s σ H Q I h => ?_⟩
 refine Subscript_ (thn (he pins s σ H _ I h) λv s1 ⟨x, H1, I1, r1, q1⟩ => ?_)
 refine wpAny_Slice (thn (hl pins s1 σ H1 _ I1 q1) λvl s2 ⟨l, H2, I2, pl, q2⟩ => thn (hu pins s2 σ H2 _ I2 q2) λvu s3 ⟨u, H3, I3, pu, q3⟩ => ?_)
 rw [evalPart_none]
 refine wpAny_pure ?_
 have I4 : Inv X pins σ H3 { s3 with heap := s3.heap.push { cls := .type "slice", data := .fields #[vl, vu, .none] } } := I3.kept (t' := s3.toks) λb ob q => Heap.get?_push_of_some _ q
 obtain ⟨T, id, hT, ht, hg⟩ := hr pins { s3 with heap := s3.heap.push { cls := .type "slice", data := .fields #[vl, vu, .none] } } σ H3 x v vl vu l u s3.heap.objs.size Q I4 r1 (Heap.IsSliceOf.new ..) pl pu q3
 show wpAny (model X.prog X.w) X.A (subscriptTail e (.Slice lo hi none p2) v (.ref s3.heap.objs.size)) (EP X pins σ Q) X.xe { s3 with heap := s3.heap.push { cls := .type "slice", data := .fields #[vl, vu, .none] } }
 exact tail_any (ops := [.ref s3.heap.objs.size, v]) ht hT hg (by with_unfolding_all rfl)
noncomputable def aoT (xs : List V) (lo hi : Option Int) : List V := (xs.drop (HT.sIx xs.length 0 lo)).take (HT.sIx xs.length xs.length hi - HT.sIx xs.length 0 lo)
theorem afW (xs : List V) (lo hi : Option Int) : (aoT xs lo hi).length <= xs.length := by
 unfold aoT
 rw [List.length_take, List.length_drop]
 omega
noncomputable def awJ (K : PySem.W.Frag) : V -> Option Int -> Option Int -> Hp -> VK -> Prop := λx lo hi H Q => ∃ a xs, x = .ref a /\ SqT K H a xs /\
 ¬ (HT.sIx xs.length 0 lo = 0 /\ HT.sIx xs.length xs.length hi = xs.length) /\ ∀ p, H p = none -> Q (.ref p) (upd H p (.tup (aoT xs lo hi)))
theorem arN : SlR X (awJ X.K) := by
 intro pins s σ H x v vl vu lo hi sl Q I rx hs pl pu h
 obtain ⟨a, xs, rfl, hx, hw, q⟩ := h
 cases rx
 obtain ⟨its, r, ht, hz⟩ := I.tuple hx
 have hlen : its.toArray.size = xs.length := by rw [List.size_toArray]; exact r.length.symm
 refine ⟨"tuple", _, PyProof.Rows.slot_tuple_getitem.lookup, ht.typeIs, ?_⟩
 refine HT.ae0 ht hs pl pu (by rw [hlen]; exact hw) ?_ (by rw [hlen]; exact hz)
 rw [hlen]
 refine ⟨.ref s.heap.objs.size, _, I.laid (t' := s.toks) (o := .tup (aoT xs lo hi)) (λb ob q => Heap.get?_push_of_some _ q) (Nat.le_refl _) ?_, rfl, q _ (I.hok.fresh (Nat.le_refl _))⟩
 exact ⟨Nat.le_trans (afW xs lo hi) hz, _, (r.drop (HT.sIx xs.length 0 lo)).take (HT.sIx xs.length xs.length hi - HT.sIx xs.length 0 lo), IsTup.new _ _⟩
noncomputable def awK (K : PySem.W.Frag) : R2 := λx y H Q => ∃ a b ns ms, x = .ref a /\ y = .ref b /\ SqT K H a (ns.map V.int) /\ SqT K H b (ms.map V.int) /\ Q (.bl (HT.lexLt ns ms)) H
theorem arO (hu : X.A.units < cLine) : OpR X (compareOp .Lt) (awK X.K) := by
 intro pins s σ H x y v u Q I rx ry h
 obtain ⟨a, b, ns, ms, rfl, rfl, ha, hb, q⟩ := h
 cases rx
 cases ry
 obtain ⟨its, r1, p1, _⟩ := I.tuple ha
 obtain ⟨its2, r2, p2, _⟩ := I.tuple hb
 have i1 : IntsAre its.toArray.toList ns := intsAre_of r1
 have i2 : IntsAre its2.toArray.toList ms := intsAre_of r2
 exact HT.akR p1 p2 i1 i2 hu ⟨.bl (HT.lexLt ns ms), H, I, rfl, q⟩
noncomputable def arP (K : PySem.W.Frag) : R2 := λx y H Q => ∃ a b xs ys, x = .ref a /\ y = .ref b /\ SqT K H a xs /\ SqT K H b ys /\ xs ≠ [] /\ xs.length + ys.length <= sizeLine /\
 (ys = [] -> Q (.ref a) H) /\ (ys ≠ [] -> ∀ p, H p = none -> Q (.ref p) (upd H p (.tup (xs ++ ys))))
theorem Vals.aiX {xs : List V} {us : List Value} (r : Vals xs us) : us = [] ↔ xs = [] := by
 cases r with
 | nil => simp
 | cons _ _ => simp
theorem apI : OpR X (binaryOp .Add) (arP X.K) := by
 intro pins s σ H x y v u Q I rx ry h
 obtain ⟨a, b, xs, ys, rfl, rfl, ha, hb, hx, hz, q1, q2⟩ := h
 cases rx
 cases ry
 obtain ⟨its, r1, p1, _⟩ := I.tuple ha
 obtain ⟨its2, r2, p2, _⟩ := I.tuple hb
 refine HT.apF p1 p2 (λz => hx (r1.aiX.mp z)) (λz => ⟨.ref a, H, I, rfl, q1 (r2.aiX.mp z)⟩) (λz => ?_) (by rw [<-r1.length, <-r2.length]; exact hz)
 refine ⟨.ref s.heap.objs.size, _, I.laid (t' := s.toks) (o := .tup (xs ++ ys)) (λb ob q => Heap.get?_push_of_some _ q) (Nat.le_refl _) ?_, rfl, q2 (λw => z (r2.aiX.mpr w)) _ (I.hok.fresh (Nat.le_refl _))⟩
 exact ⟨by rw [List.length_append]; exact hz, _, r1.append r2, IsTup.new _ _⟩
end
end L2
namespace L2
open PySem PySem.Spec PyProof.Rows
noncomputable def ixN (n : Nat) (i : Int) : Option Nat := if 0 <= i then (if i < n then some i.toNat else none) else if -(n : Int) <= i then some (i + n).toNat else none
noncomputable def atI {α : Type} (xs : List α) (i : Int) : Option α := (ixN xs.length i).bind λj => xs[j]?
theorem aiY {n : Nat} {i : Int} {j : Nat} (h : ixN n i = some j) : seqIndex? i n = some j /\ j < n /\ -(n : Int) <= i /\ i < n := by
 unfold ixN at h
 by_cases h0 : 0 <= i
 ·rw [if_pos h0] at h
  by_cases h1 : i < n
  ·rw [if_pos h1] at h
   have e : i.toNat = j := Option.some.inj h
   exact ⟨by rw [seqIndex_of h0 h1, e], by omega, by omega, h1⟩
  ·rw [if_neg h1] at h; cases h
 ·rw [if_neg h0] at h
  by_cases h1 : -(n : Int) <= i
  ·rw [if_pos h1] at h
   have e : (i + n).toNat = j := Option.some.inj h
   exact ⟨by rw [seqIndex_neg (by omega) h1, e], by omega, h1, by omega⟩
  ·rw [if_neg h1] at h; cases h
theorem aiZ {α : Type} {xs : List α} {i : Int} {v : α} (h : atI xs i = some v) : ∃ j, seqIndex? i xs.length = some j /\ xs[j]? = some v /\ j < xs.length /\ -(xs.length : Int) <= i /\ i < xs.length := by
 unfold atI at h
 cases e : ixN xs.length i with
 | none => rw [e] at h; cases h
 | some j =>
  rw [e] at h
  obtain ⟨h1, h2, h3, h4⟩ := aiY e
  exact ⟨j, h1, h, h2, h3, h4⟩
theorem alX {α : Type} {xs : List α} {j : Nat} {v : α} (h : xs[j]? = some v) : atI xs (j : Int) = some v := by
 have hj : j < xs.length := (List.getElem?_eq_some_iff.mp h).1
 have e : ixN xs.length (j : Int) = some j := by
  unfold ixN
  rw [if_pos (by omega), if_pos (by omega)]; simp
 unfold atI; rw [e]; exact h
noncomputable def apJ (b : Expr) : Prop := ∀ o i, subscripted b false o i = operate [o, i] (getItem o i)
noncomputable def IxR (X : Cx) (r : R2) : Prop :=
 ∀ (value slice : Expr) (pins : List (Addr × Obj)) (s : Shared) (σ : St) (H : Hp) (x y : V) (v u : Value) (Q : VK), Inv X pins σ H s -> RelV x v -> RelV y u -> r x y H Q ->
  subscripted slice false v u = operate [v, u] (getItem v u) -> wpAny (model X.prog X.w) X.A (subscriptTail value slice v u) (EP X pins σ Q) X.xe s
noncomputable def MtR (X : Cx) (id : String) (r : V -> List V -> Hp -> VK -> Prop) : Prop :=
 ∀ (pins : List (Addr × Obj)) (s : Shared) (σ : St) (H : Hp) (x : V) (xs : List V) (v : Value) (us : List Value) (Q : VK), Inv X pins σ H s -> RelV x v -> Vals xs us -> r x xs H Q ->
  wpAny (model X.prog X.w) X.A (call (.builtin id) (v :: us)) (EP X pins σ Q) X.xe s
section
variable {X : Cx} {a b : Expr} {ta tb : TE} {pos : Pos}
theorem IxR.or {r r' : R2} (h : IxR X r) (h' : IxR X r') : IxR X (λx y H Q => r x y H Q \/ r' x y H Q) := by
 intro value slice pins s σ H x y v u Q I rx ry q hs
 rcases q with q | q
 ·exact h value slice pins s σ H x y v u Q I rx ry q hs
 ·exact h' value slice pins s σ H x y v u Q I rx ry q hs
theorem abY {r : R2} (hr : IxR X r) (ha : PE X a ta) (hb : PE X b tb) (hs : apJ b) : PE X (.Subscript a b pos) (tOp r ta tb) := by
 refine ⟨λpins s σ H Q I h => ?_⟩
 exact Subscript_ (auY ha hb I h λv u s2 x y H2 I2 rx ry q => hr a b pins s2 σ H2 x y v u Q I2 rx ry q (hs _ _))
noncomputable def awL (K : PySem.W.Frag) : R2 := λx y H Q => ∃ p xs i v, x = .ref p /\ y = .int i /\ SqL K H p xs /\ atI xs i = some v /\ Q v H
noncomputable def awM (K : PySem.W.Frag) : R2 := λx y H Q => ∃ p xs i v, x = .ref p /\ y = .int i /\ SqT K H p xs /\ atI xs i = some v /\ Q v H
noncomputable def awN : R2 := λx y H Q => ∃ z i c, x = .str z /\ y = .int i /\ z.length <= sizeLine /\ atI z.cps.toList i = some c /\ Q (.str ⟨#[c]⟩) H
theorem apK : IxR X (awL X.K) := by
 intro value slice pins s σ H x y v u Q I rx ry h hs
 obtain ⟨p, xs, i, z, rfl, rfl, hq, he, q⟩ := h
 cases rx
 obtain ⟨t, rfl⟩ := ry
 obtain ⟨its, r, pl, hz⟩ := I.list hq
 obtain ⟨j, h1, h2, h3, h4, h5⟩ := aiZ he
 obtain ⟨w, ew, rw'⟩ := r.get h2
 have hl := r.length
 have hn := afV
 have fin : EP X pins σ Q w s := ⟨z, H, I, rw', q⟩
 by_cases h0 : 0 <= i
 ·have hj : i.toNat = j := by
   rw [seqIndex_of h0 h5] at h1
   exact Option.some.inj h1
  exact item_listR pl.isList h0 (by omega) (by rw [hj]; simpa using ew) fin hs
 ·have hj : (i + (its.toArray.size : Int)).toNat = j := by
   rw [seqIndex_neg (by omega) h4] at h1
   rw [List.size_toArray, <-hl]
   exact Option.some.inj h1
  exact subscriptTail_builtinR (x := w) pl.isList.typeIs slot_list_getitem.lookup
   (wpAny_getItem_list_neg (Q := λr s' => r = w /\ EP X pins σ Q r s') pl.isList (by omega) (by rw [List.size_toArray] <;> omega) (by omega) (by rw [hj]; simpa using ew) ⟨rfl, fin⟩) hs
theorem arQ : IxR X (awM X.K) := by
 intro value slice pins s σ H x y v u Q I rx ry h hs
 obtain ⟨p, xs, i, z, rfl, rfl, hq, he, q⟩ := h
 cases rx
 obtain ⟨t, rfl⟩ := ry
 obtain ⟨its, r, pl, hz⟩ := I.tuple hq
 obtain ⟨j, h1, h2, h3, h4, h5⟩ := aiZ he
 obtain ⟨w, ew, rw'⟩ := r.get h2
 have hl := r.length
 have hn := afV
 have fin : EP X pins σ Q w s := ⟨z, H, I, rw', q⟩
 exact subscriptTail_builtinR (x := w) pl.typeIs slot_tuple_getitem.lookup
  (getItem_tuple (j := j) (Q := λr s' => r = w /\ EP X pins σ Q r s') pl (by omega) (by omega) (by rw [List.size_toArray, <-hl]; exact h1) (by simpa using ew) ⟨rfl, fin⟩) hs
theorem arR : IxR X awN := by
 intro value slice pins s σ H x y v u Q I rx ry h hs
 obtain ⟨z, i, c, rfl, rfl, hz, he, q⟩ := h
 obtain ⟨t, rfl⟩ := rx
 obtain ⟨t', rfl⟩ := ry
 obtain ⟨j, h1, h2, h3, h4, h5⟩ := aiZ he
 have hl : z.cps.toList.length = z.length := by simp [Str.length]
 rw [hl] at h1 h4 h5
 have hn := afV
 exact tail_any (typeIs_str s z t) slot_str_getitem.lookup (getItem_str (c := c) (by
  have e1 : decide (i < -(2 ^ 63 : Int)) = false := decide_eq_false (by omega)
  have e2 : decide (i >= 2 ^ 63) = false := decide_eq_false (by omega)
  rw [e1, e2, Bool.or_false]) (by rw [h1]; simpa using h2) ⟨.str ⟨#[c]⟩, H, I.tok _, ⟨_, rfl⟩, q⟩) hs
noncomputable def rIx (K : PySem.W.Frag) : R2 := λx y H Q => awL K x y H Q \/ awM K x y H Q \/ awN x y H Q
theorem abr : IxR X (rIx X.K) := apK.or (arQ.or arR)
theorem akU (its : List Value) (n j : Nat) (u : Value) : Obj.mapSeq (·.setIfInBounds j u) { cls := .type "list", data := .seq its.toArray n } = { cls := .type "list", data := .seq (its.set j u).toArray n } := by
 simp [Obj.mapSeq]
theorem Inv.lst {pins : List (Addr × Obj)} {σ : St} {H : Hp} {s : Shared} {p : Addr} {xs : List V} (I : Inv X pins σ H s) (h : H p = some (.lst xs)) :
  ∃ (its : List Value) (n : Nat), Vals xs its /\ s.heap.get? p = some { cls := .type "list", data := .seq its.toArray n } /\ xs.length <= sizeLine := by
 obtain ⟨z, its, n, r, e⟩ := I.hok p _ h
 exact ⟨its, n, r, e, z⟩
theorem Inv.arS {pins : List (Addr × Obj)} {σ : St} {H : Hp} {s : Shared} {p : Addr} {xs ys : List V} {its its' : List Value} {n n' : Nat} {f : Obj -> Obj} (I : Inv X pins σ H s) (h : H p = some (.lst xs))
  (ho : s.heap.get? p = some { cls := .type "list", data := .seq its.toArray n }) (hf : f { cls := .type "list", data := .seq its.toArray n } = { cls := .type "list", data := .seq its'.toArray n' }) (r : Vals ys its') (hz : ys.length <= sizeLine) (t : Nat) :
  Inv X pins σ (upd H p (.lst ys)) { s with heap := s.heap.update p f, toks := t } := by
 have e : (s.heap.update p f).get? p = some { cls := .type "list", data := .seq its'.toArray n' } := by
  rw [Heap.get?_update_self f ho (by rw [hf] <;> rfl), hf]
 refine I.write (x := p) (e := p) (by rw [h]; trivial) (.inl rfl) (λb u hb q => (Heap.get?_update_other _ _ (Ne.symm hb)).trans q) ⟨_, e⟩ ?_
 exact ⟨hz, its', n', r, e⟩
noncomputable def apL : V -> V -> V -> Hp -> (Hp -> Prop) -> Prop := λo i v H Q => ∃ p xs k j, o = .ref p /\ i = .int k /\ H p = some (.lst xs) /\ ixN xs.length k = some j /\ Q (upd H p (.lst (xs.set j v)))
theorem set_list : awC X apL := by
 intro pins s σ H o i v ov iv u Q I ro ri rv h
 obtain ⟨p, xs, k, j, rfl, rfl, hp, hj, q⟩ := h
 cases ro
 obtain ⟨t, rfl⟩ := ri
 obtain ⟨its, n, r, ho, hz⟩ := I.lst hp
 obtain ⟨h1, h2, h3, h4⟩ := aiY hj
 have hl := r.length
 have hn := afV
 have I' : Inv X pins σ (upd H p (.lst (xs.set j v))) { s with heap := s.heap.update p (Obj.mapSeq (·.setIfInBounds j u)) } :=
  I.arS hp ho (akU its n j u) (r.set rv j) (by rw [List.length_set]; exact hz) s.toks
 by_cases h0 : 0 <= k
 ·have hk : k.toNat = j := by
   rw [seqIndex_of h0 h4] at h1
   exact Option.some.inj h1
  exact PySem.W.ki_setAt ho h0 (by omega) (by rw [List.size_toArray, <-hl]; exact h4) (by rw [hk]; exact ⟨_, I', q⟩)
 ·have hk : (k + (its.toArray.size : Int)).toNat = j := by
   rw [seqIndex_neg (by omega) h3] at h1
   rw [List.size_toArray, <-hl]
   exact Option.some.inj h1
  exact PySem.W.ki_setBack ho (by omega) (by rw [List.size_toArray, <-hl]; exact h3) (by omega) (by rw [hk]; exact ⟨_, I', q⟩)
theorem ahS (lo hi : Option Int) (n : Nat) : (sliceBounds lo hi none n).1 = ((HT.sIx n 0 lo : Nat) : Int) /\ (sliceBounds lo hi none n).2.1 = ((HT.sIx n n hi : Nat) : Int) /\ (sliceBounds lo hi none n).2.2 = 1 := by
 refine ⟨?_, ?_, rfl⟩
 ·cases lo with
  | none => simp [sliceBounds, HT.sIx]
  | some i =>
   simp only [sliceBounds, HT.sIx, Option.getD_none, show (1 : Int) > 0 by decide, if_true]
   by_cases h : i < 0
   ·simp only [h, if_true] <;> omega
   ·simp only [h, if_false] <;> omega
 ·cases hi with
  | none => simp [sliceBounds, HT.sIx]
  | some i =>
   simp only [sliceBounds, HT.sIx, Option.getD_none, show (1 : Int) > 0 by decide, if_true]
   by_cases h : i < 0
   ·simp only [h, if_true] <;> omega
   ·simp only [h, if_false] <;> omega
theorem ag6 (its : List Value) (lo hi : Option Int) : slicePick its.toArray lo hi none = ((its.drop (HT.sIx its.length 0 lo)).take (HT.sIx its.length its.length hi - HT.sIx its.length 0 lo)).toArray := by
 obtain ⟨h1, h2, h3⟩ := ahS lo hi its.toArray.size
 unfold slicePick
 rw [h1, h2, h3]
 simp only [sliceRange_one, pick_run, List.size_toArray] <;> rfl
noncomputable def awO (K : PySem.W.Frag) : V -> Option Int -> Option Int -> Hp -> VK -> Prop := λx lo hi H Q => ∃ a xs, x = .ref a /\ SqL K H a xs /\ ∀ p, H p = none -> Q (.ref p) (upd H p (.lst (aoT xs lo hi)))
theorem apM : SlR X (awO X.K) := by
 intro pins s σ H x v vl vu lo hi sl Q I rx hs pl pu h
 obtain ⟨a, xs, rfl, hx, q⟩ := h
 cases rx
 obtain ⟨its, r, ht, hz⟩ := I.list hx
 have hlen := r.length
 refine ⟨"list", _, slot_list_getitem.lookup, ht.isList.typeIs, ?_⟩
 refine wpAny_getItem_list_slice ht.isList hs pl pu .none (by simp) ?_ (by rw [List.size_toArray] <;> omega)
 rw [ag6, <-hlen]
 refine ⟨.ref s.heap.objs.size, _, I.laid (t' := s.toks) (o := .lst (aoT xs lo hi)) (λb ob q => Heap.get?_push_of_some _ q) (Nat.le_refl _) ?_, rfl, q _ (I.hok.fresh (Nat.le_refl _))⟩
 exact ⟨Nat.le_trans (afW xs lo hi) hz, _, 0, (r.drop (HT.sIx xs.length 0 lo)).take (HT.sIx xs.length xs.length hi - HT.sIx xs.length 0 lo), Heap.get?_push_size _ rfl⟩
theorem ahT : acI X (.builtin "len") (λxs H Q => ∃ p ys, xs = [.ref p] /\ (SqL X.K H p ys \/ SqT X.K H p ys) /\ Q (.int ys.length) H) := by
 intro pins s σ H xs us Q I r h
 obtain ⟨p, ys, rfl, hq, q⟩ := h
 obtain ⟨u, rfl, rx⟩ := vals1 r
 cases rx
 have hn := afV
 rcases hq with hq | hq
 ·obtain ⟨its, r', pl, hz⟩ := I.list hq
  have hlen := r'.length
  exact Calls.call_len_list pl.isList (by simp only [List.size_toArray] <;> omega) ⟨.int ys.length, H, I.tok _, ⟨s.toks + 1, by rw [List.size_toArray, hlen]⟩, q⟩
 ·obtain ⟨its, r', pl, hz⟩ := I.tuple hq
  have hlen := r'.length
  exact len_tuple pl (by simp only [List.size_toArray] <;> omega) ⟨.int ys.length, H, I.tok _, ⟨s.toks + 1, by rw [List.size_toArray, hlen]⟩, q⟩
theorem ahU : acI X (.builtin "len") (λxs H Q => ∃ z, xs = [.str z] /\ z.length <= sizeLine /\ Q (.int z.length) H) := by
 intro pins s σ H xs us Q I r h
 obtain ⟨z, rfl, hz, q⟩ := h
 obtain ⟨u, rfl, t, rfl⟩ := vals1 r
 have hn := afV
 exact len_str (by omega) ⟨.int z.length, H, I.tok _, ⟨_, rfl⟩, q⟩
theorem acI.or {f : Value} {r r' : List V -> Hp -> VK -> Prop} (h : acI X f r) (h' : acI X f r') : acI X f (λxs H Q => r xs H Q \/ r' xs H Q) := by
 intro pins s σ H xs us Q I rs q
 rcases q with q | q
 ·exact h pins s σ H xs us Q I rs q
 ·exact h' pins s σ H xs us Q I rs q
theorem afi : acI X (.type "list") (λxs H Q => ∃ p ys, xs = [.ref p] /\ (SqL X.K H p ys \/ SqT X.K H p ys) /\ ∀ l, H l = none -> Q (.ref l) (upd H l (.lst ys))) := by
 intro pins s σ H xs us Q I r h
 obtain ⟨p, ys, rfl, hq, q⟩ := h
 obtain ⟨u, rfl, rx⟩ := vals1 r
 cases rx
 have fin : ∀ (its : List Value), Vals ys its -> ys.length <= sizeLine -> ∀ (h' : Heap) (c' : Nat), (∀ b o', s.heap.get? b = some o' -> h'.get? b = some o') ->
   h'.get? s.heap.objs.size = some { cls := .type "list", dict := none, data := .seq its.toArray c', slots := #[] } -> EP X pins σ Q (.ref s.heap.objs.size) { s with heap := h' } := λits r' hz h' c' kp e =>
  ⟨.ref s.heap.objs.size, _, I.laid (t' := s.toks) kp (Nat.le_refl _) (show ad3 X.prog X.w _ h' _ (.lst ys) from ⟨hz, its, c', r', e⟩), rfl, q _ (I.hok.fresh (Nat.le_refl _))⟩
 rcases hq with hq | hq
 ·obtain ⟨its, r', pl, hz⟩ := I.list hq
  have hlen := r'.length
  obtain ⟨o, ho, hc, n, hd⟩ := pl.isList
  exact call_list_seq p (.inl rfl) ho hc hd (λh' c' kp e => fin its r' hz h' c' kp e) (by simp only [List.size_toArray] <;> omega)
 ·obtain ⟨its, r', pl, hz⟩ := I.tuple hq
  have hlen := r'.length
  obtain ⟨o, ho, hc, n, hd⟩ := pl
  exact call_list_seq p (.inr rfl) ho hc hd (λh' c' kp e => fin its r' hz h' c' kp e) (by simp only [List.size_toArray] <;> omega)
theorem aev : acI X (.type "tuple") (λxs H Q => ∃ p ys, xs = [.ref p] /\ ((SqL X.K H p ys /\ ∀ l, H l = none -> Q (.ref l) (upd H l (.tup ys))) \/ (SqT X.K H p ys /\ Q (.ref p) H))) := by
 intro pins s σ H xs us Q I r h
 obtain ⟨p, ys, rfl, h⟩ := h
 obtain ⟨u, rfl, rx⟩ := vals1 r
 cases rx
 rcases h with ⟨hq, q⟩ | ⟨hq, q⟩
 ·obtain ⟨its, r', pl, hz⟩ := I.list hq
  have hlen := r'.length
  refine call_tuple_list pl.isList (λh' kp => ?_) (by simp only [List.size_toArray] <;> omega)
  have I1 : Inv X pins σ H { s with heap := h' } := I.kept (t' := s.toks) kp
  have I2 : Inv X pins σ (upd H h'.objs.size (.tup ys)) { s with heap := h'.push { cls := .type "tuple", data := .seq its.toArray } } :=
   I1.laid (t' := s.toks) (λb o e => Heap.get?_push_of_some _ e) (Nat.le_refl _) (show ad3 X.prog X.w _ _ _ (.tup ys) from ⟨hz, its, r', IsTup.new _ _⟩)
  exact ⟨.ref h'.objs.size, _, I2, rfl, q _ (I1.hok.fresh (Nat.le_refl _))⟩
 ·obtain ⟨its, r', pl, hz⟩ := I.tuple hq
  exact call_tuple_same pl ⟨.ref p, H, I, rfl, q⟩
noncomputable def tyV (K : PySem.W.Frag) (T : String) (x : V) (H : Hp) : Prop := match x with
 | .str _ => T = "str"
 | .int _ => T = "int"
 | .ref p => (T = "list" ∧ ∃ xs, SqL K H p xs) ∨ (T = "tuple" ∧ ∃ o, K.lookup p = some o ∧ o.cls = .type "tuple" ∧ o.dict = none) ∨
   (T = "dict" ∧ ((∃ kvs, H p = some (.dK kvs)) ∨ ∃ kvs, H p = some (.dT kvs))) ∨ (T = "set" ∧ ∃ S n, H p = some (.set S n))
 | _ => False
theorem arT {pins : List (Addr × Obj)} {σ : St} {H : Hp} {s : Shared} {T : String} {x : V} {v : Value} (I : Inv X pins σ H s) (r : RelV x v) (ty : tyV X.K T x H) :
  s.TypeIs v T /\ ∀ a, v = .ref a -> ∃ ob, s.heap.get? a = some ob /\ ob.dict = none := by
 cases x with
 | str z =>
  obtain ⟨t, rfl⟩ := r
  cases (show T = "str" from ty)
  exact ⟨typeIs_str s z t, λ_ e => nomatch e⟩
 | int i =>
  obtain ⟨t, rfl⟩ := r
  cases (show T = "int" from ty)
  exact ⟨typeIs_int s i t, λ_ e => nomatch e⟩
 | ref p =>
  cases r
  rcases ty with ⟨rfl, xs, hq⟩ | ⟨rfl, o, hk, hc, hd⟩ | ⟨rfl, hk⟩ | ⟨rfl, S, n, hk⟩
  ·obtain ⟨its, _, pl, _⟩ := I.list hq
   refine ⟨pl.isList.typeIs, λa e => ?_⟩
   cases e
   obtain ⟨o, n, e, c, hd, _⟩ := pl
   exact ⟨o, e, hd⟩
  ·refine ⟨⟨o, I.kIn p o hk, hc⟩, λa e => ?_⟩
   cases e
   exact ⟨o, I.kIn _ o hk, hd⟩
  ·have z : ∃ o, s.heap.get? p = some o /\ o.ExactDict := by
    rcases hk with ⟨kvs, hk⟩ | ⟨kvs, hk⟩
    ·obtain ⟨_, _, _, _, o, _, _, e, ex, _⟩ := I.hok p _ hk
     exact ⟨o, e, ex⟩
    ·obtain ⟨_, _, _, _, o, _, _, e, ex, _⟩ := I.hok p _ hk
     exact ⟨o, e, ex⟩
   obtain ⟨o, e, ex⟩ := z
   refine ⟨⟨o, e, ex.1⟩, λa e2 => ?_⟩
   cases e2
   exact ⟨o, e, ex.2.1⟩
  ·obtain ⟨o, _, _, _, e, ex, _⟩ := I.hok p _ hk
   refine ⟨⟨o, e, ex.1⟩, λa e2 => ?_⟩
   cases e2
   exact ⟨o, e, ex.2.1⟩
 | _ => exact False.elim ty
noncomputable def tBM (K : PySem.W.Frag) (T : String) (r : V -> List V -> Hp -> VK -> Prop) (to : TE) (t : TA) : TE := λσ H Q => to σ H λx H1 => tyV K T x H1 /\ t σ H1 λxs H2 => r x xs H2 Q
variable {o e : Expr} {es : List Expr} {to : TE} {t : TA} {name : Str} {apos cpos : Pos} {T id : String} {r : V -> List V -> Hp -> VK -> Prop}
theorem arU (pa : PlainAttrs T) (slot : Slot T name id) (hty : typeOf (.builtin id) = pure (.type "method_descriptor")) (hm : MtR X id r) (ho : PE X o to) (ha : PA X (e :: es) t)
  (hbase : attributeBase o name X.env (eval o X.env) = eval o X.env := by rfl)
  (hfew : ((backTo cpos (starEach (e :: es) X.env)).all (λx => !x.1) && (backToKw cpos (keywordEach [] X.env)).all (λx => x.1.isSome)
   && decide ((e :: es).length + ([] : List Keyword).length + (if ([] : List Keyword).isEmpty then 0 else 1) < 30)) = true := by rfl)
  (hline : (apos.endLine == cpos.line) = true := by rfl) (hs : starEach (e :: es) X.env = (false, eval e X.env) :: starEach es X.env := by rfl) (hplain : (backTo cpos (starEach es X.env)).any (·.1) = false := by rfl) :
  PE X (.Call (.Attribute o name apos) (e :: es) [] cpos) (tBM X.K T r to t) := by
 refine ⟨λpins s σ H Q I h => ?_⟩
 refine wpAny_Call_method_late hbase hfew hline rfl (thn (ho pins s σ H _ I h) λv s1 ⟨x, H1, I1, r1, ty, q1⟩ => ?_)
 obtain ⟨h1, h2⟩ := arT I1 r1 ty
 refine ⟨T, id, pa, slot, hty, h1, h2, ?_⟩
 have hA := ha cpos pins s1 σ H1 _ I1 q1
 rw [hs] at hA ⊢
 refine Calls.callWith_builtin (by show (false || (backTo cpos (starEach es X.env)).any (·.1)) = false; rw [hplain] <;> rfl) (Calls.evalArgs_plain ?_)
 exact thn hA λus s2 ⟨vs, H2, I2, r2, q2⟩ => hm pins s2 σ H2 x vs v us Q I2 r1 r2 q2
end
end L2
namespace L2
open PySem PySem.Spec PyProof.Rows
noncomputable def MtM (X : Cx) (id : String) (r : V -> List V -> Hp -> VK -> Prop) : Prop :=
 ∀ (pins : List (Addr × Obj)) (s : Shared) (σ : St) (H : Hp) (x : V) (xs : List V) (v : Value) (us : List Value) (Q : VK), Inv X pins σ H s -> RelV x v -> Vals xs us -> r x xs H Q ->
  wpAny (model X.prog X.w) X.A (call (.builtin id) (v :: us)) (EP X pins σ Q) X.xe s
theorem Vals.one : ∀ {x : V} {us : List Value}, Vals [x] us -> ∃ u, us = [u] /\ RelV x u
 | _, _, .cons r .nil => ⟨_, rfl, r⟩
theorem Vals.eraseIdx : ∀ {xs : List V} {us : List Value} (i : Nat), Vals xs us -> Vals (xs.eraseIdx i) (us.eraseIdx i)
 | _, _, _, .nil => .nil
 | _, _, 0, .cons _ t => t
 | _, _, i + 1, .cons r t => .cons r (Vals.eraseIdx i t)
theorem Vals.rep {xs : List V} {us : List Value} (h : Vals xs us) : ∀ k : Nat, Vals (List.replicate k xs).flatten (List.replicate k us).flatten
 | 0 => .nil
 | k + 1 => by
  rw [List.replicate_succ, List.replicate_succ, List.flatten_cons, List.flatten_cons]
  exact Vals.append h (Vals.rep h k)
theorem ahV {α : Type} : ∀ (l : List α) (i : Nat), (l.eraseIdx i).length <= l.length
 | [], _ => Nat.le_refl _
 | _ :: _, 0 => Nat.le_succ _
 | _ :: r, i + 1 => Nat.succ_le_succ (ahV r i)
theorem foldl_rep (its : List Value) : ∀ (k : Nat) (acc : List Value),
  List.foldl (λx1 x2 => x1 ++ x2) acc.toArray (List.replicate k its.toArray) = (acc ++ (List.replicate k its).flatten).toArray
 | 0, acc => by simp
 | k + 1, acc => by
  have e : acc.toArray ++ its.toArray = (acc ++ its).toArray := by simp
  have e2 : (acc ++ its) ++ (List.replicate k its).flatten = acc ++ (List.replicate (k + 1) its).flatten := by
   rw [List.replicate_succ, List.flatten_cons, List.append_assoc]
  rw [<-e2, <-foldl_rep its k (acc ++ its), <-e, List.replicate_succ, List.foldl_cons]
section
variable {X : Cx} {pins : List (Addr × Obj)} {σ : St} {H : Hp} {s : Shared} {l b : Addr} {xs ys zs : List V}
theorem Inv.awP {its its' : List Value} {n : Nat} {f : Array Value -> Array Value} {t' : Nat} (I : Inv X pins σ H s) (hH : H l = some (.lst xs))
  (e : s.heap.get? l = some { cls := .type "list", data := .seq its.toArray n }) (hf : f its.toArray = its'.toArray) (hv : Vals ys its') (hz : ys.length <= sizeLine) :
  Inv X pins σ (upd H l (.lst ys)) { s with heap := s.heap.update l (Obj.mapSeq f), toks := t' } := by
 have q := PySem.IsL.update e f
 rw [hf] at q
 refine I.write (x := l) (e := l) (by rw [hH]; exact trivial) (.inl rfl) (λb' u hb hu => (Heap.get?_update_other s.heap (Obj.mapSeq f) (Ne.symm hb)).trans hu) ⟨_, q⟩ ?_
 exact ⟨hz, its', _, hv, q⟩
theorem Inv.au1 {its : List Value} {t' : Nat} (I : Inv X pins σ H s) (hv : Vals ys its) (hz : ys.length <= sizeLine) :
  Inv X pins σ (upd H s.heap.objs.size (.lst ys)) { s with heap := s.heap.push { cls := .type "list", data := .seq its.toArray }, toks := t' } :=
 I.laid (λ_ _ q => Heap.get?_push_of_some _ q) (Nat.le_refl _) ⟨hz, its, 0, hv, Heap.get?_push_size _ rfl⟩
theorem Inv.fresh (I : Inv X pins σ H s) : H s.heap.objs.size = none := I.hok.fresh (Nat.le_refl _)
theorem Inv.awQ (I : Inv X pins σ H s) (hH : H l = some (.lst xs)) : xs.length <= sizeLine /\ ∃ (its : List Value) (n : Nat), Vals xs its /\ xs.length = its.length /\ s.heap.get? l = some { cls := .type "list", data := .seq its.toArray n } := by
 obtain ⟨z, its, n, r, e⟩ := I.hok l _ hH
 exact ⟨z, its, n, r, r.length, e⟩
theorem anE {n : Nat} (h : n <= sizeLine) : Builtin.List.listTooLong n = false := by
 unfold Builtin.List.listTooLong
 exact decide_eq_false (by omega)
end
section
variable {X : Cx}
noncomputable def alY : V -> List V -> Hp -> VK -> Prop := λx vs H Q => ∃ l xs y, x = .ref l /\ vs = [y] /\ H l = some (.lst xs) /\ xs.length < sizeLine /\ Q .non (upd H l (.lst (xs ++ [y])))
theorem ahW : MtM X "list.append" alY := by
 intro pins s σ H x vs v us Q I rx rv h
 obtain ⟨l, xs, y, rfl, rfl, hH, hz, q⟩ := h
 cases rx
 obtain ⟨u, rfl, ru⟩ := rv.one
 obtain ⟨z, its, n, r, hl, e⟩ := I.awQ hH
 refine call_meets F.slot_list_append ⟨_, e, rfl⟩ F.entry_list_append (F.args_list_append_2 _ _) (PySem.list_append l its.toArray n u (by rw [List.size_toArray]; omega)) ⟨e, ?_⟩
 refine ⟨.non, _, I.awP (its' := its ++ [u]) hH e (by simp) (r.append (.cons ru .nil)) ?_, rfl, q⟩
 rw [List.length_append, List.length_singleton]
 omega
noncomputable def aoU : V -> List V -> Hp -> VK -> Prop := λx vs H Q => ∃ l xs i k y, x = .ref l /\ vs = [.int i] /\ H l = some (.lst xs) /\ -(2 ^ 63) <= i /\ i < 2 ^ 63 /\ seqIndex? i xs.length = some k /\ xs[k]? = some y /\ Q y (upd H l (.lst (xs.eraseIdx k)))
theorem anF : MtM X "list.pop" aoU := by
 intro pins s σ H x vs v us Q I rx rv h
 obtain ⟨l, xs, i, k, y, rfl, rfl, hH, h1, h2, hk, hy, q⟩ := h
 cases rx
 obtain ⟨u, rfl, ru⟩ := rv.one
 obtain ⟨t, rfl⟩ := ru
 obtain ⟨z, its, n, r, hl, e⟩ := I.awQ hH
 obtain ⟨w, hw, rw'⟩ := r.get hy
 refine call_meets F.slot_list_pop ⟨_, e, rfl⟩ F.entry_list_pop (F.args_list_pop_2 _ _)
  (MeetsSeq.list_pop_at l its.toArray n i t k w (fitsIndex_both h1 h2) (by rw [List.size_toArray, <-hl]; exact hk) (by rw [<-Array.getElem?_toList]; exact hw) (by rw [List.size_toArray]; omega)) ⟨e, ?_⟩
 refine ⟨y, _, I.awP (its' := its.eraseIdx k) hH e ?_ (r.eraseIdx k) ?_, rw', q⟩
 ·show its.toArray.eraseIdxIfInBounds k = (its.eraseIdx k).toArray
  rw [List.eraseIdxIfInBounds_toArray]
 ·have := ahV xs k
  omega
theorem len_rep {α : Type} (xs : List α) (k : Nat) : (List.replicate k xs).flatten.length = k * xs.length := by
 induction k with
 | zero => simp
 | succ k ih => rw [List.replicate_succ, List.flatten_cons, List.length_append, ih, Nat.succ_mul, Nat.add_comm]
end
section
variable {prog : Program} {w : World} {A : Around} {E : Value -> Shared -> Prop} {s : Shared}
end
section
variable {X : Cx}
end
end L2
namespace Att
open PySem PySem.W PySem.Calls PyProof.Rows
theorem afX {P : Params} {h : Heap} : ∀ (ns : List Int) (vs : List Value), WellAll P h vs (ns.map WData.int) -> IntsAre vs ns := by
 intro ns
 induction ns with
 | nil =>
  intro vs w
  rw [List.map_nil] at w
  cases w
  exact .nil
 | cons n ns ih =>
  intro vs w
  rw [List.map_cons] at w
  cases w with
  | cons a b =>
   cases a
   exact .cons _ _ (ih _ b)
theorem alZ {l : OpenLaw} {n : Nat} (hn : l.most = some n) {P : Params} {h : Heap} {args : List WData} {vals : List Value}
  (hpre : l.row.toRowW.claim.pre args = true) (hwl : WellAll P h vals args) :
  ∃ a vs ns, vals = [Value.ref a] /\ args = [WData.list (ns.map WData.int)] /\ h.get? a = some { cls := .type "list", data := .seq vs.toArray } /\ IntsAre vs ns /\ ns.length <= n := by
 have hsh : WShape.hasAll [] args [.list .int] = true := (pre_splitW hpre).1
 have hc : l.pre.holds [] { args := args } = true := (pre_splitW hpre).2
 obtain ⟨d, r, rfl, h1, h2⟩ := hasAllW_cons hsh
 obtain rfl := hasAllW_nil h2
 obtain ⟨xs, rfl, h3⟩ := hasW_list h1
 obtain ⟨ns, rfl⟩ := items_int h3
 have hlen : ns.length <= n := by
  unfold OpenLaw.pre at hc
  have h4 : (WTm.not (.lt (.lit (.int (n : Int))) (.len (.arg 0)))).holds [] { args := [.list (ns.map .int)] } = true := by
   have h4 := (holds_andW hc).1
   rw [hn] at h4
   exact h4
  have h5 := condW_of h4 (w_not (w_lt w_lit (w_len_list (w_arg rfl))))
  rw [List.length_map] at h5
  refine Nat.le_of_not_lt λq => ?_
  have q' : (n : Int) < ((ns.length : Nat) : Int) := by omega
  first
   | (rw [decide_eq_true q'] at h5; exact absurd h5 (by decide))
   | (simp at h5; omega)
 cases hwl with
 | cons w1 w2 =>
  cases w2
  cases w1 with
  | list ho hall => exact ⟨_, _, ns, rfl, rfl, ho, afX ns _ hall, hlen⟩
theorem al0 (l : OpenLaw) (args : List WData) : l.row.toRowW.claim.post args (.bool true) args = true :=
 postW_of (r := l.row.toRowW) (X := (true == true))
  (show WShape.has [] (.bool true) .bool = true by first | rfl | decide | simp [WShape.has, WShape.arms, WShape.armsAll])
  (show (WTm.eq .res (.lit (.bool true))).value [] { args := args, res := some (.bool true), after := args } = some (.bool (true == true)) from w_eq_bool (w_res rfl) w_lit) rfl
theorem ai0 {l : OpenLaw} {n : Nat} {q : Program} {loose : List Str} {XP : (Str -> Option Value) -> Heap -> Prop} {YP : World -> Heap -> Prop} {d : DefRec}
  (hn : l.most = some n) (hdf : d.params.defaults = [])
  (call : ∀ (w : World) (s₀ s₁ : Shared) (mg mb : Str -> Option Value) (fa : Addr) (o : Obj) (pm cd doc : Value) (a : Addr) (vs : List Value) (ns : List Int),
   Ground q loose [] XP w s₀ mg mb s₁.heap -> YP w s₁.heap ->
   s₁.heap.get? fa = some o -> o.data = .func (docDef d.name d.params d.body d.scope pm cd doc) -> s₁.heap.CodeRec cd d.name -> mg d.name = some (.ref fa) ->
   s₁.heap.get? a = some { cls := .type "list", data := .seq vs.toArray } -> IntsAre vs ns -> ns.length <= n -> s₁.gens = #[] ->
   codeAny (model l.prog w) callerA (.call (.ref fa) ⟨[.ref a], []⟩) (λr s' => r = .ok (.ret (.bool true)) /\ OldK s₁.heap s'.heap /\ s'.os = s₁.os /\ AllBare s'.gens) s₁) :
  WalkO q loose XP YP l.row.toRowW d [] (λf vs => PySem.call f vs) := by
 intro w s₀ s₁ mg mb G Y fa o pm cd doc dV kV ho hd hcd hD hmg hg args vals as hpre hlay hrd hwl hlo
 obtain rfl : dV = .none := Dflts.none hD hdf
 obtain rfl : kV = .none := Dflts.noKw hD
 obtain ⟨a, vs, ns, rfl, rfl, hobj, hints, hlen⟩ := alZ hn hpre hwl
 refine enter_call (codeAny_mono (call w s₀ s₁ mg mb fa o pm cd doc a vs ns G Y ho (fd_plain hd) hcd hmg hobj hints hlen hg) λr s' hq => ?_)
 obtain ⟨rfl, h2, h3, h4⟩ := hq
 exact ⟨.inl ⟨.bool true, .bool true, [], rfl, λ_ => rfl, .bool true, al0 l _, λ_ => ⟨List.Pairwise.nil, λ_ hm => (nomatch hm)⟩⟩, h2, h3, h4⟩
section
variable {prog : Program} {w : World} {A : Around} {E : Value -> Shared -> Prop} {s : Shared} {K : Frag}
end
end Att
namespace L2
open PySem PySem.Spec PyProof.Rows
theorem ahX : ∀ {vs : List Value} {ns : List Int}, IntsAre vs ns -> Vals (ns.map V.int) vs
 | _, _, .nil => .nil
 | _, _, .cons n t h => .cons ⟨t, rfl⟩ (ahX h)
end L2
namespace L2
open PySem PySem.Spec PyProof.Rows
end L2
namespace L2
open PySem PySem.Spec PyProof.Rows
noncomputable def acM (s : Stmt) : Arguments := match s with
 | .FunctionDef _ a _ _ _ _ _ _ _ _ => a
 | _ => { posonlyargs := [], args := [], vararg := none, kwonlyargs := [], kw_defaults := [], kwarg := none, defaults := [] }
noncomputable def abZ (s : Stmt) : List Stmt := match s with
 | .FunctionDef _ _ b _ _ _ _ _ _ _ => b
 | _ => []
noncomputable def aan (s : Stmt) : Scope := match s with
 | .FunctionDef _ _ _ _ _ _ sc _ _ _ => sc
 | _ => { kind := .function, names := [], isGenerator := false, isCoroutine := false }
noncomputable abbrev E0 : XK := λ_ _ _ => False
structure Fun (K : PySem.W.Frag) (x qual : Str) (st : Stmt) (f : Addr) (fd : FuncData) : Prop where
 ex : ∃ (oc : Value) (od : Option Addr) (kV doc pm : Value) (an : Option Addr) (cdv ct : Value) (osl : Array (Option Value)),
  fd = PySem.W.fnOf x qual (acM st) (abZ st) (aan st) .none kV doc pm an cdv ct /\ K.lookup f = some ⟨oc, od, .func fd, osl⟩ /\ PySem.W.codeIn K cdv qual = true
 kp : PySem.W.keepIn K (.ref f) = true
section
variable {P : Program} {w : World} {K : PySem.W.Frag} {mg : Str -> Option Value} {base : Heap}
theorem Fun.binds {x qual : Str} {st : Stmt} {f : Addr} {fd : FuncData} {ps : List Str} (F : Fun K x qual st f fd)
  (h : ∀ (kV doc pm : Value) (an : Option Addr) (cdv ct : Value) (us : List Value), us.length = ps.length -> bindArgs (PySem.W.fnOf x qual (acM st) (abZ st) (aan st) .none kV doc pm an cdv ct) ⟨us, []⟩ = pure (ps.zip us)) : Binds K fd ps [] := by
 obtain ⟨oc, od, kV, doc, pm, an, cdv, ct, osl, rfl, lk, hcd⟩ := F.ex
 exact .all (h kV doc pm an cdv ct)
theorem aoV {x qual : Str} {st : Stmt} {f : Addr} {oc : Value} {od an : Option Addr} {osl : Array (Option Value)} {kV doc pm cdv ct : Value} (l : K.lookup f = some ⟨oc, od, .func (PySem.W.fnOf x qual (acM st) (abZ st) (aan st) .none kV doc pm an cdv ct), osl⟩)
  (c : PySem.W.codeIn K cdv qual = true) (k : PySem.W.keepIn K (.ref f) = true) : Fun K x qual st f (PySem.W.fnOf x qual (acM st) (abZ st) (aan st) .none kV doc pm an cdv ct) := ⟨⟨oc, od, kV, doc, pm, an, cdv, ct, osl, rfl, l, c⟩, k⟩
end
theorem ahY {n : Nat} (h : n <= 1000) : n < sizeLine := Nat.lt_of_le_of_lt h (by decide)
section
variable {X : Cx}
end
noncomputable def Same (H H' : Hp) : Prop := ∀ b o, H b = some o -> H' b = some o
theorem Same.refl (H : Hp) : Same H H := λ_ _ h => h
theorem Same.trans {H H1 H2 : Hp} (a : Same H H1) (b : Same H1 H2) : Same H H2 := λc o h => b c o (a c o h)
theorem Same.free {H H' : Hp} (e : Same H H') {l : Addr} (h : H' l = Option.none) : H l = Option.none := by
 cases q : H l with
 | none => rfl
 | some o =>
  rw [e l o q] at h
  cases h
theorem Same.seq {K : PySem.W.Frag} {H H' : Hp} {a : Addr} {xs : List V} (e : Same H H') (h : SqL K H a xs) : SqL K H' a xs := by
 rcases h with (h | ⟨o, h⟩) | h
 ·exact .inl (.inl (e _ _ h))
 ·exact .inl (.inr ⟨o, e _ _ h⟩)
 ·exact .inr h
end L2
end
section
namespace L2
open PySem PySem.Spec PyProof.Rows
section
variable {prog : Program} {w : World} {A : Around} {R : Result -> Shared -> Prop} {s : Shared}
theorem ai1 {elt target iter : Expr} {scope : Scope} {pos : Pos} {it acc : Value} {env : Env} (I : Nat -> Shared -> Prop)
  (turn : ∀ n s, I n s -> wpAny (model prog w) A (pyNext it) (λr s₁ => match r with
   | none => R (.ok .next) s₁
   | some v => wpAny (model prog w) A (letOwnedTupleGo target it v) (λ_ s₁' => wpAny (model prog w) A (assign target env v) (λ_ s₂ => wpAny (model prog w) A (eval elt env) (λx s₃ =>
     wpAny (model prog w) A (call (.builtin "list.append") [acc, x]) (λ_ s₄ => ∃ m, m < n /\ I m s₄) (λ_ _ => False) s₃) (λ_ _ => False) s₂) (λ_ _ => False) s₁') (λ_ _ => False) s₁) (λ_ _ => False) s)
  (n : Nat) (h : I n s) :
  codeAny (model prog w) A (.compLoop (.ListComp elt [⟨target, iter, [], 0⟩] scope pos) 0 it acc env) R s := by
 refine codeAny_loop rfl I (λn s hI => ?_) n h
 show wpAny _ _ ((compTurn (.ListComp elt [⟨target, iter, [], 0⟩] scope pos) 0 it acc env).onRaise (λx => do noteFrame x env; theTreesLotGoes x)) _ _ s
 refine wpAny_noted (wpAny_noRaise ?_)
 rw [compTurn_list1]
 refine wpAny_bind (wpAny_standAt (wpAny_bind (wpAny_mono (turn n s hI) (λr s₁ h₁ => ?_) λ_ _ h' => h')))
 cases r with
 | none => exact wpAny_pure h₁
 | some v =>
  refine wpAny_bind (wpAny_mono h₁ (λ_ s₁' h₁' => ?_) λ_ _ h' => h')
  exact wpAny_bind (wpAny_mono h₁' (λ_ s₂ h₂ => wpAny_bind (wpAny_bind (wpAny_mono h₂ (λx s₃ h₃ => wpAny_bind (wpAny_mono h₃
   (λ_ s₄ h₄ => wpAny_pure (wpAny_pure ⟨rfl, h₄⟩)) λ_ _ h' => h')) λ_ _ h' => h'))) λ_ _ h' => h')
end
noncomputable def aaL (cells : List (Str × Addr)) : List (Str × NameKind) -> List (Str × Addr) -> List (Str × Addr)
 | [], acc => acc
 | (n, k) :: r, acc => if k = .free then (match cells.lookup n with | some a => aaL cells r ((n, a) :: acc) | none => aaL cells r acc) else aaL cells r acc
theorem abR {cells : List (Str × Addr)} {x : Str} {c : Addr} : ∀ {names : List (Str × NameKind)} {acc : List (Str × Addr)}, (aaL cells names acc).lookup x = some c -> acc.lookup x = some c \/ cells.lookup x = some c
 | [], acc, h => .inl h
 | (n, k) :: r, acc, h => by
  unfold aaL at h
  split at h
  ·split at h
   ·rename_i a ha
    rcases abR h with q | q
    ·by_cases e : x = n
     ·subst e
      rw [List.lookup_cons, beq_self_eq_true] at q
      cases q
      exact .inr ha
     ·rw [List.lookup_cons, beq_false_of_ne e] at q
      exact .inl q
    ·exact .inr q
   ·exact abR h
  ·exact abR h
theorem abE {cells : List (Str × Addr)} {x : Str} : ∀ {names : List (Str × NameKind)} {acc : List (Str × Addr)}, ((acc.lookup x).isSome = true \/ ((x, NameKind.free) ∈ names /\ (cells.lookup x).isSome = true)) -> ((aaL cells names acc).lookup x).isSome = true
 | [], acc, h => by
  rcases h with h | ⟨h, _⟩
  ·exact h
  ·cases h
 | (n, k) :: r, acc, h => by
  have up : ∀ a, (acc.lookup x).isSome = true -> (List.lookup x ((n, a) :: acc)).isSome = true := λa q => by
   rw [List.lookup_cons]
   split
   ·rfl
   ·exact q
  unfold aaL
  split
  ·rename_i hk
   split
   ·rename_i a ha
    refine abE ?_
    rcases h with h | ⟨h, hc⟩
    ·exact .inl (up a h)
    ·rcases List.mem_cons.mp h with e | e
     ·cases e
      refine .inl ?_
      rw [List.lookup_cons, beq_self_eq_true]
      rfl
     ·exact .inr ⟨e, hc⟩
   ·rename_i hn
    refine abE ?_
    rcases h with h | ⟨h, hc⟩
    ·exact .inl h
    ·rcases List.mem_cons.mp h with e | e
     ·cases e
      rw [hn] at hc; cases hc
     ·exact .inr ⟨e, hc⟩
  ·rename_i hk
   refine abE ?_
   rcases h with h | ⟨h, hc⟩
   ·exact .inl h
   ·rcases List.mem_cons.mp h with e | e
    ·cases e; exact absurd rfl hk
    ·exact .inr ⟨e, hc⟩
theorem agM {scope : Scope} {env : Env} (h : ∀ y ∈ scope.names, y.2 = .free -> (env.cells.lookup y.1).isSome = true) : closureFor scope env = pure (aaL env.cells scope.names []) := by
 unfold closureFor
 suffices q : ∀ (names : List (Str × NameKind)) (acc : List (Str × Addr)), (∀ y ∈ names, y.2 = .free -> (env.cells.lookup y.1).isSome = true) ->
   (forIn names acc λx r => do
    match x with
    | (name, kind) => if (kind == NameKind.free) = true then do let a <-cellOf env name; pure (ForInStep.yield ((name, a) :: r)) else pure (ForInStep.yield r) : Sem _) = pure (aaL env.cells names acc) by
  have z := q scope.names [] h
  exact (congrArg (λm => m >>= λcs => pure cs) z)
 intro names
 induction names with
 | nil => intro acc _; rfl
 | cons y r ih =>
  intro acc hy
  obtain ⟨n, k⟩ := y
  rw [List.forIn_cons]
  unfold aaL
  by_cases hk : k = .free
  ·subst hk
   rw [if_pos rfl]
   have q := hy (n, .free) List.mem_cons_self rfl
   cases e : env.cells.lookup n with
   | none => rw [e] at q; cases q
   | some a =>
    have ec : cellOf env n = pure a := by unfold cellOf; rw [e]
    simp only [ec]
    exact ih _ λz hz => hy z (List.mem_cons_of_mem _ hz)
  ·rw [if_neg hk]
   have hb : (k == NameKind.free) = false := by simpa using hk
   simp only [hb]
   exact ih _ λz hz => hy z (List.mem_cons_of_mem _ hz)
noncomputable def anG (scope sc : Scope) : Scope :=
 { scope with names := scope.names.map λ(n, k) => if (k == .free && sc.kind == .function && sc.names.lookup n == some .cell) then (n, .cell) else (n, k) }
theorem acN {env : Env} : ∀ {names : List (Str × NameKind)} {x : Str}, names.lookup x = some .free ->
  (names.map λ(n, k) => if (k == NameKind.free && env.scope.kind == .function && env.kindOf n == some .cell) then (n, NameKind.cell) else (n, k)).lookup x = some .cell \/
  (names.map λ(n, k) => if (k == NameKind.free && env.scope.kind == .function && env.kindOf n == some .cell) then (n, NameKind.cell) else (n, k)).lookup x = some .free
 | [], _, h => by simp at h
 | (n, k) :: r, x, h => by
  have ih := @acN env r x
  rw [List.map_cons]
  dsimp only
  cases hx : x == n with
  | true =>
   simp only [List.lookup_cons, hx] at h
   cases h
   by_cases hc : (NameKind.free == NameKind.free && env.scope.kind == .function && env.kindOf n == some .cell) = true
   ·rw [if_pos hc]; simp [List.lookup_cons, hx]
   ·rw [if_neg hc]; simp [List.lookup_cons, hx]
  | false =>
   simp only [List.lookup_cons, hx] at h
   by_cases hc : (k == NameKind.free && env.scope.kind == .function && env.kindOf n == some .cell) = true
   ·rw [if_pos hc]; simp only [List.lookup_cons, hx]; exact ih h
   ·rw [if_neg hc]; simp only [List.lookup_cons, hx]; exact ih h
theorem afj {env : Env} : ∀ {names : List (Str × NameKind)} {x : Str},
  ((names.map λ(n, k) => if (k == NameKind.free && env.scope.kind == .function && env.kindOf n == some .cell) then (n, NameKind.cell) else (n, k)).lookup x = some .cell \/
  (names.map λ(n, k) => if (k == NameKind.free && env.scope.kind == .function && env.kindOf n == some .cell) then (n, NameKind.cell) else (n, k)).lookup x = some .free) -> names.lookup x = some .cell \/ names.lookup x = some .free
 | [], _, h => by simp at h
 | (n, k) :: r, x, h => by
  have ih := @afj env r x
  rw [List.map_cons] at h
  dsimp only at h
  cases hx : x == n with
  | true =>
   by_cases hcc : (k == NameKind.free && env.scope.kind == .function && env.kindOf n == some .cell) = true
   ·have hk : k = .free := by
     simp only [Bool.and_eq_true, beq_iff_eq] at hcc
     exact hcc.1.1
    subst hk
    exact .inr (by simp only [List.lookup_cons, hx])
   ·rw [if_neg hcc] at h
    simp only [List.lookup_cons, hx] at h ⊢
    exact h
  | false =>
   have q := ih (by
    by_cases hcc : (k == NameKind.free && env.scope.kind == .function && env.kindOf n == some .cell) = true
    ·rw [if_pos hcc] at h; simp only [List.lookup_cons, hx] at h; exact h
    ·rw [if_neg hcc] at h; simp only [List.lookup_cons, hx] at h; exact h)
   simp only [List.lookup_cons, hx]
   exact q
theorem abD : ∀ (names : List (Str × NameKind)) (n : Nat) (acc : List (Str × Addr)), cellsFrom n names acc = cellsFrom n names [] ++ acc
 | [], _, _ => rfl
 | (x, k) :: r, n, acc => by
  unfold cellsFrom
  split
  ·rw [abD r (n + 1) ((x, n) :: acc), abD r (n + 1) [(x, n)], List.append_assoc]
   rfl
  ·exact abD r n acc
theorem ac5 : ∀ (names : List (Str × NameKind)) (n : Nat) {x : Str} {c : Addr}, (x, c) ∈ cellsFrom n names [] -> (x, NameKind.cell) ∈ names
 | [], _, _, _, h => by cases h
 | (y, k) :: r, n, x, c, h => by
  unfold cellsFrom at h
  split at h
  ·rename_i hk
   have hk : k = .cell := by simpa using hk
   rw [abD] at h
   rcases List.mem_append.mp h with z | z
   ·exact List.mem_cons_of_mem _ (ac5 r _ z)
   ·have z := List.mem_singleton.mp z
    cases z
    rw [hk]
    exact List.mem_cons_self
  ·exact List.mem_cons_of_mem _ (ac5 r _ h)
theorem ac9 (x : Str) : ∀ (a b : List (Str × Addr)), (a ++ b).lookup x = (match a.lookup x with | some c => some c | none => b.lookup x)
 | [], _ => rfl
 | (y, c) :: r, b => by
  have ih := ac9 x r b
  rw [List.cons_append, List.lookup_cons, List.lookup_cons]
  cases h : x == y with
  | true => rfl
  | false => exact ih
theorem aft {M : Model} {A : Around} {E : Value -> Shared -> Prop} {s : Shared} {scope : Scope} {globals : Addr} {cl : List (Str × Addr)} {qual : Str} {env : Env} {Q : Env -> Shared -> Prop}
  (hQ : ∀ h', h'.Ns s.heap.objs.size (λ_ => none) -> (∀ b o, s.heap.get? b = some o -> h'.get? b = some o) -> CellsOk h' (s.heap.objs.size + 1) (cellsFrom (s.heap.objs.size + 1) scope.names []) ->
   Q { scope := scope, locals := s.heap.objs.size, globals := globals, cells := cellsFrom (s.heap.objs.size + 1) scope.names cl, qual := qual, func := none, code := env.code, frame := env.frame, builtins := env.builtins } { s with heap := h', toks := s.toks + ([] : List (Str × Value)).length }) :
  wpAny M A (newFunctionEnv scope globals cl [] qual none .none (some env)) Q E s := by
 simp only [newFunctionEnv, Option.isSome_some, if_true]
 refine wpAny_bind (wpAny_alloc ?_)
 refine wpAny_bind (wpAny_layCells _ (λname kind cells => by cases hkc : kind == NameKind.cell <;> simp [hkc]) _ _ _ _ ?_)
 have ok := cellsFrom_ok scope.names (s.heap.push { cls := .type "dict", data := .dict #[] }) (s.heap.objs.size + 1) [] ⟨λ_ _ hm => (nomatch hm), List.Pairwise.nil⟩ (by rw [Heap.size_push]; exact Nat.le_refl _)
 rw [Heap.size_push] at ok
 rw [show ({ s with heap := s.heap.push { cls := .type "dict", data := .dict #[] } } : Shared).heap.objs.size = s.heap.objs.size + 1 from Heap.size_push ..]
 rw [List.forIn_nil]
 exact wpAny_bind (wpAny_pure (wpAny_pure (hQ _ ((Heap.Ns.new s.heap (.type "dict")).keeps (pushCells_keeps _ _)) (λb o e => pushCells_keeps _ _ b o (Heap.get?_push_of_some _ e)) ok)))
structure aj6 (sc : Scope) (No N : List Str) (src : List (Option Nat)) (scope : Scope) : Prop where
 kind : scope.kind = .function
 cells : ∀ y ∈ scope.names, y.2 = .cell -> scope.names.lookup y.1 = some .cell
 names : ∀ y ∈ scope.names, y.2 = .local -> scope.names.lookup y.1 = some .local
 free : ∀ y ∈ scope.names, y.2 = .free -> sc.names.lookup y.1 = some .cell \/ sc.names.lookup y.1 = some .free
 len : src.length = N.length
 up : ∀ p ∈ N.zip src, ∀ j ∈ p.2, No[j]? = some p.1 /\ scope.names.lookup p.1 = some .free
noncomputable def aeV (src : List (Option Nat)) (σ : St) : St := src.map λo => o.bind λj => (σ[j]?).join
noncomputable def adD (X : Cx) (N : List Str) (scope : Scope) (C : Addr) (s : Shared) (H : Hp) (ex : List Addr) : Cx where
 prog := X.prog
 w := X.w
 K := X.K
 mg := X.mg
 base := X.base
 A := X.A
 N := N
 s₀ := s
 H₀ := H
 env := compEnvC scope (cellsFrom (C + 1) scope.names (aaL X.env.cells scope.names [])) C X.env
 outer := X.stack
 stack := X.stack
 ex := ex
 fn := λx => scope.names.lookup x == some .cell
 calm := X.calm
 pn := []
 xe := λ_ _ => False
noncomputable def QAt (Q : VK) (D : Addr) (H : Hp) : Prop := Q (.ref D) H
noncomputable def akV (wi : TI) (g : TG) (src : List (Option Nat)) (te : TE) : TE := λσ H Q => wi σ H λJ H1 => ∀ D, H1 D = none ->
 ∃ W : Nat -> Nat -> St -> Hp -> Prop, (∃ m, W 0 m (aeV src σ) (upd H1 D (.lst []))) /\ ∀ i m σ' H', W i m σ' H' ->
  (J.stop i H' /\ QAt Q D H') \/ (J.go i H' /\ ∀ x H'', J.yld i H' x H'' -> g x σ' H'' λσ2 H2 => te σ2 H2 λv H3 => ∃ xs, H3 D = some (.lst xs) /\ xs.length < sizeLine /\ ∃ m', m' < m /\ W (i + 1) m' σ2 (upd H3 D (.lst (xs ++ [v]))))
section
variable {X : Cx} {elt tg iter : Expr} {scope sc : Scope} {pos : Pos} {No N : List Str} {src : List (Option Nat)} {wi : TI} {g : TG} {te : TE}
theorem akW {pins : List (Addr × Obj)} {σ : St} {H : Hp} {s : Shared} {h₁ : Heap} {fp : List Addr} {tk : Nat} (hsc : X.env.scope = sc) (hNo : X.N = No) (S : aj6 sc No N src scope) (I : Inv X pins σ H s)
  (hf : ∀ b ∈ fp, aeY X pins H b) (hlt : ∀ b ∈ fp, b < s.heap.objs.size)
  (hns : h₁.Ns s.heap.objs.size (λ_ => none)) (old : ∀ b o, s.heap.get? b = some o -> h₁.get? b = some o) (ck : CellsOk h₁ (s.heap.objs.size + 1) (cellsFrom (s.heap.objs.size + 1) scope.names [])) :
  Inv (adD X N scope s.heap.objs.size s H fp) [] (aeV src σ) H { s with heap := h₁, toks := tk } := by
 subst hsc
 subst hNo
 have ae1 : ∀ x c, (cellsFrom (s.heap.objs.size + 1) scope.names (aaL X.env.cells scope.names [])).lookup x = some c -> (cellsFrom (s.heap.objs.size + 1) scope.names []).lookup x = some c \/ X.env.cells.lookup x = some c := λx c h => by
  rw [abD, ac9] at h
  split at h
  ·rename_i e
   exact .inl (e.trans h)
  ·rcases abR h with q | q
   ·simp at q
   ·exact .inr q
 have big : ∀ x c, (cellsFrom (s.heap.objs.size + 1) scope.names []).lookup x = some c -> s.heap.objs.size + 1 <= c := λx c h => (ck.empty x c (PySem.mem_of_lookup h)).2
 have ltc : ∀ x c, X.env.cells.lookup x = some c -> c < s.heap.objs.size := λx c e => by
  obtain ⟨v, q⟩ := I.cell x c e
  exact q.lt
 have azD : ∀ b ∈ frs X.stack, b < s.heap.objs.size := λb hb => by
  obtain ⟨_, o, ho, _⟩ := I.stack.mem hb
  exact Heap.lt_size ho
 refine ⟨⟨I.ok.mod, S.kind, I.ok.glob, I.ok.blt, Nat.le_refl _, λx y c h1 h2 => ?_, λx hx => ?_, λx c hfn h => ?_, I.ok.hd, I.ok.frames, .inl rfl, λb hb => ⟨Nat.ne_of_lt (hlt b hb), λx c e => ?_⟩,
   I.bs, Nat.le_trans I.ok.bsz I.sz, λb o e hb => ?_, λb hb hb' => ?_, I.stack, I.aeX⟩,
  rfl, I.bare, Un.kept old, ⟨_, hns, λi x v h1 h2 h3 => ?_⟩, λx c e => ?_, I.hok.fresh (Nat.le_refl _), λx c e => ?_, λp hp => absurd (show p ∈ ([] : List (Addr × Obj)) from hp) (by simp), I.hok.kept old, ?_⟩
 ·rcases ae1 _ _ h1 with z1 | z1
  ·rcases ae1 _ _ h2 with z2 | z2
   ·exact name_of_addr ck.apart (PySem.mem_of_lookup z1) (PySem.mem_of_lookup z2)
   ·exact absurd (Nat.le_trans (big _ _ z1) (Nat.le_of_lt (ltc _ _ z2))) (Nat.not_succ_le_self _)
  ·rcases ae1 _ _ h2 with z2 | z2
   ·exact absurd (Nat.le_trans (big _ _ z2) (Nat.le_of_lt (ltc _ _ z1))) (Nat.not_succ_le_self _)
   ·exact I.ok.inj x y c z1 z2
 ·-- every cell or free name has its cell
  rcases afj hx with m | m
  ·exact Option.isSome_iff_exists.mp (PySem.W.cellsFrom_some _ _ _ (.inl m))
  ·have m := PySem.mem_of_lookup m
   have q := abE (cells := X.env.cells) (acc := []) (.inr ⟨m, by
    obtain ⟨c, e⟩ := I.ok.has x (S.free _ m rfl)
    rw [e]; rfl⟩)
   exact Option.isSome_iff_exists.mp (PySem.W.cellsFrom_some _ _ _ (.inr q))
 ·have hfn : scope.names.lookup x = some .cell := by
   have z : (scope.names.lookup x == some .cell) = true := hfn
   simpa using z
  obtain ⟨c', e'⟩ := Option.isSome_iff_exists.mp (PySem.W.cellsFrom_some _ (s.heap.objs.size + 1) [] (.inl hfn))
  have h : (cellsFrom (s.heap.objs.size + 1) scope.names (aaL X.env.cells scope.names [])).lookup x = some c := h
  rw [abD, ac9, e'] at h
  cases h
  exact Nat.le_of_succ_le (big _ _ e')
 ·rcases ae1 _ _ e with z | z
  ·exact λy => absurd (Nat.le_trans (big _ _ z) (y ▸ Nat.le_of_lt (hlt b hb))) (Nat.not_succ_le_self _)
  ·exact (hf b hb).2.2.2.2.1 x c z
 ·obtain ⟨f0, f1, f2, f3, f4, f5⟩ := hf b hb
  rcases f3 with z | z
  ·exact I.ok.aiV b o e z
  ·have q := Heap.lt_size (I.ok.bs b o e).1
   exact absurd q (Nat.not_lt.mpr z)
 ·obtain ⟨f0, f1, f2, _⟩ := hf b hb
  rcases List.mem_cons.mp (I.ajU b hb') with z | z
  ·exact f1 z
  ·exact f2 z
 ·have hi : i < src.length := by
   unfold aeV at h2
   have := (List.getElem?_eq_some_iff.mp h2).1
   simpa using this
  have h2' : ((src[i]).bind λj => (σ[j]?).join) = some v := by
   unfold aeV at h2
   rw [List.getElem?_map, List.getElem?_eq_getElem hi] at h2
   exact Option.some.inj h2
  cases es : src[i] with
  | none => rw [es] at h2'; cases h2'
  | some j =>
   rw [es] at h2'
   have hj : σ[j]? = some (some v) := by
    have z : (σ[j]?).join = some v := h2'
    cases q : σ[j]? with
    | none => rw [q] at z; cases z
    | some o => rw [q] at z; have z' : o = some v := z; rw [z']
   have hz : (x, some j) ∈ N.zip src := by
    refine List.mem_of_getElem? (i := i) ?_
    rw [List.getElem?_zip_eq_some]
    exact ⟨h1, by rw [List.getElem?_eq_getElem hi, es]⟩
   obtain ⟨u1, u2⟩ := S.up _ hz j rfl
   have m : (x, NameKind.free) ∈ scope.names := PySem.mem_of_lookup u2
   have kx := S.free _ m rfl
   obtain ⟨m0, hn0, hl0⟩ := id I.loc
   obtain ⟨u, r, lk⟩ := hl0 j x v u1 hj (kx.elim (λz => .inr (.inl z)) λz => .inr (.inr z))
   refine ⟨u, r, ?_⟩
   rcases lk with ⟨k, _⟩ | ⟨_, c, e, ic⟩
   ·have k' : X.env.scope.names.lookup x = some .local := k
    rcases kx with z | z
    ·rw [z] at k'; cases k'
    ·rw [z] at k'; cases k'
   ·refine .inr ⟨acN u2, c, ?_, ?_⟩
    ·have q := abE (cells := X.env.cells) (acc := []) (.inr ⟨m, by rw [e]; rfl⟩)
     obtain ⟨c', e'⟩ := Option.isSome_iff_exists.mp q
     have e2 : X.env.cells.lookup x = some c' := by
      rcases abR e' with q | q
      ·simp at q
      ·exact q
     rw [e] at e2; cases e2
     show (cellsFrom (s.heap.objs.size + 1) scope.names (aaL X.env.cells scope.names [])).lookup x = some c
     rw [abD, ac9]
     split
     ·rename_i c2 z
      have y := S.cells _ (ac5 _ _ (PySem.mem_of_lookup z)) rfl
      rw [u2] at y; cases y
     ·exact e'
    ·obtain ⟨o, ho, hd⟩ := ic
     exact ⟨o, old _ _ ho, hd⟩
 ·rcases ae1 _ _ e with z | z
  ·exact ⟨_, (ck.empty x c (PySem.mem_of_lookup z)).1⟩
  ·obtain ⟨v, o, ho, hd⟩ := I.cell x c z
   exact ⟨v, o, old _ _ ho, hd⟩
 ·rcases ae1 _ _ e with z | z
  ·exact I.hok.fresh (Nat.le_of_succ_le (big _ _ z))
  ·exact I.aer x c z
 ·unfold aeV
  rw [List.length_map]
  exact S.len
theorem anH {pins : List (Addr × Obj)} {σ : St} {H : Hp} {s : Shared} {Q : VK} {RR : Value -> Addr -> Result -> Shared -> Prop} (hsc : X.env.scope = sc) (hNo : X.N = No) (S : aj6 sc No N src scope) (hc : X.calm = true)
  (hi : PI X tg iter wi) (hg : ∀ C s H ex, PG (adD X N scope C s H ex) tg g) (he : ∀ C s H ex, PE (adD X N scope C s H ex) elt te) (I : Inv X pins σ H s) (h : akV wi g src te σ H Q)
  (hRR : ∀ D C H' s' m, Inv X pins σ H' s' -> H' C = none -> C ≠ X.env.locals -> X.s₀.heap.objs.size <= C -> (∀ x c, X.env.cells.lookup x = some c -> c ≠ C) -> (∀ p ∈ X.pn ++ pins, p.1 ≠ C) -> s'.heap.Ns C m -> Q (.ref D) H' -> RR (.ref D) C (.ok .next) s') :
  wpAny (model X.prog X.w) X.A (eval iter X.env) (λx s₁ => wpAny (model X.prog X.w) X.A (pyIter x) (λit s₂ => wpAny (model X.prog X.w) X.A (newList []) (λacc s₃ =>
   wpAny (model X.prog X.w) X.A (newFunctionEnv scope X.env.globals (aaL X.env.cells scope.names []) [] X.env.qual none .none (some X.env)) (λcenv s₄ =>
    codeAny (model X.prog X.w) X.A (.compStart (.ListComp elt [⟨tg, iter, [], 0⟩] scope pos) 0 it acc { cenv with scope := relabel scope X.env }) (RR acc cenv.locals) s₄) X.xe s₃) X.xe s₂) X.xe s₁) X.xe s := by
 refine thn (hi pins s σ H _ I h) λv s1 h1 => thn h1 λitv s2 h2 => ?_
 obtain ⟨it, fp, tn, J, H2, e, I2, T, st2, f2, hW⟩ := h2
 subst e
 have hD0 : H2 s2.heap.objs.size = none := I2.hok.fresh (Nat.le_refl _)
 obtain ⟨W, ⟨m0, w0⟩, turn⟩ := hW s2.heap.objs.size hD0
 have awR : ∀ b ∈ fp, b < s2.heap.objs.size := λb hb => by
  obtain ⟨o, e, _⟩ := T.obj 0 _ st2 b hb
  exact Heap.lt_size e
 refine wpAny_newObj_type ?_
 have I3 : Inv X pins σ (upd H2 s2.heap.objs.size (.lst [])) { s2 with heap := s2.heap.push { cls := .type "list", dict := none, data := .seq ([] : List Value).toArray } } := I2.au1 (t' := s2.toks) (ys := []) .nil (Nat.zero_le _)
 have f3 : ∀ b ∈ fp, aeY X pins (upd H2 s2.heap.objs.size (.lst [])) b := λb hb => by
  obtain ⟨q, r⟩ := f2 b hb
  exact ⟨by rw [aaw (Nat.ne_of_lt (awR b hb))]; exact q, r⟩
 have st3 : tn 0 (s2.heap.push { cls := .type "list", dict := none, data := .seq ([] : List Value).toArray }) := T.keep _ _ _ st2 λb hb o e => Heap.get?_push_of_some _ e
 have lt3 : ∀ b ∈ fp, b < (s2.heap.push { cls := .type "list", dict := none, data := .seq ([] : List Value).toArray }).objs.size := λb hb => by
  rw [Heap.size_push]; exact Nat.lt_succ_of_lt (awR b hb)
 generalize hD : s2.heap.objs.size = D at *
 generalize hh3 : s2.heap.push { cls := .type "list", dict := none, data := .seq ([] : List Value).toArray } = h3 at *
 generalize hH3 : upd H2 D (.lst []) = H3 at *
 refine aft λh₁ hns old ck => ?_
 dsimp only at hns old ck ⊢
 have I4 : Inv (adD X N scope h3.objs.size { s2 with heap := h3 } H3 fp) [] (aeV src σ) H3 { s2 with heap := h₁, toks := s2.toks + ([] : List (Str × Value)).length } := akW (s := { s2 with heap := h3 }) hsc hNo S I3 f3 lt3 hns old ck
 have st4 : tn 0 h₁ := T.keep _ _ _ st3 λb hb o e => old b o e
 have loop : codeAny (model X.prog X.w) X.A (.compLoop (.ListComp elt [⟨tg, iter, [], 0⟩] scope pos) 0 (.ref it) (.ref D) (compEnvC scope (cellsFrom (h3.objs.size + 1) scope.names (aaL X.env.cells scope.names [])) h3.objs.size X.env)) (RR (.ref D) h3.objs.size) { s2 with heap := h₁, toks := s2.toks + ([] : List (Str × Value)).length } := by
  have stat : ∀ {H' : Hp}, (∀ b ∈ fp, H' b = none) -> ∀ b ∈ fp, aeY (adD X N scope h3.objs.size { s2 with heap := h3 } H3 fp) [] H' b := λhn b hb => by
   obtain ⟨g0, g1, g2, g3, g4, g5⟩ := f3 b hb
   refine ⟨hn b hb, Nat.ne_of_lt (lt3 b hb), λz => ?_, .inl hb, λx c e => ?_, λp hp => absurd (show p ∈ ([] : List (Addr × Obj)) from hp) (by simp)⟩
   ·rcases List.mem_cons.mp (I3.ajU b z) with z | z
    ·exact g1 z
    ·exact g2 z
   ·have e : (cellsFrom (h3.objs.size + 1) scope.names (aaL X.env.cells scope.names [])).lookup x = some c := e
    rw [abD, ac9] at e
    split at e
    ·rename_i z
     cases e
     exact λy => absurd (Nat.le_trans (ck.empty x c (PySem.mem_of_lookup z)).2 (y ▸ Nat.le_of_lt (lt3 b hb))) (Nat.not_succ_le_self _)
    ·rcases abR e with q | q
     ·simp at q
     ·exact g4 x c q
  refine ai1 (λn s' => ∃ i σ' H', Inv (adD X N scope h3.objs.size { s2 with heap := h3 } H3 fp) [] σ' H' s' /\ tn i s'.heap /\ (∀ b ∈ fp, H' b = none) /\ W i n σ' H') ?_ m0 ⟨0, aeV src σ, H3, I4, st4, λb hb => (f3 b hb).1, w0⟩
  rintro n s5 ⟨i, σ5, H5, I5, st5, fr5, w5⟩
  rcases turn i n σ5 H5 w5 with ⟨stop, qn⟩ | ⟨go, step⟩
  ·refine thn (T.done (adD X N scope h3.objs.size { s2 with heap := h3 } H3 fp) rfl rfl rfl hc i [] s5 σ5 H5 (λ_ _ => False) I5 (stat fr5) st5 stop) λr s6 ⟨hr, I6⟩ => ?_
   subst hr
   obtain ⟨mC, hnC, _⟩ := id I6.loc
   have I7 : Inv X pins σ H5 s6 := I3.call' (ch := fp) I6.os I6.base I6.hok I6.bare λb hb => by
    obtain ⟨g0, g1, g2, g3, g4, g5⟩ := f3 b hb
    exact ⟨g3, g1, g4, g5⟩
   refine hRR D h3.objs.size H5 s6 mC I7 I6.free (Nat.ne_of_gt I3.lt) I3.sz (λx c e z => ?_) (λp hp z => ?_) hnC qn
   ·obtain ⟨v, q⟩ := I3.cell x c e
    exact absurd q.lt (by rw [z]; exact Nat.lt_irrefl _)
   ·exact absurd (Heap.lt_size (I3.pin p hp).1) (by rw [z]; exact Nat.lt_irrefl _)
  ·refine thn (T.item (adD X N scope h3.objs.size { s2 with heap := h3 } H3 fp) rfl rfl rfl hc i [] s5 σ5 H5 (λ_ _ => False) I5 (stat fr5) st5 go) λr s6 ⟨u, hr, h6⟩ => ?_
   subst hr
   refine thn h6 λ_ s7 ⟨x, H7, I7, r7, y7, st7, fr7⟩ => ?_
   have I7' := I7.pinned (stat fr7) (T.obj _ _ st7)
   refine thn (hg _ _ _ _ _ s7 σ5 H7 x u _ I7' r7 (step x H7 y7)) λ_ s8 ⟨σ8, H8, I8, q8⟩ => ?_
   refine thn (he _ _ _ _ _ s8 σ8 H8 _ I8 q8) λyv s9 ⟨y, H9, I9, r9, q9⟩ => ?_
   obtain ⟨xs, e9, l9, m', hm, w9⟩ := q9
   refine thn (ahW (X := adD X N scope h3.objs.size { s2 with heap := h3 } H3 fp) _ s9 σ8 H9 (.ref D) [y] (.ref D) [yv] (λ_ H' => W (i + 1) m' σ8 H') I9 rfl (.cons r9 .nil) ⟨D, xs, y, rfl, rfl, e9, l9, w9⟩) λ_ s10 ⟨_, H10, I10, _, q10⟩ => ?_
   refine ⟨m', hm, i + 1, σ8, H10, I10.afG (pins := []), T.keep _ _ _ st7 λb hb o e => (I10.pin (b, o) (List.mem_append_right _ (List.mem_append_right _ (adT hb e)))).1, λb hb => ?_, q10⟩
   obtain ⟨o, e, d⟩ := T.obj _ _ st7 b hb
   exact (I10.pin (b, o) (List.mem_append_right _ (List.mem_append_right _ (adT hb e)))).2.1
 exact codeAny_compStart_list loop (T.self _ _ _ _ _ st4 loop)
theorem acO (hsc : X.env.scope = sc) (hNo : X.N = No) (S : aj6 sc No N src scope) (hc : X.calm = true)
  (hi : PI X tg iter wi) (hg : ∀ C s H ex, PG (adD X N scope C s H ex) tg g) (he : ∀ C s H ex, PE (adD X N scope C s H ex) elt te)
  (hs : ∀ x, foldedSetIterable iter X.env x = pure x := by intro _; rfl) : PE X (.ListComp elt [⟨tg, iter, [], 0⟩] scope pos) (akV wi g src te) := by
 refine ⟨λpins s σ H Q I h => ?_⟩
 rw [eval_ListComp]
 have hcl : closureFor scope X.env = pure (aaL X.env.cells scope.names []) := agM λy hy e => by
  have k := S.free y hy e
  rw [<-hsc] at k
  obtain ⟨c, q⟩ := I.ok.has y.1 k
  rw [q]; rfl
 refine wpAny_comprehension_free (use := none) rfl hs hcl S.kind S.names (anH (RR := λacc C => compPost (model X.prog X.w) X.A X.xe none (EP X pins σ Q) acc C) hsc hNo S hc hi hg he I h ?_)
 intro D C H' s' m I' n1 n2 n3 n4 n5 hn q
 refine ⟨m, hn, λh' hs' => ⟨.ref D, H', ?_, rfl, q⟩⟩
 exact I'.turned (t' := s'.toks) (λb o hb e => (hs'.2 b hb).trans e) n1 (Ne.symm (Ne.symm n2)) (.inr n3) n4 n5
end
section
variable {K : PySem.W.Frag} {g : TG} {te : TE} {Q : VK}
end
end L2
end
section
namespace L2
open PySem PySem.Spec PyProof.Rows
noncomputable def aut (e C : Addr) (h : Heap) : Prop := ∃ o vs, h.get? e = some o /\ o.cls = .ref C /\ o.data = .fields vs
noncomputable def exO (e C : Addr) : HO := .ext (aut e C)
noncomputable def acf : List Str := ["NoBottom", "NoBook", "NoList", "NoRule", "NoCount", "NoLooks", "NoThings", "NotSure", "NoSlack", "NoThing", "NoWorth", "TooMany", "NoText", "NoLine"]
inductive Tr where
 | non | bl (b : Bool) | int (i : Int) | str (x : Str) | tup (ts : List Tr) | lst (ts : List Tr) | exn (c : Str)
mutual
inductive Rep (K : PySem.W.Frag) (H : Hp) : V -> Tr -> Prop
 | non : Rep K H .non .non
 | bl (b : Bool) : Rep K H (.bl b) (.bl b)
 | int (i : Int) : Rep K H (.int i) (.int i)
 | str (x : Str) : Rep K H (.str x) (.str x)
 | tup {a : Addr} {xs : List V} {ts : List Tr} (h : SqT K H a xs) (r : aa3 K H xs ts) : Rep K H (.ref a) (.tup ts)
 | lst {a : Addr} {xs : List V} {ts : List Tr} (h : SqL K H a xs) (r : aa3 K H xs ts) : Rep K H (.ref a) (.lst ts)
 | exn {a C : Addr} {c : Str} (h : H a = some (exO a C)) (m : c ∈ acf) (n : PySem.W.nsIn K mainGlobals c = some (some (.ref C))) : Rep K H (.ref a) (.exn c)
inductive aa3 (K : PySem.W.Frag) (H : Hp) : List V -> List Tr -> Prop
 | nil : aa3 K H [] []
 | cons {x : V} {t : Tr} {xs : List V} {ts : List Tr} (h : Rep K H x t) (r : aa3 K H xs ts) : aa3 K H (x :: xs) (t :: ts)
end
theorem Same.arb {K : PySem.W.Frag} {H H' : Hp} {a : Addr} {xs : List V} (e : Same H H') (h : SqT K H a xs) : SqT K H' a xs := by
 rcases h with (h | ⟨o, h⟩) | h
 ·exact .inl (.inl (e _ _ h))
 ·exact .inl (.inr ⟨o, e _ _ h⟩)
 ·exact .inr h
mutual
theorem Rep.mono {K : PySem.W.Frag} {H H' : Hp} (e : Same H H') : ∀ {v : V} {t : Tr}, Rep K H v t -> Rep K H' v t
 | _, _, .non => .non
 | _, _, .bl b => .bl b
 | _, _, .int i => .int i
 | _, _, .str x => .str x
 | _, _, .tup h r => .tup (e.arb h) (aa3.mono e r)
 | _, _, .lst h r => .lst (e.seq h) (aa3.mono e r)
 | _, _, .exn h m n => .exn (e _ _ h) m n
theorem aa3.mono {K : PySem.W.Frag} {H H' : Hp} (e : Same H H') : ∀ {v : List V} {t : List Tr}, aa3 K H v t -> aa3 K H' v t
 | _, _, .nil => .nil
 | _, _, .cons h r => .cons (Rep.mono e h) (aa3.mono e r)
end
theorem aa3.length {K : PySem.W.Frag} {H : Hp} : ∀ {v : List V} {t : List Tr}, aa3 K H v t -> v.length = t.length
 | _, _, .nil => rfl
 | _, _, .cons _ r => by rw [List.length_cons, List.length_cons, aa3.length r]
theorem aa3.get {K : PySem.W.Frag} {H : Hp} : ∀ {v : List V} {t : List Tr} {i : Nat} {x : V}, aa3 K H v t -> v[i]? = some x -> ∃ u, t[i]? = some u /\ Rep K H x u
 | _, _, _, _, .nil, e => by simp at e
 | _, _, 0, _, .cons h _, e => by
  simp at e
  subst e
  exact ⟨_, rfl, h⟩
 | _, _, i + 1, x, .cons _ r, e => by
  obtain ⟨u, h1, h2⟩ := aa3.get (i := i) (x := x) r (by simpa using e)
  exact ⟨u, by simpa using h1, h2⟩
theorem aa3.app {K : PySem.W.Frag} {H : Hp} : ∀ {v w : List V} {t u : List Tr}, aa3 K H v t -> aa3 K H w u -> aa3 K H (v ++ w) (t ++ u)
 | _, _, _, _, .nil, s => s
 | _, _, _, _, .cons h r, s => .cons h (aa3.app r s)
theorem aa3.take {K : PySem.W.Frag} {H : Hp} : ∀ {v : List V} {t : List Tr} (n : Nat), aa3 K H v t -> aa3 K H (v.take n) (t.take n)
 | _, _, 0, _ => by rw [List.take_zero, List.take_zero]; exact .nil
 | _, _, n + 1, .nil => by simpa using aa3.nil
 | _, _, n + 1, .cons h r => by
  rw [List.take_succ_cons, List.take_succ_cons]
  exact .cons h (aa3.take n r)
theorem aa3.drop {K : PySem.W.Frag} {H : Hp} : ∀ {v : List V} {t : List Tr} (n : Nat), aa3 K H v t -> aa3 K H (v.drop n) (t.drop n)
 | _, _, 0, r => by rw [List.drop_zero, List.drop_zero]; exact r
 | _, _, n + 1, .nil => by simpa using aa3.nil
 | _, _, n + 1, .cons h r => by
  rw [List.drop_succ_cons, List.drop_succ_cons]
  exact aa3.drop n r
mutual
noncomputable def dep : Tr -> Nat
 | .tup ts => deps ts + 1
 | .lst ts => deps ts + 1
 | .exn _ => 100
 | _ => 0
noncomputable def deps : List Tr -> Nat
 | [] => 0
 | t :: r => max (dep t) (deps r)
end
mutual
noncomputable def eqT : Tr -> Tr -> Bool
 | .non, .non => true
 | .bl a, .bl b => a == b
 | .bl a, .int b => (if a then 1 else 0) == b
 | .int a, .bl b => a == (if b then 1 else 0)
 | .int a, .int b => a == b
 | .str a, .str b => a == b
 | .tup a, .tup b => anp a b
 | .lst a, .lst b => anp a b
 | .exn a, .exn b => a == b
 | _, _ => false
noncomputable def anp : List Tr -> List Tr -> Bool
 | [], [] => true
 | a :: x, b :: y => eqT a b && anp x y
 | _, _ => false
end
mutual
theorem afI : ∀ t : Tr, eqT t t = true
 | .non => rfl
 | .bl b => by unfold eqT; exact beq_self_eq_true b
 | .int i => by unfold eqT; exact beq_self_eq_true i
 | .str x => by unfold eqT; exact beq_self_eq_true x
 | .tup ts => by unfold eqT; exact afY ts
 | .lst ts => by unfold eqT; exact afY ts
 | .exn c => by unfold eqT; exact beq_self_eq_true c
theorem afY : ∀ ts : List Tr, anp ts ts = true
 | [] => rfl
 | t :: r => by unfold anp; rw [afI t, afY r]; rfl
end
theorem aew : ∀ {a b : List Tr}, a.length ≠ b.length -> anp a b = false
 | [], [], h => absurd rfl h
 | [], _ :: _, _ => rfl
 | _ :: _, [], _ => rfl
 | x :: a, y :: b, h => by
  unfold anp
  rw [aew (a := a) (b := b) (by simpa using h), Bool.and_false]
noncomputable def atE (a b : List Tr) (j : Nat) : Bool := match a[j]?, b[j]? with
 | some x, some y => eqT x y
 | _, _ => true
theorem afZ : ∀ {a b : List Tr}, a.length = b.length -> (List.range a.length).all (atE a b) = anp a b
 | [], [], _ => rfl
 | [], _ :: _, h => by cases h
 | _ :: _, [], h => by cases h
 | x :: a, y :: b, h => by
  have ih := afZ (a := a) (b := b) (by simpa using h)
  rw [List.length_cons, List.range_succ_eq_map, List.all_cons, List.all_map]
  unfold anp
  rw [<-ih]
  rfl
section
variable {X : Cx} {pins : List (Addr × Obj)} {σ : St} {H : Hp} {s : Shared}
theorem Inv.apO (I : Inv X pins σ H s) {a C : Addr} {its : Array Value} (h : H a = some (exO a C)) (p : IsTup s.heap a its) : False := by
 obtain ⟨o, _, e1, e2, _⟩ := (I.hok a _ h).1
 obtain ⟨o', e1', e2', _⟩ := p
 rw [e1] at e1'
 cases e1'
 rw [e2] at e2'
 cases e2'
theorem Inv.apP (I : Inv X pins σ H s) {a C : Addr} {its : Array Value} (h : H a = some (exO a C)) (p : PlainL s.heap a its) : False := by
 obtain ⟨o, _, e1, e2, _⟩ := (I.hok a _ h).1
 obtain ⟨o', _, e1', e2', _⟩ := p
 rw [e1] at e1'
 cases e1'
 rw [e2] at e2'
 cases e2'
mutual
theorem Rep.inj (I : Inv X pins σ H s) : ∀ {v : V} {t u : Tr}, dep t <= 99 -> Rep X.K H v t -> Rep X.K H v u -> t = u
 | _, _, _, _, .non, .non => rfl
 | _, _, _, _, .bl _, .bl _ => rfl
 | _, _, _, _, .int _, .int _ => rfl
 | _, _, _, _, .str _, .str _ => rfl
 | _, _, _, d, .tup h r, .tup h' r' => by
  have e := I.ahJ h h'
  subst e
  rw [aa3.inj I (by unfold dep at d; omega) r r']
 | _, _, _, d, .lst h r, .lst h' r' => by
  have e := I.ajV h h'
  subst e
  rw [aa3.inj I (by unfold dep at d; omega) r r']
 | _, _, _, _, .tup h r, .lst h' r' => by
  obtain ⟨_, _, p, _⟩ := I.tuple h
  obtain ⟨_, _, p', _⟩ := I.list h'
  exact absurd rfl (SeqAt.ne_of_list_tuple p'.isList p)
 | _, _, _, _, .lst h r, .tup h' r' => by
  obtain ⟨_, _, p, _⟩ := I.tuple h'
  obtain ⟨_, _, p', _⟩ := I.list h
  exact absurd rfl (SeqAt.ne_of_list_tuple p'.isList p)
 | _, _, _, d, .exn h _ n, _ => by unfold dep at d; omega
 | _, _, _, _, .tup h r, .exn h' _ _ => by
  obtain ⟨_, _, p, _⟩ := I.tuple h
  exact (I.apO h' p).elim
 | _, _, _, _, .lst h r, .exn h' _ _ => by
  obtain ⟨_, _, p, _⟩ := I.list h
  exact (I.apP h' p).elim
theorem aa3.inj (I : Inv X pins σ H s) : ∀ {v : List V} {t u : List Tr}, deps t <= 99 -> aa3 X.K H v t -> aa3 X.K H v u -> t = u
 | _, _, _, _, .nil, .nil => rfl
 | _, _, _, d, .cons h r, .cons h' r' => by
  unfold deps at d
  rw [Rep.inj I (by omega) h h', aa3.inj I (by omega) r r']
end
theorem in1_units (A : Around) : A.in1.units <= A.units + 1 := by
 show A.units + 1 <= _
 omega
theorem afJ {xs : List V} {its : List Value} {j : Nat} (r : Vals xs its) (h : j < its.toArray.size) : ∃ x, xs[j]? = some x /\ RelV x its.toArray[j] := by
 have h' : j < its.length := by simpa using h
 have hx : j < xs.length := by rw [r.length]; exact h'
 obtain ⟨u, h1, h2⟩ := r.get (List.getElem?_eq_getElem hx)
 refine ⟨xs[j], List.getElem?_eq_getElem hx, ?_⟩
 have e : u = its.toArray[j] := by
  rw [List.getElem?_eq_getElem h'] at h1
  have := Option.some.inj h1
  simpa using this.symm
 rw [<-e]; exact h2
theorem aj7 {a b : List Tr} {j : Nat} {x y : Tr} (h1 : a[j]? = some x) (h2 : b[j]? = some y) : atE a b j = eqT x y := by
 unfold atE
 rw [h1, h2]
theorem adE : ∀ {ts : List Tr} {j : Nat} {t : Tr}, ts[j]? = some t -> dep t <= deps ts
 | [], _, _, h => by simp at h
 | x :: r, 0, t, h => by
  simp at h
  subst h
  unfold deps
  exact Nat.le_max_left _ _
 | x :: r, j + 1, t, h => by
  have := adE (ts := r) (j := j) (t := t) (by simpa using h)
  unfold deps
  exact Nat.le_trans this (Nat.le_max_right _ _)
theorem af0 (I : Inv X pins σ H s) (A : Around) (t u : Tr) (x y : V) (xv yv : Value) (hu : A.units + 0 < cLine) (hd : dep t <= 0) (du : dep u <= 99) (rx : Rep X.K H x t) (ry : Rep X.K H y u) (vx : RelV x xv) (vy : RelV y yv) :
  SeqAt.RcAt A s xv yv (eqT t u) /\ SeqAt.EqAt A s xv yv (eqT t u) := by
 have hu0 : A.units < cLine := by omega
 cases rx with
 | tup h r => unfold dep at hd; omega
 | lst h r => unfold dep at hd; omega
 | exn h m n => unfold dep at hd; omega
 | non =>
  cases vx
  cases ry with
  | non => cases vy; unfold eqT; exact ⟨SeqAt.RcAt.none_none, .same _⟩
  | bl b2 => cases vy; unfold eqT; exact ⟨SeqAt.RcAt.none_bool _, SeqAt.EqAt.none_bool _⟩
  | int i2 => obtain ⟨_, rfl⟩ := vy; unfold eqT; exact ⟨SeqAt.RcAt.none_int _ _, SeqAt.EqAt.none_int _ _⟩
  | str z2 => obtain ⟨_, rfl⟩ := vy; unfold eqT; exact ⟨SeqAt.RcAt.none_str _ _, SeqAt.EqAt.none_str _ _⟩
  | tup h r => cases vy; obtain ⟨_, _, p, _⟩ := I.tuple h; unfold eqT; exact ⟨SeqAt.RcAt.none_tuple p hu0, SeqAt.EqAt.none_tuple p hu0⟩
  | lst h r => cases vy; obtain ⟨_, _, p, _⟩ := I.list h; unfold eqT; exact ⟨SeqAt.RcAt.none_list p.isList hu0, SeqAt.EqAt.none_list p.isList hu0⟩
  | exn h m n => unfold dep at du; omega
 | bl b =>
  cases vx
  cases ry with
  | non => cases vy; unfold eqT; exact ⟨SeqAt.RcAt.bool_none _, SeqAt.EqAt.bool_none _⟩
  | bl b2 => cases vy; unfold eqT; exact ⟨SeqAt.RcAt.bool_bool _ _, SeqAt.EqAt.bool_bool _ _⟩
  | int i2 => obtain ⟨_, rfl⟩ := vy; unfold eqT; exact ⟨SeqAt.RcAt.bool_int _ _ _, SeqAt.EqAt.bool_int _ _ _⟩
  | str z2 => obtain ⟨_, rfl⟩ := vy; unfold eqT; exact ⟨SeqAt.RcAt.bool_str _ _ _, SeqAt.EqAt.bool_str _ _ _⟩
  | tup h r => cases vy; obtain ⟨_, _, p, _⟩ := I.tuple h; unfold eqT; exact ⟨SeqAt.RcAt.bool_tuple _ p hu0, SeqAt.EqAt.bool_tuple _ p hu0⟩
  | lst h r => cases vy; obtain ⟨_, _, p, _⟩ := I.list h; unfold eqT; exact ⟨SeqAt.RcAt.bool_list _ p.isList hu0, SeqAt.EqAt.bool_list _ p.isList hu0⟩
  | exn h m n => unfold dep at du; omega
 | int i =>
  obtain ⟨_, rfl⟩ := vx
  cases ry with
  | non => cases vy; unfold eqT; exact ⟨SeqAt.RcAt.int_none _ _, SeqAt.EqAt.int_none _ _⟩
  | bl b2 => cases vy; unfold eqT; exact ⟨SeqAt.RcAt.int_bool _ _ _, SeqAt.EqAt.int_bool _ _ _⟩
  | int i2 => obtain ⟨_, rfl⟩ := vy; unfold eqT; exact ⟨SeqAt.RcAt.int_int _ _ _ _, SeqAt.EqAt.int_int _ _ _ _⟩
  | str z2 => obtain ⟨_, rfl⟩ := vy; unfold eqT; exact ⟨SeqAt.RcAt.int_str _ _ _ _, SeqAt.EqAt.int_str _ _ _ _⟩
  | tup h r => cases vy; obtain ⟨_, _, p, _⟩ := I.tuple h; unfold eqT; exact ⟨SeqAt.RcAt.int_tuple _ _ p hu0, SeqAt.EqAt.int_tuple _ _ p hu0⟩
  | lst h r => cases vy; obtain ⟨_, _, p, _⟩ := I.list h; unfold eqT; exact ⟨SeqAt.RcAt.int_list _ _ p.isList hu0, SeqAt.EqAt.int_list _ _ p.isList hu0⟩
  | exn h m n => unfold dep at du; omega
 | str z =>
  obtain ⟨_, rfl⟩ := vx
  cases ry with
  | non => cases vy; unfold eqT; exact ⟨SeqAt.RcAt.str_none _ _, SeqAt.EqAt.str_none _ _⟩
  | bl b2 => cases vy; unfold eqT; exact ⟨SeqAt.RcAt.str_bool _ _ _, SeqAt.EqAt.str_bool _ _ _⟩
  | int i2 => obtain ⟨_, rfl⟩ := vy; unfold eqT; exact ⟨SeqAt.RcAt.str_int _ _ _ _, SeqAt.EqAt.str_int _ _ _ _⟩
  | str z2 => obtain ⟨_, rfl⟩ := vy; unfold eqT; exact ⟨SeqAt.RcAt.str_str _ _ _ _, SeqAt.EqAt.str_str _ _ _ _⟩
  | tup h r => cases vy; obtain ⟨_, _, p, _⟩ := I.tuple h; unfold eqT; exact ⟨SeqAt.RcAt.str_tuple _ _ p hu0, SeqAt.EqAt.str_tuple _ _ p hu0⟩
  | lst h r => cases vy; obtain ⟨_, _, p, _⟩ := I.list h; unfold eqT; exact ⟨SeqAt.RcAt.str_list _ _ p.isList hu0, SeqAt.EqAt.str_list _ _ p.isList hu0⟩
  | exn h m n => unfold dep at du; omega
theorem ai2 (I : Inv X pins σ H s) : ∀ (n : Nat) (A : Around) (t u : Tr) (x y : V) (xv yv : Value), A.units + n < cLine -> dep t <= n -> dep t <= 99 -> dep u <= 99 -> Rep X.K H x t -> Rep X.K H y u -> RelV x xv -> RelV y yv ->
  SeqAt.RcAt A s xv yv (eqT t u) /\ SeqAt.EqAt A s xv yv (eqT t u) := by
 intro n
 induction n with
 | zero => exact λA t u x y xv yv hu hd _ du rx ry vx vy => af0 I A t u x y xv yv hu hd du rx ry vx vy
 | succ n ih =>
  intro A t u x y xv yv hu hd dt9 du rx ry vx vy
  have hu0 : A.units < cLine := by omega
  have hu1 : A.in1.units + n < cLine := by
   have := in1_units A
   omega
  have he : ∀ {xs ys : List V} {ts us : List Tr} {its its2 : List Value}, Vals xs its -> Vals ys its2 -> aa3 X.K H xs ts -> aa3 X.K H ys us -> deps ts <= n -> deps ts <= 99 -> deps us <= 99 -> ∀ j (h1 : j < its.toArray.size) (h2 : j < its2.toArray.size), SeqAt.EqAt A.in1 s its.toArray[j] its2.toArray[j] (atE ts us j) := by
   intro xs ys ts us its its2 r1 r2 q1 q2 hde hd9 hu9 j h1 h2
   obtain ⟨a, ea, ra⟩ := afJ r1 h1
   obtain ⟨b, eb, rb⟩ := afJ r2 h2
   obtain ⟨ta, eta, qa⟩ := q1.get ea
   obtain ⟨tb, etb, qb⟩ := q2.get eb
   rw [aj7 eta etb]
   exact (ih A.in1 ta tb a b _ _ hu1 (Nat.le_trans (adE eta) hde) (Nat.le_trans (adE eta) hd9) (Nat.le_trans (adE etb) hu9) qa qb ra rb).2
  have dt : ∀ {ts : List Tr}, dep (.tup ts) <= n + 1 -> deps ts <= n := λ{ts} h => by unfold dep at h; omega
  have dl : ∀ {ts : List Tr}, dep (.lst ts) <= n + 1 -> deps ts <= n := λ{ts} h => by unfold dep at h; omega
  have nt : ∀ {ts : List Tr}, dep (.tup ts) <= 99 -> deps ts <= 99 := λ{ts} h => by unfold dep at h; omega
  have nl : ∀ {ts : List Tr}, dep (.lst ts) <= 99 -> deps ts <= 99 := λ{ts} h => by unfold dep at h; omega
  have refs : ∀ {a b : Addr} {t u : Tr} {k : Bool}, dep t <= 99 -> Rep X.K H (.ref a) t -> Rep X.K H (.ref b) u -> k = eqT t u -> SeqAt.RcAt A s (.ref a) (.ref b) k -> SeqAt.EqAt A s (.ref a) (.ref b) k := λ{a b t u k} d9 r1 r2 ek h => by
   by_cases e : a = b
   ·subst e
    have := Rep.inj I d9 r1 r2
    subst this
    rw [ek, afI]
    exact .same _
   ·exact .of_refs e h
  cases rx with
  | @tup a1 xs1 ts h r =>
   cases vx
   obtain ⟨its, rv, p, _⟩ := I.tuple h
   cases ry with
   | @tup a2 xs2 us h' r' =>
    cases vy
    obtain ⟨its2, rv2, p2, _⟩ := I.tuple h'
    have R := SeqAt.RcAt.tuples p p2 hu0 (he rv rv2 r r' (dt hd) (nt dt9) (nt du))
    have el : its.toArray.size = ts.length := by simpa using (rv.length.symm.trans r.length)
    have el2 : its2.toArray.size = us.length := by simpa using (rv2.length.symm.trans r'.length)
    rw [el, el2] at R
    have eb : ((List.range (min ts.length us.length)).all (atE ts us) && ts.length == us.length) = eqT (.tup ts) (.tup us) := by
     unfold eqT
     by_cases e : ts.length = us.length
     ·rw [e, Nat.min_self, <-e, afZ e, beq_self_eq_true, Bool.and_true]
     ·rw [beq_false_of_ne e, Bool.and_false, aew e]
    rw [eb] at R
    exact ⟨R, refs dt9 (.tup h r) (.tup h' r') rfl R⟩
   | lst h' r' =>
    cases vy
    obtain ⟨_, _, p2, _⟩ := I.list h'
    unfold eqT
    exact ⟨SeqAt.RcAt.tuple_list p p2.isList hu0, .tuple_list p p2.isList hu0⟩
   | exn h' m n => unfold dep at du; omega
   | non => cases vy; unfold eqT; exact ⟨SeqAt.RcAt.tuple_none p hu0, .tuple_none p hu0⟩
   | bl b => cases vy; unfold eqT; exact ⟨SeqAt.RcAt.tuple_bool _ p hu0, .tuple_bool _ p hu0⟩
   | int i => obtain ⟨_, rfl⟩ := vy; unfold eqT; exact ⟨SeqAt.RcAt.tuple_int _ _ p hu0, .tuple_int _ _ p hu0⟩
   | str z => obtain ⟨_, rfl⟩ := vy; unfold eqT; exact ⟨SeqAt.RcAt.tuple_str _ _ p hu0, .tuple_str _ _ p hu0⟩
  | @lst a1 xs1 ts h r =>
   cases vx
   obtain ⟨its, rv, p, _⟩ := I.list h
   cases ry with
   | @lst a2 xs2 us h' r' =>
    cases vy
    obtain ⟨its2, rv2, p2, _⟩ := I.list h'
    have el : its.toArray.size = ts.length := by simpa using (rv.length.symm.trans r.length)
    have el2 : its2.toArray.size = us.length := by simpa using (rv2.length.symm.trans r'.length)
    by_cases e : ts.length = us.length
    ·have R := SeqAt.RcAt.lists p.isList p2.isList (by rw [el, el2, e]) hu0 (he rv rv2 r r' (dl hd) (nl dt9) (nl du))
     rw [el, afZ e] at R
     have eb : anp ts us = eqT (.lst ts) (.lst us) := by unfold eqT; rfl
     rw [eb] at R
     exact ⟨R, refs dt9 (.lst h r) (.lst h' r') rfl R⟩
    ·have R : SeqAt.RcAt A s _ _ false := SeqAt.RcAt.lists_lengths p.isList p2.isList (by rw [el, el2]; simpa using e) hu0
     have eb : false = eqT (.lst ts) (.lst us) := by unfold eqT; rw [aew e]
     rw [eb] at R
     exact ⟨R, refs dt9 (.lst h r) (.lst h' r') rfl R⟩
   | tup h' r' =>
    cases vy
    obtain ⟨_, _, p2, _⟩ := I.tuple h'
    unfold eqT
    exact ⟨SeqAt.RcAt.list_tuple p.isList p2 hu0, .list_tuple p.isList p2 hu0⟩
   | exn h' m n => unfold dep at du; omega
   | non => cases vy; unfold eqT; exact ⟨SeqAt.RcAt.list_none p.isList hu0, .list_none p.isList hu0⟩
   | bl b => cases vy; unfold eqT; exact ⟨SeqAt.RcAt.list_bool _ p.isList hu0, .list_bool _ p.isList hu0⟩
   | int i => obtain ⟨_, rfl⟩ := vy; unfold eqT; exact ⟨SeqAt.RcAt.list_int _ _ p.isList hu0, .list_int _ _ p.isList hu0⟩
   | str z => obtain ⟨_, rfl⟩ := vy; unfold eqT; exact ⟨SeqAt.RcAt.list_str _ _ p.isList hu0, .list_str _ _ p.isList hu0⟩
  | exn h m n => unfold dep at dt9; omega
  | non => exact af0 I A _ _ _ _ _ _ (by omega) (by unfold dep; omega) du .non ry vx vy
  | bl b => exact af0 I A _ _ _ _ _ _ (by omega) (by unfold dep; omega) du (.bl b) ry vx vy
  | int i => exact af0 I A _ _ _ _ _ _ (by omega) (by unfold dep; omega) du (.int i) ry vx vy
  | str z => exact af0 I A _ _ _ _ _ _ (by omega) (by unfold dep; omega) du (.str z) ry vx vy
end
end L2
end
section
namespace L2
open PySem PySem.Spec PyProof.Rows
section
variable {X : Cx} {a b : Expr} {ta tb : TE} {pos : Pos}
noncomputable def au2 (K : PySem.W.Frag) : R2 := λx y H Q => ∃ t u, Rep K H x t /\ Rep K H y u /\ dep t <= 40 /\ dep u <= 40 /\ Q (.bl (eqT t u)) H
theorem ada (hu : X.A.units + 64 < cLine) : OpR X (compareOp .Eq) (au2 X.K) := by
 intro pins s σ H x y v u Q I rx ry h
 obtain ⟨t, t', q1, q2, hd, hd2, q⟩ := h
 exact (ai2 I 40 X.A t t' x y v u (by omega) hd (by omega) (by omega) q1 q2 rx ry).1 _ _ _ _ ⟨.bl _, H, I, rfl, q⟩
noncomputable def apQ (t : Tr) (ts : List Tr) : Bool := ts.any λu => eqT u t
theorem ahZ {xs : List V} {its : List Value} {ts : List Tr} {K : PySem.W.Frag} {H : Hp} (f : Tr -> Bool) (e : Value -> Bool) (r : Vals xs its) (q : aa3 K H xs ts) (h : ∀ x v t, x ∈ xs -> RelV x v -> Rep K H x t -> t ∈ ts -> e v = f t) : its.any e = ts.any f := by
 induction r generalizing ts with
 | nil => cases q; rfl
 | cons r1 r2 ih =>
  cases q with
  | cons q1 q2 =>
   rw [List.any_cons, List.any_cons, h _ _ _ List.mem_cons_self r1 q1 List.mem_cons_self, ih q2 λx v t hx hr hq ht => h x v t (List.mem_cons_of_mem _ hx) hr hq (List.mem_cons_of_mem _ ht)]
theorem al1 : ∀ {ts : List Tr} {t : Tr}, t ∈ ts -> dep t <= deps ts := λ{ts t} h => by
 obtain ⟨i, hi, e⟩ := List.mem_iff_getElem.mp h
 exact adE (j := i) (by rw [List.getElem?_eq_getElem hi, e])
inductive Ty where | int | bool | str | tuple | list
noncomputable def Ty.name : Ty -> String
 | .int => "int" | .bool => "bool" | .str => "str" | .tuple => "tuple" | .list => "list"
noncomputable def abS : Tr -> Ty -> Bool
 | .bl _, .bool => true | .bl _, .int => true | .int _, .int => true | .str _, .str => true | .tup _, .tuple => true | .lst _, .list => true
 | _, _ => false
noncomputable def auu (K : PySem.W.Frag) : List V -> Hp -> VK -> Prop := λxs H Q => ∃ v t c, xs = [v, .ty (Ty.name c)] /\ Rep K H v t /\ Q (.bl (abS t c)) H
noncomputable def XOk (K : PySem.W.Frag) : Prop := ∀ c ∈ acf, ∀ C, PySem.W.nsIn K mainGlobals c = some (some (.ref C)) -> (∀ a, PySem.W.KitX K (.ref a) (.ref C) (aut a C)) /\ ∀ y : Ty, PySem.W.kitOne K (.ref C) (.type y.name) = some false
theorem anI (hX : XOk X.K) : acI X (.builtin "isinstance") (auu X.K) := by
 intro pins s σ H xs us Q I r h
 obtain ⟨v, t, c, rfl, q1, q⟩ := h
 obtain ⟨u, w', rfl, ru, rw'⟩ := vals2 r
 obtain rfl : w' = Value.type (Ty.name c) := rw'
 have fin : ∀ tk, EP X pins σ Q (.bool (abS t c)) { s with toks := tk } := λtk => ⟨.bl _, H, I.tok tk, rfl, q⟩
 cases q1 with
 | non => cases ru; cases c <;> exact PySem.W.kia_one PySem.W.kitx_none I.kIn True.intro (by kernel_rfl) (λz => nomatch z) fin
 | bl y => cases ru; cases c <;> exact PySem.W.kia_one PySem.W.kitx_bool I.kIn True.intro (by kernel_rfl) (λz => nomatch z) fin
 | int i => obtain ⟨_, rfl⟩ := ru; cases c <;> exact PySem.W.kia_one PySem.W.kitx_int I.kIn True.intro (by kernel_rfl) (λz => nomatch z) fin
 | str y => obtain ⟨_, rfl⟩ := ru; cases c <;> exact PySem.W.kia_one PySem.W.kitx_str I.kIn True.intro (by kernel_rfl) (λz => nomatch z) fin
 | tup h r =>
  cases ru
  obtain ⟨_, _, ⟨o, h1, h2, _⟩, _⟩ := I.tuple h
  cases c <;> exact PySem.W.kia_one PySem.W.kitx_tuple I.kIn ⟨o, h1, h2⟩ (by kernel_rfl) (λz => nomatch z) fin
 | lst h r =>
  cases ru
  obtain ⟨_, _, p, _⟩ := I.list h
  obtain ⟨o, h1, h2, _⟩ := p.isList
  cases c <;> exact PySem.W.kia_one PySem.W.kitx_list I.kIn ⟨o, h1, h2⟩ (by kernel_rfl) (λz => nomatch z) fin
 | exn h m n =>
  cases ru
  obtain ⟨z1, z2⟩ := hX _ m _ n
  exact PySem.W.kia_one (z1 _) I.kIn (I.hok _ _ h).1 (z2 c) (λz => nomatch z) fin
noncomputable def au3 (K : PySem.W.Frag) : List V -> Hp -> VK -> Prop := λxs H Q => ∃ (p : Addr) (bs : List Bool), xs = [.ref p] /\ SqL K H p (bs.map V.bl) /\ Q (.bl (bs.all id)) H
theorem afK (hc : X.calm = true) : acI X (.builtin "all") (au3 X.K) := by
 intro pins s σ H xs us Q I r h
 obtain ⟨p, bs, rfl, hq, q⟩ := h
 obtain ⟨u, rfl, ru⟩ := vals1 r
 cases ru
 obtain ⟨its, rv, pl, hz⟩ := I.list hq
 refine call_all_walk (wpAny_pyIter_list pl.isList ?_)
 obtain ⟨ol, hol, hol'⟩ := id pl.isList
 have hlt : p < s.heap.objs.size := Heap.lt_size hol
 have hlen : its.toArray.size = bs.length := by simpa using rv.length.symm
 have at_ : ∀ (i : Nat) (v : Value), its.toArray[i]? = some v -> ∃ k, bs[i]? = some k /\ v = Value.bool k := λi v e => by
  have e' : its[i]? = some v := by simpa using e
  have hi : i < its.length := (List.getElem?_eq_some_iff.mp e').1
  have hb : i < (bs.map V.bl).length := by rw [rv.length]; exact hi
  obtain ⟨u', h1, h2⟩ := rv.get (List.getElem?_eq_getElem hb)
  rw [e'] at h1
  cases h1
  have hb' : i < bs.length := by simpa using hb
  refine ⟨bs[i], List.getElem?_eq_getElem hb', ?_⟩
  rw [List.getElem_map] at h2
  exact h2
 refine ⟨s.heap.objs.size, _, _, _, _, _, λi => bs.getD i true, rfl, Walks.list (A := X.A.in1) (I.ok.hd hc) s.heap.objs.size p (Nat.ne_of_lt hlt) its.toArray, ⟨⟨_, Heap.get?_push_size _ rfl, rfl, rfl⟩, ⟨ol, Heap.get?_push_of_some _ hol, hol'⟩⟩, ?_, ?_⟩
 ·intro i v s' Q' E' hP hQ'
  obtain ⟨k, h1, rfl⟩ := at_ i v hP
  have : bs.getD i true = k := by rw [List.getD_eq_getElem?_getD, h1]; rfl
  dsimp only at hQ'
  rw [this] at hQ'
  exact wpAny_truthy_bool hQ'
 ·intro h' tk hk
  have I1 : Inv X pins σ H { s with heap := h', toks := tk } := I.kept λb o e => hk b o (by
   have := Heap.lt_size e
   simp
   exact Nat.ne_of_lt this) (Heap.get?_push_of_some _ e)
  refine ⟨.bl _, H, I1, rfl, ?_⟩
  have eq : (List.range its.toArray.size).all (λi => bs.getD i true) = bs.all id := by
   rw [hlen]
   clear q hq rv at_ hlen hz
   induction bs with
   | nil => rfl
   | cons b r ih =>
    rw [List.length_cons, List.range_succ_eq_map, List.all_cons, List.all_map, List.all_cons]
    exact congrArg (b && ·) ih
  rw [eq]
  exact q
end
end L2
end
section
namespace L2
open PySem PySem.Spec PyProof.Rows
noncomputable def At (K : PySem.W.Frag) (mg : Str -> Option Value) (x : Str) (st : Stmt) : Prop := ∃ f fd, Fun K x x st f fd /\ mg x = some (.ref f)
section
variable {X : Cx} {k : Nat} {x : Str} {ps : List Str} {sp : Sp} {p q pos : Pos} {e : Expr} {es : List Expr} {te : TE} {t : TA}
theorem arV (hX : XOk X.K) (c : Ty) (he : PE X e te) (h1 : X.mg "isinstance" = none) (h2 : X.mg x = none) (hb : bootBuiltins x = some (.type c.name) := by decide +kernel) (hg1 : Gl X "isinstance" := by rfl) (hg2 : Gl X x := by rfl) (hn : x ≠ "__name__" := by decide) (hd : (x == ("__debug__" : Str)) = false := by decide)
  (hs : starEach (e :: [.Name x q]) X.env = (false, eval e X.env) :: starEach [.Name x q] X.env := by rfl) : PE X (.Call (.Name "isinstance" p) [e, .Name x q] [] pos) (tCB (auu X.K) (adh te (adh (tC (.ty c.name)) alR))) :=
 afH (anI hX) hg1 h1 PyProof.Rows.boot_isinstance (acL he (acL (alJ hg2 h2 hb rfl hn hd) aal) hs) (he := hs)
end
end L2
end
section
namespace L2
open PySem PySem.Spec PyProof.Rows
noncomputable def off (a : Addr) (H : Hp) : Hp := λb => if b = a then none else H b
theorem off_ne {a b : Addr} {H : Hp} (h : b ≠ a) : off a H b = H b := if_neg h
theorem adi {a b : Addr} {H : Hp} {o : HO} (h : off a H b = some o) : b ≠ a /\ H b = some o := by
 unfold off at h
 split at h
 ·cases h
 ·rename_i e; exact ⟨e, h⟩
structure Pj (Pr : Hp -> Hp) (H0 : Hp) : Prop where
 mono : ∀ {H H' : Hp}, Same H H' -> Same (Pr H) (Pr H')
 sub : ∀ H, Same (Pr H) H
 new : ∀ {H : Hp} {r : Addr} {o : HO}, Same H0 H -> H r = none -> Pr (upd H r o) r = some o
theorem Pj.id (H0 : Hp) : Pj (λH => H) H0 := ⟨λs => s, λH => Same.refl H, λ_ _ => aaK⟩
theorem Pj.le {Pr : Hp -> Hp} {H0 H1 : Hp} (p : Pj Pr H0) (s : Same H0 H1) : Pj Pr H1 := ⟨p.mono, p.sub, λs' h => p.new (s.trans s') h⟩
theorem aaV {H : Hp} {p : Addr} (h : H p = none) (o : HO) : Same H (upd H p o) := λb u q => by rw [aaw (aa1 q h)]; exact q
section
variable (K : PySem.W.Frag) (Pr : Hp -> Hp) (σ : St) (H0 : Hp)
end
section
variable {K : PySem.W.Frag} {Pr : Hp -> Hp} {σ : St} {H0 : Hp} {te tb : TE} {ta : TA} {T : Tr} {Ts Us : List Tr}
end
end L2
end
section
namespace L2
open PySem PySem.Spec PyProof.Rows
noncomputable def notStar : Expr -> Bool
 | .Starred _ _ => false
 | _ => true
theorem acP {e : Expr} {es : List Expr} {env : Env} (h : notStar e = true) : starEach (e :: es) env = (false, eval e env) :: starEach es env := by
 cases e <;> first | rfl | (unfold notStar at h; cases h)
noncomputable def tEv (K : PySem.W.Frag) (T : Tr) : TE := λ_ H Q => ∀ v H', Same H H' -> (∀ Pr, Pj Pr H -> Rep K (Pr H') v T) -> Q v H'
noncomputable def ard (K : PySem.W.Frag) (Ts : List Tr) : TA := λ_ H Q => ∀ vs H', Same H H' -> (∀ Pr, Pj Pr H -> aa3 K (Pr H') vs Ts) -> Q vs H'
noncomputable def auv (K : PySem.W.Frag) (Ts : List Tr) : TE := λ_ H Q => ∀ a xs H1, Same H H1 -> H1 a = none -> (∀ Pr, Pj Pr H -> aa3 K (Pr H1) xs Ts) -> xs.length = Ts.length -> Q (.ref a) (upd H1 a (.lst xs))
theorem PE.imp {X : Cx} {e : Expr} {t u : TE} (h : PE X e t) (i : ∀ σ H Q, u σ H Q -> t σ H Q) : PE X e u := ⟨λpins s σ H Q I q => h pins s σ H Q I (i σ H Q q)⟩
theorem PA.imp {X : Cx} {e : List Expr} {t u : TA} (h : PA X e t) (i : ∀ σ H Q, u σ H Q -> t σ H Q) : PA X e u := ⟨λpos pins s σ H Q I q => h pos pins s σ H Q I (i σ H Q q)⟩
section
variable {X : Cx} {e : Expr} {es : List Expr} {T : Tr} {Ts : List Tr} {pos : Pos} {k : Nat}
end
end L2
end
section
namespace L2
open PySem PySem.Spec PyProof.Rows
mutual
noncomputable def pd : Tr -> PyData
 | .non => .none
 | .bl b => .bool b
 | .int i => .int i
 | .str x => .str x
 | .tup ts => .tuple (pds ts)
 | .lst ts => .list (pds ts)
 | .exn _ => .none
noncomputable def pds : List Tr -> List PyData
 | [] => []
 | t :: r => pd t :: pds r
end
mutual
noncomputable def okS : Tr -> Bool
 | .int i => decide (i.natAbs.log2 < 1920)
 | .str x => x.cps.toList.all λc => decide (c < 16 ^ 8)
 | .tup ts => al2 ts
 | .lst ts => al2 ts
 | .exn _ => false
 | _ => true
noncomputable def al2 : List Tr -> Bool
 | [] => true
 | t :: r => okS t && al2 r
end
mutual
noncomputable def blk : Tr -> Nat
 | .str x => x.cps.size
 | .tup ts => blks ts
 | .lst ts => blks ts
 | _ => 0
noncomputable def blks : List Tr -> Nat
 | [] => 0
 | t :: r => blk t + 1 + blks r
end
mutual
theorem al3 : ∀ t : Tr, (pd t).bulk = blk t
 | .non => rfl
 | .bl _ => rfl
 | .int _ => rfl
 | .str _ => rfl
 | .tup ts => by simp only [pd, PyData.bulk, blk]; exact ag7 ts
 | .lst ts => by simp only [pd, PyData.bulk, blk]; exact ag7 ts
 | .exn _ => rfl
theorem ag7 : ∀ ts : List Tr, PyData.bulkAll (pds ts) = blks ts
 | [] => rfl
 | t :: r => by simp only [pds, PyData.bulkAll, blks]; rw [al3 t, ag7 r]
end
mutual
theorem ai3 : ∀ t : Tr, (pd t).hasDict = false
 | .non => rfl
 | .bl _ => rfl
 | .int _ => rfl
 | .str _ => rfl
 | .tup ts => by simp only [pd, PyData.hasDict]; exact ag8 ts
 | .lst ts => by simp only [pd, PyData.hasDict]; exact ag8 ts
 | .exn _ => rfl
theorem ag8 : ∀ ts : List Tr, PyData.hasDictAll (pds ts) = false
 | [] => rfl
 | t :: r => by simp only [pds, PyData.hasDictAll]; rw [ai3 t, ag8 r]; rfl
end
mutual
theorem aj8 : ∀ t : Tr, (pd t).depth <= dep t
 | .non => Nat.le_of_eq rfl
 | .bl _ => Nat.le_of_eq rfl
 | .int _ => Nat.le_of_eq rfl
 | .str _ => Nat.le_of_eq rfl
 | .tup ts => by
  have := af2 ts
  simp only [pd, PyData.depth, dep]
  omega
 | .lst ts => by
  have := af2 ts
  simp only [pd, PyData.depth, dep]
  omega
 | .exn _ => by simp only [pd, PyData.depth, dep]; omega
theorem af2 : ∀ ts : List Tr, PyData.depthAll (pds ts) <= deps ts
 | [] => Nat.le_of_eq rfl
 | t :: r => by
  have h1 := aj8 t
  have h2 := af2 r
  simp only [pds, PyData.depthAll, deps]
  omega
end
mutual
theorem apR : ∀ t : Tr, okS t = true -> (pd t).showable = true /\ (pd t).leavesShort 1921 = true
 | .non, _ => ⟨rfl, rfl⟩
 | .bl _, _ => ⟨rfl, rfl⟩
 | .int i, h => by
  have h1 : i.natAbs.log2 < 1920 := by simpa only [okS, decide_eq_true_eq] using h
  refine ⟨by simpa only [pd, PyData.showable, decide_eq_true_eq] using h1, ?_⟩
  simp only [pd, PyData.leavesShort, decide_eq_true_eq]
  exact int_text_len_1921 h1
 | .str x, h => ⟨rfl, by simpa only [pd, PyData.leavesShort, okS] using h⟩
 | .tup ts, h => by
  have := al4 ts (by simpa only [okS] using h)
  simp only [pd, PyData.showable, PyData.leavesShort]
  exact this
 | .lst ts, h => by
  have := al4 ts (by simpa only [okS] using h)
  simp only [pd, PyData.showable, PyData.leavesShort]
  exact this
 | .exn _, h => by simp only [okS] at h; cases h
theorem al4 : ∀ ts : List Tr, al2 ts = true -> PyData.showableAll (pds ts) = true /\ PyData.leavesShortAll 1921 (pds ts) = true
 | [], _ => ⟨rfl, rfl⟩
 | t :: r, h => by
  simp only [al2, Bool.and_eq_true] at h
  have h1 := apR t h.1
  have h2 := al4 r h.2
  simp only [pds, PyData.showableAll, PyData.leavesShortAll, Bool.and_eq_true]
  exact ⟨⟨h1.1, h2.1⟩, ⟨h1.2, h2.2⟩⟩
end
theorem arW {t : Tr} (h : okS t = true) (hb : blk t <= 8000) : (pd t).shown.length <= sizeLine := by
 have h1 := PyData.shown_le_bulk 1921 (by decide) (pd t) (apR t h).2
 rw [al3] at h1
 have h2 : sizeLine = 16777216 := by decide
 omega
section
variable {X : Cx} {pins : List (Addr × Obj)} {σ : St} {H : Hp} {s : Shared}
mutual
theorem Rep.reads (I : Inv X pins σ H s) : ∀ {v : V} {t : Tr} {u : Value}, okS t = true -> Rep X.K H v t -> RelV v u -> ∃ as, Reads s.heap u (pd t) as
 | _, _, _, _, .non, r => by
  cases r
  exact ⟨_, by simp only [pd]; exact .none⟩
 | _, _, _, _, .bl b, r => by
  cases r
  exact ⟨_, by simp only [pd]; exact .bool b⟩
 | _, _, _, _, .int i, r => by
  obtain ⟨_, rfl⟩ := r
  exact ⟨_, by simp only [pd]; exact .int i _⟩
 | _, _, _, _, .str x, r => by
  obtain ⟨_, rfl⟩ := r
  exact ⟨_, by simp only [pd]; exact .str x _⟩
 | _, _, _, k, .tup h q, r => by
  cases r
  obtain ⟨its, rv, ⟨o, h1, h2, n, h3⟩, _⟩ := I.tuple h
  obtain ⟨as, ha⟩ := aa3.reads I (by simpa only [okS] using k) q rv
  exact ⟨_, by simp only [pd]; exact .tuple h1 h2 h3 ha⟩
 | _, _, _, k, .lst h q, r => by
  cases r
  obtain ⟨its, rv, ⟨o, n, h1, h2, _, h3⟩, _⟩ := I.list h
  obtain ⟨as, ha⟩ := aa3.reads I (by simpa only [okS] using k) q rv
  exact ⟨_, by simp only [pd]; exact .list h1 h2 h3 ha⟩
 | _, _, _, k, .exn h _ _, r => by simp only [okS] at k; cases k
theorem aa3.reads (I : Inv X pins σ H s) : ∀ {v : List V} {t : List Tr} {u : List Value}, al2 t = true -> aa3 X.K H v t -> Vals v u -> ∃ as, ReadsAll s.heap u (pds t) as
 | _, _, _, _, .nil, r => by
  cases r
  exact ⟨_, by simp only [pds]; exact .nil⟩
 | _, _, _, k, .cons h q, r => by
  cases r with
  | cons r1 r2 =>
   simp only [al2, Bool.and_eq_true] at k
   obtain ⟨a, h1⟩ := Rep.reads I k.1 h r1
   obtain ⟨b, h2⟩ := aa3.reads I k.2 q r2
   exact ⟨_, by simp only [pds]; exact .cons h1 h2⟩
end
end
noncomputable def txt : Tr -> Str
 | .str x => x
 | t => (pd t).shown
noncomputable def au4 (K : PySem.W.Frag) : List V -> Hp -> VK -> Prop := λxs H Q => ∃ v t, xs = [v] /\ Rep K H v t /\ okS t = true /\ blk t <= 8000 /\ dep t <= 40 /\ Q (.str (txt t)) H
theorem ah0 {X : Cx} (hg : X.A.guards = some []) (hu : X.A.units + 64 < cLine) : acI X (.type "str") (au4 X.K) := by
 intro pins s σ H xs us Q I r h
 obtain ⟨v, t, rfl, q1, hok, hb, hd, q⟩ := h
 obtain ⟨u, rfl, ru⟩ := vals1 r
 have hl := arW hok hb
 have hdp := aj8 t
 have hx := apR t hok
 cases q1 with
 | exn h m n => simp only [okS] at hok; cases hok
 | non => cases ru; exact P.str_of_none ⟨.str _, H, I.tok _, ⟨_, rfl⟩, q⟩
 | bl b => cases ru; exact P.str_of_bool ⟨.str _, H, I.tok _, ⟨_, rfl⟩, q⟩
 | int i =>
  obtain ⟨_, rfl⟩ := ru
  exact P.str_of_int (by simpa only [okS, decide_eq_true_eq] using hok) ⟨.str _, H, I.tok _, ⟨_, rfl⟩, q⟩
 | str x => obtain ⟨_, rfl⟩ := ru; exact P.str_of_str ⟨.str _, H, I, ⟨_, rfl⟩, q⟩
 | tup hh rr =>
  cases ru
  obtain ⟨as, ha⟩ := Rep.reads I hok (.tup hh rr) (u := .ref _) rfl
  exact str_of_reads ha hx.1 (PyData.noDict_hsm (ai3 _)) hg (by omega) (λ_ _ e => e) (λh' u tk hk => ⟨.str _, H, I.kept hk, ⟨_, rfl⟩, q⟩) hl
 | lst hh rr =>
  cases ru
  obtain ⟨as, ha⟩ := Rep.reads I hok (.lst hh rr) (u := .ref _) rfl
  exact str_of_reads ha hx.1 (PyData.noDict_hsm (ai3 _)) hg (by omega) (λ_ _ e => e) (λh' u tk hk => ⟨.str _, H, I.kept hk, ⟨_, rfl⟩, q⟩) hl
end L2
end
section
namespace L2
open PySem PySem.Spec PyProof.Rows
noncomputable def awS : V -> Option Int -> Option Int -> Hp -> VK -> Prop := λx lo hi H Q => ∃ z, x = .str z /\ z.length <= sizeLine /\ Q (.str (Txt.slice z lo hi)) H
theorem arX {X : Cx} : SlR X awS := by
 intro pins s σ H x v vl vu lo hi sl Q I rx hs pl pu h
 obtain ⟨z, rfl, hz, q⟩ := h
 obtain ⟨t, rfl⟩ := rx
 obtain ⟨o, h1, h2, h3⟩ := hs
 have fin : ∀ (t' : Tok) (k : Nat), EP X pins σ Q (.str (Txt.slice z lo hi) t') { s with toks := k } := λt' k => ⟨.str _, H, I.tok k, ⟨_, rfl⟩, q⟩
 have hl := Nat.le_trans (Txt.slice_le z lo hi) hz
 refine ⟨"str", _, F.slot_str_getitem.lookup, typeIs_str _ _ _, ?_⟩
 cases pl with
 | none =>
  cases pu with
  | none => exact wpAny_getItem_str_slice (l := none) (u := none) (st := none) ⟨o, h1, h2, h3⟩ rfl (post_val_or_str ⟨hl, λt' k => fin t' k⟩)
  | int j uj => exact wpAny_getItem_str_slice (l := none) (u := some (j, uj)) (st := none) ⟨o, h1, h2, h3⟩ rfl (post_val_or_str ⟨hl, λt' k => fin t' k⟩)
 | int i ui =>
  cases pu with
  | none => exact wpAny_getItem_str_slice (l := some (i, ui)) (u := none) (st := none) ⟨o, h1, h2, h3⟩ rfl (post_val_or_str ⟨hl, λt' k => fin t' k⟩)
  | int j uj => exact wpAny_getItem_str_slice (l := some (i, ui)) (u := some (j, uj)) (st := none) ⟨o, h1, h2, h3⟩ rfl (post_val_or_str ⟨hl, λt' k => fin t' k⟩)
noncomputable def nw (H H' : Hp) : Hp := λb => match H b with
 | none => H' b
 | some _ => none
end L2
end
section
namespace L2
open PySem PySem.Spec PyProof.Rows
noncomputable def CXF (P : Program) (w : World) : CXT := λouter H s E e s' => ∃ ea cls a0 H' B, e = .ref ea /\ E cls none H' /\ s'.os = s.os /\ AllBare s'.gens /\ Un (frs outer) [] H H' s.heap s'.heap /\ HOk P w H' B /\
 Heap.FlyingW B outer ea cls a0 s'.heap /\ ∀ b o, s.heap.get? b = some o -> b ∉ frs outer -> ∃ o', B.get? b = some o'
theorem anJ {env : Env} {outer : List Env} {L b : Addr} (hf : env.frame = some L) (h : b ∈ frs (env :: outer)) : b = L \/ b ∈ frs outer := by
 unfold frs at h
 rw [List.filterMap_cons_some hf] at h
 exact List.mem_cons.mp h
theorem apS {env : Env} {outer : List Env} {b : Addr} (h : b ∈ frs outer) : b ∈ frs (env :: outer) := by
 obtain ⟨e, he, q⟩ := List.mem_filterMap.mp h
 exact List.mem_filterMap.mpr ⟨e, List.mem_cons_of_mem _ he, q⟩
theorem anK {P : Program} {w : World} {H : Hp} {h : Heap} {l : List Addr} (x : HOk P w H h) (fr : ∀ b ∈ l, H b = none) : HOk P w H (PySem.W.hideAll h l) := λa o e =>
 (x a o e).stay (λb u hb q => PySem.W.hideAll_get _ q λhm => by
  rcases hb with rfl | hb
  ·rw [fr _ hm] at e; cases e
  ·rw [fr _ hm] at hb; cases hb) (λ_ q => q) λ_ _ q => q
section
variable {P : Program} {w : World} {K : PySem.W.Frag} {mg : Str -> Option Value} {base : Heap} {N : List Str} {qual : Str} {scope : Scope} {f : Addr} {cd : Value} {A : Around} {outer : List Env} {s : Shared} {H : Hp} {E : XK} {CX : CXT}
theorem Un.left {pins : List (Addr × Obj)} {σ : St} {H1 H2 : Hp} {s1 : Shared} {h2 h3 B : Heap} (I : Inv (aj4 CX P w K mg base N qual scope f cd A outer s H E) pins σ H1 s1)
  (u : Un (frs (envOfC qual scope s.heap.objs.size f cd :: outer)) [] H1 H2 s1.heap h2) (st : B.StaysIn h2) (kb : ∀ b o, s1.heap.get? b = some o -> b ∉ frs (envOfC qual scope s.heap.objs.size f cd :: outer) -> ∃ o', B.get? b = some o')
  (fl : B.StaysIn h3) (sl : h2.UpToSlots h3) : Un (frs outer) [] H H2 s.heap h3 /\ ∀ b o, s.heap.get? b = some o -> b ∉ frs outer -> ∃ o', B.get? b = some o' := by
 have ub := I.base
 have hf : (envOfC qual scope s.heap.objs.size f cd).frame = some s.heap.objs.size := by
  rcases I.ok.stk with z | z
  ·exact absurd (congrArg List.length z) (by show outer.length + 1 ≠ outer.length; omega)
  ·exact z.2
 have no : ∀ b o, s.heap.get? b = some o -> b ∉ frs outer -> b ∉ frs (envOfC qual scope s.heap.objs.size f cd :: outer) := λb o e n z => by
  rcases anJ hf z with rfl | z
  ·exact absurd (Heap.lt_size e) (Nat.lt_irrefl _)
  ·exact n z
 have nx : ∀ b : Addr, b ∉ ([] : List Addr) := λb z => nomatch z
 have inB : ∀ b o, s.heap.get? b = some o -> b ∉ frs outer -> ∃ o', B.get? b = some o' := λb o e n => by
  obtain ⟨o1, e1⟩ := ub.there b o e (nx b)
  exact kb b o1 e1 (no b o e n)
 have slots : ∀ b o, s.heap.get? b = some o -> H b = none -> b ∈ frs outer -> ∃ sl, h3.get? b = some { o with slots := sl } := λb o e n z => by
  obtain ⟨sl1, e1⟩ := ub.slot b o e n z (nx b)
  obtain ⟨sl2, e2⟩ := u.slot b _ e1 (ub.free b o e n (nx b)) (apS z) (nx b)
  obtain ⟨_, o', e', nf⟩ := I.ok.akL.mem z
  have e'' : s.heap.get? b = some o' := e'
  rw [e] at e''
  cases e''
  obtain ⟨sl3, e3⟩ := sl b _ e2 nf
  exact ⟨sl3, e3⟩
 refine ⟨⟨λb o e n z _ => ?_, λb o e n z _ => slots b o e n z, λb o e n _ => ?_, λb o e _ => ?_, λb xs q => u.tups b xs (ub.tups b xs q), λb o q z => u.ajS b o q (ub.ajS b o q z), λb ps q => ?_⟩, inB⟩
 ·have e1 := ub.keep b o e n z (nx b)
  have e2 := u.keep b o e1 (ub.free b o e n (nx b)) (no b o e z) (nx b)
  obtain ⟨o', e3⟩ := inB b o e z
  have e4 := st b o' e3
  rw [e2] at e4
  cases e4
  exact fl b o e3
 ·obtain ⟨o1, e1⟩ := ub.there b o e (nx b)
  exact u.free b o1 e1 (ub.free b o e n (nx b)) (nx b)
 ·by_cases z : b ∈ frs outer
  ·obtain ⟨sl, e1⟩ := slots b o e (I.ok.frf b z) z
   exact ⟨_, e1⟩
  ·obtain ⟨o', e1⟩ := inB b o e z
   exact ⟨o', fl b o' e1⟩
 ·obtain ⟨m1, e1⟩ := ub.ajT b ps q
  obtain ⟨m2, e2⟩ := u.ajT b _ e1
  exact ⟨m1 ++ m2, by rw [e2, Array.append_assoc]⟩
end
noncomputable def Raises (X : Cx) (E : XK) : Prop := ∀ (pins : List (Addr × Obj)) (σ : St) (H : Hp) (s : Shared) (h' : Heap) (e C : Addr) (us : List Value), Inv X pins σ H s -> Heap.MadeExcOf s.heap h' e (.ref C) us -> E (.ref C) none H -> X.xe (.ref e) { s with heap := h' }
theorem ah1 {P : Program} {w : World} {K : PySem.W.Frag} {mg : Str -> Option Value} {base : Heap} {N : List Str} {qual : Str} {scope : Scope} {f : Addr} {cd : Value} {A : Around} {outer : List Env} {s : Shared} {H : Hp} {E : XK} :
  Raises (aj4 (CXF P w) P w K mg base N qual scope f cd A outer s H E) E := by
 intro pins σ H1 s1 h' e C us I hx q
 have hs := I.stack
 have hf : (envOfC qual scope s.heap.objs.size f cd).frame = some s.heap.objs.size := by
  rcases I.ok.stk with z | z
  ·exact absurd (congrArg List.length z) (by show outer.length + 1 ≠ outer.length; omega)
  ·exact z.2
 have hin : ∀ env ∈ (envOfC qual scope s.heap.objs.size f cd :: outer), ∀ a, env.frame = some a -> a ∈ frs (envOfC qual scope s.heap.objs.size f cd :: outer) := λenv he b hb => List.mem_filterMap.mpr ⟨env, he, hb⟩
 have stB : (PySem.W.hideAll s1.heap (frs (envOfC qual scope s.heap.objs.size f cd :: outer))).StaysIn s1.heap := λb o z => PySem.W.of_hideAll _ z
 have stH : (PySem.W.hideAll s1.heap (frs (envOfC qual scope s.heap.objs.size f cd :: outer))).StaysIn h' := λb o z => hx.keeps b o (stB b o z)
 refine wpAny_leaves_madeW (base := PySem.W.hideAll s1.heap (frs (envOfC qual scope s.heap.objs.size f cd :: outer))) (h := s1.heap) I.ok.frames hf stB (PySem.W.funFrames_hide hs hin) hx λh'' t fl _ _ sl => ?_
 obtain ⟨un, ib⟩ := Un.left (B := PySem.W.hideAll s1.heap (frs (envOfC qual scope s.heap.objs.size f cd :: outer))) I (Un.kept (h' := h') hx.keeps) stH (λb o z n => ⟨o, PySem.W.hideAll_get _ z n⟩) fl.1 sl
 exact ⟨e, .ref C, .ref t, H1, _, rfl, q, I.os, I.bare, un, anK I.hok I.aeX, fl, ib⟩
theorem aaE {P : Program} {w : World} {K : PySem.W.Frag} {mg : Str -> Option Value} {base : Heap} {N : List Str} {qual : Str} {scope : Scope} {f : Addr} {cd : Value} {A : Around} {outer : List Env} {s : Shared} {H : Hp} {E : XK} :
  Passes (CXF P w) (aj4 (CXF P w) P w K mg base N qual scope f cd A outer s H E) E := by
 intro pins σ H1 s1 e s' I h
 obtain ⟨ea, cls, a0, H2, B, rfl, q, os, bare, un, hok, fl, kb⟩ := h
 have hf : (envOfC qual scope s.heap.objs.size f cd).frame = some s.heap.objs.size := by
  rcases I.ok.stk with z | z
  ·exact absurd (congrArg List.length z) (by show outer.length + 1 ≠ outer.length; omega)
  ·exact z.2
 refine wpAny_leaves_onW (base := B) I.ok.frames hf fl λh'' fl' sl => ?_
 obtain ⟨un', ib⟩ := Un.left (B := B) I un fl.1 kb fl'.1 sl
 exact ⟨ea, cls, a0, H2, B, rfl, q, os.trans I.os, bare, un', hok, fl', ib⟩
noncomputable def aoW (E : XK) (C : Addr) (te : TE) : TS := λ_ σ H => te σ H λv H1 => [v].length = 1 /\ E (.ref C) none H1
theorem aj9 {X : Cx} {E : XK} {x : Str} {C : Addr} {B newId initId : String} {bm : List Value} {np cpos pos : Pos} {e : Expr} {te : TE} (R : Raises X E) (O : OwnCls x C bm newId X.mg X.base) (FB : ExcBaseFacts B newId initId bm) (hc : X.calm = true) (ha : PE X e te)
  (hg : Gl X x := by rfl) (hd : (x == ("__debug__" : Str)) = false := by decide) (hs : starEach [e] X.env = [(false, eval e X.env)] := by rfl) :
  PS X (.Raise (some (.Call (.Name x np) [e] [] cpos)) none pos) (aoW E C te) := by
 refine ⟨λpins s σ H D I h => ?_⟩
 obtain ⟨tl, N, nm, q, bs, hdct, sn, sub, ab, col, dd, k0, k1, k2, k3, k5, mN, hC, hN, hni, T⟩ := O.obj
 refine wpAny_Raise_call_subT (C := C) (nm := nm) (q := q) (N := N) (bs := bs) (bm := tl) (hdct := hdct) (sn := sn) (sub := sub) (ab := ab) (col := col) (dd := dd) (k0 := k0) (k1 := k1) (k2 := k2) (k3 := k3) (k5 := k5)
  FB (mN := mN) (T.hasType FB.hasBase) (I.ok.hd hc) (by rw [hs]; rfl) hni (afT I hg O.bound ⟨rfl, ?_⟩ hd)
 have ga : PA X [e] (adh te alR) := acL ha aal (by rw [hs]; rfl)
 have z := ga cpos pins s σ H (λvs H1 => vs.length = 1 /\ E (.ref C) none H1) I (by
  show te σ H λv H1 => _
  exact h)
 rw [hs] at z ⊢
 refine Calls.evalArgs_plain (wpAny_mono z (λus s₂ h₂ => ?_) λ_ _ y => y)
 obtain ⟨vs, H2, I2, rv, hl, hE⟩ := h₂
 refine ⟨rfl, ?_, I2.bk _ _ hC, hN.keeps I2.bk, T.keeps I2.bk, λh' e' hm => R pins σ H2 s₂ h' e' C us I2 hm hE⟩
 rw [<-rv.length, hl]
 decide
end L2
end
section
namespace L2
open PySem PySem.Spec PyProof.Rows
noncomputable def XP (X : Cx) (pins : List (Addr × Obj)) (EX : St -> XK) (e : Value) (s' : Shared) : Prop := ∃ σ H s, Inv X pins σ H s /\ CXF X.prog X.w X.stack H s (EX σ) e s'
noncomputable abbrev TX := Ends -> (St -> XK) -> St -> Hp -> Prop
noncomputable abbrev TEX := (St -> XK) -> TE
noncomputable def PX (X : Cx) (st : Stmt) (t : TX) : Prop :=
 ∀ (pins : List (Addr × Obj)) (s : Shared) (σ : St) (H : Hp) (D : Ends) (EX : St -> XK), Inv X pins σ H s -> t D EX σ H -> wpAny (model X.prog X.w) X.A (exec st X.env) (SP X pins D) (XP X pins EX) s
noncomputable def PXs (X : Cx) (st : List Stmt) (t : TX) : Prop :=
 ∀ (pins : List (Addr × Obj)) (s : Shared) (σ : St) (H : Hp) (D : Ends) (EX : St -> XK), Inv X pins σ H s -> t D EX σ H -> wpAny (model X.prog X.w) X.A (execs st X.env) (SP X pins D) (XP X pins EX) s
noncomputable def PEX (X : Cx) (e : Expr) (t : TEX) : Prop :=
 ∀ (pins : List (Addr × Obj)) (s : Shared) (σ : St) (H : Hp) (Q : VK) (EX : St -> XK), Inv X pins σ H s -> t EX σ H Q -> wpAny (model X.prog X.w) X.A (eval e X.env) (EP X pins σ Q) (XP X pins EX) s
section
variable {X : Cx} {k : Nat} {f : Addr} {fd : FuncData} {x : Str} {ps : List Str} {sp : Sp} {p pos : Pos} {e : Expr} {es : List Expr} {te : TEX} {t : TA} {st : Stmt} {rest : List Stmt} {a b : TX}
theorem apT (h1 : PX X st a) : PXs X [st] a := by
 intro pins s σ H D EX I h
 refine wpAny_execs_cons (wpAny_mono (h1 pins s σ H D EX I h) (λf s1 q => ?_) λ_ _ z => z)
 cases f with
 | next => exact wpAny_execs_nil q
 | ret u => exact q
 | brk => exact q
 | cont => exact q
noncomputable def al5 (sp : Sp) (t : TA) : TEX := λEX σ H Q => t σ H λvs H1 => sp vs H1 Q (EX σ)
theorem anL (F : aj3 X.prog X.w X.K X.mg X.base (CXF X.prog X.w) k f fd ps sp) (hr : aeZ k X.A) (hm : X.mg x = some (.ref f)) (hk : PySem.W.keepIn X.K (.ref f) = true) (hb : Binds X.K fd ps []) (ha : PA X.nox (e :: es) t) (hg : Gl X x := by rfl)
  (hdb : (x == ("__debug__" : Str)) = false := by decide) (he : starEach (e :: es) X.env = (false, eval e X.env) :: starEach es X.env := by rfl) (hpl : (backTo pos (starEach es X.env)).any (·.1) = false := by rfl) :
  PEX X (.Call (.Name x p) (e :: es) [] pos) (al5 sp t) := by
 intro pins s σ H Q EX I h
 refine wpAny_Call_Name_kw (afT I hg hm ?_ hdb)
 refine PySem.W.callWith_K (h₀ := X.base) I.ok.mod.kin hk (wpAny_mono (ha pos pins s σ H _ (I.wish _) h) (λus s1 ⟨vs, H1, I1', r, q⟩ => ?_) λ_ _ z => False.elim z) he hpl
 have I1 := I1'.aeu
 refine ⟨I1.kIn, ?_⟩
 have hl : (us ++ []).length = ps.length := by rw [List.append_nil, <-r.length]; exact F.len _ _ _ _ q
 have hb' := hb s1 us I1.kIn hl
 rw [List.append_nil] at hb'
 refine wpAny_call (codeAny_mono (F.run X.A X.stack s1 H1 ⟨us, []⟩ us vs Q (EX σ) hr I1.env0 hb' r q) λr s' hq => ?_)
 cases r with
 | error e => exact ⟨σ, H1, s1, I1, hq⟩
 | ok fl =>
  cases fl with
  | ret u => exact I1.after hq
  | next => exact False.elim hq
  | brk => exact False.elim hq
  | cont => exact False.elim hq
theorem arY {i : Nat} {y : Str} {py : Pos} (hN : X.N.Nodup) (hi : X.N[i]? = some y) (hy : Loc X.env.scope y) (he : PEX X e te) (hs : swapsWith e (some (.Name y py)) pos.line X.env = pure false := by rfl)
  (hf : X.fn y = true \/ X.env.scope.names.lookup y = some .local := by first | exact .inl rfl | exact .inr rfl | assumption) : PX X (.Assign [.Name y py] e pos) (λD EX σ H => te EX σ H λv H1 => D.nx (σ.set i (some v)) H1) := by
 intro pins s σ H D EX I h
 refine wpAny_Assign_Name (wpAny_mono (he pins s σ H _ EX I h) (λv s1 ⟨u, H1, I1, r1, q1⟩ => ?_) λ_ _ z => z) hs
 exact adS I1 hN hi hy r1 (λs2 I2 => ⟨_, H1, I2, q1⟩) hf
end
end L2
end
section
namespace L2
open PySem PySem.Spec PyProof.Rows
theorem ad3.here {P : Program} {w : World} {H : Hp} {h : Heap} {a : Addr} {o : HO} (x : ad3 P w H h a o) : ∃ u, h.get? a = some u := by
 cases o with
 | lst xs => obtain ⟨_, _, _, _, e⟩ := x; exact ⟨_, e⟩
 | tup xs => obtain ⟨_, _, _, _, e, _⟩ := x; exact ⟨_, e⟩
 | dK kvs => obtain ⟨_, _, _, _, o, _, _, e, _⟩ := x; exact ⟨_, e⟩
 | dT kvs => obtain ⟨_, _, _, _, o, _, _, e, _⟩ := x; exact ⟨_, e⟩
 | set S n => obtain ⟨o, _, _, _, e, _⟩ := x; exact ⟨_, e⟩
 | ins C dx fs => obtain ⟨_, _, _, e, _⟩ := x; exact ⟨_, e⟩
 | own y => exact x
 | xd fs => obtain ⟨_, ⟨_, _, _, e, _⟩, _⟩ := x; exact ⟨_, e⟩
 | rng lo hi => obtain ⟨_, _, _, e⟩ := x; exact ⟨_, e⟩
 | frz ob u => obtain ⟨e, _⟩ := x; exact ⟨_, e⟩
 | tbl ps => exact ⟨_, (show h.get? a = some _ from x)⟩
 | met f y => exact ⟨_, (show h.get? a = some _ from x)⟩
 | ext φ => exact x.2.1
theorem Un.flown {fs : List Addr} {H1 H2 : Hp} {h0 h1 h6 B : Heap} (un : Un fs [] H1 H2 h0 h1) (kb : ∀ b o, h0.get? b = some o -> b ∉ fs -> ∃ o', B.get? b = some o') (st1 : B.StaysIn h1) (st6 : B.StaysIn h6) (sl : h1.UpToSlots h6)
  (nf : ∀ b ∈ fs, ∀ o, h0.get? b = some o -> ∀ vs, o.data ≠ .fields vs) (fr : ∀ b ∈ fs, H1 b = none) : Un fs [] H1 H2 h0 h6 := by
 have slots : ∀ b o, h0.get? b = some o -> H1 b = none -> b ∈ fs -> ∃ sl, h6.get? b = some { o with slots := sl } := λb o e n z => by
  obtain ⟨s1, e1⟩ := un.slot b o e n z (λz => nomatch z)
  obtain ⟨s2, e2⟩ := sl b _ e1 (nf b z o e)
  exact ⟨s2, e2⟩
 refine ⟨λb o e n z _ => ?_, λb o e n z _ => slots b o e n z, un.free, λb o e _ => ?_, un.tups, un.ajS, un.ajT⟩
 ·have e1 := un.keep b o e n z (λz => nomatch z)
  obtain ⟨o', e2⟩ := kb b o e z
  have e3 := st1 b o' e2
  rw [e1] at e3
  cases e3
  exact st6 b o e2
 ·by_cases z : b ∈ fs
  ·obtain ⟨s1, e1⟩ := slots b o e (fr b z) z
   exact ⟨_, e1⟩
  ·obtain ⟨o', e1⟩ := kb b o e z
   exact ⟨o', st6 b o' e1⟩
section
variable {X : Cx} {pins : List (Addr × Obj)} {σ : St} {H1 H2 : Hp} {s0 s1 : Shared} {B h6 : Heap} {ea : Addr} {cls a0 : Value}
theorem Inv.flown (I : Inv X pins σ H1 s0) (un : Un (frs X.stack) [] H1 H2 s0.heap s1.heap) (os : s1.os = s0.os) (bare : AllBare s1.gens) (hok : HOk X.prog X.w H2 B) (fl : Heap.FlyingW B X.stack ea cls a0 s1.heap)
  (kb : ∀ b o, s0.heap.get? b = some o -> b ∉ frs X.stack -> ∃ o', B.get? b = some o') (fl6 : Heap.FlyingW B X.stack ea cls a0 h6) (sl : s1.heap.UpToSlots h6) :
  H2 ea = none /\ Inv X pins σ H2 { s1 with heap := h6 } /\ ∀ C, cls = .ref C -> Inv X pins σ (upd H2 ea (exO ea C)) { s1 with heap := h6 } := by
 have nf : ∀ b ∈ frs X.stack, ∀ o, s0.heap.get? b = some o -> ∀ vs, o.data ≠ .fields vs := λb hb o e => by
  obtain ⟨_, o', e', q⟩ := I.stack.mem hb
  rw [e] at e'
  cases e'
  exact q
 have u6 := un.flown kb fl.1 fl6.1 sl nf I.aeX
 have k6 : HOk X.prog X.w H2 h6 := hok.kept fl6.1
 have fe : H2 ea = none := by
  cases q : H2 ea with
  | none => rfl
  | some u =>
   obtain ⟨o, e⟩ := (hok ea u q).here
   rw [fl.2.1] at e
   cases e
 have ne0 : s0.heap.get? ea = none := by
  cases q : s0.heap.get? ea with
  | none => rfl
  | some o =>
   by_cases z : ea ∈ frs X.stack
   ·obtain ⟨sl1, e1⟩ := un.slot ea o q (I.aeX ea z) z (λz => nomatch z)
    obtain ⟨oe, vs, e2, _, d, _⟩ := fl.first
    rw [e1] at e2
    cases e2
    exact absurd d (nf ea z o q vs)
   ·obtain ⟨o', e1⟩ := kb ea o q z
    rw [fl.2.1] at e1
    cases e1
 refine ⟨fe, I.call' (s' := { s1 with heap := h6 }) (ch := []) os u6 k6 bare (λb z => nomatch z), λC hC => ?_⟩
 obtain ⟨oe, vs, e2, c2, d2, _⟩ := fl6.first
 have nee : ∀ b o, s0.heap.get? b = some o -> b ≠ ea := λb o e z => by rw [z, ne0] at e; cases e
 have neH : ∀ b o, H2 b = some o -> b ≠ ea := λb o e z => by rw [z, fe] at e; cases e
 refine I.call' (s' := { s1 with heap := h6 }) (H' := upd H2 ea (exO ea C)) (ch := []) os ⟨u6.keep, u6.slot, λb o e n hx => ?_, u6.there, λb xs e => ?_, λb o u e => ?_, λb ps e => ?_⟩ (λb u e => ?_) bare (λb z => nomatch z)
 ·rw [aaw (nee b o e)]
  exact u6.free b o e n hx
 ·have := u6.tups b xs e
  rw [aaw (neH b _ this)]
  exact this
 ·have := u6.ajS b o u e
  rw [aaw (neH b _ this)]
  exact this
 ·obtain ⟨m, q⟩ := u6.ajT b ps e
  exact ⟨m, by rw [aaw (neH b _ q)]; exact q⟩
 ·by_cases z : b = ea
  ·subst z
   rw [aaK] at e
   cases e
   exact ⟨⟨oe, vs, e2, c2.trans hC, d2⟩, ⟨oe, e2⟩, λh1 h2 ⟨o, ws, q1, q2, q3⟩ k => ⟨o, ws, k o q1, q2, q3⟩⟩
  ·rw [aaw z] at e
   exact (k6 b u e).stay (λ_ _ _ q => q) (λc q => by rw [aaw (neH c _ q)]; exact q) λc xs q => by rw [aaw (neH c _ q)]; exact q
end
theorem akb {X : Cx} {pins : List (Addr × Obj)} {σ : St} {H : Hp} {s : Shared} {M : Model} {A : Around} {E : Value -> Shared -> Prop} {j : Nat} {n : Str} {pos : Pos} {Q : Unit -> Shared -> Prop} (I : Inv X pins σ H s) (hN : X.N.Nodup) (hj : X.N[j]? = some n) (hl : X.env.kindOf n = some .local)
  (h : ∀ s', Inv X pins (σ.set j none) H s' -> Q () s') : wpAny M A (do bindName X.env n .none; unbindBehindTheSuite X.env n pos) Q E s := by
 obtain ⟨m, hn, hv⟩ := id I.loc
 refine wpAny_nameGoes_keeps hl hn (by rw [I.ok.kind]; rfl) λh' v hn' hs => ?_
 have neL : ∀ b o, X.s₀.heap.get? b = some o -> b ≠ X.env.locals := λb o e => Nat.ne_of_lt (Nat.lt_of_lt_of_le (Heap.lt_size e) I.ok.above)
 refine h _ ⟨I.ok, I.os, I.bare, ⟨λb o e n hb hx => (hs.2 b (neL b o e)).trans (I.base.keep b o e n hb hx), λb o e n hb hx => ?_, I.base.free, λb o e hx => ?_, I.base.tups, I.base.ajS, I.base.ajT⟩,
  ⟨_, hn', λi y v' e1 e2 e3 => ?_⟩, λy c e => ?_, I.free, I.aer, λp hp => ?_, λb o e => ?_, by rw [List.length_set]; exact I.len⟩
 ·obtain ⟨sl, e1⟩ := I.base.slot b o e n hb hx
  exact ⟨sl, (hs.2 b (neL b o e)).trans e1⟩
 ·obtain ⟨o', e1⟩ := I.base.there b o e hx
  exact ⟨o', (hs.2 b (neL b o e)).trans e1⟩
 ·by_cases hi : i = j
  ·subst hi
   rw [List.getElem?_set] at e2
   split at e2
   ·split at e2 <;> cases e2
   ·rename_i z; exact absurd rfl z
  ·rw [List.getElem?_set_ne (Ne.symm hi)] at e2
   obtain ⟨u', r', q⟩ := hv i y v' e1 e2 e3
   refine ⟨u', r', ?_⟩
   rcases q with ⟨k, e⟩ | ⟨k, c, e, z⟩
   ·refine .inl ⟨k, ?_⟩
    have : y ≠ n := λe => hi (ag1 hN e1 (e ▸ hj))
    simp [this, e]
   ·exact .inr ⟨k, c, e, z.sameBut hs (I.cne y c e)⟩
 ·obtain ⟨w', z⟩ := I.cell y c e
  exact ⟨w', z.sameBut hs (I.cne y c e)⟩
 ·obtain ⟨e, n, ne, nf, d⟩ := I.pin p hp
  exact ⟨(hs.2 p.1 ne).trans e, n, ne, nf, d⟩
 ·refine (I.hok b o e).stay (λc u hc q => (hs.2 c ?_).trans q) (λ_ q => q) λ_ _ q => q
  rintro rfl
  rcases hc with rfl | hc
  ·rw [I.free] at e; cases e
  ·rw [I.free] at hc; cases hc
end L2
end
section
namespace L2
open PySem PySem.Spec PyProof.Rows
noncomputable abbrev Cx.caught (X : Cx) (e : Value) : Cx := { X with A := X.A.mark (some e), calm := false, xe := λ_ _ => False }
section
variable {X : Cx} {pins : List (Addr × Obj)} {σ : St} {H : Hp} {s : Shared} {e : Value}
theorem Inv.caught (I : Inv X pins σ H s) (e : Value) : Inv (X.caught e) pins σ H s :=
 ⟨⟨I.ok.mod, I.ok.kind, I.ok.glob, I.ok.blt, I.ok.above, I.ok.inj, I.ok.has, I.ok.cab, (λz => nomatch z), I.ok.frames, I.ok.stk, I.ok.exf, I.ok.bs, I.ok.bsz, I.ok.aiV, I.ok.arv, I.ok.akL, I.ok.frf⟩, I.os, I.bare, I.base, I.loc, I.cell, I.free, I.aer, I.pin, I.hok, I.len⟩
theorem Inv.uncaught (ok : X.Ok) (I : Inv (X.caught e) pins σ H s) : Inv X pins σ H s := ⟨ok, I.os, I.bare, I.base, I.loc, I.cell, I.free, I.aer, I.pin, I.hok, I.len⟩
theorem SP.uncaught {D : Ends} {f : Flow} {s' : Shared} (ok : X.Ok) (h : SP (X.caught e) pins D f s') : SP X pins D f s' := by
 cases f with
 | next => obtain ⟨σ', H', I, q⟩ := h; exact ⟨σ', H', I.uncaught ok, q⟩
 | brk => obtain ⟨σ', H', I, q⟩ := h; exact ⟨σ', H', I.uncaught ok, q⟩
 | cont => obtain ⟨σ', H', I, q⟩ := h; exact ⟨σ', H', I.uncaught ok, q⟩
 | ret u => obtain ⟨v, σ', H', I, r, q⟩ := h; exact ⟨v, σ', H', I.uncaught ok, r, q⟩
end
noncomputable def goes (j : Nat) (D : Ends) : Ends where
 nx := λσ H => D.nx (σ.set j none) H
 rt := D.rt
 bk := λσ H => D.bk (σ.set j none) H
 ct := λσ H => D.ct (σ.set j none) H
noncomputable def exK (K : PySem.W.Frag) (cH : Addr) (j : Nat) (ts : TS) (D : Ends) : St -> XK := λσ cls _ H => ∃ C, cls = .ref C /\ PySem.W.exmOne K (.ref C) (.ref cH) = some true /\ ∀ ea, H ea = none -> ts (goes j D) (σ.set j (some (.ref ea))) (upd H ea (exO ea C))
noncomputable def awT (K : PySem.W.Frag) (cH : Addr) (j : Nat) (tb : TX) (ts : TS) : TS := λD σ H => tb D (exK K cH j ts D) σ H
theorem arZ {X : Cx} {body : List Stmt} {tb : TX} {hn n : Str} {hp hpos pos : Pos} {b₀ : Stmt} {suite : List Stmt} {ts : TS} {cH : Addr} {j : Nat} (hst : X.stack = X.env :: X.outer) (hN : X.N.Nodup) (hj : X.N[j]? = some n) (hloc : X.env.kindOf n = some .local)
  (hb : PXs X body tb) (hm : X.mg hn = some (.ref cH)) (hsu : ∀ e, PSs (X.caught e) (b₀ :: suite) ts) (hg : Gl X hn := by rfl) (hd : (hn == ("__debug__" : Str)) = false := by decide) :
  PS X (.Try body [.ExceptHandler (some (.Name hn hp)) (some n) (b₀ :: suite) hpos] [] [] pos) (awT X.K cH j tb ts) := by
 refine ⟨λpins s σ H D I h => ?_⟩
 refine wpAny_Try_except (wpAny_mono (hb pins s σ H D (exK X.K cH j ts D) I h) (λf s1 q => ?_) λe s1 hx => ?_)
 ·cases f with
  | next => exact wpAny_execs_nil q
  | ret u => exact q
  | brk => exact q
  | cont => exact q
 obtain ⟨σ1, H1, s0, I1, ea, cls, a0, H2, B, rfl, ⟨C, rfl, hit, q⟩, os, bare, un, hok, fl, kb⟩ := hx
 have hf : X.env.frame = some X.env.locals := by
  rcases I1.ok.stk with z | z
  ·rw [hst] at z
   exact absurd (congrArg List.length z) (by simp)
  ·exact z.2
 have hfr : X.A.frames = some (X.env :: X.outer) := by rw [<-hst]; exact I1.ok.frames
 rw [hst] at fl
 refine wpAny_looks_onW (base := B) hfr hf fl λh4 held sl4 => ?_
 refine wpAny_landsW held λh5 fl5 sl5 => ?_
 have fl' := fl
 rw [<-hst] at fl'
 have awU := fl5
 rw [<-hst] at awU
 obtain ⟨fe, I5, _⟩ := I1.flown un os bare hok fl' kb awU (sl4.trans sl5)
 refine wpAny_handleBy_cons (codeAny_handlers_test (A := X.A.mark (some (.ref ea))) ?_) (by intro z; cases z)
 refine afT (X := X.caught (.ref ea)) (I5.caught (.ref ea)) hg hm ?_ hd
 have lt : PySem.W.Looks (model X.prog X.w) h5 (typeOf (.ref ea)) (.ref C) := by
  obtain ⟨ob, hob, hc⟩ := fl5.there
  rw [<-hc]
  exact (PySem.W.Looks.ld hob).andThen .now
 refine PySem.W.exm_one I5.kIn lt hit _ _ _ _ (λb o z => z) ?_
 refine codeAny_handlers_suite_as ?_
 refine lands_againW fl5 λh6 fl6 sl6 => ?_
 have awV := fl6
 rw [<-hst] at awV
 obtain ⟨_, _, I6⟩ := I1.flown un os bare hok fl' kb awV ((sl4.trans sl5).trans sl6)
 refine adS (X := X.caught (.ref ea)) (i := j) (v := .ref ea) ((I6 C rfl).caught (.ref ea)) hN hj (.inl hloc) rfl (λs7 I7 => ?_) (.inr hloc)
 refine wpAny_mono (hsu (.ref ea) pins s7 _ _ (goes j D) I7 (q ea fe)) (λf s8 h8 => ?_) λ_ _ z => False.elim z
 have h8' := h8.uncaught I1.ok
 cases f with
 | next =>
  obtain ⟨σ', H', I', q'⟩ := h8'
  exact akb I' hN hj hloc λs9 I9 => ⟨_, _, I9, q'⟩
 | brk =>
  obtain ⟨σ', H', I', q'⟩ := h8'
  exact akb I' hN hj hloc λs9 I9 => ⟨_, _, I9, q'⟩
 | cont =>
  obtain ⟨σ', H', I', q'⟩ := h8'
  exact akb I' hN hj hloc λs9 I9 => ⟨_, _, I9, q'⟩
 | ret u =>
  obtain ⟨v, σ', H', I', r, q'⟩ := h8'
  exact akb I' hN hj hloc λs9 I9 => ⟨v, _, _, I9, r, q'⟩
end L2
end
section
namespace L2
open PySem PySem.Spec PyProof.Rows PySem.W PySem.Builtin PySem.Builtin.ObjectAttr PySem.Builtin.Getset_descriptor
structure al6 (K : Frag) (C : Addr) : Prop where
 ga : findIn K (.ref C) "__getattribute__" = some (some (.builtin "BaseException.__getattribute__"))
 gn : findIn K (.ref C) "__getattr__" = some none
 cl : findIn K (.ref C) "__class__" = some (some (.builtin "object.__class__"))
 ob : mroIn K C (.type "object") = some true
 be : mroIn K C (.type "BaseException") = some true
 is : (clsIn K C).isSome = true
section
variable {prog : Program} {w : World} {A : Around} {E : Value -> Shared -> Prop} {h : Heap} {g : Array GenState} {d : Drawn} {t : Nat} {os : OsState} {a C : Addr} {o : Obj} {K : Frag}
theorem apU {R : Result -> Shared -> Prop} (X : K.In h) (Z : al6 K C) (hx : h.get? a = some o) (hc : o.cls = .ref C) (hq : R (.ok (.ret (.ref C))) ⟨h, g, d, t, os⟩) :
  codeAny (model prog w) A (.call (.builtin "getset_descriptor.__get__") ⟨[.builtin "object.__class__", .ref a, .ref C], []⟩) R ⟨h, g, d, t, os⟩ := by
 have ty : Looks (model prog w) h (typeOf (.ref a)) (.ref C) := hc ▸ (Looks.ld hx).andThen .now
 have ms := looks_mroIn (M := model prog w) X Z.ob
 refine codeAny_call_builtin KF.slot_gs.plain KF.entry_gs (KF.slot_gs.check _ _ _ _ _ _ _ _ KF.type_class (KF.args_gs _ _ _) ?_)
 unfold Builtin.«getset_descriptor.__get__»
 unfold Builtin.Getset_descriptor.descrGet
 rw [dga_obj]
 refine wpAny_bind (wpAny_pure ?_)
 unfold Builtin.Getset_descriptor.descrGetter
 unfold Builtin.Getset_descriptor.descrCheckInstance
 unfold Builtin.Getset_descriptor.descrNameAndClass
 unfold isInstance
 simp only [KF.owner_class]
 repeat lk
 refine ⟨Code.quiet_builtin _ (by decide +kernel), codeAny_builtin KF.entry_class ?_⟩
 unfold Builtin.«object.__class__»
 unfold shownTypeOf
 repeat lk
 all_goals first | exact hq | assumption
theorem al7 {tk : Tok} {Q : Fin -> Shared -> Prop} (X : K.In h) (Z : al6 K C) (hx : h.get? a = some o) (hc : o.cls = .ref C) (hq : Q (.done (.ret (.ref C))) ⟨h, g, d, t, os⟩) :
  wpAny (model prog w) A (Builtin.«object.__getattribute__» ⟨[.ref a, .str "__class__" tk], []⟩) Q E ⟨h, g, d, t, os⟩ := by
 have hT5 : (⟨h, g, d, t, os⟩ : Shared).TypeIs (.builtin "object.__class__") "getset_descriptor" := KF.type_class
 have f6 := F.slot_gs_get.lookup
 have f7 := F.slot_gs_set.lookup
 have lc := λA (Q : Option Value -> Shared -> Prop) E (q : Q (some (.builtin "object.__class__")) ⟨h, g, d, t, os⟩) => looks_findIn (M := model prog w) X Z.cl A Q E ⟨h, g, d, t, os⟩ (λ_ _ z => z) q
 repeat (any_goals (first | assumption | (with_reducible refine wpAny_loadPart_at hx ?_; rw [hc]) | with_reducible refine lc _ _ _ ?_ | wp_step))
 refine apU X Z hx hc ?_
 repeat (any_goals (first | assumption | wp_step))
theorem al8 {nameV : Value} {Q : Unit -> Shared -> Prop} (X : K.In h) (Z : al6 K C) (hx : h.get? a = some o) (hc : o.cls = .ref C) (hq : Q () ⟨h, g, d, t, os⟩) :
  wpAny (model prog w) A (checkBuiltinCall "BaseException.__getattribute__" ⟨[.ref a, nameV], []⟩) Q E ⟨h, g, d, t, os⟩ := by
 have b1 : builtinKind "BaseException.__getattribute__" = some .slot := by decide +kernel
 have b2 : splitId "BaseException.__getattribute__" = some ("BaseException", "__getattribute__") := by decide +kernel
 have ha := F.args_bexc_ga (.ref a) nameV
 have lc := λA (Q : Bool -> Shared -> Prop) E (q : Q true ⟨h, g, d, t, os⟩) => looks_mroIn (M := model prog w) X Z.be A Q E ⟨h, g, d, t, os⟩ (λ_ _ z => z) q
 simp only [checkBuiltinCall, b1, b2]
 refine wpAny_bind ?_
 unfold isInstance
 repeat (first | (with_reducible refine wpAny_loadPart_at hx ?_; rw [hc]) | with_reducible refine lc _ _ _ ?_ | wp_step)
 exact hq
theorem anM {tk : Tok} {R : Result -> Shared -> Prop} (X : K.In h) (Z : al6 K C) (hx : h.get? a = some o) (hc : o.cls = .ref C) (hq : R (.ok (.ret (.ref C))) ⟨h, g, d, t, os⟩) :
  codeAny (model prog w) A (.call (.builtin "BaseException.__getattribute__") ⟨[.ref a, .str "__class__" tk], []⟩) R ⟨h, g, d, t, os⟩ :=
 codeAny_call_builtin PySem.F.attr_ValueError.ga.plain F.entry_bexc_ga (al8 X Z hx hc (al7 X Z hx hc hq))
theorem ar0 {tk : Tok} {Q : Value -> Shared -> Prop} (X : K.In h) (Z : al6 K C) (hx : h.get? a = some o) (hc : o.cls = .ref C) (hq : Q (.ref C) ⟨h, g, d, t, os⟩) :
  wpAny (model prog w) A (getAttrBy (.ref a) (.str "__class__" tk) false) Q E ⟨h, g, d, t, os⟩ := by
 have f3 := PySem.F.attr_ValueError.ga.bind (.ref a)
 have hx2 : (Value.builtin "BaseException.__getattribute__" == Value.builtin "object.__getattribute__") = false := by decide +kernel
 have hx1 : (onTheHeap (Value.ref C) && Value.builtin "BaseException.__getattribute__" == Value.builtin "object.__getattribute__") = false := by rw [hx2]; rfl
 have l1 := λA (Q : Option Value -> Shared -> Prop) E (q : Q (some (.builtin "BaseException.__getattribute__")) ⟨h, g, d, t, os⟩) => looks_findIn (M := model prog w) X Z.ga A Q E ⟨h, g, d, t, os⟩ (λ_ _ z => z) q
 have l2 := λA (Q : Option Value -> Shared -> Prop) E (q : Q none ⟨h, g, d, t, os⟩) => looks_findIn (M := model prog w) X Z.gn A Q E ⟨h, g, d, t, os⟩ (λ_ _ z => z) q
 repeat (any_goals (first | assumption | (with_reducible refine wpAny_loadPart_at hx ?_; rw [hc]) | with_reducible refine l1 _ _ _ ?_ | with_reducible refine l2 _ _ _ ?_ | wp_step))
 refine anM X Z hx hc ?_
 repeat (any_goals (first | assumption | wp_step))
theorem anN {Q : Option Value -> Shared -> Prop} (X : K.In h) (Z : al6 K C) (hx : h.get? a = some o) (hc : o.cls = .ref C) (hq : Q (some (.ref C)) ⟨h, g, d, t + 1, os⟩) :
  wpAny (model prog w) A (getAttr? (.ref a) "__class__") Q E ⟨h, g, d, t, os⟩ := by
 unfold getAttr? getAttrBy?
 repeat (any_goals (first | assumption | with_reducible apply ar0 X Z hx hc | wp_step))
theorem akc (Z : al6 K C) : KitX K (.ref a) (.ref C) (aut a C) where
 ty := λ_ _ _ ⟨o, _, h1, h2, _⟩ => h2 ▸ (Looks.ld h1).andThen .now
 it := λ_ _ X _ => by
  obtain ⟨cd, e⟩ := Option.isSome_iff_exists.mp Z.is
  unfold clsIn at e
  split at e
  ·rename_i ho
   intro A' Q' E' s' k q
   unfold isType loadHead
   exact wpAny_bind (wpAny_loadPart (k _ _ (X _ _ ho)) (wpAny_pure q))
  ·cases e
 ne := λh tp dd its n sl X htp => by
  obtain ⟨cd, e⟩ := Option.isSome_iff_exists.mp Z.is
  refine Bool.eq_false_iff.mpr λq => ?_
  have q' : C = tp := Value.ref.inj (beq_iff_eq.mp q)
  subst q'
  unfold clsIn at e
  split at e
  ·rename_i ho
   have z := (X _ _ ho).symm.trans htp
   cases z
  ·cases e
 ca := λ{_ _ _ _ _ s} X p k => by
  obtain ⟨h, g, d, t, os⟩ := s
  obtain ⟨o, _, h1, h2, _⟩ := p
  exact anN X Z h1 h2 k
end
section
variable {X : Cx}
noncomputable def axx (K : Frag) : List V -> Hp -> VK -> Prop := λxs H Q => ∃ (ea C : Addr) (d : Value) (dv : V) (b : Bool), xs = [.ref ea, dv] /\ H ea = some (exO ea C) /\ al6 K C /\ (∀ u, RelV dv u -> u = d) /\ kitOne K (.ref C) d = some b /\ Q (.bl b) H
theorem akd : acI X (.builtin "isinstance") (axx X.K) := by
 intro pins s σ H xs us Q I r h
 obtain ⟨ea, C, d, dv, b, rfl, he, Z, hd, hk, q⟩ := h
 obtain ⟨u, w', rfl, ru, rw'⟩ := vals2 r
 cases ru
 cases hd w' rw'
 have p : aut ea C s.heap := (I.hok ea _ he).1
 exact kia_one (akc Z) I.kIn p hk (λz => nomatch z) λtk => ⟨.bl b, H, I.tok tk, rfl, q⟩
noncomputable def axy (K : Frag) : List V -> Hp -> VK -> Prop := λxs H Q => ∃ (d : Value) (dv : V) (b : Bool), xs = [.non, dv] /\ (∀ u, RelV dv u -> u = d) /\ kitOne K (.type "NoneType") d = some b /\ Q (.bl b) H
theorem ake : acI X (.builtin "isinstance") (axy X.K) := by
 intro pins s σ H xs us Q I r h
 obtain ⟨d, dv, b, rfl, hd, hk, q⟩ := h
 obtain ⟨u, w', rfl, ru, rw'⟩ := vals2 r
 cases ru
 cases hd w' rw'
 exact kia_one kitx_none I.kIn True.intro hk (λz => nomatch z) λtk => ⟨.bl b, H, I.tok tk, rfl, q⟩
end
end L2
end
section
namespace L2
open PySem
theorem al9 (a b : Int) : a = b * a.fdiv b + a.fmod b := by
 have := Int.mul_fdiv_add_fmod a b
 omega
theorem akX (a b : Int) (h : b ≠ 0) : (a.fmod b).natAbs < b.natAbs := by
 have h1 := Int.emod_nonneg a h
 have h2 := Int.emod_lt a h
 rw [Int.fmod_eq_emod]
 split
 ·omega
 ·rename_i hn
  have hb : ¬ 0 <= b := λz => hn (.inl z)
  have hd : ¬ b ∣ a := λz => hn (.inr z)
  have h3 : a % b ≠ 0 := λz => hd (Int.dvd_of_emod_eq_zero z)
  omega
theorem anO (a b : Int) : Int.gcd b (a.fmod b) = Int.gcd a b := by
 have e := al9 a b
 apply Nat.dvd_antisymm
 ·refine Int.dvd_gcd ?_ ?_
  ·have h1 : (Int.gcd b (a.fmod b) : Int) ∣ b := Int.gcd_dvd_left ..
   have h2 : (Int.gcd b (a.fmod b) : Int) ∣ a.fmod b := Int.gcd_dvd_right ..
   have h3 := Int.dvd_add (Int.dvd_mul_of_dvd_left (c := a.fdiv b) h1) h2
   rw [<-e] at h3
   exact h3
  ·exact Int.gcd_dvd_left ..
 ·refine Int.dvd_gcd ?_ ?_
  ·exact Int.gcd_dvd_right ..
  ·have h1 : (Int.gcd a b : Int) ∣ a := Int.gcd_dvd_left ..
   have h2 : (Int.gcd a b : Int) ∣ b := Int.gcd_dvd_right ..
   have e2 : a.fmod b = a - b * a.fdiv b := by omega
   rw [e2]
   exact Int.dvd_sub h1 (Int.dvd_mul_of_dvd_left h2)
theorem apV (a : Int) : (if a < 0 then -a else a) = ((Int.gcd a 0 : Nat) : Int) := by
 rw [Int.gcd_zero_right]
 split <;> omega
theorem ah2 {a b : Int} (hb : 0 < b) : 0 < ((Int.gcd a b : Nat) : Int) /\ ((Int.gcd a b : Nat) : Int) <= b /\ 1 <= b / (Int.gcd a b : Nat) /\ Int.gcd (a / (Int.gcd a b : Nat)) (b / (Int.gcd a b : Nat)) = 1 /\ (0 <= a -> 0 <= a / (Int.gcd a b : Nat)) /\
  a = (a / (Int.gcd a b : Nat)) * (Int.gcd a b : Nat) /\ b = (b / (Int.gcd a b : Nat)) * (Int.gcd a b : Nat) := by
 have hg : 0 < Int.gcd a b := Int.gcd_pos_of_ne_zero_right a (by omega)
 have hgi : 0 < ((Int.gcd a b : Nat) : Int) := by omega
 have d1 : (Int.gcd a b : Int) ∣ a := Int.gcd_dvd_left ..
 have d2 : (Int.gcd a b : Int) ∣ b := Int.gcd_dvd_right ..
 have e1 := Int.ediv_mul_cancel d1
 have e2 := Int.ediv_mul_cancel d2
 refine ⟨hgi, Int.le_of_dvd hb d2, ?_, Int.gcd_ediv_gcd_ediv_gcd hg, λh => Int.ediv_nonneg h (by omega), e1.symm, e2.symm⟩
 have : 0 < b / (Int.gcd a b : Nat) := Int.ediv_pos_of_pos_of_dvd hb (by omega) d2
 omega
end L2
end
section
namespace L2
open PySem PySem.Spec PyProof.Rows
section
variable {X : Cx}
end
end L2
end
section
namespace L2
open PySem PySem.Spec PyProof.Rows PySem.W
theorem aoX {K : Frag} {h : Heap} {mg : Str -> Option Value} {x : Str} {C : Addr} {bmB : List Value} {newId : String} (X : K.In h) (G : h.Ns mainGlobals mg) (e : nsIn K mainGlobals x = some (some (.ref C))) (q : excIn K C bmB newId = true) : OwnCls x C bmB newId mg h := by
 constructor
 ·exact mg_of X G e
 unfold excIn at q
 split at q
 case h_2 => cases q
 rename_i dd cd sl lk
 split at q
 case h_2 => cases q
 rename_i c0 bm y0 y1 y2 y3 nid y5 hm hl
 rw [Bool.and_eq_true, Bool.and_eq_true, Bool.and_eq_true, Bool.and_eq_true, Bool.and_eq_true] at q
 obtain ⟨⟨⟨⟨⟨q1, q2⟩, q3⟩, q4⟩, q5⟩, q6⟩ := q
 have r1 := beq_iff_eq.mp q1
 have r2 := beq_iff_eq.mp q2
 have r6 := beq_iff_eq.mp q6
 have r3 : cd.hasDel = false := by simpa using q3
 subst r1 r2
 have hsl : sl = #[y0, y1, y2, y3, some (.builtin nid), y5] := by
  cases sl with
  | mk l => exact congrArg Array.mk hl
 subst hsl
 cases cd with
 | mk nm bs mro ns qn hd sn sub ab col del =>
  dsimp only at hm r3 q5 r6
  subst hm r3
  exact ⟨bm, ns, nm, qn, bs, hd, sn, sub, ab, col, dd, y0, y1, y2, y3, y5, _, X _ _ lk, .of_isNs (isNs_of_in X q5), nsMap_none_of_in X q5 r6, tail_of_in X q4⟩
section
variable {P : Program} {w : World} {K : Frag} {mg : Str -> Option Value} {base : Heap}
theorem Fun.okX {x qual : Str} {st : Stmt} {f : Addr} {fd : FuncData} {N ps : List Str} {k : Nat} {sp : Sp} (F : Fun K x qual st f fd) (S : aaR N ps (aan st)) (len : ∀ vs H Q E, sp vs H Q E -> vs.length = ps.length)
  (hbody : ∀ (cdv : Value) (A : Around) (outer : List Env) (s : Shared) (H : Hp) (vs : List V) (Q : VK) (E : XK), aeZ k (A.deeper (envOfC qual (aan st) s.heap.objs.size f cdv)) -> sp vs H Q E ->
   ∃ t, PSs (aj4 (CXF P w) P w K mg base N qual (aan st) f cdv A outer s H E) (abZ st) t /\ t { nx := λ_ H' => Q .non H', rt := Q } (start N vs) H) : aj3 P w K mg base (CXF P w) (k + 1) f fd ps sp := by
 obtain ⟨oc, od, kV, doc, pm, an, cdv, ct, osl, rfl, lk, hcd⟩ := F.ex
 exact arK lk hcd S len λA outer s H vs Q E hr h => hbody cdv A outer s H vs Q E hr h
noncomputable def DfX (P : Program) (w : World) (K : Frag) (mg : Str -> Option Value) (base : Heap) (k : Nat) (x : Str) (ps : List Str) (sp : Sp) : Prop :=
 ∃ f fd, aj3 P w K mg base (CXF P w) k f fd ps sp /\ Binds K fd ps [] /\ keepIn K (.ref f) = true /\ mg x = some (.ref f)
theorem DfX.mono {j k : Nat} {x : Str} {ps : List Str} {sp : Sp} (D : DfX P w K mg base j x ps sp) (h : j <= k) : DfX P w K mg base k x ps sp := by
 obtain ⟨f, fd, h1, h2⟩ := D
 exact ⟨f, fd, h1.mono h, h2⟩
theorem At.dfx {k : Nat} {x : Str} {st : Stmt} {N ps : List Str} {sp : Sp} (a : At K mg x st) (S : aaR N ps (aan st))
  (hb : ∀ (kV doc pm : Value) (an : Option Addr) (cdv ct : Value) (us : List Value), us.length = ps.length -> bindArgs (fnOf x x (acM st) (abZ st) (aan st) .none kV doc pm an cdv ct) ⟨us, []⟩ = pure (ps.zip us))
  (len : ∀ vs H Q E, sp vs H Q E -> vs.length = ps.length)
  (hbody : ∀ (f : Addr) (cdv : Value) (A : Around) (outer : List Env) (s : Shared) (H : Hp) (vs : List V) (Q : VK) (E : XK), aeZ k (A.deeper (envOfC x (aan st) s.heap.objs.size f cdv)) -> sp vs H Q E ->
   ∃ t, PSs (aj4 (CXF P w) P w K mg base N x (aan st) f cdv A outer s H E) (abZ st) t /\ t { nx := λ_ H' => Q .non H', rt := Q } (start N vs) H) : DfX P w K mg base (k + 1) x ps sp := by
 obtain ⟨f, fd, F, m⟩ := a
 exact ⟨f, fd, F.okX S len λcdv A outer s H vs Q E hr h => hbody f cdv A outer s H vs Q E hr h, F.binds hb, F.kp, m⟩
end
section
variable {X : Cx} {k : Nat} {x : Str} {ps : List Str} {sp : Sp} {p pos : Pos} {e : Expr} {es : List Expr} {t : TA}
theorem ad4 {P : Program} {w : World} : Passes (CXF P w) X E0 := λ_ _ _ _ _ _ _ h => by
 obtain ⟨_, _, _, _, _, _, q, _⟩ := h
 exact q.elim
theorem ama (D : DfX X.prog X.w X.K X.mg X.base k x ps sp) (hr : aeZ k X.A) (ha : PA X.nox (e :: es) t) (hg : Gl X x := by rfl) (hdb : (x == ("__debug__" : Str)) = false := by decide)
  (he : starEach (e :: es) X.env = (false, eval e X.env) :: starEach es X.env := by rfl) (hpl : (backTo pos (starEach es X.env)).any (·.1) = false := by rfl) : PEX X (.Call (.Name x p) (e :: es) [] pos) (al5 sp t) := by
 obtain ⟨f, fd, h1, h2, h3, h4⟩ := D
 exact anL h1 hr h4 h3 h2 ha hg hdb he hpl
end
end L2
end
section
namespace L2
open PySem PySem.Spec PyProof.Rows
section
variable {P : Program} {w : World} {K : PySem.W.Frag}
end
section
variable {X : Cx}
end
end L2
end
section
namespace L2
open PySem
end L2
end
section
namespace L2
open PySem PySem.Spec PyProof.Rows
section
variable {X : Cx} {e : Expr} {te : TE} {th : TO} {pos p2 : Pos}
end
end L2
end
section
namespace L2
open PySem PySem.Spec PyProof.Rows
section
variable {X : Cx}
noncomputable def ai4 (K : PySem.W.Frag) : R2 := λx y H Q => ∃ t ts p xs, Rep K H x t /\ y = .ref p /\ (SqL K H p xs \/ SqT K H p xs) /\ aa3 K H xs ts /\ deps ts <= 40 /\ dep t <= 40 /\ Q (.bl (!apQ t ts)) H
open Classical in
theorem amb (hu : X.A.units + 64 < cLine) : OpR X (compareOp .NotIn) (ai4 X.K) := by
 intro pins s σ H x y v u Q I rx ry h
 obtain ⟨t, ts, p, xs, q1, rfl, hq, qs, hd, hd2, q⟩ := h
 cases ry
 have hu1 : X.A.in1.units + 40 < cLine := by
  have := in1_units X.A
  omega
 -- what == tells of an item, by the item itself
 let e : Value -> Bool := λw' => if h : ∃ z tz, z ∈ xs /\ RelV z w' /\ Rep X.K H z tz /\ tz ∈ ts then eqT (Classical.choose (Classical.choose_spec h)) t else false
 have ee : ∀ z w' tz, z ∈ xs -> RelV z w' -> Rep X.K H z tz -> tz ∈ ts -> e w' = eqT tz t := λz w' tz h1 h2 h3 h4 => by
  have hx : ∃ z tz, z ∈ xs /\ RelV z w' /\ Rep X.K H z tz /\ tz ∈ ts := ⟨z, tz, h1, h2, h3, h4⟩
  show (if h : _ then _ else _) = _
  rw [dif_pos hx]
  have sp := Classical.choose_spec (Classical.choose_spec hx)
  have key : ∀ z z' t1 t2, RelV z w' -> RelV z' w' -> dep t1 <= 99 -> Rep X.K H z t1 -> Rep X.K H z' t2 -> t1 = t2 := λz z' t1 t2 a1 a2 d9 a3 a4 => by
   obtain rfl := RelV.inj a1 a2
   exact Rep.inj I d9 a3 a4
  rw [key _ _ _ _ sp.2.1 h2 (by have := al1 sp.2.2.2; omega) sp.2.2.1 h3]
 have mem : ∀ {its : List Value}, Vals xs its -> ∀ w' ∈ its, SeqAt.EqAt X.A.in1 s w' v (e w') := by
  intro its r w' hw
  obtain ⟨j, hj, ej⟩ := List.mem_iff_getElem.mp hw
  have hjx : j < xs.length := by rw [r.length]; exact hj
  obtain ⟨u', h1, h2⟩ := r.get (List.getElem?_eq_getElem hjx)
  rw [List.getElem?_eq_getElem hj, ej] at h1
  cases h1
  obtain ⟨tz, h3, h4⟩ := qs.get (List.getElem?_eq_getElem hjx)
  have hm := List.mem_of_getElem? h3
  rw [ee _ _ tz (List.getElem_mem hjx) h2 h4 hm]
  exact (ai2 I 40 X.A.in1 tz t _ x _ v hu1 (Nat.le_trans (al1 hm) hd) (by have := al1 hm; omega) (by omega) h4 q1 h2 rx).2
 rcases hq with hq | hq
 ·obtain ⟨its, r, pl, hz⟩ := I.list hq
  refine SeqAt.notIn_listAt e pl.isList (λw hw => mem r w (by simpa using hw)) ⟨.bl _, H, I, rfl, ?_⟩
  rw [show its.toArray.any e = its.any e by simp, ahZ (λz => eqT z t) e r qs λz w' tz h1 h2 h3 h4 => ee z w' tz h1 h2 h3 h4]
  exact q
 ·obtain ⟨its, r, pl, hz⟩ := I.tuple hq
  refine SeqAt.notIn_tupleAt e pl (λw hw => mem r w (by simpa using hw)) ⟨.bl _, H, I, rfl, ?_⟩
  rw [show its.toArray.any e = its.any e by simp, ahZ (λz => eqT z t) e r qs λz w' tz h1 h2 h3 h4 => ee z w' tz h1 h2 h3 h4]
  exact q
end
section
variable {X : Cx} {tg : Expr}
end
end L2
end
section
namespace L2
open PySem PySem.Spec PyProof.Rows
section
variable {X : Cx}
end
end L2
end
section
namespace L2
open PySem PySem.Spec PyProof.Rows
inductive Rs (α : Type) where
 | bad | ex (c : Str) | ok (a : α)
noncomputable def Rs.bind {α β : Type} : Rs α -> (α -> Rs β) -> Rs β
 | .bad, _ => .bad
 | .ex c, _ => .ex c
 | .ok a, f => f a
noncomputable instance : Monad Rs where
 pure := .ok
 bind := Rs.bind
noncomputable def Rs.post {α : Type} (r : Rs α) (EX : Str -> Prop) (P : α -> Prop) : Prop := match r with
 | .bad => False
 | .ex c => EX c
 | .ok a => P a
theorem Rs.aae {α β : Type} {r : Rs α} {f : α -> Rs β} {EX : Str -> Prop} {P : β -> Prop} (h : (r.bind f).post EX P) : r.post EX λa => (f a).post EX P := by
 cases r <;> exact h
theorem Rs.aag {α : Type} {r : Rs α} {EX : Str -> Prop} {P P' : α -> Prop} (h : r.post EX P) (i : ∀ a, P a -> P' a) : r.post EX P' := by
 cases r with
 | bad => exact h
 | ex c => exact h
 | ok a => exact i a h
open Classical in
noncomputable def aa2 (W : Addr -> Prop) (H : Hp) : Hp := λb => if W b then none else H b
theorem ag9 {W : Addr -> Prop} {H : Hp} {b : Addr} (h : W b) : aa2 W H b = none := if_pos h
theorem aaS {W : Addr -> Prop} {H : Hp} {b : Addr} (h : ¬ W b) : aa2 W H b = H b := if_neg h
theorem abm {W : Addr -> Prop} {H : Hp} {b : Addr} {o : HO} (h : aa2 W H b = some o) : ¬ W b /\ H b = some o := by
 by_cases w : W b
 ·rw [ag9 w] at h; cases h
 ·rw [aaS w] at h; exact ⟨w, h⟩
theorem ab4 (W : Addr -> Prop) (H : Hp) : Same (aa2 W H) H := λ_ _ h => (abm h).2
theorem acd {W W' : Addr -> Prop} {H H' : Hp} (hw : ∀ b o, H b = some o -> W' b -> W b) (s : ∀ b o, ¬ W b -> H b = some o -> H' b = some o) : Same (aa2 W H) (aa2 W' H') := λb o h => by
 obtain ⟨n, e⟩ := abm h
 rw [aaS λw => n (hw b o e w)]
 exact s b o n e
theorem acg {W : Addr -> Prop} {H : Hp} {a : Addr} {o : HO} (h : W a) : aa2 W (upd H a o) = aa2 W H := by
 funext b
 by_cases w : W b
 ·rw [ag9 w, ag9 w]
 ·rw [aaS w, aaS w]
  exact aaw λe => w (e ▸ h)
inductive Sl where
 | un | sh (t : Tr) | ow (ts : List Tr) | rf (ts : List Tr) | dp (ts : List Tr)
noncomputable abbrev En := List Sl
inductive Rv where
 | v (T : Tr) (fr : Bool) | s (i : Nat)
noncomputable abbrev EF := En -> Rs (Rv × En)
structure Tx where
 K : PySem.W.Frag
 Z : Addr -> Prop
 R : Addr -> Prop
 H0 : Hp
 B : Hp
 EX : Str -> Prop
noncomputable def Mu (ρ : En) (i : Nat) : Prop := ∃ ts, ρ[i]? = some (Sl.ow ts) \/ ρ[i]? = some (Sl.rf ts)
noncomputable def au5 : Tr -> Bool
 | .lst _ => true
 | _ => false
inductive DR (K : PySem.W.Frag) (G H : Hp) : List V -> List Tr -> List Addr -> Prop
 | nil : DR K G H [] [] []
 | cl {x : V} {u : Tr} {xs : List V} {ts : List Tr} {bs : List Addr} (n : au5 u = false) (h : Rep K G x u) (r : DR K G H xs ts bs) : DR K G H (x :: xs) (u :: ts) bs
 | rw {b : Addr} {ys : List V} {us : List Tr} {xs : List V} {ts : List Tr} {bs : List Addr} (h : H b = some (.lst ys)) (q : aa3 K G ys us) (r : DR K G H xs ts bs) : DR K G H (.ref b :: xs) (.lst us :: ts) (b :: bs)
noncomputable def aoY (t : Tx) (W : Addr -> Prop) (H : Hp) (a : Addr) (xs : List V) (ts : List Tr) (fp : List Addr) : Prop :=
 ∃ bs, fp = a :: bs /\ fp.Nodup /\ (∀ b ∈ fp, W b /\ t.H0 b = none) /\ H a = some (.lst xs) /\ DR t.K (aa2 W H) H xs ts bs
theorem DR.move {K : PySem.W.Frag} {G G' H H' : Hp} (m : Same G G') : ∀ {xs : List V} {ts : List Tr} {bs : List Addr}, DR K G H xs ts bs -> (∀ b o, b ∈ bs -> H b = some o -> H' b = some o) -> DR K G' H' xs ts bs
 | _, _, _, .nil, _ => .nil
 | _, _, _, .cl n h r, k => .cl n (h.mono m) (DR.move m r k)
 | _, _, _, .rw h q r, k => .rw (k _ _ (List.mem_cons_self ..) h) (q.mono m) (DR.move m r λb o hb => k b o (List.mem_cons_of_mem _ hb))
theorem aoY.move {t t' : Tx} {W W' : Addr -> Prop} {H H' : Hp} {a : Addr} {xs : List V} {ts : List Tr} {fp : List Addr} (d : aoY t W H a xs ts fp) (hK : t'.K = t.K) (h0 : t'.H0 = t.H0) (m : Same (aa2 W H) (aa2 W' H')) (w : ∀ b ∈ fp, W' b) (k : ∀ b o, b ∈ fp -> H b = some o -> H' b = some o) : aoY t' W' H' a xs ts fp := by
 obtain ⟨bs, e, nd, ww, ha, r⟩ := d
 refine ⟨bs, e, nd, λb hb => ⟨w b hb, by rw [h0]; exact (ww b hb).2⟩, k a _ (by rw [e]; exact List.mem_cons_self ..) ha, ?_⟩
 rw [hK]
 exact r.move m λb o hb => k b o (by rw [e]; exact List.mem_cons_of_mem _ hb)
noncomputable def Lt (H : Hp) (b : Addr) : Prop := (∃ xs, H b = some (.lst xs)) \/ ∃ ps, H b = some (.tbl ps)
theorem Lt.ne {H : Hp} {b : Addr} (h : Lt H b) : H b ≠ none := by
 rcases h with ⟨_, h⟩ | ⟨_, h⟩ <;> (rw [h]; intro z; cases z)
theorem Lt.grow {H H' : Hp} {b : Addr} (h : Lt H b) (s : ∀ b o, H b = some o -> H' b = some o) : Lt H' b := by
 rcases h with ⟨_, h⟩ | ⟨_, h⟩
 ·exact .inl ⟨_, s _ _ h⟩
 ·exact .inr ⟨_, s _ _ h⟩
noncomputable def abz : List Str := ["falling_places", "order_of_bounds"]
noncomputable def Tb (K : PySem.W.Frag) (b : Addr) : Prop := ∃ x ∈ abz, ∃ c, PySem.W.tabIn K x = some (c, b)
noncomputable def aoZ (o : Obj) (q : Str) : Prop := ∃ vs t, o.data = .fields vs /\ vs[1]? = some (.str q t)
noncomputable def aha (x : Str) : Str := x ++ (".<locals>." : Str) ++ ("<lambda>" : Str)
noncomputable def auw (H : Hp) (q : Str) (ps : Array Value) : Prop := TriplesOk ps.toList /\ ∀ pos v, codeAmong pos ps.toList = some v -> ∃ c o, v = .ref c /\ H c = some (.frz o (.own 0)) /\ aoZ o q
noncomputable def TbS (K : PySem.W.Frag) (H : Hp) : Prop := ∀ x ∈ abz, ∀ c b, PySem.W.tabIn K x = some (c, b) -> ∃ ps, H b = some (.tbl ps) /\ auw H (aha x) ps
theorem TbS.tbl {K : PySem.W.Frag} {H : Hp} (h : TbS K H) {b : Addr} (t : Tb K b) : ∃ ps, H b = some (.tbl ps) := by
 obtain ⟨x, hx, c, e⟩ := t
 obtain ⟨ps, q, _⟩ := h x hx c b e
 exact ⟨ps, q⟩
theorem TbS.ne {K : PySem.W.Frag} {H : Hp} (h : TbS K H) {a b : Addr} {xs : List V} (t : Tb K b) (e : H a = some (.lst xs)) : b ≠ a := λz => by
 obtain ⟨ps, q⟩ := h.tbl t
 rw [z, e] at q
 cases q
theorem TbS.fr {K : PySem.W.Frag} {H H' : Hp} (h : TbS K H) (s : ∀ b o, (∀ xs, o ≠ .lst xs) -> H b = some o -> H' b = some o) : TbS K H' := λx hx c b e => by
 obtain ⟨ps, q, t1, t2⟩ := h x hx c b e
 refine ⟨ps, s _ _ (λ_ z => by cases z) q, t1, λpos v k => ?_⟩
 obtain ⟨c, o, e1, e2, e3⟩ := t2 pos v k
 exact ⟨c, o, e1, s _ _ (λ_ z => by cases z) e2, e3⟩
theorem TbS.same {K : PySem.W.Frag} {H H' : Hp} (h : TbS K H) (s : Same H H') : TbS K H' := h.fr λb o _ => s b o
theorem TbS.upd {K : PySem.W.Frag} {H : Hp} (h : TbS K H) {a : Addr} {xs : List V} {o : HO} (e : H a = some (.lst xs)) : TbS K (L2.upd H a o) := h.fr λb u n q => by
 rw [aaw]
 ·exact q
 ·rintro rfl
  rw [e] at q
  cases q
  exact n _ rfl
structure akf (t : Tx) (W : Addr -> Prop) (H : Hp) : Prop where
 ok : TbS t.K H
 w : ∀ b, Tb t.K b -> W b
 r : ∀ b, Tb t.K b -> t.R b
 B : ∀ b, Tb t.K b -> t.B b = none
theorem akf.same {t : Tx} {W : Addr -> Prop} {H H' : Hp} (f : akf t W H) (s : Same H H') : akf t W H' := ⟨f.ok.same s, f.w, f.r, f.B⟩
theorem akf.wid {t : Tx} {W W' : Addr -> Prop} {H : Hp} (f : akf t W H) (h : ∀ b, W b -> W' b) : akf t W' H := ⟨f.ok, λb z => h b (f.w b z), f.r, f.B⟩
theorem akf.cut {t : Tx} {W : Addr -> Prop} {H : Hp} (f : akf t W H) {D : Addr -> Prop} (h : ∀ b, D b -> ∃ xs, H b = some (.lst xs)) : akf t (λb => W b /\ ¬ D b) H := ⟨f.ok, λb z => ⟨f.w b z, λd => by
 obtain ⟨xs, e⟩ := h b d
 exact f.ok.ne z e rfl⟩, f.r, f.B⟩
theorem akf.upd {t : Tx} {W : Addr -> Prop} {H : Hp} (f : akf t W H) {a : Addr} {xs : List V} {o : HO} (e : H a = some (.lst xs)) : akf t W (L2.upd H a o) := ⟨f.ok.upd e, f.w, f.r, f.B⟩
structure EOF (t : Tx) (W : Addr -> Prop) (ρ : En) (σ : St) (H : Hp) (F : Nat -> List Addr) : Prop where
 len : ρ.length = σ.length
 zw : ∀ b, t.Z b -> W b
 z0 : ∀ b, t.Z b -> t.H0 b ≠ none
 wl : ∀ b, W b -> Lt H b
 f0 : ∀ b o, t.H0 b = some o -> ¬ t.R b -> H b = some o
 n0 : ∀ b, H b = none -> t.H0 b = none
 sh : ∀ (i : Nat) (u : Tr), ρ[i]? = some (.sh u) -> ∃ v, σ[i]? = some (some v) /\ Rep t.K (aa2 W H) v u
 ow : ∀ (i : Nat) (ts : List Tr), ρ[i]? = some (Sl.ow ts) -> ∃ a xs, σ[i]? = some (some (V.ref a)) /\ W a /\ t.H0 a = none /\ H a = some (.lst xs) /\ aa3 t.K (aa2 W H) xs ts
 rf : ∀ (i : Nat) (ts : List Tr), ρ[i]? = some (Sl.rf ts) -> ∃ a xs, σ[i]? = some (some (V.ref a)) /\ W a /\ t.R a /\ H a = some (.lst xs) /\ aa3 t.K (aa2 W H) xs ts
 dis : ∀ (i j : Nat) (a : Addr), Mu ρ i -> Mu ρ j -> σ[i]? = some (some (V.ref a)) -> σ[j]? = some (some (V.ref a)) -> i = j
 pn : ∀ b o, t.B b = some o -> H b = some o
 pd : ∀ (i : Nat) (a : Addr), Mu ρ i -> σ[i]? = some (some (V.ref a)) -> t.B a = none
 dp : ∀ (i : Nat) (ts : List Tr), ρ[i]? = some (Sl.dp ts) -> ∃ a xs, σ[i]? = some (some (V.ref a)) /\ aoY t W H a xs ts (F i)
 dd : ∀ (i j : Nat) (ts us : List Tr), i ≠ j -> ρ[i]? = some (Sl.dp ts) -> ρ[j]? = some (Sl.dp us) -> ∀ b ∈ F i, b ∉ F j
 dm : ∀ (i j : Nat) (ts : List Tr) (c : Addr), ρ[i]? = some (Sl.dp ts) -> Mu ρ j -> σ[j]? = some (some (V.ref c)) -> c ∉ F i
 db : ∀ (i : Nat) (ts : List Tr), ρ[i]? = some (Sl.dp ts) -> ∀ b ∈ F i, t.B b = none
 tab : akf t W H
noncomputable def EOk (t : Tx) (W : Addr -> Prop) (ρ : En) (σ : St) (H : Hp) : Prop := ∃ F, EOF t W ρ σ H F
noncomputable def EOh (t : Tx) (W : Addr -> Prop) (a : Addr) (ρ : En) (σ : St) (H : Hp) : Prop := ∃ F, EOF t (λb => W b \/ b = a) ρ σ H F /\ ∀ (i : Nat) (ts : List Tr), ρ[i]? = some (Sl.dp ts) -> a ∉ F i
theorem EOh.ok {t : Tx} {W : Addr -> Prop} {a : Addr} {ρ : En} {σ : St} {H : Hp} (e : EOh t W a ρ σ H) : EOk t (λb => W b \/ b = a) ρ σ H := e.elim λF e => ⟨F, e.1⟩
section
variable {t : Tx} {W : Addr -> Prop} {ρ : En} {σ : St} {H : Hp}
theorem EOk.len (e : EOk t W ρ σ H) : ρ.length = σ.length := e.elim λ_ e => e.len
theorem EOk.zw (e : EOk t W ρ σ H) : ∀ b, t.Z b -> W b := e.elim λ_ e => e.zw
theorem EOk.z0 (e : EOk t W ρ σ H) : ∀ b, t.Z b -> t.H0 b ≠ none := e.elim λ_ e => e.z0
theorem EOk.wl (e : EOk t W ρ σ H) : ∀ b, W b -> Lt H b := e.elim λ_ e => e.wl
theorem EOk.tab (e : EOk t W ρ σ H) : akf t W H := e.elim λ_ e => e.tab
theorem EOk.f0 (e : EOk t W ρ σ H) : ∀ b o, t.H0 b = some o -> ¬ t.R b -> H b = some o := e.elim λ_ e => e.f0
theorem EOk.n0 (e : EOk t W ρ σ H) : ∀ b, H b = none -> t.H0 b = none := e.elim λ_ e => e.n0
theorem EOk.sh (e : EOk t W ρ σ H) : ∀ (i : Nat) (u : Tr), ρ[i]? = some (.sh u) -> ∃ v, σ[i]? = some (some v) /\ Rep t.K (aa2 W H) v u := e.elim λ_ e => e.sh
theorem EOk.ow (e : EOk t W ρ σ H) : ∀ (i : Nat) (ts : List Tr), ρ[i]? = some (Sl.ow ts) -> ∃ a xs, σ[i]? = some (some (V.ref a)) /\ W a /\ t.H0 a = none /\ H a = some (.lst xs) /\ aa3 t.K (aa2 W H) xs ts := e.elim λ_ e => e.ow
theorem EOk.rf (e : EOk t W ρ σ H) : ∀ (i : Nat) (ts : List Tr), ρ[i]? = some (Sl.rf ts) -> ∃ a xs, σ[i]? = some (some (V.ref a)) /\ W a /\ t.R a /\ H a = some (.lst xs) /\ aa3 t.K (aa2 W H) xs ts := e.elim λ_ e => e.rf
theorem EOk.dis (e : EOk t W ρ σ H) : ∀ (i j : Nat) (a : Addr), Mu ρ i -> Mu ρ j -> σ[i]? = some (some (V.ref a)) -> σ[j]? = some (some (V.ref a)) -> i = j := e.elim λ_ e => e.dis
theorem EOk.pn (e : EOk t W ρ σ H) : ∀ b o, t.B b = some o -> H b = some o := e.elim λ_ e => e.pn
theorem EOk.pd (e : EOk t W ρ σ H) : ∀ (i : Nat) (a : Addr), Mu ρ i -> σ[i]? = some (some (V.ref a)) -> t.B a = none := e.elim λ_ e => e.pd
end
structure Stp (W : Addr -> Prop) (H H' : Hp) : Prop where
 keep : ∀ b o, ¬ W b -> H b = some o -> H' b = some o
 dom : ∀ b, H' b = none -> H b = none
theorem Stp.refl (W : Addr -> Prop) (H : Hp) : Stp W H H := ⟨λ_ _ _ h => h, λ_ h => h⟩
theorem Stp.trans {W : Addr -> Prop} {H H1 H2 : Hp} (a : Stp W H H1) (b : Stp W H1 H2) : Stp W H H2 := ⟨λc o n h => b.keep c o n (a.keep c o n h), λc h => a.dom c (b.dom c h)⟩
theorem Stp.of {W : Addr -> Prop} {H H' : Hp} (s : Same H H') : Stp W H H' := ⟨λb o _ h => s b o h, λ_ h => s.free h⟩
theorem Stp.off {W : Addr -> Prop} {H H' : Hp} (s : Stp W H H') : Same (aa2 W H) (aa2 W H') := acd (λ_ _ _ h => h) s.keep
theorem EOk.grow {t : Tx} {W : Addr -> Prop} {ρ : En} {σ : St} {H H' : Hp} (e : EOk t W ρ σ H) (s : Same H H') : EOk t W ρ σ H' := by
 have m : Same (aa2 W H) (aa2 W H') := (Stp.of s).off
 obtain ⟨F, e⟩ := e
 refine ⟨F, e.len, e.zw, e.z0, λb w => ?_, λb o h n => s b o (e.f0 b o h n), λb h => e.n0 b (s.free h), λi u h => ?_, λi ts h => ?_, λi ts h => ?_, e.dis, λb o h => s b o (e.pn b o h), e.pd, λi ts h => ?_, e.dd, e.dm, e.db, e.tab.same s⟩
 ·exact (e.wl b w).grow s
 ·obtain ⟨v, h1, h2⟩ := e.sh i u h
  exact ⟨v, h1, h2.mono m⟩
 ·obtain ⟨a, xs, h1, h2, h3, h4, h5⟩ := e.ow i ts h
  exact ⟨a, xs, h1, h2, h3, s _ _ h4, h5.mono m⟩
 ·obtain ⟨a, xs, h1, h2, h3, h4, h5⟩ := e.rf i ts h
  exact ⟨a, xs, h1, h2, h3, s _ _ h4, h5.mono m⟩
 ·obtain ⟨a, xs, h1, d⟩ := e.dp i ts h
  exact ⟨a, xs, h1, d.move rfl rfl m (λb hb => by obtain ⟨_, _, _, ww, _⟩ := d; exact (ww b hb).1) λb o _ q => s b o q⟩
noncomputable def VOk (K : PySem.W.Frag) (W : Addr -> Prop) (σ : St) (H H' : Hp) (v : V) : Rv -> Prop
 | .v T false => Rep K (aa2 W H') v T
 | .v T true => ∃ a xs ts, v = .ref a /\ T = .lst ts /\ H a = none /\ H' a = some (.lst xs) /\ aa3 K (off a (aa2 W H')) xs ts
 | .s i => σ[i]? = some (some v)
theorem amc (a : Addr) (H : Hp) : Same (off a H) H := λ_ _ h => (adi h).2
theorem VOk.step {K : PySem.W.Frag} {W : Addr -> Prop} {σ : St} {H H' H'' : Hp} {v : V} {r : Rv} (hw : ∀ b, W b -> H b ≠ none) (h : VOk K W σ H H' v r) (s : Stp W H' H'') : VOk K W σ H H'' v r := by
 cases r with
 | s i => exact h
 | v T fr =>
  cases fr with
  | false => exact Rep.mono s.off h
  | true =>
   obtain ⟨a, xs, ts, rfl, rfl, e1, e2, r⟩ := h
   refine ⟨a, xs, ts, rfl, rfl, e1, s.keep a _ (λw => hw a w e1) e2, r.mono λb o q => ?_⟩
   obtain ⟨n, q⟩ := adi q
   rw [off_ne n]
   exact s.off b o q
theorem VOk.back {K : PySem.W.Frag} {W : Addr -> Prop} {σ : St} {G H H' : Hp} {v : V} {r : Rv} (h : VOk K W σ H H' v r) (d : ∀ b, H b = none -> G b = none) : VOk K W σ G H' v r := by
 cases r with
 | s i => exact h
 | v T fr =>
  cases fr with
  | false => exact h
  | true =>
   obtain ⟨a, xs, ts, e0, e1, e2, r⟩ := h
   exact ⟨a, xs, ts, e0, e1, d _ e2, r⟩
theorem VOk.rep {K : PySem.W.Frag} {W : Addr -> Prop} {σ : St} {H H' : Hp} {v : V} {T : Tr} {fr : Bool} (hw : ∀ b, W b -> H b ≠ none) (h : VOk K W σ H H' v (.v T fr)) : Rep K (aa2 W H') v T := by
 cases fr with
 | false => exact h
 | true =>
  obtain ⟨a, xs, ts, rfl, rfl, e1, e2, r⟩ := h
  refine .lst (SqL.of ?_) (r.mono (amc _ _))
  rw [aaS λw => hw a w e1]
  exact e2
noncomputable def Rp (K : PySem.W.Frag) (W : Addr -> Prop) (H : Hp) (v : V) (T : Tr) : Prop :=
 Rep K (aa2 W H) v T \/ ∃ a xs ts, v = .ref a /\ T = .lst ts /\ H a = some (.lst xs) /\ aa3 K (aa2 W H) xs ts
theorem Rp.rep {K : PySem.W.Frag} {W : Addr -> Prop} {H : Hp} {v : V} {T : Tr} (h : Rp K W H v T) : Rep K H v T := by
 rcases h with h | ⟨a, xs, ts, rfl, rfl, e, r⟩
 ·exact h.mono (ab4 _ _)
 ·exact .lst (SqL.of e) (r.mono (ab4 _ _))
theorem Rp.lst {K : PySem.W.Frag} {W : Addr -> Prop} {H : Hp} {v : V} {ts : List Tr} (h : Rp K W H v (.lst ts)) : ∃ a xs, v = .ref a /\ SqL K H a xs /\ aa3 K (aa2 W H) xs ts := by
 rcases h with h | ⟨a, xs, us, rfl, e0, e, r⟩
 ·cases h with
  | lst h r => exact ⟨_, _, rfl, (ab4 _ _).seq h, r⟩
 ·cases e0
  exact ⟨a, xs, rfl, SqL.of e, r⟩
theorem Rp.tup {K : PySem.W.Frag} {W : Addr -> Prop} {H : Hp} {v : V} {ts : List Tr} (h : Rp K W H v (.tup ts)) : ∃ a xs, v = .ref a /\ SqT K H a xs /\ aa3 K (aa2 W H) xs ts := by
 rcases h with h | ⟨a, xs, us, rfl, e0, e, r⟩
 ·cases h with
  | tup h r => exact ⟨_, _, rfl, (ab4 _ _).arb h, r⟩
 ·cases e0
theorem Rp.int {K : PySem.W.Frag} {W : Addr -> Prop} {H : Hp} {v : V} {i : Int} (h : Rp K W H v (.int i)) : v = .int i := by
 cases h.rep; rfl
theorem Rp.bl {K : PySem.W.Frag} {W : Addr -> Prop} {H : Hp} {v : V} {i : Bool} (h : Rp K W H v (.bl i)) : v = .bl i := by
 cases h.rep; rfl
theorem Rp.str {K : PySem.W.Frag} {W : Addr -> Prop} {H : Hp} {v : V} {i : Str} (h : Rp K W H v (.str i)) : v = .str i := by
 cases h.rep; rfl
theorem Rp.non {K : PySem.W.Frag} {W : Addr -> Prop} {H : Hp} {v : V} (h : Rp K W H v .non) : v = .non := by
 cases h.rep; rfl
noncomputable def dr (ρ : En) : Rv -> Rs Tr
 | .v T _ => .ok T
 | .s i => match ρ[i]? with
  | some (Sl.ow ts) => .ok (.lst ts)
  | some (Sl.rf ts) => .ok (.lst ts)
  | _ => .bad
theorem aeb {t : Tx} {W : Addr -> Prop} {ρ : En} {σ : St} {H H' : Hp} {v : V} {r : Rv} {T : Tr} (e : EOk t W ρ σ H') (hw : ∀ b, W b -> H b ≠ none) (h : VOk t.K W σ H H' v r) (q : dr ρ r = .ok T) : Rp t.K W H' v T := by
 cases r with
 | v U fr =>
  cases q
  exact .inl (h.rep hw)
 | s i =>
  have h : σ[i]? = some (some v) := h
  dsimp only [dr] at q
  split at q
  ·rename_i ts e1
   cases q
   obtain ⟨a, xs, h1, h2, h3, h4, h5⟩ := e.ow i ts e1
   rw [h] at h1
   cases h1
   exact .inr ⟨a, xs, ts, rfl, rfl, h4, h5⟩
  ·rename_i ts e1
   cases q
   obtain ⟨a, xs, h1, h2, h3, h4, h5⟩ := e.rf i ts e1
   rw [h] at h1
   cases h1
   exact .inr ⟨a, xs, ts, rfl, rfl, h4, h5⟩
  ·cases q
theorem EOk.wn {t : Tx} {W : Addr -> Prop} {ρ : En} {σ : St} {H : Hp} (e : EOk t W ρ σ H) : ∀ b, W b -> H b ≠ none := λb w => by
 exact (e.wl b w).ne
theorem EOk.hide {t : Tx} {W : Addr -> Prop} {ρ : En} {σ : St} {H H' : Hp} {a : Addr} {xs : List V} (e : EOk t W ρ σ H) (s : Same H H') (n : H a = none) (q : H' a = some (.lst xs)) : EOh t W a ρ σ H' := by
 have m : Same (aa2 W H) (aa2 (λb => W b \/ b = a) H') := λb o h => by
  obtain ⟨w, h⟩ := abm h
  rw [aaS]
  ·exact s b o h
  ·rintro (z | rfl)
   ·exact w z
   ·rw [n] at h; cases h
 have na : ∀ b, W b -> b ≠ a := λb w z => by subst z; exact e.wn b w n
 obtain ⟨F, e⟩ := e
 refine ⟨F, ⟨e.len, λb z => .inl (e.zw b z), e.z0, λb w => ?_, λb o h nr => s b o (e.f0 b o h nr), λb h => e.n0 b (s.free h), λi u h => ?_, λi ts h => ?_, λi ts h => ?_, e.dis, λb o h => s b o (e.pn b o h), e.pd, λi ts h => ?_, e.dd, e.dm, e.db, (e.tab.same s).wid λb w => .inl w⟩, λi ts h z => ?_⟩
 ·rcases w with w | rfl
  ·exact (e.wl b w).grow s
  ·exact .inl ⟨xs, q⟩
 ·obtain ⟨v, h1, h2⟩ := e.sh i u h
  exact ⟨v, h1, h2.mono m⟩
 ·obtain ⟨c, ys, h1, h2, h3, h4, h5⟩ := e.ow i ts h
  exact ⟨c, ys, h1, .inl h2, h3, s _ _ h4, h5.mono m⟩
 ·obtain ⟨c, ys, h1, h2, h3, h4, h5⟩ := e.rf i ts h
  exact ⟨c, ys, h1, .inl h2, h3, s _ _ h4, h5.mono m⟩
 ·obtain ⟨c, ys, h1, d⟩ := e.dp i ts h
  exact ⟨c, ys, h1, d.move rfl rfl m (λb hb => by obtain ⟨_, _, _, ww, _⟩ := d; exact .inl (ww b hb).1) λb o _ q => s b o q⟩
 ·obtain ⟨c, ys, h1, bs, _, _, ww, _⟩ := e.dp i ts h
  exact na a (ww a z).1 rfl
noncomputable def VOE (t : Tx) (W : Addr -> Prop) (ρ : En) (σ : St) (H H' : Hp) (v : V) (r : Rv) : Prop := VOk t.K W σ H H' v r /\ ∀ T a, r = .v T true -> v = .ref a -> EOh t W a ρ σ H'
theorem VOE.of {t : Tx} {W : Addr -> Prop} {ρ : En} {σ σ' : St} {H H' : Hp} {v : V} {T : Tr} {fr : Bool} (e : EOk t W ρ σ H) (s : Same H H') (h : VOk t.K W σ' H H' v (.v T fr)) : VOE t W ρ σ H H' v (.v T fr) := by
 refine ⟨by cases fr <;> exact h, λU a z ev => ?_⟩
 cases z
 obtain ⟨b, xs, ts, rfl, _, n, q, _⟩ := h
 cases ev
 exact e.hide s n q
theorem VOE.low {t : Tx} {W : Addr -> Prop} {ρ : En} {σ : St} {H H' : Hp} {v : V} {T : Tr} (h : Rep t.K (aa2 W H') v T) : VOE t W ρ σ H H' v (.v T false) := ⟨h, λ_ _ z => by cases z⟩
theorem VOE.back {t : Tx} {W : Addr -> Prop} {ρ : En} {σ : St} {G H H' : Hp} {v : V} {r : Rv} (h : VOE t W ρ σ H H' v r) (d : ∀ b, H b = none -> G b = none) : VOE t W ρ σ G H' v r := ⟨h.1.back d, h.2⟩
noncomputable def SE (t : Tx) (te : TE) (f : EF) : Prop := ∀ W ρ σ H Q, EOk t W ρ σ H -> (f ρ).post t.EX (λp => ∀ v H', EOk t W p.2 σ H' -> Stp W H H' -> VOE t W p.2 σ H H' v p.1 -> Q v H') -> te σ H Q
noncomputable abbrev BF := En -> Rs (Bool × En)
noncomputable def ST (t : Tx) (te : TT) (f : BF) : Prop := ∀ W ρ σ H Q, EOk t W ρ σ H -> (f ρ).post t.EX (λp => ∀ H', EOk t W p.2 σ H' -> Stp W H H' -> Q p.1 H') -> te σ H Q
noncomputable abbrev AF := En -> Rs (List Rv × En)
inductive agz (K : PySem.W.Frag) (W : Addr -> Prop) (σ : St) (H H' : Hp) : List V -> List Rv -> Prop
 | nil : agz K W σ H H' [] []
 | cons {v : V} {r : Rv} {vs : List V} {rs : List Rv} (h : VOk K W σ H H' v r) (q : agz K W σ H H' vs rs) : agz K W σ H H' (v :: vs) (r :: rs)
noncomputable def SA (t : Tx) (te : TA) (f : AF) : Prop := ∀ W ρ σ H Q, EOk t W ρ σ H -> (f ρ).post t.EX (λp => ∀ vs H', EOk t W p.2 σ H' -> Stp W H H' -> agz t.K W σ H H' vs p.1 -> Q vs H') -> te σ H Q
section
variable {t : Tx}
noncomputable def aah (i : Nat) : EF := λρ => match ρ[i]? with
 | some (.sh T) => .ok (.v T false, ρ)
 | some (.ow _) => .ok (.s i, ρ)
 | some (.rf _) => .ok (.s i, ρ)
 | _ => .bad
theorem aaf (i : Nat) : SE t (aiW i) (aah i) := λW ρ σ H Q e h => by
 unfold aah at h
 split at h
 ·rename_i T q
  obtain ⟨v, h1, h2⟩ := e.sh i T q
  exact ⟨v, h1, h v H e (Stp.refl _ _) (.low h2)⟩
 ·rename_i ts q
  obtain ⟨a, xs, h1, _⟩ := e.ow i ts q
  exact ⟨_, h1, h _ H e (Stp.refl _ _) ⟨h1, λ_ _ z => by cases z⟩⟩
 ·rename_i ts q
  obtain ⟨a, xs, h1, _⟩ := e.rf i ts q
  exact ⟨_, h1, h _ H e (Stp.refl _ _) ⟨h1, λ_ _ z => by cases z⟩⟩
 ·exact h.elim
noncomputable def eC (T : Tr) : EF := λρ => .ok (.v T false, ρ)
theorem ar3 {v : V} {T : Tr} (h : ∀ H, Rep t.K H v T) : SE t (tC v) (eC T) := λW ρ σ H Q e q => q v H e (Stp.refl _ _) (.low (h _))
theorem aat (i : Int) : SE t (tC (.int i)) (eC (.int i)) := ar3 λ_ => .int i
theorem adk (i : Bool) : SE t (tC (.bl i)) (eC (.bl i)) := ar3 λ_ => .bl i
theorem af3 (i : Str) : SE t (tC (.str i)) (eC (.str i)) := ar3 λ_ => .str i
theorem agN : SE t (tC .non) (eC .non) := ar3 λ_ => .non
noncomputable abbrev G2 := Tr -> Tr -> Rs (Tr × Bool)
noncomputable def OpT (K : PySem.W.Frag) (r : R2) (g : G2) : Prop := ∀ W x y a b H Q, (∀ b, W b -> Lt H b) -> Rp K W H x a -> Rp K W H y b ->
 (g a b).post (λ_ => False) (λp => ∀ v H', Same H H' -> VOk K W [] H H' v (.v p.1 p.2) -> Q v H') -> r x y H Q
noncomputable def eOp (g : G2) (fa fb : EF) : EF := λρ => (fa ρ).bind λp => (fb p.2).bind λq => (dr q.2 p.1).bind λa => (dr q.2 q.1).bind λb => (g a b).bind λz => .ok (.v z.1 z.2, q.2)
theorem aiV {α : Type} {r : Rs α} {EX : Str -> Prop} {P : α -> Prop} (h : r.post EX P) (n : ∀ c, r ≠ .ex c) : r.post (λ_ => False) P := by
 cases r with
 | bad => exact h
 | ex c => exact (n c rfl).elim
 | ok a => exact h
theorem acQ (ρ : En) (r : Rv) (c : Str) : dr ρ r ≠ .ex c := by
 cases r with
 | v T fr => intro z; cases z
 | s i =>
  dsimp only [dr]
  split <;> (intro z; cases z)
theorem aec {r : R2} {g : G2} {ta tb : TE} {fa fb : EF} (o : OpT t.K r g) (ng : ∀ a b c, g a b ≠ .ex c) (ha : SE t ta fa) (hb : SE t tb fb) : SE t (tOp r ta tb) (eOp g fa fb) := λW ρ σ H Q e h => by
 refine ha W ρ σ H _ e (Rs.aag (Rs.aae h) λp h x H1 e1 s1 v1 => ?_)
 refine hb W p.2 σ H1 _ e1 (Rs.aag (Rs.aae h) λq h y H2 e2 s2 v2 => ?_)
 have h := Rs.aae h
 cases k1 : dr q.2 p.1 with
 | bad => rw [k1] at h; exact h.elim
 | ex c => exact (acQ _ _ _ k1).elim
 | ok a =>
  rw [k1] at h
  have h : ((dr q.2 q.1).bind _).post _ _ := h
  have h := Rs.aae h
  cases k2 : dr q.2 q.1 with
  | bad => rw [k2] at h; exact h.elim
  | ex c => exact (acQ _ _ _ k2).elim
  | ok b =>
   rw [k2] at h
   have h : ((g a b).bind _).post _ _ := h
   have r1 := aeb e2 e.wn (v1.1.step e.wn s2) k1
   have r2 := aeb e2 e1.wn v2.1 k2
   refine o W x y a b H2 Q e2.wl r1 r2 (Rs.aag (aiV (Rs.aae h) (ng a b)) λz h v H3 s3 v3 => ?_)
   have st : Stp W H H3 := (s1.trans s2).trans (Stp.of s3)
   exact h v H3 (e2.grow s3) st ((VOE.of e2 s3 v3).back λb q => (s1.trans s2).dom b q)
inductive Atm : V -> Tr -> Prop
 | non : Atm .non .non
 | bl (b : Bool) : Atm (.bl b) (.bl b)
 | int (b : Int) : Atm (.int b) (.int b)
 | str (b : Str) : Atm (.str b) (.str b)
theorem Atm.rep {K : PySem.W.Frag} {H : Hp} {v : V} {T : Tr} (h : Atm v T) : Rep K H v T := by
 cases h <;> constructor
end
end L2
end
section
namespace L2
open PySem PySem.Spec PyProof.Rows
section
variable {X : Cx}
noncomputable def au6 (K : PySem.W.Frag) : R2 := λx y H Q => ∃ t u, Rep K H x t /\ Rep K H y u /\ dep t <= 40 /\ dep u <= 40 /\ Q (.bl (!eqT t u)) H
theorem af4 (hu : X.A.units + 64 < cLine) : OpR X (compareOp .NotEq) (au6 X.K) := by
 intro pins s σ H x y v u Q I vx vy h
 obtain ⟨t, t', rx, ry, hd, du, q⟩ := h
 have hu0 : X.A.units < cLine := by omega
 have hu1 : X.A.in1.units + 40 < cLine := by
  have := in1_units X.A
  omega
 have fin : SeqAt.RcNeAt X.A s v u (!eqT t t') -> wpAny (model X.prog X.w) X.A (compareOp .NotEq v u) (EP X pins σ Q) X.xe s := λh => h _ _ _ _ ⟨.bl _, H, I, rfl, q⟩
 have items : ∀ {xs ys : List V} {ts us : List Tr} {its its2 : List Value}, Vals xs its -> Vals ys its2 -> aa3 X.K H xs ts -> aa3 X.K H ys us -> deps ts <= 40 -> deps us <= 40 -> ∀ j (h1 : j < its.toArray.size) (h2 : j < its2.toArray.size), SeqAt.EqAt X.A.in1 s its.toArray[j] its2.toArray[j] (atE ts us j) := by
  intro xs ys ts us its its2 r1 r2 q1 q2 hde hu9 j h1 h2
  obtain ⟨a, ea, ra⟩ := afJ r1 h1
  obtain ⟨b, eb, rb⟩ := afJ r2 h2
  obtain ⟨ta, eta, qa⟩ := q1.get ea
  obtain ⟨tb, etb, qb⟩ := q2.get eb
  rw [aj7 eta etb]
  exact (ai2 I 40 X.A.in1 ta tb a b _ _ hu1 (Nat.le_trans (adE eta) hde) (by have := adE eta; omega) (by have := adE etb; omega) qa qb ra rb).2
 cases rx with
 | exn h m n => unfold dep at hd; omega
 | non =>
  cases vx
  cases ry with
  | non => cases vy; unfold eqT at fin; exact fin .none_none
  | bl b2 => cases vy; unfold eqT at fin; exact fin (.none_bool _)
  | int i2 => obtain ⟨_, rfl⟩ := vy; unfold eqT at fin; exact fin (.none_int _ _)
  | str z2 => obtain ⟨_, rfl⟩ := vy; unfold eqT at fin; exact fin (.none_str _ _)
  | tup h r => cases vy; obtain ⟨_, _, p, _⟩ := I.tuple h; unfold eqT at fin; exact fin (.none_tuple p hu0)
  | lst h r => cases vy; obtain ⟨_, _, p, _⟩ := I.list h; unfold eqT at fin; exact fin (.none_list p.isList hu0)
  | exn h m n => unfold dep at du; omega
 | bl b =>
  cases vx
  cases ry with
  | non => cases vy; unfold eqT at fin; exact fin (.bool_none _)
  | bl b2 => cases vy; unfold eqT at fin; exact fin (.bool_bool _ _)
  | int i2 => obtain ⟨_, rfl⟩ := vy; unfold eqT at fin; exact fin (.bool_int _ _ _)
  | str z2 => obtain ⟨_, rfl⟩ := vy; unfold eqT at fin; exact fin (.bool_str _ _ _)
  | tup h r => cases vy; obtain ⟨_, _, p, _⟩ := I.tuple h; unfold eqT at fin; exact fin (.bool_tuple _ p hu0)
  | lst h r => cases vy; obtain ⟨_, _, p, _⟩ := I.list h; unfold eqT at fin; exact fin (.bool_list _ p.isList hu0)
  | exn h m n => unfold dep at du; omega
 | int i =>
  obtain ⟨_, rfl⟩ := vx
  cases ry with
  | non => cases vy; unfold eqT at fin; exact fin (.int_none _ _)
  | bl b2 => cases vy; unfold eqT at fin; exact fin (.int_bool _ _ _)
  | int i2 => obtain ⟨_, rfl⟩ := vy; unfold eqT at fin; exact fin (.int_int _ _ _ _)
  | str z2 => obtain ⟨_, rfl⟩ := vy; unfold eqT at fin; exact fin (.int_str _ _ _ _)
  | tup h r => cases vy; obtain ⟨_, _, p, _⟩ := I.tuple h; unfold eqT at fin; exact fin (.int_tuple _ _ p hu0)
  | lst h r => cases vy; obtain ⟨_, _, p, _⟩ := I.list h; unfold eqT at fin; exact fin (.int_list _ _ p.isList hu0)
  | exn h m n => unfold dep at du; omega
 | str z =>
  obtain ⟨_, rfl⟩ := vx
  cases ry with
  | non => cases vy; unfold eqT at fin; exact fin (.str_none _ _)
  | bl b2 => cases vy; unfold eqT at fin; exact fin (.str_bool _ _ _)
  | int i2 => obtain ⟨_, rfl⟩ := vy; unfold eqT at fin; exact fin (.str_int _ _ _ _)
  | str z2 => obtain ⟨_, rfl⟩ := vy; unfold eqT at fin; exact fin (.str_str _ _ _ _)
  | tup h r => cases vy; obtain ⟨_, _, p, _⟩ := I.tuple h; unfold eqT at fin; exact fin (.str_tuple _ _ p hu0)
  | lst h r => cases vy; obtain ⟨_, _, p, _⟩ := I.list h; unfold eqT at fin; exact fin (.str_list _ _ p.isList hu0)
  | exn h m n => unfold dep at du; omega
 | @tup a1 xs1 ts h1 r1 =>
  cases vx
  obtain ⟨its, rv, p, _⟩ := I.tuple h1
  have hd' : deps ts <= 40 := by unfold dep at hd; omega
  cases ry with
  | non => cases vy; unfold eqT at fin; exact fin (.tuple_none p hu0)
  | bl b2 => cases vy; unfold eqT at fin; exact fin (.tuple_bool _ p hu0)
  | int i2 => obtain ⟨_, rfl⟩ := vy; unfold eqT at fin; exact fin (.tuple_int _ _ p hu0)
  | str z2 => obtain ⟨_, rfl⟩ := vy; unfold eqT at fin; exact fin (.tuple_str _ _ p hu0)
  | lst h r => cases vy; obtain ⟨_, _, p2, _⟩ := I.list h; unfold eqT at fin; exact fin (.tuple_list p p2.isList hu0)
  | exn h m n => unfold dep at du; omega
  | @tup a2 xs2 us h2 r2 =>
   cases vy
   obtain ⟨its2, rv2, p2, _⟩ := I.tuple h2
   have R := SeqAt.RcNeAt.tuples (A := X.A) (e := atE ts us) p p2 (by omega) λj k1 k2 => items rv rv2 r1 r2 hd' (by unfold dep at du; omega) j k1 k2
   have el : its.toArray.size = ts.length := by simpa using (rv.length.symm.trans r1.length)
   have el2 : its2.toArray.size = us.length := by simpa using (rv2.length.symm.trans r2.length)
   rw [el, el2] at R
   have eb : ((List.range (min ts.length us.length)).all (atE ts us) && ts.length == us.length) = eqT (.tup ts) (.tup us) := by
    unfold eqT
    by_cases e : ts.length = us.length
    ·rw [e, Nat.min_self, <-e, afZ e, beq_self_eq_true, Bool.and_true]
    ·rw [beq_false_of_ne e, Bool.and_false, aew e]
   rw [eb] at R
   exact fin R
 | @lst a1 xs1 ts h1 r1 =>
  cases vx
  obtain ⟨its, rv, p, _⟩ := I.list h1
  have hd' : deps ts <= 40 := by unfold dep at hd; omega
  cases ry with
  | non => cases vy; unfold eqT at fin; exact fin (.list_none p.isList hu0)
  | bl b2 => cases vy; unfold eqT at fin; exact fin (.list_bool _ p.isList hu0)
  | int i2 => obtain ⟨_, rfl⟩ := vy; unfold eqT at fin; exact fin (.list_int _ _ p.isList hu0)
  | str z2 => obtain ⟨_, rfl⟩ := vy; unfold eqT at fin; exact fin (.list_str _ _ p.isList hu0)
  | exn h m n => unfold dep at du; omega
  | tup h r => cases vy; obtain ⟨_, _, p2, _⟩ := I.tuple h; unfold eqT at fin; exact fin (.list_tuple p.isList p2 hu0)
  | @lst a2 xs2 us h2 r2 =>
   cases vy
   obtain ⟨its2, rv2, p2, _⟩ := I.list h2
   have el : its.toArray.size = ts.length := by simpa using (rv.length.symm.trans r1.length)
   have el2 : its2.toArray.size = us.length := by simpa using (rv2.length.symm.trans r2.length)
   by_cases e : ts.length = us.length
   ·have R := SeqAt.RcNeAt.lists (A := X.A) (e := atE ts us) p.isList p2.isList (by omega) (by omega) λj k1 k2 => items rv rv2 r1 r2 hd' (by unfold dep at du; omega) j k1 k2
    rw [el] at R
    rw [afZ e] at R
    unfold eqT at fin
    exact fin R
   ·have R := SeqAt.RcNeAt.lists_lengths (A := X.A) p.isList p2.isList (by rw [el, el2]; simpa using e) (by omega)
    unfold eqT at fin
    rw [aew e] at fin
    exact fin R
end
open Classical in
noncomputable def noL (o : Obj) : Obj := if o.cls = .type "list" ∧ ¬ (∃ its n, o = { cls := .type "list", data := .seq its n }) then { cls := .none, data := .fields #[] } else o
noncomputable def nlK (K : PySem.W.Frag) : PySem.W.Frag := K.map λp => (p.1, noL p.2)
theorem abC : ∀ (K : PySem.W.Frag) (a : Addr), (nlK K).lookup a = (K.lookup a).map noL
 | [], a => rfl
 | (c, q) :: r, a => by
  show ((c, noL q) :: nlK r).lookup a = _
  rw [List.lookup_cons, List.lookup_cons]
  cases a == c with
  | true => rfl
  | false => exact abC r a
theorem apW {K : PySem.W.Frag} {a : Addr} {o : Obj} (h : (nlK K).lookup a = some o) (c : o.cls = .type "tuple") : K.lookup a = some o := by
 rw [abC] at h
 cases e : K.lookup a with
 | none => rw [e] at h; cases h
 | some q =>
  rw [e] at h
  have h : noL q = o := Option.some.inj h
  unfold noL at h
  split at h
  ·subst h; cases c
  ·rw [h]
theorem apY {K : PySem.W.Frag} {a : Addr} {o : Obj} (h : (nlK K).lookup a = some o) (c : o.cls = .type "list") : K.lookup a = some o ∧ ∃ its n, o = { cls := .type "list", data := .seq its n } := by
 rw [abC] at h
 cases e : K.lookup a with
 | none => rw [e] at h; cases h
 | some q =>
  rw [e] at h
  have h : noL q = o := Option.some.inj h
  unfold noL at h
  split at h
  ·subst h; cases c
  ·rename_i n
   subst h
   refine ⟨rfl, ?_⟩
   by_cases z : ∃ its n, q = { cls := .type "list", data := .seq its n }
   ·exact z
   ·exact (n ⟨c, z⟩).elim
theorem SqT.toK {K : PySem.W.Frag} {H : Hp} {a : Addr} {xs : List V} (h : SqT (nlK K) H a xs) : SqT K H a xs := by
 rcases h with h | ⟨o, its, n, e, c, r⟩
 ·exact .inl h
 ·exact .inr ⟨o, its, n, apW e c, c, r⟩
noncomputable def SqX (K : PySem.W.Frag) (H : Hp) (a : Addr) (xs : List V) : Prop := Rd H a (.lst xs) \/ ∃ (its : Array Value) (n : Nat), K.lookup a = some { cls := .type "list", data := .seq its n } /\ its.size <= sizeLine /\ Vals xs its.toList
theorem SqL.rdX {K : PySem.W.Frag} {H : Hp} {a : Addr} {xs : List V} (h : SqL (nlK K) H a xs) : SqX K H a xs := by
 rcases h with h | ⟨o, its, n, e, c, _, d, r⟩
 ·exact .inl h
 ·obtain ⟨e2, its', n', rfl⟩ := apY e c
  have d : Data.seq its' n' = .seq its n := d
  injection d with d1 d2
  subst d1 d2
  exact .inr ⟨its', n', e2, r⟩
theorem SqX.toK {K : PySem.W.Frag} {H : Hp} {a : Addr} {xs : List V} (h : SqX K H a xs) : SqL K H a xs := by
 rcases h with h | ⟨its, n, e, r⟩
 ·exact .inl h
 ·exact .inr ⟨_, its, n, e, rfl, rfl, rfl, r⟩
theorem SqX.toN {K : PySem.W.Frag} {H : Hp} {a : Addr} {xs : List V} (h : SqX K H a xs) : SqL (nlK K) H a xs := by
 rcases h with h | ⟨its, n, e, r⟩
 ·exact .inl h
 ·refine .inr ⟨{ cls := .type "list", data := .seq its n }, its, n, ?_, rfl, rfl, rfl, r⟩
  rw [abC, e]
  show some (noL _) = _
  unfold noL
  rw [if_neg λz => z.2 ⟨its, n, rfl⟩]
theorem SqL.toK {K : PySem.W.Frag} {H : Hp} {a : Addr} {xs : List V} (h : SqL (nlK K) H a xs) : SqL K H a xs := h.rdX.toK
theorem anP {K : PySem.W.Frag} {N : Addr} {c : Str} {v : Value} (h : PySem.W.nsIn (nlK K) N c = some (some v)) : PySem.W.nsIn K N c = some (some v) := by
 unfold PySem.W.nsIn at h ⊢
 rw [abC] at h
 cases e : K.lookup N with
 | none => rw [e] at h; cases h
 | some q =>
  rw [e] at h
  by_cases z : q.cls = .type "list" ∧ ¬ (∃ its n, q = { cls := .type "list", data := .seq its n })
  ·have : noL q = { cls := .none, data := .fields #[] } := by unfold noL; rw [if_pos z]
   rw [show (some q).map noL = some (noL q) from rfl, this] at h
   cases h
  ·have : noL q = q := by unfold noL; rw [if_neg z]
   rw [show (some q).map noL = some (noL q) from rfl, this] at h
   exact h
theorem apZ {K : PySem.W.Frag} {N : Addr} {c : Str} {v : Value} (m : ∀ o, K.lookup N = some o -> o.cls ≠ .type "list") (h : PySem.W.nsIn K N c = some (some v)) : PySem.W.nsIn (nlK K) N c = some (some v) := by
 unfold PySem.W.nsIn at h ⊢
 rw [abC]
 cases e : K.lookup N with
 | none => rw [e] at h; cases h
 | some q =>
  rw [e] at h
  have : noL q = q := by unfold noL; rw [if_neg λz => m q e z.1]
  rw [show (some q).map noL = some (noL q) from rfl, this]
  exact h
mutual
theorem Rep.toK {K : PySem.W.Frag} {H : Hp} : ∀ {v : V} {t : Tr}, Rep (nlK K) H v t -> Rep K H v t
 | _, _, .non => .non
 | _, _, .bl b => .bl b
 | _, _, .int i => .int i
 | _, _, .str x => .str x
 | _, _, .tup h r => .tup h.toK (aa3.toK r)
 | _, _, .lst h r => .lst h.toK (aa3.toK r)
 | _, _, .exn h m n => .exn h m (anP n)
theorem aa3.toK {K : PySem.W.Frag} {H : Hp} : ∀ {v : List V} {t : List Tr}, aa3 (nlK K) H v t -> aa3 K H v t
 | _, _, .nil => .nil
 | _, _, .cons h r => .cons (Rep.toK h) (aa3.toK r)
end
section
variable {X : Cx}
theorem Inv.rdL {pins : List (Addr × Obj)} {σ : St} {H : Hp} {s : Shared} {l : Addr} {xs : List V} (I : Inv X pins σ H s) (hH : SqX X.K H l xs) : xs.length <= sizeLine /\ ∃ (its : List Value) (n : Nat), Vals xs its /\ xs.length = its.length /\ s.heap.get? l = some { cls := .type "list", data := .seq its.toArray n } := by
 rcases hH with hH | ⟨its, n, e, z, r⟩
 ·obtain ⟨z, its, n, r, e⟩ := hH.ok I.hok
  exact ⟨z, its, n, r, r.length, e⟩
 ·have l' : xs.length = its.size := r.length.trans Array.length_toList
  exact ⟨by rw [l']; exact z, its.toList, n, r, r.length, I.kIn _ _ e⟩
noncomputable def ar4 (K : PySem.W.Frag) : R2 := λx y H Q => ∃ l b xs zs, x = .ref l /\ y = .ref b /\ SqX K H l xs /\ SqX K H b zs /\ xs.length + zs.length <= sizeLine /\ ∀ p, H p = none -> Q (.ref p) (upd H p (.lst (xs ++ zs)))
theorem ap0 : OpR X (binaryOp .Add) (ar4 X.K) := by
 intro pins s σ H x y v u Q I rx ry h
 obtain ⟨l, b, xs, zs, rfl, rfl, hH, hB, hz, q⟩ := h
 cases rx
 cases ry
 obtain ⟨z, its, n, r, hl, e⟩ := I.rdL hH
 obtain ⟨z2, its2, n2, r2, hl2, e2⟩ := I.rdL hB
 refine PySem.P.add_list e e2 ?_ (by rw [List.size_toArray, List.size_toArray]; omega)
 have ea : its.toArray ++ its2.toArray = (its ++ its2).toArray := by simp
 rw [ea]
 exact ⟨.ref _, _, I.au1 (t' := s.toks) (r.append r2) (by rw [List.length_append]; omega), rfl, q _ I.fresh⟩
end
end L2
end
section
namespace L2
open PySem PySem.Spec PyProof.Rows
noncomputable def ar5 (K : PySem.W.Frag) : R2 := λx y H Q => ∃ l k xs, x = .ref l /\ y = .int k /\ SqX K H l xs /\ -(2 ^ 63) <= k /\ k < 2 ^ 63 /\ xs.length * k.toNat <= sizeLine /\ ∀ p, H p = none -> Q (.ref p) (upd H p (.lst (List.replicate k.toNat xs).flatten))
theorem ap1 {X : Cx} : OpR X (binaryOp .Mult) (ar5 X.K) := by
 intro pins s σ H x y v u Q I rx ry h
 obtain ⟨l, k, xs, rfl, rfl, hH, h1, h2, hz, q⟩ := h
 cases rx
 obtain ⟨t, rfl⟩ := ry
 obtain ⟨z, its, n, r, hl, e⟩ := I.rdL hH
 have hlen : its.toArray.size * k.toNat <= sizeLine := by rw [List.size_toArray, <-hl]; exact hz
 have hcap : ¬ its.toArray.size * k.toNat > (2 ^ 63 - 1) / 8 := by
  have : (sizeLine : Nat) <= (2 ^ 63 - 1) / 8 := by decide
  omega
 have hfit : ¬ (!Builtin.List.listFitsIndex k) = true := by
  rw [fitsIndex_both h1 h2]
  exact Bool.false_ne_true
 have au7 : ¬ Builtin.List.listTooLong (its.toArray.size * k.toNat) = true := by
  rw [anE hlen]
  exact Bool.false_ne_true
 have hnew : List.foldl (λx1 x2 => x1 ++ x2) #[] (List.replicate (if its.toArray.isEmpty = true then 0 else k.toNat) its.toArray) = (List.replicate k.toNat its).flatten.toArray := by
  have f0 : ∀ m : Nat, List.foldl (λx1 x2 => x1 ++ x2) #[] (List.replicate m its.toArray) = (List.replicate m its).flatten.toArray := λm => by
   have := foldl_rep its m []
   rw [List.nil_append] at this
   exact this
  rw [f0]
  cases its with
  | nil => simp
  | cons a r' => rw [if_neg (by simp)]
 refine wpAny_binaryOp_repeat_ref (T := "list") (U := "int") (by decide) ⟨_, e, rfl⟩ (λs' => typeIs_int s' k t) noFill_list_mul F.fills_int_mul F.slot_int_rmul repeat_list F.slot_int_index.lookup
  (call_meets F.slot_int_rmul (typeIs_int s k t) F.entry_int_rmul (F.args_int_rmul_2 _ _) (int___rmul___int_list k t l its.toArray n)
   ⟨e, rfl, ⟨_, e, rfl⟩, call_meets F.slot_list_mul ⟨_, e, rfl⟩ F.entry_list_mul (F.args_list_mul_2 _ _) (AutoListH.list___mul___list_int_3 l its.toArray n k t hfit hcap au7) ⟨e, ?_⟩⟩)
 rw [hnew]
 exact ⟨.ref _, _, I.au1 (t' := s.toks) (r.rep k.toNat) (by rw [len_rep, Nat.mul_comm]; exact hz), rfl, q _ I.fresh⟩
end L2
end
section
namespace L2
open PySem PySem.Spec PyProof.Rows
section
variable {K : PySem.W.Frag} {W : Addr -> Prop} {σ : St} {H : Hp} {p : Addr} {xs : List V} {ts : List Tr}
theorem akg {o : HO} (hp : H p = none) : Same (aa2 W H) (off p (aa2 W (upd H p o))) := λb u q => by
 obtain ⟨n, e⟩ := abm q
 have ne : b ≠ p := aa1 e hp
 rw [off_ne ne, aaS n, aaw ne]
 exact e
theorem VOk.new (hp : H p = none) (r : aa3 K (aa2 W H) xs ts) : VOk K W σ H (upd H p (.lst xs)) (.ref p) (.v (.lst ts) true) :=
 ⟨p, xs, ts, rfl, rfl, hp, aaK, r.mono (akg hp)⟩
theorem VOk.newT (hw : ∀ b, W b -> Lt H b) (hp : H p = none) (r : aa3 K (aa2 W H) xs ts) : VOk K W σ H (upd H p (.tup xs)) (.ref p) (.v (.tup ts) false) := by
 have nw : ¬ W p := λw => by
  exact (hw p w).ne hp
 refine .tup (SqT.of ?_) (r.mono λb u q => (adi (akg (o := .tup xs) hp b u q)).2)
 rw [aaS nw]
 exact aaK
theorem VOk.atm {H' : Hp} {v : V} {T : Tr} (h : Atm v T) : VOk K W σ H H' v (.v T false) := h.rep
theorem aa3.ao0 {H : Hp} : ∀ {v : List V} {t : List Tr} {i : Nat} {u : Tr}, aa3 K H v t -> t[i]? = some u -> ∃ x, v[i]? = some x /\ Rep K H x u
 | _, _, _, _, .nil, e => by simp at e
 | _, _, 0, _, .cons h _, e => by
  simp at e
  subst e
  exact ⟨_, rfl, h⟩
 | _, _, i + 1, x, .cons _ r, e => by
  obtain ⟨u, h1, h2⟩ := aa3.ao0 (i := i) (u := x) r (by simpa using e)
  exact ⟨u, by simpa using h1, h2⟩
theorem aa3.atI (r : aa3 K H xs ts) {i : Int} {t : Tr} (h : atI ts i = some t) : ∃ x, L2.atI xs i = some x /\ Rep K H x t := by
 unfold L2.atI at h ⊢
 rw [r.length]
 cases e : ixN ts.length i with
 | none => rw [e] at h; cases h
 | some j =>
  rw [e] at h
  exact r.ao0 h
theorem Rp.awW {v : V} (h : Rp K W H v (.tup ts)) : Rep K (aa2 W H) v (.tup ts) := by
 rcases h with h | ⟨a, xs, us, rfl, e0, e, r⟩
 ·exact h
 ·cases e0
theorem big {n : Nat} (h : n <= 100000) : n <= sizeLine := Nat.le_trans h (by decide)
end
section
variable {K : PySem.W.Frag}
noncomputable def gI (p : Int -> Int -> Int) : G2
 | .int i, .int j => .ok (.int (p i j), false)
 | _, _ => .bad
theorem axz {p : Int -> Int -> Int} : OpT K (rI0 λi j => .int (p i j)) (gI p) := λW x y a b H Q hw rx ry h => by
 cases a <;> try exact h.elim
 cases b <;> try exact h.elim
 rw [rx.int, ry.int]
 exact ⟨_, _, rfl, rfl, h _ H (Same.refl _) (.atm (.int _))⟩
noncomputable def gIC (c : Int -> Int -> Bool) (p : Int -> Int -> Int) : G2
 | .int i, .int j => if c i j = true then .ok (.int (p i j), false) else .bad
 | _, _ => .bad
theorem ap2 {C : Int -> Int -> Prop} {c : Int -> Int -> Bool} {p : Int -> Int -> Int} (hc : ∀ i j, c i j = true -> C i j) : OpT K (rI C λi j => .int (p i j)) (gIC c p) := λW x y a b H Q hw rx ry h => by
 cases a <;> try exact h.elim
 cases b <;> try exact h.elim
 rw [rx.int, ry.int]
 dsimp only [gIC] at h
 split at h
 ·rename_i e
  exact ⟨_, _, rfl, rfl, hc _ _ e, h _ H (Same.refl _) (.atm (.int _))⟩
 ·exact h.elim
noncomputable def gB (p : Int -> Int -> Bool) : G2
 | .int i, .int j => .ok (.bl (p i j), false)
 | _, _ => .bad
theorem au8 {p : Int -> Int -> Bool} : OpT K (rI0 λi j => .bl (p i j)) (gB p) := λW x y a b H Q hw rx ry h => by
 cases a <;> try exact h.elim
 cases b <;> try exact h.elim
 rw [rx.int, ry.int]
 exact ⟨_, _, rfl, rfl, h _ H (Same.refl _) (.atm (.bl _))⟩
noncomputable def gEq : G2 := λt u => if dep t <= 40 /\ dep u <= 40 then .ok (.bl (eqT t u), false) else .bad
theorem au9 : OpT (nlK K) (au2 K) gEq := λW x y a b H Q hw rx ry h => by
 unfold gEq at h
 split at h
 ·rename_i e
  exact ⟨a, b, rx.rep.toK, ry.rep.toK, e.1, e.2, h _ H (Same.refl _) (.atm (.bl _))⟩
 ·exact h.elim
noncomputable def gNe : G2 := λt u => if dep t <= 40 /\ dep u <= 40 then .ok (.bl (!eqT t u), false) else .bad
theorem ava : OpT (nlK K) (au6 K) gNe := λW x y a b H Q hw rx ry h => by
 unfold gNe at h
 split at h
 ·rename_i e
  exact ⟨a, b, rx.rep.toK, ry.rep.toK, e.1, e.2, h _ H (Same.refl _) (.atm (.bl _))⟩
 ·exact h.elim
noncomputable def gIn (f : Bool -> Bool) : G2 := λt u => match u with
 | .lst us => if deps us <= 40 /\ dep t <= 40 then .ok (.bl (f (apQ t us)), false) else .bad
 | .tup us => if deps us <= 40 /\ dep t <= 40 then .ok (.bl (f (apQ t us)), false) else .bad
 | _ => .bad
theorem anQ : OpT (nlK K) (ai4 K) (gIn not) := λW x y a b H Q hw rx ry h => by
 cases b <;> try exact h.elim
 ·rename_i us
  dsimp only [gIn] at h
  split at h
  ·rename_i e
   obtain ⟨p, xs, rfl, q, r⟩ := ry.tup
   exact ⟨a, us, p, xs, rx.rep.toK, rfl, .inr q.toK, (r.mono (ab4 _ _)).toK, e.1, e.2, h _ H (Same.refl _) (.atm (.bl _))⟩
  ·exact h.elim
 ·rename_i us
  dsimp only [gIn] at h
  split at h
  ·rename_i e
   obtain ⟨p, xs, rfl, q, r⟩ := ry.lst
   exact ⟨a, us, p, xs, rx.rep.toK, rfl, .inl q.toK, (r.mono (ab4 _ _)).toK, e.1, e.2, h _ H (Same.refl _) (.atm (.bl _))⟩
  ·exact h.elim
noncomputable def isN : Tr -> Bool
 | .non => true
 | _ => false
noncomputable def gIs (f : Bool -> Bool) : G2 := λt u => match u with
 | .non => .ok (.bl (f (isN t)), false)
 | _ => .bad
theorem ar6 {H : Hp} {x : V} {t : Tr} (h : Rep K H x t) : decide (x = .non) = isN t := by
 cases h <;> rfl
theorem ar7 : OpT K (λx y H Q => y = .non /\ Q (.bl (decide (x = .non))) H) (gIs id) := λW x y a b H Q hw rx ry h => by
 cases b <;> try exact h.elim
 rw [ry.non, ar6 rx.rep]
 exact ⟨rfl, h _ H (Same.refl _) (.atm (.bl _))⟩
noncomputable def ap3 (K : PySem.W.Frag) : R2 := λx y H Q => (rI0 λi j => .int (i + j)) x y H Q \/ ar4 K x y H Q \/ (∃ i j, x = .str i /\ y = .str j /\ i.length + j.length <= sizeLine /\ Q (.str (i ++ j)) H) \/ arP K x y H Q
theorem abK {X : Cx} : OpR X (binaryOp .Add) (ap3 X.K) := OpR.or aoR (OpR.or ap0 (OpR.or akP apI))
noncomputable def aaW : G2
 | .int i, .int j => .ok (.int (i + j), false)
 | .lst a, .lst b => if a.length + b.length <= 100000 then .ok (.lst (a ++ b), true) else .bad
 | .str a, .str b => if a.length + b.length <= 100000 then .ok (.str (a ++ b), false) else .bad
 | .tup a, .tup b => if 0 < a.length /\ a.length + b.length <= 100000 then .ok (.tup (a ++ b), false) else .bad
 | _, _ => .bad
theorem ar8 : OpT (nlK K) (ap3 K) aaW := λW x y a b H Q hw rx ry h => by
 cases a <;> cases b <;> try exact h.elim
 ·rw [rx.int, ry.int]
  exact .inl ⟨_, _, rfl, rfl, h _ H (Same.refl _) (.atm (.int _))⟩
 ·rename_i i j
  rw [rx.str, ry.str]
  dsimp only [aaW] at h
  split at h
  ·rename_i e
   exact .inr (.inr (.inl ⟨i, j, rfl, rfl, big e, h _ H (Same.refl _) (.atm (.str _))⟩))
  ·exact h.elim
 ·rename_i us ws
  dsimp only [aaW] at h
  split at h
  ·rename_i e
   have rt := rx.awW
   obtain ⟨p, xs, rfl, q, r⟩ := rx.tup
   obtain ⟨p', ys, rfl, q', r'⟩ := ry.tup
   have l1 := r.length
   have l2 := r'.length
   refine .inr (.inr (.inr ⟨p, p', xs, ys, rfl, rfl, q.toK, q'.toK, ?_, by rw [l1, l2]; exact big e.2, λz => h _ H (Same.refl _) ?_, λ_ z hz => h _ _ (aaV hz _) (.newT hw hz (r.app r'))⟩))
   ·rintro rfl
    have e1 := e.1
    rw [<-l1] at e1
    cases e1
   ·subst z
    cases r'
    rw [List.append_nil]
    exact rt
  ·exact h.elim
 ·rename_i us ws
  dsimp only [aaW] at h
  split at h
  ·rename_i e
   obtain ⟨p, xs, rfl, q, r⟩ := rx.lst
   obtain ⟨p', ys, rfl, q', r'⟩ := ry.lst
   refine .inr (.inl ⟨p, p', xs, ys, rfl, rfl, q.rdX, q'.rdX, by rw [r.length, r'.length]; exact big e, λz hz => h _ _ (aaV hz _) (.new hz (r.app r'))⟩)
  ·exact h.elim
end
end L2
end
section
namespace L2
open PySem PySem.Spec PyProof.Rows
noncomputable def fit (i : Int) : Bool := decide (i.natAbs.log2 < 1048575)
theorem akh {i : Int} (h : fit i = true) : Builtin.Int.intBits i <= 2 ^ 20 := by
 have h := of_decide_eq_true h
 unfold Builtin.Int.intBits
 have e : (2 : Nat) ^ 20 = 1048576 := by decide
 split
 ·decide
 ·omega
noncomputable def tiny (i : Int) : Bool := decide (-18446744073709551616 < i) && decide (i < 18446744073709551616)
noncomputable def aed (i j : Int) : Bool := (fit i && fit j) || tiny i || tiny j
noncomputable def anR (i j : Int) : Prop := aed i j = true
theorem anR.ok {i j : Int} (h : anR i j) : IntMulOk i j := by
 unfold anR aed at h
 rw [Bool.or_eq_true, Bool.or_eq_true, Bool.and_eq_true] at h
 have e : (2 : Int) ^ 64 = 18446744073709551616 := by decide
 have tn : ∀ {k : Int}, tiny k = true -> -(2 ^ 64) < k /\ k < 2 ^ 64 := λ{k} h => by
  unfold tiny at h
  rw [Bool.and_eq_true] at h
  have h1 := of_decide_eq_true h.1
  have h2 := of_decide_eq_true h.2
  omega
 rcases h with (⟨h1, h2⟩ | h) | h
 ·exact .of_bits (akh h1) (akh h2)
 ·exact .of_left (intBits_le_64 (tn h).1 (tn h).2)
 ·exact .of_right (intBits_le_64 (tn h).1 (tn h).2)
noncomputable def ap4 (K : PySem.W.Frag) : R2 := λx y H Q => (rI anR λi j => .int (i * j)) x y H Q \/ ar5 K x y H Q
theorem acR {X : Cx} : OpR X (binaryOp .Mult) (ap4 X.K) := OpR.or (opI λ_ _ _ _ _ _ _ hc q => mul_int q hc.ok) ap1
noncomputable def abw : G2
 | .int i, .int j => if aed i j = true then .ok (.int (i * j), false) else .bad
 | .lst a, .int k => if (-1000 <= k /\ k <= 1000) /\ a.length <= 100 then .ok (.lst (List.replicate k.toNat a).flatten, true) else .bad
 | _, _ => .bad
noncomputable def ah3 (_ j : Int) : Bool := decide (j ≠ 0) && decide (j.natAbs.log2 < 9000)
noncomputable def anS (i j : Int) : Prop := ah3 i j = true
theorem aex {X : Cx} : OpR X (binaryOp .FloorDiv) (rI anS λi j => .int (i.fdiv j)) := opI λi j _ _ _ _ _ hc q => by
 unfold anS ah3 at hc
 rw [Bool.and_eq_true] at hc
 exact floordiv_int (of_decide_eq_true hc.1) q (.inl (PyProof.noPylong_of_log2 (of_decide_eq_true hc.2)))
noncomputable def abN : G2 := gIC ah3 Int.fdiv
noncomputable def abd : G2 := gIC (λ_ j => decide (j ≠ 0)) Int.fmod
noncomputable def ao1 (i j : Int) : Bool := decide (0 <= j) && decide (j <= 1000) && tiny i
noncomputable def abF : G2 := gIC ao1 λi j => i ^ j.toNat
noncomputable def aa5 : G2 := gI λi j => i - j
section
variable {K : PySem.W.Frag}
theorem aa3.rep {H : Hp} {xs : List V} {ts : List Tr} (r : aa3 K H xs ts) : ∀ n, aa3 K H (List.replicate n xs).flatten (List.replicate n ts).flatten
 | 0 => .nil
 | n + 1 => by
  rw [List.replicate_succ, List.replicate_succ, List.flatten_cons, List.flatten_cons]
  exact r.app (aa3.rep r n)
theorem ar9 : OpT (nlK K) (ap4 K) abw := λW x y a b H Q hw rx ry h => by
 cases a <;> cases b <;> try exact h.elim
 ·rw [rx.int, ry.int]
  dsimp only [abw] at h
  split at h
  ·rename_i e
   exact .inl ⟨_, _, rfl, rfl, e, h _ H (Same.refl _) (.atm (.int _))⟩
  ·exact h.elim
 ·rename_i us k
  rw [ry.int]
  dsimp only [abw] at h
  split at h
  ·rename_i e
   obtain ⟨p, xs, rfl, q, r⟩ := rx.lst
   by_cases k0 : 0 <= k
   ·refine .inr ⟨p, k, xs, rfl, rfl, q.rdX, by omega, by omega, ?_, λz hz => h _ _ (aaV hz _) (.new hz (r.rep _))⟩
    rw [r.length]
    refine Nat.le_trans (Nat.mul_le_mul e.2 (show k.toNat <= 1000 by omega)) (by decide)
   ·have e0 : k.toNat = 0 := by omega
    by_cases k1 : -(2 ^ 63) <= k
    ·refine .inr ⟨p, k, xs, rfl, rfl, q.rdX, k1, by omega, ?_, λz hz => h _ _ (aaV hz _) (.new hz (r.rep _))⟩
     rw [e0, Nat.mul_zero]
     exact Nat.zero_le _
    ·omega
  ·exact h.elim
theorem asa : OpT K (rI anS λi j => .int (i.fdiv j)) abN := ap2 λ_ _ h => h
theorem asb : OpT K (rI (λ_ j => j ≠ 0) λi j => .int (i.fmod j)) abd := ap2 λ_ _ h => of_decide_eq_true h
theorem asd : OpT K (rI auZ λi j => .int (i ^ j.toNat)) abF := ap2 λi j h => by
 unfold ao1 tiny at h
 rw [Bool.and_eq_true, Bool.and_eq_true, Bool.and_eq_true] at h
 have h1 := of_decide_eq_true h.1.1
 have h2 := of_decide_eq_true h.1.2
 have h3 := of_decide_eq_true h.2.1
 have h4 := of_decide_eq_true h.2.2
 have e : (2 : Nat) ^ 64 = 18446744073709551616 := by decide
 exact ⟨h1, by omega, by omega⟩
theorem ase : OpT K (rI0 λi j => .int (i - j)) aa5 := axz
noncomputable def gGt : G2 := gB λi j => decide (j < i)
noncomputable def gLe : G2 := gB λi j => decide (i <= j)
noncomputable def gGe : G2 := gB λi j => decide (j <= i)
theorem avb : OpT K (rI0 λi j => .bl (decide (j < i))) gGt := au8
theorem ah4 : OpT K (rI0 λi j => .bl (decide (i <= j))) gLe := au8
theorem avc : OpT K (rI0 λi j => .bl (decide (j <= i))) gGe := au8
noncomputable def intsOf : List Tr -> Option (List Int)
 | [] => some []
 | .int i :: r => (intsOf r).map (i :: ·)
 | _ :: _ => none
theorem ints_of {H : Hp} : ∀ {ts : List Tr} {ns : List Int} {xs : List V}, intsOf ts = some ns -> aa3 K H xs ts -> xs = ns.map V.int
 | [], ns, xs, h, r => by cases h; cases r; rfl
 | .int i :: q, ns, xs, h, r => by
  unfold intsOf at h
  cases e : intsOf q with
  | none => rw [e] at h; cases h
  | some ms =>
   rw [e] at h
   cases h
   cases r with
   | cons h1 r1 =>
    cases h1
    rw [ints_of e r1]
    rfl
 | .non :: q, ns, xs, h, r => by cases h
 | .bl _ :: q, ns, xs, h, r => by cases h
 | .str _ :: q, ns, xs, h, r => by cases h
 | .tup _ :: q, ns, xs, h, r => by cases h
 | .lst _ :: q, ns, xs, h, r => by cases h
noncomputable def avd (K : PySem.W.Frag) : R2 := λx y H Q => (rI0 λi j => .bl (decide (i < j))) x y H Q \/ awK K x y H Q
theorem aey {X : Cx} (hu : X.A.units + 64 < cLine) : OpR X (compareOp .Lt) (avd X.K) := OpR.or au0 (arO (by omega))
noncomputable def gLt : G2
 | .int i, .int j => .ok (.bl (decide (i < j)), false)
 | .tup a, .tup b => match intsOf a, intsOf b with
  | some ns, some ms => .ok (.bl (HT.lexLt ns ms), false)
  | _, _ => .bad
 | _, _ => .bad
theorem asf : OpT (nlK K) (avd K) gLt := λW x y a b H Q hw rx ry h => by
 cases a <;> cases b <;> try exact h.elim
 ·rw [rx.int, ry.int]
  exact .inl ⟨_, _, rfl, rfl, h _ H (Same.refl _) (.atm (.bl _))⟩
 ·rename_i us ws
  dsimp only [gLt] at h
  split at h
  ·rename_i ns ms e1 e2
   obtain ⟨p, xs, rfl, q, r⟩ := rx.tup
   obtain ⟨p', ys, rfl, q', r'⟩ := ry.tup
   have z1 := ints_of e1 r
   have z2 := ints_of e2 r'
   subst z1 z2
   exact .inr ⟨p, p', ns, ms, rfl, rfl, q.toK, q'.toK, h _ H (Same.refl _) (.atm (.bl _))⟩
  ·exact h.elim
noncomputable def gIx : G2
 | .lst ts, .int i => match atI ts i with
  | some t => .ok (t, false)
  | none => .bad
 | .tup ts, .int i => match atI ts i with
  | some t => .ok (t, false)
  | none => .bad
 | .str z, .int i => if z.length <= 100000 then (match atI z.cps.toList i with
  | some c => .ok (.str ⟨#[c]⟩, false)
  | none => .bad) else .bad
 | _, _ => .bad
theorem ash : OpT (nlK K) (rIx K) gIx := λW x y a b H Q hw rx ry h => by
 cases a <;> cases b <;> try exact h.elim
 ·rename_i z i
  rw [rx.str, ry.int]
  dsimp only [gIx] at h
  split at h
  ·rename_i e
   split at h
   ·rename_i c ec
    exact .inr (.inr ⟨z, i, c, rfl, rfl, big e, ec, h _ H (Same.refl _) (.atm (.str _))⟩)
   ·exact h.elim
  ·exact h.elim
 ·rename_i ts i
  rw [ry.int]
  dsimp only [gIx] at h
  split at h
  ·rename_i t et
   obtain ⟨p, xs, rfl, q, r⟩ := rx.tup
   obtain ⟨v, ev, rv⟩ := r.atI et
   exact .inr (.inl ⟨p, xs, i, v, rfl, rfl, q.toK, ev, h _ H (Same.refl _) rv⟩)
  ·exact h.elim
 ·rename_i ts i
  rw [ry.int]
  dsimp only [gIx] at h
  split at h
  ·rename_i t et
   obtain ⟨p, xs, rfl, q, r⟩ := rx.lst
   obtain ⟨v, ev, rv⟩ := r.atI et
   exact .inl ⟨p, xs, i, v, rfl, rfl, q.toK, ev, h _ H (Same.refl _) rv⟩
  ·exact h.elim
end
end L2
end
section
namespace L2
open PySem PySem.Spec PyProof.Rows
section
variable {K : PySem.W.Frag} {W : Addr -> Prop} {σ : St}
theorem agz.step {H H' H'' : Hp} (hw : ∀ b, W b -> H b ≠ none) (s : Stp W H' H'') : ∀ {vs : List V} {rs : List Rv}, agz K W σ H H' vs rs -> agz K W σ H H'' vs rs
 | _, _, .nil => .nil
 | _, _, .cons h q => .cons (h.step hw s) (agz.step hw s q)
theorem agz.back {G H H' : Hp} (d : ∀ b, H b = none -> G b = none) : ∀ {vs : List V} {rs : List Rv}, agz K W σ H H' vs rs -> agz K W σ G H' vs rs
 | _, _, .nil => .nil
 | _, _, .cons h q => .cons (h.back d) (agz.back d q)
inductive Rps (K : PySem.W.Frag) (W : Addr -> Prop) (H : Hp) : List V -> List Tr -> Prop
 | nil : Rps K W H [] []
 | cons {v : V} {t : Tr} {vs : List V} {ts : List Tr} (h : Rp K W H v t) (q : Rps K W H vs ts) : Rps K W H (v :: vs) (t :: ts)
noncomputable def drs (ρ : En) : List Rv -> Rs (List Tr)
 | [] => .ok []
 | r :: rs => (dr ρ r).bind λt => (drs ρ rs).bind λts => .ok (t :: ts)
theorem ae2 (ρ : En) : ∀ (rs : List Rv) (c : Str), drs ρ rs ≠ .ex c
 | [], c => by intro z; cases z
 | r :: rs, c => by
  unfold drs
  cases e : dr ρ r with
  | bad => intro z; cases z
  | ex d => exact (acQ _ _ _ e).elim
  | ok t =>
   show (drs ρ rs).bind _ ≠ _
   cases e2 : drs ρ rs with
   | bad => intro z; cases z
   | ex d => exact (ae2 ρ rs d e2).elim
   | ok ts => intro z; cases z
theorem abj {α β : Type} {r : Rs α} {f : α -> Rs β} {b : β} (h : r.bind f = .ok b) : ∃ a, r = .ok a /\ f a = .ok b := by
 cases r with
 | bad => cases h
 | ex c => cases h
 | ok a => exact ⟨a, rfl, h⟩
theorem ah5 {t : Tx} {ρ : En} {H H' : Hp} (e : EOk t W ρ σ H') (hw : ∀ b, W b -> H b ≠ none) : ∀ {vs : List V} {rs : List Rv} {ts : List Tr}, agz t.K W σ H H' vs rs -> drs ρ rs = .ok ts -> Rps t.K W H' vs ts
 | _, _, _, .nil, q => by cases q; exact .nil
 | _, _, _, .cons h r, q => by
  unfold drs at q
  obtain ⟨a, q1, q⟩ := abj q
  obtain ⟨as, q2, q⟩ := abj q
  cases q
  exact .cons (aeb e hw h q1) (ah5 e hw r q2)
noncomputable def cls : List Rv -> Rs (List Tr)
 | [] => .ok []
 | .v t _ :: rs => (cls rs).bind λts => .ok (t :: ts)
 | .s _ :: _ => .bad
theorem af5 : ∀ (rs : List Rv) (c : Str), cls rs ≠ .ex c
 | [], c => by intro z; cases z
 | .v t fr :: rs, c => by
  unfold cls
  cases e2 : cls rs with
  | bad => intro z; cases z
  | ex d => exact (af5 rs d e2).elim
  | ok ts => intro z; cases z
 | .s i :: rs, c => by intro z; cases z
theorem ah6 {H H' : Hp} (hw : ∀ b, W b -> H b ≠ none) : ∀ {vs : List V} {rs : List Rv} {ts : List Tr}, agz K W σ H H' vs rs -> cls rs = .ok ts -> aa3 K (aa2 W H') vs ts
 | _, _, _, .nil, q => by cases q; exact .nil
 | _, .v t fr :: _, _, .cons h r, q => by
  unfold cls at q
  obtain ⟨as, q2, q⟩ := abj q
  cases q
  exact .cons (h.rep hw) (ah6 hw r q2)
 | _, .s i :: _, _, .cons h r, q => by cases q
end
section
variable {t : Tx}
noncomputable def aaB : AF := λρ => .ok ([], ρ)
noncomputable def aad (f : EF) (g : AF) : AF := λρ => (f ρ).bind λp => (g p.2).bind λq => .ok (p.1 :: q.1, q.2)
theorem aap : SA t alR aaB := λW ρ σ H Q e h => h [] H e (Stp.refl _ _) .nil
theorem aac {te : TE} {ta : TA} {f : EF} {g : AF} (h1 : SE t te f) (h2 : SA t ta g) : SA t (adh te ta) (aad f g) := λW ρ σ H Q e h => by
 refine h1 W ρ σ H _ e (Rs.aag (Rs.aae h) λp h v H1 e1 s1 v1 => ?_)
 refine h2 W p.2 σ H1 _ e1 (Rs.aag (Rs.aae h) λq h vs H2 e2 s2 v2 => ?_)
 exact h (v :: vs) H2 e2 (s1.trans s2) (.cons (v1.1.step e.wn s2) (agz.back s1.dom v2))
noncomputable def aeW (g : AF) : EF := λρ => (g ρ).bind λp => (cls p.1).bind λts => if ts.length <= 1000 then .ok (.v (.lst ts) true, p.2) else .bad
noncomputable def arf (g : AF) : EF := λρ => (g ρ).bind λp => (cls p.1).bind λts => if ts.length <= 1000 then .ok (.v (.tup ts) false, p.2) else .bad
theorem abx {α : Type} {r : Rs α} {EX : Str -> Prop} {P : α -> Prop} (h : r.post EX P) (n : ∀ c, r ≠ .ex c) : ∃ a, r = .ok a /\ P a := by
 cases r with
 | bad => exact h.elim
 | ex c => exact (n c rfl).elim
 | ok a => exact ⟨a, rfl, h⟩
theorem acS {ta : TA} {g : AF} (h1 : SA t ta g) : SE t (awI ta) (aeW g) := λW ρ σ H Q e h => by
 refine h1 W ρ σ H _ e (Rs.aag (Rs.aae h) λp h vs H1 e1 s1 v1 => ?_)
 obtain ⟨ts, q, h⟩ := abx (Rs.aae h) (af5 _)
 have r := ah6 e.wn v1 q
 split at h
 ·rename_i hl
  refine ⟨by rw [r.length]; exact Nat.le_trans hl (by decide), λz hz => h _ _ (e1.grow (aaV hz _)) (s1.trans (Stp.of (aaV hz _))) ?_⟩
  exact (VOE.of (σ' := σ) e1 (aaV hz _) (VOk.new hz r)).back s1.dom
 ·exact h.elim
theorem ao2 {ta : TA} {g : AF} (h1 : SA t ta g) : SE t (awH ta) (arf g) := λW ρ σ H Q e h => by
 refine h1 W ρ σ H _ e (Rs.aag (Rs.aae h) λp h vs H1 e1 s1 v1 => ?_)
 obtain ⟨ts, q, h⟩ := abx (Rs.aae h) (af5 _)
 have r := ah6 e.wn v1 q
 split at h
 ·rename_i hl
  refine ⟨by rw [r.length]; exact Nat.le_trans hl (by decide), λz hz => h _ _ (e1.grow (aaV hz _)) (s1.trans (Stp.of (aaV hz _))) ?_⟩
  exact .low ((VOk.newT (σ := σ) (W := W) e1.wl hz r))
 ·exact h.elim
noncomputable abbrev G1 := Tr -> Rs (Tr × Bool)
noncomputable def UnT (K : PySem.W.Frag) (r : V -> Hp -> VK -> Prop) (g : G1) : Prop := ∀ W x a H Q, (∀ b, W b -> Lt H b) -> Rp K W H x a -> (g a).post (λ_ => False) (λp => ∀ v H', Same H H' -> VOk K W [] H H' v (.v p.1 p.2) -> Q v H') -> r x H Q
noncomputable def eUn (g : G1) (fa : EF) : EF := λρ => (fa ρ).bind λp => (dr p.2 p.1).bind λa => (g a).bind λz => .ok (.v z.1 z.2, p.2)
noncomputable def asi : G1
 | .int i => .ok (.int (-i), false)
 | _ => .bad
theorem asj {K : PySem.W.Frag} : UnT K (rU λi => .int (-i)) asi := λW x a H Q hw rx h => by
 cases a <;> try exact h.elim
 rw [rx.int]
 exact ⟨_, rfl, h _ H (Same.refl _) (.atm (.int _))⟩
noncomputable def bOf : Tr -> Rs Bool
 | .bl b => .ok b
 | _ => .bad
theorem amd (a : Tr) (c : Str) : bOf a ≠ .ex c := by cases a <;> (intro z; cases z)
noncomputable def abf (fa : EF) : BF := λρ => (fa ρ).bind λp => (dr p.2 p.1).bind λa => (bOf a).bind λb => .ok (b, p.2)
theorem asl {K : PySem.W.Frag} {W : Addr -> Prop} {H : Hp} {v : V} {a : Tr} {b : Bool} (h : Rp K W H v a) (q : bOf a = .ok b) : v = .bl b := by
 cases a <;> cases q
 exact h.bl
theorem aa8 {ta : TE} {fa : EF} (ha : SE t ta fa) : ST t (apD ta) (abf fa) := λW ρ σ H Q e h => by
 refine ha W ρ σ H _ e (Rs.aag (Rs.aae h) λp h x H1 e1 s1 v1 => ?_)
 obtain ⟨a, k1, h⟩ := abx (Rs.aae h) (acQ _ _)
 obtain ⟨b, k2, h⟩ := abx (Rs.aae h) (amd _)
 exact ⟨b, asl (aeb e1 e.wn v1.1 k1) k2, h H1 e1 s1⟩
noncomputable def tru : Tr -> Rs Bool
 | .non => .ok false
 | .bl b => .ok b
 | .int i => .ok (i != 0)
 | .lst ts => .ok (!ts.isEmpty)
 | .tup ts => .ok (!ts.isEmpty)
 | .str x => if x.length <= 100000 then .ok ((x.length : Int) != 0) else .bad
 | .exn _ => .bad
theorem ap5 (a : Tr) (c : Str) : tru a ≠ .ex c := by
 cases a <;> try (intro z; cases z; done)
 dsimp only [tru]
 split <;> (intro z; cases z)
theorem af6 {α β : Type} {a : List α} {b : List β} (h : a.length = b.length) : a.isEmpty = b.isEmpty := by
 cases a <;> cases b <;> first | rfl | cases h
theorem asn {K : PySem.W.Frag} {W : Addr -> Prop} {H : Hp} {v : V} {a : Tr} {b : Bool} (h : Rp (nlK K) W H v a) (q : tru a = .ok b) : aur K v H b := by
 cases a with
 | non => cases q; rw [h.non]; rfl
 | bl i => cases q; rw [h.bl]; rfl
 | int i => cases q; rw [h.int]; rfl
 | str i =>
  dsimp only [tru] at q
  split at q
  ·rename_i e
   cases q
   rw [h.str]
   exact ⟨big e, rfl⟩
  ·cases q
 | tup ts =>
  cases q
  obtain ⟨p, xs, rfl, q, r⟩ := h.tup
  exact .inr (.inl ⟨xs, q.toK, by rw [af6 r.length]⟩)
 | lst ts =>
  cases q
  obtain ⟨p, xs, rfl, q, r⟩ := h.lst
  exact .inl ⟨xs, q.toK, by rw [af6 r.length]⟩
 | exn c => cases q
noncomputable def aez (fa : EF) : BF := λρ => (fa ρ).bind λp => (dr p.2 p.1).bind λa => (tru a).bind λb => .ok (b, p.2)
noncomputable def axA (K : PySem.W.Frag) (ta : TE) : TT := λσ H Q => ta σ H λx H' => ∃ k, aur K x H' k /\ Q k H'
theorem acq {K : PySem.W.Frag} (hK : t.K = nlK K) {ta : TE} {fa : EF} (ha : SE t ta fa) : ST t (axA K ta) (aez fa) := λW ρ σ H Q e h => by
 refine ha W ρ σ H _ e (Rs.aag (Rs.aae h) λp h x H1 e1 s1 v1 => ?_)
 obtain ⟨a, k1, h⟩ := abx (Rs.aae h) (acQ _ _)
 obtain ⟨b, k2, h⟩ := abx (Rs.aae h) (ap5 _)
 have r := aeb e1 e.wn v1.1 k1
 rw [hK] at r
 exact ⟨b, asn r k2, h H1 e1 s1⟩
noncomputable def auy (f g : BF) : BF := λρ => (f ρ).bind λp => if p.1 = true then g p.2 else .ok (false, p.2)
noncomputable def bOr (f g : BF) : BF := λρ => (f ρ).bind λp => if p.1 = true then .ok (true, p.2) else g p.2
noncomputable def aee (f : BF) : BF := λρ => (f ρ).bind λp => .ok (!p.1, p.2)
theorem aso {ta tb : TT} {f g : BF} (ha : ST t ta f) (hb : ST t tb g) : ST t (awx ta tb) (auy f g) := λW ρ σ H Q e h => by
 refine ha W ρ σ H _ e (Rs.aag (Rs.aae h) λp h H1 e1 s1 => ?_)
 split at h
 ·rename_i c
  refine if_pos c ▸ hb W p.2 σ H1 _ e1 (Rs.aag h λq h H2 e2 s2 => h H2 e2 (s1.trans s2))
 ·rename_i c
  exact if_neg c ▸ h H1 e1 s1
theorem aef {ta tb : TT} {f g : BF} (ha : ST t ta f) (hb : ST t tb g) : ST t (tOr ta tb) (bOr f g) := λW ρ σ H Q e h => by
 refine ha W ρ σ H _ e (Rs.aag (Rs.aae h) λp h H1 e1 s1 => ?_)
 split at h
 ·rename_i c
  exact if_pos c ▸ h H1 e1 s1
 ·rename_i c
  refine if_neg c ▸ hb W p.2 σ H1 _ e1 (Rs.aag h λq h H2 e2 s2 => h H2 e2 (s1.trans s2))
theorem ab8 {ta : TT} {f : BF} (ha : ST t ta f) : ST t (awy ta) (aee f) := λW ρ σ H Q e h =>
 ha W ρ σ H _ e (Rs.aag (Rs.aae h) λp h H1 e1 s1 => h H1 e1 s1)
noncomputable def eB (b : Bool) : Rv := .v (.bl b) false
noncomputable def akY (f g : EF) : EF := λρ => (abf f ρ).bind λp => if p.1 = true then g p.2 else .ok (eB false, p.2)
noncomputable def eOr (f g : EF) : EF := λρ => (abf f ρ).bind λp => if p.1 = true then .ok (eB true, p.2) else g p.2
noncomputable def auz (f : EF) : EF := λρ => (abf f ρ).bind λp => .ok (eB (!p.1), p.2)
theorem aeA {ta tb : TE} {f g : EF} (ha : SE t ta f) (hb : SE t tb g) : SE t (arx ta tb) (akY f g) := λW ρ σ H Q e h => by
 refine aa8 ha W ρ σ H _ e (Rs.aag (Rs.aae h) λp h H1 e1 s1 => ?_)
 split at h
 ·rename_i c
  refine if_pos c ▸ hb W p.2 σ H1 _ e1 (Rs.aag h λq h v H2 e2 s2 v2 => h v H2 e2 (s1.trans s2) (v2.back s1.dom))
 ·rename_i c
  exact if_neg c ▸ h _ H1 e1 s1 (.low (.bl false))
theorem ao3 {ta : TE} {f : EF} (ha : SE t ta f) : SE t (arz ta) (auz f) := λW ρ σ H Q e h =>
 aa8 ha W ρ σ H _ e (Rs.aag (Rs.aae h) λp h H1 e1 s1 => h _ H1 e1 s1 (.low (.bl _)))
noncomputable def eIf (c : BF) (f g : EF) : EF := λρ => (c ρ).bind λp => if p.1 = true then f p.2 else g p.2
end
end L2
end
section
namespace L2
open PySem PySem.Spec PyProof.Rows
section
variable {t : Tx}
noncomputable def af7 (g g' : G2) (fa fb fc : EF) : EF := λρ => (fa ρ).bind λp => (fb p.2).bind λq => (dr q.2 p.1).bind λa => (dr q.2 q.1).bind λb => (g a b).bind λz => (bOf z.1).bind λk =>
 if k = true then (fc q.2).bind λs => (dr s.2 q.1).bind λb => (dr s.2 s.1).bind λc => (g' b c).bind λz => .ok (.v z.1 z.2, s.2) else .ok (eB false, q.2)
theorem anT {r r' : R2} {g g' : G2} {ta tb tc : TE} {fa fb fc : EF} (o : OpT t.K r g) (o' : OpT t.K r' g') (ng : ∀ a b c, g a b ≠ .ex c) (ng' : ∀ a b c, g' a b ≠ .ex c) (ha : SE t ta fa) (hb : SE t tb fb) (hc : SE t tc fc) : SE t (ajZ r r' ta tb tc) (af7 g g' fa fb fc) := λW ρ σ H Q e h => by
 refine ha W ρ σ H _ e (Rs.aag (Rs.aae h) λp h x H1 e1 s1 v1 => ?_)
 refine hb W p.2 σ H1 _ e1 (Rs.aag (Rs.aae h) λq h y H2 e2 s2 v2 => ?_)
 obtain ⟨a, k1, h⟩ := abx (Rs.aae h) (acQ _ _)
 obtain ⟨b, k2, h⟩ := abx (Rs.aae h) (acQ _ _)
 refine o W x y a b H2 _ e2.wl (aeb e2 e.wn (v1.1.step e.wn s2) k1) (aeb e2 e1.wn v2.1 k2) (Rs.aag (aiV (Rs.aae h) (ng a b)) λz h v H3 s3 v3 => ?_)
 obtain ⟨k, k3, h⟩ := abx (Rs.aae h) (amd _)
 have e3 := e2.grow s3
 have b3 : v = .bl k := asl (.inl (VOk.rep (σ := []) e2.wn v3)) k3
 refine ⟨k, b3, ?_⟩
 split at h
 ·rename_i c
  rw [if_pos c]
  refine hc W q.2 σ H3 _ e3 (Rs.aag (Rs.aae h) λu h w H4 e4 s4 v4 => ?_)
  obtain ⟨b', k4, h⟩ := abx (Rs.aae h) (acQ _ _)
  obtain ⟨c', k5, h⟩ := abx (Rs.aae h) (acQ _ _)
  refine o' W y w b' c' H4 _ e4.wl (aeb e4 e1.wn ((v2.1.step e1.wn (Stp.of s3)).step e1.wn s4) k4) (aeb e4 e3.wn v4.1 k5) (Rs.aag (aiV (Rs.aae h) (ng' b' c')) λz h v H5 s5 v5 => ?_)
  have st : Stp W H H4 := (s1.trans (s2.trans (Stp.of s3))).trans s4
  exact h v H5 (e4.grow s5) (st.trans (Stp.of s5)) ((VOE.of e4 s5 v5).back st.dom)
 ·rename_i c
  rw [if_neg c]
  exact h _ H3 e3 ((s1.trans s2).trans (Stp.of s3)) (.low (.bl false))
noncomputable abbrev OF := En -> Rs (Option Int × En)
noncomputable def SO (t : Tx) (te : TO) (f : OF) : Prop := ∀ W ρ σ H Q, EOk t W ρ σ H -> (f ρ).post t.EX (λp => ∀ H', EOk t W p.2 σ H' -> Stp W H H' -> Q p.1 H') -> te σ H Q
noncomputable def oNo : OF := λρ => .ok (none, ρ)
theorem ave : SO t alW oNo := λW ρ σ H Q e h => h H e (Stp.refl _ _)
noncomputable def iOf : Tr -> Rs Int
 | .int i => .ok i
 | _ => .bad
theorem ame (a : Tr) (c : Str) : iOf a ≠ .ex c := by cases a <;> (intro z; cases z)
theorem ao4 {K : PySem.W.Frag} {W : Addr -> Prop} {H : Hp} {v : V} {a : Tr} {b : Int} (h : Rp K W H v a) (q : iOf a = .ok b) : v = .int b := by
 cases a <;> cases q
 exact h.int
noncomputable def akZ (fa : EF) : OF := λρ => (fa ρ).bind λp => (dr p.2 p.1).bind λa => (iOf a).bind λb => .ok (some b, p.2)
theorem ap6 {ta : TE} {fa : EF} (ha : SE t ta fa) : SO t (arM ta) (akZ fa) := λW ρ σ H Q e h => by
 refine ha W ρ σ H _ e (Rs.aag (Rs.aae h) λp h x H1 e1 s1 v1 => ?_)
 obtain ⟨a, k1, h⟩ := abx (Rs.aae h) (acQ _ _)
 obtain ⟨b, k2, h⟩ := abx (Rs.aae h) (ame _)
 exact ⟨b, ao4 (aeb e1 e.wn v1.1 k1) k2, h H1 e1 s1⟩
noncomputable def cut {α : Type} (xs : List α) (lo hi : Option Int) : List α := (xs.drop (HT.sIx xs.length 0 lo)).take (HT.sIx xs.length xs.length hi - HT.sIx xs.length 0 lo)
theorem aa3.cut {K : PySem.W.Frag} {H : Hp} {xs : List V} {ts : List Tr} (r : aa3 K H xs ts) (lo hi : Option Int) : aa3 K H (aoT xs lo hi) (L2.cut ts lo hi) := by
 unfold aoT L2.cut
 rw [r.length]
 exact (r.drop _).take _
noncomputable def awX (K : PySem.W.Frag) : V -> Option Int -> Option Int -> Hp -> VK -> Prop := λx lo hi H Q => awO K x lo hi H Q \/ awJ K x lo hi H Q \/ awS x lo hi H Q
theorem axB {X : Cx} : SlR X (awX X.K) := SlR.or apM (SlR.or arN arX)
noncomputable def gSl (lo hi : Option Int) : G1
 | .lst ts => .ok (.lst (cut ts lo hi), true)
 | .tup ts => if ¬ (HT.sIx ts.length 0 lo = 0 /\ HT.sIx ts.length ts.length hi = ts.length) then .ok (.tup (cut ts lo hi), false) else .bad
 | .str z => if z.length <= 100000 then .ok (.str (Txt.slice z lo hi), false) else .bad
 | _ => .bad
theorem ap7 (lo hi : Option Int) (a : Tr) (c : Str) : gSl lo hi a ≠ .ex c := by
 cases a <;> dsimp only [gSl] <;> (try split) <;> (intro z; cases z)
noncomputable def eSl (fa : EF) (fl fh : OF) : EF := λρ => (fa ρ).bind λp => (fl p.2).bind λl => (fh l.2).bind λh => (dr h.2 p.1).bind λa => (gSl l.1 h.1 a).bind λz => .ok (.v z.1 z.2, h.2)
theorem avf {K : PySem.W.Frag} (hK : t.K = nlK K) {ta : TE} {tl th : TO} {fa : EF} {fl fh : OF} (ha : SE t ta fa) (hl : SO t tl fl) (hh : SO t th fh) : SE t (tSl (awX K) ta tl th) (eSl fa fl fh) := λW ρ σ H Q e h => by
 refine ha W ρ σ H _ e (Rs.aag (Rs.aae h) λp h x H1 e1 s1 v1 => ?_)
 refine hl W p.2 σ H1 _ e1 (Rs.aag (Rs.aae h) λl h H2 e2 s2 => ?_)
 refine hh W l.2 σ H2 _ e2 (Rs.aag (Rs.aae h) λu h H3 e3 s3 => ?_)
 obtain ⟨a, k1, h⟩ := abx (Rs.aae h) (acQ _ _)
 obtain ⟨z, k2, h⟩ := abx (Rs.aae h) (ap7 _ _ _)
 have st : Stp W H H3 := s1.trans (s2.trans s3)
 have rx := aeb e3 e.wn (v1.1.step e.wn (s2.trans s3)) k1
 rw [hK] at rx
 cases a with
 | exn c => cases k2
 | lst ts =>
  cases k2
  obtain ⟨b, xs, rfl, q, r⟩ := rx.lst
  refine .inl ⟨b, xs, rfl, q.toK, λy hy => h _ _ (e3.grow (aaV hy _)) (st.trans (Stp.of (aaV hy _))) ?_⟩
  rw [<-hK] at r
  exact (VOE.of (σ' := σ) e3 (aaV hy _) (VOk.new hy (r.cut _ _))).back st.dom
 | tup ts =>
  dsimp only [gSl] at k2
  split at k2
  ·rename_i c
   cases k2
   obtain ⟨b, xs, rfl, q, r⟩ := rx.tup
   refine .inr (.inl ⟨b, xs, rfl, q.toK, by rw [r.length]; exact c, λy hy => h _ _ (e3.grow (aaV hy _)) (st.trans (Stp.of (aaV hy _))) ?_⟩)
   rw [<-hK] at r
   exact .low (VOk.newT (σ := σ) (W := W) e3.wl hy (r.cut _ _))
  ·cases k2
 | str i =>
  dsimp only [gSl] at k2
  split at k2
  ·rename_i c
   cases k2
   rw [rx.str]
   exact .inr (.inr ⟨i, rfl, big c, h _ H3 e3 st (.low (.str _))⟩)
  ·cases k2
 | non => cases k2
 | bl i => cases k2
 | int i => cases k2
noncomputable abbrev GN := List Tr -> Rs (Tr × Bool)
noncomputable def CbT (K : PySem.W.Frag) (r : List V -> Hp -> VK -> Prop) (g : GN) : Prop := ∀ W xs as H Q, (∀ b, W b -> Lt H b) -> Rps K W H xs as -> (g as).post (λ_ => False) (λp => ∀ v H', Same H H' -> VOk K W [] H H' v (.v p.1 p.2) -> Q v H') -> r xs H Q
noncomputable def eCB (g : GN) (fa : AF) : EF := λρ => (fa ρ).bind λp => (drs p.2 p.1).bind λas => (g as).bind λz => .ok (.v z.1 z.2, p.2)
theorem ah7 {r : List V -> Hp -> VK -> Prop} {g : GN} {ta : TA} {fa : AF} (o : CbT t.K r g) (ng : ∀ as c, g as ≠ .ex c) (ha : SA t ta fa) : SE t (tCB r ta) (eCB g fa) := λW ρ σ H Q e h => by
 refine ha W ρ σ H _ e (Rs.aag (Rs.aae h) λp h xs H1 e1 s1 v1 => ?_)
 obtain ⟨as, k1, h⟩ := abx (Rs.aae h) (ae2 _ _)
 refine o W xs as H1 Q e1.wl (ah5 e1 e.wn v1 k1) (Rs.aag (aiV (Rs.aae h) (ng as)) λz h v H2 s2 v2 => ?_)
 exact h v H2 (e1.grow s2) (s1.trans (Stp.of s2)) ((VOE.of e1 s2 v2).back s1.dom)
noncomputable def g1 (g : G1) : GN
 | [a] => g a
 | _ => .bad
theorem agO {g : G1} (h : ∀ a c, g a ≠ .ex c) (as : List Tr) (c : Str) : g1 g as ≠ .ex c := by
 match as with
 | [] => intro z; cases z
 | [a] => exact h a c
 | _ :: _ :: _ => intro z; cases z
theorem arh {K : PySem.W.Frag} {r : List V -> Hp -> VK -> Prop} {g : G1} (h : UnT K (λx => r [x]) g) : CbT K r (g1 g) := λW xs as H Q hw rs q => by
 cases rs with
 | nil => exact q.elim
 | cons h1 r1 =>
  cases r1 with
  | nil => exact h W _ _ H Q hw h1 q
  | cons _ _ => exact q.elim
noncomputable def g2 (g : G2) : GN
 | [a, b] => g a b
 | _ => .bad
theorem ao5 {g : G2} (h : ∀ a b c, g a b ≠ .ex c) (as : List Tr) (c : Str) : g2 g as ≠ .ex c := by
 match as with
 | [] => intro z; cases z
 | [a] => intro z; cases z
 | [a, b] => exact h a b c
 | _ :: _ :: _ :: _ => intro z; cases z
theorem awY {K : PySem.W.Frag} {r : List V -> Hp -> VK -> Prop} {g : G2} (h : OpT K (λx y => r [x, y]) g) : CbT K r (g2 g) := λW xs as H Q hw rs q => by
 cases rs with
 | nil => exact q.elim
 | cons h1 r1 =>
  cases r1 with
  | nil => exact q.elim
  | cons h2 r2 =>
   cases r2 with
   | nil => exact h W _ _ _ _ H Q hw h1 h2 q
   | cons _ _ => exact q.elim
end
section
variable {K : PySem.W.Frag}
noncomputable def ap8 (K : PySem.W.Frag) : List V -> Hp -> VK -> Prop := λxs H Q => (∃ p ys, xs = [.ref p] /\ (SqL K H p ys \/ SqT K H p ys) /\ Q (.int ys.length) H) \/ (∃ z, xs = [.str z] /\ z.length <= sizeLine /\ Q (.int z.length) H)
theorem aaX {X : Cx} : acI X (.builtin "len") (ap8 X.K) := acI.or ahT ahU
noncomputable def aaO : G1
 | .lst ts => .ok (.int ts.length, false)
 | .tup ts => .ok (.int ts.length, false)
 | .str z => if z.length <= 100000 then .ok (.int z.length, false) else .bad
 | _ => .bad
theorem asp : UnT (nlK K) (λx => ap8 K [x]) aaO := λW x a H Q hw rx h => by
 cases a <;> try exact h.elim
 ·rename_i z
  dsimp only [aaO] at h
  split at h
  ·rename_i e
   rw [rx.str]
   exact .inr ⟨z, rfl, big e, h _ H (Same.refl _) (.atm (.int _))⟩
  ·exact h.elim
 ·obtain ⟨p, xs, rfl, q, r⟩ := rx.tup
  refine .inl ⟨p, xs, rfl, .inr q.toK, ?_⟩
  rw [r.length]
  exact h _ H (Same.refl _) (.atm (.int _))
 ·obtain ⟨p, xs, rfl, q, r⟩ := rx.lst
  refine .inl ⟨p, xs, rfl, .inl q.toK, ?_⟩
  rw [r.length]
  exact h _ H (Same.refl _) (.atm (.int _))
noncomputable def abT : G1
 | .int i => .ok (.int (if i < 0 then -i else i), false)
 | _ => .bad
theorem asq : UnT K (λx H Q => ∃ i, [x] = [V.int i] /\ Q (.int (if i < 0 then -i else i)) H) abT := λW x a H Q hw rx h => by
 cases a <;> try exact h.elim
 rw [rx.int]
 exact ⟨_, rfl, h _ H (Same.refl _) (.atm (.int _))⟩
noncomputable def aaD : G1
 | .lst ts => .ok (.lst ts, true)
 | .tup ts => .ok (.lst ts, true)
 | _ => .bad
theorem ap9 : UnT (nlK K) (λx H Q => ∃ p ys, [x] = [V.ref p] /\ (SqL K H p ys \/ SqT K H p ys) /\ ∀ l, H l = none -> Q (.ref l) (upd H l (.lst ys))) aaD := λW x a H Q hw rx h => by
 cases a <;> try exact h.elim
 ·obtain ⟨p, xs, rfl, q, r⟩ := rx.tup
  exact ⟨p, xs, rfl, .inr q.toK, λz hz => h _ _ (aaV hz _) (.new hz r)⟩
 ·obtain ⟨p, xs, rfl, q, r⟩ := rx.lst
  exact ⟨p, xs, rfl, .inl q.toK, λz hz => h _ _ (aaV hz _) (.new hz r)⟩
noncomputable def aaq : G1
 | .lst ts => .ok (.tup ts, false)
 | .tup ts => .ok (.tup ts, false)
 | _ => .bad
theorem anU : UnT (nlK K) (λx H Q => ∃ p ys, [x] = [V.ref p] /\ ((SqL K H p ys /\ ∀ l, H l = none -> Q (.ref l) (upd H l (.tup ys))) \/ (SqT K H p ys /\ Q (.ref p) H))) aaq := λW x a H Q hw rx h => by
 cases a <;> try exact h.elim
 ·have rt := rx.awW
  obtain ⟨p, xs, rfl, q, r⟩ := rx.tup
  exact ⟨p, xs, rfl, .inr ⟨q.toK, h _ H (Same.refl _) rt⟩⟩
 ·obtain ⟨p, xs, rfl, q, r⟩ := rx.lst
  exact ⟨p, xs, rfl, .inl ⟨q.toK, λz hz => h _ _ (aaV hz _) (.newT hw hz r)⟩⟩
noncomputable def anq : G1 := λt => if okS t = true /\ blk t <= 8000 /\ dep t <= 40 then .ok (.str (txt t), false) else .bad
theorem asr : UnT (nlK K) (λx => au4 K [x]) anq := λW x a H Q hw rx h => by
 unfold anq at h
 split at h
 ·rename_i e
  exact ⟨x, a, rfl, rx.rep.toK, e.1, e.2.1, e.2.2, h _ H (Same.refl _) (.atm (.str _))⟩
 ·exact h.elim
noncomputable def abO : G2
 | .int i, .int j => .ok (.int (if j < i then j else i), false)
 | _, _ => .bad
noncomputable def abP : G2
 | .int i, .int j => .ok (.int (if j > i then j else i), false)
 | _, _ => .bad
theorem asu : OpT K (λx y H Q => ∃ i j, [x, y] = [V.int i, V.int j] /\ Q (.int (if j < i then j else i)) H) abO := λW x y a b H Q hw rx ry h => by
 cases a <;> cases b <;> try exact h.elim
 rw [rx.int, ry.int]
 exact ⟨_, _, rfl, h _ H (Same.refl _) (.atm (.int _))⟩
theorem asv : OpT K (λx y H Q => ∃ i j, [x, y] = [V.int i, V.int j] /\ Q (.int (if j > i then j else i)) H) abP := λW x y a b H Q hw rx ry h => by
 cases a <;> cases b <;> try exact h.elim
 rw [rx.int, ry.int]
 exact ⟨_, _, rfl, h _ H (Same.refl _) (.atm (.int _))⟩
noncomputable def ai5 : List Tr -> Option (List Bool)
 | [] => some []
 | .bl i :: r => (ai5 r).map (i :: ·)
 | _ :: _ => none
theorem ao6 {H : Hp} : ∀ {ts : List Tr} {ns : List Bool} {xs : List V}, ai5 ts = some ns -> aa3 K H xs ts -> xs = ns.map V.bl
 | [], ns, xs, h, r => by cases h; cases r; rfl
 | .bl i :: q, ns, xs, h, r => by
  unfold ai5 at h
  cases e : ai5 q with
  | none => rw [e] at h; cases h
  | some ms =>
   rw [e] at h
   cases h
   cases r with
   | cons h1 r1 =>
    cases h1
    rw [ao6 e r1]
    rfl
 | .non :: q, ns, xs, h, r => by cases h
 | .int _ :: q, ns, xs, h, r => by cases h
 | .str _ :: q, ns, xs, h, r => by cases h
 | .tup _ :: q, ns, xs, h, r => by cases h
 | .lst _ :: q, ns, xs, h, r => by cases h
noncomputable def abG : G1
 | .lst ts => match ai5 ts with
  | some bs => .ok (.bl (bs.all id), false)
  | none => .bad
 | _ => .bad
theorem asw : UnT (nlK K) (λx => au3 K [x]) abG := λW x a H Q hw rx h => by
 cases a <;> try exact h.elim
 dsimp only [abG] at h
 split at h
 ·rename_i bs e
  obtain ⟨p, xs, rfl, q, r⟩ := rx.lst
  have z := ao6 e r
  subst z
  exact ⟨p, bs, rfl, q.toK, h _ H (Same.refl _) (.atm (.bl _))⟩
 ·exact h.elim
noncomputable def ai6 (c : Ty) (fa : EF) : EF := λρ => (fa ρ).bind λp => (dr p.2 p.1).bind λa => .ok (eB (abS a c), p.2)
theorem adF {t : Tx} (hK : t.K = nlK K) (c : Ty) {ta : TE} {fa : EF} (ha : SE t ta fa) : SE t (tCB (auu K) (adh ta (adh (tC (.ty c.name)) alR))) (ai6 c fa) := λW ρ σ H Q e h => by
 refine ha W ρ σ H _ e (Rs.aag (Rs.aae h) λp h x H1 e1 s1 v1 => ?_)
 obtain ⟨a, k1, h⟩ := abx (Rs.aae h) (acQ _ _)
 have r := aeb e1 e.wn v1.1 k1
 rw [hK] at r
 exact ⟨x, a, c, rfl, r.rep.toK, h _ H1 e1 s1 (.low (.bl _))⟩
end
end L2
end
section
namespace L2
open PySem PySem.Spec PyProof.Rows
inductive Fl where
 | nx | rt (T : Tr) (fr : Bool) | bk | ct
noncomputable abbrev SF := En -> Rs (Fl × En)
noncomputable def Nxt (W : Addr -> Prop) (H : Hp) (W' : Addr -> Prop) (H' : Hp) : Prop := ∀ b o, ¬ W b -> H b = some o -> ¬ W' b /\ H' b = some o
theorem Nxt.refl (W : Addr -> Prop) (H : Hp) : Nxt W H W H := λ_ _ n h => ⟨n, h⟩
theorem Nxt.trans {W W1 W2 : Addr -> Prop} {H H1 H2 : Hp} (a : Nxt W H W1 H1) (b : Nxt W1 H1 W2 H2) : Nxt W H W2 H2 := λc o n h => by
 obtain ⟨n1, h1⟩ := a c o n h
 exact b c o n1 h1
theorem Stp.nxt {W : Addr -> Prop} {H H' : Hp} (s : Stp W H H') : Nxt W H W H' := λb o n h => ⟨n, s.keep b o n h⟩
theorem Nxt.same {W W' : Addr -> Prop} {H H' : Hp} (a : Nxt W H W' H') : Same (aa2 W H) (aa2 W' H') := λb o h => by
 obtain ⟨n, h⟩ := abm h
 obtain ⟨n', h'⟩ := a b o n h
 rw [aaS n']
 exact h'
noncomputable def VR (t : Tx) (H' : Hp) (v : V) (T : Tr) : Bool -> Prop
 | false => Rep t.K (aa2 t.Z H') v T
 | true => ∃ a xs ts, v = .ref a /\ T = .lst ts /\ t.H0 a = none /\ H' a = some (.lst xs) /\ aa3 t.K (off a (aa2 t.Z H')) xs ts
noncomputable def afu (t : Tx) (W : Addr -> Prop) (H : Hp) (D : Ends) (p : Fl × En) : Prop := match p.1 with
 | .nx => ∀ W' σ' H', EOk t W' p.2 σ' H' -> Nxt W H W' H' -> D.nx σ' H'
 | .rt T fr => ∀ v W' σ' H', EOk t W' p.2 σ' H' -> VR t H' v T fr -> D.rt v H'
 | .bk => ∀ W' σ' H', EOk t W' p.2 σ' H' -> Nxt W H W' H' -> D.bk σ' H'
 | .ct => ∀ W' σ' H', EOk t W' p.2 σ' H' -> Nxt W H W' H' -> D.ct σ' H'
noncomputable def SS (t : Tx) (ts : TS) (f : SF) : Prop := ∀ W ρ σ H D, EOk t W ρ σ H -> (f ρ).post t.EX (afu t W H D) -> ts D σ H
theorem afu.back {t : Tx} {W W' : Addr -> Prop} {H H' : Hp} {D : Ends} {p : Fl × En} (h : afu t W H D p) (n : Nxt W H W' H') : afu t W' H' D p := by
 obtain ⟨fl, ρ⟩ := p
 cases fl with
 | nx => exact λW2 σ2 H2 e m => h W2 σ2 H2 e (n.trans m)
 | rt T fr => exact h
 | bk => exact λW2 σ2 H2 e m => h W2 σ2 H2 e (n.trans m)
 | ct => exact λW2 σ2 H2 e m => h W2 σ2 H2 e (n.trans m)
section
variable {t : Tx}
noncomputable def acC : SF := λρ => .ok (.nx, ρ)
theorem aby : SS t arA acC := λW ρ σ H D e h => h W σ H e (Nxt.refl _ _)
noncomputable def aa6 (f g : SF) : SF := λρ => (f ρ).bind λp => match p.1 with
 | .nx => g p.2
 | fl => .ok (fl, p.2)
theorem aaF {ta tb : TS} {f g : SF} (h1 : SS t ta f) (h2 : SS t tb g) : SS t (awz ta tb) (aa6 f g) := λW ρ σ H D e h => by
 refine h1 W ρ σ H _ e (Rs.aag (Rs.aae h) λp h => ?_)
 obtain ⟨fl, ρ1⟩ := p
 cases fl with
 | nx => exact λW1 σ1 H1 e1 n1 => h2 W1 ρ1 σ1 H1 D e1 (Rs.aag h λq h => h.back n1)
 | rt T fr => exact h
 | bk => exact h
 | ct => exact h
theorem get_set {α : Type} {l : List α} {i j : Nat} {a b : α} (h : (l.set i a)[j]? = some b) : (j = i /\ b = a /\ i < l.length) \/ (j ≠ i /\ l[j]? = some b) := by
 by_cases e : i = j
 ·subst e
  rw [List.getElem?_set_self'] at h
  cases q : l[i]? with
  | none => rw [q] at h; cases h
  | some c =>
   rw [q] at h
   cases h
   exact .inl ⟨rfl, rfl, (List.getElem?_eq_some_iff.mp q).1⟩
 ·rw [List.getElem?_set_ne e] at h
  exact .inr ⟨Ne.symm e, h⟩
theorem aeg {α : Type} {l : List α} {i : Nat} {a : α} (h : i < l.length) : (l.set i a)[i]? = some a := by
 rw [List.getElem?_set_self' , List.getElem?_eq_getElem h]
 rfl
theorem EOk.ah8 {W : Addr -> Prop} {ρ : En} {σ : St} {H : Hp} {i : Nat} {v : V} {T : Tr} (e : EOk t W ρ σ H) (r : Rep t.K (aa2 W H) v T) : EOk t W (ρ.set i (.sh T)) (σ.set i (some v)) H := by
 have mu : ∀ j, Mu (ρ.set i (.sh T)) j -> j ≠ i /\ Mu ρ j := λj h => by
  obtain ⟨ts, h | h⟩ := h <;> rcases get_set h with ⟨rfl, z, _⟩ | ⟨ne, h⟩
  ·cases z
  ·exact ⟨ne, ts, .inl h⟩
  ·cases z
  ·exact ⟨ne, ts, .inr h⟩
 have dpo : ∀ j us, (ρ.set i (.sh T))[j]? = some (.dp us) -> j ≠ i /\ ρ[j]? = some (.dp us) := λj us h => by
  rcases get_set h with ⟨rfl, z, _⟩ | ⟨ne, h⟩
  ·cases z
  ·exact ⟨ne, h⟩
 obtain ⟨F, e⟩ := e
 refine ⟨F, by rw [List.length_set, List.length_set]; exact e.len, e.zw, e.z0, e.wl, e.f0, e.n0, λj u h => ?_, λj ts h => ?_, λj ts h => ?_, λj k a h1 h2 q1 q2 => ?_, e.pn, λj a m q => e.pd j a (mu j m).2 (by rw [List.getElem?_set_ne (Ne.symm (mu j m).1)] at q; exact q),
  λj us h => ?_, λj k us ws n h1 h2 => e.dd j k us ws n (dpo j us h1).2 (dpo k ws h2).2, λj k us c h1 m q => e.dm j k us c (dpo j us h1).2 (mu k m).2 (by rw [List.getElem?_set_ne (Ne.symm (mu k m).1)] at q; exact q), λj us h => e.db j us (dpo j us h).2, e.tab⟩
 ·rcases get_set h with ⟨rfl, z, l⟩ | ⟨ne, h⟩
  ·cases z
   exact ⟨v, aeg (by rw [<-e.len]; exact l), r⟩
  ·obtain ⟨w, h1, h2⟩ := e.sh j u h
   exact ⟨w, by rw [List.getElem?_set_ne (Ne.symm ne)]; exact h1, h2⟩
 ·rcases get_set h with ⟨rfl, z, l⟩ | ⟨ne, h⟩
  ·cases z
  ·obtain ⟨a, xs, h1, h2⟩ := e.ow j ts h
   exact ⟨a, xs, by rw [List.getElem?_set_ne (Ne.symm ne)]; exact h1, h2⟩
 ·rcases get_set h with ⟨rfl, z, l⟩ | ⟨ne, h⟩
  ·cases z
  ·obtain ⟨a, xs, h1, h2⟩ := e.rf j ts h
   exact ⟨a, xs, by rw [List.getElem?_set_ne (Ne.symm ne)]; exact h1, h2⟩
 ·obtain ⟨n1, m1⟩ := mu j h1
  obtain ⟨n2, m2⟩ := mu k h2
  rw [List.getElem?_set_ne (Ne.symm n1)] at q1
  rw [List.getElem?_set_ne (Ne.symm n2)] at q2
  exact e.dis j k a m1 m2 q1 q2
 ·obtain ⟨ne, h⟩ := dpo j us h
  obtain ⟨c, ys, h1, d⟩ := e.dp j us h
  exact ⟨c, ys, by rw [List.getElem?_set_ne (Ne.symm ne)]; exact h1, d⟩
theorem EOk.addr {W : Addr -> Prop} {ρ : En} {σ : St} {H : Hp} {i : Nat} {a : Addr} (e : EOk t W ρ σ H) (m : Mu ρ i) (q : σ[i]? = some (some (.ref a))) : W a := by
 obtain ⟨ts, h | h⟩ := m
 ·obtain ⟨b, xs, h1, h2, _⟩ := e.ow i ts h
  rw [q] at h1
  cases h1
  exact h2
 ·obtain ⟨b, xs, h1, h2, _⟩ := e.rf i ts h
  rw [q] at h1
  cases h1
  exact h2
theorem EOk.asx {W : Addr -> Prop} {ρ : En} {σ : St} {H : Hp} {i : Nat} {a : Addr} {xs : List V} {ts : List Tr} (e0 : EOk t W ρ σ H) (nw : ¬ W a) (e : EOh t W a ρ σ H) (h0 : t.H0 a = none) (hB : t.B a = none) (ha : H a = some (.lst xs)) (r : aa3 t.K (off a (aa2 W H)) xs ts) :
  EOk t (λb => W b \/ b = a) (ρ.set i (.ow ts)) (σ.set i (some (.ref a))) H := by
 have mu : ∀ j, Mu (ρ.set i (.ow ts)) j -> j = i \/ (j ≠ i /\ Mu ρ j) := λj h => by
  obtain ⟨ts, h | h⟩ := h <;> rcases get_set h with ⟨rfl, z, _⟩ | ⟨ne, h⟩
  ·exact .inl rfl
  ·exact .inr ⟨ne, ts, .inl h⟩
  ·exact .inl rfl
  ·exact .inr ⟨ne, ts, .inr h⟩
 have m : Same (off a (aa2 W H)) (aa2 (λb => W b \/ b = a) H) := λb o q => by
  obtain ⟨ne, q⟩ := adi q
  obtain ⟨n, q⟩ := abm q
  rw [aaS]
  ·exact q
  ·rintro (z | z)
   ·exact n z
   ·exact ne z
 have dpo : ∀ j us, (ρ.set i (.ow ts))[j]? = some (.dp us) -> j ≠ i /\ ρ[j]? = some (.dp us) := λj us h => by
  rcases get_set h with ⟨rfl, z, _⟩ | ⟨ne, h⟩
  ·cases z
  ·exact ⟨ne, h⟩
 obtain ⟨F, e, na⟩ := e
 refine ⟨F, by rw [List.length_set, List.length_set]; exact e.len, e.zw, e.z0, e.wl, e.f0, e.n0, λj u h => ?_, λj us h => ?_, λj us h => ?_, λj k c h1 h2 q1 q2 => ?_, e.pn, λj c m q => ?_,
  λj us h => ?_, λj k us ws n h1 h2 => e.dd j k us ws n (dpo j us h1).2 (dpo k ws h2).2, λj k us c h1 m q => ?_, λj us h => e.db j us (dpo j us h).2, e.tab⟩
 ·rcases get_set h with ⟨rfl, z, l⟩ | ⟨ne, h⟩
  ·cases z
  ·obtain ⟨w, h1, h2⟩ := e.sh j u h
   exact ⟨w, by rw [List.getElem?_set_ne (Ne.symm ne)]; exact h1, h2⟩
 ·rcases get_set h with ⟨rfl, z, l⟩ | ⟨ne, h⟩
  ·cases z
   exact ⟨a, xs, aeg (by rw [<-e.len]; exact l), .inr rfl, h0, ha, r.mono m⟩
  ·obtain ⟨c, ys, h1, h2⟩ := e.ow j us h
   exact ⟨c, ys, by rw [List.getElem?_set_ne (Ne.symm ne)]; exact h1, h2⟩
 ·rcases get_set h with ⟨rfl, z, l⟩ | ⟨ne, h⟩
  ·cases z
  ·obtain ⟨c, ys, h1, h2⟩ := e.rf j us h
   exact ⟨c, ys, by rw [List.getElem?_set_ne (Ne.symm ne)]; exact h1, h2⟩
 ·have old : ∀ j, j ≠ i -> Mu ρ j -> (σ.set i (some (.ref a)))[j]? ≠ some (some (.ref a)) := λj ne m q => by
   rw [List.getElem?_set_ne (Ne.symm ne)] at q
   exact nw (e0.addr m q)
  have self : ∀ c, (σ.set i (some (V.ref a)))[i]? = some (some (.ref c)) -> c = a := λc q => by
   rcases get_set q with ⟨_, z, _⟩ | ⟨ne, _⟩
   ·cases z; rfl
   ·exact absurd rfl ne
  rcases mu j h1 with rfl | ⟨n1, m1⟩ <;> rcases mu k h2 with rfl | ⟨n2, m2⟩
  ·rfl
  ·have := self c q1
   subst this
   exact (old k n2 m2 q2).elim
  ·have := self c q2
   subst this
   exact (old j n1 m1 q1).elim
  ·rw [List.getElem?_set_ne (Ne.symm n1)] at q1
   rw [List.getElem?_set_ne (Ne.symm n2)] at q2
   exact e.dis j k c m1 m2 q1 q2
 ·rcases mu j m with rfl | ⟨n1, m1⟩
  ·rcases get_set q with ⟨_, z, _⟩ | ⟨ne, _⟩
   ·cases z; exact hB
   ·exact absurd rfl ne
  ·rw [List.getElem?_set_ne (Ne.symm n1)] at q
   exact e.pd j c m1 q
 ·obtain ⟨ne, h⟩ := dpo j us h
  obtain ⟨c, ys, h1, d⟩ := e.dp j us h
  exact ⟨c, ys, by rw [List.getElem?_set_ne (Ne.symm ne)]; exact h1, d⟩
 ·obtain ⟨nj, hj⟩ := dpo j us h1
  rcases mu k m with rfl | ⟨n2, m2⟩
  ·rcases get_set q with ⟨_, z, _⟩ | ⟨nk, _⟩
   ·cases z
    exact na j us hj
   ·exact absurd rfl nk
  ·rw [List.getElem?_set_ne (Ne.symm n2)] at q
   exact e.dm j k us c hj m2 q
theorem EOk.noB {W : Addr -> Prop} {ρ : En} {σ : St} {H : Hp} {a : Addr} (e : EOk t W ρ σ H) (n : H a = none) : t.B a = none := by
 cases q : t.B a with
 | none => rfl
 | some o => rw [e.pn a o q] at n; cases n
noncomputable abbrev GF := Tr -> En -> Rs En
noncomputable def SG (t : Tx) (g : TG) (f : GF) (js : List Nat) : Prop := ∀ W ρ σ H v T Q, EOk t W ρ σ H -> Rep t.K (aa2 W H) v T -> (f T ρ).post (λ_ => False) (λρ' => ∀ σ', EOk t W ρ' σ' H -> (∀ k, k ∉ js -> σ'[k]? = σ[k]?) -> Q σ' H) -> g v σ H Q
noncomputable def gN (i : Nat) : GF := λT ρ => .ok (ρ.set i (.sh T))
theorem aaA (i : Nat) : SG t (ac3 i) (gN i) [i] := λW ρ σ H v T Q e r h => h _ (e.ah8 r) λk n => List.getElem?_set_ne (λz => n (by rw [z]; exact List.mem_singleton.mpr rfl))
noncomputable abbrev GFs := List Tr -> En -> Rs En
noncomputable def SGs (t : Tx) (g : TGs) (f : GFs) (js : List Nat) : Prop := ∀ W ρ σ H vs Ts Q, EOk t W ρ σ H -> aa3 t.K (aa2 W H) vs Ts -> (f Ts ρ).post (λ_ => False) (λρ' => ∀ σ', EOk t W ρ' σ' H -> (∀ k, k ∉ js -> σ'[k]? = σ[k]?) -> Q σ' H) -> g vs σ H Q
noncomputable def aeh : GFs := λTs ρ => match Ts with
 | [] => .ok ρ
 | _ => .bad
noncomputable def abL (f : GF) (g : GFs) : GFs := λTs ρ => match Ts with
 | T :: r => (f T ρ).bind λρ' => g r ρ'
 | [] => .bad
theorem ahb : SGs t auV aeh [] := λW ρ σ H vs Ts Q e r h => by
 cases r with
 | nil => exact ⟨rfl, h σ e λ_ _ => rfl⟩
 | cons _ _ => exact h.elim
theorem acY {g : TG} {u : TGs} {f : GF} {fs : GFs} {js ks : List Nat} (h1 : SG t g f js) (h2 : SGs t u fs ks) : SGs t (anw g u) (abL f fs) (js ++ ks) := λW ρ σ H vs Ts Q e r h => by
 cases r with
 | nil => exact h.elim
 | @cons x T xs Ts r1 r2 =>
  refine ⟨x, xs, rfl, h1 W ρ σ H x T _ e r1 (Rs.aag (Rs.aae h) λρ' h σ' e' n1 => ?_)⟩
  refine h2 W ρ' σ' H xs Ts _ e' r2 (Rs.aag h λρ2 h σ2 e2 n2 => h σ2 e2 λk n => ?_)
  rw [List.mem_append, not_or] at n
  rw [n2 k n.2, n1 k n.1]
noncomputable def gT (n : Nat) (f : GFs) : GF := λT ρ => match T with
 | .tup Ts => if Ts.length = n then f Ts ρ else .bad
 | _ => .bad
theorem aki {K : PySem.W.Frag} (hK : t.K = nlK K) {n : Nat} {u : TGs} {fs : GFs} {js : List Nat} (h2 : SGs t u fs js) : SG t (auW K n u) (gT n fs) js := λW ρ σ H v T Q e r h => by
 cases T <;> try exact h.elim
 rename_i Ts
 dsimp only [gT] at h
 split at h
 ·rename_i c
  cases r with
  | @tup a xs _ q r =>
   have q' := (ab4 W H).arb q
   rw [hK] at q'
   exact ⟨a, xs, rfl, q'.toK, by rw [r.length]; exact c, h2 W ρ σ H xs Ts Q e r h⟩
 ·exact h.elim
noncomputable def abM (f : EF) (g : GF) : SF := λρ => (f ρ).bind λp => match p.1 with
 | .v T _ => (g T p.2).bind λρ' => .ok (.nx, ρ')
 | .s _ => .bad
theorem aa4 {te : TE} {g : TG} {f : EF} {gf : GF} {js : List Nat} (h1 : SE t te f) (h2 : SG t g gf js) (ng : ∀ T ρ c, gf T ρ ≠ .ex c) : SS t (ano te g) (abM f gf) := λW ρ σ H D e h => by
 refine h1 W ρ σ H _ e (Rs.aag (Rs.aae h) λp h v H1 e1 s1 v1 => ?_)
 obtain ⟨r, ρ1⟩ := p
 cases r with
 | s i => exact h.elim
 | v T fr => exact h2 W ρ1 σ H1 v T _ e1 (v1.1.rep e.wn) (Rs.aag (aiV (Rs.aae h) (ng T ρ1)) λρ' h σ' e' _ => h W σ' H1 e' s1.nxt)
noncomputable def auA (i : Nat) (f : EF) : SF := λρ => (f ρ).bind λp => match p.1 with
 | .v (.lst ts) true => .ok (.nx, p.2.set i (.ow ts))
 | _ => .bad
theorem asy {te : TE} {f : EF} (i : Nat) (h1 : SE t te f) : SS t (ano te (ac3 i)) (auA i f) := λW ρ σ H D e h => by
 refine h1 W ρ σ H _ e (Rs.aag (Rs.aae h) λp h v H1 e1 s1 v1 => ?_)
 obtain ⟨r, ρ1⟩ := p
 dsimp only at h
 split at h
 ·rename_i ts
  obtain ⟨⟨a, xs, us, rfl, z, n, q, rr⟩, he⟩ := v1
  cases z
  have nw : ¬ W a := λw => e.wn a w n
  refine h _ _ H1 (e1.asx nw (he _ a rfl rfl) (e.n0 a n) (e.noB n) q rr) λb o nb hb => ⟨?_, s1.keep b o nb hb⟩
  rintro (z | rfl)
  ·exact nb z
  ·rw [n] at hb; cases hb
 ·exact h.elim
noncomputable def anV (f : EF) : SF := λρ => (f ρ).bind λp => .ok (.nx, p.2)
theorem amf {te : TE} {f : EF} (h1 : SE t te f) : SS t (anv te) (anV f) := λW ρ σ H D e h =>
 h1 W ρ σ H _ e (Rs.aag (Rs.aae h) λp h v H1 e1 s1 v1 => h W σ H1 e1 s1.nxt)
noncomputable def abU (f : EF) : SF := λρ => (f ρ).bind λp => match p.1 with
 | .v T fr => .ok (.rt T fr, p.2)
 | .s i => match p.2[i]? with
  | some (.ow ts) => .ok (.rt (.lst ts) true, p.2)
  | _ => .bad
theorem akj {W : Addr -> Prop} {ρ : En} {σ : St} {H : Hp} (e : EOk t W ρ σ H) : Same (aa2 W H) (aa2 t.Z H) := acd (λb _ _ z => e.zw b z) λ_ _ _ h => h
theorem aaU {te : TE} {f : EF} (h1 : SE t te f) : SS t (awA te) (abU f) := λW ρ σ H D e h => by
 refine h1 W ρ σ H _ e (Rs.aag (Rs.aae h) λp h v H1 e1 s1 v1 => ?_)
 obtain ⟨r, ρ1⟩ := p
 cases r with
 | v T fr =>
  refine h v W σ H1 e1 ?_
  cases fr with
  | false => exact Rep.mono (akj e1) v1.1
  | true =>
   obtain ⟨a, xs, us, rfl, z, n, q, rr⟩ := v1.1
   refine ⟨a, xs, us, rfl, z, e.n0 a n, q, rr.mono λb o q => ?_⟩
   obtain ⟨ne, q⟩ := adi q
   rw [off_ne ne]
   exact akj e1 b o q
 | s i =>
  dsimp only at h
  split at h
  ·rename_i ts q
   obtain ⟨a, xs, h1, h2, h3, h4, h5⟩ := e1.ow i ts q
   have ev : σ[i]? = some (some v) := v1.1
   rw [ev] at h1
   cases h1
   refine h _ W σ H1 e1 ⟨a, xs, ts, rfl, rfl, h3, h4, h5.mono λb o q => ?_⟩
   have ne : b ≠ a := λz => by subst z; rw [ag9 h2] at q; cases q
   rw [off_ne ne]
   exact akj e1 b o q
  ·exact h.elim
noncomputable def sIf (c : BF) (f g : SF) : SF := λρ => (c ρ).bind λp => if p.1 = true then f p.2 else g p.2
theorem acj {tc : TT} {ta tb : TS} {c : BF} {f g : SF} (hc : ST t tc c) (ha : SS t ta f) (hb : SS t tb g) : SS t (awB tc ta tb) (sIf c f g) := λW ρ σ H D e h => by
 refine hc W ρ σ H _ e (Rs.aag (Rs.aae h) λp h H1 e1 s1 => ?_)
 split at h
 ·rename_i d
  refine if_pos d ▸ ha W p.2 σ H1 D e1 (Rs.aag h λq h => h.back s1.nxt)
 ·rename_i d
  refine if_neg d ▸ hb W p.2 σ H1 D e1 (Rs.aag h λq h => h.back s1.nxt)
noncomputable def frz (i : Nat) (ρ : En) : En := match ρ[i]? with
 | some (.ow ts) => ρ.set i (.sh (.lst ts))
 | _ => ρ
end
end L2
end
section
namespace L2
open PySem PySem.Spec PyProof.Rows
section
variable {t : Tx}
theorem EOk.frz {W : Addr -> Prop} {ρ : En} {σ : St} {H : Hp} (e : EOk t W ρ σ H) (i : Nat) : ∃ W', EOk t W' (L2.frz i ρ) σ H /\ Nxt W H W' H := by
 unfold L2.frz
 split
 ·rename_i ts q
  obtain ⟨a, xs, h1, h2, h3, h4, h5⟩ := e.ow i ts q
  have m : Same (aa2 W H) (aa2 (λb => W b /\ b ≠ a) H) := acd (λ_ _ _ z => z.1) λ_ _ _ h => h
  have mi : Mu ρ i := ⟨ts, .inl q⟩
  have mu : ∀ j, Mu (ρ.set i (.sh (.lst ts))) j -> j ≠ i /\ Mu ρ j := λj h => by
   obtain ⟨us, h | h⟩ := h <;> rcases get_set h with ⟨rfl, z, _⟩ | ⟨ne, h⟩
   ·cases z
   ·exact ⟨ne, us, .inl h⟩
   ·cases z
   ·exact ⟨ne, us, .inr h⟩
  have nea : ∀ j c, j ≠ i -> Mu ρ j -> σ[j]? = some (some (.ref c)) -> c ≠ a := λj c ne mj qj z => by
   subst z
   exact ne (e.dis j i c mj mi qj h1)
  have dpo : ∀ (j : Nat) (us : List Tr), (ρ.set i (.sh (.lst ts)))[j]? = some (Sl.dp us) -> ρ[j]? = some (Sl.dp us) := λj us h => by
   rcases get_set h with ⟨rfl, z, _⟩ | ⟨ne, h⟩
   ·cases z
   ·exact h
  obtain ⟨F, e⟩ := e
  refine ⟨λb => W b /\ b ≠ a, ⟨F, by rw [List.length_set]; exact e.len, λb z => ⟨e.zw b z, λy => ?_⟩, e.z0, λb w => e.wl b w.1, e.f0, e.n0, λj u h => ?_, λj us h => ?_, λj us h => ?_, λj k c m1 m2 q1 q2 => e.dis j k c (mu j m1).2 (mu k m2).2 q1 q2, e.pn, λj c m q => e.pd j c (mu j m).2 q, λj us h => ?_, λj k us ws n h1 h2 => e.dd j k us ws n (dpo j us h1) (dpo k ws h2), λj k us c h1 m q => e.dm j k us c (dpo j us h1) (mu k m).2 q, λj us h => e.db j us (dpo j us h), e.tab.cut (D := λb => b = a) (λb z => ⟨xs, by rw [z]; exact h4⟩)⟩, λb o n h => ⟨λz => n z.1, h⟩⟩
  ·subst y
   exact e.z0 b z h3
  ·rcases get_set h with ⟨rfl, z, l⟩ | ⟨ne, h⟩
   ·cases z
    refine ⟨.ref a, h1, .lst (SqL.of ?_) (h5.mono m)⟩
    rw [aaS λz => z.2 rfl]
    exact h4
   ·obtain ⟨w, q1, q2⟩ := e.sh j u h
    exact ⟨w, q1, q2.mono m⟩
  ·rcases get_set h with ⟨rfl, z, l⟩ | ⟨ne, h⟩
   ·cases z
   ·obtain ⟨c, ys, q1, q2, q3, q4, q5⟩ := e.ow j us h
    exact ⟨c, ys, q1, ⟨q2, nea j c ne ⟨us, .inl h⟩ q1⟩, q3, q4, q5.mono m⟩
  ·rcases get_set h with ⟨rfl, z, l⟩ | ⟨ne, h⟩
   ·cases z
   ·obtain ⟨c, ys, q1, q2, q3, q4, q5⟩ := e.rf j us h
    exact ⟨c, ys, q1, ⟨q2, nea j c ne ⟨us, .inr h⟩ q1⟩, q3, q4, q5.mono m⟩
  ·obtain ⟨c, ys, q1, d⟩ := e.dp j us (dpo j us h)
   exact ⟨c, ys, q1, d.move rfl rfl m (λb hb => ⟨by obtain ⟨_, _, _, ww, _⟩ := d; exact (ww b hb).1, λz => by subst z; exact e.dm j i us b (dpo j us h) mi h1 hb⟩) λ_ _ _ q => q⟩
 ·exact ⟨W, e, Nxt.refl _ _⟩
noncomputable def auB (i : Nat) (f : SF) : SF := λρ => f (frz i ρ)
theorem asz {ts : TS} {f : SF} (i : Nat) (h : SS t ts f) : SS t ts (auB i f) := λW ρ σ H D e q => by
 obtain ⟨W', e', n⟩ := e.frz i
 exact h W' _ σ H D e' (Rs.aag q λp q => q.back n)
noncomputable def af8 (c : BF) (b : SF) : Nat -> SF
 | 0 => λ_ => .bad
 | n + 1 => λρ => (c ρ).bind λp => if p.1 = true then (b p.2).bind λq => (match q.1 with
  | .nx => af8 c b n q.2
  | .ct => af8 c b n q.2
  | .bk => .ok (.nx, q.2)
  | .rt T fr => .ok (.rt T fr, q.2)) else .ok (.nx, p.2)
noncomputable def agP (fu : En -> Nat) (c : BF) (b : SF) : SF := λρ => af8 c b (fu ρ) ρ
theorem akk {tc : TT} {tb : TS} {c : BF} {b : SF} (fu : En -> Nat) (hc : ST t tc c) (hb : SS t tb b) : SS t (aoP tc tb) (agP fu c b) := λW ρ σ H D e h => by
 refine ⟨λm σ' H' => ∃ ρ' W', EOk t W' ρ' σ' H' /\ (af8 c b m ρ').post t.EX (afu t W' H' D), ⟨fu ρ, ρ, W, e, h⟩, ?_⟩
 rintro m σ1 H1 ⟨ρ1, W1, e1, h1⟩
 cases m with
 | zero => exact h1.elim
 | succ n =>
  refine hc W1 ρ1 σ1 H1 _ e1 (Rs.aag (Rs.aae h1) λp h H2 e2 s2 => ?_)
  split at h
  ·rename_i d
   rw [if_pos d]
   refine ⟨λσ' H' => ∃ ρ' W', EOk t W' ρ' σ' H' /\ (af8 c b n ρ').post t.EX (afu t W' H' D), λσ' H' q => ⟨n, Nat.lt_succ_self n, q⟩, ?_⟩
   refine hb W1 p.2 σ1 H2 _ e2 (Rs.aag (Rs.aae h) λq h => ?_)
   obtain ⟨fl, ρ3⟩ := q
   cases fl with
   | nx => exact λW3 σ3 H3 e3 n3 => ⟨ρ3, W3, e3, Rs.aag h λr h => h.back (s2.nxt.trans n3)⟩
   | ct => exact λW3 σ3 H3 e3 n3 => ⟨ρ3, W3, e3, Rs.aag h λr h => h.back (s2.nxt.trans n3)⟩
   | bk => exact λW3 σ3 H3 e3 n3 => h W3 σ3 H3 e3 (s2.nxt.trans n3)
   | rt T fr => exact h
  ·rename_i d
   rw [if_neg d]
   exact h W1 σ1 H2 e2 s2.nxt
noncomputable def asA (K : PySem.W.Frag) (W : Addr -> Prop) (H : Hp) (J : It) (us : List Tr) : Prop := ∀ W' H', Same (aa2 W H) (aa2 W' H') -> (∀ b, W' b -> Lt H' b) -> ∀ i, (i = us.length -> J.stop i H') /\ ∀ u, us[i]? = some u -> J.go i H' /\ ∀ x H'', J.yld i H' x H'' -> Same H' H'' /\ Rep K (aa2 W' H'') x u
noncomputable abbrev IF := En -> Rs (List Tr × En)
noncomputable def SI (t : Tx) (wi : TI) (f : IF) : Prop := ∀ W ρ σ H R, EOk t W ρ σ H -> (f ρ).post t.EX (λp => ∀ J H', EOk t W p.2 σ H' -> Stp W H H' -> asA t.K W H' J p.1 -> R J H') -> wi σ H R
noncomputable def acD (g : GF) (b : SF) : List Tr -> SF
 | [] => λρ => .ok (.nx, ρ)
 | u :: us => λρ => (g u ρ).bind λρ1 => (b ρ1).bind λq => (match q.1 with
  | .nx => acD g b us q.2
  | .ct => acD g b us q.2
  | .bk => .ok (.nx, q.2)
  | .rt T fr => .ok (.rt T fr, q.2))
noncomputable def agA (fi : IF) (g : GF) (b : SF) : SF := λρ => (fi ρ).bind λp => acD g b p.1 p.2
theorem ah9 {wi : TI} {g : TG} {tb : TS} {fi : IF} {gf : GF} {b : SF} {js : List Nat} (hi : SI t wi fi) (hg : SG t g gf js) (ng : ∀ T ρ c, gf T ρ ≠ .ex c) (hb : SS t tb b) : SS t (awF wi g tb) (agA fi gf b) := λW ρ σ H D e h => by
 refine hi W ρ σ H _ e (Rs.aag (Rs.aae h) λp h J H1 e1 s1 it => ?_)
 obtain ⟨us, ρ1⟩ := p
 dsimp only at h it e1
 refine ⟨λi m σ' H' => m = us.length - i /\ i <= us.length /\ ∃ ρ' W', EOk t W' ρ' σ' H' /\ Nxt W H1 W' H' /\ (acD gf b (us.drop i) ρ').post t.EX (afu t W' H' D), ⟨us.length, by simp, Nat.zero_le _, ρ1, W, e1, Nxt.refl _ _, by rw [List.drop_zero]; exact Rs.aag h λr h => h.back s1.nxt⟩, ?_⟩
 rintro i m σ2 H2 ⟨rfl, hi, ρ2, W2, e2, n2, h2⟩
 have q := it W2 H2 n2.same e2.wl i
 by_cases hlt : i < us.length
 ·rw [List.drop_eq_getElem_cons hlt] at h2
  obtain ⟨go, y⟩ := q.2 us[i] (by simp [hlt])
  refine .inr ⟨go, λσ' H' => ∃ ρ' W', EOk t W' ρ' σ' H' /\ Nxt W H1 W' H' /\ (acD gf b (us.drop (i + 1)) ρ').post t.EX (afu t W' H' D), λσ' H' z => ⟨us.length - (i + 1), by omega, rfl, hlt, z⟩, λx H3 yl => ?_⟩
  obtain ⟨s3, r3⟩ := y x H3 yl
  have e3 := e2.grow s3
  have n3 : Nxt W H1 W2 H3 := n2.trans (Stp.of s3).nxt
  refine hg W2 ρ2 σ2 H3 x us[i] _ e3 r3 (Rs.aag (aiV (Rs.aae h2) (ng _ _)) λρ4 h σ4 e4 _ => ?_)
  refine hb W2 ρ4 σ4 H3 _ e4 (Rs.aag (Rs.aae h) λr h => ?_)
  obtain ⟨fl, ρ5⟩ := r
  cases fl with
  | nx => exact λW5 σ5 H5 e5 n5 => ⟨ρ5, W5, e5, n3.trans n5, Rs.aag h λr h => h.back ((Stp.of s3).nxt.trans n5)⟩
  | ct => exact λW5 σ5 H5 e5 n5 => ⟨ρ5, W5, e5, n3.trans n5, Rs.aag h λr h => h.back ((Stp.of s3).nxt.trans n5)⟩
  | bk => exact λW5 σ5 H5 e5 n5 => h W5 σ5 H5 e5 ((Stp.of s3).nxt.trans n5)
  | rt T fr => exact h
 ·have z : i = us.length := by omega
  subst z
  rw [List.drop_length] at h2
  exact .inl ⟨q.1 rfl, h2 W2 σ2 H2 e2 (Nxt.refl _ _)⟩
noncomputable def iSq (K : PySem.W.Frag) (tl : TE) : TI := λσ H R => arB K tl σ H R \/ awE K tl σ H R
theorem adG {X : Cx} {tg l : Expr} {tl : TE} (hl : PE X l tl) : PI X tg l (iSq X.K tl) := λpins s σ H R I h => by
 rcases h with h | h
 ·exact apA hl pins s σ H R I h
 ·exact arC hl pins s σ H R I h
noncomputable def abk : Rv -> Rs (List Tr × Bool)
 | .v (.lst ts) _ => .ok (ts, true)
 | .v (.tup ts) _ => .ok (ts, false)
 | _ => .bad
noncomputable def fSq (f : EF) : IF := λρ => (f ρ).bind λp => (abk p.1).bind λz => .ok (z.1, p.2)
theorem aqa {K : PySem.W.Frag} {W : Addr -> Prop} {H : Hp} {a : Addr} {xs : List V} {us : List Tr} (q : SqL (nlK K) (aa2 W H) a xs) (r : aa3 (nlK K) (aa2 W H) xs us) : asA (nlK K) W H (Itl K a) us := λW' H' m hw i => by
 have q' : SqL K H' a xs := ((ab4 W' H').seq (m.seq q)).toK
 refine ⟨λz => ⟨xs, q', by rw [r.length]; omega⟩, λu hu => ?_⟩
 obtain ⟨x, hx, rx⟩ := r.ao0 hu
 refine ⟨⟨xs, x, q', hx⟩, λy H'' yl => ?_⟩
 obtain ⟨rfl, z⟩ := yl
 have := z xs q'
 rw [hx] at this
 cases this
 exact ⟨Same.refl _, rx.mono m⟩
theorem asC {K : PySem.W.Frag} {W : Addr -> Prop} {H : Hp} {a : Addr} {xs : List V} {us : List Tr} (q : SqT (nlK K) (aa2 W H) a xs) (r : aa3 (nlK K) (aa2 W H) xs us) : asA (nlK K) W H (Itt K a) us := λW' H' m hw i => by
 have q' : SqT K H' a xs := ((ab4 W' H').arb (m.arb q)).toK
 refine ⟨λz => ⟨xs, q', by rw [r.length]; omega⟩, λu hu => ?_⟩
 obtain ⟨x, hx, rx⟩ := r.ao0 hu
 refine ⟨⟨xs, x, q', hx⟩, λy H'' yl => ?_⟩
 obtain ⟨rfl, z⟩ := yl
 have := z xs q'
 rw [hx] at this
 cases this
 exact ⟨Same.refl _, rx.mono m⟩
theorem adH {K : PySem.W.Frag} (hK : t.K = nlK K) {tl : TE} {f : EF} (h1 : SE t tl f) : SI t (iSq K tl) (fSq f) := λW ρ σ H R e h => by
 have h := Rs.aae h
 have key : ∀ b : Bool, (f ρ).post t.EX (λp => ∃ us, abk p.1 = .ok (us, b) /\ ∀ J H', EOk t W p.2 σ H' -> Stp W H H' -> asA t.K W H' J us -> R J H') -> iSq K tl σ H R := λb h => by
  cases b with
  | true =>
   refine .inl (h1 W ρ σ H _ e (Rs.aag h λp h v H1 e1 s1 v1 => ?_))
   obtain ⟨us, q, h⟩ := h
   obtain ⟨r, ρ1⟩ := p
   cases r with
   | s i => cases q
   | v T fr =>
    cases T <;> cases q
    have rr := v1.1.rep e.wn
    cases rr with
    | @lst a xs _ q r =>
     refine ⟨a, rfl, ⟨xs, ?_⟩, h _ H1 e1 s1 ?_⟩
     ·rw [hK] at q
      exact ((ab4 _ _).seq q).toK
     ·rw [hK] at q r ⊢
      exact aqa q r
  | false =>
   refine .inr (h1 W ρ σ H _ e (Rs.aag h λp h v H1 e1 s1 v1 => ?_))
   obtain ⟨us, q, h⟩ := h
   obtain ⟨r, ρ1⟩ := p
   cases r with
   | s i => cases q
   | v T fr =>
    cases T <;> cases q
    have rr := v1.1.rep e.wn
    cases rr with
    | @tup a xs _ q r =>
     refine ⟨a, rfl, ⟨xs, ?_⟩, h _ H1 e1 s1 ?_⟩
     ·rw [hK] at q
      exact ((ab4 _ _).arb q).toK
     ·rw [hK] at q r ⊢
      exact asC q r
 cases k : f ρ with
 | bad => rw [k] at h; exact h.elim
 | ex c =>
  refine key true ?_
  rw [k] at h ⊢
  exact h
 | ok p =>
  rw [k] at h
  have h : ((abk p.1).bind _).post _ _ := h
  cases k2 : abk p.1 with
  | bad => rw [k2] at h; exact h.elim
  | ex c =>
   exfalso
   revert k2
   unfold abk
   split <;> (intro z; cases z)
  | ok z =>
   rw [k2] at h
   refine key z.2 ?_
   rw [k]
   exact ⟨z.1, k2, h⟩
noncomputable def upTo (lo : Int) : Nat -> List Tr
 | 0 => []
 | n + 1 => .int lo :: upTo (lo + 1) n
theorem abX (lo : Int) : ∀ n, (upTo lo n).length = n := λn => by
 induction n generalizing lo with
 | zero => rfl
 | succ n ih => rw [upTo, List.length_cons, ih]
theorem anW {lo : Int} {n i : Nat} {u : Tr} (h : (upTo lo n)[i]? = some u) : i < n /\ u = .int (lo + i) := by
 induction n generalizing lo i with
 | zero => simp [upTo] at h
 | succ n ih =>
  rw [upTo] at h
  cases i with
  | zero =>
   simp at h
   subst h
   exact ⟨Nat.zero_lt_succ _, by simp⟩
  | succ i =>
   obtain ⟨h1, h2⟩ := ih (lo := lo + 1) (i := i) (by simpa using h)
   refine ⟨Nat.succ_lt_succ h1, h2.trans ?_⟩
   congr 1
   omega
theorem anY {K : PySem.W.Frag} {W : Addr -> Prop} {H : Hp} (lo : Int) (n : Nat) : asA K W H (Itr lo n) (upTo lo n) := λW' H' m hw i => by
 refine ⟨λz => ?_, λu hu => ?_⟩
 ·rw [abX] at z
  exact Nat.le_of_eq z.symm
 ·obtain ⟨h1, rfl⟩ := anW hu
  refine ⟨h1, λx H'' yl => ?_⟩
  obtain ⟨rfl, rfl⟩ := yl
  exact ⟨Same.refl _, .int _⟩
noncomputable def okR (i : Int) : Bool := decide (-1000000 <= i) && decide (i <= 1000000)
noncomputable def agE (fa : AF) : IF := λρ => (fa ρ).bind λp => (drs p.2 p.1).bind λas => match as with
 | [.int j] => if okR j = true then .ok (upTo 0 j.toNat, p.2) else .bad
 | _ => .bad
theorem aia {ta : TA} {fa : AF} (ha : SA t ta fa) : SI t (apB ta) (agE fa) := λW ρ σ H R e h => by
 refine ha W ρ σ H _ e (Rs.aag (Rs.aae h) λp h vs H1 e1 s1 v1 => ?_)
 obtain ⟨as, k1, h⟩ := abx (Rs.aae h) (ae2 _ _)
 have r := ah5 e1 e.wn v1 k1
 split at h
 ·rename_i j
  split at h
  ·rename_i c
   unfold okR at c
   rw [Bool.and_eq_true] at c
   have c1 := of_decide_eq_true c.1
   have c2 := of_decide_eq_true c.2
   cases r with
   | cons h1 r1 =>
    cases r1
    rw [h1.int]
    exact ⟨j, rfl, by omega, by omega, h _ H1 e1 s1 (anY 0 _)⟩
  ·exact h.elim
 ·exact h.elim
noncomputable def avh (fa : AF) : IF := λρ => (fa ρ).bind λp => (drs p.2 p.1).bind λas => match as with
 | [.int i, .int j] => if okR i = true /\ okR j = true then .ok (upTo i (j - i).toNat, p.2) else .bad
 | _ => .bad
noncomputable def con (ρ : En) (i : Nat) : Rs (List Tr) := match ρ[i]? with
 | some (.ow ts) => .ok ts
 | some (.rf ts) => .ok ts
 | _ => .bad
theorem ai7 (ρ : En) (i : Nat) (c : Str) : con ρ i ≠ .ex c := by
 unfold con
 split <;> (intro z; cases z)
noncomputable def aaZ (i : Nat) (us : List Tr) (ρ : En) : En := match ρ[i]? with
 | some (.ow _) => ρ.set i (.ow us)
 | some (.rf _) => ρ.set i (.rf us)
 | _ => ρ
theorem EOk.con {W : Addr -> Prop} {ρ : En} {σ : St} {H : Hp} {i : Nat} {ts : List Tr} (e : EOk t W ρ σ H) (q : con ρ i = .ok ts) : Mu ρ i /\ ∃ a xs, σ[i]? = some (some (.ref a)) /\ W a /\ H a = some (.lst xs) /\ aa3 t.K (aa2 W H) xs ts /\ (∀ o, t.H0 a = some o -> t.R a) := by
 unfold L2.con at q
 split at q
 ·rename_i us h
  cases q
  obtain ⟨a, xs, h1, h2, h3, h4, h5⟩ := e.ow i ts h
  exact ⟨⟨ts, .inl h⟩, a, xs, h1, h2, h4, h5, λo z => by rw [h3] at z; cases z⟩
 ·rename_i us h
  cases q
  obtain ⟨a, xs, h1, h2, h3, h4, h5⟩ := e.rf i ts h
  exact ⟨⟨ts, .inr h⟩, a, xs, h1, h2, h4, h5, λo z => h3⟩
 ·cases q
theorem ac6 {ρ : En} {i j : Nat} {us : List Tr} (h : Mu (aaZ i us ρ) j) : Mu ρ j := by
 unfold aaZ at h
 split at h
 ·rename_i ws q
  obtain ⟨ts, h | h⟩ := h <;> rcases get_set h with ⟨rfl, z, _⟩ | ⟨ne, h⟩
  ·exact ⟨_, .inl q⟩
  ·exact ⟨_, .inl h⟩
  ·exact ⟨_, .inl q⟩
  ·exact ⟨_, .inr h⟩
 ·rename_i ws q
  obtain ⟨ts, h | h⟩ := h <;> rcases get_set h with ⟨rfl, z, _⟩ | ⟨ne, h⟩
  ·exact ⟨_, .inr q⟩
  ·exact ⟨_, .inl h⟩
  ·exact ⟨_, .inr q⟩
  ·exact ⟨_, .inr h⟩
 ·exact h
theorem ahc {ρ : En} {i : Nat} {us : List Tr} : (aaZ i us ρ).length = ρ.length := by
 unfold aaZ
 split
 ·rw [List.length_set]
 ·rw [List.length_set]
 ·rfl
theorem acz {ρ : En} {i j : Nat} {us : List Tr} {s : Sl} (h : (aaZ i us ρ)[j]? = some s) : (j ≠ i /\ ρ[j]? = some s) \/ (j = i /\ ((∃ ts, ρ[i]? = some (.ow ts) /\ s = .ow us) \/ (∃ ts, ρ[i]? = some (.rf ts) /\ s = .rf us) \/ (¬ Mu ρ i /\ ρ[i]? = some s))) := by
 unfold aaZ at h
 split at h
 ·rename_i ws q
  rcases get_set h with ⟨rfl, z, _⟩ | ⟨ne, h⟩
  ·exact .inr ⟨rfl, .inl ⟨ws, q, z⟩⟩
  ·exact .inl ⟨ne, h⟩
 ·rename_i ws q
  rcases get_set h with ⟨rfl, z, _⟩ | ⟨ne, h⟩
  ·exact .inr ⟨rfl, .inr (.inl ⟨ws, q, z⟩)⟩
  ·exact .inl ⟨ne, h⟩
 ·rename_i n1 n2
  by_cases e : j = i
  ·subst e
   refine .inr ⟨rfl, .inr (.inr ⟨?_, h⟩)⟩
   rintro ⟨ts, z | z⟩
   ·exact n1 ts z
   ·exact n2 ts z
  ·exact .inl ⟨e, h⟩
theorem adI {ρ : En} {i j : Nat} {us ws : List Tr} (h : (aaZ i us ρ)[j]? = some (.dp ws)) : ρ[j]? = some (.dp ws) := by
 rcases acz h with ⟨_, h⟩ | ⟨rfl, ⟨_, _, z⟩ | ⟨_, _, z⟩ | ⟨_, h⟩⟩
 ·exact h
 ·cases z
 ·cases z
 ·exact h
theorem DR.lst {K : PySem.W.Frag} {G H : Hp} : ∀ {xs : List V} {ts : List Tr} {bs : List Addr}, DR K G H xs ts bs -> ∀ b ∈ bs, ∃ ys, H b = some (.lst ys)
 | _, _, _, .nil, _, h => by cases h
 | _, _, _, .cl _ _ r, b, h => DR.lst r b h
 | _, _, _, .rw q _ r, b, h => by
  rcases List.mem_cons.mp h with rfl | h
  ·exact ⟨_, q⟩
  ·exact DR.lst r b h
theorem aoY.lst {t : Tx} {W : Addr -> Prop} {H : Hp} {a : Addr} {xs : List V} {ts : List Tr} {fp : List Addr} (d : aoY t W H a xs ts fp) : ∀ b ∈ fp, ∃ ys, H b = some (.lst ys) := λb hb => by
 obtain ⟨bs, e, _, _, ha, r⟩ := d
 rw [e] at hb
 rcases List.mem_cons.mp hb with rfl | hb
 ·exact ⟨_, ha⟩
 ·exact r.lst b hb
theorem aoY.nt {t : Tx} {K : PySem.W.Frag} {W : Addr -> Prop} {H : Hp} {a : Addr} {xs : List V} {ts : List Tr} {fp : List Addr} (d : aoY t W H a xs ts fp) (tb : TbS K H) {b : Addr} (z : Tb K b) (hb : b ∈ fp) : False := by
 obtain ⟨ys, e⟩ := d.lst b hb
 exact tb.ne z e rfl
theorem EOk.asD {W : Addr -> Prop} {ρ : En} {σ : St} {H : Hp} {i : Nat} {a : Addr} (e : EOk t W ρ σ H) (m : Mu ρ i) (q : σ[i]? = some (some (.ref a))) : ∃ xs, H a = some (.lst xs) := by
 obtain ⟨ts, h | h⟩ := m
 ·obtain ⟨b, xs, h1, _, _, h4, _⟩ := e.ow i ts h
  rw [q] at h1
  cases h1
  exact ⟨xs, h4⟩
 ·obtain ⟨b, xs, h1, _, _, h4, _⟩ := e.rf i ts h
  rw [q] at h1
  cases h1
  exact ⟨xs, h4⟩
theorem EOF.move {W W' : Addr -> Prop} {ρ : En} {σ : St} {H H' : Hp} {i : Nat} {a : Addr} {xs : List V} {us : List Tr} {F : Nat -> List Addr} (e : EOF t W ρ σ H F) (mi : Mu ρ i) (hi : σ[i]? = some (some (.ref a))) (m : Same (aa2 W H) (aa2 W' H')) (sub : ∀ b, W b -> W' b) (wl : ∀ b, W' b -> Lt H' b)
  (tb : TbS t.K H') (fr : ∀ b o, H b = some o -> b ≠ a -> ¬ Tb t.K b -> H' b = some o) (dom : ∀ b, H' b = none -> H b = none) (h0 : ∀ o, t.H0 a = some o -> t.R a) (ha : H' a = some (.lst xs)) (r : aa3 t.K (aa2 W' H') xs us) : EOF t W' (aaZ i us ρ) σ H' F := by
 have ne : ∀ j c, j ≠ i -> Mu ρ j -> σ[j]? = some (some (.ref c)) -> c ≠ a := λj c n mj q z => by
  subst z
  exact n (e.dis j i c mj mi q hi)
 have nt : ∀ {c : Addr} {ys : List V}, H c = some (.lst ys) -> ¬ Tb t.K c := λq z => e.tab.ok.ne z q rfl
 refine ⟨by rw [ahc]; exact e.len, λb z => sub b (e.zw b z), e.z0, wl, λb o h n => ?_, λb h => e.n0 b (dom b h), λj u h => ?_, λj ts h => ?_, λj ts h => ?_, λj k c h1 h2 => e.dis j k c (ac6 h1) (ac6 h2), λb o h => fr b o (e.pn b o h) (λz => by subst z; rw [e.pd i b mi hi] at h; cases h) (λz => by rw [e.tab.B b z] at h; cases h), λj c m q => e.pd j c (ac6 m) q, λj ws h => ?_, λj k ws zs n h1 h2 => e.dd j k ws zs n (adI h1) (adI h2), λj k ws c h1 m q => e.dm j k ws c (adI h1) (ac6 m) q, λj ws h => e.db j ws (adI h), ⟨tb, λb z => sub b (e.tab.w b z), e.tab.r, e.tab.B⟩⟩
 ·refine fr b o (e.f0 b o h n) (λz => ?_) λz => n (e.tab.r b z)
  subst z
  exact n (h0 o h)
 ·rcases acz h with ⟨n, h⟩ | ⟨rfl, ⟨ts, q, z⟩ | ⟨ts, q, z⟩ | ⟨nm, h⟩⟩
  ·obtain ⟨w, h1, h2⟩ := e.sh j u h
   exact ⟨w, h1, h2.mono m⟩
  ·cases z
  ·cases z
  ·exact (nm mi).elim
 ·rcases acz h with ⟨n, h⟩ | ⟨rfl, ⟨ts', q, z⟩ | ⟨ts', q, z⟩ | ⟨nm, h⟩⟩
  ·obtain ⟨c, ys, h1, h2, h3, h4, h5⟩ := e.ow j ts h
   exact ⟨c, ys, h1, sub c h2, h3, fr c _ h4 (ne j c n ⟨ts, .inl h⟩ h1) (nt h4), h5.mono m⟩
  ·cases z
   obtain ⟨c, ys, h1, h2, h3, h4, h5⟩ := e.ow j ts' q
   rw [hi] at h1
   cases h1
   exact ⟨a, xs, hi, sub a h2, h3, ha, r⟩
  ·cases z
  ·exact (nm mi).elim
 ·rcases acz h with ⟨n, h⟩ | ⟨rfl, ⟨ts', q, z⟩ | ⟨ts', q, z⟩ | ⟨nm, h⟩⟩
  ·obtain ⟨c, ys, h1, h2, h3, h4, h5⟩ := e.rf j ts h
   exact ⟨c, ys, h1, sub c h2, h3, fr c _ h4 (ne j c n ⟨ts, .inr h⟩ h1) (nt h4), h5.mono m⟩
  ·cases z
  ·cases z
   obtain ⟨c, ys, h1, h2, h3, h4, h5⟩ := e.rf j ts' q
   rw [hi] at h1
   cases h1
   exact ⟨a, xs, hi, sub a h2, h3, ha, r⟩
  ·exact (nm mi).elim
 ·obtain ⟨c, ys, h1, d⟩ := e.dp j ws (adI h)
  exact ⟨c, ys, h1, d.move rfl rfl m (λb hb => sub b (by obtain ⟨_, _, _, ww, _⟩ := d; exact (ww b hb).1)) λb o hb q => fr b o q (λz => by subst z; exact e.dm j i ws b (adI h) mi hi hb) λz => d.nt e.tab.ok z hb⟩
theorem EOk.move {W W' : Addr -> Prop} {ρ : En} {σ : St} {H H' : Hp} {i : Nat} {a : Addr} {xs : List V} {us : List Tr} (e : EOk t W ρ σ H) (mi : Mu ρ i) (hi : σ[i]? = some (some (.ref a))) (m : Same (aa2 W H) (aa2 W' H')) (sub : ∀ b, W b -> W' b) (wl : ∀ b, W' b -> Lt H' b)
  (tb : TbS t.K H') (fr : ∀ b o, H b = some o -> b ≠ a -> ¬ Tb t.K b -> H' b = some o) (dom : ∀ b, H' b = none -> H b = none) (h0 : ∀ o, t.H0 a = some o -> t.R a) (ha : H' a = some (.lst xs)) (r : aa3 t.K (aa2 W' H') xs us) : EOk t W' (aaZ i us ρ) σ H' := by
 obtain ⟨F, e⟩ := e
 exact ⟨F, e.move mi hi m sub wl tb fr dom h0 ha r⟩
theorem EOk.put {W : Addr -> Prop} {ρ : En} {σ : St} {H : Hp} {i : Nat} {a : Addr} {xs : List V} {us : List Tr} (e : EOk t W ρ σ H) (mi : Mu ρ i) (hi : σ[i]? = some (some (.ref a))) (h0 : ∀ o, t.H0 a = some o -> t.R a) (r : aa3 t.K (aa2 W H) xs us) : EOk t W (aaZ i us ρ) σ (upd H a (.lst xs)) /\ Stp W H (upd H a (.lst xs)) := by
 have w := e.addr mi hi
 obtain ⟨zs, hz⟩ := e.asD mi hi
 refine ⟨e.move mi hi (by rw [acg w]; exact Same.refl _) (λ_ h => h) (λb z => ?_) (e.tab.ok.upd hz) (λb o h n _ => by rw [aaw n]; exact h) (λb h => ?_) h0 aaK (by rw [acg w]; exact r), ⟨λb o n h => ?_, λb h => ?_⟩⟩
 ·by_cases q : b = a
  ·subst q; exact .inl ⟨xs, aaK⟩
  ·unfold Lt; rw [aaw q]; exact e.wl b z
 ·by_cases q : b = a
  ·subst q; rw [aaK] at h; cases h
  ·rw [aaw q] at h; exact h
 ·rw [aaw (λz => n (by rw [z]; exact w))]; exact h
 ·by_cases q : b = a
  ·subst q; rw [aaK] at h; cases h
  ·rw [aaw q] at h; exact h
noncomputable abbrev GM := List Tr -> List Tr -> Rs (List Tr × Tr)
noncomputable def MtT (r : V -> List V -> Hp -> VK -> Prop) (m : GM) : Prop := ∀ (K : PySem.W.Frag) (G : Hp) a xs ts vs as H Q ts' T, H a = some (.lst xs) -> aa3 K G xs ts -> aa3 K G vs as -> m ts as = .ok (ts', T) -> (∀ xs' v, aa3 K G xs' ts' -> Rep K G v T -> Q v (upd H a (.lst xs'))) -> r (.ref a) vs H Q
noncomputable def eMt (i : Nat) (m : GM) (fa : AF) : EF := λρ => (con ρ i).bind λ_ => (fa ρ).bind λp => (cls p.1).bind λas => (con p.2 i).bind λts => (m ts as).bind λz => .ok (.v z.2 false, aaZ i z.1 p.2)
noncomputable def axC (i : Nat) (m : GM) : EF := λρ => (con ρ i).bind λts => (m ts []).bind λz => .ok (.v z.2 false, aaZ i z.1 ρ)
noncomputable def ao7 : GM := λts as => match as with
 | [T] => if ts.length <= 100000 then .ok (ts ++ [T], .non) else .bad
 | _ => .bad
theorem asF : MtT alY ao7 := λK G a xs ts vs as H Q ts' T hx r ra q h => by
 unfold ao7 at q
 split at q
 ·rename_i U
  split at q
  ·rename_i c
   cases q
   cases ra with
   | cons h1 r1 =>
    cases r1
    exact ⟨a, xs, _, rfl, rfl, hx, Nat.lt_of_le_of_lt (by rw [r.length]; exact c) (by decide), h _ _ (r.app (.cons h1 .nil)) .non⟩
  ·cases q
 ·cases q
theorem aqb (ts as : List Tr) (c : Str) : ao7 ts as ≠ .ex c := by
 unfold ao7
 split <;> (try split) <;> (intro z; cases z)
theorem aa3.set {K : PySem.W.Frag} {H : Hp} {v : V} {T : Tr} (h : Rep K H v T) : ∀ {xs : List V} {ts : List Tr} (j : Nat), aa3 K H xs ts -> aa3 K H (xs.set j v) (ts.set j T)
 | _, _, _, .nil => .nil
 | _, _, 0, .cons _ r => .cons h r
 | _, _, j + 1, .cons h1 r => .cons h1 (aa3.set h j r)
noncomputable def amg (i : Nat) (fk fe : EF) : SF := λρ => (fe ρ).bind λp => (cls [p.1]).bind λTs => (con p.2 i).bind λ_ => (fk p.2).bind λq => (dr q.2 q.1).bind λkT => (iOf kT).bind λk => (con q.2 i).bind λts => match Ts, ixN ts.length k with
 | [T], some j => .ok (.nx, aaZ i (ts.set j T) q.2)
 | _, _ => .bad
theorem amh {te ti : TE} {fk fe : EF} (i : Nat) (he : SE t te fe) (hk : SE t ti fk) : SS t (ano te (auX (aiW i) ti apL)) (amg i fk fe) := λW ρ σ H D e h => by
 refine he W ρ σ H _ e (Rs.aag (Rs.aae h) λp h v H1 e1 s1 v1 => ?_)
 obtain ⟨Ts, k1, h⟩ := abx (Rs.aae h) (af5 _)
 obtain ⟨us, k2, h⟩ := abx (Rs.aae h) (ai7 _ _)
 obtain ⟨_, a, xs, hi, _, hx, _⟩ := e1.con k2
 refine ⟨_, hi, hk W p.2 σ H1 _ e1 (Rs.aag (Rs.aae h) λq h w H2 e2 s2 v2 => ?_)⟩
 obtain ⟨kT, k3, h⟩ := abx (Rs.aae h) (acQ _ _)
 obtain ⟨k, k4, h⟩ := abx (Rs.aae h) (ame _)
 obtain ⟨ts, k5, h⟩ := abx (Rs.aae h) (ai7 _ _)
 obtain ⟨mi, a', ys, hi', wa, hy, ry, h0⟩ := e2.con k5
 rw [hi] at hi'
 cases hi'
 have kk : ∃ T j, Ts = [T] /\ ixN ts.length k = some j /\ afu t W H D (.nx, aaZ i (ts.set j T) q.2) := by
  cases Ts with
  | nil => exact h.elim
  | cons T r =>
   cases r with
   | cons _ _ => exact h.elim
   | nil =>
    cases kj : ixN ts.length k with
    | none => rw [kj] at h; exact h.elim
    | some j => rw [kj] at h; exact ⟨T, j, rfl, rfl, h⟩
 obtain ⟨T, j, rfl, k6, h⟩ := kk
 ·have rv : Rep t.K (aa2 W H2) v T := by
   have r1 := ah6 (vs := [v]) e.wn (.cons v1.1 .nil) k1
   cases r1 with
   | cons r1 _ => exact r1.mono s2.off
  obtain ⟨e3, s3⟩ := e2.put mi hi h0 (ry.set rv j)
  refine ⟨a, ys, k, j, rfl, ao4 (aeb e2 e1.wn v2.1 k3) k4, hy, by rw [ry.length]; exact k6, h W σ _ e3 ?_⟩
  exact ((s1.trans s2).trans s3).nxt
noncomputable def axD (i : Nat) (p : Int -> Int -> Int) (f : EF) : SF := λρ => match ρ[i]? with
 | some (.sh (.int x)) => (f ρ).bind λq => (dr q.2 q.1).bind λyT => (iOf yT).bind λy => .ok (.nx, q.2.set i (.sh (.int (p x y))))
 | _ => .bad
noncomputable def asG (i j : Nat) (fa : AF) : SF := λρ => (fa ρ).bind λp => (cls p.1).bind λTs => match Ts with
 | [T, U] => .ok (.nx, (p.2.set i (.sh T)).set j (.sh U))
 | _ => .bad
theorem ao8 {ta : TA} {fa : AF} (i j : Nat) (ha : SA t ta fa) : SS t (awD i j ta) (asG i j fa) := λW ρ σ H D e h => by
 refine ha W ρ σ H _ e (Rs.aag (Rs.aae h) λp h vs H1 e1 s1 v1 => ?_)
 obtain ⟨Ts, k1, h⟩ := abx (Rs.aae h) (af5 _)
 have r := ah6 e.wn v1 k1
 split at h
 ·cases r with
  | cons h1 r1 =>
   cases r1 with
   | cons h2 r2 =>
    cases r2
    exact ⟨_, _, rfl, h W _ H1 ((e1.ah8 h1).ah8 h2) s1.nxt⟩
 ·exact h.elim
noncomputable def akl (c : Str) (f : EF) : SF := λρ => (f ρ).bind λ_ => .ex c
noncomputable def F0 (t : Tx) (H' : Hp) : Prop := (∀ b o, t.H0 b = some o -> ¬ t.R b -> H' b = some o) /\ TbS t.K H'
theorem akm {E : XK} {C : Addr} {te : TE} {f : EF} {c : Str} (hx : ∀ H', F0 t H' -> t.EX c -> E (.ref C) none H') (he : SE t te f) : SS t (aoW E C te) (akl c f) := λW ρ σ H D e h =>
 he W ρ σ H _ e (Rs.aag (Rs.aae h) λp h v H1 e1 s1 v1 => ⟨rfl, hx H1 ⟨e1.f0, e1.tab.ok⟩ h⟩)
end
end L2
end
section
namespace L2
open PySem PySem.Spec PyProof.Rows
mutual
noncomputable def aeo : Tr -> Bool
 | .tup ts => ace ts
 | .lst _ => false
 | _ => true
noncomputable def ace : List Tr -> Bool
 | [] => true
 | t :: r => aeo t && ace r
end
noncomputable def anZ (G G' : Hp) : Prop := (∀ b xs, (G b = some (.tup xs) -> G' b = some (.tup xs)) /\ ∀ o, G b = some (.frz o (.tup xs)) -> G' b = some (.frz o (.tup xs))) /\ ∀ b C, G b = some (exO b C) -> G' b = some (exO b C)
mutual
theorem Rep.flat {K : PySem.W.Frag} {G G' : Hp} (m : anZ G G') : ∀ {v : V} {T : Tr}, Rep K G v T -> aeo T = true -> Rep K G' v T
 | _, _, .non, _ => .non
 | _, _, .bl b, _ => .bl b
 | _, _, .int i, _ => .int i
 | _, _, .str x, _ => .str x
 | _, _, .tup h r, n => by
  refine .tup ?_ (aa3.flat m r (by unfold aeo at n; exact n))
  rcases h with (h | ⟨o, h⟩) | h
  ·exact .inl (.inl ((m.1 _ _).1 h))
  ·exact .inl (.inr ⟨o, (m.1 _ _).2 o h⟩)
  ·exact .inr h
 | _, _, .lst h r, n => by unfold aeo at n; cases n
 | _, _, .exn h k n, _ => .exn (m.2 _ _ h) k n
theorem aa3.flat {K : PySem.W.Frag} {G G' : Hp} (m : anZ G G') : ∀ {v : List V} {T : List Tr}, aa3 K G v T -> ace T = true -> aa3 K G' v T
 | _, _, .nil, _ => .nil
 | _, _, .cons h r, n => by
  unfold ace at n
  rw [Bool.and_eq_true] at n
  exact .cons (Rep.flat m h n.1) (aa3.flat m r n.2)
end
theorem af9 {W W' : Addr -> Prop} {H : Hp} (wl : ∀ b, W' b -> Lt H b) : anZ (aa2 W H) (aa2 W' H) := by
 have key : ∀ b o, aa2 W H b = some o -> (∀ ys, o ≠ .lst ys) -> (∀ ys, o ≠ .tbl ys) -> aa2 W' H b = some o := λb o h n n' => by
  obtain ⟨_, h⟩ := abm h
  rw [aaS]
  ·exact h
  ·intro w
   rcases wl b w with ⟨ys, e⟩ | ⟨ys, e⟩ <;> (rw [h] at e; cases e)
   ·exact n ys rfl
   ·exact n' ys rfl
 exact ⟨λb xs => ⟨λh => key _ _ h (λys z => by cases z) (λys z => by cases z), λo h => key _ _ h (λys z => by cases z) (λys z => by cases z)⟩, λb C h => key _ _ h (λys z => by cases z) (λys z => by cases z)⟩
theorem ak0 {a : Addr} {W : Addr -> Prop} {H : Hp} {xs : List V} (wl : ∀ b, W b -> Lt H b) (ha : H a = some (.lst xs)) (G : Hp) (hG : ∀ b o, G b = some o -> H b = some o) : anZ G (off a (aa2 W H)) := by
 have key : ∀ b o, G b = some o -> (∀ ys, o ≠ .lst ys) -> (∀ ys, o ≠ .tbl ys) -> off a (aa2 W H) b = some o := λb o h n n' => by
  have h := hG b o h
  rw [off_ne, aaS]
  ·exact h
  ·intro w
   rcases wl b w with ⟨ys, e⟩ | ⟨ys, e⟩ <;> (rw [h] at e; cases e)
   ·exact n ys rfl
   ·exact n' ys rfl
  ·rintro rfl
   rw [h] at ha
   cases ha
   exact n _ rfl
 exact ⟨λb xs => ⟨λh => key _ _ h (λys z => by cases z) (λys z => by cases z), λo h => key _ _ h (λys z => by cases z) (λys z => by cases z)⟩, λb C h => key _ _ h (λys z => by cases z) (λys z => by cases z)⟩
noncomputable def VRt (K : PySem.W.Frag) (Z : Addr -> Prop) (H H' : Hp) (v : V) (T : Tr) : Bool -> Prop
 | false => Rep K (aa2 Z H') v T
 | true => ∃ a xs ts, v = .ref a /\ T = .lst ts /\ H a = none /\ H' a = some (.lst xs) /\ aa3 K (off a (aa2 Z H')) xs ts
noncomputable def SmT (K : PySem.W.Frag) (H H' : Hp) : Prop := (∀ b o, H b = some o -> ¬ Tb K b -> H' b = some o) /\ TbS K H'
theorem SmT.dom {K : PySem.W.Frag} {H H' : Hp} (s : SmT K H H') : ∀ b, H' b = none -> H b = none := λb h => by
 cases q : H b with
 | none => rfl
 | some o =>
  by_cases z : Tb K b
  ·obtain ⟨ps, e⟩ := s.2.tbl z
   rw [h] at e
   cases e
  ·rw [s.1 b o q z] at h
   cases h
noncomputable def an0 (G G' : Hp) : Prop := ∀ b o, (∀ ps, o ≠ .tbl ps) -> G b = some o -> G' b = some o
theorem Rd.afv {G G' : Hp} (m : an0 G G') {a : Addr} {u : HO} (n : ∀ ps, u ≠ .tbl ps) (h : Rd G a u) : Rd G' a u := by
 rcases h with h | ⟨o, h⟩
 ·exact .inl (m _ _ n h)
 ·exact .inr ⟨o, m _ _ (λ_ z => by cases z) h⟩
mutual
theorem Rep.afv {K : PySem.W.Frag} {G G' : Hp} (m : an0 G G') : ∀ {v : V} {T : Tr}, Rep K G v T -> Rep K G' v T
 | _, _, .non => .non
 | _, _, .bl b => .bl b
 | _, _, .int i => .int i
 | _, _, .str x => .str x
 | _, _, .tup h r => by
  refine .tup ?_ (aa3.afv m r)
  rcases h with h | h
  ·exact .inl (Rd.afv m (λ_ z => by cases z) h)
  ·exact .inr h
 | _, _, .lst h r => by
  refine .lst ?_ (aa3.afv m r)
  rcases h with h | h
  ·exact .inl (Rd.afv m (λ_ z => by cases z) h)
  ·exact .inr h
 | _, _, .exn h k n => .exn (m _ _ (λ_ z => by cases z) h) k n
theorem aa3.afv {K : PySem.W.Frag} {G G' : Hp} (m : an0 G G') : ∀ {v : List V} {T : List Tr}, aa3 K G v T -> aa3 K G' v T
 | _, _, .nil => .nil
 | _, _, .cons h r => .cons (Rep.afv m h) (aa3.afv m r)
end
theorem afL {K : PySem.W.Frag} {Z : Addr -> Prop} {H : Hp} (tb : TbS K H) : an0 (aa2 Z H) (aa2 (λb => Z b \/ Tb K b) H) := λb o n h => by
 obtain ⟨nz, h⟩ := abm h
 rw [aaS]
 ·exact h
 ·rintro (z | z)
  ·exact nz z
  ·obtain ⟨ps, e⟩ := tb.tbl z
   rw [h] at e
   cases e
   exact n _ rfl
theorem EOk.ami {t : Tx} {W : Addr -> Prop} {ρ : En} {σ : St} {H H' : Hp} (e : EOk t W ρ σ H) (s : SmT t.K H H') : EOk t W ρ σ H' /\ Stp W H H' := by
 have st : Stp W H H' := ⟨λb o n q => s.1 b o q λz => n (e.tab.w b z), s.dom⟩
 refine ⟨?_, st⟩
 have m := st.off
 obtain ⟨F, e⟩ := e
 have ls : ∀ {a : Addr} {xs : List V}, H a = some (.lst xs) -> H' a = some (.lst xs) := λq => s.1 _ _ q λz => e.tab.ok.ne z q rfl
 refine ⟨F, e.len, e.zw, e.z0, λb w => ?_, λb o h n => s.1 b o (e.f0 b o h n) λz => n (e.tab.r b z), λb h => e.n0 b (s.dom b h), λi u h => ?_, λi ts h => ?_, λi ts h => ?_, e.dis, λb o h => s.1 b o (e.pn b o h) λz => (by rw [e.tab.B b z] at h; cases h), e.pd, λi ts h => ?_, e.dd, e.dm, e.db, ⟨s.2, e.tab.w, e.tab.r, e.tab.B⟩⟩
 ·rcases e.wl b w with ⟨xs, q⟩ | ⟨ps, q⟩
  ·exact .inl ⟨xs, ls q⟩
  ·by_cases z : Tb t.K b
   ·exact .inr (s.2.tbl z)
   ·exact .inr ⟨ps, s.1 b _ q z⟩
 ·obtain ⟨v, h1, h2⟩ := e.sh i u h
  exact ⟨v, h1, h2.mono m⟩
 ·obtain ⟨a, xs, h1, h2, h3, h4, h5⟩ := e.ow i ts h
  exact ⟨a, xs, h1, h2, h3, ls h4, h5.mono m⟩
 ·obtain ⟨a, xs, h1, h2, h3, h4, h5⟩ := e.rf i ts h
  exact ⟨a, xs, h1, h2, h3, ls h4, h5.mono m⟩
 ·obtain ⟨a, xs, h1, d⟩ := e.dp i ts h
  exact ⟨a, xs, h1, d.move rfl rfl m (λb hb => by obtain ⟨_, _, _, ww, _⟩ := d; exact (ww b hb).1) λb o hb q => s.1 b o q λz => d.nt e.tab.ok z hb⟩
theorem EOk.asH {t : Tx} {W : Addr -> Prop} {ρ : En} {σ : St} {H H' : Hp} {a : Addr} {xs : List V} (e : EOk t W ρ σ H) (s : SmT t.K H H') (n : H a = none) (q : H' a = some (.lst xs)) : EOh t W a ρ σ H' := by
 have na : ∀ b, W b -> b ≠ a := λb w z => by subst z; exact e.wn b w n
 obtain ⟨e', st⟩ := e.ami s
 have m : Same (aa2 W H') (aa2 (λb => W b \/ b = a) H') -> True := λ_ => trivial
 have mm : ∀ {v : V} {T : Tr}, Rep t.K (aa2 W H) v T -> Rep t.K (aa2 (λb => W b \/ b = a) H') v T := λr => r.mono λb o h => by
  obtain ⟨w, h⟩ := abm h
  rw [aaS]
  ·exact st.keep b o w h
  ·rintro (z | rfl)
   ·exact w z
   ·rw [n] at h; cases h
 have mms : Same (aa2 W H) (aa2 (λb => W b \/ b = a) H') := λb o h => by
  obtain ⟨w, h⟩ := abm h
  rw [aaS]
  ·exact st.keep b o w h
  ·rintro (z | rfl)
   ·exact w z
   ·rw [n] at h; cases h
 obtain ⟨F, e⟩ := e
 have ls : ∀ {a : Addr} {xs : List V}, H a = some (.lst xs) -> H' a = some (.lst xs) := λq => s.1 _ _ q λz => e.tab.ok.ne z q rfl
 refine ⟨F, ⟨e.len, λb z => .inl (e.zw b z), e.z0, λb w => ?_, e'.f0, e'.n0, λi u h => ?_, λi ts h => ?_, λi ts h => ?_, e.dis, e'.pn, e.pd, λi ts h => ?_, e.dd, e.dm, e.db, e'.tab.wid λb w => .inl w⟩, λi ts h z => ?_⟩
 ·rcases w with w | rfl
  ·exact e'.wl b w
  ·exact .inl ⟨xs, q⟩
 ·obtain ⟨v, h1, h2⟩ := e.sh i u h
  exact ⟨v, h1, mm h2⟩
 ·obtain ⟨c, ys, h1, h2, h3, h4, h5⟩ := e.ow i ts h
  exact ⟨c, ys, h1, .inl h2, h3, ls h4, h5.mono mms⟩
 ·obtain ⟨c, ys, h1, h2, h3, h4, h5⟩ := e.rf i ts h
  exact ⟨c, ys, h1, .inl h2, h3, ls h4, h5.mono mms⟩
 ·obtain ⟨c, ys, h1, d⟩ := e.dp i ts h
  exact ⟨c, ys, h1, d.move rfl rfl mms (λb hb => by obtain ⟨_, _, _, ww, _⟩ := d; exact .inl (ww b hb).1) λb o hb q => s.1 b o q λz => d.nt e.tab.ok z hb⟩
 ·obtain ⟨c, ys, h1, bs, _, _, ww, _⟩ := e.dp i ts h
  exact na a (ww a z).1 rfl
noncomputable abbrev FP := List Tr -> Rs (Tr × Bool)
noncomputable def spP (K : PySem.W.Frag) (cl : Str -> Addr) (n : Nat) (F : FP) : Sp := λvs H Q E => ∃ Z ts, vs.length = n /\ aa3 (nlK K) (aa2 Z H) vs ts /\ (∀ b, Z b -> Lt H b) /\ TbS (nlK K) H /\
 (F ts).post (λc => ∀ H', SmT (nlK K) H H' -> E (.ref (cl c)) none H') (λp => ∀ v H', SmT (nlK K) H H' -> VRt (nlK K) Z H H' v p.1 p.2 -> Q v H')
noncomputable def aaG (nl : Nat) (ts : List Tr) : En := ts.map Sl.sh ++ List.replicate (nl - ts.length) Sl.un
noncomputable def fnP (nl : Nat) (b : SF) : FP := λts => (b (aaG nl ts)).bind λq => match q.1 with
 | .rt T fr => .ok (T, fr)
 | .nx => .ok (.non, false)
 | _ => .bad
theorem abH {nl : Nat} {ts : List Tr} {i : Nat} {s : Sl} (h : (aaG nl ts)[i]? = some s) : (∃ u, ts[i]? = some u /\ s = .sh u) \/ s = .un := by
 unfold aaG at h
 by_cases l : i < ts.length
 ·rw [List.getElem?_append_left (by simpa using l), List.getElem?_map] at h
  rw [List.getElem?_eq_getElem l] at h ⊢
  cases h
  exact .inl ⟨_, rfl, rfl⟩
 ·rw [List.getElem?_append_right (by simpa using Nat.le_of_not_lt l)] at h
  rw [List.getElem?_replicate] at h
  split at h
  ·cases h; exact .inr rfl
  ·cases h
theorem aeB {N : List Str} {vs : List V} {i : Nat} {v : V} (h : vs[i]? = some v) : (start N vs)[i]? = some (some v) := by
 unfold start
 have l : i < vs.length := (List.getElem?_eq_some_iff.mp h).1
 rw [List.getElem?_append_left (by simpa using l), List.getElem?_map, h]
 rfl
section
variable {P : Program} {w : World} {K : PySem.W.Frag} {mg : Str -> Option Value} {base : Heap}
theorem At.dfP {k : Nat} {x : Str} {st : Stmt} {N ps : List Str} {cl : Str -> Addr} {b : SF} (a : At K mg x st) (S : aaR N ps (aan st)) (hn : ps.length <= N.length)
  (hb : ∀ (kV doc pm : Value) (an : Option Addr) (cdv ct : Value) (us : List Value), us.length = ps.length -> bindArgs (PySem.W.fnOf x x (acM st) (abZ st) (aan st) .none kV doc pm an cdv ct) ⟨us, []⟩ = pure (ps.zip us))
  (hbody : ∀ (f : Addr) (cdv : Value) (A : Around) (outer : List Env) (s : Shared) (H : Hp) (E : XK), aeZ k (A.deeper (envOfC x (aan st) s.heap.objs.size f cdv)) ->
   ∃ ts, PSs (aj4 (CXF P w) P w K mg base N x (aan st) f cdv A outer s H E) (abZ st) ts /\ ∀ t : Tx, t.K = nlK K -> (∀ c H', F0 t H' -> t.EX c -> E (.ref (cl c)) none H') -> SS t ts b) :
  DfX P w K mg base (k + 1) x ps (spP K cl ps.length (fnP N.length b)) := by
 refine a.dfx S hb (λvs H Q E h => ?_) (λf cdv A outer s H vs Q E hr h => ?_)
 ·obtain ⟨_, _, h, _⟩ := h; exact h
 obtain ⟨Z, as, hl, r, zl, tb, h⟩ := h
 obtain ⟨ts, h1, h2⟩ := hbody f cdv A outer s H E hr
 refine ⟨ts, h1, ?_⟩
 have sm : ∀ (b : Addr) (W : Addr -> Prop) ρ σ H', EOk ⟨nlK K, Z, Tb (nlK K), H, λ_ => none, λc => ∀ H', SmT (nlK K) H H' -> E (.ref (cl c)) none H'⟩ W ρ σ H' -> SmT (nlK K) H H' := λ_ W ρ σ H' e => ⟨λb o q n => e.f0 b o q n, e.tab.ok⟩
 have r := r.afv (afL tb)
 refine h2 ⟨nlK K, Z, Tb (nlK K), H, λ_ => none, λc => ∀ H', SmT (nlK K) H H' -> E (.ref (cl c)) none H'⟩ rfl (λc H' f0 q => q H' ⟨λb o z n => f0.1 b o z n, f0.2⟩) (λb => Z b \/ Tb (nlK K) b) (aaG N.length as) (start N vs) H _ ?_ (Rs.aag (Rs.aae h) λq h => ?_)
 ·have la := r.length
  have akn : ∀ (i : Nat) (us : List Tr), (aaG N.length as)[i]? = some (.dp us) -> False := λi us q => by
   rcases abH q with ⟨u', q1, z⟩ | z <;> cases z
  refine ⟨λ_ => [], ?_, λ_ z => .inl z, λb z => ?_, λb z => z.elim (zl b) (λz => .inr (tb.tbl z)), λb o q _ => q, λb q => q, λi u q => ?_, λi us q => ?_, λi us q => ?_, λi j c m1 m2 => ?_, λb o z => (by cases z), λ_ _ _ _ => rfl, λi us q => (akn i us q).elim, λi _ us _ _ q => (akn i us q).elim, λi _ us _ q => (akn i us q).elim, λi us q => (akn i us q).elim, ⟨tb, λ_ z => .inr z, λ_ z => z, λ_ _ => rfl⟩⟩
  ·unfold aaG start
   simp only [List.length_append, List.length_map, List.length_replicate]
   omega
  ·exact (zl b z).ne
  ·rcases abH q with ⟨u', q1, z⟩ | z
   ·cases z
    obtain ⟨v, e1, e2⟩ := r.ao0 q1
    exact ⟨v, aeB e1, e2⟩
   ·cases z
  ·rcases abH q with ⟨u', q1, z⟩ | z <;> cases z
  ·rcases abH q with ⟨u', q1, z⟩ | z <;> cases z
  ·obtain ⟨us, q | q⟩ := m1 <;> rcases abH q with ⟨u', q1, z⟩ | z <;> cases z
 ·obtain ⟨fl, ρ'⟩ := q
  cases fl with
  | nx => exact λW' σ' H' e n => h .non H' (sm 0 W' ρ' σ' H' e) .non
  | rt T fr =>
   refine λv W' σ' H' e n => h v H' (sm 0 W' ρ' σ' H' e) ?_
   cases fr <;> exact n
  | bk => exact h.elim
  | ct => exact h.elim
end
section
variable {X : Cx} {k : Nat} {x : Str} {ps : List Str} {sp : Sp} {p pos : Pos} {e : Expr} {es : List Expr} {ta : TA} {E : XK}
theorem an1 (D : DfX X.prog X.w X.K X.mg X.base k x ps sp) (hr : aeZ k X.A) (hx : Passes (CXF X.prog X.w) X E) (ha : PA X (e :: es) ta) (hg : Gl X x := by rfl) (hdb : (x == ("__debug__" : Str)) = false := by decide)
  (he : starEach (e :: es) X.env = (false, eval e X.env) :: starEach es X.env := by rfl) (hpl : (backTo pos (starEach es X.env)).any (·.1) = false := by rfl) : PE X (.Call (.Name x p) (e :: es) [] pos) (ahN sp [] E ta) := by
 obtain ⟨f, fd, h1, h2, h3, h4⟩ := D
 exact apE h1 hr hg h4 h3 h2 .nil hx ha hdb he hpl
end
section
variable {t : Tx} {K : PySem.W.Frag}
noncomputable def isS : Rv -> Bool
 | .s _ => true
 | _ => false
noncomputable def ady (z : Tr × Bool) : Bool := aeo z.1 || (z.2 && (match z.1 with
 | .lst us => ace us
 | _ => false))
theorem VRt.voe {W W0 : Addr -> Prop} {ρ : En} {σ : St} {H H' : Hp} {v : V} {z : Tr × Bool} {Z : Addr -> Prop} (wn : ∀ b, W b -> H b ≠ none) (wl : ∀ b, W b -> Lt H' b) (zs : (∀ b, W b -> Z b) \/ ady z = true) (h : VRt t.K Z H H' v z.1 z.2)
  (ex : ∀ a xs, H a = none -> H' a = some (.lst xs) -> EOh t W a ρ σ H') : VOE t W ρ σ H H' v (.v z.1 z.2) := by
 obtain ⟨T, fr⟩ := z
 cases fr with
 | false =>
  refine .low ?_
  rcases zs with zs | zs
  ·exact Rep.mono (acd (λb _ _ z => zs b z) λ_ _ _ h => h) h
  ·unfold ady at zs
   simp only [Bool.false_and, Bool.or_false] at zs
   exact Rep.flat (af9 wl) h zs
 | true =>
  obtain ⟨a, xs, ts, rfl, e1, n, q, r⟩ := h
  have e1 : T = .lst ts := e1
  subst e1
  refine ⟨⟨a, xs, ts, rfl, rfl, n, q, ?_⟩, λU b z eb => ?_⟩
  ·rcases zs with zs | zs
   ·refine r.mono λb o q => ?_
    obtain ⟨ne, q⟩ := adi q
    rw [off_ne ne]
    exact acd (λb _ _ z => zs b z) (λ_ _ _ h => h) b o q
   ·unfold ady at zs
    have zs : ace ts = true := by
     rw [Bool.or_eq_true] at zs
     rcases zs with zs | zs
     ·unfold aeo at zs; cases zs
     ·exact zs
    exact r.flat (ak0 wl q _ λb o h => ab4 _ _ b o (amc _ _ b o h)) zs
  ·cases eb
   exact ex a xs n q
theorem agz.length {W : Addr -> Prop} {σ : St} {H H' : Hp} : ∀ {vs : List V} {rs : List Rv}, agz K W σ H H' vs rs -> vs.length = rs.length
 | _, _, .nil => rfl
 | _, _, .cons _ r => by rw [List.length_cons, List.length_cons, agz.length r]
theorem post_eq {α : Type} {r : Rs α} {a : α} {EX : Str -> Prop} {P : α -> Prop} (h : r = .ok a) (q : P a) : r.post EX P := by
 rw [h]
 exact q
noncomputable def aaM (F : FP) (fa : AF) : EF := λρ => (fa ρ).bind λp => (drs p.2 p.1).bind λas => (F as).bind λz => if p.1.any isS = true /\ ady z = false then .bad else .ok (.v z.1 z.2, p.2)
theorem ahd {W : Addr -> Prop} {σ : St} {ρ : En} {H H' : Hp} (wn : ∀ b, W b -> H b ≠ none) : ∀ {vs : List V} {rs : List Rv} {as : List Tr}, agz t.K W σ H H' vs rs -> drs ρ rs = .ok as -> rs.any isS = false -> aa3 t.K (aa2 W H') vs as
 | _, _, _, .nil, q, _ => by cases q; exact .nil
 | _, .v T fr :: _, _, .cons h r, q, n => by
  unfold drs at q
  obtain ⟨a, q1, q⟩ := abj q
  obtain ⟨as, q2, q⟩ := abj q
  cases q
  cases q1
  exact .cons (h.rep wn) (ahd wn r q2 (by simpa [List.any_cons, isS] using n))
 | _, .s i :: _, _, .cons h r, q, n => by simp [isS] at n
theorem Rps.reps {W : Addr -> Prop} {H : Hp} : ∀ {vs : List V} {as : List Tr}, Rps K W H vs as -> aa3 K (aa2 (λ_ => False) H) vs as
 | _, _, .nil => .nil
 | _, _, .cons h r => .cons (h.rep.mono λb o q => by rw [aaS id]; exact q) (Rps.reps r)
theorem ako (hK : t.K = nlK K) {cl : Str -> Addr} {n : Nat} {F : FP} {E : XK} {ta : TA} {fa : AF} (hx : ∀ c H', F0 t H' -> t.EX c -> E (.ref (cl c)) none H') (hn : ∀ ρ p, fa ρ = .ok p -> p.1.length = n) (ha : SA t ta fa) : SE t (ahN (spP K cl n F) [] E ta) (aaM F fa) := λW ρ σ H Q e h => by
 have h := Rs.aae h
 cases ek : fa ρ with
 | bad => rw [ek] at h; exact h.elim
 | ex c => exact ha W ρ σ H _ e (by rw [ek] at h ⊢; exact h)
 | ok p =>
 have hl := hn ρ p ek
 rw [ek] at h
 refine ha W ρ σ H _ e (post_eq ek ?_)
 intro vs H1 e1 s1 v1
 have h : ((drs p.2 p.1).bind _).post _ _ := h
 obtain ⟨as, k1, h⟩ := abx (Rs.aae h) (ae2 _ _)
 have r := ah5 e1 e.wn v1 k1
 have lv : vs.length = n := v1.length.trans hl
 have fin : ∀ Z : Addr -> Prop, (∀ b, Z b -> W b) -> (∀ z, F as = .ok z -> ¬ (p.1.any isS = true /\ ady z = false) -> (∀ b, W b -> Z b) \/ ady z = true) -> aa3 (nlK K) (aa2 Z H1) vs as -> spP K cl n F (vs ++ []) H1 Q E := λZ zw zs rr => by
  rw [List.append_nil]
  refine ⟨Z, as, lv, rr, λb z => e1.wl b (zw b z), by rw [<-hK]; exact e1.tab.ok, ?_⟩
  have h := Rs.aae h
  cases ef : F as with
  | bad => rw [ef] at h; exact h.elim
  | ex c =>
   rw [ef] at h
   exact λH' sm => hx c H' ⟨λb o q nr => sm.1 b o (e1.f0 b o q nr) λz => nr (e1.tab.r b (by rw [hK]; exact z)), by rw [hK]; exact sm.2⟩ h
  | ok z =>
   rw [ef] at h
   have h : (if p.1.any isS = true /\ ady z = false then Rs.bad else .ok (.v z.1 z.2, p.2) : Rs (Rv × En)).post _ _ := h
   split at h
   ·exact h.elim
   ·rename_i c
    intro v H' sm vr
    rw [<-hK] at vr sm
    obtain ⟨eg, sg⟩ := e1.ami sm
    refine h v H' eg (s1.trans sg) (VOE.back (H := H1) ?_ s1.dom)
    exact VRt.voe (W0 := W) e1.wn eg.wl (zs z ef c) vr λa xs na qa => e1.asH sm na qa
 by_cases an : p.1.any isS = true
 ·refine fin (λ_ => False) (λ_ z => z.elim) (λz ez c => .inr ?_) ?_
  ·cases fz : ady z with
   | true => rfl
   | false => exact (c ⟨an, fz⟩).elim
  ·rw [<-hK]
   exact r.reps
 ·refine fin W (λ_ z => z) (λz ez c => .inl λ_ z => z) ?_
  rw [<-hK]
  exact ahd e.wn v1 k1 (by simpa using an)
end
end L2
end
section
namespace L2
open PySem PySem.Spec PyProof.Rows
noncomputable abbrev FR := List Tr -> Rs ((Tr × Bool) × List Tr)
noncomputable def spR (K : PySem.W.Frag) (n r : Nat) (F : FR) : Sp := λvs H Q E => ∃ (Z : Addr -> Prop) (ts : List Tr) (a : Addr) (xs : List V) (us : List Tr), vs.length = n /\ ts.length = n /\ vs[r]? = some (.ref a) /\ ts[r]? = some (.lst us) /\ Z a /\ H a = some (.lst xs) /\ aa3 (nlK K) (aa2 Z H) xs us /\
 (∀ j v u, j ≠ r -> vs[j]? = some v -> ts[j]? = some u -> Rep (nlK K) (aa2 Z H) v u) /\ (∀ b, Z b -> Lt H b) /\ TbS (nlK K) H /\
 (F ts).post (λ_ => False) (λp => ∀ v H' ys, (∀ b o, H b = some o -> b ≠ a -> ¬ Tb (nlK K) b -> H' b = some o) -> TbS (nlK K) H' -> (∀ b, H' b = none -> H b = none) -> H' a = some (.lst ys) -> aa3 (nlK K) (aa2 Z H') ys p.2 -> ace p.2 = true -> VRt (nlK K) Z H H' v p.1.1 p.1.2 -> Q v H')
noncomputable def aa0 {α : Type} : Rs α -> Rs α
 | .bad => .bad
 | .ex _ => .bad
 | .ok a => .ok a
theorem adJ {α : Type} {r : Rs α} {EX : Str -> Prop} {P : α -> Prop} (h : (aa0 r).post EX P) : r.post (λ_ => False) P := by
 cases r <;> exact h
theorem adU {α : Type} (r : Rs α) (c : Str) : aa0 r ≠ .ex c := by
 cases r <;> (intro z; cases z)
theorem akp {α β : Type} {r : Rs α} {f : α -> Rs β} (h1 : ∀ c, r ≠ .ex c) (h2 : ∀ a c, f a ≠ .ex c) (c : Str) : r.bind f ≠ .ex c := by
 cases r with
 | bad => intro z; cases z
 | ex d => exact (h1 d rfl).elim
 | ok a => exact h2 a c
noncomputable def fnR (nl r : Nat) (b : SF) : FR := λts => match ts[r]? with
 | some (.lst us) => (aa0 (b ((aaG nl ts).set r (.rf us)))).bind λq => (match q.2[r]? with
  | some (.rf ws) => if ace ws = true then (match q.1 with
   | .rt T fr => .ok ((T, fr), ws)
   | .nx => .ok ((.non, false), ws)
   | _ => .bad) else .bad
  | _ => .bad)
 | _ => .bad
theorem aqc (nl r : Nat) (b : SF) (as : List Tr) (c : Str) : fnR nl r b as ≠ .ex c := by
 unfold fnR
 split
 ·refine akp (adU _) (λq c => ?_) c
  split
  ·split
   ·split <;> (intro z; cases z)
   ·intro z; cases z
  ·intro z; cases z
 ·intro z; cases z
section
variable {P : Program} {w : World} {K : PySem.W.Frag} {mg : Str -> Option Value} {base : Heap}
theorem At.dfR {k : Nat} {x : Str} {st : Stmt} {N ps : List Str} {cl : Str -> Addr} {b : SF} (r : Nat) (a : At K mg x st) (S : aaR N ps (aan st)) (hn : ps.length <= N.length)
  (hb : ∀ (kV doc pm : Value) (an : Option Addr) (cdv ct : Value) (us : List Value), us.length = ps.length -> bindArgs (PySem.W.fnOf x x (acM st) (abZ st) (aan st) .none kV doc pm an cdv ct) ⟨us, []⟩ = pure (ps.zip us))
  (hbody : ∀ (f : Addr) (cdv : Value) (A : Around) (outer : List Env) (s : Shared) (H : Hp) (E : XK), aeZ k (A.deeper (envOfC x (aan st) s.heap.objs.size f cdv)) ->
   ∃ ts, PSs (aj4 (CXF P w) P w K mg base N x (aan st) f cdv A outer s H E) (abZ st) ts /\ ∀ t : Tx, t.K = nlK K -> (∀ c H', F0 t H' -> t.EX c -> E (.ref (cl c)) none H') -> SS t ts b) :
  DfX P w K mg base (k + 1) x ps (spR K ps.length r (fnR N.length r b)) := by
 refine a.dfx S hb (λvs H Q E h => ?_) (λf cdv A outer s H vs Q E hr h => ?_)
 ·obtain ⟨_, _, _, _, _, h, _⟩ := h; exact h
 obtain ⟨Z, as, ad, xs, us, hl, hl2, hv, ht, hz, hx, rx, ra, zl, tb, h⟩ := h
 have rx := rx.afv (afL tb)
 have ra : ∀ j v u, j ≠ r -> vs[j]? = some v -> as[j]? = some u -> Rep (nlK K) (aa2 (λb => Z b \/ Tb (nlK K) b) H) v u := λj v u n q1 q2 => (ra j v u n q1 q2).afv (afL tb)
 obtain ⟨ts, h1, h2⟩ := hbody f cdv A outer s H E hr
 refine ⟨ts, h1, ?_⟩
 unfold fnR at h
 rw [ht] at h
 have h : ((aa0 (b ((aaG N.length as).set r (.rf us)))).bind _).post _ _ := h
 refine h2 ⟨nlK K, Z, λb => b = ad \/ Tb (nlK K) b, H, λ_ => none, λ_ => False⟩ rfl (λc H' f0 q => q.elim) (λb => Z b \/ Tb (nlK K) b) ((aaG N.length as).set r (.rf us)) (start N vs) H _ ?_ (Rs.aag (adJ (Rs.aae h)) λq h => ?_)
 ·have lr : r < as.length := (List.getElem?_eq_some_iff.mp ht).1
  have mu : ∀ j, Mu ((aaG N.length as).set r (.rf us)) j -> j = r := λj m => by
   obtain ⟨ws, q | q⟩ := m <;> rcases get_set q with ⟨rfl, _, _⟩ | ⟨ne, q⟩
   ·rfl
   ·rcases abH q with ⟨u', q1, z⟩ | z <;> cases z
   ·rfl
   ·rcases abH q with ⟨u', q1, z⟩ | z <;> cases z
  have akn : ∀ (i : Nat) (ws : List Tr), ((aaG N.length as).set r (.rf us))[i]? = some (.dp ws) -> False := λi ws q => by
   rcases get_set q with ⟨rfl, z, _⟩ | ⟨ne, q⟩
   ·cases z
   ·rcases abH q with ⟨u', q1, z⟩ | z <;> cases z
  refine ⟨λ_ => [], ?_, λ_ z => .inl z, λb z => ?_, λb z => z.elim (zl b) (λz => .inr (tb.tbl z)), λb o q _ => q, λb q => q, λi u q => ?_, λi ws q => ?_, λi ws q => ?_, λi j c m1 m2 _ _ => (mu i m1).trans (mu j m2).symm, λb o z => (by cases z), λ_ _ _ _ => rfl, λi us q => (akn i us q).elim, λi _ us _ _ q => (akn i us q).elim, λi _ us _ q => (akn i us q).elim, λi us q => (akn i us q).elim, ⟨tb, λ_ z => .inr z, λ_ z => .inr z, λ_ _ => rfl⟩⟩
  ·unfold aaG start
   simp only [List.length_append, List.length_map, List.length_replicate, List.length_set]
   omega
  ·exact (zl b z).ne
  ·rcases get_set q with ⟨rfl, z, _⟩ | ⟨ne, q⟩
   ·cases z
   ·rcases abH q with ⟨u', q1, z⟩ | z
    ·cases z
     have lj : i < vs.length := by
      rw [hl, <-hl2]
      exact (List.getElem?_eq_some_iff.mp q1).1
     exact ⟨vs[i], aeB (List.getElem?_eq_getElem lj), ra i _ _ ne (List.getElem?_eq_getElem lj) q1⟩
    ·cases z
  ·rcases get_set q with ⟨rfl, z, _⟩ | ⟨ne, q⟩
   ·cases z
   ·rcases abH q with ⟨u', q1, z⟩ | z <;> cases z
  ·rcases get_set q with ⟨rfl, z, _⟩ | ⟨ne, q⟩
   ·cases z
    exact ⟨ad, xs, aeB hv, .inl hz, .inl rfl, hx, rx⟩
   ·rcases abH q with ⟨u', q1, z⟩ | z <;> cases z
 ·obtain ⟨fl, ρ'⟩ := q
  dsimp only at h
  split at h
  ·rename_i ws q
   split at h
   ·rename_i fl'
    have key : ∀ W' σ' H', EOk ⟨nlK K, Z, λb => b = ad \/ Tb (nlK K) b, H, λ_ => none, λ_ => False⟩ W' ρ' σ' H' -> (∀ b o, H b = some o -> b ≠ ad -> ¬ Tb (nlK K) b -> H' b = some o) /\ TbS (nlK K) H' /\ (∀ b, H' b = none -> H b = none) /\ ∃ ys, H' ad = some (.lst ys) /\ aa3 (nlK K) (aa2 Z H') ys ws := λW' σ' H' e => by
     obtain ⟨c, ys, q1, q2, q3, q4, q5⟩ := e.rf r ws q
     have q3 : c = ad := q3.elim id λz => (e.tab.ok.ne z q4 rfl).elim
     subst q3
     exact ⟨λb o z n n' => e.f0 b o z λy => y.elim n n', e.tab.ok, e.n0, ys, q4, q5.mono (akj e)⟩
    cases fl with
    | nx =>
     intro W' σ' H' e n
     obtain ⟨k1, k1b, k2, ys, k3, k4⟩ := key W' σ' H' e
     exact h .non H' ys k1 k1b k2 k3 k4 fl' .non
    | rt T fr =>
     intro v W' σ' H' e n
     obtain ⟨k1, k1b, k2, ys, k3, k4⟩ := key W' σ' H' e
     refine h v H' ys k1 k1b k2 k3 k4 fl' ?_
     cases fr <;> exact n
    | bk => exact h.elim
    | ct => exact h.elim
   ·exact h.elim
  ·exact h.elim
end
section
variable {t : Tx} {K : PySem.W.Frag}
theorem agz.get {W : Addr -> Prop} {σ : St} {H H' : Hp} : ∀ {vs : List V} {rs : List Rv} {j : Nat} {v : V} {r : Rv}, agz K W σ H H' vs rs -> vs[j]? = some v -> rs[j]? = some r -> VOk K W σ H H' v r
 | _, _, _, _, _, .nil, e, _ => by simp at e
 | _, _, 0, _, _, .cons h _, e, q => by simp at e q; subst e q; exact h
 | _, _, j + 1, _, _, .cons _ t, e, q => agz.get (j := j) t (by simpa using e) (by simpa using q)
theorem ai8 {ρ : En} : ∀ {rs : List Rv} {as : List Tr} {j : Nat} {u : Tr}, drs ρ rs = .ok as -> as[j]? = some u -> ∃ r, rs[j]? = some r /\ dr ρ r = .ok u
 | [], _, _, _, h, e => by cases h; simp at e
 | r :: rs, as, j, u, h, e => by
  unfold drs at h
  obtain ⟨a, q1, h⟩ := abj h
  obtain ⟨bs, q2, h⟩ := abj h
  cases h
  cases j with
  | zero => simp at e; subst e; exact ⟨r, rfl, q1⟩
  | succ j =>
   obtain ⟨r', k1, k2⟩ := ai8 (j := j) q2 (by simpa using e)
   exact ⟨r', by simpa using k1, k2⟩
theorem amj {ρ : En} : ∀ {rs : List Rv} {as : List Tr}, drs ρ rs = .ok as -> as.length = rs.length
 | [], _, h => by cases h; rfl
 | r :: rs, as, h => by
  unfold drs at h
  obtain ⟨a, q1, h⟩ := abj h
  obtain ⟨bs, q2, h⟩ := abj h
  cases h
  rw [List.length_cons, List.length_cons, amj q2]
theorem ao9 {ρ : En} : ∀ {rs : List Rv} {as : List Tr} {j : Nat} {r : Rv}, drs ρ rs = .ok as -> rs[j]? = some r -> ∃ u, as[j]? = some u /\ dr ρ r = .ok u
 | [], _, _, _, h, e => by simp at e
 | r :: rs, as, j, u, h, e => by
  unfold drs at h
  obtain ⟨a, q1, h⟩ := abj h
  obtain ⟨bs, q2, h⟩ := abj h
  cases h
  cases j with
  | zero => simp at e; subst e; exact ⟨a, rfl, q1⟩
  | succ j =>
   obtain ⟨r', k1, k2⟩ := ao9 (j := j) q2 (by simpa using e)
   exact ⟨r', by simpa using k1, k2⟩
noncomputable def others (r i : Nat) (rs : List Rv) : Bool := (rs.eraseIdx r).all λx => match x with
 | .s j => j != i
 | _ => true
noncomputable def aaQ (r : Nat) (F : FR) (fa : AF) : EF := λρ => (fa ρ).bind λp => match p.1[r]? with
 | some (.s i) => if others r i p.1 = true then ((con p.2 i).bind λ_ => (drs p.2 p.1).bind λas => (F as).bind λz => if (p.1.eraseIdx r).any isS = true /\ ady z.1 = false then .bad else .ok (.v z.1.1 z.1.2, aaZ i z.2 p.2)) else .bad
 | _ => .bad
theorem aib {α : Type} {l : List α} {r j : Nat} {x : α} (n : j ≠ r) (h : l[j]? = some x) : x ∈ l.eraseIdx r := by
 rw [List.mem_eraseIdx_iff_getElem?]
 exact ⟨j, n, h⟩
theorem an2 (hK : t.K = nlK K) {n r : Nat} {F : FR} {E : XK} {ta : TA} {fa : AF} (nF : ∀ as c, F as ≠ .ex c) (hn : ∀ ρ p, fa ρ = .ok p -> p.1.length = n) (ha : SA t ta fa) : SE t (ahN (spR K n r F) [] E ta) (aaQ r F fa) := λW ρ σ H Q e h => by
 have h := Rs.aae h
 cases ek : fa ρ with
 | bad => rw [ek] at h; exact h.elim
 | ex c => exact ha W ρ σ H _ e (by rw [ek] at h ⊢; exact h)
 | ok p =>
 have hl := hn ρ p ek
 rw [ek] at h
 refine ha W ρ σ H _ e (post_eq ek ?_)
 intro vs H1 e1 s1 v1
 have h : (match p.1[r]? with
  | some (.s i) => if others r i p.1 = true then ((con p.2 i).bind λ_ => (drs p.2 p.1).bind λas => (F as).bind λz => if (p.1.eraseIdx r).any isS = true /\ ady z.1 = false then .bad else .ok (.v z.1.1 z.1.2, aaZ i z.2 p.2)) else .bad
  | _ => .bad : Rs (Rv × En)).post _ _ := h
 split at h
 ·rename_i i er
  split at h
  ·rename_i ho
   obtain ⟨us, k0, h⟩ := abx (Rs.aae h) (ai7 _ _)
   obtain ⟨as, k1, h⟩ := abx (Rs.aae h) (ae2 _ _)
   obtain ⟨z, k2, h⟩ := abx (Rs.aae h) (nF _)
   obtain ⟨mi, a, xs, hi, wa, hx, rx, h0⟩ := e1.con k0
   have lr : r < vs.length := by rw [v1.length]; exact (List.getElem?_eq_some_iff.mp er).1
   have hvr : vs[r]? = some (.ref a) := by
    have q := v1.get (List.getElem?_eq_getElem lr) er
    have q : σ[i]? = some (some vs[r]) := q
    rw [hi] at q
    rw [List.getElem?_eq_getElem lr, Option.some.inj (Option.some.inj q)]
   have hur : as[r]? = some (.lst us) := by
    obtain ⟨u, q1, q2⟩ := ao9 k1 er
    rw [q1]
    unfold L2.con at k0
    dsimp only [dr] at q2
    split at k0 <;> rename_i q3
    ·rw [q3] at q2; cases q2; cases k0; rfl
    ·rw [q3] at q2; cases q2; cases k0; rfl
    ·cases k0
   split at h
   ·exact h.elim
   ·rename_i c
    have fin : ∀ Z : Addr -> Prop, Z a -> (∀ b, Z b -> W b) -> ((∀ b, W b -> Z b) \/ ady z.1 = true) -> (∀ j v u, j ≠ r -> vs[j]? = some v -> as[j]? = some u -> Rep (nlK K) (aa2 Z H1) v u) -> spR K n r F (vs ++ []) H1 Q E := λZ za zw zs rr => by
     rw [List.append_nil]
     refine ⟨Z, as, a, xs, us, v1.length.trans hl, (amj k1).trans hl, hvr, hur, za, hx, ?_, rr, λb z => e1.wl b (zw b z), by rw [<-hK]; exact e1.tab.ok, ?_⟩
     ·rw [<-hK]
      exact rx.mono (acd (λb _ _ z => zw b z) λ_ _ _ h => h)
     rw [k2]
     intro v H' ys fr tb dm hy ry fl vr
     rw [<-hK] at ry vr fr tb
     have kp : ∀ b o, ¬ W b -> H1 b = some o -> H' b = some o := λb o nw q => fr b o q (λz => by subst z; exact nw wa) λz => nw (e1.tab.w b z)
     have wl' : ∀ b, W b -> Lt H' b := λb wb => by
      by_cases q : b = a
      ·subst q; exact .inl ⟨ys, hy⟩
      ·by_cases z : Tb t.K b
       ·exact .inr (tb.tbl z)
       ·rcases e1.wl b wb with ⟨zs, q2⟩ | ⟨zs, q2⟩
        ·exact .inl ⟨zs, fr b _ q2 q z⟩
        ·exact .inr ⟨zs, fr b _ q2 q z⟩
     have st : Stp W H1 H' := ⟨kp, dm⟩
     have e2 : EOk t W (aaZ i z.2 p.2) σ H' := e1.move mi hi st.off (λ_ h => h) wl' tb fr dm h0 hy (ry.flat (af9 wl') fl)
     refine h v H' e2 (s1.trans st) (VOE.back (H := H1) ?_ s1.dom)
     refine VRt.voe (W0 := W) (z := z.1) e1.wn wl' zs vr λb zs nb qb => ?_
     have wl2 : ∀ c, (W c \/ c = b) -> Lt H' c := λc wc => by
      rcases wc with wc | rfl
      ·exact wl' c wc
      ·exact .inl ⟨zs, qb⟩
     obtain ⟨F, e1F⟩ := id e1
     refine ⟨F, e1F.move mi hi (λc o q => ?_) (λ_ h => .inl h) wl2 tb fr dm h0 hy (ry.flat (af9 wl2) fl), λj us hj zj => ?_⟩
     rotate_left
     ·obtain ⟨c, ys, h1, bs, _, _, ww, _⟩ := e1F.dp j us (adI hj)
      exact e1.wn b (ww b zj).1 nb
     obtain ⟨nc, q⟩ := abm q
     rw [aaS]
     ·exact kp c o nc q
     ·rintro (z | rfl)
      ·exact nc z
      ·rw [nb] at q; cases q
    by_cases an : (p.1.eraseIdx r).any isS = true
    ·refine fin (λb => b = a) rfl (λb z => by subst z; exact wa) (.inr ?_) λj v u nj qv qu => ?_
     ·cases fz : ady z.1 with
      | true => rfl
      | false => exact (c ⟨an, fz⟩).elim
     ·obtain ⟨x, q1, q2⟩ := ai8 k1 qu
      have ok := v1.get qv q1
      rw [<-hK]
      cases x with
      | v T fr =>
       cases q2
       exact (ok.rep e.wn).mono (acd (λb _ _ z => by subst z; exact wa) λ_ _ _ h => h)
      | s j' =>
       have nj' : j' ≠ i := by
        have := List.all_eq_true.mp ho _ (aib nj q1)
        simpa using this
       have ok : σ[j']? = some (some v) := ok
       have q2 : dr p.2 (.s j') = .ok u := q2
       have q3 : ∃ ws, L2.con p.2 j' = .ok ws /\ u = .lst ws := by
        dsimp only [dr] at q2
        unfold L2.con
        split at q2 <;> rename_i q3
        ·cases q2; (try rw [q3]); exact ⟨_, rfl, rfl⟩
        ·cases q2; (try rw [q3]); exact ⟨_, rfl, rfl⟩
        ·cases q2
       obtain ⟨ws, q3, rfl⟩ := q3
       obtain ⟨mj, a', zs, hj, wj, hz, rz, _⟩ := e1.con q3
       rw [ok] at hj
       cases hj
       have na : a' ≠ a := λy => by
        subst y
        exact nj' (e1.dis j' i a' mj mi ok hi)
       refine .lst (SqL.of ?_) (rz.mono (acd (λb _ _ z => by subst z; exact wa) λ_ _ _ h => h))
       rw [aaS (W := λb => b = a) na]
       exact hz
    ·refine fin W wa (λ_ z => z) (.inl λ_ z => z) λj v u nj qv qu => ?_
     obtain ⟨x, q1, q2⟩ := ai8 k1 qu
     have ok := v1.get qv q1
     rw [<-hK]
     cases x with
     | v T fr => cases q2; exact ok.rep e.wn
     | s j' =>
      refine (an ?_).elim
      exact List.any_eq_true.mpr ⟨_, aib nj q1, rfl⟩
  ·exact h.elim
 ·exact h.elim
end
end L2
end
section
namespace L2
open PySem PySem.Spec PyProof.Rows
section
variable {prog : Program} {w : World} {A : Around} {R : Result -> Shared -> Prop} {s : Shared}
end
noncomputable def akq (wi : TI) (g : TG) (src : List (Option Nat)) (tc : TT) (te : TE) : TE := λσ H Q => wi σ H λJ H1 => ∀ D, H1 D = none ->
 ∃ W : Nat -> Nat -> St -> Hp -> Prop, (∃ m, W 0 m (aeV src σ) (upd H1 D (.lst []))) /\ ∀ i m σ' H', W i m σ' H' ->
  (J.stop i H' /\ QAt Q D H') \/ (J.go i H' /\ ∀ x H'', J.yld i H' x H'' -> g x σ' H'' λσ2 H2 => tc σ2 H2 λb H2' => if b = true then te σ2 H2' λv H3 => ∃ xs, H3 D = some (.lst xs) /\ xs.length < sizeLine /\ ∃ m', m' < m /\ W (i + 1) m' σ2 (upd H3 D (.lst (xs ++ [v]))) else ∃ m', m' < m /\ W (i + 1) m' σ2 H2')
section
variable {X : Cx} {elt tg iter cnd : Expr} {scope sc : Scope} {pos : Pos} {No N : List Str} {src : List (Option Nat)} {wi : TI} {g : TG} {te : TE} {tc : TT}
end
end L2
end
section
namespace L2
open PySem PySem.Spec PyProof.Rows
noncomputable def abo : Sl -> Sl
 | .dp _ => .un
 | s => s
noncomputable def abe (src : List (Option Nat)) (ρ : En) : En := src.map λo => match o with
 | some j => abo ((ρ[j]?).getD .un)
 | none => .un
noncomputable def aaY : List (Option Nat) -> En -> En -> En
 | some j :: src, .ow ts :: ρi, ρ => aaY src ρi (aaZ j ts ρ)
 | some j :: src, .rf ts :: ρi, ρ => aaY src ρi (aaZ j ts ρ)
 | _ :: src, _ :: ρi, ρ => aaY src ρi ρ
 | _, _, ρ => ρ
noncomputable def abl : Option Sl -> Bool
 | some (.ow _) => true
 | some (.rf _) => true
 | _ => false
noncomputable def aa9 : List (Option Nat) -> En -> En -> Bool
 | some j :: src, s :: ρi, ρ => (!abl ρ[j]? || abl (some s)) && aa9 src ρi ρ
 | none :: src, _ :: ρi, ρ => aa9 src ρi ρ
 | [], _, _ => true
 | _, [], _ => false
theorem akr {ρ : En} {i : Nat} : abl ρ[i]? = true ↔ Mu ρ i := by
 constructor
 ·intro h
  unfold abl at h
  split at h <;> rename_i q
  ·exact ⟨_, .inl q⟩
  ·exact ⟨_, .inr q⟩
  ·cases h
 ·rintro ⟨ts, h | h⟩ <;> rw [h] <;> rfl
theorem afM : ∀ {src : List (Option Nat)} {ρi ρ : En} {k j : Nat}, aa9 src ρi ρ = true -> src[k]? = some (some j) -> Mu ρ j -> Mu ρi k
 | [], _, _, _, _, _, h, _ => by simp at h
 | some j' :: src, s :: ρi, ρ, k, j, h, hk, m => by
  unfold aa9 at h
  rw [Bool.and_eq_true] at h
  cases k with
  | zero =>
   simp at hk
   subst hk
   have h1 := h.1
   rw [akr.mpr m] at h1
   have h1 : abl (some s) = true := by simpa using h1
   cases s with
   | un => cases h1
   | sh _ => cases h1
   | dp _ => cases h1
   | ow ts => exact ⟨ts, .inl rfl⟩
   | rf ts => exact ⟨ts, .inr rfl⟩
  | succ k =>
   obtain ⟨ts, q⟩ := afM (k := k) h.2 (by simpa using hk) m
   exact ⟨ts, by simpa using q⟩
 | none :: src, s :: ρi, ρ, k, j, h, hk, m => by
  unfold aa9 at h
  cases k with
  | zero => simp at hk
  | succ k =>
   obtain ⟨ts, q⟩ := afM (k := k) h (by simpa using hk) m
   exact ⟨ts, by simpa using q⟩
 | some j' :: src, [], ρ, k, j, h, hk, m => by unfold aa9 at h; cases h
 | none :: src, [], ρ, k, j, h, hk, m => by unfold aa9 at h; cases h
noncomputable def Inj (src : List (Option Nat)) : Prop := ∀ (k k' j : Nat), src[k]? = some (some j) -> src[k']? = some (some j) -> k = k'
theorem adK {src : List (Option Nat)} (h : (src.filterMap id).Nodup) : Inj src := by
 induction src with
 | nil => intro k k' j h1; simp at h1
 | cons o src ih =>
  have tail : Inj src := by
   cases o with
   | none => exact ih (by simpa using h)
   | some j => exact ih (by simpa using (List.nodup_cons.mp (by simpa using h)).2)
  intro k k' j h1 h2
  have no : ∀ {m : Nat}, o = some j -> src[m]? = some (some j) -> False := λ{m} e q => by
   subst e
   have n := (List.nodup_cons.mp (show (j :: src.filterMap id).Nodup by simpa using h)).1
   exact n (List.mem_filterMap.mpr ⟨some j, List.mem_of_getElem? q, rfl⟩)
  cases k with
  | zero =>
   have e1 : o = some j := by simpa using h1
   cases k' with
   | zero => rfl
   | succ k' => exact (no e1 (by simpa using h2)).elim
  | succ k =>
   cases k' with
   | zero => exact (no (by simpa using h2) (by simpa using h1)).elim
   | succ k' => rw [tail k k' j (by simpa using h1) (by simpa using h2)]
theorem amk {ρ : En} {i j : Nat} {ts : List Tr} (h : j ≠ i) : (aaZ i ts ρ)[j]? = ρ[j]? := by
 unfold aaZ
 split
 ·exact List.getElem?_set_ne (Ne.symm h)
 ·exact List.getElem?_set_ne (Ne.symm h)
 ·rfl
theorem aqd {ρ ρ' : En} {i : Nat} {ts : List Tr} (h : ρ[i]? = ρ'[i]?) : (aaZ i ts ρ)[i]? = (aaZ i ts ρ')[i]? := by
 unfold aaZ
 rw [h]
 cases q : ρ'[i]? with
 | none => dsimp only; rw [h, q]
 | some s =>
  have l' : i < ρ'.length := (List.getElem?_eq_some_iff.mp q).1
  have l : i < ρ.length := (List.getElem?_eq_some_iff.mp (h.trans q)).1
  cases s with
  | un => dsimp only; rw [h, q]
  | sh _ => dsimp only; rw [h, q]
  | dp _ => dsimp only; rw [h, q]
  | ow _ => dsimp only; rw [aeg l, aeg l']
  | rf _ => dsimp only; rw [aeg l, aeg l']
theorem afk : ∀ (src : List (Option Nat)) (ρi ρ : En), (aaY src ρi ρ).length = ρ.length
 | [], ρi, ρ => by unfold aaY; rfl
 | o :: src, [], ρ => by cases o <;> (unfold aaY; rfl)
 | none :: src, s :: ρi, ρ => by unfold aaY; exact afk src ρi ρ
 | some j :: src, .un :: ρi, ρ => by unfold aaY; exact afk src ρi ρ
 | some j :: src, .sh _ :: ρi, ρ => by unfold aaY; exact afk src ρi ρ
 | some j :: src, .dp _ :: ρi, ρ => by unfold aaY; exact afk src ρi ρ
 | some j :: src, .ow ts :: ρi, ρ => by unfold aaY; rw [afk src ρi, ahc]
 | some j :: src, .rf ts :: ρi, ρ => by unfold aaY; rw [afk src ρi, ahc]
theorem adu : ∀ {src : List (Option Nat)} {ρi ρ : En} {j : Nat} {s : Sl}, Inj src -> (aaY src ρi ρ)[j]? = some s ->
  (∃ (k : Nat) (ts : List Tr), src[k]? = some (some j) /\ (ρi[k]? = some (.ow ts) \/ ρi[k]? = some (.rf ts)) /\ (aaZ j ts ρ)[j]? = some s) \/ ((∀ k : Nat, src[k]? = some (some j) -> ¬ Mu ρi k) /\ ρ[j]? = some s)
 | [], ρi, ρ, j, s, _, h => by
  unfold aaY at h
  exact .inr ⟨λk q => by simp at q, h⟩
 | o :: src, [], ρ, j, s, _, h => by
  have h : ρ[j]? = some s := by cases o <;> (unfold aaY at h; exact h)
  refine .inr ⟨λk _ m => ?_, h⟩
  obtain ⟨_, q | q⟩ := m <;> simp at q
 | o :: src, x :: ρi, ρ, j, s, I, h => by
  have It : Inj src := λk k' j h1 h2 => by
   have := I (k + 1) (k' + 1) j (by simpa using h1) (by simpa using h2)
   omega
  have keep : (o = none \/ abl (some x) = false) -> (aaY src ρi ρ)[j]? = some s -> (∃ (k : Nat) (ts : List Tr), (o :: src)[k]? = some (some j) /\ ((x :: ρi)[k]? = some (.ow ts) \/ (x :: ρi)[k]? = some (.rf ts)) /\ (aaZ j ts ρ)[j]? = some s) \/ ((∀ k : Nat, (o :: src)[k]? = some (some j) -> ¬ Mu (x :: ρi) k) /\ ρ[j]? = some s) := λc h => by
   rcases adu It h with ⟨k, ts, q1, q2, q3⟩ | ⟨n, q⟩
   ·exact .inl ⟨k + 1, ts, by simpa using q1, by simpa using q2, q3⟩
   ·refine .inr ⟨λk qk m => ?_, q⟩
    cases k with
    | zero =>
     rcases c with c | c
     ·subst c; simp at qk
     ·rw [<-akr] at m
      have m : abl (some x) = true := m
      rw [c] at m
      cases m
    | succ k =>
     obtain ⟨ts, m⟩ := m
     exact n k (by simpa using qk) ⟨ts, by simpa using m⟩
  have put : ∀ (i : Nat) (ts : List Tr), o = some i -> (x = .ow ts \/ x = .rf ts) -> (aaY src ρi (aaZ i ts ρ))[j]? = some s -> (∃ (k : Nat) (ts : List Tr), (o :: src)[k]? = some (some j) /\ ((x :: ρi)[k]? = some (.ow ts) \/ (x :: ρi)[k]? = some (.rf ts)) /\ (aaZ j ts ρ)[j]? = some s) \/ ((∀ k : Nat, (o :: src)[k]? = some (some j) -> ¬ Mu (x :: ρi) k) /\ ρ[j]? = some s) := λi ts eo ex h => by
   rcases adu It h with ⟨k, us, q1, q2, q3⟩ | ⟨n, q⟩
   ·have ne : j ≠ i := λz => by
     subst z
     have := I 0 (k + 1) j (by simpa using eo) (by simpa using q1)
     omega
    refine .inl ⟨k + 1, us, by simpa using q1, by simpa using q2, ?_⟩
    rw [<-aqd (amk ne)]
    exact q3
   ·by_cases e : j = i
    ·subst e
     refine .inl ⟨0, ts, by simpa using eo, ?_, q⟩
     rcases ex with rfl | rfl
     ·exact .inl rfl
     ·exact .inr rfl
    ·rw [amk e] at q
     refine .inr ⟨λk qk m => ?_, q⟩
     cases k with
     | zero =>
      rw [eo] at qk
      simp at qk
      exact e qk.symm
     | succ k =>
      obtain ⟨ts, m⟩ := m
      exact n k (by simpa using qk) ⟨ts, by simpa using m⟩
  cases o with
  | none => unfold aaY at h; exact keep (.inl rfl) h
  | some i =>
   cases x with
   | un => unfold aaY at h; exact keep (.inr rfl) h
   | sh _ => unfold aaY at h; exact keep (.inr rfl) h
   | dp _ => unfold aaY at h; exact keep (.inr rfl) h
   | ow ts => unfold aaY at h; exact put i ts rfl (.inl rfl) h
   | rf ts => unfold aaY at h; exact put i ts rfl (.inr rfl) h
theorem aic {src : List (Option Nat)} {ρ : En} {k : Nat} {s : Sl} (h : (abe src ρ)[k]? = some s) (n : s ≠ .un) : ∃ j, src[k]? = some (some j) /\ ρ[j]? = some s := by
 unfold abe at h
 rw [List.getElem?_map] at h
 cases q : src[k]? with
 | none => rw [q] at h; cases h
 | some o =>
  rw [q] at h
  cases o with
  | none => cases h; exact (n rfl).elim
  | some j =>
   refine ⟨j, rfl, ?_⟩
   have h : abo ((ρ[j]?).getD .un) = s := Option.some.inj h
   cases z : ρ[j]? with
   | none => rw [z] at h; exact (n h.symm).elim
   | some s' =>
    rw [z] at h
    have h : abo s' = s := h
    cases s' <;> first | exact congrArg some h | exact (n h.symm).elim
theorem an3 {src : List (Option Nat)} {ρ : En} {k : Nat} {ts : List Tr} (h : (abe src ρ)[k]? = some (.dp ts)) : False := by
 unfold abe at h
 rw [List.getElem?_map] at h
 cases q : src[k]? with
 | none => rw [q] at h; cases h
 | some o =>
  rw [q] at h
  cases o with
  | none => cases h
  | some j =>
   have h : abo ((ρ[j]?).getD .un) = .dp ts := Option.some.inj h
   cases z : (ρ[j]?).getD Sl.un <;> rw [z] at h <;> cases h
theorem afw {src : List (Option Nat)} {ρi ρ : En} {j : Nat} {ts : List Tr} (I : Inj src) (h : (aaY src ρi ρ)[j]? = some (.dp ts)) : ρ[j]? = some (.dp ts) := by
 rcases adu I h with ⟨k, us, _, _, q⟩ | ⟨_, q⟩
 ·exact adI q
 ·exact q
theorem ahe {src : List (Option Nat)} {σ : St} {k j : Nat} (h : src[k]? = some (some j)) : (aeV src σ)[k]? = some ((σ[j]?).join) := by
 unfold aeV
 rw [List.getElem?_map, h]
 rfl
end L2
end
section
namespace L2
open PySem PySem.Spec PyProof.Rows
noncomputable def OU (src : List (Option Nat)) (ρ : En) (σ : St) (F : Nat -> List Addr) (b : Addr) : Prop := (∃ j : Nat, Mu ρ j /\ σ[j]? = some (some (.ref b)) /\ ∀ k : Nat, src[k]? ≠ some (some j)) \/ ∃ (j : Nat) (ts : List Tr), ρ[j]? = some (.dp ts) /\ b ∈ F j
open Classical in
noncomputable def tB' (t : Tx) (src : List (Option Nat)) (ρ : En) (σ : St) (F : Nat -> List Addr) (H1 : Hp) (D : Addr) (xs : List V) : Tx := ⟨t.K, t.Z, t.R, t.H0, λb => if b = D then some (.lst xs) else if OU src ρ σ F b then H1 b else t.B b, λ_ => False⟩
section
variable {t : Tx} {src : List (Option Nat)} {ρ1 : En} {σ : St} {F : Nat -> List Addr} {H1 : Hp} {D : Addr} {W : Addr -> Prop}
theorem B_D {xs : List V} : (tB' t src ρ1 σ F H1 D xs).B D = some (.lst xs) := if_pos rfl
theorem apa {xs : List V} {b : Addr} (h1 : b ≠ D) (h2 : ¬ OU src ρ1 σ F b) : (tB' t src ρ1 σ F H1 D xs).B b = t.B b := by
 unfold tB'
 dsimp only
 rw [if_neg h1, if_neg h2]
theorem aqe {xs : List V} {b : Addr} (h1 : b ≠ D) (h2 : OU src ρ1 σ F b) : (tB' t src ρ1 σ F H1 D xs).B b = H1 b := by
 unfold tB'
 dsimp only
 rw [if_neg h1, if_pos h2]
theorem aqf {k : Nat} (h : Mu (abe src ρ1) k) : ∃ j, src[k]? = some (some j) /\ Mu ρ1 j := by
 obtain ⟨ts, q | q⟩ := h
 ·obtain ⟨j, h1, h2⟩ := aic q (by intro z; cases z)
  exact ⟨j, h1, ts, .inl h2⟩
 ·obtain ⟨j, h1, h2⟩ := aic q (by intro z; cases z)
  exact ⟨j, h1, ts, .inr h2⟩
theorem ahf {k j : Nat} {v : V} (h : src[k]? = some (some j)) (q : (aeV src σ)[k]? = some (some v)) : σ[j]? = some (some v) := by
 rw [ahe h] at q
 have q := Option.some.inj q
 cases z : σ[j]? with
 | none => rw [z] at q; cases q
 | some o =>
  rw [z] at q
  have q : o = some v := q
  rw [q]
theorem aeC {k j : Nat} {v : V} (h : src[k]? = some (some j)) (q : σ[j]? = some (some v)) : (aeV src σ)[k]? = some (some v) := by
 rw [ahe h, q]
 rfl
theorem OU.tab {b : Addr} (e1F : EOF t W ρ1 σ H1 F) (z : Tb t.K b) : ¬ OU src ρ1 σ F b := by
 rintro (⟨j, m, q, _⟩ | ⟨j, ts, d', y⟩)
 ·obtain ⟨xs, h⟩ := EOk.asD ⟨F, e1F⟩ m q
  exact e1F.tab.ok.ne z h rfl
 ·obtain ⟨a, xs, _, d⟩ := e1F.dp j ts d'
  exact d.nt e1F.tab.ok z y
theorem avi {xs : List V} {b : Addr} (e1F : EOF t W ρ1 σ H1 F) (hD : H1 D = none) (z : Tb t.K b) : (tB' t src ρ1 σ F H1 D xs).B b = none := by
 have nD : b ≠ D := λy => by
  obtain ⟨ps, h⟩ := e1F.tab.ok.tbl z
  rw [y, hD] at h
  cases h
 rw [apa nD (OU.tab e1F z)]
 exact e1F.tab.B b z
theorem EOF.enter (I : Inj src) (e1F : EOF t W ρ1 σ H1 F) (hD : H1 D = none) : EOk (tB' t src ρ1 σ F H1 D []) (λb => W b \/ b = D) (abe src ρ1) (aeV src σ) (upd H1 D (.lst [])) := by
 have e1 : EOk t W ρ1 σ H1 := ⟨F, e1F⟩
 have e2 := (e1.hide (aaV hD (.lst [])) hD aaK).ok
 have tf := e2.tab
 refine ⟨λ_ => [], ?_, e2.zw, e2.z0, e2.wl, e2.f0, e2.n0, λk u h => ?_, λk ts h => ?_, λk ts h => ?_, λk k' a m1 m2 q1 q2 => ?_, λb o h => ?_, λk a m q => ?_, λk ts h => (an3 h).elim, λk _ ts _ _ h => (an3 h).elim, λk _ ts _ h => (an3 h).elim, λk ts h => (an3 h).elim, ⟨tf.ok, tf.w, tf.r, λb z => avi e1F hD z⟩⟩
 ·unfold abe aeV
  rw [List.length_map, List.length_map]
 ·obtain ⟨j, h1, h2⟩ := aic h (by intro z; cases z)
  obtain ⟨v, q1, q2⟩ := e2.sh j u h2
  exact ⟨v, aeC h1 q1, q2⟩
 ·obtain ⟨j, h1, h2⟩ := aic h (by intro z; cases z)
  obtain ⟨a, xs, q1, q2⟩ := e2.ow j ts h2
  exact ⟨a, xs, aeC h1 q1, q2⟩
 ·obtain ⟨j, h1, h2⟩ := aic h (by intro z; cases z)
  obtain ⟨a, xs, q1, q2⟩ := e2.rf j ts h2
  exact ⟨a, xs, aeC h1 q1, q2⟩
 ·obtain ⟨j, h1, n1⟩ := aqf m1
  obtain ⟨j', h2, n2⟩ := aqf m2
  have := e2.dis j j' a n1 n2 (ahf h1 q1) (ahf h2 q2)
  subst this
  exact I k k' j h1 h2
 ·by_cases h1 : b = D
  ·subst h1
   rw [B_D] at h
   rw [aaK]
   exact h
  ·by_cases h2 : OU src ρ1 σ F b
   ·rw [aqe h1 h2] at h
    rw [aaw h1]
    exact h
   ·rw [apa h1 h2] at h
    exact e2.pn b o h
 ·obtain ⟨j, h1, n1⟩ := aqf m
  have q := ahf h1 q
  have wa := e1.addr n1 q
  have nD : a ≠ D := λz => by subst z; exact e1.wn a wa hD
  have nO : ¬ OU src ρ1 σ F a := by
   rintro (⟨j', m', q', u'⟩ | ⟨j', ts, d', z⟩)
   ·have := e1.dis j j' a n1 m' q q'
    subst this
    exact u' k h1
   ·exact e1F.dm j' j ts a d' n1 q z
  rw [apa nD nO]
  exact e1.pd j a n1 q
theorem EOk.avj {xs ys : List V} {ρ : En} {τ : St} {H : Hp} {W' : Addr -> Prop} (e : EOk (tB' t src ρ1 σ F H1 D xs) W' ρ τ H) (w : W' D) (h0 : t.H0 D = none) : EOk (tB' t src ρ1 σ F H1 D ys) W' ρ τ (upd H D (.lst ys)) := by
 have ne : ∀ i a, Mu ρ i -> τ[i]? = some (some (.ref a)) -> a ≠ D := λi a m q z => by
  subst z
  have := e.pd i a m q
  rw [B_D] at this
  cases this
 obtain ⟨F', e⟩ := e
 have neD : ∀ i ts, ρ[i]? = some (Sl.dp ts) -> ∀ b ∈ F' i, b ≠ D := λi ts h b hb z => by
  subst z
  have := e.db i ts h b hb
  rw [B_D] at this
  cases this
 refine ⟨F', e.len, e.zw, e.z0, λb z => ?_, λb o h n => ?_, λb h => ?_, λi u h => ?_, λi ts h => ?_, λi ts h => ?_, e.dis, λb o h => ?_, λi a m q => ?_, λi ts h => ?_, e.dd, e.dm, λi ts h b hb => ?_, ⟨e.tab.ok.upd (e.pn D _ B_D), e.tab.w, e.tab.r, λb z => ?_⟩⟩
 ·by_cases q : b = D
  ·subst q; exact .inl ⟨ys, aaK⟩
  ·unfold Lt; rw [aaw q]; exact e.wl b z
 ·rw [aaw]
  ·exact e.f0 b o h n
  ·rintro rfl
   have h : t.H0 b = some o := h
   rw [h0] at h
   cases h
 ·by_cases q : b = D
  ·subst q; exact h0
  ·rw [aaw q] at h; exact e.n0 b h
 ·rw [acg w]
  exact e.sh i u h
 ·obtain ⟨a, zs, q1, q2, q3, q4, q5⟩ := e.ow i ts h
  rw [acg w]
  exact ⟨a, zs, q1, q2, q3, by rw [aaw (ne i a ⟨ts, .inl h⟩ q1)]; exact q4, q5⟩
 ·obtain ⟨a, zs, q1, q2, q3, q4, q5⟩ := e.rf i ts h
  rw [acg w]
  exact ⟨a, zs, q1, q2, q3, by rw [aaw (ne i a ⟨ts, .inr h⟩ q1)]; exact q4, q5⟩
 ·by_cases h1 : b = D
  ·subst h1
   rw [B_D] at h
   rw [aaK]
   exact h
  ·rw [aaw h1]
   refine e.pn b o ?_
   by_cases h2 : OU src ρ1 σ F b
   ·rw [aqe h1 h2] at h ⊢; exact h
   ·rw [apa h1 h2] at h ⊢; exact h
 ·have nD := ne i a m q
  have z := e.pd i a m q
  by_cases h2 : OU src ρ1 σ F a
  ·rw [aqe nD h2] at z ⊢; exact z
  ·rw [apa nD h2] at z ⊢; exact z
 ·obtain ⟨a, zs, q1, d⟩ := e.dp i ts h
  exact ⟨a, zs, q1, d.move rfl rfl (by rw [acg w]; exact Same.refl _) (λb hb => by obtain ⟨_, _, _, ww, _⟩ := d; exact (ww b hb).1) λb o hb q => by rw [aaw (neD i ts h b hb)]; exact q⟩
 ·have nD := neD i ts h b hb
  have z := e.db i ts h b hb
  by_cases h2 : OU src ρ1 σ F b
  ·rw [aqe nD h2] at z ⊢; exact z
  ·rw [apa nD h2] at z ⊢; exact z
 ·have y := e.tab.B b z
  have nD : b ≠ D := λq => by
   subst q
   rw [B_D] at y
   cases y
  by_cases h2 : OU src ρ1 σ F b
  ·rw [aqe nD h2] at y ⊢; exact y
  ·rw [apa nD h2] at y ⊢; exact y
theorem EOF.leave {xs : List V} {ρ : En} {τ : St} {H : Hp} {Wx : Addr -> Prop} {js : List Nat} (I : Inj src) (e1F : EOF t W ρ1 σ H1 F) (hD : H1 D = none) (e : EOk (tB' t src ρ1 σ F H1 D xs) (λb => W b \/ b = D) ρ τ H) (nx : ∀ b o, ¬ W b -> H1 b = some o -> H b = some o)
  (hj : ∀ k j : Nat, src[k]? = some (some j) -> k ∉ js) (ag : ∀ k, k ∉ js -> τ[k]? = (aeV src σ)[k]?) (so : aa9 src ρ ρ1 = true) (w1 : ∀ b, W b -> Wx b) (w2 : ∀ b, Wx b -> W b \/ b = D) : EOF t Wx (aaY src ρ ρ1) σ H F := by
 have e1 : EOk t W ρ1 σ H1 := ⟨F, e1F⟩
 have m1 : Same (aa2 W H1) (aa2 Wx H) := λb o h => by
  obtain ⟨n, h⟩ := abm h
  rw [aaS]
  ·exact nx b o n h
  ·intro z
   rcases w2 b z with z | rfl
   ·exact n z
   ·rw [hD] at h; cases h
 have m2 : Same (aa2 (λb => W b \/ b = D) H) (aa2 Wx H) := acd (λb _ _ z => w2 b z) λ_ _ _ h => h
 have muo : ∀ j, Mu (aaY src ρ ρ1) j -> Mu ρ1 j := λj m => by
  obtain ⟨ts, m | m⟩ := m <;> rcases adu I m with ⟨k, us, q1, q2, q3⟩ | ⟨n, q⟩
  ·exact ac6 ⟨ts, .inl q3⟩
  ·exact ⟨ts, .inl q⟩
  ·exact ac6 ⟨ts, .inr q3⟩
  ·exact ⟨ts, .inr q⟩
 have inner : ∀ (k j : Nat) (ts : List Tr) (a : Addr), src[k]? = some (some j) -> (ρ[k]? = some (.ow ts) \/ ρ[k]? = some (.rf ts)) -> σ[j]? = some (some (.ref a)) -> ∃ ys, H a = some (.lst ys) /\ aa3 t.K (aa2 Wx H) ys ts := λk j ts a q1 q2 q3 => by
  have z := ag k (hj k j q1)
  rw [aeC q1 q3] at z
  rcases q2 with q2 | q2
  ·obtain ⟨c, ys, h1, h2, h3, h4, h5⟩ := e.ow k ts q2
   rw [z] at h1
   cases h1
   exact ⟨ys, h4, h5.mono m2⟩
  ·obtain ⟨c, ys, h1, h2, h3, h4, h5⟩ := e.rf k ts q2
   rw [z] at h1
   cases h1
   exact ⟨ys, h4, h5.mono m2⟩
 have outer : ∀ (j : Nat) (a : Addr) (ys : List V), Mu ρ1 j -> (∀ k, src[k]? = some (some j) -> ¬ Mu ρ k) -> σ[j]? = some (some (.ref a)) -> H1 a = some (.lst ys) -> H a = some (.lst ys) := λj a ys m n q h => by
  have wa := e1.addr m q
  have nD : a ≠ D := λz => by subst z; exact e1.wn a wa hD
  refine e.pn a _ ?_
  rw [aqe nD (.inl ⟨j, m, q, λk z => n k z (afM so z m)⟩)]
  exact h
 refine ⟨by rw [afk]; exact e1.len, λb z => w1 b (e1.zw b z), e1.z0, λb z => e.wl b (w2 b z), e.f0, e.n0, λj u h => ?_, λj ts h => ?_, λj ts h => ?_, λj k a n1 n2 => e1.dis j k a (muo j n1) (muo k n2), λb o h => ?_, λj a m => e1.pd j a (muo j m), λj ts h => ?_, λj k ts us n h1 h2 => e1F.dd j k ts us n (afw I h1) (afw I h2), λj k ts c h1 m q => e1F.dm j k ts c (afw I h1) (muo k m) q, λj ts h => e1F.db j ts (afw I h), ⟨e.tab.ok, λb z => w1 b (e1.tab.w b z), e1.tab.r, e1.tab.B⟩⟩
 ·have h' : ρ1[j]? = some (.sh u) := by
   rcases adu I h with ⟨k, us, q1, q2, q3⟩ | ⟨n, q⟩
   ·rcases acz q3 with ⟨ne, _⟩ | ⟨_, ⟨_, _, z⟩ | ⟨_, _, z⟩ | ⟨_, q⟩⟩
    ·exact (ne rfl).elim
    ·cases z
    ·cases z
    ·exact q
   ·exact q
  obtain ⟨v, q1, q2⟩ := e1.sh j u h'
  exact ⟨v, q1, q2.mono m1⟩
 ·rcases adu I h with ⟨k, us, q1, q2, q3⟩ | ⟨n, q⟩
  ·rcases acz q3 with ⟨ne, _⟩ | ⟨_, ⟨ts0, q0, z⟩ | ⟨_, _, z⟩ | ⟨nm, q⟩⟩
   ·exact (ne rfl).elim
   ·cases z
    obtain ⟨a, ys, h1, h2, h3, h4, h5⟩ := e1.ow j ts0 q0
    obtain ⟨zs, k1, k2⟩ := inner k j ts a q1 q2 h1
    exact ⟨a, zs, h1, w1 a h2, h3, k1, k2⟩
   ·cases z
   ·exact (nm ⟨ts, .inl q⟩).elim
  ·obtain ⟨a, ys, h1, h2, h3, h4, h5⟩ := e1.ow j ts q
   exact ⟨a, ys, h1, w1 a h2, h3, outer j a ys ⟨ts, .inl q⟩ n h1 h4, h5.mono m1⟩
 ·rcases adu I h with ⟨k, us, q1, q2, q3⟩ | ⟨n, q⟩
  ·rcases acz q3 with ⟨ne, _⟩ | ⟨_, ⟨_, _, z⟩ | ⟨ts0, q0, z⟩ | ⟨nm, q⟩⟩
   ·exact (ne rfl).elim
   ·cases z
   ·cases z
    obtain ⟨a, ys, h1, h2, h3, h4, h5⟩ := e1.rf j ts0 q0
    obtain ⟨zs, k1, k2⟩ := inner k j ts a q1 q2 h1
    exact ⟨a, zs, h1, w1 a h2, h3, k1, k2⟩
   ·exact (nm ⟨ts, .inr q⟩).elim
  ·obtain ⟨a, ys, h1, h2, h3, h4, h5⟩ := e1.rf j ts q
   exact ⟨a, ys, h1, w1 a h2, h3, outer j a ys ⟨ts, .inr q⟩ n h1 h4, h5.mono m1⟩
 ·have nD : b ≠ D := λz => by
   subst z
   rw [e1.noB hD] at h
   cases h
  have nO : ¬ OU src ρ1 σ F b := by
   rintro (⟨j, m, q, _⟩ | ⟨j, ts, d', z⟩)
   ·rw [e1.pd j b m q] at h
    cases h
   ·rw [e1F.db j ts d' b z] at h
    cases h
  refine e.pn b o ?_
  rw [apa nD nO]
  exact h
 ·have hd := afw I h
  obtain ⟨a, ys, q1, d⟩ := e1F.dp j ts hd
  have ww : ∀ b ∈ F j, W b := λb hb => by obtain ⟨_, _, _, ww, _⟩ := d; exact (ww b hb).1
  refine ⟨a, ys, q1, d.move rfl rfl m1 (λb hb => w1 b (ww b hb)) λb o hb q => ?_⟩
  have nD : b ≠ D := λz => by subst z; exact e1.wn b (ww b hb) hD
  refine e.pn b o ?_
  rw [aqe nD (.inr ⟨j, ts, hd, hb⟩)]
  exact q
end
noncomputable def clV : Rv -> Rs Tr
 | .v T _ => .ok T
 | .s _ => .bad
theorem aml (r : Rv) (c : Str) : clV r ≠ .ex c := by cases r <;> (intro z; cases z)
noncomputable def adz (g : GF) (c : BF) (f : EF) : List Tr -> En -> Rs (List Tr × En)
 | [], ρ => .ok ([], ρ)
 | u :: us, ρ => (g u ρ).bind λρ1 => (c ρ1).bind λb => if b.1 = true then (f b.2).bind λp => (clV p.1).bind λT => (adz g c f us p.2).bind λz => .ok (T :: z.1, z.2) else adz g c f us b.2
noncomputable def acv (src : List (Option Nat)) (fi : IF) (g : GF) (c : BF) (f : EF) : EF := λρ => (fi ρ).bind λp => if p.1.length <= 100000 then (aa0 (adz g c f p.1 (abe src p.2))).bind λz => if aa9 src z.2 p.2 = true then .ok (.v (.lst z.1) true, aaY src z.2 p.2) else .bad else .bad
theorem an4 {t : Tx} {wi : TI} {g : TG} {src : List (Option Nat)} {tc : TT} {te : TE} {fi : IF} {gf : GF} {c : BF} {f : EF} {js : List Nat} (hi : SI t wi fi) (I : Inj src) (hj : ∀ k j : Nat, src[k]? = some (some j) -> k ∉ js) (ng : ∀ T ρ c, gf T ρ ≠ .ex c)
  (hg : ∀ t' : Tx, t'.K = t.K -> (∀ c, ¬ t'.EX c) -> SG t' g gf js) (hc : ∀ t' : Tx, t'.K = t.K -> (∀ c, ¬ t'.EX c) -> ST t' tc c) (he : ∀ t' : Tx, t'.K = t.K -> (∀ c, ¬ t'.EX c) -> SE t' te f) : SE t (akq wi g src tc te) (acv src fi gf c f) := λW ρ σ H Q e h => by
 refine hi W ρ σ H _ e (Rs.aag (Rs.aae h) λp h J H1 e1 s1 it => ?_)
 obtain ⟨us, ρ1⟩ := p
 dsimp only at h it e1
 split at h
 case isFalse => exact h.elim
 rename_i hlen
 intro D hD
 have h := adJ (Rs.aae h)
 obtain ⟨F, e1F⟩ := id e1
 have wD : ∀ b, W b -> b ≠ D := λb w z => by subst z; exact e1.wn b w hD
 have h0D : t.H0 D = none := e1.n0 D hD
 refine ⟨λi m τ H' => m = us.length - i /\ i <= us.length /\ ∃ ρ' xs acc, EOk (tB' t src ρ1 σ F H1 D xs) (λb => W b \/ b = D) ρ' τ H' /\ aa3 t.K (aa2 (λb => W b \/ b = D) H') xs acc /\ xs.length <= i /\ (∀ b o, ¬ W b -> H1 b = some o -> H' b = some o) /\ (∀ k, k ∉ js -> τ[k]? = (aeV src σ)[k]?) /\
   (adz gf c f (us.drop i) ρ').post (λ_ => False) (λz => (if aa9 src z.2 ρ1 = true then .ok (.v (.lst (acc ++ z.1)) true, aaY src z.2 ρ1) else .bad : Rs (Rv × En)).post t.EX (λp => ∀ v H', EOk t W p.2 σ H' -> Stp W H H' -> VOE t W p.2 σ H H' v p.1 -> Q v H')), ?_, ?_⟩
 ·refine ⟨us.length, by simp, Nat.zero_le _, abe src ρ1, [], [], e1F.enter I hD, .nil, Nat.le_refl _, λb o _ q => ?_, λ_ _ => rfl, ?_⟩
  ·rw [aaw (aa1 q hD)]; exact q
  ·rw [List.drop_zero]; exact h
 ·rintro i m τ H2 ⟨rfl, hi, ρ2, xs, acc, e2, r2, l2, n2, a2, h2⟩
  have sm : Same (aa2 W H1) (aa2 (λb => W b \/ b = D) H2) := λb o q => by
   obtain ⟨nw, q⟩ := abm q
   rw [aaS]
   ·exact n2 b o nw q
   ·rintro (z | rfl)
    ·exact nw z
    ·rw [hD] at q; cases q
  have q := it _ H2 sm e2.wl i
  by_cases hlt : i < us.length
  ·rw [List.drop_eq_getElem_cons hlt] at h2
   obtain ⟨go, y⟩ := q.2 us[i] (by simp [hlt])
   refine .inr ⟨go, λx H3 yl => ?_⟩
   obtain ⟨s3, r3⟩ := y x H3 yl
   have e3 := e2.grow s3
   refine hg (tB' t src ρ1 σ F H1 D xs) rfl (λ_ => id) _ ρ2 τ H3 x us[i] _ e3 r3 (Rs.aag (aiV (Rs.aae h2) (ng _ _)) λρ4 h σ4 e4 a4 => ?_)
   refine hc (tB' t src ρ1 σ F H1 D xs) rfl (λ_ => id) _ ρ4 σ4 H3 _ e4 (Rs.aag (Rs.aae h) λb h H5 e5 s5 => ?_)
   have st5 : Stp (λb => W b \/ b = D) H2 H5 := (Stp.of s3).trans s5
   have n5 : ∀ b o, ¬ W b -> H1 b = some o -> H5 b = some o := λb o nw qb => by
    have nD : b ≠ D := aa1 qb hD
    refine st5.keep b o ?_ (n2 b o nw qb)
    rintro (z | z)
    ·exact nw z
    ·exact nD z
   have a5 : ∀ k, k ∉ js -> σ4[k]? = (aeV src σ)[k]? := λk nk => (a4 k nk).trans (a2 k nk)
   split at h
   ·rename_i cb
    rw [if_pos cb]
    refine he (tB' t src ρ1 σ F H1 D xs) rfl (λ_ => id) _ b.2 σ4 H5 _ e5 (Rs.aag (Rs.aae h) λp h v H6 e6 s6 v6 => ?_)
    obtain ⟨T, kT, h⟩ := abx (Rs.aae h) (aml _)
    have rv : Rep t.K (aa2 (λb => W b \/ b = D) H6) v T := by
     obtain ⟨r, ρ7⟩ := p
     cases r with
     | s i => cases kT
     | v U fr =>
      cases kT
      exact VOk.rep (K := t.K) e5.wn v6.1
    refine ⟨xs, e6.pn D _ B_D, Nat.lt_of_le_of_lt (show xs.length <= 100000 by omega) (by decide), us.length - (i + 1), by omega, rfl, hlt, p.2, xs ++ [v], acc ++ [T], e6.avj (.inr rfl) h0D, ?_, by rw [List.length_append]; simp; omega, λb o nw q => ?_, a5, ?_⟩
    ·rw [acg (.inr rfl)]
     exact (r2.mono (st5.trans s6).off).app (.cons rv .nil)
    ·have nD : b ≠ D := aa1 q hD
     rw [aaw nD]
     refine s6.keep b o ?_ (n5 b o nw q)
     rintro (z | z)
     ·exact nw z
     ·exact nD z
    ·refine Rs.aag (Rs.aae h) λz h => ?_
     rw [List.append_assoc]
     exact h
   ·rename_i cb
    rw [if_neg cb]
    exact ⟨us.length - (i + 1), by omega, rfl, hlt, b.2, xs, acc, e5, r2.mono st5.off, by omega, n5, a5, h⟩
  ·have z : i = us.length := by omega
   subst z
   rw [List.drop_length] at h2
   have h2 : (if aa9 src ρ2 ρ1 = true then .ok (.v (.lst (acc ++ [])) true, aaY src ρ2 ρ1) else .bad : Rs (Rv × En)).post t.EX _ := h2
   refine .inl ⟨q.1 rfl, ?_⟩
   split at h2
   ·rename_i so
    rw [List.append_nil] at h2
    have hxs : H2 D = some (.lst xs) := e2.pn D _ B_D
    have eW : EOk t W (aaY src ρ2 ρ1) σ H2 := ⟨F, e1F.leave (Wx := W) I hD e2 n2 hj a2 so (λ_ w => w) λ_ w => .inl w⟩
    have eD : EOh t W D (aaY src ρ2 ρ1) σ H2 := ⟨F, e1F.leave (Wx := λb => W b \/ b = D) I hD e2 n2 hj a2 so (λ_ w => .inl w) λ_ w => w, λi ts hi z => by
     obtain ⟨c, ys, _, bs, _, _, ww, _⟩ := e1F.dp i ts (afw I hi)
     exact wD D (ww D z).1 rfl⟩
    have st : Stp W H1 H2 := ⟨n2, λb q => by
     cases z : H1 b with
     | none => rfl
     | some o =>
      by_cases w : W b
      ·exact ((e2.wl b (.inl w)).ne q).elim
      ·rw [n2 b o w z] at q
       cases q⟩
    refine h2 (.ref D) H2 eW (s1.trans st) ⟨⟨D, xs, acc, rfl, rfl, s1.dom D hD, hxs, r2.mono λb o q => ?_⟩, λU a _ ea => ?_⟩
    ·obtain ⟨nb, q⟩ := abm q
     rw [off_ne λz => nb (.inr z), aaS λz => nb (.inl z)]
     exact q
    ·cases ea
     exact eD
   ·exact h2.elim
noncomputable def adl : BF := λρ => .ok (true, ρ)
theorem aks {wi : TI} {g : TG} {src : List (Option Nat)} {te : TE} : akV wi g src te = akq wi g src (λ_ H Q => Q true H) te := by
 funext σ H Q
 simp only [akV, akq, if_true]
theorem ac7 {t : Tx} {wi : TI} {g : TG} {src : List (Option Nat)} {te : TE} {fi : IF} {gf : GF} {f : EF} {js : List Nat} (hi : SI t wi fi) (I : Inj src) (hj : ∀ k j : Nat, src[k]? = some (some j) -> k ∉ js) (ng : ∀ T ρ c, gf T ρ ≠ .ex c)
  (hg : ∀ t' : Tx, t'.K = t.K -> (∀ c, ¬ t'.EX c) -> SG t' g gf js) (he : ∀ t' : Tx, t'.K = t.K -> (∀ c, ¬ t'.EX c) -> SE t' te f) : SE t (akV wi g src te) (acv src fi gf adl f) := by
 rw [aks]
 exact an4 hi I hj ng hg (λt' _ _ W ρ σ H Q e h => h H e (Stp.refl _ _)) he
end L2
end
section
namespace L2
open PySem PySem.Spec PyProof.Rows
theorem PS.nox {X : Cx} {st : Stmt} {t : TS} (h : PS X.nox st t) : PS X st t := ⟨λpins s σ H D I hw =>
 wpAny_mono (h pins s σ H D (I.wish _) hw) (λ_ _ q => q.aeu) λ_ _ z => False.elim z⟩
theorem EOk.ex {t : Tx} {EX : Str -> Prop} {W : Addr -> Prop} {ρ : En} {σ : St} {H : Hp} (e : EOk t W ρ σ H) : EOk { t with EX := EX } W ρ σ H := e.elim λF e => ⟨F, e.len, e.zw, e.z0, e.wl, e.f0, e.n0, e.sh, e.ow, e.rf, e.dis, e.pn, e.pd, e.dp, e.dd, e.dm, e.db, ⟨e.tab.ok, e.tab.w, e.tab.r, e.tab.B⟩⟩
theorem EOk.auC {t : Tx} {EX : Str -> Prop} {W : Addr -> Prop} {ρ : En} {σ : St} {H : Hp} (e : EOk { t with EX := EX } W ρ σ H) : EOk t W ρ σ H := e.elim λF e => ⟨F, e.len, e.zw, e.z0, e.wl, e.f0, e.n0, e.sh, e.ow, e.rf, e.dis, e.pn, e.pd, e.dp, e.dd, e.dm, e.db, ⟨e.tab.ok, e.tab.w, e.tab.r, e.tab.B⟩⟩
noncomputable def ae3 (f : SF) : SF := λρ => aa0 (f ρ)
theorem agQ {t : Tx} {ts : TS} {f : SF} (h : ∀ t' : Tx, t'.K = t.K -> (∀ c, ¬ t'.EX c) -> SS t' ts f) : SS t ts (ae3 f) := λW ρ σ H D e q => by
 refine h { t with EX := λ_ => False } rfl (λ_ => id) W ρ σ H D e.ex (Rs.aag (adJ q) λp q => ?_)
 obtain ⟨fl, ρ'⟩ := p
 cases fl with
 | nx => exact λW' σ' H' e' n => q W' σ' H' e'.auC n
 | rt T fr =>
  refine λv W' σ' H' e' n => q v W' σ' H' e'.auC ?_
  cases fr <;> exact n
 | bk => exact λW' σ' H' e' n => q W' σ' H' e'.auC n
 | ct => exact λW' σ' H' e' n => q W' σ' H' e'.auC n
theorem axE {p : Int -> Int -> Int} (a b : Tr) (c : Str) : gI p a b ≠ .ex c := by
 cases a <;> cases b <;> (intro z; cases z)
theorem aqg {q : Int -> Int -> Bool} {p : Int -> Int -> Int} (a b : Tr) (c : Str) : gIC q p a b ≠ .ex c := by
 cases a <;> cases b <;> first | (intro z; cases z; done) | (dsimp only [gIC]; split <;> (intro z; cases z))
theorem avk {p : Int -> Int -> Bool} (a b : Tr) (c : Str) : gB p a b ≠ .ex c := by
 cases a <;> cases b <;> (intro z; cases z)
theorem avl (a b : Tr) (c : Str) : gEq a b ≠ .ex c := by unfold gEq; split <;> (intro z; cases z)
theorem avm (a b : Tr) (c : Str) : gNe a b ≠ .ex c := by unfold gNe; split <;> (intro z; cases z)
theorem avn {f : Bool -> Bool} (a b : Tr) (c : Str) : gIn f a b ≠ .ex c := by
 cases b <;> first | (intro z; cases z; done) | (dsimp only [gIn]; split <;> (intro z; cases z))
theorem avo {f : Bool -> Bool} (a b : Tr) (c : Str) : gIs f a b ≠ .ex c := by
 cases b <;> (intro z; cases z)
theorem asI (a b : Tr) (c : Str) : aaW a b ≠ .ex c := by
 cases a <;> cases b <;> first | (intro z; cases z; done) | (dsimp only [aaW]; split <;> (intro z; cases z))
theorem asJ (a b : Tr) (c : Str) : abw a b ≠ .ex c := by
 cases a <;> cases b <;> first | (intro z; cases z; done) | (dsimp only [abw]; split <;> (intro z; cases z))
theorem asK (a b : Tr) (c : Str) : abN a b ≠ .ex c := aqg a b c
theorem asL (a b : Tr) (c : Str) : abd a b ≠ .ex c := aqg a b c
theorem asM (a b : Tr) (c : Str) : abF a b ≠ .ex c := aqg a b c
theorem asN (a b : Tr) (c : Str) : aa5 a b ≠ .ex c := axE a b c
theorem avp (a b : Tr) (c : Str) : gGt a b ≠ .ex c := avk a b c
theorem aie (a b : Tr) (c : Str) : gLe a b ≠ .ex c := avk a b c
theorem avq (a b : Tr) (c : Str) : gGe a b ≠ .ex c := avk a b c
theorem asO (a b : Tr) (c : Str) : gLt a b ≠ .ex c := by
 cases a <;> cases b <;> first | (intro z; cases z; done) | (dsimp only [gLt]; split <;> (intro z; cases z))
theorem avr (a b : Tr) (c : Str) : gIx a b ≠ .ex c := by
 cases a <;> cases b <;> first | (intro z; cases z; done) | (dsimp only [gIx]; split <;> first | (intro z; cases z; done) | (split <;> (intro z; cases z)))
theorem asQ (a : Tr) (c : Str) : aaO a ≠ .ex c := by
 cases a <;> first | (intro z; cases z; done) | (dsimp only [aaO]; split <;> (intro z; cases z))
theorem asR (a : Tr) (c : Str) : abT a ≠ .ex c := by cases a <;> (intro z; cases z)
theorem aqh (a : Tr) (c : Str) : aaD a ≠ .ex c := by cases a <;> (intro z; cases z)
theorem an5 (a : Tr) (c : Str) : aaq a ≠ .ex c := by cases a <;> (intro z; cases z)
theorem asS (a : Tr) (c : Str) : anq a ≠ .ex c := by unfold anq; split <;> (intro z; cases z)
theorem asT (a b : Tr) (c : Str) : abO a b ≠ .ex c := by cases a <;> cases b <;> (intro z; cases z)
theorem asU (a b : Tr) (c : Str) : abP a b ≠ .ex c := by cases a <;> cases b <;> (intro z; cases z)
theorem asV (a : Tr) (c : Str) : abG a ≠ .ex c := by
 cases a <;> first | (intro z; cases z; done) | (dsimp only [abG]; split <;> (intro z; cases z))
theorem acn {i : Nat} (T : Tr) (ρ : En) (c : Str) : gN i T ρ ≠ .ex c := by intro z; cases z
theorem akt (Ts : List Tr) (ρ : En) (c : Str) : aeh Ts ρ ≠ .ex c := by cases Ts <;> (intro z; cases z)
theorem aif {f : GF} {g : GFs} (h1 : ∀ T ρ c, f T ρ ≠ .ex c) (h2 : ∀ T ρ c, g T ρ ≠ .ex c) (Ts : List Tr) (ρ : En) (c : Str) : abL f g Ts ρ ≠ .ex c := by
 cases Ts with
 | nil => intro z; cases z
 | cons T r => exact akp (h1 T ρ) (λρ' => h2 r ρ') c
theorem auD {n : Nat} {f : GFs} (h : ∀ T ρ c, f T ρ ≠ .ex c) (T : Tr) (ρ : En) (c : Str) : gT n f T ρ ≠ .ex c := by
 cases T <;> first | (intro z; cases z; done) | (dsimp only [gT]; split <;> first | exact h _ _ _ | (intro z; cases z))
noncomputable def ari (f : AF) (n : Nat) : Prop := ∀ ρ p, f ρ = .ok p -> p.1.length = n
theorem aaP : ari aaB 0 := λρ p h => by cases h; rfl
theorem aam {f : EF} {g : AF} {n : Nat} (h : ari g n) : ari (aad f g) (n + 1) := λρ p q => by
 unfold aad at q
 obtain ⟨a, q1, q⟩ := abj q
 obtain ⟨b, q2, q⟩ := abj q
 cases q
 rw [List.length_cons, h _ _ q2]
noncomputable def Gk (K : PySem.W.Frag) (mg : Str -> Option Value) (x : Str) (v : V) (T : Tr) : Prop := ∃ u, mg x = some u /\ RelV v u /\ ∀ H, Rep (nlK K) H v T
theorem avs {X : Cx} {x : Str} {v : V} {T : Tr} {pos : Pos} (h : Gk X.K X.mg x v T) (hg : Gl X x := by rfl) (hd : (x == ("__debug__" : Str)) = false := by decide) : PE X (.Name x pos) (tC v) := by
 obtain ⟨u, h1, h2, _⟩ := h
 exact alI hg h1 h2 hd
theorem asW {t : Tx} {K : PySem.W.Frag} {mg : Str -> Option Value} {x : Str} {v : V} {T : Tr} (hK : t.K = nlK K) (h : Gk K mg x v T) : SE t (tC v) (eC T) := by
 obtain ⟨u, _, _, h⟩ := h
 exact ar3 λH => by rw [hK]; exact h H
end L2
end
section
namespace L2
open PySem PySem.Spec PyProof.Rows
section
variable {t : Tx} {K : PySem.W.Frag} {ta tb tc : TE} {fa fb fc : EF}
theorem adb (hK : t.K = nlK K) (ha : SE t ta fa) (hb : SE t tb fb) : SE t (tOp (ap3 K) ta tb) (eOp aaW fa fb) := aec (by rw [hK]; exact ar8) asI ha hb
theorem agF (hK : t.K = nlK K) (ha : SE t ta fa) (hb : SE t tb fb) : SE t (tOp (rI0 λi j => .int (i - j)) ta tb) (eOp aa5 fa fb) := aec (by rw [hK]; exact ase) asN ha hb
theorem aga (hK : t.K = nlK K) (ha : SE t ta fa) (hb : SE t tb fb) : SE t (tOp (ap4 K) ta tb) (eOp abw fa fb) := aec (by rw [hK]; exact ar9 (K := K)) asJ ha hb
theorem amm (hK : t.K = nlK K) (ha : SE t ta fa) (hb : SE t tb fb) : SE t (tOp (rI anS λi j => .int (i.fdiv j)) ta tb) (eOp abN fa fb) := aec (by rw [hK]; exact asa) asK ha hb
theorem aii (hK : t.K = nlK K) (ha : SE t ta fa) (hb : SE t tb fb) : SE t (tOp (rI (λ_ j => j ≠ 0) λi j => .int (i.fmod j)) ta tb) (eOp abd fa fb) := aec (by rw [hK]; exact asb) asL ha hb
theorem an6 (hK : t.K = nlK K) (ha : SE t ta fa) (hb : SE t tb fb) : SE t (tOp (rI auZ λi j => .int (i ^ j.toNat)) ta tb) (eOp abF fa fb) := aec (by rw [hK]; exact asd) asM ha hb
theorem x_eq (hK : t.K = nlK K) (ha : SE t ta fa) (hb : SE t tb fb) : SE t (tOp (au2 K) ta tb) (eOp gEq fa fb) := aec (by rw [hK]; exact au9) avl ha hb
theorem aqi (hK : t.K = nlK K) (ha : SE t ta fa) (hb : SE t tb fb) : SE t (tOp (au6 K) ta tb) (eOp gNe fa fb) := aec (by rw [hK]; exact ava) avm ha hb
theorem aqj (hK : t.K = nlK K) (ha : SE t ta fa) (hb : SE t tb fb) : SE t (tOp (ai4 K) ta tb) (eOp (gIn not) fa fb) := aec (by rw [hK]; exact anQ) avn ha hb
theorem axF (hK : t.K = nlK K) (ha : SE t ta fa) (hb : SE t tb fb) : SE t (tOp (λx y H Q => y = .non /\ Q (.bl (decide (x = .non))) H) ta tb) (eOp (gIs id) fa fb) := aec (by rw [hK]; exact ar7) avo ha hb
theorem x_lt (hK : t.K = nlK K) (ha : SE t ta fa) (hb : SE t tb fb) : SE t (tOp (avd K) ta tb) (eOp gLt fa fb) := aec (by rw [hK]; exact asf) asO ha hb
theorem awZ (hK : t.K = nlK K) (ha : SE t ta fa) (hb : SE t tb fb) : SE t (tOp (rI0 λi j => .bl (decide (i <= j))) ta tb) (eOp gLe fa fb) := aec (by rw [hK]; exact ah4) aie ha hb
theorem aw0 (hK : t.K = nlK K) (ha : SE t ta fa) (hb : SE t tb fb) : SE t (tOp (rI0 λi j => .bl (decide (j < i))) ta tb) (eOp gGt fa fb) := aec (by rw [hK]; exact avb) avp ha hb
theorem x_ge (hK : t.K = nlK K) (ha : SE t ta fa) (hb : SE t tb fb) : SE t (tOp (rI0 λi j => .bl (decide (j <= i))) ta tb) (eOp gGe fa fb) := aec (by rw [hK]; exact avc) avq ha hb
theorem aep (hK : t.K = nlK K) (ha : SE t ta fa) (hb : SE t tb fb) : SE t (tOp (rIx K) ta tb) (eOp gIx fa fb) := aec (by rw [hK]; exact ash) avr ha hb
theorem ahg (hK : t.K = nlK K) {r r' : R2} {g g' : G2} (o : OpT (nlK K) r g) (o' : OpT (nlK K) r' g') (n : ∀ a b c, g a b ≠ .ex c) (n' : ∀ a b c, g' a b ≠ .ex c) (ha : SE t ta fa) (hb : SE t tb fb) (hc : SE t tc fc) : SE t (ajZ r r' ta tb tc) (af7 g g' fa fb fc) := anT (by rw [hK]; exact o) (by rw [hK]; exact o') n n' ha hb hc
variable {tl : TA} {fl : AF}
theorem x_len (hK : t.K = nlK K) (ha : SA t tl fl) : SE t (tCB (ap8 K) tl) (eCB (g1 aaO) fl) := ah7 (by rw [hK]; exact arh asp) (agO asQ) ha
theorem asY (hK : t.K = nlK K) (ha : SA t tl fl) : SE t (tCB (λxs H Q => ∃ i, xs = [.int i] /\ Q (.int (if i < 0 then -i else i)) H) tl) (eCB (g1 abT) fl) := ah7 (by rw [hK]; exact arh asq) (agO asR) ha
theorem apb (hK : t.K = nlK K) (ha : SA t tl fl) : SE t (tCB (λxs H Q => ∃ p ys, xs = [.ref p] /\ (SqL K H p ys \/ SqT K H p ys) /\ ∀ l, H l = none -> Q (.ref l) (upd H l (.lst ys))) tl) (eCB (g1 aaD) fl) := ah7 (by rw [hK]; exact arh ap9) (agO aqh) ha
theorem amn (hK : t.K = nlK K) (ha : SA t tl fl) : SE t (tCB (λxs H Q => ∃ p ys, xs = [.ref p] /\ ((SqL K H p ys /\ ∀ l, H l = none -> Q (.ref l) (upd H l (.tup ys))) \/ (SqT K H p ys /\ Q (.ref p) H))) tl) (eCB (g1 aaq) fl) := ah7 (by rw [hK]; exact arh anU) (agO an5) ha
theorem asZ (hK : t.K = nlK K) (ha : SA t tl fl) : SE t (tCB (au4 K) tl) (eCB (g1 anq) fl) := ah7 (by rw [hK]; exact arh asr) (agO asS) ha
theorem an7 (hK : t.K = nlK K) (ha : SA t tl fl) : SE t (tCB (au3 K) tl) (eCB (g1 abG) fl) := ah7 (by rw [hK]; exact arh asw) (agO asV) ha
theorem avt (hK : t.K = nlK K) (ha : SA t tl fl) : SE t (tCB (λxs H Q => ∃ i j, xs = [.int i, .int j] /\ Q (.int (if j < i then j else i)) H) tl) (eCB (g2 abO) fl) := ah7 (by rw [hK]; exact awY asu) (ao5 asT) ha
theorem avu (hK : t.K = nlK K) (ha : SA t tl fl) : SE t (tCB (λxs H Q => ∃ i j, xs = [.int i, .int j] /\ Q (.int (if j > i then j else i)) H) tl) (eCB (g2 abP) fl) := ah7 (by rw [hK]; exact awY asv) (ao5 asU) ha
theorem abA (hK : t.K = nlK K) {cl : Str -> Addr} {n : Nat} {F : FP} {E : XK} (hx : ∀ c H', F0 t H' -> t.EX c -> E (.ref (cl c)) none H') (hn : ari fl n) (ha : SA t tl fl) : SE t (ahN (spP K cl n F) [] E tl) (aaM F fl) := ako hK hx hn ha
theorem acA (hK : t.K = nlK K) {cl : Str -> Addr} {n : Nat} {F : FP} {E : XK} (hx : ∀ c, ¬ t.EX c) (hn : ari fl n) (ha : SA t tl fl) : SE t (ahN (spP K cl n F) [] E tl) (aaM F fl) := ako hK (λc H' _ q => (hx c q).elim) hn ha
theorem abB (hK : t.K = nlK K) {n r nl : Nat} {b : SF} {E : XK} (hn : ari fl n) (ha : SA t tl fl) : SE t (ahN (spR K n r (fnR nl r b)) [] E tl) (aaQ r (fnR nl r b) fl) := an2 hK (aqc nl r b) hn ha
end
end L2
end
section
namespace L2
open PySem PySem.Spec PyProof.Rows
noncomputable def fuI (i : Nat) (ρ : En) : Nat := match ρ[i]? with
 | some (.sh (.int n)) => n.natAbs + 1
 | _ => 0
theorem adL {src : List (Option Nat)} {js : List Nat} (h : js.all (λk => (src[k]?).join.isNone) = true) : ∀ k j : Nat, src[k]? = some (some j) -> k ∉ js := λk j q m => by
 have := List.all_eq_true.mp h k m
 rw [q] at this
 cases this
abbrev bmV : List Value := [.type "ValueError", .type "Exception", .type "BaseException", .type "object"]
noncomputable def afl : GM := λts as => match as with
 | [.int i] => if okR i = true then (match seqIndex? i ts.length with
  | some k => (match ts[k]? with
   | some T => .ok (ts.eraseIdx k, T)
   | none => .bad)
  | none => .bad) else .bad
 | _ => .bad
theorem aa3.erase {K : PySem.W.Frag} {H : Hp} : ∀ {xs : List V} {ts : List Tr} (k : Nat), aa3 K H xs ts -> aa3 K H (xs.eraseIdx k) (ts.eraseIdx k)
 | _, _, _, .nil => .nil
 | _, _, 0, .cons _ r => r
 | _, _, k + 1, .cons h r => .cons h (aa3.erase k r)
theorem as3 : MtT aoU afl := λK G a xs ts vs as H Q ts' T hx r ra q h => by
 unfold afl at q
 split at q
 ·rename_i i
  split at q
  ·rename_i c
   split at q
   ·rename_i k ek
    split at q
    ·rename_i U eU
     cases q
     cases ra with
     | cons h1 r1 =>
      cases r1
      cases h1
      unfold okR at c
      rw [Bool.and_eq_true] at c
      have c1 := of_decide_eq_true c.1
      have c2 := of_decide_eq_true c.2
      obtain ⟨y, ey, ry⟩ := r.ao0 eU
      exact ⟨a, xs, i, k, y, rfl, rfl, hx, by omega, by omega, by rw [r.length]; exact ek, ey, h _ _ (r.erase k) ry⟩
    ·cases q
   ·cases q
  ·cases q
 ·cases q
theorem aqk (ts as : List Tr) (c : Str) : afl ts as ≠ .ex c := by
 unfold afl
 split <;> (try split) <;> (try split) <;> (try split) <;> (intro z; cases z)
noncomputable def aw1 : G1
 | .lst ts => .ok (.lst ts.reverse, true)
 | _ => .bad
noncomputable def axG (fa : EF) : EF := λρ => (fa ρ).bind λp => (dr p.2 p.1).bind λa => (aw1 a).bind λz => .ok (.v z.1 z.2, p.2)
end L2
end
section
namespace L2
open PySem PySem.Spec PyProof.Rows
noncomputable def aql (i : Int) : TE := λ_ H Q => Q (.int i) H
noncomputable def kI : Const -> Option Int
 | .int i => some i
 | _ => none
noncomputable def bI (o : Operator) (i j : Int) : Option Int := match o with
 | .Sub => some (i - j)
 | .Add => some (i + j)
 | .Pow => if 0 <= j /\ j <= 100 /\ i.natAbs <= 1000 then some (i ^ j.toNat) else none
 | _ => none
noncomputable def uI (o : UnaryOp) (i : Int) : Option Int := match o with
 | .USub => some (-i)
 | _ => none
noncomputable def cI : Expr -> Option Int
 | .Constant c _ _ => kI c
 | .UnaryOp o e _ => (cI e).bind (uI o)
 | .BinOp a o b _ => (cI a).bind λi => (cI b).bind λj => bI o i j
 | _ => none
theorem avv {X : Cx} {c : Const} {k : Nat} {p : Pos} {i : Int} (h : kI c = some i) : PE X (.Constant c k p) (aql i) := by
 cases c <;> first | (cases h; exact aas) | cases h
theorem avw {X : Cx} {o : UnaryOp} {e : Expr} {p : Pos} {i k : Int} (h : uI o i = some k) (he : PE X e (aql i)) : PE X (.UnaryOp o e p) (aql k) := by
 cases o <;> first | (cases h; exact (arD aoS he).imp λσ H Q q => ⟨i, rfl, q⟩) | cases h
theorem avx {X : Cx} {o : Operator} {a b : Expr} {p : Pos} {i j k : Int} (h : bI o i j = some k) (ha : PE X a (aql i)) (hb : PE X b (aql j)) : PE X (.BinOp a o b p) (aql k) := by
 cases o <;> try cases h
 ·exact (abb aoR ha hb).imp λσ H Q q => ⟨i, j, rfl, rfl, q⟩
 ·exact (abb adB ha hb).imp λσ H Q q => ⟨i, j, rfl, rfl, q⟩
 ·dsimp only [bI] at h
  split at h
  ·rename_i c
   cases h
   have z : (2 : Nat) ^ 64 = 18446744073709551616 := by decide
   exact (abb ahM ha hb).imp λσ H Q q => ⟨i, j, rfl, rfl, ⟨c.1, by omega, by omega⟩, q⟩
  ·cases h
theorem an8 {X : Cx} (e : Expr) (k : Int) (h : cI e = some k) : PE X e (aql k) := by
 cases e with
 | Constant c _ _ => exact avv h
 | UnaryOp o a _ =>
  have h : (cI a).bind (uI o) = some k := h
  cases e1 : cI a with
  | none => rw [e1] at h; cases h
  | some i => rw [e1] at h; exact avw h (an8 a i e1)
 | BinOp a o b _ =>
  have h : ((cI a).bind λi => (cI b).bind λj => bI o i j) = some k := h
  cases e1 : cI a with
  | none => rw [e1] at h; cases h
  | some i =>
   cases e2 : cI b with
   | none => rw [e1, e2] at h; cases h
   | some j => rw [e1, e2] at h; exact avx h (an8 a i e1) (an8 b j e2)
 | _ => cases h
noncomputable def kT : Const -> Option Tr
 | .none => some .non
 | .bool b => some (.bl b)
 | .str x => some (.str x)
 | .int i => some (.int i)
 | _ => none
mutual
noncomputable def cT : Expr -> Option Tr
 | .Constant c _ _ => kT c
 | .Tuple es _ _ => (cTs es).map .tup
 | .List es _ => (cTs es).map .lst
 | .UnaryOp o a p => (cI (.UnaryOp o a p)).map .int
 | .BinOp a o b p => (cI (.BinOp a o b p)).map .int
 | _ => none
noncomputable def cTs : List Expr -> Option (List Tr)
 | [] => some []
 | e :: r => match cT e, cTs r with
  | some T, some Ts => if Ts.length < 1000 then some (T :: Ts) else none
  | _, _ => none
end
theorem ahh : ∀ {es : List Expr} {Ts : List Tr}, cTs es = some Ts -> Ts.length <= 1000
 | [], Ts, h => by
  unfold cTs at h
  cases h
  decide
 | e :: r, Ts, h => by
  unfold cTs at h
  split at h
  ·split at h
   ·cases h
    rename_i h1
    rw [List.length_cons]
    omega
   ·cases h
  ·cases h
section
variable {X : Cx} {e : Expr} {es : List Expr} {T : Tr} {Ts : List Tr} {pos : Pos} {k : Nat} {G : PySem.W.Frag}
theorem an9 : PA X [] (ard G []) := aal.imp λσ H Q q => q [] H (Same.refl _) λ_ _ => .nil
theorem amo (h : PE X e (tEv G T)) (r : PA X es (ard G Ts)) (hs : starEach (e :: es) X.env = (false, eval e X.env) :: starEach es X.env) : PA X (e :: es) (ard G (T :: Ts)) :=
 (acL h r hs).imp λσ H Q q v H1 s1 rv vs H2 s2 rs => q (v :: vs) H2 (s1.trans s2) λPr p => .cons ((rv Pr p).mono (p.mono s2)) (rs Pr (p.le s1))
theorem aku (h : PA X es (ard G Ts)) (hl : Ts.length <= 1000) : PE X (.Tuple es k pos) (tEv G (.tup Ts)) :=
 (alS h).imp λσ H Q q vs H1 s1 rs => by
  by_cases hv : vs.length <= sizeLine
  ·exact ⟨hv, λa ha => q (.ref a) _ (s1.trans (aaV ha _)) λPr p => .tup (SqT.of ((p.le s1).new (Same.refl _) ha)) ((rs Pr p).mono (p.mono (aaV ha _)))⟩
  ·exact absurd (Nat.le_of_lt (ahY (by rw [(rs _ (Pj.id H)).length]; exact hl))) hv
theorem aij (h : PA X es (ard G Ts)) (hl : Ts.length <= 1000) : PE X (.List es pos) (auv G Ts) :=
 (acH h).imp λσ H Q q vs H1 s1 rs => by
  have e := (rs _ (Pj.id H)).length
  exact ⟨Nat.le_of_lt (ahY (by rw [e]; exact hl)), λa ha => q a vs H1 s1 ha rs e⟩
theorem aoa (h : PE X e (auv G Ts)) : PE X e (tEv G (.lst Ts)) :=
 h.imp λσ H Q q a xs H1 s1 ha rs _ => q (.ref a) _ (s1.trans (aaV ha _)) λPr p => .lst (SqL.of ((p.le s1).new (Same.refl _) ha)) ((rs Pr p).mono (p.mono (aaV ha _)))
theorem apc (h : (cI e).map Tr.int = some T) : PE X e (tEv G T) := by
 cases e1 : cI e with
 | none => rw [e1] at h; cases h
 | some i =>
  rw [e1] at h; cases h
  exact (an8 e i e1).imp λσ H Q q => q _ H (Same.refl _) λ_ _ => .int i
end
theorem aqm {e : Expr} {es : List Expr} {env : Env} {T : Tr} (h : cT e = some T) : starEach (e :: es) env = (false, eval e env) :: starEach es env := by
 cases e <;> first | rfl | (unfold cT at h; cases h)
theorem avy {X : Cx} {G : PySem.W.Frag} {c : Const} {k : Nat} {p : Pos} {T : Tr} (h : kT c = some T) : PE X (.Constant c k p) (tEv G T) := by
 cases c <;> try cases h
 ·exact afS.imp λσ H Q q => q _ H (Same.refl _) λ_ _ => .non
 ·exact ac8.imp λσ H Q q => q _ H (Same.refl _) λ_ _ => .bl _
 ·exact aas.imp λσ H Q q => q _ H (Same.refl _) λ_ _ => .int _
 ·exact afh.imp λσ H Q q => q _ H (Same.refl _) λ_ _ => .str _
mutual
theorem avz {X : Cx} {G : PySem.W.Frag} (e : Expr) (T : Tr) (h : cT e = some T) : PE X e (tEv G T) := by
 cases e with
 | Constant c _ _ => exact avy (by unfold cT at h; exact h)
 | Tuple es _ _ =>
  unfold cT at h
  cases e : cTs es with
  | none => rw [e] at h; cases h
  | some Ts =>
   rw [e] at h
   cases h
   exact aku (amq es Ts e) (ahh e)
 | List es _ =>
  unfold cT at h
  cases e : cTs es with
  | none => rw [e] at h; cases h
  | some Ts =>
   rw [e] at h
   cases h
   exact aoa (aij (amq es Ts e) (ahh e))
 | UnaryOp o a p => exact apc (by unfold cT at h; exact h)
 | BinOp a o b p => exact apc (by unfold cT at h; exact h)
 | _ => unfold cT at h; cases h
theorem amq {X : Cx} {G : PySem.W.Frag} : ∀ (es : List Expr) (Ts : List Tr), cTs es = some Ts -> PA X es (ard G Ts)
 | [], Ts, h => by
  unfold cTs at h; cases h
  exact an9
 | e :: r, Ts, h => by
  unfold cTs at h
  cases e1 : cT e with
  | none => rw [e1] at h; cases h
  | some T =>
   cases e2 : cTs r with
   | none => rw [e1, e2] at h; cases h
   | some Us =>
    rw [e1, e2] at h
    dsimp only at h
    split at h
    ·cases h
     exact amo (avz e T e1) (amq r Us e2) (aqm e1)
    ·cases h
end
theorem agG {X : Cx} {G : PySem.W.Frag} {es : List Expr} {pos : Pos} {Ts : List Tr} (h : cTs es = some Ts) : PE X (.List es pos) (auv G Ts) := aij (amq es Ts h) (ahh h)
theorem amr {X : Cx} {G : PySem.W.Frag} {es : List Expr} {k : Nat} {pos : Pos} {Ts : List Tr} (h : cTs es = some Ts) : PE X (.Tuple es k pos) (tEv G (.tup Ts)) := aku (amq es Ts h) (ahh h)
end L2
end
section
namespace L2
open PySem PySem.Spec PyProof.Rows
theorem Pj.aa2 {W : Addr -> Prop} {H : Hp} (hw : ∀ b, W b -> H b ≠ none) : Pj (L2.aa2 W) H where
 mono := λs => (Stp.of s).off
 sub := λH => ab4 W H
 new := λ{H' r o} s h => by
  rw [aaS λw => hw r w (s.free h)]
  exact aaK
noncomputable def eCL (Ts : List Tr) : EF := λρ => .ok (.v (.lst Ts) true, ρ)
theorem as4 {t : Tx} {K : PySem.W.Frag} (hK : t.K = nlK K) {T : Tr} : SE t (tEv (nlK K) T) (eC T) := λW ρ σ H Q e h => λv H' s r => by
 rw [<-hK] at r
 exact h v H' (e.grow s) (Stp.of s) (.low (r _ (Pj.aa2 e.wn)))
theorem agH {t : Tx} {K : PySem.W.Frag} (hK : t.K = nlK K) {Ts : List Tr} : SE t (auv (nlK K) Ts) (eCL Ts) := λW ρ σ H Q e h => λa xs H1 s ha r _ => by
 rw [<-hK] at r
 have e1 := e.grow s
 exact h _ _ (e1.grow (aaV ha _)) ((Stp.of s).trans (Stp.of (aaV ha _))) ((VOE.of (σ' := σ) e1 (aaV ha _) (VOk.new ha (r _ (Pj.aa2 e.wn)))).back λb q => s.free q)
end L2
end
section
namespace L2
open PySem PySem.Spec PyProof.Rows
noncomputable def agb : Expr -> Bool
 | .ListComp .. => false
 | .SetComp .. => false
 | .DictComp .. => false
 | _ => true
theorem ahi {e : Expr} {t : Option Expr} {l : Nat} {env : Env} (h : agb e = true) : swapsWith e t l env = pure false := by
 cases e <;> first | rfl | (unfold agb at h; cases h)
section
variable {X : Cx} {x : Str} {e : Expr} {es : List Expr} {te : TE} {ta : TA} {pos pos' p : Pos} {k : Nat} {ps : List Str} {sp : Sp} {E : XK}
theorem pvL (i : Nat) (hN : X.N[i]? = some x := by kernel_rfl) (hv : X.env.scope.names.lookup x = some .local := by kernel_rfl) (hd : (x == ("__debug__" : Str)) = false := by kernel_rfl) (hc : (x == ("__classdict__" : Str)) = false := by kernel_rfl) : PE X (.Name x pos) (aiW i) := alH hN (.inl hv) hd hc
theorem pvC (i : Nat) (hN : X.N[i]? = some x := by kernel_rfl) (hv : X.env.scope.names.lookup x = some .cell := by kernel_rfl) (hd : (x == ("__debug__" : Str)) = false := by kernel_rfl) (hc : (x == ("__classdict__" : Str)) = false := by kernel_rfl) : PE X (.Name x pos) (aiW i) := alH hN (.inr (.inl hv)) hd hc
theorem pvF (i : Nat) (hN : X.N[i]? = some x := by kernel_rfl) (hv : X.env.scope.names.lookup x = some .free := by kernel_rfl) (hd : (x == ("__debug__" : Str)) = false := by kernel_rfl) (hc : (x == ("__classdict__" : Str)) = false := by kernel_rfl) : PE X (.Name x pos) (aiW i) := alH hN (.inr (.inr hv)) hd hc
theorem psL (i : Nat) (hN : X.N.Nodup) (he : PE X e te) (hi : X.N[i]? = some x := by kernel_rfl) (hx : X.env.scope.names.lookup x = some .local := by kernel_rfl) (h : agb e = true := by kernel_rfl) : PS X (.Assign [.Name x pos'] e pos) (ano te (ac3 i)) := alL hN hi (.inl hx) he (ahi h) (.inr hx)
theorem psC (i : Nat) (hN : X.N.Nodup) (hf : X.fn x = true) (he : PE X e te) (hi : X.N[i]? = some x := by kernel_rfl) (hx : X.env.scope.names.lookup x = some .cell := by kernel_rfl) (h : agb e = true := by kernel_rfl) : PS X (.Assign [.Name x pos'] e pos) (ano te (ac3 i)) := alL hN hi (.inr hx) he (ahi h) (.inl hf)
theorem psE (he : PE X e te) (h : agb e = true := by kernel_rfl) : PS X (.Expr e pos) (anv te) := apx he (ahi h)
theorem pgL (i : Nat) (hN : X.N.Nodup) (hi : X.N[i]? = some x := by kernel_rfl) (hx : X.env.scope.names.lookup x = some .local := by kernel_rfl) : PG X (.Name x pos) (ac3 i) := apy hN hi (.inl hx) (.inr hx)
theorem pcF (D : DfX X.prog X.w X.K X.mg X.base k x ps sp) (hr : aeZ k X.A) (hx : Passes (CXF X.prog X.w) X E) (ha : PA X (e :: es) ta) (hg : X.env.kindOf x = some .globalImplicit := by kernel_rfl) (hdb : (x == ("__debug__" : Str)) = false := by kernel_rfl)
  (he : notStar e = true := by kernel_rfl) (hpl : (backTo pos (starEach es X.env)).any (·.1) = false := by kernel_rfl) : PE X (.Call (.Name x p) (e :: es) [] pos) (ahN sp [] E ta) := an1 D hr hx ha hg hdb (acP he) hpl
theorem pcB {r : List V -> Hp -> VK -> Prop} {id : String} (hc : acI X (.builtin id) r) (hm : X.mg x = none) (ha : PA X (e :: es) ta) (hv : bootBuiltins x = some (.builtin id) := by decide +kernel) (hg : X.env.kindOf x = some .globalImplicit := by kernel_rfl) (hn : x ≠ "__name__" := by decide +kernel) (hdb : (x == ("__debug__" : Str)) = false := by kernel_rfl)
  (he : notStar e = true := by kernel_rfl) (hpl : (backTo pos (starEach es X.env)).any (·.1) = false := by kernel_rfl) : PE X (.Call (.Name x p) (e :: es) [] pos) (tCB r ta) := afH hc hg hm hv ha hn hdb (acP he) hpl
theorem arj {r : List V -> Hp -> VK -> Prop} {T : String} (hc : acI X (.type T) r) (hm : X.mg x = none) (ha : PA X (e :: es) ta) (hv : bootBuiltins x = some (.type T) := by decide +kernel) (hg : X.env.kindOf x = some .globalImplicit := by kernel_rfl) (hn : x ≠ "__name__" := by decide +kernel) (hdb : (x == ("__debug__" : Str)) = false := by kernel_rfl)
  (he : notStar e = true := by kernel_rfl) (hpl : (backTo pos (starEach es X.env)).any (·.1) = false := by kernel_rfl) : PE X (.Call (.Name x p) (e :: es) [] pos) (tCB r ta) := alU hc hg hm hv ha hn hdb (acP he) hpl
theorem pcI (hX : XOk X.K) (c : Ty) {q : Pos} (he : PE X e te) (h1 : X.mg "isinstance" = none) (h2 : X.mg x = none) (hb : bootBuiltins x = some (.type c.name) := by decide +kernel) (hg1 : X.env.kindOf "isinstance" = some .globalImplicit := by kernel_rfl) (hg2 : X.env.kindOf x = some .globalImplicit := by kernel_rfl) (hn : x ≠ "__name__" := by decide +kernel) (hd : (x == ("__debug__" : Str)) = false := by kernel_rfl)
  (hs : notStar e = true := by kernel_rfl) : PE X (.Call (.Name "isinstance" p) [e, .Name x q] [] pos) (tCB (auu X.K) (adh te (adh (tC (.ty c.name)) alR))) := arV hX c he h1 h2 hb hg1 hg2 hn hd (acP hs)
theorem paK {t : TA} (ha : PE X e te) (hr : PA X es t) (h : notStar e = true := by kernel_rfl) : PA X (e :: es) (adh te t) := acL ha hr (acP h)
theorem pGk {v : V} {T : Tr} (h : Gk X.K X.mg x v T) (hg : X.env.kindOf x = some .globalImplicit := by kernel_rfl) (hd : (x == ("__debug__" : Str)) = false := by kernel_rfl) : PE X (.Name x pos) (tC v) := avs h hg hd
theorem piR {a tg : Expr} (hm : X.mg "range" = none) (ha : PA X [a] ta) (hg : X.env.kindOf "range" = some .globalImplicit := by kernel_rfl) (hs : notStar a = true := by kernel_rfl) : PI X tg (.Call (.Name "range" p) [a] [] pos) (apB ta) := alN hg hm ha (acP hs)
end
end L2
end
section
namespace L2
open PySem PySem.Spec PyProof.Rows
section
variable {t : Tx} {W : Addr -> Prop} {ρ : En} {σ : St} {H : Hp}
theorem DR.len {K : PySem.W.Frag} {G H : Hp} : ∀ {xs : List V} {ts : List Tr} {bs : List Addr}, DR K G H xs ts bs -> xs.length = ts.length
 | _, _, _, .nil => rfl
 | _, _, _, .cl _ _ r => by rw [List.length_cons, List.length_cons, r.len]
 | _, _, _, .rw _ _ r => by rw [List.length_cons, List.length_cons, r.len]
theorem DR.reps {K : PySem.W.Frag} {G G' H : Hp} (m : Same G G') : ∀ {xs : List V} {ts : List Tr} {bs : List Addr}, DR K G H xs ts bs -> (∀ b ys, b ∈ bs -> H b = some (.lst ys) -> G' b = some (.lst ys)) -> aa3 K G' xs ts
 | _, _, _, .nil, _ => .nil
 | _, _, _, .cl _ h r, k => .cons (h.mono m) (DR.reps m r k)
 | _, _, _, .rw h q r, k => .cons (.lst (SqL.of (k _ _ (List.mem_cons_self ..) h)) (q.mono m)) (DR.reps m r λb ys hb => k b ys (List.mem_cons_of_mem _ hb))
theorem DR.row {K : PySem.W.Frag} {G H : Hp} : ∀ {xs : List V} {ts : List Tr} {bs : List Addr} {k : Nat} {us : List Tr}, DR K G H xs ts bs -> ts[k]? = some (.lst us) -> bs.Nodup -> ∃ b ys, xs[k]? = some (.ref b) /\ b ∈ bs /\ H b = some (.lst ys) /\ aa3 K G ys us /\
  ∀ (ys' : List V) (us' : List Tr), aa3 K G ys' us' -> DR K G (upd H b (.lst ys')) xs (ts.set k (.lst us')) bs
 | _, _, _, _, _, .nil, h, _ => by simp at h
 | _, _, _, 0, _, .cl n h r, e, nd => by
  simp at e
  subst e
  cases n
 | _, _, _, 0, us, .rw (b := b) (ys := ys) (us := vs) (xs := xs) (ts := ts) (bs := bs) h q r, e, nd => by
  have e : Tr.lst vs = .lst us := by simpa using e
  cases e
  refine ⟨b, ys, rfl, List.mem_cons_self .., h, q, λys' us' r' => ?_⟩
  refine .rw aaK r' (r.move (Same.refl _) λc o hc z => ?_)
  rw [aaw (show c ≠ b from λy => (List.nodup_cons.mp nd).1 (by rw [<-y]; exact hc))]
  exact z
 | _, _, _, k + 1, us, .cl n h r, e, nd => by
  obtain ⟨b, ys, h1, h2, h3, h4, h5⟩ := DR.row (k := k) r (by simpa using e) nd
  exact ⟨b, ys, by simpa using h1, h2, h3, h4, λys' us' r' => .cl n h (h5 ys' us' r')⟩
 | _, _, _, k + 1, us, .rw (b := c) h q r, e, nd => by
  obtain ⟨b, ys, h1, h2, h3, h4, h5⟩ := DR.row (k := k) r (by simpa using e) (List.nodup_cons.mp nd).2
  refine ⟨b, ys, by simpa using h1, List.mem_cons_of_mem _ h2, h3, h4, λys' us' r' => .rw ?_ q (h5 ys' us' r')⟩
  rw [aaw λy => (List.nodup_cons.mp nd).1 (by rw [y]; exact h2)]
  exact h
noncomputable def abh (ρ : En) (i : Nat) : Rs (List Tr) := match ρ[i]? with
 | some (.dp ts) => .ok ts
 | _ => .bad
theorem ahj (ρ : En) (i : Nat) (c : Str) : abh ρ i ≠ .ex c := by
 unfold abh
 split <;> (intro z; cases z)
theorem ahk {i : Nat} {ts : List Tr} (h : abh ρ i = .ok ts) : ρ[i]? = some (.dp ts) := by
 unfold abh at h
 split at h
 ·rename_i q; cases h; exact q
 ·cases h
theorem EOk.putD {i k : Nat} {ts us : List Tr} (e : EOk t W ρ σ H) (hi : ρ[i]? = some (.dp ts)) (hk : ts[k]? = some (.lst us)) : ∃ a xs b ys, σ[i]? = some (some (.ref a)) /\ H a = some (.lst xs) /\ xs.length = ts.length /\ xs[k]? = some (.ref b) /\ H b = some (.lst ys) /\ aa3 t.K (aa2 W H) ys us /\
  ∀ ys' us', aa3 t.K (aa2 W H) ys' us' -> EOk t W (ρ.set i (.dp (ts.set k (.lst us')))) σ (upd H b (.lst ys')) /\ Stp W H (upd H b (.lst ys')) /\ aa2 W (upd H b (.lst ys')) = aa2 W H := by
 obtain ⟨F, e⟩ := e
 obtain ⟨a, xs, h1, d⟩ := e.dp i ts hi
 have d' := d
 obtain ⟨bs, ef, nd, ww, ha, r⟩ := d
 rw [ef] at nd
 have nd' := List.nodup_cons.mp nd
 obtain ⟨b, ys, k1, k2, k3, k4, k5⟩ := r.row hk nd'.2
 have hb : b ∈ F i := by rw [ef]; exact List.mem_cons_of_mem _ k2
 have wb := (ww b hb).1
 have nab : a ≠ b := λz => nd'.1 (z ▸ k2)
 have lt : i < ρ.length := (List.getElem?_eq_some_iff.mp hi).1
 refine ⟨a, xs, b, ys, h1, ha, r.len, k1, k3, k4, λys' us' r' => ?_⟩
 have o : aa2 W (upd H b (.lst ys')) = aa2 W H := acg wb
 have aiT : ∀ (j : Nat) (s : Sl), (ρ.set i (.dp (ts.set k (.lst us'))))[j]? = some s -> (j = i /\ s = .dp (ts.set k (.lst us'))) \/ (j ≠ i /\ ρ[j]? = some s) := λj s h => by
  rcases get_set h with ⟨z1, z2, _⟩ | z
  ·exact .inl ⟨z1, z2⟩
  ·exact .inr z
 have mu : ∀ j, Mu (ρ.set i (.dp (ts.set k (.lst us')))) j -> j ≠ i /\ Mu ρ j := λj m => by
  obtain ⟨zs, q | q⟩ := m <;> rcases aiT _ _ q with ⟨_, z⟩ | ⟨n, q⟩
  ·cases z
  ·exact ⟨n, zs, .inl q⟩
  ·cases z
  ·exact ⟨n, zs, .inr q⟩
 have ne : ∀ j c, Mu ρ j -> σ[j]? = some (some (V.ref c)) -> c ≠ b := λj c m q z => by
  subst z
  exact e.dm i j ts c hi m q hb
 have dpo : ∀ (j : Nat) (zs : List Tr), (ρ.set i (.dp (ts.set k (.lst us'))))[j]? = some (Sl.dp zs) -> ∃ zs', ρ[j]? = some (Sl.dp zs') := λj zs h => by
  rcases aiT _ _ h with ⟨rfl, _⟩ | ⟨_, h⟩
  ·exact ⟨ts, hi⟩
  ·exact ⟨zs, h⟩
 refine ⟨⟨F, by rw [List.length_set]; exact e.len, e.zw, e.z0, λc w => ?_, λc q h n => ?_, λc h => ?_, λj u h => ?_, λj zs h => ?_, λj zs h => ?_, λj l c m1 m2 => e.dis j l c (mu j m1).2 (mu l m2).2, λc q h => ?_, λj c m => e.pd j c (mu j m).2, λj zs h => ?_, λj l zs vs n q1 q2 => ?_, λj l zs c q1 m q => ?_, λj zs h => ?_, e.tab.upd k3⟩, ⟨λc q n h => ?_, λc h => ?_⟩, o⟩
 ·by_cases z : c = b
  ·subst z; exact .inl ⟨ys', aaK⟩
  ·unfold Lt; rw [aaw z]; exact e.wl c w
 ·rw [aaw]
  ·exact e.f0 c q h n
  ·rintro rfl
   rw [(ww c hb).2] at h
   cases h
 ·by_cases z : c = b
  ·subst z; exact (ww c hb).2
  ·rw [aaw z] at h; exact e.n0 c h
 ·rw [o]
  rcases aiT _ _ h with ⟨_, z⟩ | ⟨_, h⟩
  ·cases z
  ·exact e.sh j u h
 ·rw [o]
  rcases aiT _ _ h with ⟨_, z⟩ | ⟨_, h⟩
  ·cases z
  ·obtain ⟨c, vs, q1, q2, q3, q4, q5⟩ := e.ow j zs h
   exact ⟨c, vs, q1, q2, q3, by rw [aaw (ne j c ⟨zs, .inl h⟩ q1)]; exact q4, q5⟩
 ·rw [o]
  rcases aiT _ _ h with ⟨_, z⟩ | ⟨_, h⟩
  ·cases z
  ·obtain ⟨c, vs, q1, q2, q3, q4, q5⟩ := e.rf j zs h
   exact ⟨c, vs, q1, q2, q3, by rw [aaw (ne j c ⟨zs, .inr h⟩ q1)]; exact q4, q5⟩
 ·rw [aaw]
  ·exact e.pn c q h
  ·rintro rfl
   rw [e.db i ts hi c hb] at h
   cases h
 ·rcases aiT _ _ h with ⟨rfl, z⟩ | ⟨nj, h⟩
  ·cases z
   refine ⟨a, xs, h1, bs, ef, by rw [ef]; exact nd, ww, by rw [aaw nab]; exact ha, ?_⟩
   rw [o]
   exact k5 ys' us' r'
  ·obtain ⟨c, vs, q1, dj⟩ := e.dp j zs h
   refine ⟨c, vs, q1, dj.move rfl rfl (by rw [o]; exact Same.refl _) (λx hx => by obtain ⟨_, _, _, w2, _⟩ := dj; exact (w2 x hx).1) λx q hx z => ?_⟩
   rw [aaw (show x ≠ b from λy => e.dd i j ts zs (Ne.symm nj) hi h b hb (by rw [<-y]; exact hx))]
   exact z
 ·obtain ⟨_, z1⟩ := dpo j zs q1
  obtain ⟨_, z2⟩ := dpo l vs q2
  exact e.dd j l _ _ n z1 z2
 ·obtain ⟨_, z1⟩ := dpo j zs q1
  exact e.dm j l _ c z1 (mu l m).2 q
 ·obtain ⟨_, z1⟩ := dpo j zs h
  exact e.db j _ z1
 ·rw [aaw λz => n (by rw [z]; exact wb)]; exact h
 ·by_cases z : c = b
  ·subst z; rw [aaK] at h; cases h
  ·rw [aaw z] at h; exact h
end
end L2
end
section
namespace L2
open PySem PySem.Spec PyProof.Rows
noncomputable abbrev QF := En -> Rs Tr
noncomputable def SQ (t : Tx) (te : TE) (f : QF) : Prop := ∀ W ρ σ H Q, EOk t W ρ σ H -> (f ρ).post (λ_ => False) (λT => ∀ v, Rep t.K (aa2 W H) v T -> Q v H) -> te σ H Q
section
variable {t : Tx} {K : PySem.W.Frag}
noncomputable def aik (i : Nat) : QF := λρ => match ρ[i]? with
 | some (.sh T) => .ok T
 | _ => .bad
theorem agc (i : Nat) : SQ t (aiW i) (aik i) := λW ρ σ H Q e h => by
 unfold aik at h
 split at h
 ·rename_i T q
  obtain ⟨v, h1, h2⟩ := e.sh i T q
  exact ⟨v, h1, h v h2⟩
 ·exact h.elim
noncomputable def qC (T : Tr) : QF := λ_ => .ok T
noncomputable def ixT (ts : List Tr) (k : Tr) : Rs (Nat × Tr) := match k with
 | .int i => (match ixN ts.length i with
  | some j => (match ts[j]? with
   | some u => .ok (j, u)
   | none => .bad)
  | none => .bad)
 | _ => .bad
theorem ams {ts : List Tr} {k : Tr} {j : Nat} {u : Tr} (h : ixT ts k = .ok (j, u)) : ∃ i, k = .int i /\ ixN ts.length i = some j /\ ts[j]? = some u := by
 unfold ixT at h
 split at h
 ·rename_i i
  split at h
  ·rename_i j' e
   split at h
   ·rename_i u' e2
    cases h
    exact ⟨i, rfl, e, e2⟩
   ·cases h
  ·cases h
 ·cases h
theorem agd (ts : List Tr) (k : Tr) (c : Str) : ixT ts k ≠ .ex c := by
 unfold ixT
 split <;> (try split) <;> (try split) <;> (intro z; cases z)
theorem amt (hK : t.K = nlK K) {W : Addr -> Prop} {ρ : En} {σ : St} {H : Hp} {i j : Nat} {ts us : List Tr} {tk : TE} {fk : QF} {kT : Tr} {Q : VK} (e : EOk t W ρ σ H) (hi : ρ[i]? = some (.dp ts)) (hk : SQ t tk fk) (h1 : fk ρ = .ok kT) (h2 : ixT ts kT = .ok (j, .lst us))
  (q : ∀ a xs b ys, σ[i]? = some (some (.ref a)) -> H a = some (.lst xs) -> xs[j]? = some (.ref b) -> H b = some (.lst ys) -> aa3 t.K (aa2 W H) ys us -> (∀ ys' us', aa3 t.K (aa2 W H) ys' us' -> EOk t W (ρ.set i (.dp (ts.set j (.lst us')))) σ (upd H b (.lst ys')) /\ Stp W H (upd H b (.lst ys')) /\ aa2 W (upd H b (.lst ys')) = aa2 W H) -> Q (.ref b) H) : tOp (rIx K) (aiW i) tk σ H Q := by
 obtain ⟨k, rfl, h3, h4⟩ := ams h2
 obtain ⟨a, xs, b, ys, k1, k2, k3, k4, k5, k6, k7⟩ := e.putD hi h4
 refine ⟨_, k1, hk W ρ σ H _ e ?_⟩
 rw [h1]
 intro v rv
 cases rv
 refine .inl ⟨a, xs, k, .ref b, rfl, rfl, SqL.of k2, ?_, q a xs b ys k1 k2 k4 k5 k6 k7⟩
 unfold atI
 rw [k3, h3]
 exact k4
noncomputable def auE (i : Nat) (fk fj : QF) : QF := λρ => (abh ρ i).bind λts => (fk ρ).bind λk => (ixT ts k).bind λz => match z.2 with
 | .lst us => (fj ρ).bind λj => (ixT us j).bind λy => .ok y.2
 | _ => .bad
theorem as5 (hK : t.K = nlK K) (i : Nat) {tk tj : TE} {fk fj : QF} (hk : SQ t tk fk) (hj : SQ t tj fj) : SQ t (tOp (rIx K) (tOp (rIx K) (aiW i) tk) tj) (auE i fk fj) := λW ρ σ H Q e h => by
 obtain ⟨ts, k0, h⟩ := abx (Rs.aae h) (ahj _ _)
 cases e1 : fk ρ with
 | bad => have h := Rs.aae h; rw [e1] at h; exact h.elim
 | ex c => have h := Rs.aae h; rw [e1] at h; exact h.elim
 | ok k =>
 have h := Rs.aae h
 rw [e1] at h
 have h : ((ixT ts k).bind _).post _ _ := h
 obtain ⟨⟨m, u⟩, k2, h⟩ := abx (Rs.aae h) (agd _ _)
 cases u <;> try exact h.elim
 rename_i us
 have h := Rs.aae h
 cases e2 : fj ρ with
 | bad => rw [e2] at h; exact h.elim
 | ex c => rw [e2] at h; exact h.elim
 | ok j =>
 rw [e2] at h
 have h : ((ixT us j).bind _).post _ _ := h
 obtain ⟨⟨m', u'⟩, k3, hf⟩ := abx (Rs.aae h) (agd _ _)
 obtain ⟨z, rfl, h5, h6⟩ := ams k3
 show tOp (rIx K) (aiW i) tk σ H λx H1 => tj σ H1 λy H2 => rIx K x y H2 Q
 refine amt hK e (ahk k0) hk e1 k2 λa xs b ys q1 q2 q3 q4 q5 _ => ?_
 refine hj W ρ σ H _ e ?_
 rw [e2]
 intro v rv
 cases rv
 obtain ⟨x, hx, rx⟩ := q5.ao0 h6
 refine .inl ⟨b, ys, z, x, rfl, rfl, SqL.of q4, ?_, hf x rx⟩
 unfold atI
 rw [q5.length, h5]
 exact hx
noncomputable def ark (i : Nat) (fk : QF) (m : GM) (fa : QF) : SF := λρ => (abh ρ i).bind λts => (aa0 (fk ρ)).bind λk => (ixT ts k).bind λz => match z.2 with
 | .lst us => (aa0 (fa ρ)).bind λT => (m us [T]).bind λy => .ok (.nx, ρ.set i (.dp (ts.set z.1 (.lst y.1))))
 | _ => .bad
theorem apd (hK : t.K = nlK K) {r : V -> List V -> Hp -> VK -> Prop} {m : GM} (i : Nat) {tk ta : TE} {fk fa : QF} (hm : MtT r m) (ng : ∀ ts as c, m ts as ≠ .ex c) (hk : SQ t tk fk) (ha : SQ t ta fa) : SS t (anv (tBM K "list" r (tOp (rIx K) (aiW i) tk) (adh ta alR))) (ark i fk m fa) := λW ρ σ H D e h => by
 obtain ⟨ts, k0, h⟩ := abx (Rs.aae h) (ahj _ _)
 obtain ⟨k, e1, h⟩ := abx (Rs.aae h) (adU _)
 obtain ⟨⟨j, u⟩, k2, h⟩ := abx (Rs.aae h) (agd _ _)
 cases u <;> try exact h.elim
 rename_i us
 obtain ⟨T, e2, h⟩ := abx (Rs.aae h) (adU _)
 obtain ⟨⟨us', U⟩, k3, h⟩ := abx (Rs.aae h) (ng _ _)
 have un : ∀ {α : Type} {x : Rs α} {a : α}, aa0 x = .ok a -> x = .ok a := λ{α x a} z => by cases x <;> first | exact z | cases z
 have e1 := un e1
 have e2 := un e2
 show tOp (rIx K) (aiW i) tk σ H λx H1 => _
 refine amt hK e (ahk k0) hk e1 k2 λa xs b ys q1 q2 q3 q4 q5 q6 => ⟨.inl ⟨rfl, ys, SqL.of q4⟩, ?_⟩
 refine ha W ρ σ H _ e ?_
 rw [e2]
 intro v rv
 refine hm t.K (aa2 W H) b ys us [v] [T] H _ us' U q4 q5 (.cons rv .nil) k3 λys' w ry _ => ?_
 obtain ⟨e3, s3, _⟩ := q6 ys' us' ry
 exact h W σ _ e3 s3.nxt
noncomputable def aob (i : Nat) (fk fj : QF) (fe : EF) : SF := λρ => (fe ρ).bind λp => (clV p.1).bind λT => (abh p.2 i).bind λts => (aa0 (fk p.2)).bind λk => (ixT ts k).bind λz => match z.2 with
 | .lst us => (aa0 (fj p.2)).bind λj => (ixT us j).bind λy => .ok (.nx, p.2.set i (.dp (ts.set z.1 (.lst (us.set y.1 T)))))
 | _ => .bad
theorem aqn (hK : t.K = nlK K) (i : Nat) {te tk tj : TE} {fk fj : QF} {fe : EF} (he : SE t te fe) (hk : SQ t tk fk) (hj : SQ t tj fj) : SS t (ano te (auX (tOp (rIx K) (aiW i) tk) tj apL)) (aob i fk fj fe) := λW ρ σ H D e h => by
 refine he W ρ σ H _ e (Rs.aag (Rs.aae h) λp h v H1 e1 s1 v1 => ?_)
 obtain ⟨T, kT, h⟩ := abx (Rs.aae h) (aml _)
 have rv : Rep t.K (aa2 W H1) v T := by
  obtain ⟨r, ρ1⟩ := p
  cases r with
  | s i => cases kT
  | v U fr => cases kT; exact v1.1.rep e.wn
 obtain ⟨ts, k0, h⟩ := abx (Rs.aae h) (ahj _ _)
 obtain ⟨k, g1, h⟩ := abx (Rs.aae h) (adU _)
 obtain ⟨⟨m, u⟩, k2, h⟩ := abx (Rs.aae h) (agd _ _)
 cases u <;> try exact h.elim
 rename_i us
 obtain ⟨j, g2, h⟩ := abx (Rs.aae h) (adU _)
 obtain ⟨⟨m', u'⟩, k3, hf⟩ := abx (Rs.aae h) (agd _ _)
 obtain ⟨z, rfl, h5, h6⟩ := ams k3
 have un : ∀ {α : Type} {x : Rs α} {a : α}, aa0 x = .ok a -> x = .ok a := λ{α x a} z => by cases x <;> first | exact z | cases z
 have g1 := un g1
 have g2 := un g2
 show tOp (rIx K) (aiW i) tk σ H1 λo H1 => _
 refine amt hK e1 (ahk k0) hk g1 k2 λa xs b ys q1 q2 q3 q4 q5 q6 => ?_
 refine hj W p.2 σ H1 _ e1 ?_
 rw [g2]
 intro w rw'
 cases rw'
 obtain ⟨e3, s3, _⟩ := q6 _ _ (q5.set rv m')
 exact ⟨b, ys, z, m', rfl, rfl, q4, by rw [q5.length]; exact h5, hf W σ _ e3 (s1.trans s3).nxt⟩
noncomputable def dow (i : Nat) (ρ : En) : En := match ρ[i]? with
 | some (.dp ts) => ρ.set i (.ow ts)
 | _ => ρ
theorem EOk.dow {W : Addr -> Prop} {ρ : En} {σ : St} {H : Hp} (e : EOk t W ρ σ H) (i : Nat) : ∃ W', EOk t W' (L2.dow i ρ) σ H /\ Nxt W H W' H := by
 unfold L2.dow
 split
 ·rename_i ts q
  obtain ⟨F, e⟩ := e
  obtain ⟨a, xs, h1, bs, ef, nd, ww, ha, r⟩ := e.dp i ts q
  have nd' := nd
  rw [ef] at nd'
  have nab := (List.nodup_cons.mp nd').1
  have m : Same (aa2 W H) (aa2 (λb => W b /\ b ∉ bs) H) := acd (λ_ _ _ z => z.1) λ_ _ _ h => h
  have inF : ∀ b ∈ bs, b ∈ F i := λb hb => by rw [ef]; exact List.mem_cons_of_mem _ hb
  have aF : a ∈ F i := by rw [ef]; exact List.mem_cons_self ..
  have lt : i < ρ.length := (List.getElem?_eq_some_iff.mp q).1
  have mu : ∀ j, Mu (ρ.set i (.ow ts)) j -> j = i \/ (j ≠ i /\ Mu ρ j) := λj h => by
   obtain ⟨us, h | h⟩ := h <;> rcases get_set h with ⟨rfl, z, _⟩ | ⟨ne, h⟩
   ·exact .inl rfl
   ·exact .inr ⟨ne, us, .inl h⟩
   ·exact .inl rfl
   ·exact .inr ⟨ne, us, .inr h⟩
  have dpo : ∀ (j : Nat) (us : List Tr), (ρ.set i (.ow ts))[j]? = some (Sl.dp us) -> j ≠ i /\ ρ[j]? = some (Sl.dp us) := λj us h => by
   rcases get_set h with ⟨rfl, z, _⟩ | ⟨ne, h⟩
   ·cases z
   ·exact ⟨ne, h⟩
  have aw2 : ∀ j c, Mu ρ j -> σ[j]? = some (some (V.ref c)) -> c ∉ bs := λj c mj qj z => e.dm i j ts c q mj qj (inF c z)
  refine ⟨λb => W b /\ b ∉ bs, ⟨F, by rw [List.length_set]; exact e.len, λb z => ⟨e.zw b z, λhb => e.z0 b z (ww b (inF b hb)).2⟩, e.z0, λb w => e.wl b w.1, e.f0, e.n0, λj u h => ?_, λj us h => ?_, λj us h => ?_, λj k c m1 m2 q1 q2 => ?_, e.pn, λj c m1 q1 => ?_, λj us h => ?_, λj k us vs n g1 g2 => e.dd j k us vs n (dpo j us g1).2 (dpo k vs g2).2, λj k us c g1 m1 q1 => ?_, λj us h => e.db j us (dpo j us h).2, e.tab.cut (D := λb => b ∈ bs) (λb hb => r.lst b hb)⟩, λb o n h => ⟨λz => n z.1, h⟩⟩
  ·rcases get_set h with ⟨rfl, z, l⟩ | ⟨ne, h⟩
   ·cases z
   ·obtain ⟨w, g1, g2⟩ := e.sh j u h
    exact ⟨w, g1, g2.mono m⟩
  ·rcases get_set h with ⟨rfl, z, l⟩ | ⟨ne, h⟩
   ·cases z
    refine ⟨a, xs, h1, ⟨(ww a aF).1, nab⟩, (ww a aF).2, ha, r.reps m λb ys hb hy => ?_⟩
    rw [aaS λz => z.2 hb]
    exact hy
   ·obtain ⟨c, ys, g1, g2, g3, g4, g5⟩ := e.ow j us h
    exact ⟨c, ys, g1, ⟨g2, aw2 j c ⟨us, .inl h⟩ g1⟩, g3, g4, g5.mono m⟩
  ·rcases get_set h with ⟨rfl, z, l⟩ | ⟨ne, h⟩
   ·cases z
   ·obtain ⟨c, ys, g1, g2, g3, g4, g5⟩ := e.rf j us h
    exact ⟨c, ys, g1, ⟨g2, aw2 j c ⟨us, .inr h⟩ g1⟩, g3, g4, g5.mono m⟩
  ·have self : ∀ c, σ[i]? = some (some (V.ref c)) -> c = a := λc z => by rw [h1] at z; cases z; rfl
   rcases mu j m1 with y1 | ⟨n1, v1⟩ <;> rcases mu k m2 with y2 | ⟨n2, v2⟩
   ·rw [y1, y2]
   ·rw [y1] at q1
    have := self c q1
    subst this
    exact (e.dm i k ts c q v2 q2 aF).elim
   ·rw [y2] at q2
    have := self c q2
    subst this
    exact (e.dm i j ts c q v1 q1 aF).elim
   ·exact e.dis j k c v1 v2 q1 q2
  ·rcases mu j m1 with y1 | ⟨n1, v1⟩
   ·rw [y1, h1] at q1
    cases q1
    exact e.db i ts q a aF
   ·exact e.pd j c v1 q1
  ·obtain ⟨nj, h⟩ := dpo j us h
   obtain ⟨c, ys, g1, d⟩ := e.dp j us h
   refine ⟨c, ys, g1, d.move rfl rfl m (λb hb => ⟨by obtain ⟨_, _, _, w2, _⟩ := d; exact (w2 b hb).1, λz => e.dd j i us ts nj h q b hb (inF b z)⟩) λ_ _ _ z => z⟩
  ·obtain ⟨nj, g2⟩ := dpo j us g1
   rcases mu k m1 with y1 | ⟨n1, v1⟩
   ·rw [y1, h1] at q1
    cases q1
    exact λz => e.dd i j ts us (Ne.symm nj) q g2 a aF z
   ·exact e.dm j k us c g2 v1 q1
 ·exact ⟨W, e, Nxt.refl _ _⟩
noncomputable def alD (i : Nat) (f : SF) : SF := λρ => f (dow i ρ)
theorem ail {ts : TS} {f : SF} (i : Nat) (h : SS t ts f) : SS t ts (alD i f) := λW ρ σ H D e q => by
 obtain ⟨W', e', n⟩ := e.dow i
 exact h W' _ σ H D e' (Rs.aag q λp q => q.back n)
end
end L2
end
section
namespace L2
open PySem PySem.Spec PyProof.Rows
open Classical in
noncomputable def tP (t : Tx) (src : List (Option Nat)) (ρ : En) (σ : St) (F : Nat -> List Addr) (H1 P : Hp) : Tx := ⟨t.K, t.Z, t.R, t.H0, λb => if P b = none then (if OU src ρ σ F b then H1 b else t.B b) else P b, λ_ => False⟩
section
variable {t : Tx} {src : List (Option Nat)} {ρ1 : En} {σ : St} {F : Nat -> List Addr} {H1 P : Hp} {D : Addr} {W : Addr -> Prop}
theorem ade {b : Addr} {o : HO} (h : P b = some o) : (tP t src ρ1 σ F H1 P).B b = some o := by
 unfold tP
 dsimp only
 rw [if_neg (by rw [h]; intro z; cases z), h]
theorem as6 {b : Addr} (h1 : P b = none) (h2 : ¬ OU src ρ1 σ F b) : (tP t src ρ1 σ F H1 P).B b = t.B b := by
 unfold tP
 dsimp only
 rw [if_pos h1, if_neg h2]
theorem arl {b : Addr} (h1 : P b = none) (h2 : OU src ρ1 σ F b) : (tP t src ρ1 σ F H1 P).B b = H1 b := by
 unfold tP
 dsimp only
 rw [if_pos h1, if_pos h2]
theorem as7 : tP t src ρ1 σ F H1 (upd (λ_ => none) D (.lst [])) = tB' t src ρ1 σ F H1 D [] := by
 unfold tP tB'
 congr 1
 funext b
 by_cases e : b = D
 ·subst e
  rw [aaK, if_neg (by intro z; cases z), if_pos rfl]
 ·rw [aaw e, if_pos rfl, if_neg e]
theorem EOF.as8 {P : Hp} {ρ : En} {τ : St} {H : Hp} {js : List Nat} (I : Inj src) (e1F : EOF t W ρ1 σ H1 F) (hP : ∀ b, P b ≠ none -> H1 b = none) (e : EOk (tP t src ρ1 σ F H1 P) (λb => W b \/ P b ≠ none) ρ τ H) (nx : ∀ b o, ¬ W b -> H1 b = some o -> H b = some o)
  (hj : ∀ k j : Nat, src[k]? = some (some j) -> k ∉ js) (ag : ∀ k, k ∉ js -> τ[k]? = (aeV src σ)[k]?) (so : aa9 src ρ ρ1 = true) : EOF t (λb => W b \/ P b ≠ none) (aaY src ρ ρ1) σ H F := by
 have w1 : ∀ b, W b -> W b \/ P b ≠ none := λ_ w => .inl w
 have e1 : EOk t W ρ1 σ H1 := ⟨F, e1F⟩
 have m1 : Same (aa2 W H1) (aa2 (λb => W b \/ P b ≠ none) H) := λb o h => by
  obtain ⟨n, h⟩ := abm h
  rw [aaS]
  ·exact nx b o n h
  ·rintro (z | z)
   ·exact n z
   ·rw [hP b z] at h; cases h
 have m2 : Same (aa2 (λb => W b \/ P b ≠ none) H) (aa2 (λb => W b \/ P b ≠ none) H) := Same.refl _
 have nP : ∀ b, H1 b ≠ none -> P b = none := λb n => by
  cases z : P b with
  | none => rfl
  | some o => exact (n (hP b (by rw [z]; intro y; cases y))).elim
 have muo : ∀ j, Mu (aaY src ρ ρ1) j -> Mu ρ1 j := λj m => by
  obtain ⟨ts, m | m⟩ := m <;> rcases adu I m with ⟨k, us, q1, q2, q3⟩ | ⟨n, q⟩
  ·exact ac6 ⟨ts, .inl q3⟩
  ·exact ⟨ts, .inl q⟩
  ·exact ac6 ⟨ts, .inr q3⟩
  ·exact ⟨ts, .inr q⟩
 have inner : ∀ (k j : Nat) (ts : List Tr) (a : Addr), src[k]? = some (some j) -> (ρ[k]? = some (.ow ts) \/ ρ[k]? = some (.rf ts)) -> σ[j]? = some (some (.ref a)) -> ∃ ys, H a = some (.lst ys) /\ aa3 t.K (aa2 (λb => W b \/ P b ≠ none) H) ys ts := λk j ts a q1 q2 q3 => by
  have z := ag k (hj k j q1)
  rw [aeC q1 q3] at z
  rcases q2 with q2 | q2
  ·obtain ⟨c, ys, h1, h2, h3, h4, h5⟩ := e.ow k ts q2
   rw [z] at h1
   cases h1
   exact ⟨ys, h4, h5.mono m2⟩
  ·obtain ⟨c, ys, h1, h2, h3, h4, h5⟩ := e.rf k ts q2
   rw [z] at h1
   cases h1
   exact ⟨ys, h4, h5.mono m2⟩
 have outer : ∀ (j : Nat) (a : Addr) (ys : List V), Mu ρ1 j -> (∀ k, src[k]? = some (some j) -> ¬ Mu ρ k) -> σ[j]? = some (some (.ref a)) -> H1 a = some (.lst ys) -> H a = some (.lst ys) := λj a ys m n q h => by
  have wa := e1.addr m q
  have nD : P a = none := nP a (e1.wn a wa)
  refine e.pn a _ ?_
  rw [arl nD (.inl ⟨j, m, q, λk z => n k z (afM so z m)⟩)]
  exact h
 refine ⟨by rw [afk]; exact e1.len, λb z => w1 b (e1.zw b z), e1.z0, e.wl, e.f0, e.n0, λj u h => ?_, λj ts h => ?_, λj ts h => ?_, λj k a n1 n2 => e1.dis j k a (muo j n1) (muo k n2), λb o h => ?_, λj a m => e1.pd j a (muo j m), λj ts h => ?_, λj k ts us n h1 h2 => e1F.dd j k ts us n (afw I h1) (afw I h2), λj k ts c h1 m q => e1F.dm j k ts c (afw I h1) (muo k m) q, λj ts h => e1F.db j ts (afw I h), ⟨e.tab.ok, λb z => w1 b (e1.tab.w b z), e1.tab.r, e1.tab.B⟩⟩
 ·have h' : ρ1[j]? = some (.sh u) := by
   rcases adu I h with ⟨k, us, q1, q2, q3⟩ | ⟨n, q⟩
   ·rcases acz q3 with ⟨ne, _⟩ | ⟨_, ⟨_, _, z⟩ | ⟨_, _, z⟩ | ⟨_, q⟩⟩
    ·exact (ne rfl).elim
    ·cases z
    ·cases z
    ·exact q
   ·exact q
  obtain ⟨v, q1, q2⟩ := e1.sh j u h'
  exact ⟨v, q1, q2.mono m1⟩
 ·rcases adu I h with ⟨k, us, q1, q2, q3⟩ | ⟨n, q⟩
  ·rcases acz q3 with ⟨ne, _⟩ | ⟨_, ⟨ts0, q0, z⟩ | ⟨_, _, z⟩ | ⟨nm, q⟩⟩
   ·exact (ne rfl).elim
   ·cases z
    obtain ⟨a, ys, h1, h2, h3, h4, h5⟩ := e1.ow j ts0 q0
    obtain ⟨zs, k1, k2⟩ := inner k j ts a q1 q2 h1
    exact ⟨a, zs, h1, w1 a h2, h3, k1, k2⟩
   ·cases z
   ·exact (nm ⟨ts, .inl q⟩).elim
  ·obtain ⟨a, ys, h1, h2, h3, h4, h5⟩ := e1.ow j ts q
   exact ⟨a, ys, h1, w1 a h2, h3, outer j a ys ⟨ts, .inl q⟩ n h1 h4, h5.mono m1⟩
 ·rcases adu I h with ⟨k, us, q1, q2, q3⟩ | ⟨n, q⟩
  ·rcases acz q3 with ⟨ne, _⟩ | ⟨_, ⟨_, _, z⟩ | ⟨ts0, q0, z⟩ | ⟨nm, q⟩⟩
   ·exact (ne rfl).elim
   ·cases z
   ·cases z
    obtain ⟨a, ys, h1, h2, h3, h4, h5⟩ := e1.rf j ts0 q0
    obtain ⟨zs, k1, k2⟩ := inner k j ts a q1 q2 h1
    exact ⟨a, zs, h1, w1 a h2, h3, k1, k2⟩
   ·exact (nm ⟨ts, .inr q⟩).elim
  ·obtain ⟨a, ys, h1, h2, h3, h4, h5⟩ := e1.rf j ts q
   exact ⟨a, ys, h1, w1 a h2, h3, outer j a ys ⟨ts, .inr q⟩ n h1 h4, h5.mono m1⟩
 ·have nD : P b = none := nP b λz => by
   rw [e1.noB z] at h
   cases h
  have nO : ¬ OU src ρ1 σ F b := by
   rintro (⟨j, m, q, _⟩ | ⟨j, ts, d', z⟩)
   ·rw [e1.pd j b m q] at h
    cases h
   ·rw [e1F.db j ts d' b z] at h
    cases h
  refine e.pn b o ?_
  rw [as6 nD nO]
  exact h
 ·have hd := afw I h
  obtain ⟨a, ys, q1, d⟩ := e1F.dp j ts hd
  have ww : ∀ b ∈ F j, W b := λb hb => by obtain ⟨_, _, _, ww, _⟩ := d; exact (ww b hb).1
  refine ⟨a, ys, q1, d.move rfl rfl m1 (λb hb => w1 b (ww b hb)) λb o hb q => ?_⟩
  have nD : P b = none := nP b (e1.wn b (ww b hb))
  refine e.pn b o ?_
  rw [arl nD (.inr ⟨j, ts, hd, hb⟩)]
  exact q
theorem EOk.axH {ρ : En} {τ : St} {H : Hp} {W' : Addr -> Prop} {a : Addr} {ys zs : List V} (e0 : EOk (tP t src ρ1 σ F H1 P) W' ρ τ H) (na : ¬ W' a) (e : EOh (tP t src ρ1 σ F H1 P) W' a ρ τ H) (wD : W' D) (pD : ∃ o : List V, P D = some (.lst o)) (h0D : t.H0 D = none) (h0a : t.H0 a = none) (ha : H a = some (.lst ys)) :
  EOk (tP t src ρ1 σ F H1 (upd (upd P a (.lst ys)) D (.lst zs))) (λb => W' b \/ b = a) ρ τ (upd H D (.lst zs)) := by
 obtain ⟨oD, pD⟩ := pD
 have aD : a ≠ D := λz => na (by rw [z]; exact wD)
 have wa : ∀ i c, Mu ρ i -> τ[i]? = some (some (V.ref c)) -> c ≠ a := λi c m q z => na (by rw [<-z]; exact e0.addr m q)
 obtain ⟨F2, e, nF⟩ := e
 have neM : ∀ i c, Mu ρ i -> τ[i]? = some (some (V.ref c)) -> c ≠ D := λi c m q z => by
  subst z
  have := e.pd i c m q
  rw [ade pD] at this
  cases this
 have neD : ∀ i ts, ρ[i]? = some (Sl.dp ts) -> ∀ b ∈ F2 i, b ≠ D := λi ts h b hb z => by
  subst z
  have := e.db i ts h b hb
  rw [ade pD] at this
  cases this
 have Bn : ∀ c, c ≠ D -> c ≠ a -> (tP t src ρ1 σ F H1 P).B c = none -> (tP t src ρ1 σ F H1 (upd (upd P a (.lst ys)) D (.lst zs))).B c = none := λc h1 h2 z => by
  have pc : (upd (upd P a (.lst ys)) D (.lst zs)) c = P c := by rw [aaw h1, aaw h2]
  cases q : P c with
  | some o => rw [ade q] at z; cases z
  | none =>
   by_cases ou : OU src ρ1 σ F c
   ·rw [arl q ou] at z
    rw [arl (pc.trans q) ou]
    exact z
   ·rw [as6 q ou] at z
    rw [as6 (pc.trans q) ou]
    exact z
 have w : W' D \/ D = a := .inl wD
 refine ⟨F2, e.len, e.zw, e.z0, λb z => ?_, λb o h n => ?_, λb h => ?_, λi u h => ?_, λi ts h => ?_, λi ts h => ?_, e.dis, λb o h => ?_, λi c m q => Bn c (neM i c m q) (wa i c m q) (e.pd i c m q), λi ts h => ?_, e.dd, e.dm, λi ts h b hb => Bn b (neD i ts h b hb) (λz => nF i ts h (by rw [<-z]; exact hb)) (e.db i ts h b hb), ⟨?_, e.tab.w, e.tab.r, λb z => Bn b (λy => ?_) (λy => ?_) (e.tab.B b z)⟩⟩
 ·by_cases q : b = D
  ·subst q; exact .inl ⟨zs, aaK⟩
  ·unfold Lt; rw [aaw q]; exact e.wl b z
 ·rw [aaw]
  ·exact e.f0 b o h n
  ·rintro rfl
   have h : t.H0 b = some o := h
   rw [h0D] at h
   cases h
 ·by_cases q : b = D
  ·subst q; exact h0D
  ·rw [aaw q] at h; exact e.n0 b h
 ·rw [acg w]
  exact e.sh i u h
 ·obtain ⟨c, vs, q1, q2, q3, q4, q5⟩ := e.ow i ts h
  rw [acg w]
  exact ⟨c, vs, q1, q2, q3, by rw [aaw (neM i c ⟨ts, .inl h⟩ q1)]; exact q4, q5⟩
 ·obtain ⟨c, vs, q1, q2, q3, q4, q5⟩ := e.rf i ts h
  rw [acg w]
  exact ⟨c, vs, q1, q2, q3, by rw [aaw (neM i c ⟨ts, .inr h⟩ q1)]; exact q4, q5⟩
 ·by_cases h1 : b = D
  ·subst h1
   rw [ade aaK] at h
   rw [aaK]
   exact h
  ·rw [aaw h1]
   by_cases h2 : b = a
   ·subst h2
    rw [ade (by rw [aaw h1]; exact aaK)] at h
    rw [ha]
    exact h
   ·refine e.pn b o ?_
    have pc : (upd (upd P a (.lst ys)) D (.lst zs)) b = P b := by rw [aaw h1, aaw h2]
    cases q : P b with
    | some o' => rw [ade (pc.trans q)] at h; rw [ade q]; exact h
    | none =>
     by_cases ou : OU src ρ1 σ F b
     ·rw [arl (pc.trans q) ou] at h; rw [arl q ou]; exact h
     ·rw [as6 (pc.trans q) ou] at h; rw [as6 q ou]; exact h
 ·obtain ⟨c, vs, q1, d⟩ := e.dp i ts h
  exact ⟨c, vs, q1, d.move rfl rfl (by rw [acg w]; exact Same.refl _) (λb hb => by obtain ⟨_, _, _, ww, _⟩ := d; exact (ww b hb).1) λb o hb q => by rw [aaw (neD i ts h b hb)]; exact q⟩
 ·exact e.tab.ok.upd (e.pn D _ (ade pD))
 ·subst y
  have y := e.tab.B b z
  rw [ade pD] at y
  cases y
 ·subst y
  exact e.tab.ok.ne z ha rfl
theorem EOF.as9 {ρ : En} {H : Hp} {i : Nat} {xs : List V} {ts : List Tr} {bs : List Addr} (e : EOF t W ρ σ H F) (nd : (D :: bs).Nodup) (ww : ∀ b ∈ D :: bs, W b /\ t.H0 b = none) (hB : ∀ b ∈ D :: bs, t.B b = none) (hF : ∀ (j : Nat) (us : List Tr), ρ[j]? = some (Sl.dp us) -> ∀ b ∈ D :: bs, b ∉ F j)
  (hM : ∀ (j : Nat) (c : Addr), Mu ρ j -> σ[j]? = some (some (V.ref c)) -> c ∉ D :: bs) (ha : H D = some (.lst xs)) (r : DR t.K (aa2 W H) H xs ts bs) : EOk t W (ρ.set i (.dp ts)) (σ.set i (some (.ref D))) H := by
 have aiT : ∀ (j : Nat) (s : Sl), (ρ.set i (.dp ts))[j]? = some s -> (j = i /\ s = .dp ts /\ i < ρ.length) \/ (j ≠ i /\ ρ[j]? = some s) := λj s h => get_set h
 have mu : ∀ j, Mu (ρ.set i (.dp ts)) j -> j ≠ i /\ Mu ρ j := λj m => by
  obtain ⟨zs, q | q⟩ := m <;> rcases aiT _ _ q with ⟨_, z, _⟩ | ⟨n, q⟩
  ·cases z
  ·exact ⟨n, zs, .inl q⟩
  ·cases z
  ·exact ⟨n, zs, .inr q⟩
 have keep : ∀ (j : Nat), j ≠ i -> (σ.set i (some (V.ref D)))[j]? = σ[j]? := λj n => List.getElem?_set_ne (Ne.symm n)
 refine ⟨λj => if j = i then D :: bs else F j, by rw [List.length_set, List.length_set]; exact e.len, e.zw, e.z0, e.wl, e.f0, e.n0, λj u h => ?_, λj zs h => ?_, λj zs h => ?_, λj k c m1 m2 q1 q2 => ?_, e.pn, λj c m q => ?_, λj zs h => ?_, λj k zs vs n q1 q2 => ?_, λj k zs c q1 m q => ?_, λj zs h => ?_, e.tab⟩
 ·rcases aiT _ _ h with ⟨_, z, _⟩ | ⟨n, h⟩
  ·cases z
  ·rw [keep j n]; exact e.sh j u h
 ·rcases aiT _ _ h with ⟨_, z, _⟩ | ⟨n, h⟩
  ·cases z
  ·rw [keep j n]; exact e.ow j zs h
 ·rcases aiT _ _ h with ⟨_, z, _⟩ | ⟨n, h⟩
  ·cases z
  ·rw [keep j n]; exact e.rf j zs h
 ·obtain ⟨n1, v1⟩ := mu j m1
  obtain ⟨n2, v2⟩ := mu k m2
  rw [keep j n1] at q1
  rw [keep k n2] at q2
  exact e.dis j k c v1 v2 q1 q2
 ·obtain ⟨n1, v1⟩ := mu j m
  rw [keep j n1] at q
  exact e.pd j c v1 q
 ·rcases aiT _ _ h with ⟨y, z, l⟩ | ⟨n, h⟩
  ·cases z
   subst y
   refine ⟨D, xs, aeg (by rw [<-e.len]; exact l), ?_⟩
   rw [if_pos rfl]
   exact ⟨bs, rfl, nd, ww, ha, r⟩
  ·rw [keep j n, if_neg n]
   exact e.dp j zs h
 ·rcases aiT _ _ q1 with ⟨y1, _, _⟩ | ⟨n1, q1⟩ <;> rcases aiT _ _ q2 with ⟨y2, _, _⟩ | ⟨n2, q2⟩
  ·exact (n (y1.trans y2.symm)).elim
  ·rw [if_pos y1, if_neg n2]
   exact λb hb => hF k vs q2 b hb
  ·rw [if_neg n1, if_pos y2]
   exact λb hb z => hF j zs q1 b z hb
  ·rw [if_neg n1, if_neg n2]
   exact e.dd j k zs vs n q1 q2
 ·obtain ⟨n2, v2⟩ := mu k m
  rw [keep k n2] at q
  rcases aiT _ _ q1 with ⟨y1, _, _⟩ | ⟨n1, q1⟩
  ·rw [if_pos y1]
   exact hM k c v2 q
  ·rw [if_neg n1]
   exact e.dm j k zs c q1 v2 q
 ·rcases aiT _ _ h with ⟨y1, _, _⟩ | ⟨n1, q1⟩
  ·rw [if_pos y1]
   exact hB
  ·rw [if_neg n1]
   exact e.db j zs q1
theorem DR.app {K : PySem.W.Frag} {G H : Hp} : ∀ {xs ys : List V} {ts us : List Tr} {bs cs : List Addr}, DR K G H xs ts bs -> DR K G H ys us cs -> DR K G H (xs ++ ys) (ts ++ us) (bs ++ cs)
 | _, _, _, _, _, _, .nil, s => s
 | _, _, _, _, _, _, .cl n h r, s => .cl n h (DR.app r s)
 | _, _, _, _, _, _, .rw h q r, s => .rw h q (DR.app r s)
end
end L2
end
section
namespace L2
open PySem PySem.Spec PyProof.Rows
noncomputable def abp : Rv -> Rs Tr
 | .v (.lst us) true => .ok (.lst us)
 | _ => .bad
theorem aoc (r : Rv) (c : Str) : abp r ≠ .ex c := by
 unfold abp
 split <;> (intro z; cases z)
noncomputable def ai9 (g : GF) (c : BF) (f : EF) : List Tr -> En -> Rs (List Tr × En)
 | [], ρ => .ok ([], ρ)
 | u :: us, ρ => (g u ρ).bind λρ1 => (c ρ1).bind λb => if b.1 = true then (f b.2).bind λp => (abp p.1).bind λT => (ai9 g c f us p.2).bind λz => .ok (T :: z.1, z.2) else ai9 g c f us b.2
noncomputable def agf (i : Nat) (src : List (Option Nat)) (fi : IF) (g : GF) (c : BF) (f : EF) : SF := λρ => (fi ρ).bind λp => if p.1.length <= 100000 then (aa0 (ai9 g c f p.1 (abe src p.2))).bind λz => if aa9 src z.2 p.2 = true then .ok (.nx, (aaY src z.2 p.2).set i (.dp z.1)) else .bad else .bad
theorem amu {t : Tx} {wi : TI} {g : TG} {src : List (Option Nat)} {tc : TT} {te : TE} {fi : IF} {gf : GF} {c : BF} {f : EF} {js : List Nat} (n : Nat) (hi : SI t wi fi) (I : Inj src) (hj : ∀ k j : Nat, src[k]? = some (some j) -> k ∉ js) (ng : ∀ T ρ c, gf T ρ ≠ .ex c)
  (hg : ∀ t' : Tx, t'.K = t.K -> (∀ c, ¬ t'.EX c) -> SG t' g gf js) (hc : ∀ t' : Tx, t'.K = t.K -> (∀ c, ¬ t'.EX c) -> ST t' tc c) (he : ∀ t' : Tx, t'.K = t.K -> (∀ c, ¬ t'.EX c) -> SE t' te f) : SS t (ano (akq wi g src tc te) (ac3 n)) (agf n src fi gf c f) := λW ρ σ H E e h => by
 refine hi W ρ σ H _ e (Rs.aag (Rs.aae h) λp h J H1 e1 s1 it => ?_)
 obtain ⟨us, ρ1⟩ := p
 dsimp only at h it e1
 split at h
 case isFalse => exact h.elim
 rename_i hlen
 intro D hD
 have h := adJ (Rs.aae h)
 obtain ⟨F, e1F⟩ := id e1
 have h0D : t.H0 D = none := e1.n0 D hD
 refine ⟨λi m τ H' => m = us.length - i /\ i <= us.length /\ ∃ ρ' xs acc bs P, EOk (tP t src ρ1 σ F H1 P) (λb => W b \/ P b ≠ none) ρ' τ H' /\ P D = some (.lst xs) /\ (∀ b, P b ≠ none ↔ b ∈ D :: bs) /\ (D :: bs).Nodup /\ DR t.K (aa2 (λb => W b \/ P b ≠ none) H') H' xs acc bs /\ (∀ b ∈ D :: bs, H1 b = none) /\ xs.length <= i /\ (∀ b o, ¬ W b -> H1 b = some o -> H' b = some o) /\ (∀ k, k ∉ js -> τ[k]? = (aeV src σ)[k]?) /\
   (ai9 gf c f (us.drop i) ρ').post (λ_ => False) (λz => (if aa9 src z.2 ρ1 = true then .ok (.nx, (aaY src z.2 ρ1).set n (.dp (acc ++ z.1))) else .bad : Rs (Fl × En)).post t.EX (afu t W H E)), ?_, ?_⟩
 ·have hs : (λb => W b \/ (upd (λ_ => none) D (HO.lst []) : Hp) b ≠ none) = λb => W b \/ b = D := by
   funext b
   by_cases z : b = D
   ·subst z; rw [aaK]; simp
   ·rw [aaw z]; simp [z]
  refine ⟨us.length, by simp, Nat.zero_le _, abe src ρ1, [], [], [], upd (λ_ => none) D (.lst []), ?_, aaK, λb => ?_, List.nodup_cons.mpr ⟨by simp, List.nodup_nil⟩, .nil, λb hb => ?_, Nat.le_refl _, λb o _ q => ?_, λ_ _ => rfl, ?_⟩
  ·rw [as7, hs]
   exact e1F.enter I hD
  ·by_cases z : b = D
   ·subst z; rw [aaK]; simp
   ·rw [aaw z]; simp [z]
  ·have : b = D := by simpa using hb
   rw [this]
   exact hD
  ·rw [aaw (aa1 q hD)]; exact q
  ·rw [List.drop_zero]; exact h
 ·rintro i m τ H2 ⟨rfl, hi, ρ2, xs, acc, bs, P, e2, pD, pb, nd, r2, new, l2, n2, a2, h2⟩
  have wD : W D \/ P D ≠ none := .inr (by rw [pD]; intro z; cases z)
  have sm : Same (aa2 W H1) (aa2 (λb => W b \/ P b ≠ none) H2) := λb o q => by
   obtain ⟨nw, q⟩ := abm q
   rw [aaS]
   ·exact n2 b o nw q
   ·rintro (z | z)
    ·exact nw z
    ·rw [new b ((pb b).mp z)] at q; cases q
  have q := it _ H2 sm e2.wl i
  by_cases hlt : i < us.length
  ·rw [List.drop_eq_getElem_cons hlt] at h2
   obtain ⟨go, y⟩ := q.2 us[i] (by simp [hlt])
   refine .inr ⟨go, λx H3 yl => ?_⟩
   obtain ⟨s3, r3⟩ := y x H3 yl
   have e3 := e2.grow s3
   refine hg (tP t src ρ1 σ F H1 P) rfl (λ_ => id) _ ρ2 τ H3 x us[i] _ e3 r3 (Rs.aag (aiV (Rs.aae h2) (ng _ _)) λρ4 h σ4 e4 a4 => ?_)
   refine hc (tP t src ρ1 σ F H1 P) rfl (λ_ => id) _ ρ4 σ4 H3 _ e4 (Rs.aag (Rs.aae h) λb h H5 e5 s5 => ?_)
   have st5 : Stp (λb => W b \/ P b ≠ none) H2 H5 := (Stp.of s3).trans s5
   have n5 : ∀ b o, ¬ W b -> H1 b = some o -> H5 b = some o := λb o nw qb => by
    refine st5.keep b o ?_ (n2 b o nw qb)
    rintro (z | z)
    ·exact nw z
    ·rw [new b ((pb b).mp z)] at qb; cases qb
   have a5 : ∀ k, k ∉ js -> σ4[k]? = (aeV src σ)[k]? := λk nk => (a4 k nk).trans (a2 k nk)
   have pin : ∀ {Hx : Hp} {ρx : En} {τx : St}, EOk (tP t src ρ1 σ F H1 P) (λb => W b \/ P b ≠ none) ρx τx Hx -> ∀ b o, b ∈ bs -> H2 b = some o -> Hx b = some o := λ{Hx ρx τx} ex b o hb z => by
    have pe : P b ≠ none := (pb b).mpr (List.mem_cons_of_mem _ hb)
    cases zP : P b with
    | none => exact (pe zP).elim
    | some o' =>
     have z1 := e2.pn b o' (ade zP)
     rw [z1] at z
     rw [<-z]
     exact ex.pn b o' (ade zP)
   split at h
   ·rename_i cb
    rw [if_pos cb]
    refine he (tP t src ρ1 σ F H1 P) rfl (λ_ => id) _ b.2 σ4 H5 _ e5 (Rs.aag (Rs.aae h) λp h v H6 e6 s6 v6 => ?_)
    obtain ⟨T, kT, h⟩ := abx (Rs.aae h) (aoc _)
    obtain ⟨r, ρ7⟩ := p
    have sh : ∃ vs, r = .v (.lst vs) true /\ T = .lst vs := by
     cases r with
     | s i => cases kT
     | v U fr =>
      cases U <;> cases fr <;> first | (cases kT; exact ⟨_, rfl, rfl⟩) | cases kT
    obtain ⟨vs, rfl, rfl⟩ := sh
    obtain ⟨⟨a, ys, vs', rfl, ev, na, qa, ra⟩, eh⟩ := v6
    cases ev
    have eh := eh _ a rfl rfl
    have nwa : ¬ (W a \/ P a ≠ none) := λz => e5.wn a z na
    have avA : H2 a = none := st5.dom a na
    have aH1 : H1 a = none := by
     cases z : H1 a with
     | none => rfl
     | some o => rw [n2 a o (λw => nwa (.inl w)) z] at avA; cases avA
    have aD : a ≠ D := λz => nwa (by rw [z]; exact wD)
    have abs : a ∉ D :: bs := λz => nwa (.inr ((pb a).mpr z))
    have h0a : t.H0 a = none := e1.n0 a aH1
    have eN := e6.axH (zs := xs ++ [.ref a]) (D := D) nwa eh wD ⟨_, pD⟩ h0D h0a qa
    have ws : (λb => (W b \/ P b ≠ none) \/ b = a) = λb => W b \/ (upd (upd P a (HO.lst ys)) D (HO.lst (xs ++ [.ref a])) : Hp) b ≠ none := by
     funext b
     by_cases z1 : b = D
     ·subst z1; rw [aaK]; simp [wD]
     ·rw [aaw z1]
      by_cases z2 : b = a
      ·subst z2; rw [aaK]; simp
      ·rw [aaw z2]; simp [z2]
    rw [ws] at eN
    have mv : Same (aa2 (λb => W b \/ P b ≠ none) H2) (aa2 (λb => W b \/ (upd (upd P a (HO.lst ys)) D (HO.lst (xs ++ [.ref a])) : Hp) b ≠ none) (upd H6 D (.lst (xs ++ [.ref a])))) := λb o z => by
     obtain ⟨nb, z⟩ := abm z
     have b1 : b ≠ D := λy => nb (by rw [y]; exact wD)
     have b2 : b ≠ a := aa1 z avA
     rw [aaS]
     ·rw [aaw b1]
      exact s6.keep b o nb (st5.keep b o nb z)
     ·rw [aaw b1, aaw b2]
      exact nb
    refine ⟨xs, e6.pn D _ (ade pD), Nat.lt_of_le_of_lt (show xs.length <= 100000 by omega) (by decide), us.length - (i + 1), by omega, rfl, hlt, ρ7, xs ++ [.ref a], acc ++ [.lst vs], bs ++ [a], _, eN, aaK, λb => ?_, ?_, ?_, λb hb => ?_, by rw [List.length_append]; simp; omega, λb o nw q => ?_, a5, ?_⟩
    ·by_cases z1 : b = D
     ·subst z1; rw [aaK]; simp
     ·rw [aaw z1]
      by_cases z2 : b = a
      ·subst z2; rw [aaK]; simp
      ·rw [aaw z2, pb b]; simp [z1, z2]
    ·rw [<-List.cons_append]
     exact List.nodup_append.mpr ⟨nd, by simp, λx hx y hy z => by
      have : y = a := by simpa using hy
      subst this
      subst z
      exact abs hx⟩
    ·refine DR.app (r2.move mv λb o hb z => ?_) (.rw (by rw [aaw aD]; exact qa) (ra.mono λb o z => ?_) .nil)
     ·have b1 : b ≠ D := λy => by
       subst y
       exact (List.nodup_cons.mp nd).1 hb
      rw [aaw b1]
      exact pin e6 b o hb z
     ·obtain ⟨b2, z⟩ := adi z
      obtain ⟨nb, z⟩ := abm z
      have b1 : b ≠ D := λy => nb (by rw [y]; exact wD)
      rw [aaS]
      ·rw [aaw b1]; exact z
      ·rw [aaw b1, aaw b2]; exact nb
    ·rw [<-List.cons_append, List.mem_append] at hb
     rcases hb with hb | hb
     ·exact new b hb
     ·have : b = a := by simpa using hb
      rw [this]; exact aH1
    ·have nD : b ≠ D := aa1 q hD
     rw [aaw nD]
     refine s6.keep b o ?_ (n5 b o nw q)
     rintro (z | z)
     ·exact nw z
     ·rw [new b ((pb b).mp z)] at q; cases q
    ·refine Rs.aag (Rs.aae h) λz h => ?_
     rw [List.append_assoc]
     exact h
   ·rename_i cb
    rw [if_neg cb]
    exact ⟨us.length - (i + 1), by omega, rfl, hlt, b.2, xs, acc, bs, P, e5, pD, pb, nd, r2.move st5.off (pin e5), new, by omega, n5, a5, h⟩
  ·have z : i = us.length := by omega
   subst z
   rw [List.drop_length] at h2
   have h2 : (if aa9 src ρ2 ρ1 = true then .ok (.nx, (aaY src ρ2 ρ1).set n (.dp (acc ++ []))) else .bad : Rs (Fl × En)).post t.EX _ := h2
   refine .inl ⟨q.1 rfl, ?_⟩
   split at h2
   ·rename_i so
    rw [List.append_nil] at h2
    have eW := e1F.as8 I (λb z => new b ((pb b).mp z)) e2 n2 hj a2 so
    have mu1 : ∀ j, Mu (aaY src ρ2 ρ1) j -> Mu ρ1 j := λj m => by
     obtain ⟨ts, m | m⟩ := m <;> rcases adu I m with ⟨k, us, q1, q2, q3⟩ | ⟨n, q⟩
     ·exact ac6 ⟨ts, .inl q3⟩
     ·exact ⟨ts, .inl q⟩
     ·exact ac6 ⟨ts, .inr q3⟩
     ·exact ⟨ts, .inr q⟩
    refine h2 _ _ H2 (eW.as9 (bs := bs) nd (λb hb => ⟨.inr ((pb b).mpr hb), e1.n0 b (new b hb)⟩) (λb hb => e1.noB (new b hb)) (λj us hj b hb z => ?_) (λj c m q z => ?_) (e2.pn D _ (ade pD)) r2) λb o nb hb => ?_
    ·obtain ⟨c, ys, _, cs, _, _, ww, _⟩ := e1F.dp j us (afw I hj)
     exact e1.wn b (ww b z).1 (new b hb)
    ·exact e1.wn c (e1.addr (mu1 j m) q) (new c z)
    ·have hb1 := s1.keep b o nb hb
     refine ⟨?_, n2 b o nb hb1⟩
     rintro (z | z)
     ·exact nb z
     ·rw [new b ((pb b).mp z)] at hb1; cases hb1
   ·exact h2.elim
theorem aod {t : Tx} {wi : TI} {g : TG} {src : List (Option Nat)} {te : TE} {fi : IF} {gf : GF} {f : EF} {js : List Nat} (n : Nat) (hi : SI t wi fi) (I : Inj src) (hj : ∀ k j : Nat, src[k]? = some (some j) -> k ∉ js) (ng : ∀ T ρ c, gf T ρ ≠ .ex c)
  (hg : ∀ t' : Tx, t'.K = t.K -> (∀ c, ¬ t'.EX c) -> SG t' g gf js) (he : ∀ t' : Tx, t'.K = t.K -> (∀ c, ¬ t'.EX c) -> SE t' te f) : SS t (ano (akV wi g src te) (ac3 n)) (agf n src fi gf adl f) := by
 rw [aks]
 exact amu n hi I hj ng hg (λt' _ _ W ρ σ H Q e h => h H e (Stp.refl _ _)) he
end L2
end
section
namespace L2
open PySem PySem.Spec PyProof.Rows
variable {t : Tx}
noncomputable def aw3 (us vs : List Tr) : List Tr := (us.zip vs).map λp => .tup [p.1, p.2]
noncomputable def axI (fa : AF) : IF := λρ => (fa ρ).bind λp => match p.1 with
 | [.v (.lst us) _, .v (.lst vs) _] => .ok (aw3 us vs, p.2)
 | _ => .bad
end L2
end
section
namespace L2
open PySem PySem.Spec PyProof.Rows
section
variable {K : PySem.W.Frag}
end
end L2
end
section
namespace L2
open PySem PySem.Spec PyProof.Rows
section
variable {kf : Value -> Int × Int}
noncomputable def q1 (kf : Value -> Int × Int) (xs : Array Keyed) (i : Nat) : Int := match xs[i]? with | some p => (kf p.1).1 | none => 0
noncomputable def q2 (kf : Value -> Int × Int) (xs : Array Keyed) (i : Nat) : Int := match xs[i]? with | some p => (kf p.1).2 | none => 0
noncomputable def qr (xs : Array Keyed) (i : Nat) : Int := match xs[i]? with | some p => numOf p.2 | none => 0
noncomputable def Kl (kf : Value -> Int × Int) (xs : Array Keyed) (i j : Nat) : Prop := q1 kf xs i < q1 kf xs j \/ (q1 kf xs i = q1 kf xs j /\ q2 kf xs i < q2 kf xs j)
noncomputable instance {kf : Value -> Int × Int} {xs : Array Keyed} {i j : Nat} : Decidable (Kl kf xs i j) := by unfold Kl; infer_instance
noncomputable def Ke (kf : Value -> Int × Int) (xs : Array Keyed) (i j : Nat) : Prop := q1 kf xs i = q1 kf xs j /\ q2 kf xs i = q2 kf xs j
noncomputable def Lq (kf : Value -> Int × Int) (xs : Array Keyed) (i j : Nat) : Prop := Kl kf xs i j \/ (Ke kf xs i j /\ qr xs i < qr xs j)
noncomputable def Sta (kf : Value -> Int × Int) (xs : Array Keyed) (m : Nat) : Prop := ∀ i j, i < j -> j < m -> Lq kf xs i j
noncomputable def Dsc (kf : Value -> Int × Int) (xs : Array Keyed) (m : Nat) : Prop := ∀ i j, i < j -> j < m -> Lq kf xs j i
noncomputable def Des (kf : Value -> Int × Int) (xs : Array Keyed) (m q : Nat) : Prop := (∀ i j, i < j -> j < m -> i < q -> Lq kf xs j i /\ (q <= j -> Kl kf xs j i)) /\ ∀ i j, q <= i -> i < j -> j < m -> Ke kf xs i j /\ qr xs i < qr xs j
noncomputable def Pre (N : Nat) (xs : Array Keyed) (m : Nat) : Prop := (∀ k : Nat, k < m -> qr xs k < m) /\ ∀ k : Nat, m <= k -> k < N -> qr xs k = k
theorem aoe {xs ys : Array Keyed} {i j : Nat} (h : xs[i]? = ys[j]?) : qr xs i = qr ys j := by unfold qr; rw [h]
theorem auF {xs ys : Array Keyed} {i j : Nat} (h : xs[i]? = ys[j]?) : q1 kf xs i = q1 kf ys j := by unfold q1; rw [h]
theorem auG {xs ys : Array Keyed} {i j : Nat} (h : xs[i]? = ys[j]?) : q2 kf xs i = q2 kf ys j := by unfold q2; rw [h]
theorem mir {xs : Array Keyed} {i j : Nat} (hj : j <= xs.size) (k : Nat) : (i <= k /\ k < j /\ (mirror xs i j ((j - i) / 2))[k]? = xs[i + j - 1 - k]?) \/ (¬ (i <= k /\ k < j) /\ (mirror xs i j ((j - i) / 2))[k]? = xs[k]?) := by
 have e := getElem?_mirror_all (i := i) hj k
 by_cases h : i <= k /\ k < j
 ·rw [if_pos h] at e; exact .inl ⟨h.1, h.2, e⟩
 ·rw [if_neg h] at e; exact .inr ⟨h, e⟩
theorem aof {xs ys : Array Keyed} {i j i' j' : Nat} (h1 : xs[i]? = ys[i']?) (h2 : xs[j]? = ys[j']?) : Lq kf xs i j ↔ Lq kf ys i' j' := by
 unfold Lq Kl Ke; rw [aoe h1, aoe h2, auF h1, auF h2, auG h1, auG h2]
theorem auH {xs ys : Array Keyed} {i j i' j' : Nat} (h1 : xs[i]? = ys[i']?) (h2 : xs[j]? = ys[j']?) : Kl kf xs i j ↔ Kl kf ys i' j' := by
 unfold Kl; rw [auF h1, auF h2, auG h1, auG h2]
theorem Kl.tr {xs : Array Keyed} {i j k : Nat} (a : Kl kf xs i j) (b : Kl kf xs j k) : Kl kf xs i k := by
 unfold Kl at *
 generalize q1 kf xs i = a1, q2 kf xs i = a2, q1 kf xs j = b1, q2 kf xs j = b2, q1 kf xs k = c1, q2 kf xs k = c2 at *
 omega
theorem Kl.no {xs : Array Keyed} {i j : Nat} (a : ¬ Kl kf xs i j) (b : ¬ Kl kf xs j i) : Ke kf xs i j := by
 unfold Kl at *
 unfold Ke
 generalize q1 kf xs i = a1, q2 kf xs i = a2, q1 kf xs j = b1, q2 kf xs j = b2 at *
 omega
theorem Ke.s {xs : Array Keyed} {i j : Nat} (a : Ke kf xs i j) : Ke kf xs j i := ⟨a.1.symm, a.2.symm⟩
theorem Ke.t {xs : Array Keyed} {i j k : Nat} (a : Ke kf xs i j) (b : Ke kf xs j k) : Ke kf xs i k := ⟨a.1.trans b.1, a.2.trans b.2⟩
theorem Ke.l {xs : Array Keyed} {i j k : Nat} (a : Ke kf xs i j) (b : Kl kf xs j k) : Kl kf xs i k := by
 unfold Kl at *
 rw [a.1, a.2]
 exact b
theorem Ke.r {xs : Array Keyed} {i j k : Nat} (a : Kl kf xs i j) (b : Ke kf xs j k) : Kl kf xs i k := by
 unfold Kl at *
 rw [<-b.1, <-b.2]
 exact a
theorem Kl.tq {xs : Array Keyed} {i j k : Nat} (a : Kl kf xs i j) (b : Lq kf xs j k) : Kl kf xs i k := b.elim a.tr λz => Ke.r a z.1
theorem Kl.qt {xs : Array Keyed} {i j k : Nat} (a : Lq kf xs i j) (b : Kl kf xs j k) : Kl kf xs i k := a.elim (λz => z.tr b) λz => z.1.l b
theorem Lq.mk {xs : Array Keyed} {i j : Nat} (a : ¬ Kl kf xs j i) (b : qr xs i < qr xs j) : Lq kf xs i j := by
 by_cases h : Kl kf xs i j
 ·exact .inl h
 ·exact .inr ⟨Kl.no h a, b⟩
theorem Pre.mir {N : Nat} {xs : Array Keyed} {m i j : Nat} (h : Pre N xs m) (hj : j <= xs.size) (hm : j <= m) : Pre N (mirror xs i j ((j - i) / 2)) m := by
 refine ⟨λk hk => ?_, λk hk hN => ?_⟩
 ·rcases L2.mir hj k with ⟨a, b, e⟩ | ⟨n, e⟩
  ·rw [aoe e]; exact h.1 _ (by omega)
  ·rw [aoe e]; exact h.1 _ hk
 ·rcases L2.mir hj k with ⟨a, b, e⟩ | ⟨n, e⟩
  ·omega
  ·rw [aoe e]; exact h.2 _ hk hN
theorem Dsc.turn {xs : Array Keyed} {m : Nat} (h : Dsc kf xs m) (hm : m <= xs.size) : Sta kf (mirror xs 0 m ((m - 0) / 2)) m := λi j hij hj => by
 rcases mir (i := 0) hm i with ⟨_, _, e1⟩ | ⟨n, _⟩
 ·rcases mir (i := 0) hm j with ⟨_, _, e2⟩ | ⟨n, _⟩
  ·rw [aof e1 e2]; exact h _ _ (by omega) (by omega)
  ·omega
 ·omega
theorem Des.turn {xs : Array Keyed} {m q : Nat} (h : Des kf xs m q) (hm : m <= xs.size) (hq : q < m) : Dsc kf (mirror xs q m ((m - q) / 2)) m := λi j hij hj => by
 rcases mir (i := q) hm i with ⟨a, b, e1⟩ | ⟨n, e1⟩ <;> rcases mir (i := q) hm j with ⟨a', b', e2⟩ | ⟨n', e2⟩
 ·rw [aof e2 e1]
  have z := h.2 (q + m - 1 - j) (q + m - 1 - i) (by omega) (by omega) (by omega)
  exact .inr z
 ·omega
 ·rw [aof e2 e1]
  exact (h.1 i (q + m - 1 - j) (by omega) (by omega) (by omega)).1
 ·rw [aof e2 e1]
  exact (h.1 i j hij hj (by omega)).1
theorem Des.one {xs : Array Keyed} {m q : Nat} (h : Des kf xs m q) (hq : m <= q + 1) : Dsc kf xs m := λi j hij hj => (h.1 i j hij hj (by omega)).1
end
section
variable {prog : Program} {w : World} {A : Around} {E : Value -> Shared -> Prop} {s : Shared} {N : Nat} {kd : SortKind} {kf : Value -> Int × Int}
structure SB (a₀ : Array Keyed) (kd : SortKind) (st : SortSt) : Prop where
 pm : (arrOf st).Perm a₀
 kn : kindOf st = kd
 fl : failedOf st = none
 pd : pendingOf st = #[]
theorem SB.sz {a₀ : Array Keyed} {st : SortSt} (h : SB a₀ kd st) : (arrOf st).size = a₀.size := h.pm.size_eq
theorem SB.put {a₀ : Array Keyed} {st : SortSt} (h : SB a₀ kd st) {xs : Array Keyed} (p : xs.Perm (arrOf st)) : SB a₀ kd (setArr st xs) := ⟨p.trans h.pm, h.kn, h.fl, h.pd⟩
noncomputable def Asks (prog : Program) (w : World) (A : Around) (E : Value -> Shared -> Prop) (s : Shared) (a₀ : Array Keyed) (kd : SortKind) (kf : Value -> Int × Int) : Prop :=
 ∀ (st : SortSt) (i j : Nat) (Q : Option Bool -> SortSt -> Prop), SB a₀ kd st -> i < a₀.size -> j < a₀.size -> Q (some (decide (Kl kf (arrOf st) i j))) st -> wpS (model prog w) A E s (ltAt' i j) Q st
variable {a₀ : Array Keyed} (ask : Asks prog w A E s a₀ kd kf)
include ask
theorem ape {st : SortSt} {a n : Nat} {Q : AscSt -> SortSt -> Prop} (hn : n <= a₀.size) (ha : 1 <= a) (han : a <= n) (B : SB a₀ kd st) (p : Pre a₀.size (arrOf st) a) (h0 : Sta kf (arrOf st) a)
  (h : ∀ m, a <= m -> m <= n -> Sta kf (arrOf st) m -> Pre a₀.size (arrOf st) m -> (m = n \/ (m < n /\ Kl kf (arrOf st) m (m - 1))) -> Q (none, m) st) : wpS (model prog w) A E s (ascLoop a n) Q st := by
 unfold ascLoop
 have up : ∀ x, a <= x -> x <= n -> Pre a₀.size (arrOf st) x := λx h1 h2 => ⟨λk hk => by
  by_cases z : k < a
  ·have := p.1 k z; omega
  ·rw [p.2 k (by omega) (by omega)]; omega, λk h3 h4 => p.2 k (by omega) h4⟩
 refine wpS_forRange (I := λx c t => t = st /\ c = (none, x) /\ x <= n /\ Sta kf (arrOf st) x) ?_ ?_ ⟨rfl, rfl, han, h0⟩
 ·rintro x c t h1 h2 ⟨rfl, rfl, _, hs⟩
  refine wpS_bind (ask _ _ _ _ B (by omega) (by omega) ?_)
  by_cases l : Kl kf (arrOf t) x (x - 1)
  ·rw [decide_eq_true l]
   exact wpS_pure (h x h1 (by omega) hs (up x h1 (by omega)) (.inr ⟨h2, l⟩))
  ·rw [decide_eq_false l]
   refine wpS_pure ⟨rfl, rfl, h2, λi j hij hj => ?_⟩
   by_cases z : j < x
   ·exact hs i j hij z
   ·have ej : j = x := by omega
    subst ej
    have r1 := (up j h1 (by omega)).1 i hij
    have r2 := (up j h1 (by omega)).2 j (Nat.le_refl _) (by omega)
    by_cases z : i = j - 1
    ·subst z
     exact Lq.mk l (by rw [r2]; exact r1)
    ·have y := hs i (j - 1) (by omega) (by omega)
     exact Lq.mk (λz => l (z.tq y)) (by rw [r2]; exact r1)
 ·rintro c t ⟨rfl, rfl, _, hs⟩
  rw [show max a n = n by omega] at hs ⊢
  exact h n han (Nat.le_refl _) hs (up n han (Nat.le_refl _)) (.inl rfl)
theorem amv {st : SortSt} {m n : Nat} {Q : Option Nat -> SortSt -> Prop} (hn : n <= a₀.size) (h1 : 1 <= m) (hm : m <= n) (B : SB a₀ kd st) (p : Pre a₀.size (arrOf st) m) (d : Dsc kf (arrOf st) m)
  (h : ∀ m t, SB a₀ kd t -> 1 <= m -> m <= n -> Sta kf (arrOf t) m -> Pre a₀.size (arrOf t) m -> Q (some m) t) : wpS (model prog w) A E s (tail3 m n) Q st := by
 unfold tail3
 have z : m <= (arrOf st).size := by rw [B.sz]; omega
 refine wpS_bind (wpS_reverse ?_)
 have B' : SB a₀ kd (setArr st (mirror (arrOf st) 0 m ((m - 0) / 2))) := B.put (mirror_perm _ _ _ _)
 exact wpS_bind (ape ask hn h1 hm B' (p.mir z (Nat.le_refl _)) (d.turn z) λk k1 k2 k3 k4 _ => wpS_pure (h k _ B' (by omega) k2 k3 k4))
theorem aqo {st : SortSt} {m n : Nat} {Q : DescSt -> SortSt -> Prop} (hn : n <= a₀.size) (h1 : 1 <= m) (hm : m <= n) (B : SB a₀ kd st) (p : Pre a₀.size (arrOf st) m) (d : Des kf (arrOf st) m (m - 1))
  (h : ∀ x e t, SB a₀ kd t -> m <= x -> x <= n -> e + 1 <= x -> Des kf (arrOf t) x (x - (e + 1)) -> Pre a₀.size (arrOf t) x -> Q (none, x, e) t) : wpS (model prog w) A E s (descLoop m n) Q st := by
 unfold descLoop
 refine wpS_forRange (I := λx c t => ∃ e, c = (none, x, e) /\ SB a₀ kd t /\ x <= n /\ e + 1 <= x /\ Des kf (arrOf t) x (x - (e + 1)) /\ Pre a₀.size (arrOf t) x) ?_ ?_ ⟨0, rfl, B, hm, by omega, d, p⟩
 ·rintro x c t k1 k2 ⟨e, rfl, B', _, ke, d', p'⟩
  dsimp only
  have z : x <= (arrOf t).size := by rw [B'.sz]; omega
  have pu : ∀ ys : Array Keyed, Pre a₀.size ys x -> Pre a₀.size ys (x + 1) := λys q => ⟨λk hk => by
   by_cases y : k < x
   ·have := q.1 k y; omega
   ·rw [q.2 k (by omega) (by omega)]; omega, λk h3 h4 => q.2 k (by omega) h4⟩
  refine wpS_bind (ask _ _ _ _ B' (by omega) (by omega) ?_)
  by_cases l : Kl kf (arrOf t) x (x - 1)
  ·rw [decide_eq_true l]
   have next : ∀ ys : Array Keyed, Dsc kf ys x -> (∀ i, i < x -> Kl kf ys x i) -> Des kf ys (x + 1) x := λys y1 y2 => ⟨λi j hij hj hi => by
    by_cases y : j < x
    ·exact ⟨y1 i j hij y, λz => by omega⟩
    ·have : j = x := by omega
     subst this
     exact ⟨.inl (y2 i hi), λ_ => y2 i hi⟩, λi j h1 h2 h3 => by omega⟩
   have low : ∀ i, i < x -> Kl kf (arrOf t) x i := λi hi => by
    by_cases y : i = x - 1
    ·rw [y]; exact l
    ·by_cases y2 : i < x - (e + 1)
     ·exact l.tq (d'.1 i (x - 1) (by omega) (by omega) y2).1
     ·exact Ke.r l (d'.2 i (x - 1) (by omega) (by omega) (by omega)).1.s
   show wpS _ _ _ _ (if e > 0 then _ else _) _ _
   by_cases g : e > 0
   ·rw [if_pos g]
    refine wpS_bind (wpS_reverse (wpS_pure ⟨0, rfl, B'.put (mirror_perm _ _ _ _), k2, by omega, ?_, pu _ (p'.mir z (Nat.le_refl _))⟩))
    rw [show x + 1 - (0 + 1) = x by omega]
    refine next _ (d'.turn z (by omega)) λi hi => ?_
    rcases mir (i := x - (e + 1)) z x with ⟨_, b, _⟩ | ⟨_, e1⟩
    ·omega
    ·rcases mir (i := x - (e + 1)) z i with ⟨_, _, e2⟩ | ⟨_, e2⟩
     ·rw [auH e1 e2]; exact low _ (by omega)
     ·rw [auH e1 e2]; exact low _ hi
   ·rw [if_neg g]
    refine wpS_pure ⟨0, rfl, B', k2, by omega, ?_, pu _ p'⟩
    rw [show x + 1 - (0 + 1) = x by omega]
    exact next _ (d'.one (by omega)) low
  ·rw [decide_eq_false l]
   show wpS _ _ _ _ (ltAt' (x - 1) x >>= _) _ _
   refine wpS_bind (ask _ _ _ _ B' (by omega) (by omega) ?_)
   by_cases g : Kl kf (arrOf t) (x - 1) x
   ·rw [decide_eq_true g]
    exact wpS_pure (h x e t B' k1 (by omega) ke d' p')
   ·rw [decide_eq_false g]
    have eq : Ke kf (arrOf t) (x - 1) x := Kl.no g l
    refine wpS_pure ⟨e + 1, rfl, B', k2, by omega, ?_, pu _ p'⟩
    rw [show x + 1 - (e + 1 + 1) = x - (e + 1) by omega]
    refine ⟨λi j hij hj hi => ?_, λi j hi hij hj => ?_⟩
    ·by_cases y : j < x
     ·exact d'.1 i j hij y hi
     ·have : j = x := by omega
      subst this
      have y := (d'.1 i (j - 1) (by omega) (by omega) hi).2 (by omega)
      have y' : Kl kf (arrOf t) j i := eq.s.l y
      exact ⟨.inl y', λ_ => y'⟩
    ·by_cases y : j < x
     ·exact d'.2 i j hi hij y
     ·have : j = x := by omega
      subst this
      have r1 := p'.1 i hij
      have r2 := p'.2 j (Nat.le_refl _) (by omega)
      refine ⟨?_, by omega⟩
      by_cases y : i = j - 1
      ·rw [y]; exact eq
      ·exact (d'.2 i (j - 1) hi (by omega) (by omega)).1.t eq
 ·rintro c t ⟨e, rfl, B', _, ke, d', p'⟩
  rw [show max m n = n by omega] at ke d' p' ⊢
  exact h n e t B' hm (Nat.le_refl _) ke d' p'
theorem akv {st : SortSt} {m n : Nat} {Q : Option Nat -> SortSt -> Prop} (hn : n <= a₀.size) (hm : m + 1 <= n) (B : SB a₀ kd st) (p : Pre a₀.size (arrOf st) (m + 1)) (d : Des kf (arrOf st) (m + 1) m)
  (h : ∀ m t, SB a₀ kd t -> 1 <= m -> m <= n -> Sta kf (arrOf t) m -> Pre a₀.size (arrOf t) m -> Q (some m) t) : wpS (model prog w) A E s (descPart m n) Q st := by
 unfold descPart
 refine wpS_bind (wpS_lift (wpAny_rule ⟨rfl, ?_⟩))
 refine wpS_bind (aqo ask hn (by omega) hm B p (by rw [show m + 1 - 1 = m by omega]; exact d) λx e t B' k1 k2 ke d' p' => ?_)
 have z : x <= (arrOf t).size := by rw [B'.sz]; omega
 show wpS _ _ _ _ (if e > 0 then (reverseSlice' (x - (e + 1)) x >>= λ_ => tail3 x n) else tail3 x n) _ _
 by_cases g : e > 0
 ·rw [if_pos g]
  exact wpS_bind (wpS_reverse (amv ask hn (by omega) k2 (B'.put (mirror_perm _ _ _ _)) (p'.mir z (Nat.le_refl _)) (d'.turn z (by omega)) h))
 ·rw [if_neg g]
  exact amv ask hn (by omega) k2 B' p' (d'.one (by omega)) h
theorem aog {st : SortSt} {n : Nat} {Q : Option Nat -> SortSt -> Prop} (hn : n <= a₀.size) (h1 : 1 <= n) (B : SB a₀ kd st) (p : Pre a₀.size (arrOf st) 0)
  (h : ∀ m t, SB a₀ kd t -> 1 <= m -> m <= n -> Sta kf (arrOf t) m -> Pre a₀.size (arrOf t) m -> Q (some m) t) : wpS (model prog w) A E s (countRun' 0 n) Q st := by
 rw [countRun0_eq]
 have p1 : Pre a₀.size (arrOf st) 1 := ⟨λk hk => by rw [p.2 k (by omega) (by omega)]; omega, λk h3 h4 => p.2 k (by omega) h4⟩
 refine wpS_bind (ape ask hn (Nat.le_refl 1) h1 B p1 (λi j _ _ => by omega) λm m1 m2 hs hp ho => ?_)
 show wpS _ _ _ _ (if (m == n) = true then _ else _) _ _
 by_cases e : m = n
 ·rw [if_pos (by simpa using e)]
  exact wpS_pure (h m st B m1 m2 hs hp)
 ·rw [if_neg (by simpa using e)]
  obtain ⟨ml, l⟩ := ho.resolve_left e
  have pn : ∀ ys : Array Keyed, Pre a₀.size ys m -> Pre a₀.size ys (m + 1) := λys q => ⟨λk hk => by
   by_cases y : k < m
   ·have := q.1 k y; omega
   ·rw [q.2 k (by omega) (by omega)]; omega, λk h3 h4 => q.2 k (by omega) h4⟩
  by_cases g : m > 1
  ·rw [if_pos g]
   refine wpS_bind (ask _ _ _ _ B (by omega) (by omega) ?_)
   by_cases r : Kl kf (arrOf st) 0 (m - 1)
   ·rw [decide_eq_true r]
    exact wpS_pure (h m st B m1 m2 hs hp)
   ·rw [decide_eq_false r]
    have z : m <= (arrOf st).size := by rw [B.sz]; omega
    have all : ∀ i j, i < j -> j < m -> Ke kf (arrOf st) i j /\ qr (arrOf st) i < qr (arrOf st) j := λi j hij hj => by
     have a1 := hs i j hij hj
     have a2 : i = 0 \/ Lq kf (arrOf st) 0 i := by
      by_cases y : i = 0
      ·exact .inl y
      ·exact .inr (hs 0 i (by omega) (by omega))
     have a3 : j = m - 1 \/ Lq kf (arrOf st) j (m - 1) := by
      by_cases y : j = m - 1
      ·exact .inl y
      ·exact .inr (hs j (m - 1) (by omega) (by omega))
     rcases a1 with k1 | k1
     ·have k2 : Kl kf (arrOf st) 0 j := by
       rcases a2 with y | y
       ·rw [y] at k1; exact k1
       ·exact Kl.qt y k1
      refine absurd ?_ r
      rcases a3 with y | y
      ·rw [y] at k2; exact k2
      ·exact k2.tq y
     ·exact k1
    have ds : Des kf (arrOf st) m 0 := ⟨λi j _ _ hi => by omega, λi j _ hij hj => all i j hij hj⟩
    show wpS _ _ _ _ (reverseSlice' 0 m >>= λ_ => descPart m n) _ _
    refine wpS_bind (wpS_reverse (akv ask hn (by omega) (B.put (mirror_perm _ _ _ _)) (pn _ (hp.mir z (Nat.le_refl _))) ?_ h))
    have dd := ds.turn z (by omega)
    have low : ∀ i, i < m -> Kl kf (arrOf st) m i := λi hi => by
     by_cases y : i = m - 1
     ·rw [y]; exact l
     ·exact Ke.r l (all i (m - 1) (by omega) (by omega)).1.s
    have aw4 : ∀ i, i < m -> Kl kf (mirror (arrOf st) 0 m ((m - 0) / 2)) m i := λi hi => by
     rcases mir (i := 0) z m with ⟨_, b, _⟩ | ⟨_, e1⟩
     ·omega
     ·rcases mir (i := 0) z i with ⟨_, _, e2⟩ | ⟨_, e2⟩
      ·rw [auH e1 e2]; exact low _ (by omega)
      ·rw [auH e1 e2]; exact low _ hi
    refine ⟨λi j hij hj hi => ?_, λi j _ _ _ => by omega⟩
    by_cases y : j < m
    ·exact ⟨dd i j hij y, λz => by omega⟩
    ·have : j = m := by omega
     subst this
     exact ⟨.inl (aw4 i hi), λ_ => aw4 i hi⟩
  ·rw [if_neg g]
   have e1 : m = 1 := by omega
   subst e1
   refine akv ask hn (by omega) B (pn _ hp) ⟨λi j hij hj hi => ?_, λi j _ _ _ => by omega⟩ h
   have i0 : i = 0 := by omega
   have j1 : j = 1 := by omega
   subst i0 j1
   exact ⟨.inl l, λ_ => l⟩
theorem ata {st : SortSt} {n ok : Nat} {Q : Bool -> SortSt -> Prop} (hn : n <= a₀.size) (h1 : 1 <= ok) (hok : ok <= n) (B : SB a₀ kd st) (p : Pre a₀.size (arrOf st) ok) (d : Sta kf (arrOf st) ok)
  (h : ∀ t, SB a₀ kd t -> Sta kf (arrOf t) n -> Q true t) : wpS (model prog w) A E s (binarySort' 0 n ok) Q st := by
 rw [binarySort'_eq]
 simp only [Nat.zero_add]
 refine wpS_bind (wpS_mono (wpS_forRange (I := λk c t => c = (none, ()) /\ SB a₀ kd t /\ k <= n /\ Sta kf (arrOf t) k /\ Pre a₀.size (arrOf t) k) (Q := λc t => c = (none, ()) /\ SB a₀ kd t /\ Sta kf (arrOf t) n) ?_ ?_ ?_) ?_)
 ·rintro k c t k1 k2 ⟨rfl, B', _, d', p'⟩
  have hk : k < a₀.size := by omega
  have rk := p'.2 k (Nat.le_refl _) hk
  refine wpS_bind (wpS_mono (wpS_forRange (I := λx c u => u = t /\ ∃ l r, c = (none, l, r) /\ l <= r /\ r <= k /\ r - l <= k - x /\ (∀ i, i < l -> ¬ Kl kf (arrOf t) k i) /\ ∀ i, r <= i -> i < k -> Kl kf (arrOf t) k i)
   (Q := λc u => u = t /\ ∃ l r, c = (none, l, r) /\ l <= k /\ (∀ i, i < l -> ¬ Kl kf (arrOf t) k i) /\ ∀ i, l <= i -> i < k -> Kl kf (arrOf t) k i) ?_ ?_ ?_) ?_)
  ·rintro x c u _ hx ⟨rfl, l, r, rfl, g1, g2, g3, lo, hi⟩
   dsimp only
   by_cases g : l >= r
   ·rw [if_pos g]
    have : l = r := by omega
    subst this
    exact wpS_pure ⟨rfl, l, l, rfl, g2, lo, hi⟩
   ·rw [if_neg g]
    refine wpS_bind (ask _ _ _ _ B' hk (by omega) ?_)
    by_cases le : Kl kf (arrOf u) k ((l + r) / 2)
    ·rw [decide_eq_true le]
     refine wpS_pure ⟨rfl, l, (l + r) / 2, rfl, by omega, by omega, by omega, lo, λi h1 h2 => ?_⟩
     by_cases y : i = (l + r) / 2
     ·rw [y]; exact le
     ·exact le.tq (d' ((l + r) / 2) i (by omega) h2)
    ·rw [decide_eq_false le]
     refine wpS_pure ⟨rfl, (l + r) / 2 + 1, r, rfl, by omega, by omega, by omega, λi h1 => ?_, hi⟩
     by_cases y : i = (l + r) / 2
     ·rw [y]; exact le
     ·exact λz => le (z.tq (d' i ((l + r) / 2) (by omega) (by omega)))
  ·rintro c u ⟨rfl, l, r, rfl, g1, g2, g3, lo, hi⟩
   have : l = r := by omega
   subst this
   exact ⟨rfl, l, l, rfl, g2, lo, hi⟩
  ·exact ⟨rfl, 0, k, rfl, by omega, by omega, by omega, λi hi => by omega, λi g1 g2 => by omega⟩
  ·rintro c u ⟨rfl, l, r, rfl, lk, lo, hi⟩
   show wpS _ _ _ _ (moveDown' k l >>= λ_ => pure (ForInStep.yield (none, ()))) _ _
   rw [moveDown'_eq]
   refine wpS_bind (wpS_modify (wpS_pure ⟨rfl, B'.put (bubble_perm _ _ _), k2, ?_, ?_⟩))
   all_goals
    have ks : k < (arrOf u).size := by rw [B'.sz]; exact hk
    have bb := getElem?_bubble ks (k - l) (by omega)
    rw [show k - (k - l) = l by omega] at bb
    have b1 : (bubble (arrOf u) k (k - l))[l]? = (arrOf u)[k]? := by rw [bb, if_pos rfl]
    have b2 : ∀ i, l < i -> i <= k -> (bubble (arrOf u) k (k - l))[i]? = (arrOf u)[i - 1]? := λi g1 g2 => by rw [bb, if_neg (by omega), if_pos ⟨g1, g2⟩]
    have b3 : ∀ i, i < l -> (bubble (arrOf u) k (k - l))[i]? = (arrOf u)[i]? := λi g1 => by rw [bb, if_neg (by omega), if_neg (by omega)]
    have b4 : ∀ i, k < i -> (bubble (arrOf u) k (k - l))[i]? = (arrOf u)[i]? := λi g1 => by rw [bb, if_neg (by omega), if_neg (by omega)]
   ·intro i j hij hj
    show Lq kf (bubble (arrOf u) k (k - l)) i j
    rcases Nat.lt_trichotomy i l with y | y | y <;> rcases Nat.lt_trichotomy j l with y' | y' | y'
    ·rw [aof (b3 i y) (b3 j y')]; exact d' i j hij (by omega)
    ·subst y'
     rw [aof (b3 i y) b1]
     exact Lq.mk (lo i y) (by rw [rk]; exact p'.1 i (by omega))
    ·rw [aof (b3 i y) (b2 j y' (by omega))]; exact d' i (j - 1) (by omega) (by omega)
    ·omega
    ·omega
    ·subst y
     rw [aof b1 (b2 j y' (by omega))]
     exact .inl (hi _ (by omega) (by omega))
    ·omega
    ·omega
    ·rw [aof (b2 i y (by omega)) (b2 j y' (by omega))]; exact d' _ _ (by omega) (by omega)
   ·refine ⟨λi hi' => ?_, λi g1 g2 => ?_⟩
    ·show qr (bubble (arrOf u) k (k - l)) i < _
     rcases Nat.lt_trichotomy i l with y | y | y
     ·rw [aoe (b3 i y)]; have := p'.1 i (by omega); omega
     ·subst y; rw [aoe b1, rk]; omega
     ·rw [aoe (b2 i y (by omega))]; have := p'.1 (i - 1) (by omega); omega
    ·show qr (bubble (arrOf u) k (k - l)) i = _
     rw [aoe (b4 i (by omega))]
     exact p'.2 i (by omega) g2
 ·rintro c t ⟨rfl, B', kn, d', p'⟩
  refine ⟨rfl, B', ?_⟩
  rwa [show max (max ok 1) n = n by omega] at d'
 ·rw [show max ok 1 = ok by omega]
  exact ⟨rfl, B, hok, d, p⟩
 ·rintro c t ⟨rfl, B', d'⟩
  exact wpS_pure (h t B' d')
theorem aqp {st : SortSt} {Q : Unit -> SortSt -> Prop} (B : SB a₀ kd st) (h2 : 2 <= a₀.size) (h64 : a₀.size < 64) (p : Pre a₀.size (arrOf st) 0)
  (h : ∀ t, (arrOf t).Perm a₀ -> failedOf t = none -> Sta kf (arrOf t) a₀.size -> Q () t) : wpS (model prog w) A E s sortRuns' Q st := by
 rw [sortRuns'_eq]
 refine wpS_bind (wpS_get ?_)
 have mr : minRun' (arrOf st).size (arrOf st).size 0 = a₀.size := by
  rw [B.sz]
  obtain ⟨f, hf⟩ : ∃ f, a₀.size = f + 1 := ⟨a₀.size - 1, by omega⟩
  have : minRun' (f + 1) (f + 1) 0 = f + 1 := by rw [minRun'_succ, if_pos (by omega)]
  rw [hf]; exact this
 dsimp only
 rw [mr, B.sz]
 have fin : ∀ t, SB a₀ kd t -> Sta kf (arrOf t) a₀.size -> (arrOf (setPending t ((pendingOf t).push (0, a₀.size, 0)))).Perm a₀ /\ failedOf (setPending t ((pendingOf t).push (0, a₀.size, 0))) = none /\ pendingOf (setPending t ((pendingOf t).push (0, a₀.size, 0))) = #[(0, a₀.size, 0)] /\ Sta kf (arrOf (setPending t ((pendingOf t).push (0, a₀.size, 0)))) a₀.size :=
  λt B' d' => ⟨B'.pm, B'.fl, by show (pendingOf t).push _ = _; rw [B'.pd]; rfl, d'⟩
 refine wpS_bind (wpS_mono (wpS_forRange (I := λx c t => (x = 0 /\ c = (none, 0) /\ SB a₀ kd t /\ Pre a₀.size (arrOf t) 0) \/ (1 <= x /\ c = (none, a₀.size) /\ (arrOf t).Perm a₀ /\ failedOf t = none /\ pendingOf t = #[(0, a₀.size, 0)] /\ Sta kf (arrOf t) a₀.size))
  (Q := λc t => c = (none, a₀.size) /\ (arrOf t).Perm a₀ /\ failedOf t = none /\ pendingOf t = #[(0, a₀.size, 0)] /\ Sta kf (arrOf t) a₀.size) ?_ ?_ (.inl ⟨rfl, rfl, B, p⟩)) ?_)
 ·rintro x c t _ hx (⟨rfl, rfl, B', p'⟩ | ⟨hx1, rfl, D⟩)
  ·show wpS _ _ _ _ (if 0 >= a₀.size then _ else _) _ _
   rw [if_neg (by omega)]
   simp only [Nat.sub_zero, Nat.min_self, Nat.zero_add]
   refine wpS_bind (aog ask (Nat.le_refl _) (by omega) B' p' λm u B2 m1 m2 d2 p2 => ?_)
   show wpS _ _ _ _ (if m < a₀.size then _ else _) _ _
   by_cases g : m < a₀.size
   ·rw [if_pos g]
    refine wpS_bind (wpS_lift (wpAny_rule ⟨rfl, ?_⟩))
    refine wpS_bind (ata ask (Nat.le_refl _) m1 m2 B2 p2 d2 λv B3 d3 => ?_)
    simp only [Bool.not_true, Bool.false_eq_true, if_false]
    refine wpS_bind (wpS_get ?_)
    rw [show (pendingOf v).back? = none by rw [B3.pd]; rfl]
    exact wpS_bind (wpS_modify (wpS_pure (.inr ⟨by omega, rfl, fin v B3 d3⟩)))
   ·rw [if_neg g]
    have e : m = a₀.size := by omega
    subst e
    refine wpS_bind (wpS_get ?_)
    rw [show (pendingOf u).back? = none by rw [B2.pd]; rfl]
    exact wpS_bind (wpS_modify (wpS_pure (.inr ⟨by omega, rfl, fin u B2 d2⟩)))
  ·show wpS _ _ _ _ (if a₀.size >= a₀.size then _ else _) _ _
   rw [if_pos (Nat.le_refl _)]
   exact wpS_pure ⟨rfl, D⟩
 ·rintro c t (⟨hx, _, _⟩ | ⟨_, hc, D⟩)
  ·omega
  ·exact ⟨hc, D⟩
 ·rintro c t ⟨rfl, D⟩
  refine wpS_bind (wpS_mono (wpS_forRange (I := λ_ c u => u = t /\ c = (none, ())) (Q := λc u => u = t /\ c = (none, ())) ?_ (λ_ _ z => z) ⟨rfl, rfl⟩) ?_)
  ·rintro x c u _ _ ⟨rfl, rfl⟩
   refine wpS_bind (wpS_get ?_)
   rw [if_pos (by rw [D.2.2.1]; exact Nat.le_refl 1)]
   exact wpS_pure ⟨rfl, rfl⟩
  ·rintro c u ⟨rfl, rfl⟩
   exact wpS_pure (h _ D.1 D.2.1 D.2.2.2)
end
end L2
end
section
namespace L2
open PySem PySem.Spec PyProof.Rows PySem.W
section
variable {X : Cx} {pins : List (Addr × Obj)} {σ : St} {H : Hp} {s : Shared}
theorem Inv.track {a : Addr} {xs : List V} {its : List Value} {n : Nat} (I : Inv X pins σ H s) (f : aeY X pins H a) (e : s.heap.get? a = some { cls := .type "list", data := .seq its.toArray n }) (r : Vals xs its) (hz : xs.length <= sizeLine) : Inv X pins σ (upd H a (.lst xs)) s := by
 obtain ⟨f0, f1, f2, f3, f4, f5⟩ := f
 have ok : HOk X.prog X.w (upd H a (.lst xs)) s.heap := λb u q => by
  by_cases hb : b = a
  ·subst hb; rw [aaK] at q; cases q; exact ⟨hz, its, n, r, e⟩
  ·rw [aaw hb] at q
   exact (I.hok b u q).stay (λc v _ z => z) (λc z => by rw [aaw (aa1 z f0)]; exact z) λc ys z => by rw [aaw (aa1 z f0)]; exact z
 exact I.step (h' := s.heap) (g' := s.gens) (t' := s.toks) (d' := s.drawn) (ch := [a]) (λb hb => by
   have : b = a := by simpa using hb
   subst this
   exact ⟨f3, f1, f4, f5⟩) (λb o _ _ _ q _ => q) (λb o _ _ _ q _ => ⟨o.slots, q⟩) (λb o hb _ q => by rw [aaw (by simpa using hb)]; exact q) (λb o _ q => ⟨o, q⟩)
  (λb ys q => by rw [aaw (aa1 q f0)]; exact q) (λb o u q => by rw [aaw (aa1 q f0)]; exact q) (λb ps q => ⟨#[], by rw [aaw (aa1 q f0), q]; simp⟩) (λm q => q) ok I.bare
theorem Inv.sub {agB : List (Addr × Obj)} (I : Inv X pins σ H s) (h : ∀ p ∈ agB, p ∈ pins) : Inv X agB σ H s := I.ag0 λp hp => I.pin p (List.mem_append_right _ (h p hp))
theorem Inv.aqq {a : Addr} {o : Obj} (I : Inv X pins σ H s) (f : aeY X pins H a) (e : s.heap.get? a = some o) (d : ∀ v, o.data ≠ .cell v) : Inv X ((a, o) :: pins) σ H s := I.ag0 λp hp => by
 rcases List.mem_cons.mp hp with rfl | hp
 ·exact ⟨e, f.1, f.2.1, f.2.2.1, d⟩
 ·exact I.pin p (List.mem_append_right _ hp)
theorem aeY.aqq {a b : Addr} {o : Obj} (f : aeY X pins H b) (n : a ≠ b) : aeY X ((a, o) :: pins) H b := ⟨f.1, f.2.1, f.2.2.1, f.2.2.2.1, f.2.2.2.2.1, λp hp => by
 rcases List.mem_append.mp hp with hp | hp
 ·exact f.2.2.2.2.2 p (List.mem_append_left _ hp)
 ·rcases List.mem_cons.mp hp with rfl | hp
  ·exact n
  ·exact f.2.2.2.2.2 p (List.mem_append_right _ hp)⟩
theorem Inv.wr {a : Addr} {g : Array Value -> Array Value} {t' : Nat} (I : Inv X pins σ H s) (f : aeY X pins H a) : Inv X pins σ H { s with heap := s.heap.update a (Obj.mapSeq g), toks := t' } := by
 obtain ⟨f0, f1, f2, f3, f4, f5⟩ := f
 exact I.turned (it := a) (λb o hb e => ((Heap.SameBut.update s.heap a _).2 b hb).trans e) f0 f1 f3 f4 f5
end
noncomputable def Srt (n : Nat) (kz : Nat -> Int × Int) (ys : List Nat) : Prop := ys.Perm (List.range n) /\ ys.Pairwise λi j => ((kz i).1 < (kz j).1 \/ ((kz i).1 = (kz j).1 /\ (kz i).2 < (kz j).2)) \/ (((kz i).1 = (kz j).1 /\ (kz i).2 = (kz j).2) /\ i < j)
structure aja (X : Cx) (Kv : Hp -> Value -> Int × Int -> Prop) (kd : SortKind) : Prop where
 kind : ∀ (H : Hp) (keys : Array Value) (kz : Nat -> Int × Int), 2 <= keys.size -> (∀ i v, keys[i]? = some v -> Kv H v (kz i)) -> ∀ {pins σ s Q E}, Inv X pins σ H s -> Q kd s -> wpAny (model X.prog X.w) X.A.in1.in1 (keyKind' keys) Q E s
 ask : ∀ {pins σ H s} {E : Value -> Shared -> Prop} (a₀ : Array Keyed) (kf : Value -> Int × Int), Inv X pins σ H s -> (∀ p, p ∈ a₀.toList -> Kv H p.1 (kf p.1)) -> Asks X.prog X.w X.A.in1.in1 E s a₀ kd kf
section
variable {X : Cx}
theorem atb : aja X (λ_ v k => ∃ t, v = .int k.1 t /\ k.2 = 0) oneType' where
 kind := λH keys kz h2 hk pins σ s Q E I q => by
  have hi : IntsAre keys.toList (keys.toList.map numOf) := by
   refine intsAre_map _ λv hv => ?_
   obtain ⟨i, hi, e⟩ := List.getElem_of_mem hv
   obtain ⟨t, z, _⟩ := hk i v (by rw [<-e]; simp [Array.getElem?_eq_getElem (show i < keys.size by simpa using hi)])
   exact ⟨_, t, z⟩
  rw [ksk_kind hi h2]
  exact wpAny_pure q
 ask := λa₀ kf I h st i j Q B hi hj q => by
  have h0 : IntKeys a₀ := λp hp => by
   obtain ⟨t, z, _⟩ := h p hp
   exact ⟨_, t, z⟩
  have B' : SBase a₀ st := ⟨B.pm, B.kn, B.fl, B.pd⟩
  have at_ : ∀ i, i < a₀.size -> q1 kf (arrOf st) i = K (arrOf st) i /\ q2 kf (arrOf st) i = 0 := λi hi => by
   obtain ⟨t, p, e⟩ := B'.at h0 hi
   have hi' : i < (arrOf st).size := by rw [B.sz]; exact hi
   have hm : (arrOf st)[i] ∈ a₀.toList := (Array.perm_iff_toList_perm.mp B.pm).mem_iff.mp (by simp)
   obtain ⟨t', z, z2⟩ := h _ hm
   have e' : (arrOf st)[i]? = some (arrOf st)[i] := getElem?_pos _ i hi'
   have e2 : (arrOf st)[i] = (Value.int (K (arrOf st) i) t, p) := by rw [e'] at e; exact Option.some.inj e
   rw [e2] at z z2
   unfold q1 q2
   rw [e]
   refine ⟨?_, z2⟩
   have z : Value.int (K (arrOf st) i) t = Value.int (kf (Value.int (K (arrOf st) i) t)).1 t' := z
   injection z with z
   exact z.symm
  refine wpS_ltK B' h0 hi hj ?_
  have : decide (Kl kf (arrOf st) i j) = decide (K (arrOf st) i < K (arrOf st) j) := by
   rw [decide_eq_decide]
   unfold Kl
   rw [(at_ i hi).1, (at_ j hj).1, (at_ i hi).2, (at_ j hj).2]
   omega
  rw [this] at q
  exact q
end
section
variable {X : Cx} {pins : List (Addr × Obj)} {σ : St} {H : Hp} {s : Shared} {Kv : Hp -> Value -> Int × Int -> Prop} {kd : SortKind} {a kS : Addr} {n : Nat} {kz : Nat -> Int × Int} {vs : List Value}
theorem amw {e1 : Nat} {keys : Array Value} {e : Nat} {st : SortSt} {P : PySem.Fin -> Shared -> Prop} {E : Value -> Shared -> Prop} (I : Inv X pins σ H s) (fk : aeY X pins H kS) (fa : aeY X pins H a) (ne : kS ≠ a) (hk : s.heap.get? kS = some (seqObj "list" keys e)) (ha : s.heap.get? a = some (seqObj "list" #[] e1)) (hks : keys.size <= 64) (hst : (arrOf st).size <= 64) (fl : failedOf st = none)
  (h : ∀ s' c, Inv X pins σ H s' -> s'.heap.get? a = some (seqObj "list" ((arrOf st).map (·.2)) c) -> P (.done (.ret .none)) s') : wpAny (model X.prog X.w) X.A.in1.in1 (ksk_tail a false e1 (.ref kS) st) P E s := by
 unfold ksk_tail
 refine wpAny_bind (listUpdate_at hk rfl ?_ (by rw [sizeLine_eq]; omega) (Nat.zero_le _))
 refine wpAny_bind (wpAny_letGo ?_)
 have I1 := I.wr (g := λ_ => #[]) (t' := s.toks) fk
 have ha1 : (s.heap.update kS (Obj.mapSeq λ_ => (#[] : Array Value))).get? a = some (seqObj "list" #[] e1) := ((Heap.SameBut.update s.heap kS _).2 a (Ne.symm ne)).trans ha
 refine wpAny_bind (seqEpoch_at ha1 rfl ?_)
 refine wpAny_bind (listUpdate_at ha1 rfl ?_ (Nat.zero_le _) (by simp only [Bool.false_eq_true, if_false, Array.size_map]; rw [sizeLine_eq]; omega))
 rw [fl]
 simp only [bne_self_eq_false, Bool.false_eq_true, if_false]
 exact wpAny_pure (h _ _ (I1.wr (t' := s.toks) fa) (get?_update_seq ha1 _))
theorem atc {e1 : Nat} {keys : Array Value} {e : Nat} {P : PySem.Fin -> Shared -> Prop} {E : Value -> Shared -> Prop} (T : aja X Kv kd) (I : Inv X pins σ H s) (fk : aeY X pins H kS) (fa : aeY X pins H a) (ne : kS ≠ a) (hk : s.heap.get? kS = some (seqObj "list" keys e)) (ha : s.heap.get? a = some (seqObj "list" #[] e1))
  (hv : ∀ (i : Nat) (v : Value), vs[i]? = some v -> ∃ t, v = Value.int i t) (hl : vs.length = n) (hkn : keys.size = n) (h64 : n < 64) (hK : ∀ i v, keys[i]? = some v -> Kv H v (kz i)) (inj : ∀ v k k', Kv H v k -> Kv H v k' -> k = k')
  (h : ∀ s' c out, Inv X pins σ H s' -> s'.heap.get? a = some (seqObj "list" out c) -> (∃ ys, Srt n kz ys /\ Vals (ys.map λi : Nat => V.int i) out.toList) -> P (.done (.ret .none)) s') : wpAny (model X.prog X.w) X.A.in1.in1 (ksk_end a false vs.toArray e1 (.ref kS) keys) P E s := by
 have zsz : (keys.zip vs.toArray).size = n := by rw [Array.size_zip, hkn, List.size_toArray, hl, Nat.min_self]
 have zat : ∀ i, i < n -> ∃ v t, (keys.zip vs.toArray)[i]? = some (v, .int i t) /\ Kv H v (kz i) := λi hi => by
  obtain ⟨t, e2⟩ := hv i vs[i] (by simp [hl, hi])
  have e1 : keys[i]? = some keys[i] := getElem?_pos _ _ (by omega)
  refine ⟨keys[i], t, ?_, hK i _ e1⟩
  rw [<-Array.getElem?_toList, ksk_zip, List.getElem?_zip_eq_some]
  refine ⟨by simp [Array.getElem?_toList, e1], ?_⟩
  show vs[i]? = some (Value.int i t)
  rw [List.getElem?_eq_getElem (by omega), e2]
 -- what the sorted array says
 have fin : ∀ (kf : Value -> Int × Int) (xs : Array Keyed), (∀ (i : Nat) v t, (keys.zip vs.toArray)[i]? = some (v, Value.int i t) -> kf v = kz i) -> xs.Perm (keys.zip vs.toArray) -> Sta kf xs n -> ∃ ys, Srt n kz ys /\ Vals (ys.map λi : Nat => V.int i) (xs.map (·.2)).toList := λkf xs hkf hp hs => by
  have hpl := Array.perm_iff_toList_perm.mp hp
  have mem : ∀ p ∈ xs.toList, ∃ i t, i < n /\ p.2 = .int (i : Nat) t /\ kf p.1 = kz i := λp hp' => by
   obtain ⟨i, hi, e⟩ := List.getElem_of_mem (hpl.mem_iff.mp hp')
   have hi' : i < n := by rw [Array.length_toList, zsz] at hi; exact hi
   obtain ⟨v, t, e1, _⟩ := zat i hi'
   have e2 : (keys.zip vs.toArray)[i]? = some p := by rw [<-Array.getElem?_toList, List.getElem?_eq_getElem hi, e]
   rw [e1] at e2
   cases e2
   exact ⟨i, t, hi', rfl, hkf i v t e1⟩
  refine ⟨xs.toList.map λp => (numOf p.2).toNat, ⟨?_, ?_⟩, ?_⟩
  ·have h1 := hpl.map λp : Keyed => (numOf p.2).toNat
   refine h1.trans (List.Perm.of_eq ?_)
   refine List.ext_getElem? λi => ?_
   by_cases hi : i < n
   ·obtain ⟨v, t, e1, _⟩ := zat i hi
    rw [List.getElem?_map, Array.getElem?_toList, e1, List.getElem?_range hi]
    simp [numOf]
   ·rw [List.getElem?_eq_none (by simp [zsz]; omega), List.getElem?_eq_none (by simp; omega)]
  ·rw [List.pairwise_map, List.pairwise_iff_getElem]
   intro i j hi hj hij
   have sz : xs.size = n := by rw [hp.size_eq, zsz]
   have hi' : i < xs.size := by simpa using hi
   have hj' : j < xs.size := by simpa using hj
   have z := hs i j hij (by omega)
   obtain ⟨a1, t1, _, b1, c1⟩ := mem _ (List.getElem_mem hi)
   obtain ⟨a2, t2, _, b2, c2⟩ := mem _ (List.getElem_mem hj)
   have x1 : xs[i]? = some xs.toList[i] := by rw [<-Array.getElem?_toList, List.getElem?_eq_getElem hi]
   have x2 : xs[j]? = some xs.toList[j] := by rw [<-Array.getElem?_toList, List.getElem?_eq_getElem hj]
   unfold Lq Kl Ke q1 q2 qr at z
   rw [x1, x2] at z
   dsimp only at z
   rw [b1, b2, c1, c2] at z
   rw [b1, b2]
   simp only [numOf, Int.toNat_natCast] at z ⊢
   omega
  ·rw [Array.toList_map, List.map_map]
   have go : ∀ l : List Keyed, (∀ p ∈ l, ∃ i t, i < n /\ p.2 = .int (i : Nat) t /\ kf p.1 = kz i) -> Vals (l.map ((λi : Nat => V.int i) ∘ λp : Keyed => (numOf p.2).toNat)) (l.map (·.2)) := λl => by
    induction l with
    | nil => intro _; exact .nil
    | cons p r ih =>
     intro hm
     refine .cons ?_ (ih λq hq => hm q (List.mem_cons_of_mem _ hq))
     obtain ⟨i, t, _, e, _⟩ := hm p (List.mem_cons_self ..)
     exact ⟨t, by simp [e, numOf]⟩
   exact go _ mem
 -- a function of the keys
 obtain ⟨kf, hkf⟩ : ∃ kf : Value -> Int × Int, ∀ v k, Kv H v k -> kf v = k := by
  classical
  refine ⟨λv => if q : ∃ k, Kv H v k then q.choose else (0, 0), λv k hk => ?_⟩
  have q : ∃ k, Kv H v k := ⟨k, hk⟩
  dsimp only
  rw [dif_pos q]
  exact inj v _ _ q.choose_spec hk
 have aw5 : ∀ (i : Nat) v t, (keys.zip vs.toArray)[i]? = some (v, Value.int i t) -> kf v = kz i := λi v t e => by
  have hi : i < n := by
   have := (Array.getElem?_eq_some_iff.mp e).1
   omega
  obtain ⟨v', t', e1, q⟩ := zat i hi
  rw [e1] at e
  cases e
  exact hkf _ _ q
 unfold ksk_end
 simp only [Bool.false_eq_true, if_false]
 rw [List.size_toArray, hl]
 by_cases h2 : n < 2
 ·rw [if_pos h2, if_pos h2]
  refine wpAny_bind (wpAny_pure ?_)
  rw [StateT.run_pure]
  refine wpAny_bind (wpAny_pure ?_)
  refine amw (st := SortSt.mk' general' (keys.zip vs.toArray) #[] 7 none) I fk fa ne hk ha (by omega) (by show (keys.zip vs.toArray).size <= 64; omega) rfl λs' c I' e' => h s' c _ I' e' (fin kf _ aw5 (Array.Perm.refl _) λi j hij hj => by omega)
 ·rw [if_neg h2, if_neg h2]
  refine wpAny_bind (T.kind H keys kz (by omega) hK I ?_)
  have ask := T.ask (E := E) (s := s) (keys.zip vs.toArray) kf I (λp hp => by
   obtain ⟨i, hi, e⟩ := List.getElem_of_mem hp
   have hi' : i < n := by rw [Array.length_toList, zsz] at hi; exact hi
   obtain ⟨v, t, e1, q⟩ := zat i hi'
   have e2 : (keys.zip vs.toArray)[i]? = some p := by rw [<-Array.getElem?_toList, List.getElem?_eq_getElem hi, e]
   rw [e1] at e2
   cases e2
   rw [hkf _ _ q]
   exact q)
  have B : SB (keys.zip vs.toArray) kd (SortSt.mk' kd (keys.zip vs.toArray) #[] 7 none) := ⟨Array.Perm.refl _, rfl, rfl, rfl⟩
  have p0 : Pre (keys.zip vs.toArray).size (arrOf (SortSt.mk' kd (keys.zip vs.toArray) #[] 7 none)) 0 := ⟨λk hk => by omega, λk _ hk => by
   obtain ⟨v, t, e1, _⟩ := zat k (by omega)
   show qr (keys.zip vs.toArray) k = k
   unfold qr
   rw [e1]
   rfl⟩
  refine wpAny_bind (wpAny_mono (aqp (Q := λ_ t => (arrOf t).Perm (keys.zip vs.toArray) /\ failedOf t = none /\ Sta kf (arrOf t) (keys.zip vs.toArray).size) ask B (by omega) (by omega) p0 λt a1 a2 a3 => ⟨a1, a2, a3⟩) ?_ λ_ _ z => z)
  rintro ⟨⟨⟩, t⟩ s' ⟨rfl, hp, hf, hs⟩
  rw [zsz] at hs
  exact amw I fk fa ne hk ha (by omega) (by rw [hp.size_eq, zsz]; omega) hf λs' c I' e' => h s' c _ I' e' (fin kf _ aw5 hp hs)
end
end L2
end
section
namespace L2
open PySem PySem.Spec PyProof.Rows PySem.W
section
variable {X : Cx} {pins : List (Addr × Obj)} {σ : St} {H : Hp} {s : Shared} {Kv : Hp -> Value -> Int × Int -> Prop} {kd : SortKind} {n : Nat} {kz : Nat -> Int × Int} {vs : List Value} {f : Value}
theorem aeY.up {H' : Hp} {b : Addr} (h : aeY X pins H b) (e : H' b = none) : aeY X pins H' b := ⟨e, h.2⟩
noncomputable def aqr (X : Cx) (pins : List (Addr × Obj)) (σ : St) (H : Hp) (Kv : Hp -> Value -> Int × Int -> Prop) (n : Nat) (kz : Nat -> Int × Int) (f : Value) : Prop :=
 ∀ (agB : List (Addr × Obj)) (i : Nat) (t : Tok) (s' : Shared) (H' : Hp), i < n -> (∀ p ∈ pins, p ∈ agB) -> Same H H' -> Inv X agB σ H' s' ->
  wpAny (model X.prog X.w) X.A.in1.in1 (call f [.int i t]) (λv s'' => ∃ H'', Same H' H'' /\ Kv H'' v (kz i) /\ Inv X agB σ H'' s'') (λ_ _ => False) s'
theorem aqs {a kS : Addr} {e1 : Nat} {P : PySem.Fin -> Shared -> Prop} {E : Value -> Shared -> Prop} (T : aja X Kv kd) (mono : ∀ {H H' : Hp} {v k}, Same H H' -> Kv H v k -> Kv H' v k) (inj : ∀ (H : Hp) v k k', Kv H v k -> Kv H v k' -> k = k')
  (I : Inv X pins σ H s) (fk : aeY X pins H kS) (fa : aeY X pins H a) (ne : kS ≠ a) (hk : s.heap.get? kS = some (seqObj "list" #[] 0)) (ha : s.heap.get? a = some (seqObj "list" #[] e1))
  (hv : ∀ (i : Nat) (v : Value), vs[i]? = some v -> ∃ t, v = Value.int i t) (hl : vs.length = n) (h64 : n < 64) (key : aqr X pins σ H Kv n kz f)
  (h : ∀ s' c out H', Same H H' -> H' a = none -> Inv X pins σ H' s' -> s'.heap.get? a = some (seqObj "list" out c) -> (∃ ys, Srt n kz ys /\ Vals (ys.map λi : Nat => V.int i) out.toList) -> P (.done (.ret .none)) s') :
  wpAny (model X.prog X.w) X.A.in1.in1 (ksk_rest a f false vs.toArray e1 (.ref kS)) P E s := by
 unfold ksk_rest
 refine wpAny_bind (wpAny_rule ?_)
 rw [<-Array.forIn_toList]
 simp only [List.toList_toArray]
 refine wpAny_bind (ksk_fold (λi s' => ∃ H' kA e, Same H H' ∧ H' kS = none ∧ H' a = none ∧ Inv X pins σ H' s' ∧ s'.heap.get? kS = some (seqObj "list" kA e) ∧ s'.heap.get? a = some (seqObj "list" #[] e1) ∧ kA.size = i ∧ ∀ (j : Nat) v, kA[j]? = some v → Kv H' v (kz j)) vs 0 s
  ⟨H, #[], 0, Same.refl _, fk.1, fa.1, I, hk, ha, rfl, λj v z => by simp at z⟩ ?_ ?_)
 ·rintro j x s' hx ⟨H', kA, e, sm, nk, na, I', hk', ha', sz, hK⟩
  rw [Nat.zero_add] at sz ⊢
  have hj : j < vs.length := (List.getElem?_eq_some_iff.mp hx).1
  obtain ⟨t, rfl⟩ := hv j x hx
  have fk' := fk.up nk
  have fa' := fa.up na
  have I2 : Inv X ((kS, seqObj "list" kA e) :: (a, seqObj "list" #[] e1) :: pins) σ H' s' := (I'.aqq fa' ha' (λv z => by cases z)).aqq (fk'.aqq (Ne.symm ne)) hk' (λv z => by cases z)
  refine wpAny_bind (wpAny_attempt (wpAny_mono (key _ j t s' H' (by omega) (λp hp => List.mem_cons_of_mem _ (List.mem_cons_of_mem _ hp)) sm I2) (λv s'' he => ?_) λ_ _ z => z.elim))
  obtain ⟨H'', sm2, kv, I3⟩ := he
  have p1 := I3.pin (kS, seqObj "list" kA e) (List.mem_append_right _ (List.mem_cons_self ..))
  have p2 := I3.pin (a, seqObj "list" #[] e1) (List.mem_append_right _ (List.mem_cons_of_mem _ (List.mem_cons_self ..)))
  have I4 : Inv X pins σ H'' s'' := I3.sub λp hp => List.mem_cons_of_mem _ (List.mem_cons_of_mem _ hp)
  show wpAny _ _ (Builtin.List.listUpdate (.ref kS) (·.push v) >>= λ_ => pure (ForInStep.yield PUnit.unit)) _ _ _
  refine wpAny_bind (listUpdate_at p1.1 rfl ?_ (by rw [sizeLine_eq]; omega) (Nat.le_trans (Nat.le_of_eq (Array.size_push ..)) (by rw [sizeLine_eq]; omega)))
  refine wpAny_pure ⟨rfl, H'', kA.push v, _, sm.trans sm2, p1.2.1, p2.2.1, I4.wr (t' := s''.toks) (fk.up p1.2.1), get?_update_seq p1.1 _, ((Heap.SameBut.update s''.heap kS _).2 a (Ne.symm ne)).trans p2.1, by rw [Array.size_push, sz], λi u q => ?_⟩
  rw [Array.getElem?_push] at q
  split at q
  ·rename_i z
   cases q
   rw [z, sz]
   exact kv
  ·exact mono sm2 (hK i u q)
 ·rintro s' ⟨H', kA, e, sm, nk, na, I', hk', ha', sz, hK⟩
  refine wpAny_bind (listItems_at hk' rfl ?_)
  exact atc T I' (fk.up nk) (fa.up na) ne hk' ha' hv hl (by omega) h64 hK (inj H') λs'' c out I'' e'' q => h s'' c out H' sm na I'' e'' q
theorem aqt {a : Addr} {c0 : Nat} {P : PySem.Fin -> Shared -> Prop} {E : Value -> Shared -> Prop} (T : aja X Kv kd) (mono : ∀ {H H' : Hp} {v k}, Same H H' -> Kv H v k -> Kv H' v k) (inj : ∀ (H : Hp) v k k', Kv H v k -> Kv H v k' -> k = k')
  (I : Inv X pins σ H s) (fa : aeY X pins H a) (ha : s.heap.get? a = some (seqObj "list" vs.toArray c0))
  (hv : ∀ (i : Nat) (v : Value), vs[i]? = some v -> ∃ t, v = Value.int i t) (hl : vs.length = n) (h64 : n < 64) (key : aqr X pins σ H Kv n kz f)
  (h : ∀ s' c out H', Same H H' -> H' a = none -> Inv X pins σ H' s' -> s'.heap.get? a = some (seqObj "list" out c) -> (∃ ys, Srt n kz ys /\ Vals (ys.map λi : Nat => V.int i) out.toList) -> P (.done (.ret .none)) s') :
  wpAny (model X.prog X.w) X.A.in1.in1 (ksk_tree a f false) P E s := by
 unfold ksk_tree
 refine wpAny_bind (listItems_at ha rfl ?_)
 refine wpAny_bind (listUpdate_at ha rfl ?_ (by rw [List.size_toArray, sizeLine_eq]; omega) (Nat.zero_le _))
 have I1 := I.wr (g := λ_ => #[]) (t' := s.toks) fa
 obtain ⟨e1, ha1⟩ : ∃ e1, (s.heap.update a (Obj.mapSeq λ_ => (#[] : Array Value))).get? a = some (seqObj "list" #[] e1) := ⟨_, get?_update_seq ha _⟩
 refine wpAny_bind (seqEpoch_at ha1 rfl ?_)
 refine wpAny_bind (wpAny_newTuple ?_ (by show vs.toArray.toList.length <= _; rw [List.toList_toArray, sizeLine_eq]; omega))
 refine wpAny_bind (wpAny_newList ?_ (Nat.zero_le _))
 have I2 : Inv X pins σ H { s with heap := (s.heap.update a (Obj.mapSeq λ_ => (#[] : Array Value))).push { cls := .type "tuple", data := .seq vs.toArray.toList.toArray } } := I1.kept (t' := s.toks) λb o e => Heap.get?_push_of_some _ e
 have I3 : Inv X pins σ H { s with heap := ((s.heap.update a (Obj.mapSeq λ_ => (#[] : Array Value))).push { cls := .type "tuple", data := .seq vs.toArray.toList.toArray }).push { cls := .type "list", data := .seq ([] : List Value).toArray } } := I2.kept (t' := s.toks) λb o e => Heap.get?_push_of_some _ e
 have lt : a < ((s.heap.update a (Obj.mapSeq λ_ => (#[] : Array Value))).push { cls := .type "tuple", data := .seq vs.toArray.toList.toArray }).objs.size := by
  rw [size_push', Heap.size_update]
  exact Nat.lt_succ_of_lt (Heap.lt_size ha)
 refine wpAny_holding ?_
 exact aqs T mono inj I3 (I2.aoQ (Nat.le_refl _) (I2.hok.fresh (Nat.le_refl _))) fa (Nat.ne_of_gt lt) (Heap.get?_push_size _ rfl) (Heap.get?_push_of_some _ (Heap.get?_push_of_some _ ha1)) hv hl h64 key h
theorem ajb {A : Around} {r : Addr} {n : Nat} {t u v : Tok} {Q : List Value -> Shared -> Prop} {E : Value -> Shared -> Prop} {P : Program} {w : World} (hh : A.handled = none) (hr : IsRange s.heap r 0 n 1 t u v) (hn : n <= 1000)
  (h : ∀ h' tk (vs : List Value), (∀ b o, s.heap.get? b = some o -> h'.get? b = some o) -> vs.length = n -> (∀ (i : Nat) (v : Value), vs[i]? = some v -> ∃ t, v = Value.int i t) -> Q vs { s with heap := h', toks := tk }) :
  wpAny (model P w) A (collect (.ref r)) Q E s := by
 unfold collect
 refine wpAny_bind (wpAny_runValue (codeAny_builtin F.entry_proto_collect ?_))
 rw [Around.under_plainId F.plain_proto_collect _]
 show wpAny _ A.in1 (newList [] >>= λl => again (.builtin "list.__iadd__" ⟨[l, .ref r], []⟩)) _ _ s
 refine wpAny_bind (wpAny_newList ?_ (Nat.zero_le _))
 refine wpAny_pure ⟨plainId_quiet F.plain_list_iadd _, codeAny_builtin F.entry_list_iadd ?_⟩
 rw [Around.under_plainId F.plain_list_iadd _]
 have sz1 : Builtin.Range.rangeSize 0 (n : Int) 1 = n := by rw [rangeSize_one]; split <;> omega
 have keep : ∀ b o, s.heap.get? b = some o -> (s.heap.push { cls := .type "list", data := .seq ([] : List Value).toArray }).get? b = some o := λb o e => Heap.get?_push_of_some _ e
 show wpAny _ A.in1 (Builtin.List.listExtendWith (.ref s.heap.objs.size) (.ref r) (.ref s.heap.objs.size)) _ _ { s with heap := s.heap.push { cls := .type "list", data := .seq ([] : List Value).toArray } }
 refine wpAny_extend_range (A := A) (R := λr s' => match r with
  | Except.ok (Flow.ret v) => wpAny (model P w) A (match v with
   | Value.ref a => do
    let __do_lift <-load a
    match __do_lift.data with
     | Data.seq xs epoch => pure xs.toList
     | x => unsupported "internal:collect"
   | x => unsupported "internal:collect") Q E s'
  | Except.ok a => False
  | Except.error e => E e s') (s := { s with heap := s.heap.push { cls := .type "list", data := .seq ([] : List Value).toArray } }) hh (keep _ _ hr) (small_one (by omega) (by omega) (by omega) (by omega)) sz1 (by omega) s.heap.objs.size (.ref s.heap.objs.size) 0 (Heap.get?_push_size _ rfl) λh' tk acc c hk hS hi => ?_
 show wpAny _ A (load s.heap.objs.size >>= _) _ _ _
 refine wpAny_bind (wpAny_load hS ?_)
 refine wpAny_pure (h h' tk acc.toList (λb o e => hk b o (Nat.ne_of_lt (Heap.lt_size e)) (keep b o e)) (by rw [Array.length_toList]; exact hi.1) λi v e => ?_)
 rw [Array.getElem?_toList] at e
 obtain ⟨t, z⟩ := hi.2 i v e
 exact ⟨t, by rw [z]; simp⟩
theorem amx {r : Addr} {t u v : Tok} {q : Addr} {Q : Value -> Shared -> Prop} {E : Value -> Shared -> Prop} (T : aja X Kv kd) (mono : ∀ {H H' : Hp} {v k}, Same H H' -> Kv H v k -> Kv H' v k) (inj : ∀ (H : Hp) v k k', Kv H v k -> Kv H v k' -> k = k')
  (I : Inv X pins σ H s) (hh : X.A.handled = none) (hr : IsRange s.heap r 0 n 1 t u v) (h64 : n < 64) (key : aqr X pins σ H Kv n kz (.ref q))
  (h : ∀ s' D ys H', Same H H' -> H' D = none -> Inv X pins σ (upd H' D (.lst (ys.map λi : Nat => V.int i))) s' -> Srt n kz ys -> Q (.ref D) s') :
  wpAny (model X.prog X.w) X.A (call (.builtin "sorted") [.ref r] [(Str.ofString "key", .ref q)]) Q E s := by
 refine call_function_entry_kw kind_sorted plain_sorted entry_sorted (ksk_s1 _ _) ?_
 unfold Builtin.«sorted»
 refine wpAny_bind (m := checkCount "sorted" 1 1 _) (wpAny_pure ?_)
 refine wpAny_bind (ajb (A := X.A.in1) hh hr (by omega) λh1 tk vs keep hl hv => ?_)
 have I1 : Inv X pins σ H { s with heap := h1, toks := tk } := I.kept keep
 refine wpAny_bind (wpAny_newList ?_ (by rw [sizeLine_eq]; omega))
 have I2 : Inv X pins σ H { s with heap := h1.push { cls := .type "list", data := .seq vs.toArray }, toks := tk } := I1.kept (t' := tk) λb o e => Heap.get?_push_of_some _ e
 have ha : (h1.push { cls := .type "list", data := .seq vs.toArray }).get? h1.objs.size = some (seqObj "list" vs.toArray 0) := Heap.get?_push_size _ rfl
 refine wpAny_bind (wpAny_holding (wpAny_call_entry_kw slot_list_sort ⟨_, ha, rfl⟩ entry_list_sort ?_ (ksk_l1 _ _)))
 show wpAny (model X.prog X.w) X.A.in1.in1 (Builtin.«list.sort» ⟨[.ref h1.objs.size], [(Str.ofString "key", .ref q)]⟩) _ _ _
 rw [ksk_t1]
 have fa : aeY X pins H h1.objs.size := I1.aoQ (Nat.le_refl _) (I1.hok.fresh (Nat.le_refl _))
 refine aqt T mono inj I2 fa ha hv hl h64 key λs' c out H' sm na I' e' ⟨ys, hs, hv'⟩ => ⟨_, rfl, ?_⟩
 refine wpAny_pure ⟨_, rfl, h s' _ ys H' sm na (I'.track (its := out.toList) (n := c) (fa.up na) e' hv' ?_) hs⟩
 have := hs.1.length_eq
 rw [List.length_map, this, List.length_range, sizeLine_eq]
 omega
end
end L2
end
section
namespace L2
open PySem PySem.Spec PyProof.Rows PySem.W
noncomputable def aqu (X : Cx) (A : Around) (N : List Str) (qual : Str) (scope : Scope) (f : Addr) (cd : Value) (s : Shared) (H : Hp) : Cx where
 prog := X.prog
 w := X.w
 K := X.K
 mg := X.mg
 base := X.base
 A := A.deeper (envX qual scope s.heap.objs.size f cd (aaL X.env.cells scope.names []))
 N := N
 s₀ := s
 H₀ := H
 env := envX qual scope s.heap.objs.size f cd (aaL X.env.cells scope.names [])
 outer := X.stack
 stack := envX qual scope s.heap.objs.size f cd (aaL X.env.cells scope.names []) :: X.stack
 ex := []
 fn := λ_ => false
 calm := true
 pn := []
 xe := λ_ _ => False
structure aoh (sc : Scope) (No : List Str) (x : Str) (Ns : List Str) (src : List (Option Nat)) (scope : Scope) : Prop where
 c : aj6 sc No (x :: Ns) (none :: src) scope
 apf : ∀ y ∈ scope.names, y.2 ≠ .cell
 par : scope.names.lookup x = some .local
 co : scope.isCoroutine = false
 gen : scope.isGenerator = false
section
variable {X : Cx} {pins : List (Addr × Obj)} {σ : St} {H : Hp} {s : Shared} {sc scope : Scope} {No Ns : List Str} {src : List (Option Nat)} {x qual : Str}
theorem amy {A : Around} {f : Addr} {cd : Value} {h₁ : Heap} {tk : Nat} {v : V} {u : Value} (hsc : X.env.scope = sc) (hNo : X.N = No) (S : aoh sc No x Ns src scope) (hfr : A.frames = some X.stack) (hhd : A.handled = none) (I : Inv X pins σ H s) (rv : RelV v u)
  (hns : h₁.Ns s.heap.objs.size (λy => ([(x, u)] : List (Str × Value)).reverse.lookup y)) (old : ∀ b o, s.heap.get? b = some o -> h₁.get? b = some o) :
  Inv (aqu X A (x :: Ns) qual scope f cd s H) [] (some v :: aeV src σ) H { s with heap := h₁, toks := tk } := by
 subst hsc
 subst hNo
 have agg : ∀ x c, (aaL X.env.cells scope.names []).lookup x = some c -> X.env.cells.lookup x = some c := λx c h => by
  rcases abR h with q | q
  ·simp at q
  ·exact q
 refine ⟨⟨I.ok.mod, S.c.kind, rfl, rfl, Nat.le_refl _, λx y c h1 h2 => I.ok.inj x y c (agg _ _ h1) (agg _ _ h2), λy hy => ?_, λx c h => (Bool.false_ne_true h).elim, λ_ => hhd, Around.frames_deeper hfr, .inr ⟨rfl, rfl⟩, λb hb => absurd (show b ∈ ([] : List Addr) from hb) (by simp),
   I.bs, Nat.le_trans I.ok.bsz I.sz, λb o e => by intro hb; exact absurd (show b ∈ ([] : List Addr) from hb) (by simp), λb hb => absurd (show b ∈ ([] : List Addr) from hb) (by simp), I.stack, I.aeX⟩,
  rfl, I.bare, Un.kept old, ⟨_, hns, λi y w' h1 h2 h3 => ?_⟩, λy c e => ?_, I.hok.fresh (Nat.le_refl _), λy c e => I.aer y c (agg y c e), λp hp => absurd (show p ∈ ([] : List (Addr × Obj)) from hp) (by simp), I.hok.kept old, ?_⟩
 ·have hy : scope.names.lookup y = some .cell \/ scope.names.lookup y = some .free := hy
  have m : (y, NameKind.free) ∈ scope.names := by
   rcases hy with z | z
   ·exact absurd rfl (S.apf _ (PySem.mem_of_lookup z))
   ·exact PySem.mem_of_lookup z
  have q := abE (cells := X.env.cells) (acc := []) (.inr ⟨m, by
   obtain ⟨c, e⟩ := I.ok.has y (S.c.free _ m rfl)
   rw [e]; rfl⟩)
  exact Option.isSome_iff_exists.mp q
 ·cases i with
  | zero =>
   have h1 : some x = some y := h1
   cases h1
   have h2 : some (some v) = some (some w') := h2
   cases h2
   exact ⟨u, rv, .inl ⟨S.par, by show ([(x, u)] : List (Str × Value)).reverse.lookup x = some u; simp⟩⟩
  | succ i =>
   have h1 : Ns[i]? = some y := h1
   have h2 : (aeV src σ)[i]? = some (some w') := h2
   have hi : i < src.length := by
    unfold aeV at h2
    have := (List.getElem?_eq_some_iff.mp h2).1
    simpa using this
   have h2' : ((src[i]).bind λj => (σ[j]?).join) = some w' := by
    unfold aeV at h2
    rw [List.getElem?_map, List.getElem?_eq_getElem hi] at h2
    exact Option.some.inj h2
   cases es : src[i] with
   | none => rw [es] at h2'; cases h2'
   | some j =>
    rw [es] at h2'
    have hj : σ[j]? = some (some w') := by
     have z : (σ[j]?).join = some w' := h2'
     cases q : σ[j]? with
     | none => rw [q] at z; cases z
     | some o => rw [q] at z; have z' : o = some w' := z; rw [z']
    have hz : (y, some j) ∈ (x :: Ns).zip (none :: src) := by
     refine List.mem_of_getElem? (i := i + 1) ?_
     rw [List.getElem?_zip_eq_some]
     exact ⟨by simpa using h1, by simp [List.getElem?_eq_getElem hi, es]⟩
    obtain ⟨u1, u2⟩ := S.c.up _ hz j rfl
    have m : (y, NameKind.free) ∈ scope.names := PySem.mem_of_lookup u2
    have kx := S.c.free _ m rfl
    obtain ⟨m0, hn0, hl0⟩ := id I.loc
    obtain ⟨u', r, lk⟩ := hl0 j y w' u1 hj (kx.elim (λz => .inr (.inl z)) λz => .inr (.inr z))
    refine ⟨u', r, ?_⟩
    rcases lk with ⟨k, _⟩ | ⟨_, c, e, ic⟩
    ·have k' : X.env.scope.names.lookup y = some .local := k
     rcases kx with z | z <;> (rw [z] at k'; cases k')
    ·refine .inr ⟨.inr u2, c, ?_, ?_⟩
     ·have q := abE (cells := X.env.cells) (acc := []) (.inr ⟨m, by rw [e]; rfl⟩)
      obtain ⟨c', e'⟩ := Option.isSome_iff_exists.mp q
      have e2 := agg y c' e'
      rw [e] at e2; cases e2
      exact e'
     ·obtain ⟨o, ho, hd⟩ := ic
      exact ⟨o, old _ _ ho, hd⟩
 ·obtain ⟨v, o, ho, hd⟩ := I.cell y c (agg y c e)
  exact ⟨v, o, old _ _ ho, hd⟩
 ·have := S.c.len
  show _ = (x :: Ns).length
  rw [List.length_cons] at this ⊢
  rw [List.length_cons]
  unfold aeV
  rw [List.length_map]
  exact this
theorem aoi {A : Around} {f c' : Addr} {params : Arguments} {body : Expr} {pm ctv : Value} {v : V} {u : Value} {te : TE} {Q : VK} {E : Value -> Shared -> Prop} (hsc : X.env.scope = sc) (hNo : X.N = No) (S : aoh sc No x Ns src scope) (hfr : A.frames = some X.stack) (hhd : A.handled = none) (hroom : A.depth < recursionLimit)
  (I : Inv X pins σ H s) (ho : s.heap.get? f = some (kla_obj "<lambda>" qual params body scope (aaL X.env.cells scope.names []) pm c' ctv)) (hcd : s.heap.CodeRec (.ref c') qual) (rv : RelV v u)
  (hbind : bindArgs (kla_fn "<lambda>" qual params body scope (aaL X.env.cells scope.names []) pm (.ref c') ctv) ⟨[u], []⟩ = pure [(x, u)])
  (he : ∀ s H, PE (aqu X A (x :: Ns) qual scope f (.ref c') s H) body te) (hq : te (some v :: aeV src σ) H Q) : wpAny (model X.prog X.w) A (call (.ref f) [u]) (EP X pins σ Q) E s := by
 refine wpAny_call (kla_callFunE hroom ho rfl S.co S.gen rfl hcd ?_)
 rw [hbind]
 refine wpAny_pure (wpAny_newFunctionEnv S.apf (λy hy => ?_) (λh₁ hns hsb => ⟨I.nolimit.fresh _ hsb, ?_⟩) S.c.kind)
 ·have : y = (x, u) := by simpa using hy
  subst this
  exact S.par
 have old : ∀ b o, s.heap.get? b = some o -> h₁.get? b = some o := λb o e => hsb.extBut b o (Nat.ne_of_lt (Heap.lt_size e)) (Heap.get?_push_of_some _ e)
 have J := amy (A := A) (f := f) (cd := .ref c') (qual := qual) (tk := s.toks + [(x, u)].length) hsc hNo S hfr hhd I rv hns old
 show codeAny _ _ (.expr body (envX qual scope s.heap.objs.size f (.ref c') (aaL X.env.cells scope.names []))) _ _
 refine kla_codeExpr (wpAny_mono (he s H [] _ _ H Q J hq) (λw' s' hw => ?_) λ_ _ z => z.elim)
 obtain ⟨v', H', J', r', q'⟩ := hw
 exact ⟨v', H', I.call' (ch := []) J'.os J'.base J'.hok J'.bare (λb hb => absurd hb (by simp)), r', q'⟩
end
end L2
end
section
namespace L2
open PySem PySem.Spec PyProof.Rows PySem.W
noncomputable def aoj (mg : Str → Option Value) (base : Heap) : Prop := ∃ bm ob, mg "__builtins__" = some (.ref bm) ∧ bm ≠ builtinsNs ∧ bm ≠ mainGlobals ∧ base.get? bm = some ob ∧ ob.cls = .type "module" ∧ ob.dict = some builtinsNs ∧ ob.data = .plain
theorem ain {a b : Int} {t u : Tok} {c : Value} : ∀ {l : List Value}, TriplesOk l -> TriplesOk (l ++ [.int a t, .int b u, c])
 | [], _ => trivial
 | .int _ _ :: .int _ _ :: _ :: r, h => ain (l := r) h
theorem agR {a b : Int} {t u : Tok} {c v : Value} {pos : Pos} : ∀ {l : List Value}, TriplesOk l -> codeAmong pos (l ++ [.int a t, .int b u, c]) = some v -> codeAmong pos l = some v \/ v = c
 | [], _, h => by
  have h : (if _ then some c else none) = some v := h
  split at h
  ·cases h; exact .inr rfl
  ·cases h
 | .int x _ :: .int y _ :: z :: r, o, h => by
  have h : (if (x == pos.line && y == pos.col) = true then some z else codeAmong pos (r ++ [.int a t, .int b u, c])) = some v := h
  show (if (x == pos.line && y == pos.col) = true then some z else codeAmong pos r) = some v \/ _
  split at h
  ·rename_i q
   rw [if_pos q]
   exact .inl h
  ·rename_i q
   rw [if_neg q]
   exact agR (l := r) o h
section
variable {X : Cx} {pins : List (Addr × Obj)} {σ : St} {H : Hp} {s : Shared} {sc scope : Scope} {No Ns : List Str} {src : List (Option Nat)} {x : Str}
structure auI (P : Addr) (q : Str) (H H' : Hp) : Prop where
 kp : ∀ b o, H b = some o -> b ≠ P -> H' b = some o
 tb : ∃ ps, H' P = some (.tbl ps) /\ auw H' q ps
theorem aok {A : Around} {c P : Addr} {ps : Array Value} {params : Arguments} {body : Expr} {pos : Pos} {Q : Value -> Shared -> Prop} {E : Value -> Shared -> Prop} (hsc : X.env.scope = sc) (S : aoh sc No x Ns src scope) (hcode : X.env.code = .ref c) (C : CodeHd X.base c P) (B : aoj X.mg X.base)
  (hdef : defaultsOf params X.env = ([], [])) (I : Inv X pins σ H s) (hP : H P = some (.tbl ps)) (ok : auw H (X.env.qual ++ ("<lambda>" : Str)) ps)
  (h : ∀ f c' ctv pm H' s' oc, auI P (X.env.qual ++ ("<lambda>" : Str)) H H' → Inv X ((f, kla_obj "<lambda>" (X.env.qual ++ ("<lambda>" : Str)) params body scope (aaL X.env.cells scope.names []) pm c' ctv) :: pins) σ H' s' → H' c' = some (.frz oc (.own 0)) → aoZ oc (X.env.qual ++ ("<lambda>" : Str)) → Q (.ref f) s') :
  wpAny (model X.prog X.w) A (eval (.Lambda params body scope pos) X.env) Q E s := by
 have hcl : closureFor scope X.env = pure (aaL X.env.cells scope.names []) := agM λy hy e => by
  have k := S.c.free y hy e
  rw [<-hsc] at k
  obtain ⟨c, q⟩ := I.ok.has y.1 k
  rw [q]; rfl
 have oP : s.heap.get? P = some (tabObj ps) := I.hok P _ hP
 have nP : mainGlobals ≠ P := λz => by
  obtain ⟨o, es, ep, e, hd, _⟩ := I.ok.mod.glob
  have := (I.bs _ _ e).2
  rw [z, hP] at this
  cases this
 have hg : s.heap.Ns mainGlobals X.mg := let ⟨o, es, ep, e, r⟩ := I.ok.mod.glob; ⟨o, es, ep, I.bk _ _ e, r⟩
 have hB : s.heap.BuiltinsAt X.mg P := by
  obtain ⟨bm, ob, b1, b2, b3, b4, b5, b6, b7⟩ := B
  refine ⟨bm, ob, b1, b2, b3, λz => ?_, I.bk _ _ b4, b5, b6, b7⟩
  have := (I.bs _ _ b4).2
  rw [z, hP] at this
  cases this
 have C' : CodeHd s.heap c P := C.keeps I.bk
 refine kla_eval hdef ?_
 cases hf : codeAmong pos ps.toList with
 | some cv =>
  obtain ⟨c', oc, rfl, e1, e2⟩ := ok.2 pos cv hf
  refine kla_makeFunctionHit (mg := X.mg) hcl I.ok.glob hg hcode C' oP ok.1 hf hB λctv h' tk keep hsz => ?_
  have I1 : Inv X pins σ H { s with heap := h', toks := tk } := I.kept keep
  have I2 : Inv X pins σ H { s with heap := h'.push (kla_obj "<lambda>" (X.env.qual ++ ("<lambda>" : Str)) params body scope (aaL X.env.cells scope.names []) ((X.mg "__name__").getD .none) c' ctv), toks := tk } := I1.kept (t' := tk) λb o e => Heap.get?_push_of_some _ e
  refine h _ c' ctv _ H _ oc ⟨λ_ _ q _ => q, ps, hP, ok⟩ (I2.aqq (I1.aoQ (Nat.le_refl _) (I1.hok.fresh (Nat.le_refl _))) (Heap.get?_push_size _ rfl) (λv z => by cases z)) e1 e2
 | none =>
  refine kla_makeFunction (mg := X.mg) hcl I.ok.glob hg hcode C' oP ok.1 hf nP hB λc' ctv h' tk ext hge hlt hrec htb => ?_
  obtain ⟨c2, oc, vs, t, e2, hoc, hd, hv⟩ := hrec
  cases e2
  have nc : H c' = none := I.hok.fresh hge
  have cP : c' ≠ P := λz => by rw [z, hP] at nc; cases nc
  have ne : ∀ b u, H b = some u -> b ≠ c' := λb u q => aa1 q nc
  have up : ∀ b u, H b = some u -> b ≠ P -> (upd (upd H P (.tbl (ps ++ #[rawInt pos.line, rawInt pos.col, .ref c']))) c' (.frz oc (.own 0))) b = some u := λb u q z => by rw [aaw (ne b u q), aaw z]; exact q
  have upP : (upd (upd H P (.tbl (ps ++ #[rawInt pos.line, rawInt pos.col, .ref c']))) c' (.frz oc (.own 0))) P = some (.tbl (ps ++ #[rawInt pos.line, rawInt pos.col, .ref c'])) := by rw [aaw (Ne.symm cP)]; exact aaK
  have keep : ∀ b o, b ≠ P -> s.heap.get? b = some o -> h'.get? b = some o := λb o z e => ext b o z e
  have hok : HOk X.prog X.w (upd (upd H P (.tbl (ps ++ #[rawInt pos.line, rawInt pos.col, .ref c']))) c' (.frz oc (.own 0))) h' := λb u q => by
   by_cases z1 : b = c'
   ·subst z1
    rw [aaK] at q
    cases q
    exact ⟨hoc, oc, hoc⟩
   ·by_cases z2 : b = P
    ·subst z2
     rw [upP] at q
     cases q
     exact htb
    ·rw [aaw z1, aaw z2] at q
     refine (I.hok b u q).stay (λd v hd' e => keep d v ?_ e) (λd z => up d _ z ?_) λd ys z => up d _ z ?_
     ·rcases hd' with rfl | hd'
      ·exact z2
      ·rintro rfl
       rw [hP] at hd'
       cases hd'
     ·rintro rfl
      rw [hP] at z
      cases z
     ·rintro rfl
      rw [hP] at z
      cases z
  have ara : ∀ b, H b = none -> b ≠ P := λb n z => by rw [z, hP] at n; cases n
  have I1 : Inv X pins σ (upd (upd H P (.tbl (ps ++ #[rawInt pos.line, rawInt pos.col, .ref c']))) c' (.frz oc (.own 0))) { s with heap := h', toks := tk } :=
   I.step (h' := h') (g' := s.gens) (d' := s.drawn) (t' := tk) (ch := []) (λ_ z => nomatch z) (λb o _ _ _ e n => keep b o (ara b n) e) (λb o _ _ _ e n => ⟨o.slots, keep b o (ara b n) e⟩)
    (λb o _ e n => by
     rw [aaw (λz => by rw [z] at e; exact absurd (Heap.lt_size e) (Nat.not_lt.mpr hge)), aaw (ara b n)]; exact n)
    (λb o _ e => by
     by_cases z : b = P
     ·subst z; exact ⟨_, htb⟩
     ·exact ⟨o, keep b o z e⟩)
    (λb ys q => up b _ q (by rintro rfl; rw [hP] at q; cases q)) (λb o u q => up b _ q (by rintro rfl; rw [hP] at q; cases q))
    (λb qs q => by
     by_cases z : b = P
     ·subst z
      rw [hP] at q
      cases q
      exact ⟨_, upP⟩
     ·exact ⟨#[], by rw [up b _ q z]; simp⟩)
    (λm q => q.extBut ext (ara _ I.free)) hok I.bare
  have I2 := I1.kept (t' := tk) (h' := h'.push (kla_obj "<lambda>" (X.env.qual ++ ("<lambda>" : Str)) params body scope (aaL X.env.cells scope.names []) ((X.mg "__name__").getD .none) c' ctv)) λb o e => Heap.get?_push_of_some _ e
  refine h _ c' ctv _ _ _ oc ⟨up, _, upP, ?_, λpos' v q => ?_⟩ (I2.aqq (I1.aoQ (Nat.le_refl _) (I1.hok.fresh (Nat.le_refl _))) (Heap.get?_push_size _ rfl) (λv z => by cases z)) aaK ⟨vs, t, hd, hv⟩
  ·have : (ps ++ #[rawInt pos.line, rawInt pos.col, .ref c']).toList = ps.toList ++ [rawInt pos.line, rawInt pos.col, .ref c'] := by simp
   rw [this]
   exact ain ok.1
  ·have : (ps ++ #[rawInt pos.line, rawInt pos.col, .ref c']).toList = ps.toList ++ [rawInt pos.line, rawInt pos.col, .ref c'] := by simp
   rw [this] at q
   rcases agR ok.1 q with q | q
   ·obtain ⟨d, o, z1, z2, z3⟩ := ok.2 pos' v q
    exact ⟨d, o, z1, up d _ z2 (by rintro rfl; rw [hP] at z2; cases z2), z3⟩
   ·exact ⟨c', oc, q, aaK, vs, t, hd, hv⟩
end
end L2
end
section
namespace L2
open PySem PySem.Spec PyProof.Rows PySem.W
noncomputable abbrev KW := Hp -> V -> Int × Int -> Prop
noncomputable def kwI : KW := λ_ v k => v = .int k.1 /\ k.2 = 0
noncomputable def amz (Kw : KW) (P : Addr) (q : Str) (src : List (Option Nat)) (ta : TA) (te : TE) : TE := λσ H Q => ta σ H λvs H1 => ∃ (n : Nat) (kz : Nat -> Int × Int), vs = [.int n] /\ n < 64 /\ (∃ ps, H1 P = some (.tbl ps) /\ auw H1 q ps) /\ ∀ H2, auI P q H1 H2 ->
 (∀ (i : Nat), i < n -> ∀ H3, Same H2 H3 -> te (some (.int i) :: aeV src σ) H3 λv H4 => Kw H4 v (kz i) /\ Same H3 H4) /\ ∀ D (ys : List Nat) H3, Same H2 H3 -> H3 D = none -> Srt n kz ys -> Q (.ref D) (upd H3 D (.lst (ys.map λi : Nat => V.int i)))
section
variable {X : Cx} {sc scope : Scope} {No Ns : List Str} {src : List (Option Nat)} {x : Str} {Kw : KW} {kd : SortKind}
theorem aol {k : Nat} {c P : Addr} {e : Expr} {params : Arguments} {body : Expr} {p p2 pos pos2 axJ kp : Pos} {ta : TA} {te : TE} (T : aja X (λH u k => ∃ v, RelV v u /\ Kw H v k) kd) (mono : ∀ {H H' : Hp} {v k}, Same H H' -> Kw H v k -> Kw H' v k) (inj : ∀ (H : Hp) u k k', (∃ v, RelV v u /\ Kw H v k) -> (∃ v, RelV v u /\ Kw H v k') -> k = k')
  (hr : aeZ k X.A) (h1 : X.mg "sorted" = none) (h2 : X.mg "range" = none) (hsc : X.env.scope = sc) (hNo : X.N = No) (S : aoh sc No x Ns src scope) (hcode : X.env.code = .ref c) (C : CodeHd X.base c P) (B : aoj X.mg X.base) (hdef : defaultsOf params X.env = ([], []))
  (ha : PA X [e] ta) (hbind : ∀ (pm cd ctv u : Value), bindArgs (kla_fn "<lambda>" (X.env.qual ++ ("<lambda>" : Str)) params body scope (aaL X.env.cells scope.names []) pm cd ctv) ⟨[u], []⟩ = pure [(x, u)])
  (he : ∀ A f cd s H, PE (aqu X A (x :: Ns) (X.env.qual ++ ("<lambda>" : Str)) scope f cd s H) body te)
  (hg : X.env.kindOf "sorted" = some .globalImplicit := by kernel_rfl) (hg2 : X.env.kindOf "range" = some .globalImplicit := by kernel_rfl) (hs : notStar e = true := by kernel_rfl) :
  PE X (.Call (.Name "sorted" p) [.Call (.Name "range" p2) [e] [] pos2] [⟨some (Str.ofString "key"), .Lambda params body scope axJ, kp⟩] pos) (amz Kw P (X.env.qual ++ ("<lambda>" : Str)) src ta te) := by
 refine ⟨λpins s σ H Q I h => ?_⟩
 refine wpAny_Call_Name_kw (agJ I hg h1 (by decide +kernel : bootBuiltins "sorted" = some (.builtin "sorted")) ?_ (by decide +kernel) (by kernel_rfl))
 refine callWith_kw (Calls.spliced_cons (wpAny_Call_Name_kw (agJ I hg2 h2 boot_range (PyProof.Rows.callWith_type1 (thn (ha pos2 pins s σ H _ I h) λus s1 ⟨vs, H1, I1, r1, q1⟩ => ?_) (acP hs) rfl) (by decide +kernel) (by kernel_rfl))))
 obtain ⟨n, kz, rfl, h64, ⟨ps, hP, ok⟩, hq⟩ := q1
 obtain ⟨u1, rfl, t1, rfl⟩ := vals1 r1
 refine call_range_1 ?_
 have rfp : aeY X pins H1 s1.heap.objs.size := I1.aoQ (Nat.le_refl _) (I1.hok.fresh (Nat.le_refl _))
 have I2 : Inv X pins σ H1 { s1 with heap := s1.heap.push { cls := .type "range", data := .fields #[.int 0 s1.toks, .int n t1, .int 1 (s1.toks + 1)] }, toks := s1.toks + 1 + 1 } := I1.kept λb o e => Heap.get?_push_of_some _ e
 have I3 := I2.aqq rfp (Heap.get?_push_size _ rfl) (λv z => by cases z)
 refine Calls.spliced_nil ?_
 refine kws_cons (aok hsc S hcode C B hdef I3 hP ok λf c' ctv pm H2 s2 oc lh I4 e1 e2 => ?_)
 refine kws_nil ?_
 have pr := I4.pin _ (List.mem_append_right _ (List.mem_cons_of_mem _ (List.mem_cons_self ..)))
 obtain ⟨key, fin⟩ := hq H2 lh
 show wpAny _ _ (call (.builtin "sorted") [.ref s1.heap.objs.size] [(Str.ofString "key", .ref f)]) _ _ _
 refine amx T (λ{H H' u k} sm ⟨v, a1, a2⟩ => ⟨v, a1, mono sm a2⟩) inj I4 hr.hd pr.1 h64 (λagB i t s' H' hi sub sm I' => ?_) λs' D ys H3 sm nD I' hs' => ⟨.ref D, _, I'.sub λp hp => List.mem_cons_of_mem _ (List.mem_cons_of_mem _ hp), rfl, fin D ys H3 sm nD hs'⟩
 have pf := I'.pin _ (List.mem_append_right _ (sub _ (List.mem_cons_self ..)))
 have hcd : s'.heap.CodeRec (.ref c') (X.env.qual ++ ("<lambda>" : Str)) := by
  obtain ⟨vs, t, a1, a2⟩ := e2
  exact ⟨c', oc, vs, t, rfl, (I'.hok c' _ (sm _ _ e1)).1, a1, a2⟩
 refine thn (aoi (A := X.A.in1.in1) (v := .int i) (te := te) (Q := λv H4 => Kw H4 v (kz i) /\ Same H' H4) hsc hNo S I.ok.frames hr.hd hr.depth I' pf.1 hcd ⟨t, rfl⟩ (hbind _ _ _ _) (λs H => he _ _ _ _ _) (key i hi H' sm)) λu s'' ⟨v, H4, I'', rv, q1, q2⟩ => ⟨H4, q2, ⟨v, rv, q1⟩, I''⟩
theorem atd : aja X (λH u k => ∃ v, RelV v u /\ kwI H v k) oneType' where
 kind := λH keys kz h2 hk pins σ s Q E I q => atb.kind H keys kz h2 (λi v e => by
  obtain ⟨w, r, rfl, z⟩ := hk i v e
  obtain ⟨t, rfl⟩ := r
  exact ⟨t, rfl, z⟩) I q
 ask := λa₀ kf I h => atb.ask a₀ kf I λp hp => by
  obtain ⟨w, r, z1, z⟩ := h p hp
  subst z1
  obtain ⟨t, r⟩ := r
  exact ⟨t, r, z⟩
theorem aqv (H : Hp) (u : Value) (k k' : Int × Int) (h : ∃ v, RelV v u /\ kwI H v k) (h' : ∃ v, RelV v u /\ kwI H v k') : k = k' := by
 obtain ⟨v, r, rfl, z⟩ := h
 obtain ⟨v', r', rfl, z'⟩ := h'
 obtain ⟨t, rfl⟩ := r
 obtain ⟨t', r'⟩ := r'
 injection r' with r' _
 exact Prod.ext r' (z.trans z'.symm)
end
end L2
end
section
namespace L2
open PySem PySem.Spec PyProof.Rows PySem.W
noncomputable def bfr (kz : Nat -> Int × Int) (i j : Nat) : Prop := ((kz i).1 < (kz j).1 \/ ((kz i).1 = (kz j).1 /\ (kz i).2 < (kz j).2)) \/ (((kz i).1 = (kz j).1 /\ (kz i).2 = (kz j).2) /\ i < j)
noncomputable instance {kz : Nat -> Int × Int} {i j : Nat} : Decidable (bfr kz i j) := by unfold bfr; infer_instance
noncomputable def aom (kz : Nat -> Int × Int) (i : Nat) : List Nat -> List Nat
 | [] => [i]
 | j :: r => if bfr kz i j then i :: j :: r else j :: aom kz i r
noncomputable def amA (n : Nat) (kz : Nat -> Int × Int) : List Nat := (List.range n).foldr (aom kz) []
theorem agh (kz : Nat -> Int × Int) (i : Nat) : ∀ l, (aom kz i l).Perm (i :: l)
 | [] => .refl _
 | j :: r => by
  unfold aom
  split
  ·exact .refl _
  ·exact ((agh kz i r).cons j).trans (.swap i j r)
theorem amB (kz : Nat -> Int × Int) (i : Nat) : ∀ l, (∀ j ∈ l, i ≠ j) -> l.Pairwise (bfr kz) -> (aom kz i l).Pairwise (bfr kz)
 | [], _, _ => by simp [aom]
 | j :: r, hn, hp => by
  have hp' := List.pairwise_cons.mp hp
  unfold aom
  split
  ·rename_i b
   refine List.pairwise_cons.mpr ⟨λk hk => ?_, hp⟩
   rcases List.mem_cons.mp hk with rfl | hk
   ·exact b
   ·have := hp'.1 k hk
    unfold bfr at b this ⊢
    omega
  ·rename_i b
   refine List.pairwise_cons.mpr ⟨λk hk => ?_, amB kz i r (λk hk => hn k (List.mem_cons_of_mem _ hk)) hp'.2⟩
   rcases List.mem_cons.mp ((agh kz i r).mem_iff.mp hk) with rfl | hk
   ·have := hn j (List.mem_cons_self ..)
    unfold bfr at b ⊢
    omega
   ·exact hp'.1 k hk
theorem aio (kz : Nat -> Int × Int) : ∀ l : List Nat, l.Nodup -> (l.foldr (aom kz) []).Perm l /\ (l.foldr (aom kz) []).Pairwise (bfr kz)
 | [], _ => ⟨.refl _, .nil⟩
 | i :: r, nd => by
  have nd' := List.nodup_cons.mp nd
  obtain ⟨h1, h2⟩ := aio kz r nd'.2
  exact ⟨(agh kz i _).trans (h1.cons i), amB kz i _ (λj hj z => nd'.1 (by rw [z]; exact h1.mem_iff.mp hj)) h2⟩
theorem aip (n : Nat) (kz : Nat -> Int × Int) : Srt n kz (amA n kz) := aio kz _ List.nodup_range
theorem amC {R : Nat -> Nat -> Prop} (as : ∀ a b, R a b -> ¬ R b a) : ∀ {l m : List Nat}, l.Perm m -> l.Pairwise R -> m.Pairwise R -> l = m
 | [], m, p, _, _ => by rw [List.nil_perm.mp p]
 | a :: l, [], p, _, _ => by simpa using p.length_eq
 | a :: l, b :: m, p, h1, h2 => by
  have h1' := List.pairwise_cons.mp h1
  have h2' := List.pairwise_cons.mp h2
  have e : a = b := by
   rcases List.mem_cons.mp (p.mem_iff.mp (List.mem_cons_self ..)) with z | z
   ·exact z
   ·rcases List.mem_cons.mp (p.mem_iff.mpr (List.mem_cons_self (a := b))) with y | y
    ·exact y.symm
    ·exact (as _ _ (h1'.1 b y) (h2'.1 a z)).elim
  subst e
  rw [amC as p.cons_inv h1'.2 h2'.2]
theorem Srt.eq {n : Nat} {kz : Nat -> Int × Int} {ys : List Nat} (h : Srt n kz ys) : ys = amA n kz := by
 have g := aip n kz
 refine amC (R := bfr kz) (λa b h1 h2 => ?_) (h.1.trans g.1.symm) h.2 g.2
 unfold bfr at h1 h2
 omega
noncomputable abbrev RF := List (Option Tr) -> Rs Tr
noncomputable def QS (K : PySem.W.Frag) (te : TE) (f : RF) : Prop := ∀ (W : Addr -> Prop) (σ : St) (H : Hp) (Q : VK) (ts : List (Option Tr)) (T : Tr), (∀ b, W b -> Lt H b) -> (∀ (i : Nat) U, ts[i]? = some (some U) -> ∃ v, σ[i]? = some (some v) /\ Rp K W H v U) -> f ts = .ok T ->
 (∀ v H', Same H H' -> Rp K W H' v T -> Q v H') -> te σ H Q
theorem Rp.up {K : PySem.W.Frag} {W : Addr -> Prop} {H H' : Hp} {v : V} {T : Tr} (h : Rp K W H v T) (s : Same H H') : Rp K W H' v T := by
 have m : Same (aa2 W H) (aa2 W H') := (Stp.of s).off
 rcases h with h | ⟨a, xs, ts, e1, e2, e, r⟩
 ·exact .inl (h.mono m)
 ·exact .inr ⟨a, xs, ts, e1, e2, s _ _ e, r.mono m⟩
section
variable {K : PySem.W.Frag} {ta tb : TE} {fa fb : RF}
noncomputable def aon (i : Nat) : RF := λts => match ts[i]? with
 | some (some U) => .ok U
 | _ => .bad
theorem apg (i : Nat) : QS K (aiW i) (aon i) := λW σ H Q ts T hw h e q => by
 unfold aon at e
 split at e
 ·rename_i U z
  cases e
  obtain ⟨v, h1, h2⟩ := h i _ z
  exact ⟨v, h1, q v H (Same.refl _) h2⟩
 ·cases e
noncomputable def rOp (g : G2) (fa fb : RF) : RF := λts => (fa ts).bind λa => (fb ts).bind λb => (g a b).bind λz => .ok z.1
theorem avB {r : R2} {g : G2} (o : OpT K r g) (ha : QS K ta fa) (hb : QS K tb fb) : QS K (tOp r ta tb) (rOp g fa fb) := λW σ H Q ts T hw h e q => by
 unfold rOp at e
 obtain ⟨a, e1, e⟩ := abj e
 obtain ⟨b, e2, e⟩ := abj e
 obtain ⟨z, e3, e⟩ := abj e
 cases e
 refine ha W σ H _ ts a hw h e1 λx H1 s1 r1 => ?_
 refine hb W σ H1 _ ts b (λb w => (hw b w).grow s1) (λi U z => let ⟨v, h1, h2⟩ := h i U z; ⟨v, h1, h2.up s1⟩) e2 λy H2 s2 r2 => ?_
 refine o W x y a b H2 Q (λb w => (hw b w).grow (s1.trans s2)) (r1.up s2) r2 ?_
 rw [e3]
 intro v H3 s3 v3
 refine q v H3 ((s1.trans s2).trans s3) (.inl ?_)
 exact VOk.rep (λb w => ((hw b w).grow (s1.trans s2)).ne) v3
noncomputable def rUn (g : G1) (fa : RF) : RF := λts => (fa ts).bind λa => (g a).bind λz => .ok z.1
theorem avC {r : V -> Hp -> VK -> Prop} {g : G1} (o : UnT K r g) (ha : QS K ta fa) : QS K (tUn r ta) (rUn g fa) := λW σ H Q ts T hw h e q => by
 unfold rUn at e
 obtain ⟨a, e1, e⟩ := abj e
 obtain ⟨z, e3, e⟩ := abj e
 cases e
 refine ha W σ H _ ts a hw h e1 λx H1 s1 r1 => ?_
 refine o W x a H1 Q (λb w => (hw b w).grow s1) r1 ?_
 rw [e3]
 intro v H3 s3 v3
 refine q v H3 (s1.trans s3) (.inl ?_)
 exact VOk.rep (λb w => ((hw b w).grow s1).ne) v3
end
noncomputable def slT (ρ : En) (j : Nat) : Option Tr := match ρ[j]? with
 | some (.sh T) => some T
 | some (.ow ts) => some (.lst ts)
 | some (.rf ts) => some (.lst ts)
 | _ => none
noncomputable def amD (src : List (Option Nat)) (ρ : En) : List (Option Tr) := src.map λo => o.bind (slT ρ)
noncomputable def ate : Tr -> Option (Int × Int)
 | .int i => some (i, 0)
 | _ => none
noncomputable def ajc (kt : Tr -> Option (Int × Int)) (fb : RF) (ts : List (Option Tr)) : List Nat -> Rs (List (Int × Int))
 | [] => .ok []
 | i :: r => (fb (some (Tr.int i) :: ts)).bind λT => match kt T with
  | some k => (ajc kt fb ts r).bind λks => .ok (k :: ks)
  | none => .bad
theorem aiq {kt : Tr -> Option (Int × Int)} {fb : RF} {ts : List (Option Tr)} : ∀ {l : List Nat} {ks : List (Int × Int)}, ajc kt fb ts l = .ok ks -> ks.length = l.length /\ ∀ (j i : Nat), l[j]? = some i -> ∃ T k, fb (some (Tr.int i) :: ts) = .ok T /\ kt T = some k /\ ks[j]? = some k
 | [], ks, h => by cases h; exact ⟨rfl, λj i z => by simp at z⟩
 | a :: l, ks, h => by
  unfold ajc at h
  obtain ⟨T, e1, h⟩ := abj h
  split at h
  ·rename_i k e2
   obtain ⟨ks', e3, h⟩ := abj h
   cases h
   obtain ⟨h1, h2⟩ := aiq e3
   refine ⟨by simp [h1], λj i z => ?_⟩
   cases j with
   | zero => simp at z; subst z; exact ⟨T, k, e1, e2, by simp⟩
   | succ j => simpa using h2 j i (by simpa using z)
  ·cases h
noncomputable def akx (kt : Tr -> Option (Int × Int)) (src : List (Option Nat)) (fa : AF) (fb : RF) : EF := λρ => (fa ρ).bind λp => match p.1 with
 | [.v (.int n) _] => if 0 <= n /\ n < 64 then (aa0 (ajc kt fb (amD src p.2) (List.range n.toNat))).bind λks => .ok (.v (.lst ((amA n.toNat λi => ks.getD i (0, 0)).map λi : Nat => Tr.int i)) true, p.2) else .bad
 | _ => .bad
theorem aky {K : PySem.W.Frag} {H : Hp} : ∀ l : List Nat, aa3 K H (l.map λi : Nat => V.int i) (l.map λi : Nat => Tr.int i)
 | [] => .nil
 | n :: l => .cons (.int n) (aky l)
theorem atf {t : Tx} {W : Addr -> Prop} {ρ : En} {σ : St} {H : Hp} {j : Nat} {U : Tr} (e : EOk t W ρ σ H) (h : slT ρ j = some U) : ∃ v, σ[j]? = some (some v) /\ Rp t.K W H v U := by
 unfold slT at h
 split at h
 ·rename_i T q
  cases h
  obtain ⟨v, h1, h2⟩ := e.sh j _ q
  exact ⟨v, h1, .inl h2⟩
 ·rename_i ts q
  cases h
  obtain ⟨a, xs, h1, _, _, h4, h5⟩ := e.ow j _ q
  exact ⟨_, h1, .inr ⟨a, xs, ts, rfl, rfl, h4, h5⟩⟩
 ·rename_i ts q
  cases h
  obtain ⟨a, xs, h1, _, _, h4, h5⟩ := e.rf j _ q
  exact ⟨_, h1, .inr ⟨a, xs, ts, rfl, rfl, h4, h5⟩⟩
 ·cases h
theorem auI.smt {K : PySem.W.Frag} {P c : Addr} {x : Str} {H H' : Hp} (tb : TbS K H) (hx : x ∈ abz) (ht : tabIn K x = some (c, P)) (hu : ∀ x' ∈ abz, ∀ c', tabIn K x' = some (c', P) -> x' = x) (l : auI P (aha x) H H') : SmT K H H' := by
 refine ⟨λb o q n => l.kp b o q λz => n ?_, λx' hx' c' b e => ?_⟩
 ·subst z
  exact ⟨x, hx, c, ht⟩
 ·by_cases z : b = P
  ·subst z
   have := hu x' hx' c' e
   subst this
   exact l.tb
  ·obtain ⟨ps, q, t1, t2⟩ := tb x' hx' c' b e
   refine ⟨ps, l.kp _ _ q z, t1, λpos v k => ?_⟩
   obtain ⟨d, o, e1, e2, e3⟩ := t2 pos v k
   refine ⟨d, o, e1, l.kp _ _ e2 ?_, e3⟩
   rintro rfl
   obtain ⟨qs, y, _⟩ := tb x hx c d ht
   rw [y] at e2
   cases e2
theorem aoo {t : Tx} {Kw : KW} {kt : Tr -> Option (Int × Int)} {c P : Addr} {x : Str} {src : List (Option Nat)} {ta : TA} {fa : AF} {te : TE} {fb : RF} (hx : x ∈ abz) (ht : tabIn t.K x = some (c, P)) (hu : ∀ x' ∈ abz, ∀ c', tabIn t.K x' = some (c', P) -> x' = x)
  (hkt : ∀ (W : Addr -> Prop) (H : Hp) v T k, Rp t.K W H v T -> kt T = some k -> Kw H v k) (ha : SA t ta fa) (hb : QS t.K te fb) : SE t (amz Kw P (aha x) src ta te) (akx kt src fa fb) := λW ρ σ H Q e h => by
 refine ha W ρ σ H _ e (Rs.aag (Rs.aae h) λp h vs H1 e1 s1 v1 => ?_)
 obtain ⟨rs, ρ1⟩ := p
 dsimp only at h e1 v1
 split at h
 case h_2 => exact h.elim
 rename_i n fr
 split at h
 case isFalse => exact h.elim
 rename_i hn
 have ev : vs = [.int n] := by
  cases v1 with
  | cons h1 r1 =>
   cases r1
   cases fr with
   | false =>
    have h1 : Rep _ _ _ (Tr.int n) := h1
    cases h1
    rfl
   | true =>
    obtain ⟨_, _, _, _, z, _⟩ := h1
    cases z
 obtain ⟨ks, k1, h⟩ := abx (Rs.aae h) (adU _)
 have un : ∀ {α : Type} {x : Rs α} {a : α}, aa0 x = .ok a -> x = .ok a := λ{α x a} z => by cases x <;> first | exact z | cases z
 obtain ⟨kl, kg⟩ := aiq (un k1)
 have nn : ((n.toNat : Nat) : Int) = n := by omega
 refine ⟨n.toNat, λi => ks.getD i (0, 0), by rw [ev, nn], by omega, e1.tab.ok x hx c P ht, λH2 lh => ?_⟩
 obtain ⟨e2, s2⟩ := e1.ami (lh.smt e1.tab.ok hx ht hu)
 refine ⟨λi hi H3 s3 => ?_, λD ys H3 s3 nD hs => ?_⟩
 ·obtain ⟨T, k, f1, f2, f3⟩ := kg i i (List.getElem?_range hi)
  have e3 := e2.grow s3
  refine hb W _ H3 _ _ T e3.wl (λj U z => ?_) f1 λv H4 s4 r4 => ⟨hkt W H4 v T _ r4 ?_, s4⟩
  ·cases j with
   | zero => simp at z; subst z; exact ⟨.int i, by simp, .inl (.int i)⟩
   | succ j =>
    have z : (amD src ρ1)[j]? = some (some U) := z
    unfold amD at z
    rw [List.getElem?_map] at z
    cases eq : src[j]? with
    | none => rw [eq] at z; cases z
    | some o =>
     rw [eq] at z
     have z : o.bind (slT ρ1) = some U := Option.some.inj z
     cases o with
     | none => cases z
     | some l =>
      obtain ⟨v, h1, h2⟩ := atf e3 (show slT ρ1 l = some U from z)
      refine ⟨v, ?_, h2⟩
      show (aeV src σ)[j]? = some (some v)
      rw [ahe eq, h1]
      rfl
  ·rw [f2]
   show some k = some (ks.getD i (0, 0))
   rw [List.getD_eq_getElem?_getD, f3]
   rfl
 ·have e3 := e2.grow s3
  have hs' := hs.eq
  have st : Stp W H1 H3 := s2.trans (Stp.of s3)
  refine h (.ref D) _ (e3.grow (aaV nD _)) ((s1.trans st).trans (Stp.of (aaV nD _))) (VOE.back (H := H3) (VOE.of (σ' := σ) e3 (aaV nD _) (VOk.new nD ?_)) λb q => (s1.trans st).dom b q)
  rw [hs']
  exact aky _
theorem atg (K : PySem.W.Frag) (W : Addr -> Prop) (H : Hp) (v : V) (T : Tr) (k : Int × Int) (r : Rp K W H v T) (e : ate T = some k) : kwI H v k := by
 unfold ate at e
 split at e
 ·cases e
  exact ⟨r.int, rfl⟩
 ·cases e
end L2
end
section
namespace L2
open PySem PySem.Spec PyProof.Rows PySem.W
noncomputable def AtL (K : PySem.W.Frag) (mg : Str -> Option Value) (x : Str) (st : Stmt) (c : Addr) : Prop := ∃ f fd, Fun K x x st f fd /\ mg x = some (.ref f) /\ fd.code = .ref c
section
variable {P : Program} {w : World} {K : PySem.W.Frag} {mg : Str -> Option Value} {base : Heap}
theorem AtL.axK {c : Addr} {k : Nat} {x : Str} {st : Stmt} {N ps : List Str} {sp : Sp} (a : AtL K mg x st c) (S : aaR N ps (aan st))
  (hb : ∀ (kV doc pm : Value) (an : Option Addr) (cdv ct : Value) (us : List Value), us.length = ps.length -> bindArgs (fnOf x x (acM st) (abZ st) (aan st) .none kV doc pm an cdv ct) ⟨us, []⟩ = pure (ps.zip us))
  (len : ∀ vs H Q E, sp vs H Q E -> vs.length = ps.length)
  (hbody : ∀ (f : Addr) (A : Around) (outer : List Env) (s : Shared) (H : Hp) (vs : List V) (Q : VK) (E : XK), aeZ k (A.deeper (envOfC x (aan st) s.heap.objs.size f (.ref c))) -> sp vs H Q E ->
   ∃ t, PSs (aj4 (CXF P w) P w K mg base N x (aan st) f (.ref c) A outer s H E) (abZ st) t /\ t { nx := λ_ H' => Q .non H', rt := Q } (start N vs) H) : DfX P w K mg base (k + 1) x ps sp := by
 obtain ⟨f, fd, F, m, hc⟩ := a
 refine ⟨f, fd, ?_, F.binds hb, F.kp, m⟩
 obtain ⟨oc, od, kV, doc, pm, an, cdv, ct, osl, rfl, lk, hcd⟩ := F.ex
 have hc : cdv = .ref c := hc
 subst hc
 exact arK lk hcd S len λA outer s H vs Q E hr h => hbody f A outer s H vs Q E hr h
theorem AtL.axL {c : Addr} {k : Nat} {x : Str} {st : Stmt} {N ps : List Str} {cl : Str -> Addr} {b : SF} (a : AtL K mg x st c) (S : aaR N ps (aan st)) (hn : ps.length <= N.length)
  (hb : ∀ (kV doc pm : Value) (an : Option Addr) (cdv ct : Value) (us : List Value), us.length = ps.length -> bindArgs (PySem.W.fnOf x x (acM st) (abZ st) (aan st) .none kV doc pm an cdv ct) ⟨us, []⟩ = pure (ps.zip us))
  (hbody : ∀ (f : Addr) (A : Around) (outer : List Env) (s : Shared) (H : Hp) (E : XK), aeZ k (A.deeper (envOfC x (aan st) s.heap.objs.size f (.ref c))) ->
   ∃ ts, PSs (aj4 (CXF P w) P w K mg base N x (aan st) f (.ref c) A outer s H E) (abZ st) ts /\ ∀ t : Tx, t.K = nlK K -> (∀ c H', F0 t H' -> t.EX c -> E (.ref (cl c)) none H') -> SS t ts b) :
  DfX P w K mg base (k + 1) x ps (spP K cl ps.length (fnP N.length b)) := by
 refine a.axK S hb (λvs H Q E h => ?_) (λf A outer s H vs Q E hr h => ?_)
 ·obtain ⟨_, _, h, _⟩ := h; exact h
 obtain ⟨Z, as, hl, r, zl, tb, h⟩ := h
 obtain ⟨ts, h1, h2⟩ := hbody f A outer s H E hr
 refine ⟨ts, h1, ?_⟩
 have sm : ∀ (b : Addr) (W : Addr -> Prop) ρ σ H', EOk ⟨nlK K, Z, Tb (nlK K), H, λ_ => none, λc => ∀ H', SmT (nlK K) H H' -> E (.ref (cl c)) none H'⟩ W ρ σ H' -> SmT (nlK K) H H' := λ_ W ρ σ H' e => ⟨λb o q n => e.f0 b o q n, e.tab.ok⟩
 have r := r.afv (afL tb)
 refine h2 ⟨nlK K, Z, Tb (nlK K), H, λ_ => none, λc => ∀ H', SmT (nlK K) H H' -> E (.ref (cl c)) none H'⟩ rfl (λc H' f0 q => q H' ⟨λb o z n => f0.1 b o z n, f0.2⟩) (λb => Z b \/ Tb (nlK K) b) (aaG N.length as) (start N vs) H _ ?_ (Rs.aag (Rs.aae h) λq h => ?_)
 ·have la := r.length
  have akn : ∀ (i : Nat) (us : List Tr), (aaG N.length as)[i]? = some (.dp us) -> False := λi us q => by
   rcases abH q with ⟨u', q1, z⟩ | z <;> cases z
  refine ⟨λ_ => [], ?_, λ_ z => .inl z, λb z => ?_, λb z => z.elim (zl b) (λz => .inr (tb.tbl z)), λb o q _ => q, λb q => q, λi u q => ?_, λi us q => ?_, λi us q => ?_, λi j c m1 m2 => ?_, λb o z => (by cases z), λ_ _ _ _ => rfl, λi us q => (akn i us q).elim, λi _ us _ _ q => (akn i us q).elim, λi _ us _ q => (akn i us q).elim, λi us q => (akn i us q).elim, ⟨tb, λ_ z => .inr z, λ_ z => z, λ_ _ => rfl⟩⟩
  ·unfold aaG start
   simp only [List.length_append, List.length_map, List.length_replicate]
   omega
  ·exact (zl b z).ne
  ·rcases abH q with ⟨u', q1, z⟩ | z
   ·cases z
    obtain ⟨v, e1, e2⟩ := r.ao0 q1
    exact ⟨v, aeB e1, e2⟩
   ·cases z
  ·rcases abH q with ⟨u', q1, z⟩ | z <;> cases z
  ·rcases abH q with ⟨u', q1, z⟩ | z <;> cases z
  ·obtain ⟨us, q | q⟩ := m1 <;> rcases abH q with ⟨u', q1, z⟩ | z <;> cases z
 ·obtain ⟨fl, ρ'⟩ := q
  cases fl with
  | nx => exact λW' σ' H' e n => h .non H' (sm 0 W' ρ' σ' H' e) .non
  | rt T fr =>
   refine λv W' σ' H' e n => h v H' (sm 0 W' ρ' σ' H' e) ?_
   cases fr <;> exact n
  | bk => exact h.elim
  | ct => exact h.elim
end
noncomputable def ath (K : PySem.W.Frag) (x : Str) : Option (Addr × Addr) := match K.lookup mainGlobals with
 | some o => if o.cls == .type "list" then none else (match nsIn K mainGlobals x with
  | some (some (.ref f)) => (match K.lookup f with
   | some o => if o.cls == .type "list" then none else (match o.data with
    | .func fd => (match fd.code with
     | .ref c => (match K.lookup c with
      | some o => if o.cls == .type "list" then none else tabIn K x
      | _ => none)
     | _ => none)
    | _ => none)
   | _ => none)
  | _ => none)
 | _ => none
theorem ahl {o : Obj} (h : (o.cls == .type "list") = false) : noL o = o := by
 unfold noL
 rw [if_neg]
 rintro ⟨z, _⟩
 rw [z] at h
 exact absurd h (by decide +kernel)
theorem aqw {K : PySem.W.Frag} {x : Str} {o : Obj} (h : K.lookup mainGlobals = some o) (n : (o.cls == .type "list") = false) : nsIn (nlK K) mainGlobals x = nsIn K mainGlobals x := by
 have e : (nlK K).lookup mainGlobals = K.lookup mainGlobals := by
  rw [abC, h]
  show some (noL o) = some o
  rw [ahl n]
 unfold nsIn
 rw [e]
theorem amE {K : PySem.W.Frag} {x : Str} {z : Addr × Addr} (h : ath K x = some z) : tabIn K x = some z /\ tabIn (nlK K) x = some z := by
 unfold ath at h
 split at h
 ·rename_i o1 h1
  split at h
  ·cases h
  ·rename_i n1
   split at h
   ·rename_i f hf
    split at h
    ·rename_i o2 h2
     split at h
     ·cases h
     ·rename_i n2
      split at h
      ·rename_i fd hd
       split at h
       ·rename_i c hc
        split at h
        ·rename_i o3 h3
         split at h
         ·cases h
         ·rename_i n3
          refine ⟨h, ?_⟩
          rw [<-h]
          unfold tabIn
          rw [aqw h1 (by simpa using n1), hf]
          dsimp only
          rw [abC, h2]
          dsimp only [Option.map]
          rw [ahl (by simpa using n2)]
          obtain ⟨a1, a2, a3, a4⟩ := o2
          dsimp only at hd
          subst hd
          dsimp only
          rw [hc]
          dsimp only
          rw [abC, h3]
          dsimp only [Option.map]
          rw [ahl (by simpa using n3)]
        ·cases h
       ·cases h
      ·cases h
    ·cases h
   ·cases h
 ·cases h
theorem amF {o : Obj} {d : Data} (h : (noL o).data = d) (n : d ≠ .fields #[]) : noL o = o := by
 unfold noL at h ⊢
 split at h
 ·exact (n h.symm).elim
 ·rename_i q
  rw [if_neg q]
theorem akz {K : PySem.W.Frag} {x : Str} {z : Addr × Addr} (h : tabIn (nlK K) x = some z) : tabIn K x = some z := by
 unfold tabIn at h
 split at h
 ·rename_i f hf
  have g1 : nsIn K mainGlobals x = some (some (.ref f)) := by
   unfold nsIn at hf
   rw [abC] at hf
   cases e : K.lookup mainGlobals with
   | none => rw [e] at hf; cases hf
   | some o =>
    rw [e] at hf
    unfold nsIn
    rw [e]
    have q : noL o = o := by
     dsimp only [Option.map] at hf
     split at hf
     ·rename_i a b es ep c eq
      have eq : noL o = ⟨a, b, .dict es ep, c⟩ := Option.some.inj eq
      exact amF (d := .dict es ep) (by rw [eq]) (by intro z; cases z)
     ·cases hf
    dsimp only [Option.map] at hf
    rw [q] at hf
    exact hf
  split at h
  ·rename_i a b fd osl hfo
   have g2 : K.lookup f = some ⟨a, b, .func fd, osl⟩ := by
    rw [abC] at hfo
    cases e : K.lookup f with
    | none => rw [e] at hfo; cases hfo
    | some o =>
     rw [e] at hfo
     have eq : noL o = ⟨a, b, .func fd, osl⟩ := Option.some.inj hfo
     rw [amF (d := .func fd) (by rw [eq]) (by intro z; cases z)] at eq
     rw [eq]
   split at h
   ·rename_i c hc
    split at h
    ·rename_i a' b' vs aw6 hco
     split at h
     ·rename_i Pp hv
      cases h
      have g3 : K.lookup c = some ⟨a', b', .fields vs, aw6⟩ := by
       rw [abC] at hco
       cases e : K.lookup c with
       | none => rw [e] at hco; cases hco
       | some o =>
        rw [e] at hco
        have eq : noL o = ⟨a', b', .fields vs, aw6⟩ := Option.some.inj hco
        rw [amF (d := .fields vs) (by rw [eq]) (by intro z; injection z with z; subst z; simp at hv)] at eq
        rw [eq]
      unfold tabIn
      rw [g1]
      dsimp only
      rw [g2]
      dsimp only
      rw [hc]
      dsimp only
      rw [g3]
      dsimp only
      rw [hv]
     ·cases h
    ·cases h
   ·cases h
  ·cases h
 ·cases h
structure aop (K : PySem.W.Frag) (mg : Str -> Option Value) (base : Heap) (x : Str) (c P : Addr) : Prop where
 nm : x ∈ abz
 hd : CodeHd base c P
 bm : aoj mg base
 tab : tabIn (nlK K) x = some (c, P)
 un : ∀ x' ∈ abz, ∀ c', tabIn (nlK K) x' = some (c', P) -> x' = x
theorem aqx {t : Tx} {K : PySem.W.Frag} {mg : Str -> Option Value} {base : Heap} {x : Str} {c P : Addr} {src : List (Option Nat)} {ta : TA} {fa : AF} {te : TE} {fb : RF} (L : aop K mg base x c P) (hK : t.K = nlK K) (ha : SA t ta fa) (hb : QS (nlK K) te fb) : SE t (amz kwI P (aha x) src ta te) (akx ate src fa fb) :=
 aoo (c := c) L.nm (by rw [hK]; exact L.tab) (by rw [hK]; exact L.un) (atg _) ha (by rw [hK]; exact hb)
theorem aqy {K : PySem.W.Frag} {x : Str} {f c P : Addr} {o1 : Obj} {oc : Value} {od : Option Addr} {fd : FuncData} {sl : Array (Option Value)} {cc : Value} {cd : Option Addr} {vs : Array Value} {cs : Array (Option Value)} (a : nsIn K mainGlobals x = some (some (.ref f))) (l1 : K.lookup mainGlobals = some o1) (n1 : (o1.cls == .type "list") = false)
  (l2 : K.lookup f = some ⟨oc, od, .func fd, sl⟩) (n2 : (oc == .type "list") = false) (hc : fd.code = .ref c) (l3 : K.lookup c = some ⟨cc, cd, .fields vs, cs⟩) (n3 : (cc == .type "list") = false) (hv : vs[11]? = some (.ref P)) : ath K x = some (c, P) := by
 unfold ath
 rw [l1]
 dsimp only
 rw [if_neg (by rw [n1]; exact Bool.false_ne_true), a]
 dsimp only
 rw [l2]
 dsimp only
 rw [if_neg (by rw [n2]; exact Bool.false_ne_true), hc]
 dsimp only
 rw [l3]
 dsimp only
 rw [if_neg (by rw [n3]; exact Bool.false_ne_true)]
 unfold tabIn
 rw [a]
 dsimp only
 rw [l2]
 dsimp only
 rw [hc]
 dsimp only
 rw [l3]
 dsimp only
 rw [hv]
theorem akA {K : PySem.W.Frag} {x : Str} (a : nsIn K mainGlobals x = some none) : tabIn K x = none := by
 unfold tabIn
 rw [a]
theorem aoq {K : PySem.W.Frag} {mg : Str -> Option Value} {base : Heap} {x : Str} {c P : Addr} (nm : x ∈ abz) (hc : ∀ x ∈ abz, ∀ c b, tabIn K x = some (c, b) -> CodeHd base c b) (bm : aoj mg base) (q : ath K x = some (c, P)) (ho : ∀ x' ∈ abz, x' = x \/ ∀ c', tabIn K x' ≠ some (c', P)) : aop K mg base x c P :=
 ⟨nm, hc x nm c P (amE q).1, bm, (amE q).2, λx' hx' c' e => (ho x' hx').elim id λz => (z c' (akz e)).elim⟩
end L2
end
section
namespace L2
open PySem PySem.Spec PyProof.Rows PySem.W
section
variable {X : Cx}
end
noncomputable def eLR (fa : AF) : EF := λρ => (fa ρ).bind λp => match p.1 with
 | [.v (.int n) _] => if 0 <= n /\ n <= 1000 then .ok (.v (.lst ((List.range n.toNat).map λi : Nat => Tr.int i)) true, p.2) else .bad
 | _ => .bad
end L2
end
section
namespace L2
open PySem PySem.Spec PyProof.Rows
section
variable {t : Tx} {K : PySem.W.Frag}
noncomputable def aqz (F : FR) (fa : EF) : EF := λρ => (fa ρ).bind λp => match p.1 with
 | .v (.lst us) true => (F [.lst us]).bind λz => .ok (.v z.1.1 z.1.2, p.2)
 | _ => .bad
end
end L2
end
section
namespace L2
open PySem PySem.Spec PyProof.Rows
section
variable {X : Cx}
end
end L2
end
section
namespace L2
open PySem PySem.Spec PyProof.Rows
section
variable {P : Program} {w : World} {K : PySem.W.Frag}
end
section
variable {X : Cx}
end
section
variable {t : Tx}
end
section
variable {X : Cx}
end
section
variable {K : PySem.W.Frag}
end
end L2
end
section
namespace L2
open PySem PySem.Spec PyProof.Rows
end L2
end
section
namespace L2
open PySem PySem.Spec PyProof.Rows PySem.W
noncomputable def agS : List Str := "HeadError" :: acf
noncomputable def isub (c d : Str) : Bool := c == d || d == ("HeadError" : Str)
noncomputable def ati : List Ty := [.int, .bool, .str, .tuple, .list]
noncomputable def aor (K : Frag) (cs : List Str) (p : Str -> Addr -> Bool) : Bool := cs.all λc => match nsIn K mainGlobals c with
 | some (some (.ref C)) => p c C
 | _ => true
theorem ahm {K : Frag} {cs : List Str} {p : Str -> Addr -> Bool} (h : aor K cs p = true) {c : Str} (m : c ∈ cs) {C : Addr} (n : nsIn K mainGlobals c = some (some (.ref C))) : p c C = true := by
 have := List.all_eq_true.mp h c m
 rw [n] at this
 exact this
noncomputable def avD (K : Frag) (C : Addr) : Bool := findIn K (.ref C) "__getattribute__" == some (some (.builtin "BaseException.__getattribute__")) && findIn K (.ref C) "__getattr__" == some none && findIn K (.ref C) "__class__" == some (some (.builtin "object.__class__")) && mroIn K C (.type "object") == some true && mroIn K C (.type "BaseException") == some true && (clsIn K C).isSome
theorem aqA {K : Frag} {C : Addr} (h : avD K C = true) : al6 K C := by
 unfold avD at h
 simp only [Bool.and_eq_true] at h
 obtain ⟨⟨⟨⟨⟨h1, h2⟩, h3⟩, h4⟩, h5⟩, h6⟩ := h
 exact ⟨beq_iff_eq.mp h1, beq_iff_eq.mp h2, beq_iff_eq.mp h3, beq_iff_eq.mp h4, beq_iff_eq.mp h5, h6⟩
noncomputable def atj (K : Frag) : Bool :=
 aor K acf (λ_ C => avD K C && ati.all (λy => kitOne K (.ref C) (.type y.name) == some false) && kitOne K (.ref C) (.type "ValueError") == some true) &&
 aor K agS (λd D => kitOne K (.type "NoneType") (.ref D) == some false && aor K acf (λc C => kitOne K (.ref C) (.ref D) == some (isub c d) && (!(d == ("HeadError" : Str)) || exmOne K (.ref C) (.ref D) == some true))) &&
 kitOne K (.type "NoneType") (.type "ValueError") == some false && (match K.lookup mainGlobals with
  | some o => o.cls != .type "list"
  | none => true)
structure ahn (K : Frag) : Prop where
 o : XOk K
 n : ∀ d ∈ agS, ∀ D, nsIn K mainGlobals d = some (some (.ref D)) -> kitOne K (.type "NoneType") (.ref D) = some false
 k : ∀ d ∈ agS, ∀ D, nsIn K mainGlobals d = some (some (.ref D)) -> ∀ c ∈ acf, ∀ C, nsIn K mainGlobals c = some (some (.ref C)) -> kitOne K (.ref C) (.ref D) = some (isub c d)
 v : ∀ c ∈ acf, ∀ C, nsIn K mainGlobals c = some (some (.ref C)) -> kitOne K (.ref C) (.type "ValueError") = some true
 vn : kitOne K (.type "NoneType") (.type "ValueError") = some false
 h : ∀ D, nsIn K mainGlobals "HeadError" = some (some (.ref D)) -> ∀ c ∈ acf, ∀ C, nsIn K mainGlobals c = some (some (.ref C)) -> exmOne K (.ref C) (.ref D) = some true
 x : ∀ c ∈ acf, ∀ C, nsIn K mainGlobals c = some (some (.ref C)) -> al6 K C
 mc : ∀ o, K.lookup mainGlobals = some o -> o.cls ≠ .type "list"
theorem ahn.of {K : Frag} (h : atj K = true) : ahn K := by
 unfold atj at h
 simp only [Bool.and_eq_true] at h
 obtain ⟨⟨⟨h1, h2⟩, h3⟩, h4⟩ := h
 have a1 : ∀ c ∈ acf, ∀ C, nsIn K mainGlobals c = some (some (.ref C)) -> al6 K C /\ (∀ y : Ty, kitOne K (.ref C) (.type y.name) = some false) /\ kitOne K (.ref C) (.type "ValueError") = some true := λc m C n => by
  have := ahm h1 m n
  simp only [Bool.and_eq_true] at this
  obtain ⟨⟨x1, x2⟩, x3⟩ := this
  refine ⟨aqA x1, λy => ?_, beq_iff_eq.mp x3⟩
  have := List.all_eq_true.mp x2 y (by cases y <;> simp [ati])
  exact beq_iff_eq.mp this
 have a2 : ∀ d ∈ agS, ∀ D, nsIn K mainGlobals d = some (some (.ref D)) → kitOne K (.type "NoneType") (.ref D) = some false ∧ ∀ c ∈ acf, ∀ C, nsIn K mainGlobals c = some (some (.ref C)) → kitOne K (.ref C) (.ref D) = some (isub c d) ∧ (d = "HeadError" → exmOne K (.ref C) (.ref D) = some true) := λd m D n => by
  have := ahm h2 m n
  rw [Bool.and_eq_true] at this
  refine ⟨beq_iff_eq.mp this.1, λc mc C nc => ?_⟩
  have := ahm this.2 mc nc
  rw [Bool.and_eq_true] at this
  refine ⟨beq_iff_eq.mp this.1, λe => ?_⟩
  have z := this.2
  rw [Bool.or_eq_true] at z
  rcases z with z | z
  ·rw [e] at z; cases z
  ·exact beq_iff_eq.mp z
 refine ⟨λc m C n => ⟨λa => akc (a1 c m C n).1, (a1 c m C n).2.1⟩, λd m D n => (a2 d m D n).1, λd m D n c mc C nc => ((a2 d m D n).2 c mc C nc).1, λc m C n => (a1 c m C n).2.2, beq_iff_eq.mp h3, λD n c mc C nc => ((a2 "HeadError" (List.mem_cons_self ..) D n).2 c mc C nc).2 rfl, λc m C n => (a1 c m C n).1, λo e => ?_⟩
 rw [e] at h4
 simpa using h4
noncomputable def isc : Tr -> Str -> Option Bool
 | .exn c, d => some (isub c d)
 | .non, _ => some false
 | _, _ => none
noncomputable def isv : Tr -> Option Bool
 | .exn _ => some true
 | .non => some false
 | _ => none
noncomputable def avE (K : Frag) (d : Str) (D : Addr) : List V -> Hp -> VK -> Prop := λxs H Q => ∃ v T b, xs = [v, .ref D] /\ Rep K H v T /\ isc T d = some b /\ Q (.bl b) H
noncomputable def avF (K : Frag) : List V -> Hp -> VK -> Prop := λxs H Q => ∃ v T b, xs = [v, .ty "ValueError"] /\ Rep K H v T /\ isv T = some b /\ Q (.bl b) H
section
variable {X : Cx}
theorem aos (hX : ahn X.K) {d : Str} {D : Addr} (hd : d ∈ agS) (hn : nsIn X.K mainGlobals d = some (some (.ref D))) : acI X (.builtin "isinstance") (avE X.K d D) := by
 intro pins s σ H xs us Q I r h
 obtain ⟨v, T, b, rfl, q1, hb, q⟩ := h
 cases q1 with
 | exn h m n =>
  cases hb
  exact akd pins s σ H _ us Q I r ⟨_, _, .ref D, _, _, rfl, h, hX.x _ m _ n, λu h => h, hX.k d hd D hn _ m _ n, q⟩
 | non =>
  cases hb
  exact ake pins s σ H _ us Q I r ⟨.ref D, _, _, rfl, λu h => h, hX.n d hd D hn, q⟩
 | bl y => cases hb
 | int i => cases hb
 | str y => cases hb
 | tup h r => cases hb
 | lst h r => cases hb
theorem aot (hX : ahn X.K) : acI X (.builtin "isinstance") (avF X.K) := by
 intro pins s σ H xs us Q I r h
 obtain ⟨v, T, b, rfl, q1, hb, q⟩ := h
 cases q1 with
 | exn h m n =>
  cases hb
  exact akd pins s σ H _ us Q I r ⟨_, _, .type "ValueError", _, _, rfl, h, hX.x _ m _ n, λu h => h, hX.v _ m _ n, q⟩
 | non =>
  cases hb
  exact ake pins s σ H _ us Q I r ⟨.type "ValueError", _, _, rfl, λu h => h, hX.vn, q⟩
 | bl y => cases hb
 | int i => cases hb
 | str y => cases hb
 | tup h r => cases hb
 | lst h r => cases hb
variable {e : Expr} {te : TE} {x : Str} {p q pos : Pos}
theorem pcX (hX : ahn X.K) {D : Addr} (hd : x ∈ agS) (hn : nsIn X.K mainGlobals x = some (some (.ref D))) (hm : X.mg x = some (.ref D)) (he : PE X e te) (h1 : X.mg "isinstance" = none) (hg1 : X.env.kindOf "isinstance" = some .globalImplicit := by kernel_rfl) (hg2 : X.env.kindOf x = some .globalImplicit := by kernel_rfl) (hdb : (x == ("__debug__" : Str)) = false := by kernel_rfl)
  (hs : notStar e = true := by kernel_rfl) : PE X (.Call (.Name "isinstance" p) [e, .Name x q] [] pos) (tCB (avE X.K x D) (adh te (adh (tC (.ref D)) alR))) :=
 afH (aos hX hd hn) hg1 h1 PyProof.Rows.boot_isinstance (acL he (acL (alI (v := .ref D) hg2 hm rfl hdb) aal) (acP hs)) (by decide +kernel) (by kernel_rfl) (acP hs)
theorem pcV (hX : ahn X.K) (he : PE X e te) (h1 : X.mg "isinstance" = none) (h2 : X.mg "ValueError" = none) (hg1 : X.env.kindOf "isinstance" = some .globalImplicit := by kernel_rfl) (hg2 : X.env.kindOf "ValueError" = some .globalImplicit := by kernel_rfl)
  (hs : notStar e = true := by kernel_rfl) : PE X (.Call (.Name "isinstance" p) [e, .Name "ValueError" q] [] pos) (tCB (avF X.K) (adh te (adh (tC (.ty "ValueError")) alR))) :=
 afH (aot hX) hg1 h1 PyProof.Rows.boot_isinstance (acL he (acL (alJ (v := .ty "ValueError") hg2 h2 (by decide +kernel) rfl (by decide +kernel) (by kernel_rfl)) aal) (acP hs)) (by decide +kernel) (by kernel_rfl) (acP hs)
end
section
variable {t : Tx} {K : Frag}
noncomputable def air (d : Str) (fa : EF) : EF := λρ => (fa ρ).bind λp => (dr p.2 p.1).bind λa => match isc a d with
 | some b => .ok (eB b, p.2)
 | none => .bad
noncomputable def avG (fa : EF) : EF := λρ => (fa ρ).bind λp => (dr p.2 p.1).bind λa => match isv a with
 | some b => .ok (eB b, p.2)
 | none => .bad
theorem acT (hK : t.K = nlK K) {d : Str} {D : Addr} {ta : TE} {fa : EF} (ha : SE t ta fa) : SE t (tCB (avE K d D) (adh ta (adh (tC (.ref D)) alR))) (air d fa) := λW ρ σ H Q e h => by
 refine ha W ρ σ H _ e (Rs.aag (Rs.aae h) λp h x H1 e1 s1 v1 => ?_)
 obtain ⟨a, k1, h⟩ := abx (Rs.aae h) (acQ _ _)
 have r := aeb e1 e.wn v1.1 k1
 rw [hK] at r
 cases z : isc a d with
 | none => rw [z] at h; exact h.elim
 | some b =>
  rw [z] at h
  exact ⟨x, a, b, rfl, r.rep.toK, z, h _ H1 e1 s1 (.low (.bl _))⟩
theorem atk (hK : t.K = nlK K) {ta : TE} {fa : EF} (ha : SE t ta fa) : SE t (tCB (avF K) (adh ta (adh (tC (.ty "ValueError")) alR))) (avG fa) := λW ρ σ H Q e h => by
 refine ha W ρ σ H _ e (Rs.aag (Rs.aae h) λp h x H1 e1 s1 v1 => ?_)
 obtain ⟨a, k1, h⟩ := abx (Rs.aae h) (acQ _ _)
 have r := aeb e1 e.wn v1.1 k1
 rw [hK] at r
 cases z : isv a with
 | none => rw [z] at h; exact h.elim
 | some b =>
  rw [z] at h
  exact ⟨x, a, b, rfl, r.rep.toK, z, h _ H1 e1 s1 (.low (.bl _))⟩
noncomputable def Pr {α : Type} (f : En -> Rs (α × En)) : Prop := ∀ ρ, (∀ p, f ρ = .ok p -> p.2 = ρ) /\ ∀ c, f ρ ≠ .ex c
theorem aph (i : Nat) : Pr (aah i) := λρ => by
 unfold aah
 refine ⟨λp h => ?_, λc h => ?_⟩ <;> (split at h <;> cases h)
 all_goals rfl
theorem atl : Pr aaB := λρ => ⟨λp h => by cases h; rfl, λc h => by cases h⟩
theorem amG {f : EF} {g : AF} (h1 : Pr f) (h2 : Pr g) : Pr (aad f g) := λρ => by
 unfold aad
 cases e1 : f ρ with
 | bad => exact ⟨λp h => (by cases h), λc h => (by cases h)⟩
 | ex c => exact absurd e1 ((h1 ρ).2 c)
 | ok p =>
  have z := (h1 ρ).1 p e1
  obtain ⟨r, ρ1⟩ := p
  dsimp only at z
  subst z
  show (∀ p, ((g ρ1).bind _) = .ok p -> _) /\ ∀ c, ((g ρ1).bind _) ≠ .ex c
  cases e2 : g ρ1 with
  | bad => exact ⟨λp h => (by cases h), λc h => (by cases h)⟩
  | ex c => exact absurd e2 ((h2 ρ1).2 c)
  | ok q =>
   have z := (h2 ρ1).1 q e2
   exact ⟨λp h => by cases h; exact z, λc h => by cases h⟩
noncomputable def SEX (t : Tx) (cl : Str -> Addr) (te : TEX) (f : EF) : Prop := ∀ W ρ σ H Q (EX : St -> XK), EOk t W ρ σ H -> (f ρ).post (λc => ∀ H', EOk t W ρ σ H' -> Stp W H H' -> EX σ (.ref (cl c)) none H') (λp => ∀ v H', EOk t W p.2 σ H' -> Stp W H H' -> VOE t W p.2 σ H H' v p.1 -> Q v H') -> te EX σ H Q
noncomputable def SX (t : Tx) (cl : Str -> Addr) (tb : TX) (f : SF) : Prop := ∀ W ρ σ H D (EX : St -> XK), EOk t W ρ σ H -> (f ρ).post (λc => ∀ H', EOk t W ρ σ H' -> Stp W H H' -> EX σ (.ref (cl c)) none H') (afu t W H D) -> tb D EX σ H
theorem aou (hK : t.K = nlK K) {cl : Str -> Addr} {n : Nat} {F : FP} {ta : TA} {fa : AF} (pr : Pr fa) (hn : ∀ ρ p, fa ρ = .ok p -> p.1.length = n) (ha : SA t ta fa) : SEX t cl (al5 (spP K cl n F) ta) (aaM F fa) := λW ρ σ H Q EX e h => by
 have h := Rs.aae h
 cases ek : fa ρ with
 | bad => rw [ek] at h; exact h.elim
 | ex c => exact absurd ek ((pr ρ).2 c)
 | ok p =>
 have hl := hn ρ p ek
 have h2 := (pr ρ).1 p ek
 rw [ek] at h
 refine ha W ρ σ H _ e (post_eq ek ?_)
 intro vs H1 e1 s1 v1
 have h : ((drs p.2 p.1).bind _).post _ _ := h
 obtain ⟨as, k1, h⟩ := abx (Rs.aae h) (ae2 _ _)
 have r := ah5 e1 e.wn v1 k1
 have lv : vs.length = n := v1.length.trans hl
 have fin : ∀ Z : Addr -> Prop, (∀ b, Z b -> W b) -> (∀ z, F as = .ok z -> ¬ (p.1.any isS = true /\ ady z = false) -> (∀ b, W b -> Z b) \/ ady z = true) -> aa3 (nlK K) (aa2 Z H1) vs as -> spP K cl n F vs H1 Q (EX σ) := λZ zw zs rr => by
  refine ⟨Z, as, lv, rr, λb z => e1.wl b (zw b z), by rw [<-hK]; exact e1.tab.ok, ?_⟩
  have h := Rs.aae h
  cases ef : F as with
  | bad => rw [ef] at h; exact h.elim
  | ex c =>
   rw [ef] at h
   intro H' sm
   rw [<-hK] at sm
   obtain ⟨eg, sg⟩ := e1.ami sm
   exact h H' (h2 ▸ eg) (s1.trans sg)
  | ok z =>
   rw [ef] at h
   have h : (if p.1.any isS = true /\ ady z = false then Rs.bad else .ok (.v z.1 z.2, p.2) : Rs (Rv × En)).post _ _ := h
   split at h
   ·exact h.elim
   ·rename_i c
    intro v H' sm vr
    rw [<-hK] at vr sm
    obtain ⟨eg, sg⟩ := e1.ami sm
    refine h v H' eg (s1.trans sg) (VOE.back (H := H1) ?_ s1.dom)
    exact VRt.voe (W0 := W) e1.wn eg.wl (zs z ef c) vr λa xs na qa => e1.asH sm na qa
 by_cases an : p.1.any isS = true
 ·refine fin (λ_ => False) (λ_ z => z.elim) (λz ez c => .inr ?_) ?_
  ·cases fz : ady z with
   | true => rfl
   | false => exact (c ⟨an, fz⟩).elim
  ·rw [<-hK]
   exact r.reps
 ·refine fin W (λ_ z => z) (λz ez c => .inl λ_ z => z) ?_
  rw [<-hK]
  exact ahd e.wn v1 k1 (by simpa using an)
theorem atn {cl : Str -> Addr} {te : TEX} {f : EF} (i : Nat) (h1 : SEX t cl te f) : SX t cl (λD EX σ H => te EX σ H λv H1 => D.nx (σ.set i (some v)) H1) (abM f (gN i)) := λW ρ σ H D EX e h => by
 refine h1 W ρ σ H _ EX e (Rs.aag (Rs.aae h) λp h v H1 e1 s1 v1 => ?_)
 obtain ⟨r, ρ1⟩ := p
 cases r with
 | s i => exact h.elim
 | v T fr => exact h W _ H1 (e1.ah8 (v1.1.rep e.wn)) s1.nxt
theorem EOk.unset {W : Addr -> Prop} {ρ : En} {σ : St} {H : Hp} {i : Nat} (e : EOk t W ρ σ H) : EOk t W (ρ.set i .un) (σ.set i none) H := by
 have mu : ∀ j, Mu (ρ.set i .un) j -> j ≠ i /\ Mu ρ j := λj h => by
  obtain ⟨ts, h | h⟩ := h <;> rcases get_set h with ⟨rfl, z, _⟩ | ⟨ne, h⟩
  ·cases z
  ·exact ⟨ne, ts, .inl h⟩
  ·cases z
  ·exact ⟨ne, ts, .inr h⟩
 have dpo : ∀ j us, (ρ.set i .un)[j]? = some (.dp us) -> j ≠ i /\ ρ[j]? = some (.dp us) := λj us h => by
  rcases get_set h with ⟨rfl, z, _⟩ | ⟨ne, h⟩
  ·cases z
  ·exact ⟨ne, h⟩
 obtain ⟨F, e⟩ := e
 refine ⟨F, by rw [List.length_set, List.length_set]; exact e.len, e.zw, e.z0, e.wl, e.f0, e.n0, λj u h => ?_, λj ts h => ?_, λj ts h => ?_, λj k a h1 h2 q1 q2 => ?_, e.pn, λj a m q => e.pd j a (mu j m).2 (by rw [List.getElem?_set_ne (Ne.symm (mu j m).1)] at q; exact q),
  λj us h => ?_, λj k us ws n h1 h2 => e.dd j k us ws n (dpo j us h1).2 (dpo k ws h2).2, λj k us c h1 m q => e.dm j k us c (dpo j us h1).2 (mu k m).2 (by rw [List.getElem?_set_ne (Ne.symm (mu k m).1)] at q; exact q), λj us h => e.db j us (dpo j us h).2, e.tab⟩
 ·rcases get_set h with ⟨rfl, z, l⟩ | ⟨ne, h⟩
  ·cases z
  ·obtain ⟨w, h1, h2⟩ := e.sh j u h
   exact ⟨w, by rw [List.getElem?_set_ne (Ne.symm ne)]; exact h1, h2⟩
 ·rcases get_set h with ⟨rfl, z, l⟩ | ⟨ne, h⟩
  ·cases z
  ·obtain ⟨a, xs, h1, h2⟩ := e.ow j ts h
   exact ⟨a, xs, by rw [List.getElem?_set_ne (Ne.symm ne)]; exact h1, h2⟩
 ·rcases get_set h with ⟨rfl, z, l⟩ | ⟨ne, h⟩
  ·cases z
  ·obtain ⟨a, xs, h1, h2⟩ := e.rf j ts h
   exact ⟨a, xs, by rw [List.getElem?_set_ne (Ne.symm ne)]; exact h1, h2⟩
 ·obtain ⟨n1, m1⟩ := mu j h1
  obtain ⟨n2, m2⟩ := mu k h2
  rw [List.getElem?_set_ne (Ne.symm n1)] at q1
  rw [List.getElem?_set_ne (Ne.symm n2)] at q2
  exact e.dis j k a m1 m2 q1 q2
 ·obtain ⟨ne, h⟩ := dpo j us h
  obtain ⟨c, ys, h1, d⟩ := e.dp j us h
  exact ⟨c, ys, by rw [List.getElem?_set_ne (Ne.symm ne)]; exact h1, d⟩
noncomputable def Cg (K : Frag) (mg : Str -> Option Value) (x : Str) (k : Addr) : Prop := nsIn K mainGlobals x = some (some (.ref k)) /\ mg x = some (.ref k)
noncomputable def XCl (K : Frag) (cl : Str -> Addr) (cs : List Str) : Prop := ∀ c ∈ cs, c ∈ acf /\ nsIn K mainGlobals c = some (some (.ref (cl c)))
noncomputable def alE (cs : List Str) (j : Nat) (fb fh : SF) : SF := λρ => match fb ρ with
 | .bad => .bad
 | .ok q => .ok q
 | .ex c => if c ∈ cs then (aa0 (fh (ρ.set j (.sh (.exn c))))).bind λq => .ok (q.1, q.2.set j .un) else .bad
theorem ato (hK : t.K = nlK K) {cl : Str -> Addr} {cs : List Str} {cH : Addr} {j : Nat} {tb : TX} {ts : TS} {fb fh : SF} (hX : ahn K) (hC : XCl K cl cs) (hn : nsIn K mainGlobals "HeadError" = some (some (.ref cH))) (hb : SX t cl tb fb)
  (hh : ∀ t' : Tx, t'.K = t.K -> (∀ c, ¬ t'.EX c) -> SS t' ts fh) : SS t (awT K cH j tb ts) (alE cs j fb fh) := λW ρ σ H D e h => by
 show tb D (exK K cH j ts D) σ H
 refine hb W ρ σ H D (exK K cH j ts D) e ?_
 unfold alE at h
 cases ek : fb ρ with
 | bad => rw [ek] at h; exact h.elim
 | ok q => rw [ek] at h; exact h
 | ex c =>
  rw [ek] at h
  dsimp only at h
  split at h
  ·rename_i mc
   obtain ⟨me, nc⟩ := hC c mc
   intro H' e' s'
   refine ⟨cl c, rfl, hX.h cH hn c me (cl c) nc, λea fe => ?_⟩
   have sm := aaV fe (exO ea (cl c))
   have e1 := e'.grow sm
   have nw : ¬ W ea := λw => e'.wn ea w fe
   have e2 : EOk t W (ρ.set j (.sh (.exn c))) (σ.set j (some (.ref ea))) (upd H' ea (exO ea (cl c))) := e1.ah8 (by
    refine .exn (C := cl c) ?_ me (by rw [hK]; exact apZ hX.mc nc)
    rw [aaS nw, aaK])
   refine hh { t with EX := λ_ => False } rfl (λ_ => id) W _ _ _ (goes j D) e2.ex (Rs.aag (adJ (Rs.aae h)) λq h => ?_)
   have ex3 : ∀ {W2 : Addr -> Prop} {ρ2 : En} {σ2 : St} {H2 : Hp}, EOk { t with EX := λ_ => False } W2 ρ2 σ2 H2 -> EOk t W2 ρ2 σ2 H2 := λe => EOk.ex (t := { t with EX := λ_ => False }) (EX := t.EX) e
   have st : Stp W H (upd H' ea (exO ea (cl c))) := s'.trans (Stp.of sm)
   obtain ⟨fl, ρ'⟩ := q
   have h : afu t W H D (fl, ρ'.set j .un) := h
   cases fl with
   | nx => exact λW2 σ2 H2 e3 n3 => h W2 _ H2 (EOk.unset (ex3 e3)) (st.nxt.trans n3)
   | rt T fr => exact λv W2 σ2 H2 e3 r3 => h v W2 _ H2 (EOk.unset (ex3 e3)) (by cases fr <;> exact r3)
   | bk => exact λW2 σ2 H2 e3 n3 => h W2 _ H2 (EOk.unset (ex3 e3)) (st.nxt.trans n3)
   | ct => exact λW2 σ2 H2 e3 n3 => h W2 _ H2 (EOk.unset (ex3 e3)) (st.nxt.trans n3)
  ·exact h.elim
end
section
variable {X : Cx} {e : Expr} {te : TEX} {pos : Pos}
end
end L2
end
section
namespace BH
open PySem L2
noncomputable def afx : SF := (aa6 (ae3 (agP (fuI 1) (abf (eOp gNe (aah 1) (eC (.int 0)))) (asG 0 1 (aad (aah 1) (aad (eOp abd (aah 0) (aah 1)) aaB))))) (abU (eCB (g1 abT) (aad (aah 0) aaB))))
noncomputable def abv : FP := fnP 2 afx
noncomputable def ak1 : SF := (abU (akY (ai6 .int (aah 0)) (auz (ai6 .bool (aah 0)))))
noncomputable def acw : FP := fnP 1 ak1
noncomputable def aeD : SF := (aa6 (sIf (bOr (aee (aez (ai6 .tuple (aah 0)))) (abf (eOp gNe (eCB (g1 aaO) (aad (aah 0) aaB)) (eC (.int 2))))) (abU (eC (.bl false))) acC) (aa6 (abM (aah 0) (gT 2 (abL (gN 1) (abL (gN 2) aeh)))) (aa6 (sIf (bOr (aee (aez (aaM acw (aad (aah 1) aaB)))) (aee (aez (aaM acw (aad (aah 2) aaB))))) (abU (eC (.bl false))) acC) (abU (akY (eOp gGe (aah 2) (eC (.int 1))) (eOp gEq (aaM abv (aad (aah 1) (aad (aah 2) aaB))) (eC (.int 1))))))))
noncomputable def acr : FP := fnP 3 aeD
noncomputable def agT : SF := (abU (akY (aaM acr (aad (aah 0) aaB)) (af7 gLe gLe (eC (.int 0)) (eOp gIx (aah 0) (eC (.int 0))) (eOp gIx (aah 0) (eC (.int 1))))))
noncomputable def ab5 : FP := fnP 1 agT
noncomputable def afm : SF := (aa6 (sIf (bOr (aee (aez (ai6 .list (aah 0)))) (aee (abf (af7 gLe gLe (eC (.int 1)) (eCB (g1 aaO) (aad (aah 0) aaB)) (aah 1))))) (abU (eC (.bl false))) acC) (abU (eCB (g1 abG) (aad (acv [none] (fSq (aah 0)) (gN 0) adl (aaM ab5 (aad (aah 0) aaB))) aaB))))
noncomputable def ab0 : FP := fnP 2 afm
noncomputable def ais : SF := (aa6 (sIf (bOr (aee (aez (ai6 .list (aah 0)))) (aee (abf (af7 gLe gLe (eC (.int 1)) (eCB (g1 aaO) (aad (aah 0) aaB)) (eC (.int 4)))))) (abU (eC (.bl false))) acC) (aa6 (sIf (aee (aez (eCB (g1 abG) (aad (acv [none] (fSq (aah 0)) (gN 0) adl (aaM ab0 (aad (aah 0) (aad (eC (.int 12)) aaB)))) aaB)))) (abU (eC (.bl false))) acC) (abU (eCB (g1 abG) (aad (acv [none, some 0] (fSq (aah 0)) (gN 0) adl (eOp gEq (eCB (g1 aaO) (aad (aah 0) aaB)) (eCB (g1 aaO) (aad (eOp gIx (aah 1) (eC (.int 0))) aaB)))) aaB)))))
noncomputable def adM : FP := fnP 1 ais
noncomputable def agi : SF := (aa6 (abM (eC (.int 1)) (gN 1)) (aa6 (ae3 (agA (fSq (aah 0)) (gT 2 (abL (gN 2) (abL (gN 3) aeh))) (abM (eOp abN (eOp abw (aah 1) (aah 3)) (aaM abv (aad (aah 1) (aad (aah 3) aaB)))) (gN 1)))) (abU (aah 1))))
noncomputable def ab1 : FP := fnP 4 agi
noncomputable def ad5 : SF := (aa6 (abM (aaM ab1 (aad (aah 0) aaB)) (gN 1)) (abU (acv [none, none, some 1] (fSq (aah 0)) (gT 2 (abL (gN 0) (abL (gN 1) aeh))) adl (eOp abw (aah 0) (eOp abN (aah 2) (aah 1))))))
noncomputable def abI : FP := fnP 2 ad5
noncomputable def adv : SF := (aa6 (abM (aaM abI (aad (aah 0) aaB)) (gN 1)) (abU (akx ate [some 1] (aad (eCB (g1 aaO) (aad (aah 1) aaB)) aaB) (rUn asi (rOp gIx (aon 1) (aon 0))))))
noncomputable def abV : FP := fnP 2 adv
noncomputable def ae4 : SF := (abU (akY (aaM acw (aad (aah 0) aaB)) (af7 gLe gLt (eC (.int 0)) (aah 0) (aah 1))))
noncomputable def acy : FP := fnP 2 ae4
noncomputable def aei : SF := (sIf (aee (aez (aaM adM (aad (aah 0) aaB)))) (akl "NoBook" (eC (.str "this is no book"))) acC)
noncomputable def aco : FP := fnP 1 aei
noncomputable def aej : SF := (sIf (aee (aez (aaM acy (aad (aah 1) (aad (eCB (g1 aaO) (aad (aah 0) aaB)) aaB))))) (akl "NoList" (eC (.str "the book has no list of this number"))) acC)
noncomputable def acp : FP := fnP 2 aej
noncomputable def acZ : SF := (aa6 (anV (aaM aco (aad (aah 0) aaB))) (aa6 (anV (aaM acp (aad (aah 0) (aad (aah 1) aaB)))) (abU (aaM abV (aad (eOp gIx (aah 0) (aah 1)) aaB)))))
noncomputable def aaN : FP := fnP 2 acZ
end BH
end
section
namespace K08
open PySem L2 BH
noncomputable def top (i : Nat) : Stmt := PySem.Challenge.pw_bestheads_k08_refused_books_and_lists.main.body.getD i (.Pass ⟨0, 0, 0, 0⟩)
noncomputable abbrev ae5 : Stmt := top 17
noncomputable abbrev acE : Stmt := top 18
noncomputable abbrev adn : Stmt := top 19
noncomputable abbrev acU : Stmt := top 20
noncomputable abbrev abJ : Stmt := top 21
noncomputable abbrev ach : Stmt := top 22
noncomputable abbrev ae6 : Stmt := top 26
noncomputable abbrev ac0 : Stmt := top 27
noncomputable abbrev adN : Stmt := top 28
noncomputable abbrev ae7 : Stmt := top 29
noncomputable abbrev aek : Stmt := top 30
noncomputable abbrev ael : Stmt := top 31
noncomputable abbrev adO : Stmt := top 32
noncomputable abbrev ajd : Stmt := top 34
noncomputable abbrev amH : Stmt := top 35
noncomputable abbrev amI : Stmt := top 36
noncomputable abbrev aho : Stmt := top 37
noncomputable abbrev amJ : Stmt := top 38
noncomputable abbrev aje : Stmt := top 39
noncomputable abbrev akB : Stmt := top 40
noncomputable abbrev ajf : Stmt := top 41
noncomputable abbrev ait : Stmt := top 42
noncomputable abbrev ae8 : Stmt := top 43
noncomputable abbrev aeE : Stmt := top 44
noncomputable abbrev aqB : Stmt := top 45
noncomputable abbrev agU : Stmt := top 46
noncomputable abbrev ajg : Stmt := top 47
noncomputable abbrev ajh : Stmt := top 48
noncomputable abbrev amK : Stmt := top 49
noncomputable abbrev aqC : Stmt := top 50
structure Nm (mg : Str -> Option Value) : Prop where
 aiu : mg "ValueError" = none
 atp : mg "abs" = none
 aov : mg "all" = none
 apj : mg "bool" = none
 atq : mg "int" = none
 aaC : mg "isinstance" = none
 acJ : mg "len" = none
 agj : mg "list" = none
 avH : mg "max" = none
 avI : mg "min" = none
 ae9 : mg "range" = none
 aow : mg "sorted" = none
 atr : mg "str" = none
 ahp : mg "tuple" = none
noncomputable def aji : SF := (aa6 (abM (eOp aaW (eOp abw (eOp abd (aah 0) (eC (.int 2147483629))) (eC (.int 69621))) (eOp abw (eOp abw (eC (.int 40503)) (aah 1)) (aah 1))) (gN 2)) (aa6 (abM (eOp abd (eOp aaW (eOp aaW (aah 2) (eOp abw (eC (.int 16807)) (aah 1))) (eC (.int 1048583))) (eC (.int 2147483647))) (gN 2)) (aa6 (abM (eOp abd (eOp abw (aah 2) (aah 2)) (eC (.int 2147483629))) (gN 2)) (abU (eOp abd (eOp abw (aah 2) (eOp aaW (aah 2) (eC (.int 2)))) (eC (.int 2147483587)))))))
noncomputable def ado : FP := fnP 3 aji
noncomputable def amL : SF := (aa6 (abM (eC (.int 0)) (gN 2)) (aa6 (sIf (abf (eOp gLt (aah 1) (eCB (g1 aaO) (aad (aah 0) aaB)))) (abM (eOp gIx (aah 0) (aah 1)) (gN 2)) acC) (aa6 (sIf (abf (eOp gGe (aah 2) (eOp abF (eC (.int 10)) (eC (.int 18))))) (abU (aeW (aad (eOp aa5 (aah 2) (eOp abF (eC (.int 10)) (eC (.int 18)))) aaB))) acC) (aa6 (abM (eC (.int 0)) (gN 3)) (aa6 (ae3 (agA (agE (aad (eC (.int 20)) aaB)) (gN 4) (abM (eOp aaW (eOp abw (aah 3) (eC (.int 2147483587))) (aaM ado (aad (aah 2) (aad (eOp aaW (eOp abw (eC (.int 31)) (aah 1)) (aah 4)) aaB)))) (gN 3)))) (abU (aeW (aad (aah 3) aaB))))))))
noncomputable def afn : FP := fnP 5 amL
noncomputable def amM : SF := (aa6 (abM (eOp abd (eOp gIx (aah 0) (eC (.int 0))) (aah 1)) (gN 2)) (aa6 (amg 0 (eC (.int 0)) (eOp abN (eOp gIx (aah 0) (eC (.int 0))) (aah 1))) (abU (aah 2))))
noncomputable def abg : FR := fnR 3 0 amM
noncomputable def aox : SF := (aa6 (ae3 (agP (fuI 1) (abf (eOp gNe (aah 1) (eC (.int 0)))) (asG 0 1 (aad (aah 1) (aad (eOp abd (aah 0) (aah 1)) aaB))))) (abU (eCB (g1 abT) (aad (aah 0) aaB))))
noncomputable def adp : FP := fnP 2 aox
noncomputable def amN : SF := (aa6 (abM (aaM adp (aad (aah 0) (aad (aah 1) aaB))) (gN 2)) (aa6 (sIf (abf (eOp gLt (aah 1) (eC (.int 0)))) (abM (eOp aa5 (eC (.int 0)) (aah 2)) (gN 2)) acC) (abU (arf (aad (eOp abN (aah 0) (aah 2)) (aad (eOp abN (aah 1) (aah 2)) aaB))))))
noncomputable def aeF : FP := fnP 3 amN
noncomputable def aqD : SF := (abU (akY (ai6 .int (aah 0)) (auz (ai6 .bool (aah 0)))))
noncomputable def acF : FP := fnP 1 aqD
noncomputable def atu : SF := (aa6 (sIf (bOr (aee (aez (air "HeadError" (aah 0)))) (aee (aez (avG (aah 0))))) (abU (eC (.bl false))) acC) (aa6 (abM (aeW (aad (air "NoBottom" (aah 0)) (aad (air "NoBook" (aah 0)) (aad (air "NoList" (aah 0)) aaB)))) (gN 2)) (aa6 (abM (eOp aaW (aah 2) (aeW (aad (air "NoRule" (aah 0)) (aad (air "NoCount" (aah 0)) (aad (air "NoLooks" (aah 0)) aaB))))) (gN 2)) (aa6 (abM (eOp aaW (aah 2) (aeW (aad (air "NoThings" (aah 0)) (aad (air "NotSure" (aah 0)) (aad (air "NoSlack" (aah 0)) aaB))))) (gN 2)) (aa6 (abM (eOp aaW (aah 2) (aeW (aad (air "NoThing" (aah 0)) (aad (air "NoWorth" (aah 0)) (aad (air "TooMany" (aah 0)) aaB))))) (gN 2)) (aa6 (abM (eOp aaW (aah 2) (aeW (aad (air "NoText" (aah 0)) (aad (air "NoLine" (aah 0)) aaB)))) (gN 2)) (aa6 (abM (eCL [.str "NoBottom", .str "NoBook", .str "NoList", .str "NoRule", .str "NoCount", .str "NoLooks", .str "NoThings", .str "NotSure", .str "NoSlack"]) (gN 3)) (aa6 (abM (eOp aaW (aah 3) (eCL [.str "NoThing", .str "NoWorth", .str "TooMany", .str "NoText", .str "NoLine"])) (gN 3)) (abU (eOp gEq (aah 2) (acv [none, some 1] (fSq (aah 3)) (gN 0) adl (eOp gEq (aah 0) (aah 1)))))))))))))
noncomputable def afo : FP := fnP 4 atu
noncomputable def ajj : SF := (aa6 (abM (aaQ 0 abg (aad (aah 0) (aad (eC (.int 8)) aaB))) (gN 1)) (aa6 (sIf (abf (eOp gLt (aah 1) (eC (.int 2)))) (abU (eOp gIx (eCL [.tup [.int 0, .int 1], .tup [.int 1, .int 1]]) (aah 1))) acC) (aa6 (abM (eOp gIx (eCL [.int 2, .int 3, .int 4, .int 6, .int 12, .int 0]) (eOp aa5 (aah 1) (eC (.int 2)))) (gN 2)) (aa6 (sIf (abf (eOp gEq (aah 2) (eC (.int 0)))) (abM (eOp aaW (eC (.int 1)) (aaQ 0 abg (aad (aah 0) (aad (eOp aa5 (eOp abF (eC (.int 10)) (eC (.int 12))) (eC (.int 1))) aaB)))) (gN 2)) acC) (abU (aaM aeF (aad (aaQ 0 abg (aad (aah 0) (aad (eOp aaW (aah 2) (eC (.int 1))) aaB))) (aad (aah 2) aaB))))))))
noncomputable def ab2 : FR := fnR 3 0 ajj
noncomputable def atv : SF := (aa6 (abM (eOp aaW (eC (.int 1)) (aaQ 0 abg (aad (aah 0) (aad (eC (.int 4)) aaB)))) (gN 1)) (aa6 (abM (eOp aaW (eC (.int 1)) (aaQ 0 abg (aad (aah 0) (aad (eC (.int 12)) aaB)))) (gN 2)) (abU (acv [none, some 2, some 0] (agE (aad (aah 1) aaB)) (gN 0) adl (acv [none, some 2] (agE (aad (aah 1) aaB)) (gN 0) adl (aaQ 0 ab2 (aad (aah 1) aaB)))))))
noncomputable def agV : FR := fnR 3 0 atv
noncomputable def agW : SF := (aa6 (sIf (bOr (aee (aez (ai6 .tuple (aah 0)))) (abf (eOp gNe (eCB (g1 aaO) (aad (aah 0) aaB)) (eC (.int 2))))) (abU (eC (.bl false))) acC) (aa6 (sIf (bOr (aee (aez (aaM acF (aad (eOp gIx (aah 0) (eC (.int 0))) aaB)))) (bOr (aee (aez (aaM acF (aad (eOp gIx (aah 0) (eC (.int 1))) aaB)))) (abf (eOp gLt (eOp gIx (aah 0) (eC (.int 1))) (eC (.int 1)))))) (abU (eC (.bl false))) acC) (abU (akY (eOp gLe (eC (.int 0)) (eOp gIx (aah 0) (eC (.int 0)))) (akY (eOp gLe (eOp gIx (aah 0) (eC (.int 0))) (eOp gIx (aah 0) (eC (.int 1)))) (eOp gEq (aaM adp (aad (eOp gIx (aah 0) (eC (.int 0))) (aad (eOp gIx (aah 0) (eC (.int 1))) aaB))) (eC (.int 1))))))))
noncomputable def ab6 : FP := fnP 1 agW
noncomputable def aiv : SF := (aa6 (sIf (bOr (aee (aez (ai6 .list (aah 0)))) (abf (eOp (gIn not) (eCB (g1 aaO) (aad (aah 0) aaB)) (eCL [.int 1, .int 2, .int 3, .int 4])))) (abU (eC (.bl false))) acC) (aa6 (ae3 (agA (fSq (aah 0)) (gN 1) (aa6 (sIf (bOr (aee (aez (ai6 .list (aah 1)))) (bOr (abf (eOp gLt (eCB (g1 aaO) (aad (aah 1) aaB)) (eC (.int 1)))) (bOr (abf (eOp gGt (eCB (g1 aaO) (aad (aah 1) aaB)) (eC (.int 12)))) (abf (eOp gNe (eCB (g1 aaO) (aad (aah 1) aaB)) (eCB (g1 aaO) (aad (eOp gIx (aah 0) (eC (.int 0))) aaB))))))) (abU (eC (.bl false))) acC) (sIf (aee (aez (eCB (g1 abG) (aad (acv [none] (fSq (aah 1)) (gN 0) adl (aaM ab6 (aad (aah 0) aaB))) aaB)))) (abU (eC (.bl false))) acC)))) (abU (eC (.bl true)))))
noncomputable def adf : FP := fnP 2 aiv
noncomputable def avJ : SF := (aa6 (abM (eCL [.tup [.int 3, .int 2], .tup [.int (-1), .int 2], .tup [.int 2, .int 4], .tup [.int 0, .int 2], .tup [.int 1, .int 0], .tup [.int 0, .int 0], .tup [.int 1, .int (-1)], .tup [.bl true, .int 1], .tup [.int 1, .bl true], .tup [.int 0], .tup [.int 1, .int 2, .int 3], .tup []]) (gN 1)) (aa6 (abM (eOp aaW (aah 1) (eCL [.lst [.int 1, .int 2], .int 1, .int 0, .non, .str "1/2", .bl true, .tup [.tup [.int 0, .int 1], .tup [.int 1, .int 1]], .tup [.int 1000000000000, .int 1000000000000], .tup [.str "0", .int 1], .tup [.non, .int 1], .lst []])) (gN 1)) (abU (eOp gIx (aah 1) (aaQ 0 abg (aad (aah 0) (aad (eC (.int 23)) aaB)))))))
noncomputable def amO : FR := fnR 2 0 avJ
noncomputable def apk : SF := (aa6 (agf 2 [none] (fSq (aah 0)) (gN 0) adl (eCB (g1 aaD) (aad (aah 0) aaB))) (aa6 (abM (aaQ 0 abg (aad (aah 1) (aad (eC (.int 12)) aaB))) (gN 3)) (aa6 (abM (aaQ 0 abg (aad (aah 1) (aad (eCB (g1 aaO) (aad (aah 0) aaB)) aaB))) (gN 4)) (aa6 (abM (aaQ 0 abg (aad (aah 1) (aad (eCB (g1 aaO) (aad (eOp gIx (aah 0) (eC (.int 0))) aaB)) aaB))) (gN 5)) (aa6 (sIf (abf (eOp gEq (aah 3) (eC (.int 0)))) (alD 2 (abU (eOp gIx (aeW (aad (aeW aaB) (aad (eCB (g1 aaq) (aad (aah 2) aaB)) (aad (eOp gIx (aah 2) (eC (.int 0))) (aad (eC .non) (aad (eC (.str "1 1/2")) (aad (eC (.bl true)) (aad (eC (.int 7)) (aad (eCL [.lst []]) (aad (eCL [.lst [], .lst []]) aaB)))))))))) (aaQ 0 abg (aad (aah 1) (aad (eC (.int 9)) aaB)))))) acC) (aa6 (sIf (abf (eOp gEq (aah 3) (eC (.int 1)))) (alD 2 (abU (eOp aaW (aah 2) (acv [none, some 2] (agE (aad (eOp aaW (eC (.int 1)) (aaQ 0 abg (aad (aah 1) (aad (eC (.int 4)) aaB)))) aaB)) (gN 0) adl (eCB (g1 aaD) (aad (eOp gIx (aah 1) (eC (.int 0))) aaB)))))) acC) (aa6 (sIf (abf (eOp gEq (aah 3) (eC (.int 2)))) (alD 2 (auB 2 (abU (acv [none, some 5] (fSq (aah 2)) (gN 0) adl (eSl (eOp abw (aah 0) (eC (.int 13))) oNo (akZ (eOp aaW (eC (.int 12)) (eOp abd (aah 1) (eC (.int 2)))))))))) acC) (aa6 (sIf (abf (eOp gEq (aah 3) (eC (.int 3)))) (ark 2 (aik 4) afl (aik 5)) acC) (aa6 (sIf (abf (eOp gEq (aah 3) (eC (.int 4)))) (ark 2 (aik 4) ao7 (auE 2 (aik 4) (aik 5))) acC) (aa6 (sIf (abf (eOp gEq (aah 3) (eC (.int 5)))) (alD 2 (amg 2 (aah 4) (eOp gIx (aeW (aad (eCB (g1 aaq) (aad (eOp gIx (aah 2) (aah 4)) aaB)) (aad (eC .non) (aad (eOp gIx (eOp gIx (aah 2) (aah 4)) (eC (.int 0))) (aad (aeW (aad (eOp gIx (aah 2) (aah 4)) aaB)) (aad (eC (.str "1")) aaB)))))) (aaQ 0 abg (aad (aah 1) (aad (eC (.int 5)) aaB)))))) acC) (aa6 (sIf (auy (abf (eOp gGt (aah 3) (eC (.int 5)))) (abf (eOp gLt (aah 3) (eC (.int 11))))) (aob 2 (aik 4) (aik 5) (aaQ 0 amO (aad (aah 1) aaB))) acC) (alD 2 (abU (aah 2))))))))))))))
noncomputable def ad9 : FR := fnR 6 1 apk
noncomputable def ajk : SF := (aa6 (abM (aaQ 0 abg (aad (aah 1) (aad (eC (.int 14)) aaB))) (gN 2)) (aa6 (sIf (abf (eOp gLt (aah 2) (eC (.int 3)))) (abU (aaQ 0 abg (aad (aah 1) (aad (aah 0) aaB)))) acC) (aa6 (abM (aaQ 0 abg (aad (aah 1) (aad (eOp abF (eC (.int 10)) (eC (.int 59))) aaB))) (gN 3)) (aa6 (abM (aeW (aad (eOp aa5 (eC (.int 0)) (eC (.int 1))) (aad (aah 0) (aad (eOp aaW (aah 0) (aah 3)) (aad (eOp aa5 (eOp aa5 (eC (.int 0)) (eC (.int 1))) (aah 3)) (aad (eC (.bl true)) (aad (eC (.bl false)) (aad (eC .non) (aad (eC (.str "0")) (aad (eC (.tup [.int 0])) (aad (eCL [.int 0]) (aad (eC (.tup [.int 0, .int 1])) aaB)))))))))))) (gN 4)) (abU (eOp gIx (aah 4) (eOp aa5 (aah 2) (eC (.int 3)))))))))
noncomputable def adq : FR := fnR 5 1 ajk
noncomputable def aqE : SF := (aa6 (abM (eC .non) (gN 2)) (aa6 (abM (eC .non) (gN 3)) (aa6 (alE ["NoBook", "NoList"] 4 (abM (aaM aaN (aad (aah 0) (aad (aah 1) aaB))) (gN 2)) (abM (aah 4) (gN 3))) (abU (arf (aad (aah 2) (aad (aah 3) aaB)))))))
noncomputable def aem : FP := fnP 5 aqE
noncomputable def apl : SF := (aa6 (abM (eCB (g1 anq) (aad (aeW (aad (aah 0) (aad (aah 1) aaB))) aaB)) (gN 2)) (aa6 (abM (aaM aem (aad (aah 0) (aad (aah 1) aaB))) (gT 2 (abL (gN 3) (abL (gN 4) aeh)))) (aa6 (sIf (abf (eOp gNe (eCB (g1 anq) (aad (aeW (aad (aah 0) (aad (aah 1) aaB))) aaB)) (aah 2))) (abU (eC (.bl false))) acC) (aa6 (sIf (aee (aez (aaM adf (aad (aah 0) aaB)))) (abU (aaM afo (aad (aah 4) (aad (eC (.str "NoBook")) aaB)))) acC) (aa6 (sIf (bOr (aee (aez (aaM acF (aad (aah 1) aaB)))) (bOr (abf (eOp gLt (aah 1) (eC (.int 0)))) (abf (eOp gGe (aah 1) (eCB (g1 aaO) (aad (aah 0) aaB)))))) (abU (aaM afo (aad (aah 4) (aad (eC (.str "NoList")) aaB)))) acC) (abU (akY (eOp (gIs id) (aah 4) (eC .non)) (akY (ai6 .list (aah 3)) (eOp gEq (eCB (g1 aaO) (aad (aah 3) aaB)) (eCB (g1 aaO) (aad (eOp gIx (aah 0) (eC (.int 0))) aaB)))))))))))
noncomputable def aeG : FP := fnP 5 apl
noncomputable def atw : SF := (aa6 (ae3 (agA (agE (aad (eCB (g2 abP) (aad (eCB (g2 abO) (aad (eCB (g1 aaO) (aad (aah 0) aaB)) (aad (eC (.int 30)) aaB))) (aad (eC (.int 1)) aaB))) aaB)) (gN 1) (aa6 (auA 2 (aaM afn (aad (aah 0) (aad (aah 1) aaB)))) (aa6 (abM (aaQ 0 agV (aad (aah 2) aaB)) (gN 3)) (aa6 (abM (aaM aaN (aad (aah 3) (aad (eOp aa5 (eCB (g1 aaO) (aad (aah 3) aaB)) (eC (.int 1))) aaB))) (gN 4)) (aa6 (abM (aaQ 1 adq (aad (eCB (g1 aaO) (aad (aah 3) aaB)) (aad (aah 2) aaB))) (gN 5)) (aa6 (agA (fSq (aeW (aad (aah 3) (aad (aaQ 1 ad9 (aad (aah 3) (aad (aah 2) aaB))) (aad (aaQ 1 ad9 (aad (aah 3) (aad (aah 2) aaB))) aaB))))) (gN 6) (sIf (bOr (aee (aez (aaM aeG (aad (aah 6) (aad (aah 5) aaB))))) (aee (aez (aaM aeG (aad (aah 6) (aad (aaQ 1 adq (aad (eCB (g1 aaO) (aad (aah 3) aaB)) (aad (aah 2) aaB))) aaB)))))) (abU (eC (.bl false))) acC)) (sIf (abf (eOp gNe (aaM aaN (aad (aah 3) (aad (eOp aa5 (eCB (g1 aaO) (aad (aah 3) aaB)) (eC (.int 1))) aaB))) (aah 4))) (abU (eC (.bl false))) acC)))))))) (abU (eC (.bl true))))
noncomputable def ak2 : FP := fnP 7 atw
end K08
end
section
namespace K08
open PySem L2 BH
section
variable {P : Program} {w : World} {K : PySem.W.Frag} {mg : Str -> Option Value} {base : Heap} {cl : Str -> Addr}
theorem aqF (a : At K mg "_law_asked" ajh) (M : Nm mg) (XT : ahn K) (XC : XCl K cl (["NoBook", "NoList"] : List Str)) {acV : Addr} (ab3 : Cg K mg "HeadError" acV) (ac1 : DfX P w K mg base 7 "read_order" (["book", "place"] : List Str) (spP K cl 2 aaN)) : DfX P w K mg base 8 "_law_asked" (["_law_book_here", "_law_which_here"] : List Str) (spP K cl 2 aem) := by
 have S : aaR (["_law_book_here", "_law_which_here", "_law_found", "_law_caught", "e"] : List Str) (["_law_book_here", "_law_which_here"] : List Str) (aan ajh) := ⟨rfl, rfl, rfl, by decide +kernel, rfl, by decide +kernel, by decide +kernel⟩
 exact a.dfP S (cl := cl) (by decide) (λ_ _ _ _ _ _ us hl => match us, hl with | [_, _], _ => by kernel_rfl) (λf cdv A outer s H E hr => ⟨_, (aak (psL 2 S.nd afS) (aak (psL 3 S.nd afS) (aak (arZ (j := 4) rfl S.nd rfl rfl (apT (arY (i := 2) S.nd rfl (Or.inl rfl) (ama (ac1.mono (by decide)) hr (paK (pvL 0) (paK (pvL 1) aal))))) ab3.2 (λe => (aaz (psL 3 S.nd (pvL 4))))) (aaz (aaT (alS (paK (pvL 2) (paK (pvL 3) aal)))))))), λt hK hx => (aaF (aa4 agN (aaA 2) acn) (aaF (aa4 agN (aaA 3) acn) (aaF (ato hK XT XC ab3.1 (atn 2 (aou hK (amG (aph 0) (amG (aph 1) atl)) (aam (aam aaP)) (aac (aaf 0) (aac (aaf 1) aap)))) (λt1 h1 k1 => (aa4 (aaf 4) (aaA 3) acn))) (aaU (ao2 (aac (aaf 2) (aac (aaf 3) aap)))))))⟩)
theorem atx (a : At K mg "_law_bent" agU) (M : Nm mg) (acs : DfX P w K mg base 1 "_law_take" (["_law_pile_here", "_law_size"] : List Str) (spR K 2 0 abg)) (avK : DfX P w K mg base 2 "_law_odd" (["_law_pile_here"] : List Str) (spR K 1 0 amO)) : DfX P w K mg base 3 "_law_bent" (["_law_book_here", "_law_pile_here"] : List Str) (spR K 2 1 ad9) := by
 have S : aaR (["_law_book_here", "_law_pile_here", "_law_found", "_law_way", "_law_at", "_law_thing"] : List Str) (["_law_book_here", "_law_pile_here"] : List Str) (aan agU) := ⟨rfl, rfl, rfl, by decide +kernel, rfl, by decide +kernel, by decide +kernel⟩
 exact a.dfR 1 S (cl := λ_ => 0) (by decide) (λ_ _ _ _ _ _ us hl => match us, hl with | [_, _], _ => by kernel_rfl) (λf cdv A outer s H E hr => ⟨_, (aak (alL (i := 2) S.nd rfl (Or.inr rfl) (acO (sc := aan agU) (No := (["_law_book_here", "_law_pile_here", "_law_found", "_law_way", "_law_at", "_law_thing"] : List Str)) (N := (["_law_worths"] : List Str)) (src := [none]) (g := (ac3 0)) rfl rfl ⟨by rfl, by decide +kernel, by decide +kernel, by decide +kernel, by rfl, by decide +kernel⟩ rfl (adG (pvL 0)) (λC s H ex => (pgL 0 (show List.Nodup (["_law_worths"] : List Str) by decide +kernel))) (λC s H ex => (arj afi M.agj (paK (pvL 0) aal))))) (aak (psL 3 S.nd (pcF (E := E) (acs.mono (by decide)) hr aaE (paK (pvL 1) (paK aas aal)))) (aak (psL 4 S.nd (pcF (E := E) (acs.mono (by decide)) hr aaE (paK (pvL 1) (paK (pcB aaX M.acJ (paK (pvL 0) aal)) aal)))) (aak (psC 5 S.nd rfl (pcF (E := E) (acs.mono (by decide)) hr aaE (paK (pvL 1) (paK (pcB aaX M.acJ (paK (abY abr (pvL 0) aas (λ_ _ => rfl)) aal)) aal)))) (aak (aci (abn (ada hr.units) (pvL 3) aas (abq _)) (aaz (aaT (abY abr (acH (paK (acH aal) (paK (arj aev M.ahp (paK (pvC 2) aal)) (paK (abY abr (pvC 2) aas (λ_ _ => rfl)) (paK afS (paK afh (paK ac8 (paK aas (paK (agG (G := nlK K) (Ts := [.lst []]) (by kernel_rfl)) (paK (agG (G := nlK K) (Ts := [.lst [], .lst []]) (by kernel_rfl)) aal)))))))))) (pcF (E := E) (acs.mono (by decide)) hr aaE (paK (pvL 1) (paK aas aal))) (λ_ _ => rfl)))) aa7) (aak (aci (abn (ada hr.units) (pvL 3) aas (abq _)) (aaz (aaT (abb abK (pvC 2) (acO (sc := aan agU) (No := (["_law_book_here", "_law_pile_here", "_law_found", "_law_way", "_law_at", "_law_thing"] : List Str)) (N := (["_law_k", "_law_found"] : List Str)) (src := [none, some 2]) (g := (ac3 0)) rfl rfl ⟨by rfl, by decide +kernel, by decide +kernel, by decide +kernel, by rfl, by decide +kernel⟩ rfl (piR M.ae9 (paK (abb abK aas (pcF (E := E) (acs.mono (by decide)) hr aaE (paK (pvL 1) (paK aas aal)))) aal)) (λC s H ex => (pgL 0 (show List.Nodup (["_law_k", "_law_found"] : List Str) by decide +kernel))) (λC s H ex => (arj afi M.agj (paK (abY abr (pvC 1) aas (λ_ _ => rfl)) aal))))))) aa7) (aak (aci (abn (ada hr.units) (pvL 3) aas (abq _)) (aaz (aaT (acO (sc := aan agU) (No := (["_law_book_here", "_law_pile_here", "_law_found", "_law_way", "_law_at", "_law_thing"] : List Str)) (N := (["_law_worths", "_law_thing"] : List Str)) (src := [none, some 5]) (g := (ac3 0)) rfl rfl ⟨by rfl, by decide +kernel, by decide +kernel, by decide +kernel, by rfl, by decide +kernel⟩ rfl (adG (pvC 2)) (λC s H ex => (pgL 0 (show List.Nodup (["_law_worths", "_law_thing"] : List Str) by decide +kernel))) (λC s H ex => (anD axB (abb acR (pvL 0) aas) apG (apH (abb abK aas (abb adC (pvC 1) aas)))))))) aa7) (aak (aci (abn (ada hr.units) (pvL 3) aas (abq _)) (aaz (psE (arU PySem.F.plainAttrs_list PySem.F.slot_list_pop PySem.F.type_list_pop anF (abY abr (pvC 2) (pvL 4) (λ_ _ => rfl)) (acL (pvC 5) aal)))) aa7) (aak (aci (abn (ada hr.units) (pvL 3) aas (abq _)) (aaz (psE (arU PySem.F.plainAttrs_list PySem.F.slot_list_append PySem.F.type_list_append ahW (abY abr (pvC 2) (pvL 4) (λ_ _ => rfl)) (acL (abY abr (abY abr (pvC 2) (pvL 4) (λ_ _ => rfl)) (pvC 5) (λ_ _ => rfl)) aal)))) aa7) (aak (aci (abn (ada hr.units) (pvL 3) aas (abq _)) (aaz (ahK (abY abr (acH (paK (arj aev M.ahp (paK (abY abr (pvC 2) (pvL 4) (λ_ _ => rfl)) aal)) (paK afS (paK (abY abr (abY abr (pvC 2) (pvL 4) (λ_ _ => rfl)) aas (λ_ _ => rfl)) (paK (acH (paK (abY abr (pvC 2) (pvL 4) (λ_ _ => rfl)) aal)) (paK afh aal)))))) (pcF (E := E) (acs.mono (by decide)) hr aaE (paK (pvL 1) (paK aas aal))) (λ_ _ => rfl)) (alK (pvC 2) (pvL 4) set_list))) aa7) (aak (aci (PW.pt (arw (abn arF (pvL 3) aas (abq _)) (apw (abn (aey hr.units) (pvL 3) aas (abq _))))) (aaz (ahK (pcF (E := E) (avK.mono (by decide)) hr aaE (paK (pvL 1) aal)) (alK (abY abr (pvC 2) (pvL 4) (λ_ _ => rfl)) (pvC 5) set_list))) aa7) (aaz (aaT (pvC 2)))))))))))))), λt hK hx => (aaF (aod 2 (adH hK (aaf 0)) (adK (by decide)) (adL (js := [0]) (by decide)) acn (λt1 h1 k1 => (aaA 0)) (λt1 h1 k1 => (apb (h1.trans hK) (aac (aaf 0) aap)))) (aaF (aa4 (abB hK (aam (aam aaP)) (aac (aaf 1) (aac (aat _) aap))) (aaA 3) acn) (aaF (aa4 (abB hK (aam (aam aaP)) (aac (aaf 1) (aac (x_len hK (aac (aaf 0) aap)) aap))) (aaA 4) acn) (aaF (aa4 (abB hK (aam (aam aaP)) (aac (aaf 1) (aac (x_len hK (aac (aep hK (aaf 0) (aat _)) aap)) aap))) (aaA 5) acn) (aaF (acj (aa8 (x_eq hK (aaf 3) (aat _))) (ail 2 (aaU (aep hK (acS (aac (acS aap) (aac (amn hK (aac (aaf 2) aap)) (aac (aep hK (aaf 2) (aat _)) (aac agN (aac (af3 _) (aac (adk _) (aac (aat _) (aac (agH hK) (aac (agH hK) aap)))))))))) (abB hK (aam (aam aaP)) (aac (aaf 1) (aac (aat _) aap)))))) aby) (aaF (acj (aa8 (x_eq hK (aaf 3) (aat _))) (ail 2 (aaU (adb hK (aaf 2) (ac7 (aia (aac (adb hK (aat _) (abB hK (aam (aam aaP)) (aac (aaf 1) (aac (aat _) aap)))) aap)) (adK (by decide)) (adL (js := [0]) (by decide)) acn (λt2 h2 k2 => (aaA 0)) (λt2 h2 k2 => (apb (h2.trans hK) (aac (aep (h2.trans hK) (aaf 1) (aat _)) aap))))))) aby) (aaF (acj (aa8 (x_eq hK (aaf 3) (aat _))) (ail 2 (asz 2 (aaU (ac7 (adH hK (aaf 2)) (adK (by decide)) (adL (js := [0]) (by decide)) acn (λt3 h3 k3 => (aaA 0)) (λt3 h3 k3 => (avf (h3.trans hK) (aga (h3.trans hK) (aaf 0) (aat _)) ave (ap6 (adb (h3.trans hK) (aat _) (aii (h3.trans hK) (aaf 1) (aat _)))))))))) aby) (aaF (acj (aa8 (x_eq hK (aaf 3) (aat _))) (apd hK 2 as3 aqk (agc 4) (agc 5)) aby) (aaF (acj (aa8 (x_eq hK (aaf 3) (aat _))) (apd hK 2 asF aqb (agc 4) (as5 hK 2 (agc 4) (agc 5))) aby) (aaF (acj (aa8 (x_eq hK (aaf 3) (aat _))) (ail 2 (amh 2 (aep hK (acS (aac (amn hK (aac (aep hK (aaf 2) (aaf 4)) aap)) (aac agN (aac (aep hK (aep hK (aaf 2) (aaf 4)) (aat _)) (aac (acS (aac (aep hK (aaf 2) (aaf 4)) aap)) (aac (af3 _) aap)))))) (abB hK (aam (aam aaP)) (aac (aaf 1) (aac (aat _) aap)))) (aaf 4))) aby) (aaF (acj (aso (aa8 (aw0 hK (aaf 3) (aat _))) (aa8 (x_lt hK (aaf 3) (aat _)))) (aqn hK 2 (abB hK (aam aaP) (aac (aaf 1) aap)) (agc 4) (agc 5)) aby) (ail 2 (aaU (aaf 2))))))))))))))⟩)
theorem aty (a : At K mg "_law_book" ait) (M : Nm mg) (acs : DfX P w K mg base 1 "_law_take" (["_law_pile_here", "_law_size"] : List Str) (spR K 2 0 abg)) (aqG : DfX P w K mg base 3 "_law_worth" (["_law_pile_here"] : List Str) (spR K 1 0 ab2)) : DfX P w K mg base 4 "_law_book" (["_law_pile_here"] : List Str) (spR K 1 0 agV) := by
 have S : aaR (["_law_pile_here", "_law_lists", "_law_many"] : List Str) (["_law_pile_here"] : List Str) (aan ait) := ⟨rfl, rfl, rfl, by decide +kernel, rfl, by decide +kernel, by decide +kernel⟩
 exact a.dfR 0 S (cl := λ_ => 0) (by decide) (λ_ _ _ _ _ _ us hl => match us, hl with | [_], _ => by kernel_rfl) (λf cdv A outer s H E hr => ⟨_, (aak (psL 1 S.nd (abb abK aas (pcF (E := E) (acs.mono (by decide)) hr aaE (paK (pvC 0) (paK aas aal))))) (aak (psC 2 S.nd rfl (abb abK aas (pcF (E := E) (acs.mono (by decide)) hr aaE (paK (pvC 0) (paK aas aal))))) (aaz (aaT (acO (sc := aan ait) (No := (["_law_pile_here", "_law_lists", "_law_many"] : List Str)) (N := (["_law_j", "_law_many", "_law_pile_here"] : List Str)) (src := [none, some 2, some 0]) (g := (ac3 0)) rfl rfl ⟨by rfl, by decide +kernel, by decide +kernel, by decide +kernel, by rfl, by decide +kernel⟩ rfl (piR M.ae9 (paK (pvL 1) aal)) (λC s H ex => (pgL 0 (show List.Nodup (["_law_j", "_law_many", "_law_pile_here"] : List Str) by decide +kernel))) (λC s H ex => (acO (sc := anG _ (aan ait)) (No := (["_law_j", "_law_many", "_law_pile_here"] : List Str)) (N := (["_law_k", "_law_pile_here"] : List Str)) (src := [none, some 2]) (g := (ac3 0)) rfl rfl ⟨by rfl, by decide +kernel, by decide +kernel, by decide +kernel, by rfl, by decide +kernel⟩ rfl (piR M.ae9 (paK (pvC 1) aal)) (λC s H ex => (pgL 0 (show List.Nodup (["_law_k", "_law_pile_here"] : List Str) by decide +kernel))) (λC s H ex => (pcF (E := E0) (aqG.mono (by decide)) hr ad4 (paK (pvC 1) aal)))))))))), λt hK hx => (aaF (aa4 (adb hK (aat _) (abB hK (aam (aam aaP)) (aac (aaf 0) (aac (aat _) aap)))) (aaA 1) acn) (aaF (aa4 (adb hK (aat _) (abB hK (aam (aam aaP)) (aac (aaf 0) (aac (aat _) aap)))) (aaA 2) acn) (aaU (ac7 (aia (aac (aaf 1) aap)) (adK (by decide)) (adL (js := [0]) (by decide)) acn (λt1 h1 k1 => (aaA 0)) (λt1 h1 k1 => (ac7 (aia (aac (aaf 1) aap)) (adK (by decide)) (adL (js := [0]) (by decide)) acn (λt2 h2 k2 => (aaA 0)) (λt2 h2 k2 => (abB (h2.trans (h1.trans hK)) (aam aaP) (aac (aaf 1) aap)))))))))⟩)
theorem atz (a : At K mg "_law_frac" amJ) (M : Nm mg) (ahq : DfX P w K mg base 1 "_law_shared" (["_law_one", "_law_other"] : List Str) (spP K cl 2 adp)) : DfX P w K mg base 2 "_law_frac" (["_law_top", "_law_bottom"] : List Str) (spP K cl 2 aeF) := by
 have S : aaR (["_law_top", "_law_bottom", "_law_by"] : List Str) (["_law_top", "_law_bottom"] : List Str) (aan amJ) := ⟨rfl, rfl, rfl, by decide +kernel, rfl, by decide +kernel, by decide +kernel⟩
 exact a.dfP S (cl := cl) (by decide) (λ_ _ _ _ _ _ us hl => match us, hl with | [_, _], _ => by kernel_rfl) (λf cdv A outer s H E hr => ⟨_, (aak (psL 2 S.nd (pcF (E := E) (ahq.mono (by decide)) hr aaE (paK (pvL 0) (paK (pvL 1) aal)))) (aak (aci (abn (aey hr.units) (pvL 1) aas (abq _)) (aaz (psL 2 S.nd (abb adB aas (pvL 2)))) aa7) (aaz (aaT (alS (paK (abb aex (pvL 0) (pvL 2)) (paK (abb aex (pvL 1) (pvL 2)) aal))))))), λt hK hx => (aaF (aa4 (abA hK hx (aam (aam aaP)) (aac (aaf 0) (aac (aaf 1) aap))) (aaA 2) acn) (aaF (acj (aa8 (x_lt hK (aaf 1) (aat _))) (aa4 (agF hK (aat _) (aaf 2)) (aaA 2) acn) aby) (aaU (ao2 (aac (amm hK (aaf 0) (aaf 2)) (aac (amm hK (aaf 1) (aaf 2)) aap))))))⟩)
theorem atA (a : At K mg "_law_good" amK) (M : Nm mg) (XT : ahn K) (aqH : DfX P w K mg base 8 "_law_asked" (["_law_book_here", "_law_which_here"] : List Str) (spP K cl 2 aem)) (amP : DfX P w K mg base 3 "_law_is_book" (["_law_thing"] : List Str) (spP K cl 1 adf)) (apm : DfX P w K mg base 1 "_law_only" (["_law_caught", "_law_name"] : List Str) (spP K cl 2 afo)) (ahr : DfX P w K mg base 1 "_law_whole" (["_law_found"] : List Str) (spP K cl 1 acF)) : DfX P w K mg base 9 "_law_good" (["_law_book_here", "_law_which_here"] : List Str) (spP K cl 2 aeG) := by
 have S : aaR (["_law_book_here", "_law_which_here", "_law_kept", "_law_found", "_law_caught"] : List Str) (["_law_book_here", "_law_which_here"] : List Str) (aan amK) := ⟨rfl, rfl, rfl, by decide +kernel, rfl, by decide +kernel, by decide +kernel⟩
 exact a.dfP S (cl := cl) (by decide) (λ_ _ _ _ _ _ us hl => match us, hl with | [_, _], _ => by kernel_rfl) (λf cdv A outer s H E hr => ⟨_, (aak (psL 2 S.nd (arj (ah0 hr.gd hr.units) M.atr (paK (acH (paK (pvL 0) (paK (pvL 1) aal))) aal))) (aak (ahK (pcF (E := E) (aqH.mono (by decide)) hr aaE (paK (pvL 0) (paK (pvL 1) aal))) (ajW rfl (acX (pgL 3 S.nd) (acX (pgL 4 S.nd) ag2)))) (aak (aci (abn (af4 hr.units) (arj (ah0 hr.gd hr.units) M.atr (paK (acH (paK (pvL 0) (paK (pvL 1) aal))) aal)) (pvL 2) (abq _)) (aaz (aaT ac8)) aa7) (aak (aci (ab7 (abt (pcF (E := E) (amP.mono (by decide)) hr aaE (paK (pvL 0) aal)) (by intro _; rfl))) (aaz (aaT (pcF (E := E) (apm.mono (by decide)) hr aaE (paK (pvL 4) (paK afh aal))))) aa7) (aak (aci (PW.pt (aea (ab7 (abt (pcF (E := E) (ahr.mono (by decide)) hr aaE (paK (pvL 1) aal)) (by intro _; rfl))) (aea (abn (aey hr.units) (pvL 1) aas (abq _)) (adA (abn apC (pvL 1) (pcB aaX M.acJ (paK (pvL 0) aal)) (abq _)))))) (aaz (aaT (pcF (E := E) (apm.mono (by decide)) hr aaE (paK (pvL 4) (paK afh aal))))) aa7) (aaz (aaT (aes (ac4 arG (pvL 4) afS (abq _)) (aes (pcI XT.o .list (pvL 3) M.aaC M.agj) (afU (ac4 (ada hr.units) (pcB aaX M.acJ (paK (pvL 3) aal)) (pcB aaX M.acJ (paK (abY abr (pvL 0) aas (λ_ _ => rfl)) aal)) (abq _)))))))))))), λt hK hx => (aaF (aa4 (asZ hK (aac (acS (aac (aaf 0) (aac (aaf 1) aap))) aap)) (aaA 2) acn) (aaF (aa4 (abA hK hx (aam (aam aaP)) (aac (aaf 0) (aac (aaf 1) aap))) (aki hK (acY (aaA 3) (acY (aaA 4) ahb))) (auD (aif acn (aif acn akt)))) (aaF (acj (aa8 (aqi hK (asZ hK (aac (acS (aac (aaf 0) (aac (aaf 1) aap))) aap)) (aaf 2))) (aaU (adk _)) aby) (aaF (acj (ab8 (acq hK (abA hK hx (aam aaP) (aac (aaf 0) aap)))) (aaU (abA hK hx (aam (aam aaP)) (aac (aaf 4) (aac (af3 _) aap)))) aby) (aaF (acj (aef (ab8 (acq hK (abA hK hx (aam aaP) (aac (aaf 1) aap)))) (aef (aa8 (x_lt hK (aaf 1) (aat _))) (aa8 (x_ge hK (aaf 1) (x_len hK (aac (aaf 0) aap)))))) (aaU (abA hK hx (aam (aam aaP)) (aac (aaf 4) (aac (af3 _) aap)))) aby) (aaU (aeA (axF hK (aaf 4) agN) (aeA (adF hK .list (aaf 3)) (x_eq hK (x_len hK (aac (aaf 3) aap)) (x_len hK (aac (aep hK (aaf 0) (aat _)) aap)))))))))))⟩)
theorem amQ (a : At K mg "_law_is_book" aeE) (M : Nm mg) (XT : ahn K) (ak3 : DfX P w K mg base 2 "_law_is_worth" (["_law_thing"] : List Str) (spP K cl 1 ab6)) : DfX P w K mg base 3 "_law_is_book" (["_law_thing"] : List Str) (spP K cl 1 adf) := by
 have S : aaR (["_law_thing", "_law_worths"] : List Str) (["_law_thing"] : List Str) (aan aeE) := ⟨rfl, rfl, rfl, by decide +kernel, rfl, by decide +kernel, by decide +kernel⟩
 exact a.dfP S (cl := cl) (by decide) (λ_ _ _ _ _ _ us hl => match us, hl with | [_], _ => by kernel_rfl) (λf cdv A outer s H E hr => ⟨_, (aak (aci (PW.pt (aea (ab7 (abt (pcI XT.o .list (pvL 0) M.aaC M.agj) (by intro _; rfl))) (adA (abn (amb hr.units) (pcB aaX M.acJ (paK (pvL 0) aal)) (agG (G := nlK K) (Ts := [.int 1, .int 2, .int 3, .int 4]) (by kernel_rfl)) (by with_unfolding_all rfl))))) (aaz (aaT ac8)) aa7) (aak (PS.nox (ahL PassesOwn.never rfl (adG (pvL 0)) (pgL 1 S.nd) (aak (aci (PW.pt (aea (ab7 (abt (pcI XT.o .list (pvL 1) M.aaC M.agj) (by intro _; rfl))) (aea (abn (aey hr.units) (pcB aaX M.acJ (paK (pvL 1) aal)) aas (abq _)) (aea (abn arF (pcB aaX M.acJ (paK (pvL 1) aal)) aas (abq _)) (adA (abn (af4 hr.units) (pcB aaX M.acJ (paK (pvL 1) aal)) (pcB aaX M.acJ (paK (abY abr (pvL 0) aas (λ_ _ => rfl)) aal)) (abq _))))))) (aaz (aaT ac8)) aa7) (aaz (aci (ab7 (abt (pcB (afK rfl) M.aov (paK (acO (sc := aan aeE) (No := (["_law_thing", "_law_worths"] : List Str)) (N := (["_law_worth_here"] : List Str)) (src := [none]) (g := (ac3 0)) rfl rfl ⟨by rfl, by decide +kernel, by decide +kernel, by decide +kernel, by rfl, by decide +kernel⟩ rfl (adG (pvL 1)) (λC s H ex => (pgL 0 (show List.Nodup (["_law_worth_here"] : List Str) by decide +kernel))) (λC s H ex => (pcF (E := E0) (ak3.mono (by decide)) hr ad4 (paK (pvL 0) aal)))) aal)) (by intro _; rfl))) (aaz (aaT ac8)) aa7))))) (aaz (aaT ac8)))), λt hK hx => (aaF (acj (aef (ab8 (acq hK (adF hK .list (aaf 0)))) (aa8 (aqj hK (x_len hK (aac (aaf 0) aap)) (agH hK)))) (aaU (adk _)) aby) (aaF (agQ (λt1 h1 k1 => (ah9 (adH (h1.trans hK) (aaf 0)) (aaA 1) acn (aaF (acj (aef (ab8 (acq (h1.trans hK) (adF (h1.trans hK) .list (aaf 1)))) (aef (aa8 (x_lt (h1.trans hK) (x_len (h1.trans hK) (aac (aaf 1) aap)) (aat _))) (aef (aa8 (aw0 (h1.trans hK) (x_len (h1.trans hK) (aac (aaf 1) aap)) (aat _))) (aa8 (aqi (h1.trans hK) (x_len (h1.trans hK) (aac (aaf 1) aap)) (x_len (h1.trans hK) (aac (aep (h1.trans hK) (aaf 0) (aat _)) aap))))))) (aaU (adk _)) aby) (acj (ab8 (acq (h1.trans hK) (an7 (h1.trans hK) (aac (ac7 (adH (h1.trans hK) (aaf 1)) (adK (by decide)) (adL (js := [0]) (by decide)) acn (λt2 h2 k2 => (aaA 0)) (λt2 h2 k2 => (acA (h2.trans (h1.trans hK)) k2 (aam aaP) (aac (aaf 0) aap)))) aap)))) (aaU (adk _)) aby))))) (aaU (adk _))))⟩)
theorem ak4 (a : At K mg "_law_is_worth" ae8) (M : Nm mg) (XT : ahn K) (ahr : DfX P w K mg base 1 "_law_whole" (["_law_found"] : List Str) (spP K cl 1 acF)) (ahq : DfX P w K mg base 1 "_law_shared" (["_law_one", "_law_other"] : List Str) (spP K cl 2 adp)) : DfX P w K mg base 2 "_law_is_worth" (["_law_thing"] : List Str) (spP K cl 1 ab6) := by
 have S : aaR (["_law_thing"] : List Str) (["_law_thing"] : List Str) (aan ae8) := ⟨rfl, rfl, rfl, by decide +kernel, rfl, by decide +kernel, by decide +kernel⟩
 exact a.dfP S (cl := cl) (by decide) (λ_ _ _ _ _ _ us hl => match us, hl with | [_], _ => by kernel_rfl) (λf cdv A outer s H E hr => ⟨_, (aak (aci (PW.pt (aea (ab7 (abt (pcI XT.o .tuple (pvL 0) M.aaC M.ahp) (by intro _; rfl))) (adA (abn (af4 hr.units) (pcB aaX M.acJ (paK (pvL 0) aal)) aas (abq _))))) (aaz (aaT ac8)) aa7) (aak (aci (PW.pt (aea (ab7 (abt (pcF (E := E) (ahr.mono (by decide)) hr aaE (paK (abY abr (pvL 0) aas (λ_ _ => rfl)) aal)) (by intro _; rfl))) (aea (ab7 (abt (pcF (E := E) (ahr.mono (by decide)) hr aaE (paK (abY abr (pvL 0) aas (λ_ _ => rfl)) aal)) (by intro _; rfl))) (adA (abn (aey hr.units) (abY abr (pvL 0) aas (λ_ _ => rfl)) aas (abq _)))))) (aaz (aaT ac8)) aa7) (aaz (aaT (aes (ac4 ag3 aas (abY abr (pvL 0) aas (λ_ _ => rfl)) (abq _)) (aes (ac4 ag3 (abY abr (pvL 0) aas (λ_ _ => rfl)) (abY abr (pvL 0) aas (λ_ _ => rfl)) (abq _)) (afU (ac4 (ada hr.units) (pcF (E := E) (ahq.mono (by decide)) hr aaE (paK (abY abr (pvL 0) aas (λ_ _ => rfl)) (paK (abY abr (pvL 0) aas (λ_ _ => rfl)) aal))) aas (abq _))))))))), λt hK hx => (aaF (acj (aef (ab8 (acq hK (adF hK .tuple (aaf 0)))) (aa8 (aqi hK (x_len hK (aac (aaf 0) aap)) (aat _)))) (aaU (adk _)) aby) (aaF (acj (aef (ab8 (acq hK (abA hK hx (aam aaP) (aac (aep hK (aaf 0) (aat _)) aap)))) (aef (ab8 (acq hK (abA hK hx (aam aaP) (aac (aep hK (aaf 0) (aat _)) aap)))) (aa8 (x_lt hK (aep hK (aaf 0) (aat _)) (aat _))))) (aaU (adk _)) aby) (aaU (aeA (awZ hK (aat _) (aep hK (aaf 0) (aat _))) (aeA (awZ hK (aep hK (aaf 0) (aat _)) (aep hK (aaf 0) (aat _))) (x_eq hK (abA hK hx (aam (aam aaP)) (aac (aep hK (aaf 0) (aat _)) (aac (aep hK (aaf 0) (aat _)) aap))) (aat _)))))))⟩)
theorem aqI (a : At K mg "_law_mixed" ajd) (M : Nm mg) : DfX P w K mg base 1 "_law_mixed" (["_law_cell", "_law_k"] : List Str) (spP K cl 2 ado) := by
 have S : aaR (["_law_cell", "_law_k", "_law_number"] : List Str) (["_law_cell", "_law_k"] : List Str) (aan ajd) := ⟨rfl, rfl, rfl, by decide +kernel, rfl, by decide +kernel, by decide +kernel⟩
 exact a.dfP S (cl := cl) (by decide) (λ_ _ _ _ _ _ us hl => match us, hl with | [_, _], _ => by kernel_rfl) (λf cdv A outer s H E hr => ⟨_, (aak (psL 2 S.nd (abb abK (abb acR (abb adC (pvL 0) aas) aas) (abb acR (abb acR aas (pvL 1)) (pvL 1)))) (aak (psL 2 S.nd (abb adC (abb abK (abb abK (pvL 2) (abb acR aas (pvL 1))) aas) aas)) (aak (psL 2 S.nd (abb adC (abb acR (pvL 2) (pvL 2)) aas)) (aaz (aaT (abb adC (abb acR (pvL 2) (abb abK (pvL 2) aas)) aas)))))), λt hK hx => (aaF (aa4 (adb hK (aga hK (aii hK (aaf 0) (aat _)) (aat _)) (aga hK (aga hK (aat _) (aaf 1)) (aaf 1))) (aaA 2) acn) (aaF (aa4 (aii hK (adb hK (adb hK (aaf 2) (aga hK (aat _) (aaf 1))) (aat _)) (aat _)) (aaA 2) acn) (aaF (aa4 (aii hK (aga hK (aaf 2) (aaf 2)) (aat _)) (aaA 2) acn) (aaU (aii hK (aga hK (aaf 2) (adb hK (aaf 2) (aat _))) (aat _))))))⟩)
theorem avL (a : At K mg "_law_odd" aqB) (M : Nm mg) (acs : DfX P w K mg base 1 "_law_take" (["_law_pile_here", "_law_size"] : List Str) (spR K 2 0 abg)) : DfX P w K mg base 2 "_law_odd" (["_law_pile_here"] : List Str) (spR K 1 0 amO) := by
 have S : aaR (["_law_pile_here", "_law_some"] : List Str) (["_law_pile_here"] : List Str) (aan aqB) := ⟨rfl, rfl, rfl, by decide +kernel, rfl, by decide +kernel, by decide +kernel⟩
 exact a.dfR 0 S (cl := λ_ => 0) (by decide) (λ_ _ _ _ _ _ us hl => match us, hl with | [_], _ => by kernel_rfl) (λf cdv A outer s H E hr => ⟨_, (aak (psL 1 S.nd (agG (G := nlK K) (Ts := [.tup [.int 3, .int 2], .tup [.int (-1), .int 2], .tup [.int 2, .int 4], .tup [.int 0, .int 2], .tup [.int 1, .int 0], .tup [.int 0, .int 0], .tup [.int 1, .int (-1)], .tup [.bl true, .int 1], .tup [.int 1, .bl true], .tup [.int 0], .tup [.int 1, .int 2, .int 3], .tup []]) (by kernel_rfl))) (aak (psL 1 S.nd (abb abK (pvL 1) (agG (G := nlK K) (Ts := [.lst [.int 1, .int 2], .int 1, .int 0, .non, .str "1/2", .bl true, .tup [.tup [.int 0, .int 1], .tup [.int 1, .int 1]], .tup [.int 1000000000000, .int 1000000000000], .tup [.str "0", .int 1], .tup [.non, .int 1], .lst []]) (by kernel_rfl)))) (aaz (aaT (abY abr (pvL 1) (pcF (E := E) (acs.mono (by decide)) hr aaE (paK (pvL 0) (paK aas aal))) (λ_ _ => rfl)))))), λt hK hx => (aaF (aa4 (agH hK) (aaA 1) acn) (aaF (aa4 (adb hK (aaf 1) (agH hK)) (aaA 1) acn) (aaU (aep hK (aaf 1) (abB hK (aam (aam aaP)) (aac (aaf 0) (aac (aat _) aap)))))))⟩)
theorem atB (a : At K mg "_law_only" akB) (M : Nm mg) (XT : ahn K) {acV : Addr} (ab3 : Cg K mg "HeadError" acV) {adV : Addr} (aeH : Cg K mg "NoBook" adV) {afa : Addr} (adW : Cg K mg "NoBottom" afa) {agk : Addr} (aeI : Cg K mg "NoCount" agk) {ahs : Addr} (afN : Cg K mg "NoLine" ahs) {adX : Addr} (aeJ : Cg K mg "NoList" adX) {agl : Addr} (aeK : Cg K mg "NoLooks" agl) {aht : Addr} (afO : Cg K mg "NoRule" aht) {agm : Addr} (aeL : Cg K mg "NoSlack" agm) {ahu : Addr} (afP : Cg K mg "NoText" ahu) {agn : Addr} (aeM : Cg K mg "NoThing" agn) {afb : Addr} (adY : Cg K mg "NoThings" afb) {ago : Addr} (aeN : Cg K mg "NoWorth" ago) {agp : Addr} (aeO : Cg K mg "NotSure" agp) {agq : Addr} (aeP : Cg K mg "TooMany" agq) : DfX P w K mg base 1 "_law_only" (["_law_caught", "_law_name"] : List Str) (spP K cl 2 afo) := by
 have S : aaR (["_law_caught", "_law_name", "_law_found", "_law_names"] : List Str) (["_law_caught", "_law_name"] : List Str) (aan akB) := ⟨rfl, rfl, rfl, by decide +kernel, rfl, by decide +kernel, by decide +kernel⟩
 exact a.dfP S (cl := cl) (by decide) (λ_ _ _ _ _ _ us hl => match us, hl with | [_, _], _ => by kernel_rfl) (λf cdv A outer s H E hr => ⟨_, (aak (aci (PW.pt (aea (ab7 (abt (pcX XT (by decide +kernel) ab3.1 ab3.2 (pvL 0) M.aaC) (by intro _; rfl))) (adA (ab7 (abt (pcV XT (pvL 0) M.aaC M.aiu) (by intro _; rfl)))))) (aaz (aaT ac8)) aa7) (aak (psL 2 S.nd (acH (paK (pcX XT (by decide +kernel) adW.1 adW.2 (pvL 0) M.aaC) (paK (pcX XT (by decide +kernel) aeH.1 aeH.2 (pvL 0) M.aaC) (paK (pcX XT (by decide +kernel) aeJ.1 aeJ.2 (pvL 0) M.aaC) aal))))) (aak (psL 2 S.nd (abb abK (pvL 2) (acH (paK (pcX XT (by decide +kernel) afO.1 afO.2 (pvL 0) M.aaC) (paK (pcX XT (by decide +kernel) aeI.1 aeI.2 (pvL 0) M.aaC) (paK (pcX XT (by decide +kernel) aeK.1 aeK.2 (pvL 0) M.aaC) aal)))))) (aak (psL 2 S.nd (abb abK (pvL 2) (acH (paK (pcX XT (by decide +kernel) adY.1 adY.2 (pvL 0) M.aaC) (paK (pcX XT (by decide +kernel) aeO.1 aeO.2 (pvL 0) M.aaC) (paK (pcX XT (by decide +kernel) aeL.1 aeL.2 (pvL 0) M.aaC) aal)))))) (aak (psL 2 S.nd (abb abK (pvL 2) (acH (paK (pcX XT (by decide +kernel) aeM.1 aeM.2 (pvL 0) M.aaC) (paK (pcX XT (by decide +kernel) aeN.1 aeN.2 (pvL 0) M.aaC) (paK (pcX XT (by decide +kernel) aeP.1 aeP.2 (pvL 0) M.aaC) aal)))))) (aak (psL 2 S.nd (abb abK (pvL 2) (acH (paK (pcX XT (by decide +kernel) afP.1 afP.2 (pvL 0) M.aaC) (paK (pcX XT (by decide +kernel) afN.1 afN.2 (pvL 0) M.aaC) aal))))) (aak (psL 3 S.nd (agG (G := nlK K) (Ts := [.str "NoBottom", .str "NoBook", .str "NoList", .str "NoRule", .str "NoCount", .str "NoLooks", .str "NoThings", .str "NotSure", .str "NoSlack"]) (by kernel_rfl))) (aak (psL 3 S.nd (abb abK (pvL 3) (agG (G := nlK K) (Ts := [.str "NoThing", .str "NoWorth", .str "TooMany", .str "NoText", .str "NoLine"]) (by kernel_rfl)))) (aaz (aaT (ac4 (ada hr.units) (pvL 2) (acO (sc := aan akB) (No := (["_law_caught", "_law_name", "_law_found", "_law_names"] : List Str)) (N := (["_law_one", "_law_name"] : List Str)) (src := [none, some 1]) (g := (ac3 0)) rfl rfl ⟨by rfl, by decide +kernel, by decide +kernel, by decide +kernel, by rfl, by decide +kernel⟩ rfl (adG (pvL 3)) (λC s H ex => (pgL 0 (show List.Nodup (["_law_one", "_law_name"] : List Str) by decide +kernel))) (λC s H ex => (ac4 (ada hr.units) (pvL 0) (pvC 1) (abq _)))) (abq _)))))))))))), λt hK hx => (aaF (acj (aef (ab8 (acq hK (acT hK (aaf 0)))) (ab8 (acq hK (atk hK (aaf 0))))) (aaU (adk _)) aby) (aaF (aa4 (acS (aac (acT hK (aaf 0)) (aac (acT hK (aaf 0)) (aac (acT hK (aaf 0)) aap)))) (aaA 2) acn) (aaF (aa4 (adb hK (aaf 2) (acS (aac (acT hK (aaf 0)) (aac (acT hK (aaf 0)) (aac (acT hK (aaf 0)) aap))))) (aaA 2) acn) (aaF (aa4 (adb hK (aaf 2) (acS (aac (acT hK (aaf 0)) (aac (acT hK (aaf 0)) (aac (acT hK (aaf 0)) aap))))) (aaA 2) acn) (aaF (aa4 (adb hK (aaf 2) (acS (aac (acT hK (aaf 0)) (aac (acT hK (aaf 0)) (aac (acT hK (aaf 0)) aap))))) (aaA 2) acn) (aaF (aa4 (adb hK (aaf 2) (acS (aac (acT hK (aaf 0)) (aac (acT hK (aaf 0)) aap)))) (aaA 2) acn) (aaF (aa4 (agH hK) (aaA 3) acn) (aaF (aa4 (adb hK (aaf 3) (agH hK)) (aaA 3) acn) (aaU (x_eq hK (aaf 2) (ac7 (adH hK (aaf 3)) (adK (by decide)) (adL (js := [0]) (by decide)) acn (λt1 h1 k1 => (aaA 0)) (λt1 h1 k1 => (x_eq (h1.trans hK) (aaf 0) (aaf 1))))))))))))))⟩)
theorem atD (a : At K mg "_law_pile" amH) (M : Nm mg) (aqJ : DfX P w K mg base 1 "_law_mixed" (["_law_cell", "_law_k"] : List Str) (spP K cl 2 ado)) : DfX P w K mg base 2 "_law_pile" (["_law_script", "_law_k"] : List Str) (spP K cl 2 afn) := by
 have S : aaR (["_law_script", "_law_k", "_law_cell", "_law_found", "_law_j"] : List Str) (["_law_script", "_law_k"] : List Str) (aan amH) := ⟨rfl, rfl, rfl, by decide +kernel, rfl, by decide +kernel, by decide +kernel⟩
 exact a.dfP S (cl := cl) (by decide) (λ_ _ _ _ _ _ us hl => match us, hl with | [_, _], _ => by kernel_rfl) (λf cdv A outer s H E hr => ⟨_, (aak (psL 2 S.nd aas) (aak (aci (abn (aey hr.units) (pvL 1) (pcB aaX M.acJ (paK (pvL 0) aal)) (abq _)) (aaz (psL 2 S.nd (abY abr (pvL 0) (pvL 1) (λ_ _ => rfl)))) aa7) (aak (aci (abn apC (pvL 2) (abb ahM aas aas) (abq _)) (aaz (aaT (acH (paK (abb adB (pvL 2) (abb ahM aas aas)) aal)))) aa7) (aak (psL 3 S.nd aas) (aak (PS.nox (ahL PassesOwn.never rfl (piR M.ae9 (paK aas aal)) (pgL 4 S.nd) (aaz (psL 3 S.nd (abb abK (abb acR (pvL 3) aas) (pcF (E := E0) (aqJ.mono (by decide)) hr ad4 (paK (pvL 2) (paK (abb abK (abb acR aas (pvL 1)) (pvL 4)) aal)))))))) (aaz (aaT (acH (paK (pvL 3) aal))))))))), λt hK hx => (aaF (aa4 (aat _) (aaA 2) acn) (aaF (acj (aa8 (x_lt hK (aaf 1) (x_len hK (aac (aaf 0) aap)))) (aa4 (aep hK (aaf 0) (aaf 1)) (aaA 2) acn) aby) (aaF (acj (aa8 (x_ge hK (aaf 2) (an6 hK (aat _) (aat _)))) (aaU (acS (aac (agF hK (aaf 2) (an6 hK (aat _) (aat _))) aap))) aby) (aaF (aa4 (aat _) (aaA 3) acn) (aaF (agQ (λt1 h1 k1 => (ah9 (aia (aac (aat _) aap)) (aaA 4) acn (aa4 (adb (h1.trans hK) (aga (h1.trans hK) (aaf 3) (aat _)) (acA (h1.trans hK) k1 (aam (aam aaP)) (aac (aaf 2) (aac (adb (h1.trans hK) (aga (h1.trans hK) (aat _) (aaf 1)) (aaf 4)) aap)))) (aaA 3) acn)))) (aaU (acS (aac (aaf 3) aap))))))))⟩)
theorem aoy (a : At K mg "_law_shared" aho) (M : Nm mg) : DfX P w K mg base 1 "_law_shared" (["_law_one", "_law_other"] : List Str) (spP K cl 2 adp) := by
 have S : aaR (["_law_one", "_law_other"] : List Str) (["_law_one", "_law_other"] : List Str) (aan aho) := ⟨rfl, rfl, rfl, by decide +kernel, rfl, by decide +kernel, by decide +kernel⟩
 exact a.dfP S (cl := cl) (by decide) (λ_ _ _ _ _ _ us hl => match us, hl with | [_, _], _ => by kernel_rfl) (λf cdv A outer s H E hr => ⟨_, (aak (PS.nox (ajX PassesOwn.never (abn (af4 hr.units) (pvL 1) aas (abq _)) (aaz (aoO (i := 0) (j := 1) rfl S.nd rfl rfl (by decide) rfl rfl (paK (pvL 1) (paK (abb adC (pvL 0) (pvL 1)) aal)) rfl)))) (aaz (aaT (pcB aj2 M.atp (paK (pvL 0) aal))))), λt hK hx => (aaF (agQ (λt1 h1 k1 => (akk (fuI 1) (aa8 (aqi (h1.trans hK) (aaf 1) (aat _))) (ao8 0 1 (aac (aaf 1) (aac (aii (h1.trans hK) (aaf 0) (aaf 1)) aap)))))) (aaU (asY hK (aac (aaf 0) aap))))⟩)
theorem atF (a : At K mg "_law_take" amI) (M : Nm mg) : DfX P w K mg base 1 "_law_take" (["_law_pile_here", "_law_size"] : List Str) (spR K 2 0 abg) := by
 have S : aaR (["_law_pile_here", "_law_size", "_law_digit"] : List Str) (["_law_pile_here", "_law_size"] : List Str) (aan amI) := ⟨rfl, rfl, rfl, by decide +kernel, rfl, by decide +kernel, by decide +kernel⟩
 exact a.dfR 0 S (cl := λ_ => 0) (by decide) (λ_ _ _ _ _ _ us hl => match us, hl with | [_, _], _ => by kernel_rfl) (λf cdv A outer s H E hr => ⟨_, (aak (psL 2 S.nd (abb adC (abY abr (pvL 0) aas (λ_ _ => rfl)) (pvL 1))) (aak (ahK (abb aex (abY abr (pvL 0) aas (λ_ _ => rfl)) (pvL 1)) (alK (pvL 0) aas set_list)) (aaz (aaT (pvL 2))))), λt hK hx => (aaF (aa4 (aii hK (aep hK (aaf 0) (aat _)) (aaf 1)) (aaA 2) acn) (aaF (amh 0 (amm hK (aep hK (aaf 0) (aat _)) (aaf 1)) (aat _)) (aaU (aaf 2))))⟩)
theorem aqK (a : At K mg "_law_which" ajg) (M : Nm mg) (acs : DfX P w K mg base 1 "_law_take" (["_law_pile_here", "_law_size"] : List Str) (spR K 2 0 abg)) : DfX P w K mg base 2 "_law_which" (["_law_many", "_law_pile_here"] : List Str) (spR K 2 1 adq) := by
 have S : aaR (["_law_many", "_law_pile_here", "_law_way", "_law_far", "_law_some"] : List Str) (["_law_many", "_law_pile_here"] : List Str) (aan ajg) := ⟨rfl, rfl, rfl, by decide +kernel, rfl, by decide +kernel, by decide +kernel⟩
 exact a.dfR 1 S (cl := λ_ => 0) (by decide) (λ_ _ _ _ _ _ us hl => match us, hl with | [_, _], _ => by kernel_rfl) (λf cdv A outer s H E hr => ⟨_, (aak (psL 2 S.nd (pcF (E := E) (acs.mono (by decide)) hr aaE (paK (pvL 1) (paK aas aal)))) (aak (aci (abn (aey hr.units) (pvL 2) aas (abq _)) (aaz (aaT (pcF (E := E) (acs.mono (by decide)) hr aaE (paK (pvL 1) (paK (pvL 0) aal))))) aa7) (aak (psL 3 S.nd (pcF (E := E) (acs.mono (by decide)) hr aaE (paK (pvL 1) (paK (abb ahM aas aas) aal)))) (aak (psL 4 S.nd (acH (paK (abb adB aas aas) (paK (pvL 0) (paK (abb abK (pvL 0) (pvL 3)) (paK (abb adB (abb adB aas aas) (pvL 3)) (paK ac8 (paK ac8 (paK afS (paK afh (paK (amr (G := nlK K) (Ts := [.int 0]) (by kernel_rfl)) (paK (agG (G := nlK K) (Ts := [.int 0]) (by kernel_rfl)) (paK (amr (G := nlK K) (Ts := [.int 0, .int 1]) (by kernel_rfl)) aal))))))))))))) (aaz (aaT (abY abr (pvL 4) (abb adB (pvL 2) aas) (λ_ _ => rfl)))))))), λt hK hx => (aaF (aa4 (abB hK (aam (aam aaP)) (aac (aaf 1) (aac (aat _) aap))) (aaA 2) acn) (aaF (acj (aa8 (x_lt hK (aaf 2) (aat _))) (aaU (abB hK (aam (aam aaP)) (aac (aaf 1) (aac (aaf 0) aap)))) aby) (aaF (aa4 (abB hK (aam (aam aaP)) (aac (aaf 1) (aac (an6 hK (aat _) (aat _)) aap))) (aaA 3) acn) (aaF (aa4 (acS (aac (agF hK (aat _) (aat _)) (aac (aaf 0) (aac (adb hK (aaf 0) (aaf 3)) (aac (agF hK (agF hK (aat _) (aat _)) (aaf 3)) (aac (adk _) (aac (adk _) (aac agN (aac (af3 _) (aac (as4 hK) (aac (agH hK) (aac (as4 hK) aap)))))))))))) (aaA 4) acn) (aaU (aep hK (aaf 4) (agF hK (aaf 2) (aat _))))))))⟩)
theorem aqL (a : At K mg "_law_whole" aje) (M : Nm mg) (XT : ahn K) : DfX P w K mg base 1 "_law_whole" (["_law_found"] : List Str) (spP K cl 1 acF) := by
 have S : aaR (["_law_found"] : List Str) (["_law_found"] : List Str) (aan aje) := ⟨rfl, rfl, rfl, by decide +kernel, rfl, by decide +kernel, by decide +kernel⟩
 exact a.dfP S (cl := cl) (by decide) (λ_ _ _ _ _ _ us hl => match us, hl with | [_], _ => by kernel_rfl) (λf cdv A outer s H E hr => ⟨_, (aaz (aaT (aes (pcI XT.o .int (pvL 0) M.aaC M.atq) (afU (aoN (pcI XT.o .bool (pvL 0) M.aaC M.apj)))))), λt hK hx => (aaU (aeA (adF hK .int (aaf 0)) (ao3 (adF hK .bool (aaf 0)))))⟩)
theorem aqM (a : At K mg "_law_worth" ajf) (M : Nm mg) (acs : DfX P w K mg base 1 "_law_take" (["_law_pile_here", "_law_size"] : List Str) (spR K 2 0 abg)) (atG : DfX P w K mg base 2 "_law_frac" (["_law_top", "_law_bottom"] : List Str) (spP K cl 2 aeF)) : DfX P w K mg base 3 "_law_worth" (["_law_pile_here"] : List Str) (spR K 1 0 ab2) := by
 have S : aaR (["_law_pile_here", "_law_way", "_law_bottom"] : List Str) (["_law_pile_here"] : List Str) (aan ajf) := ⟨rfl, rfl, rfl, by decide +kernel, rfl, by decide +kernel, by decide +kernel⟩
 exact a.dfR 0 S (cl := cl) (by decide) (λ_ _ _ _ _ _ us hl => match us, hl with | [_], _ => by kernel_rfl) (λf cdv A outer s H E hr => ⟨_, (aak (psL 1 S.nd (pcF (E := E) (acs.mono (by decide)) hr aaE (paK (pvL 0) (paK aas aal)))) (aak (aci (abn (aey hr.units) (pvL 1) aas (abq _)) (aaz (aaT (abY abr (agG (G := nlK K) (Ts := [.tup [.int 0, .int 1], .tup [.int 1, .int 1]]) (by kernel_rfl)) (pvL 1) (λ_ _ => rfl)))) aa7) (aak (psL 2 S.nd (abY abr (agG (G := nlK K) (Ts := [.int 2, .int 3, .int 4, .int 6, .int 12, .int 0]) (by kernel_rfl)) (abb adB (pvL 1) aas) (λ_ _ => rfl))) (aak (aci (abn (ada hr.units) (pvL 2) aas (abq _)) (aaz (psL 2 S.nd (abb abK aas (pcF (E := E) (acs.mono (by decide)) hr aaE (paK (pvL 0) (paK (abb adB (abb ahM aas aas) aas) aal)))))) aa7) (aaz (aaT (pcF (E := E) (atG.mono (by decide)) hr aaE (paK (pcF (E := E) (acs.mono (by decide)) hr aaE (paK (pvL 0) (paK (abb abK (pvL 2) aas) aal))) (paK (pvL 2) aal))))))))), λt hK hx => (aaF (aa4 (abB hK (aam (aam aaP)) (aac (aaf 0) (aac (aat _) aap))) (aaA 1) acn) (aaF (acj (aa8 (x_lt hK (aaf 1) (aat _))) (aaU (aep hK (agH hK) (aaf 1))) aby) (aaF (aa4 (aep hK (agH hK) (agF hK (aaf 1) (aat _))) (aaA 2) acn) (aaF (acj (aa8 (x_eq hK (aaf 2) (aat _))) (aa4 (adb hK (aat _) (abB hK (aam (aam aaP)) (aac (aaf 0) (aac (agF hK (an6 hK (aat _) (aat _)) (aat _)) aap)))) (aaA 2) acn) aby) (aaU (abA hK hx (aam (aam aaP)) (aac (abB hK (aam (aam aaP)) (aac (aaf 0) (aac (adb hK (aaf 2) (aat _)) aap))) (aac (aaf 2) aap))))))))⟩)
theorem ahv (a : At K mg "are_worths" ac0) (M : Nm mg) (XT : ahn K) (ak5 : DfX P w K mg base 3 "is_worth" (["thing"] : List Str) (spP K cl 1 ab5)) : DfX P w K mg base 4 "are_worths" (["thing", "most"] : List Str) (spP K cl 2 ab0) := by
 have S : aaR (["thing", "most"] : List Str) (["thing", "most"] : List Str) (aan ac0) := ⟨rfl, rfl, rfl, by decide +kernel, rfl, by decide +kernel, by decide +kernel⟩
 exact a.dfP S (cl := cl) (by decide) (λ_ _ _ _ _ _ us hl => match us, hl with | [_, _], _ => by kernel_rfl) (λf cdv A outer s H E hr => ⟨_, (aak (aci (PW.pt (aea (ab7 (abt (pcI XT.o .list (pvL 0) M.aaC M.agj) (by intro _; rfl))) (adA (ab7 (aj1 ag3 ag3 aas (pcB aaX M.acJ (paK (pvL 0) aal)) (pvL 1)))))) (aaz (aaT ac8)) aa7) (aaz (aaT (pcB (afK rfl) M.aov (paK (acO (sc := aan ac0) (No := (["thing", "most"] : List Str)) (N := (["part"] : List Str)) (src := [none]) (g := (ac3 0)) rfl rfl ⟨by rfl, by decide +kernel, by decide +kernel, by decide +kernel, by rfl, by decide +kernel⟩ rfl (adG (pvL 0)) (λC s H ex => (pgL 0 (show List.Nodup (["part"] : List Str) by decide +kernel))) (λC s H ex => (pcF (E := E0) (ak5.mono (by decide)) hr ad4 (paK (pvL 0) aal)))) aal))))), λt hK hx => (aaF (acj (aef (ab8 (acq hK (adF hK .list (aaf 0)))) (ab8 (aa8 (ahg hK ah4 ah4 aie aie (aat _) (x_len hK (aac (aaf 0) aap)) (aaf 1))))) (aaU (adk _)) aby) (aaU (an7 hK (aac (ac7 (adH hK (aaf 0)) (adK (by decide)) (adL (js := [0]) (by decide)) acn (λt1 h1 k1 => (aaA 0)) (λt1 h1 k1 => (acA (h1.trans hK) k1 (aam aaP) (aac (aaf 0) aap)))) aap))))⟩)
theorem afy (a : At K mg "common_bottom" acU) (M : Nm mg) (acG : DfX P w K mg base 1 "common_divisor" (["one", "other"] : List Str) (spP K cl 2 abv)) : DfX P w K mg base 2 "common_bottom" (["fractions"] : List Str) (spP K cl 1 ab1) := by
 have S : aaR (["fractions", "bottom", "top", "own"] : List Str) (["fractions"] : List Str) (aan acU) := ⟨rfl, rfl, rfl, by decide +kernel, rfl, by decide +kernel, by decide +kernel⟩
 exact a.dfP S (cl := cl) (by decide) (λ_ _ _ _ _ _ us hl => match us, hl with | [_], _ => by kernel_rfl) (λf cdv A outer s H E hr => ⟨_, (aak (psL 1 S.nd aas) (aak (PS.nox (ahL PassesOwn.never rfl (adG (pvL 0)) (ajW rfl (acX (pgL 2 S.nd) (acX (pgL 3 S.nd) ag2))) (aaz (psL 1 S.nd (abb aex (abb acR (pvL 1) (pvL 3)) (pcF (E := E0) (acG.mono (by decide)) hr ad4 (paK (pvL 1) (paK (pvL 3) aal)))))))) (aaz (aaT (pvL 1))))), λt hK hx => (aaF (aa4 (aat _) (aaA 1) acn) (aaF (agQ (λt1 h1 k1 => (ah9 (adH (h1.trans hK) (aaf 0)) (aki (h1.trans hK) (acY (aaA 2) (acY (aaA 3) ahb))) (auD (aif acn (aif acn akt))) (aa4 (amm (h1.trans hK) (aga (h1.trans hK) (aaf 1) (aaf 3)) (acA (h1.trans hK) k1 (aam (aam aaP)) (aac (aaf 1) (aac (aaf 3) aap)))) (aaA 1) acn)))) (aaU (aaf 1))))⟩)
theorem afc (a : At K mg "common_divisor" acE) (M : Nm mg) : DfX P w K mg base 1 "common_divisor" (["one", "other"] : List Str) (spP K cl 2 abv) := by
 have S : aaR (["one", "other"] : List Str) (["one", "other"] : List Str) (aan acE) := ⟨rfl, rfl, rfl, by decide +kernel, rfl, by decide +kernel, by decide +kernel⟩
 exact a.dfP S (cl := cl) (by decide) (λ_ _ _ _ _ _ us hl => match us, hl with | [_, _], _ => by kernel_rfl) (λf cdv A outer s H E hr => ⟨_, (aak (PS.nox (ajX PassesOwn.never (abn (af4 hr.units) (pvL 1) aas (abq _)) (aaz (aoO (i := 0) (j := 1) rfl S.nd rfl rfl (by decide) rfl rfl (paK (pvL 1) (paK (abb adC (pvL 0) (pvL 1)) aal)) rfl)))) (aaz (aaT (pcB aj2 M.atp (paK (pvL 0) aal))))), λt hK hx => (aaF (agQ (λt1 h1 k1 => (akk (fuI 1) (aa8 (aqi (h1.trans hK) (aaf 1) (aat _))) (ao8 0 1 (aac (aaf 1) (aac (aii (h1.trans hK) (aaf 0) (aaf 1)) aap)))))) (aaU (asY hK (aac (aaf 0) aap))))⟩)
theorem afd {c_ P_ : Addr} (a : AtL K mg "falling_places" ach c_) (L : aop K mg base "falling_places" c_ P_) (M : Nm mg) (ad6 : DfX P w K mg base 3 "tops_on_one_bottom" (["fractions"] : List Str) (spP K cl 1 abI)) : DfX P w K mg base 4 "falling_places" (["fractions"] : List Str) (spP K cl 1 abV) := by
 have S : aaR (["fractions", "tops"] : List Str) (["fractions"] : List Str) (aan ach) := ⟨rfl, rfl, rfl, by decide +kernel, rfl, by decide +kernel, by decide +kernel⟩
 exact a.axL S (cl := cl) (by decide) (λ_ _ _ _ _ _ us hl => match us, hl with | [_], _ => by kernel_rfl) (λf A outer s H E hr => ⟨_, (aak (psC 1 S.nd rfl (pcF (E := E) (ad6.mono (by decide)) hr aaE (paK (pvL 0) aal))) (aaz (aaT (aol (sc := aan ach) (No := (["fractions", "tops"] : List Str)) (x := "place") (Ns := (["tops"] : List Str)) (src := [some 1]) atd (λ_ h => h) aqv hr M.aow M.ae9 rfl rfl ⟨⟨by rfl, by decide +kernel, by decide +kernel, by decide +kernel, by rfl, by decide +kernel⟩, by decide +kernel, by rfl, by rfl, by rfl⟩ rfl L.hd L.bm rfl (paK (pcB aaX M.acJ (paK (pvC 1) aal)) aal) (λ_ _ _ _ => by kernel_rfl) (λA f cd s H => (arD aoS (abY abr (pvF 1) (pvL 0) (λ_ _ => rfl)))))))), λt hK hx => (aaF (aa4 (abA hK hx (aam aaP) (aac (aaf 0) aap)) (aaA 1) acn) (aaU (aqx L hK (aac (x_len hK (aac (aaf 1) aap)) aap) (avC asj (avB ash (apg 1) (apg 0))))))⟩)
theorem ak6 (a : At K mg "is_book" adN) (M : Nm mg) {adP : V} (ac2 : Gk K mg "MOST_LISTS" adP (.int 4)) {adt : V} (acK : Gk K mg "MOST_THINGS" adt (.int 12)) (XT : ahn K) (aiw : DfX P w K mg base 4 "are_worths" (["thing", "most"] : List Str) (spP K cl 2 ab0)) : DfX P w K mg base 5 "is_book" (["thing"] : List Str) (spP K cl 1 adM) := by
 have S : aaR (["thing"] : List Str) (["thing"] : List Str) (aan adN) := ⟨rfl, rfl, rfl, by decide +kernel, rfl, by decide +kernel, by decide +kernel⟩
 exact a.dfP S (cl := cl) (by decide) (λ_ _ _ _ _ _ us hl => match us, hl with | [_], _ => by kernel_rfl) (λf cdv A outer s H E hr => ⟨_, (aak (aci (PW.pt (aea (ab7 (abt (pcI XT.o .list (pvC 0) M.aaC M.agj) (by intro _; rfl))) (adA (ab7 (aj1 ag3 ag3 aas (pcB aaX M.acJ (paK (pvC 0) aal)) (pGk ac2)))))) (aaz (aaT ac8)) aa7) (aak (aci (ab7 (abt (pcB (afK rfl) M.aov (paK (acO (sc := aan adN) (No := (["thing"] : List Str)) (N := (["row"] : List Str)) (src := [none]) (g := (ac3 0)) rfl rfl ⟨by rfl, by decide +kernel, by decide +kernel, by decide +kernel, by rfl, by decide +kernel⟩ rfl (adG (pvC 0)) (λC s H ex => (pgL 0 (show List.Nodup (["row"] : List Str) by decide +kernel))) (λC s H ex => (pcF (E := E0) (aiw.mono (by decide)) hr ad4 (paK (pvL 0) (paK (pGk acK) aal))))) aal)) (by intro _; rfl))) (aaz (aaT ac8)) aa7) (aaz (aaT (pcB (afK rfl) M.aov (paK (acO (sc := aan adN) (No := (["thing"] : List Str)) (N := (["row", "thing"] : List Str)) (src := [none, some 0]) (g := (ac3 0)) rfl rfl ⟨by rfl, by decide +kernel, by decide +kernel, by decide +kernel, by rfl, by decide +kernel⟩ rfl (adG (pvC 0)) (λC s H ex => (pgL 0 (show List.Nodup (["row", "thing"] : List Str) by decide +kernel))) (λC s H ex => (ac4 (ada hr.units) (pcB aaX M.acJ (paK (pvL 0) aal)) (pcB aaX M.acJ (paK (abY abr (pvC 1) aas (λ_ _ => rfl)) aal)) (abq _)))) aal)))))), λt hK hx => (aaF (acj (aef (ab8 (acq hK (adF hK .list (aaf 0)))) (ab8 (aa8 (ahg hK ah4 ah4 aie aie (aat _) (x_len hK (aac (aaf 0) aap)) (asW hK ac2))))) (aaU (adk _)) aby) (aaF (acj (ab8 (acq hK (an7 hK (aac (ac7 (adH hK (aaf 0)) (adK (by decide)) (adL (js := [0]) (by decide)) acn (λt1 h1 k1 => (aaA 0)) (λt1 h1 k1 => (acA (h1.trans hK) k1 (aam (aam aaP)) (aac (aaf 0) (aac (asW (h1.trans hK) acK) aap))))) aap)))) (aaU (adk _)) aby) (aaU (an7 hK (aac (ac7 (adH hK (aaf 0)) (adK (by decide)) (adL (js := [0]) (by decide)) acn (λt2 h2 k2 => (aaA 0)) (λt2 h2 k2 => (x_eq (h2.trans hK) (x_len (h2.trans hK) (aac (aaf 0) aap)) (x_len (h2.trans hK) (aac (aep (h2.trans hK) (aaf 1) (aat _)) aap))))) aap)))))⟩)
theorem agI (a : At K mg "is_fraction" adn) (M : Nm mg) (XT : ahn K) (adZ : DfX P w K mg base 1 "is_whole" (["thing"] : List Str) (spP K cl 1 acw)) (acG : DfX P w K mg base 1 "common_divisor" (["one", "other"] : List Str) (spP K cl 2 abv)) : DfX P w K mg base 2 "is_fraction" (["thing"] : List Str) (spP K cl 1 acr) := by
 have S : aaR (["thing", "top", "bottom"] : List Str) (["thing"] : List Str) (aan adn) := ⟨rfl, rfl, rfl, by decide +kernel, rfl, by decide +kernel, by decide +kernel⟩
 exact a.dfP S (cl := cl) (by decide) (λ_ _ _ _ _ _ us hl => match us, hl with | [_], _ => by kernel_rfl) (λf cdv A outer s H E hr => ⟨_, (aak (aci (PW.pt (aea (ab7 (abt (pcI XT.o .tuple (pvL 0) M.aaC M.ahp) (by intro _; rfl))) (adA (abn (af4 hr.units) (pcB aaX M.acJ (paK (pvL 0) aal)) aas (abq _))))) (aaz (aaT ac8)) aa7) (aak (ahK (pvL 0) (ajW rfl (acX (pgL 1 S.nd) (acX (pgL 2 S.nd) ag2)))) (aak (aci (PW.pt (aea (ab7 (abt (pcF (E := E) (adZ.mono (by decide)) hr aaE (paK (pvL 1) aal)) (by intro _; rfl))) (adA (ab7 (abt (pcF (E := E) (adZ.mono (by decide)) hr aaE (paK (pvL 2) aal)) (by intro _; rfl)))))) (aaz (aaT ac8)) aa7) (aaz (aaT (aes (ac4 apC (pvL 2) aas (abq _)) (afU (ac4 (ada hr.units) (pcF (E := E) (acG.mono (by decide)) hr aaE (paK (pvL 1) (paK (pvL 2) aal))) aas (abq _))))))))), λt hK hx => (aaF (acj (aef (ab8 (acq hK (adF hK .tuple (aaf 0)))) (aa8 (aqi hK (x_len hK (aac (aaf 0) aap)) (aat _)))) (aaU (adk _)) aby) (aaF (aa4 (aaf 0) (aki hK (acY (aaA 1) (acY (aaA 2) ahb))) (auD (aif acn (aif acn akt)))) (aaF (acj (aef (ab8 (acq hK (abA hK hx (aam aaP) (aac (aaf 1) aap)))) (ab8 (acq hK (abA hK hx (aam aaP) (aac (aaf 2) aap))))) (aaU (adk _)) aby) (aaU (aeA (x_ge hK (aaf 2) (aat _)) (x_eq hK (abA hK hx (aam (aam aaP)) (aac (aaf 1) (aac (aaf 2) aap))) (aat _)))))))⟩)
theorem ajl (a : At K mg "is_place" ae7) (M : Nm mg) (adZ : DfX P w K mg base 1 "is_whole" (["thing"] : List Str) (spP K cl 1 acw)) : DfX P w K mg base 2 "is_place" (["thing", "many"] : List Str) (spP K cl 2 acy) := by
 have S : aaR (["thing", "many"] : List Str) (["thing", "many"] : List Str) (aan ae7) := ⟨rfl, rfl, rfl, by decide +kernel, rfl, by decide +kernel, by decide +kernel⟩
 exact a.dfP S (cl := cl) (by decide) (λ_ _ _ _ _ _ us hl => match us, hl with | [_, _], _ => by kernel_rfl) (λf cdv A outer s H E hr => ⟨_, (aaz (aaT (aes (pcF (E := E) (adZ.mono (by decide)) hr aaE (paK (pvL 0) aal)) (afU (aj0 ag3 (aey hr.units) aas (pvL 0) (pvL 1)))))), λt hK hx => (aaU (aeA (abA hK hx (aam aaP) (aac (aaf 0) aap)) (ahg hK ah4 asf aie asO (aat _) (aaf 0) (aaf 1))))⟩)
theorem ajm (a : At K mg "is_whole" ae5) (M : Nm mg) (XT : ahn K) : DfX P w K mg base 1 "is_whole" (["thing"] : List Str) (spP K cl 1 acw) := by
 have S : aaR (["thing"] : List Str) (["thing"] : List Str) (aan ae5) := ⟨rfl, rfl, rfl, by decide +kernel, rfl, by decide +kernel, by decide +kernel⟩
 exact a.dfP S (cl := cl) (by decide) (λ_ _ _ _ _ _ us hl => match us, hl with | [_], _ => by kernel_rfl) (λf cdv A outer s H E hr => ⟨_, (aaz (aaT (aes (pcI XT.o .int (pvL 0) M.aaC M.atq) (afU (aoN (pcI XT.o .bool (pvL 0) M.aaC M.apj)))))), λt hK hx => (aaU (aeA (adF hK .int (aaf 0)) (ao3 (adF hK .bool (aaf 0)))))⟩)
theorem ajn (a : At K mg "is_worth" ae6) (M : Nm mg) (ahw : DfX P w K mg base 2 "is_fraction" (["thing"] : List Str) (spP K cl 1 acr)) : DfX P w K mg base 3 "is_worth" (["thing"] : List Str) (spP K cl 1 ab5) := by
 have S : aaR (["thing"] : List Str) (["thing"] : List Str) (aan ae6) := ⟨rfl, rfl, rfl, by decide +kernel, rfl, by decide +kernel, by decide +kernel⟩
 exact a.dfP S (cl := cl) (by decide) (λ_ _ _ _ _ _ us hl => match us, hl with | [_], _ => by kernel_rfl) (λf cdv A outer s H E hr => ⟨_, (aaz (aaT (aes (pcF (E := E) (ahw.mono (by decide)) hr aaE (paK (pvL 0) aal)) (afU (aj0 ag3 ag3 aas (abY abr (pvL 0) aas (λ_ _ => rfl)) (abY abr (pvL 0) aas (λ_ _ => rfl))))))), λt hK hx => (aaU (aeA (abA hK hx (aam aaP) (aac (aaf 0) aap)) (ahg hK ah4 ah4 aie aie (aat _) (aep hK (aaf 0) (aat _)) (aep hK (aaf 0) (aat _)))))⟩)
theorem atH (a : At K mg "law" aqC) (M : Nm mg) (atJ : DfX P w K mg base 2 "_law_pile" (["_law_script", "_law_k"] : List Str) (spP K cl 2 afn)) (atL : DfX P w K mg base 4 "_law_book" (["_law_pile_here"] : List Str) (spR K 1 0 agV)) (ac1 : DfX P w K mg base 7 "read_order" (["book", "place"] : List Str) (spP K cl 2 aaN)) (amR : DfX P w K mg base 2 "_law_which" (["_law_many", "_law_pile_here"] : List Str) (spR K 2 1 adq)) (apn : DfX P w K mg base 3 "_law_bent" (["_law_book_here", "_law_pile_here"] : List Str) (spR K 2 1 ad9)) (apo : DfX P w K mg base 9 "_law_good" (["_law_book_here", "_law_which_here"] : List Str) (spP K cl 2 aeG)) : DfX P w K mg base 10 "law" (["_law_script"] : List Str) (spP K cl 1 ak2) := by
 have S : aaR (["_law_script", "_law_k", "_law_pile_here", "_law_book_here", "_law_first", "_law_which_here", "_law_thing"] : List Str) (["_law_script"] : List Str) (aan aqC) := ⟨rfl, rfl, rfl, by decide +kernel, rfl, by decide +kernel, by decide +kernel⟩
 exact a.dfP S (cl := cl) (by decide) (λ_ _ _ _ _ _ us hl => match us, hl with | [_], _ => by kernel_rfl) (λf cdv A outer s H E hr => ⟨_, (aak (PS.nox (ahL PassesOwn.never rfl (piR M.ae9 (paK (pcB (alP rfl) M.avH (paK (pcB (alQ rfl) M.avI (paK (pcB aaX M.acJ (paK (pvL 0) aal)) (paK aas aal))) (paK aas aal))) aal)) (pgL 1 S.nd) (aak (psL 2 S.nd (pcF (E := E0) (atJ.mono (by decide)) hr ad4 (paK (pvL 0) (paK (pvL 1) aal)))) (aak (psL 3 S.nd (pcF (E := E0) (atL.mono (by decide)) hr ad4 (paK (pvL 2) aal))) (aak (psL 4 S.nd (pcF (E := E0) (ac1.mono (by decide)) hr ad4 (paK (pvL 3) (paK (abb adB (pcB aaX M.acJ (paK (pvL 3) aal)) aas) aal)))) (aak (psL 5 S.nd (pcF (E := E0) (amR.mono (by decide)) hr ad4 (paK (pcB aaX M.acJ (paK (pvL 3) aal)) (paK (pvL 2) aal)))) (aak (ahL PassesOwn.never rfl (adG (acH (paK (pvL 3) (paK (pcF (E := E0) (apn.mono (by decide)) hr ad4 (paK (pvL 3) (paK (pvL 2) aal))) (paK (pcF (E := E0) (apn.mono (by decide)) hr ad4 (paK (pvL 3) (paK (pvL 2) aal))) aal))))) (pgL 6 S.nd) (aaz (aci (PW.pt (aea (ab7 (abt (pcF (E := E0) (apo.mono (by decide)) hr ad4 (paK (pvL 6) (paK (pvL 5) aal))) (by intro _; rfl))) (adA (ab7 (abt (pcF (E := E0) (apo.mono (by decide)) hr ad4 (paK (pvL 6) (paK (pcF (E := E0) (amR.mono (by decide)) hr ad4 (paK (pcB aaX M.acJ (paK (pvL 3) aal)) (paK (pvL 2) aal))) aal))) (by intro _; rfl)))))) (aaz (aaT ac8)) aa7))) (aaz (aci (abn (af4 hr.units) (pcF (E := E0) (ac1.mono (by decide)) hr ad4 (paK (pvL 3) (paK (abb adB (pcB aaX M.acJ (paK (pvL 3) aal)) aas) aal))) (pvL 4) (abq _)) (aaz (aaT ac8)) aa7))))))))) (aaz (aaT ac8))), λt hK hx => (aaF (agQ (λt1 h1 k1 => (ah9 (aia (aac (avu (h1.trans hK) (aac (avt (h1.trans hK) (aac (x_len (h1.trans hK) (aac (aaf 0) aap)) (aac (aat _) aap))) (aac (aat _) aap))) aap)) (aaA 1) acn (aaF (asy 2 (acA (h1.trans hK) k1 (aam (aam aaP)) (aac (aaf 0) (aac (aaf 1) aap)))) (aaF (aa4 (abB (h1.trans hK) (aam aaP) (aac (aaf 2) aap)) (aaA 3) acn) (aaF (aa4 (acA (h1.trans hK) k1 (aam (aam aaP)) (aac (aaf 3) (aac (agF (h1.trans hK) (x_len (h1.trans hK) (aac (aaf 3) aap)) (aat _)) aap))) (aaA 4) acn) (aaF (aa4 (abB (h1.trans hK) (aam (aam aaP)) (aac (x_len (h1.trans hK) (aac (aaf 3) aap)) (aac (aaf 2) aap))) (aaA 5) acn) (aaF (ah9 (adH (h1.trans hK) (acS (aac (aaf 3) (aac (abB (h1.trans hK) (aam (aam aaP)) (aac (aaf 3) (aac (aaf 2) aap))) (aac (abB (h1.trans hK) (aam (aam aaP)) (aac (aaf 3) (aac (aaf 2) aap))) aap))))) (aaA 6) acn (acj (aef (ab8 (acq (h1.trans hK) (acA (h1.trans hK) k1 (aam (aam aaP)) (aac (aaf 6) (aac (aaf 5) aap))))) (ab8 (acq (h1.trans hK) (acA (h1.trans hK) k1 (aam (aam aaP)) (aac (aaf 6) (aac (abB (h1.trans hK) (aam (aam aaP)) (aac (x_len (h1.trans hK) (aac (aaf 3) aap)) (aac (aaf 2) aap))) aap)))))) (aaU (adk _)) aby)) (acj (aa8 (aqi (h1.trans hK) (acA (h1.trans hK) k1 (aam (aam aaP)) (aac (aaf 3) (aac (agF (h1.trans hK) (x_len (h1.trans hK) (aac (aaf 3) aap)) (aat _)) aap))) (aaf 4))) (aaU (adk _)) aby))))))))) (aaU (adk _)))⟩)
theorem aix (a : At K mg "need_book" aek) (M : Nm mg) (afQ : PyProof.Rows.OwnCls "NoBook" (cl "NoBook") bmV "ValueError.__new__" mg base) (amS : DfX P w K mg base 5 "is_book" (["thing"] : List Str) (spP K cl 1 adM)) : DfX P w K mg base 6 "need_book" (["book"] : List Str) (spP K cl 1 aco) := by
 have S : aaR (["book"] : List Str) (["book"] : List Str) (aan aek) := ⟨rfl, rfl, rfl, by decide +kernel, rfl, by decide +kernel, by decide +kernel⟩
 exact a.dfP S (cl := cl) (by decide) (λ_ _ _ _ _ _ us hl => match us, hl with | [_], _ => by kernel_rfl) (λf cdv A outer s H E hr => ⟨_, (aaz (aci (ab7 (abt (pcF (E := E) (amS.mono (by decide)) hr aaE (paK (pvL 0) aal)) (by intro _; rfl))) (aaz (aj9 ah1 afQ PySem.F.excBase_ValueError rfl afh)) aa7)), λt hK hx => (acj (ab8 (acq hK (abA hK hx (aam aaP) (aac (aaf 0) aap)))) (akm (λH' => hx "NoBook" H') (af3 _)) aby)⟩)
theorem aiy (a : At K mg "need_list" ael) (M : Nm mg) (afR : PyProof.Rows.OwnCls "NoList" (cl "NoList") bmV "ValueError.__new__" mg base) (ak7 : DfX P w K mg base 2 "is_place" (["thing", "many"] : List Str) (spP K cl 2 acy)) : DfX P w K mg base 3 "need_list" (["book", "place"] : List Str) (spP K cl 2 acp) := by
 have S : aaR (["book", "place"] : List Str) (["book", "place"] : List Str) (aan ael) := ⟨rfl, rfl, rfl, by decide +kernel, rfl, by decide +kernel, by decide +kernel⟩
 exact a.dfP S (cl := cl) (by decide) (λ_ _ _ _ _ _ us hl => match us, hl with | [_, _], _ => by kernel_rfl) (λf cdv A outer s H E hr => ⟨_, (aaz (aci (ab7 (abt (pcF (E := E) (ak7.mono (by decide)) hr aaE (paK (pvL 1) (paK (pcB aaX M.acJ (paK (pvL 0) aal)) aal))) (by intro _; rfl))) (aaz (aj9 ah1 afR PySem.F.excBase_ValueError rfl afh)) aa7)), λt hK hx => (acj (ab8 (acq hK (abA hK hx (aam (aam aaP)) (aac (aaf 1) (aac (x_len hK (aac (aaf 0) aap)) aap))))) (akm (λH' => hx "NoList" H') (af3 _)) aby)⟩)
theorem ahx (a : At K mg "read_order" adO) (M : Nm mg) (ajo : DfX P w K mg base 6 "need_book" (["book"] : List Str) (spP K cl 1 aco)) (ajp : DfX P w K mg base 3 "need_list" (["book", "place"] : List Str) (spP K cl 2 acp)) (afz : DfX P w K mg base 4 "falling_places" (["fractions"] : List Str) (spP K cl 1 abV)) : DfX P w K mg base 7 "read_order" (["book", "place"] : List Str) (spP K cl 2 aaN) := by
 have S : aaR (["book", "place"] : List Str) (["book", "place"] : List Str) (aan adO) := ⟨rfl, rfl, rfl, by decide +kernel, rfl, by decide +kernel, by decide +kernel⟩
 exact a.dfP S (cl := cl) (by decide) (λ_ _ _ _ _ _ us hl => match us, hl with | [_, _], _ => by kernel_rfl) (λf cdv A outer s H E hr => ⟨_, (aak (psE (pcF (E := E) (ajo.mono (by decide)) hr aaE (paK (pvL 0) aal))) (aak (psE (pcF (E := E) (ajp.mono (by decide)) hr aaE (paK (pvL 0) (paK (pvL 1) aal)))) (aaz (aaT (pcF (E := E) (afz.mono (by decide)) hr aaE (paK (abY abr (pvL 0) (pvL 1) (λ_ _ => rfl)) aal)))))), λt hK hx => (aaF (amf (abA hK hx (aam aaP) (aac (aaf 0) aap))) (aaF (amf (abA hK hx (aam (aam aaP)) (aac (aaf 0) (aac (aaf 1) aap)))) (aaU (abA hK hx (aam aaP) (aac (aep hK (aaf 0) (aaf 1)) aap)))))⟩)
theorem adQ (a : At K mg "tops_on_one_bottom" abJ) (M : Nm mg) (agr : DfX P w K mg base 2 "common_bottom" (["fractions"] : List Str) (spP K cl 1 ab1)) : DfX P w K mg base 3 "tops_on_one_bottom" (["fractions"] : List Str) (spP K cl 1 abI) := by
 have S : aaR (["fractions", "bottom"] : List Str) (["fractions"] : List Str) (aan abJ) := ⟨rfl, rfl, rfl, by decide +kernel, rfl, by decide +kernel, by decide +kernel⟩
 exact a.dfP S (cl := cl) (by decide) (λ_ _ _ _ _ _ us hl => match us, hl with | [_], _ => by kernel_rfl) (λf cdv A outer s H E hr => ⟨_, (aak (psC 1 S.nd rfl (pcF (E := E) (agr.mono (by decide)) hr aaE (paK (pvL 0) aal))) (aaz (aaT (acO (sc := aan abJ) (No := (["fractions", "bottom"] : List Str)) (N := (["top", "own", "bottom"] : List Str)) (src := [none, none, some 1]) (g := (auW K 2 (anw (ac3 0) (anw (ac3 1) auV)))) rfl rfl ⟨by rfl, by decide +kernel, by decide +kernel, by decide +kernel, by rfl, by decide +kernel⟩ rfl (adG (pvL 0)) (λC s H ex => (ajW rfl (acX (pgL 0 (show List.Nodup (["top", "own", "bottom"] : List Str) by decide +kernel)) (acX (pgL 1 (show List.Nodup (["top", "own", "bottom"] : List Str) by decide +kernel)) ag2)))) (λC s H ex => (abb acR (pvL 0) (abb aex (pvC 2) (pvL 1)))))))), λt hK hx => (aaF (aa4 (abA hK hx (aam aaP) (aac (aaf 0) aap)) (aaA 1) acn) (aaU (ac7 (adH hK (aaf 0)) (adK (by decide)) (adL (js := [0, 1]) (by decide)) (auD (aif acn (aif acn akt))) (λt1 h1 k1 => (aki (h1.trans hK) (acY (aaA 0) (acY (aaA 1) ahb)))) (λt1 h1 k1 => (aga (h1.trans hK) (aaf 0) (amm (h1.trans hK) (aaf 2) (aaf 1)))))))⟩)
end
end K08
end
section
namespace L2
open PySem
@[simp] theorem Rs.abj {α β : Type} (a : α) (f : α -> Rs β) : (Rs.ok a).bind f = f a := rfl
@[simp] theorem Rs.auJ {α β : Type} (f : α -> Rs β) : (Rs.bad : Rs α).bind f = .bad := rfl
@[simp] theorem Rs.avM {α β : Type} (c : Str) (f : α -> Rs β) : (Rs.ex c : Rs α).bind f = .ex c := rfl
inductive Tg {α β : Type} (f : α -> Rs β) : Type
 | mk
noncomputable def bd {α β : Type} (r : Rs α) (f : α -> Rs β) (_ : Tg f) : Rs β := r.bind f
@[simp] theorem axM {α β : Type} (f : α -> Rs β) (a : α) (u : Tg f) : bd (.ok a) f u = f a := rfl
@[simp] theorem aw7 {α β : Type} (f : α -> Rs β) (u : Tg f) : bd .bad f u = .bad := rfl
@[simp] theorem axN {α β : Type} (f : α -> Rs β) (c : Str) (u : Tg f) : bd (.ex c) f u = .ex c := rfl
@[simp] theorem avN (f g : SF) (ρ : En) : aa6 f g ρ = ((bd (f ρ) (λp => match p.1 with
 | .nx => g p.2
 | fl => .ok (fl, p.2)) .mk)) := rfl
@[simp] theorem aw8 (c : BF) (f g : SF) (ρ : En) : sIf c f g ρ = ((bd (c ρ) (λp => if p.1 = true then f p.2 else g p.2) .mk)) := rfl
@[simp] theorem avO (f : EF) (ρ : En) : abU f ρ = ((bd (f ρ) (λp => match p.1 with
 | .v T fr => .ok (.rt T fr, p.2)
 | .s i => match p.2[i]? with
  | some (.ow ts) => .ok (.rt (.lst ts) true, p.2)
  | _ => .bad) .mk)) := rfl
@[simp] theorem avP (f : EF) (g : GF) (ρ : En) : abM f g ρ = ((bd (f ρ) (λp => match p.1 with
 | .v T _ => (bd (g T p.2) (λρ' => .ok (.nx, ρ')) .mk)
 | .s _ => .bad) .mk)) := rfl
@[simp] theorem avQ (i : Nat) (f : EF) (ρ : En) : auA i f ρ = ((bd (f ρ) (λp => match p.1 with
 | .v (.lst ts) true => .ok (.nx, p.2.set i (.ow ts))
 | _ => .bad) .mk)) := rfl
@[simp] theorem avR  (ρ : En) : acC  ρ = (.ok (.nx, ρ)) := rfl
@[simp] theorem aqN (f : SF) (ρ : En) : ae3 f ρ = (aa0 (f ρ)) := rfl
@[simp] theorem avS (i j : Nat) (fa : AF) (ρ : En) : asG i j fa ρ = ((bd (fa ρ) (λp => (bd (cls p.1) (λTs => match Ts with
 | [T, U] => .ok (.nx, (p.2.set i (.sh T)).set j (.sh U))
 | _ => .bad) .mk)) .mk)) := rfl
@[simp] theorem auK (i : Nat) (fk fe : EF) (ρ : En) : amg i fk fe ρ = ((bd (fe ρ) (λp => (bd (cls [p.1]) (λTs => (bd (con p.2 i) (λ_ => (bd (fk p.2) (λq => (bd (dr q.2 q.1) (λkT => (bd (iOf kT) (λk => (bd (con q.2 i) (λts => match Ts, ixN ts.length k with
 | [T], some j => .ok (.nx, aaZ i (ts.set j T) q.2)
 | _, _ => .bad) .mk)) .mk)) .mk)) .mk)) .mk)) .mk)) .mk)) := rfl
@[simp] theorem auL (f : EF) (ρ : En) : anV f ρ = ((bd (f ρ) (λp => .ok (.nx, p.2)) .mk)) := rfl
@[simp] theorem aqO (fi : IF) (g : GF) (b : SF) (ρ : En) : agA fi g b ρ = ((bd (fi ρ) (λp => acD g b p.1 p.2) .mk)) := rfl
@[simp] theorem avT (i : Nat) (f : SF) (ρ : En) : auB i f ρ = (f (frz i ρ)) := rfl
@[simp] theorem avU (i : Nat) (f : SF) (ρ : En) : alD i f ρ = (f (dow i ρ)) := rfl
@[simp] theorem avV (i : Nat) (p : Int -> Int -> Int) (f : EF) (ρ : En) : axD i p f ρ = (match ρ[i]? with
 | some (.sh (.int x)) => (bd (f ρ) (λq => (bd (dr q.2 q.1) (λyT => (bd (iOf yT) (λy => .ok (.nx, q.2.set i (.sh (.int (p x y))))) .mk)) .mk)) .mk)
 | _ => .bad) := rfl
@[simp] theorem avW (i : Nat) (fk : QF) (m : GM) (fa : QF) (ρ : En) : ark i fk m fa ρ = ((bd (abh ρ i) (λts => (bd (aa0 (fk ρ)) (λk => (bd (ixT ts k) (λz => match z.2 with
 | .lst us => (bd (aa0 (fa ρ)) (λT => (bd (m us [T]) (λy => .ok (.nx, ρ.set i (.dp (ts.set z.1 (.lst y.1))))) .mk)) .mk)
 | _ => .bad) .mk)) .mk)) .mk)) := rfl
@[simp] theorem auM (i : Nat) (fk fj : QF) (fe : EF) (ρ : En) : aob i fk fj fe ρ = ((bd (fe ρ) (λp => (bd (clV p.1) (λT => (bd (abh p.2 i) (λts => (bd (aa0 (fk p.2)) (λk => (bd (ixT ts k) (λz => match z.2 with
 | .lst us => (bd (aa0 (fj p.2)) (λj => (bd (ixT us j) (λy => .ok (.nx, p.2.set i (.dp (ts.set z.1 (.lst (us.set y.1 T)))))) .mk)) .mk)
 | _ => .bad) .mk)) .mk)) .mk)) .mk)) .mk)) := rfl
@[simp] theorem atM (i : Nat) (src : List (Option Nat)) (fi : IF) (g : GF) (c : BF) (f : EF) (ρ : En) : agf i src fi g c f ρ = ((bd (fi ρ) (λp => if p.1.length <= 100000 then (bd (aa0 (ai9 g c f p.1 (abe src p.2))) (λz => if aa9 src z.2 p.2 = true then .ok (.nx, (aaY src z.2 p.2).set i (.dp z.1)) else .bad) .mk) else .bad) .mk)) := rfl
@[simp] theorem avX (i : Nat) (ρ : En) : aik i ρ = (match ρ[i]? with
 | some (.sh T) => .ok T
 | _ => .bad) := rfl
@[simp] theorem axO (T : Tr) (ρ : En) : qC T ρ = .ok T := rfl
@[simp] theorem avY (i : Nat) (fk fj : QF) (ρ : En) : auE i fk fj ρ = ((bd (abh ρ i) (λts => (bd (fk ρ) (λk => (bd (ixT ts k) (λz => match z.2 with
 | .lst us => (bd (fj ρ) (λj => (bd (ixT us j) (λy => .ok y.2) .mk)) .mk)
 | _ => .bad) .mk)) .mk)) .mk)) := rfl
@[simp] theorem avZ (i : Nat) (ρ : En) : aah i ρ = (match ρ[i]? with
 | some (.sh T) => .ok (.v T false, ρ)
 | some (.ow _) => .ok (.s i, ρ)
 | some (.rf _) => .ok (.s i, ρ)
 | _ => .bad) := rfl
@[simp] theorem axP (T : Tr) (ρ : En) : eC T ρ = (.ok (.v T false, ρ)) := rfl
@[simp] theorem aw9 (Ts : List Tr) (ρ : En) : eCL Ts ρ = .ok (.v (.lst Ts) true, ρ) := rfl
@[simp] theorem axa (g : G2) (fa fb : EF) (ρ : En) : eOp g fa fb ρ = ((bd (fa ρ) (λp => (bd (fb p.2) (λq => (bd (dr q.2 p.1) (λa => (bd (dr q.2 q.1) (λb => (bd (g a b) (λz => .ok (.v z.1 z.2, q.2)) .mk)) .mk)) .mk)) .mk)) .mk)) := rfl
@[simp] theorem axb (g : G1) (fa : EF) (ρ : En) : eUn g fa ρ = ((bd (fa ρ) (λp => (bd (dr p.2 p.1) (λa => (bd (g a) (λz => .ok (.v z.1 z.2, p.2)) .mk)) .mk)) .mk)) := rfl
@[simp] theorem axc (g : GN) (fa : AF) (ρ : En) : eCB g fa ρ = ((bd (fa ρ) (λp => (bd (drs p.2 p.1) (λas => (bd (g as) (λz => .ok (.v z.1 z.2, p.2)) .mk)) .mk)) .mk)) := rfl
@[simp] theorem atN (F : FP) (fa : AF) (ρ : En) : aaM F fa ρ = ((bd (fa ρ) (λp => (bd (drs p.2 p.1) (λas => (bd (F as) (λz => if p.1.any isS = true /\ ady z = false then .bad else .ok (.v z.1 z.2, p.2)) .mk)) .mk)) .mk)) := rfl
@[simp] theorem atO (r : Nat) (F : FR) (fa : AF) (ρ : En) : aaQ r F fa ρ = ((bd (fa ρ) (λp => match p.1[r]? with
 | some (.s i) => if others r i p.1 = true then ((bd (con p.2 i) (λ_ => (bd (drs p.2 p.1) (λas => (bd (F as) (λz => if (p.1.eraseIdx r).any isS = true /\ ady z.1 = false then .bad else .ok (.v z.1.1 z.1.2, aaZ i z.2 p.2)) .mk)) .mk)) .mk)) else .bad
 | _ => .bad) .mk)) := rfl
@[simp] theorem av0 (g : AF) (ρ : En) : aeW g ρ = ((bd (g ρ) (λp => (bd (cls p.1) (λts => if ts.length <= 1000 then .ok (.v (.lst ts) true, p.2) else .bad) .mk)) .mk)) := rfl
@[simp] theorem av1 (g : AF) (ρ : En) : arf g ρ = ((bd (g ρ) (λp => (bd (cls p.1) (λts => if ts.length <= 1000 then .ok (.v (.tup ts) false, p.2) else .bad) .mk)) .mk)) := rfl
@[simp] theorem av2 (f g : EF) (ρ : En) : akY f g ρ = ((bd (abf f ρ) (λp => if p.1 = true then g p.2 else .ok (eB false, p.2)) .mk)) := rfl
@[simp] theorem axd (f g : EF) (ρ : En) : eOr f g ρ = ((bd (abf f ρ) (λp => if p.1 = true then .ok (eB true, p.2) else g p.2) .mk)) := rfl
@[simp] theorem av3 (f : EF) (ρ : En) : auz f ρ = ((bd (abf f ρ) (λp => .ok (eB (!p.1), p.2)) .mk)) := rfl
@[simp] theorem axe (c : BF) (f g : EF) (ρ : En) : eIf c f g ρ = ((bd (c ρ) (λp => if p.1 = true then f p.2 else g p.2) .mk)) := rfl
@[simp] theorem av4 (c : Ty) (fa : EF) (ρ : En) : ai6 c fa ρ = ((bd (fa ρ) (λp => (bd (dr p.2 p.1) (λa => .ok (eB (abS a c), p.2)) .mk)) .mk)) := rfl
@[simp] theorem atP (g g' : G2) (fa fb fc : EF) (ρ : En) : af7 g g' fa fb fc ρ = ((bd (fa ρ) (λp => (bd (fb p.2) (λq => (bd (dr q.2 p.1) (λa => (bd (dr q.2 q.1) (λb => (bd (g a b) (λz => (bd (bOf z.1) (λk => if k = true then (bd (fc q.2) (λs => (bd (dr s.2 q.1) (λb => (bd (dr s.2 s.1) (λc => (bd (g' b c) (λz => .ok (.v z.1 z.2, s.2)) .mk)) .mk)) .mk)) .mk) else .ok (eB false, q.2)) .mk)) .mk)) .mk)) .mk)) .mk)) .mk)) := rfl
@[simp] theorem axf (fa : EF) (fl fh : OF) (ρ : En) : eSl fa fl fh ρ = ((bd (fa ρ) (λp => (bd (fl p.2) (λl => (bd (fh l.2) (λh => (bd (dr h.2 p.1) (λa => (bd (gSl l.1 h.1 a) (λz => .ok (.v z.1 z.2, h.2)) .mk)) .mk)) .mk)) .mk)) .mk)) := rfl
@[simp] theorem auN (src : List (Option Nat)) (fi : IF) (g : GF) (c : BF) (f : EF) (ρ : En) : acv src fi g c f ρ = ((bd (fi ρ) (λp => if p.1.length <= 100000 then (bd (aa0 (adz g c f p.1 (abe src p.2))) (λz => if aa9 src z.2 p.2 = true then .ok (.v (.lst z.1) true, aaY src z.2 p.2) else .bad) .mk) else .bad) .mk)) := rfl
@[simp] theorem axg (i : Nat) (m : GM) (fa : AF) (ρ : En) : eMt i m fa ρ = ((bd (con ρ i) (λ_ => (bd (fa ρ) (λp => (bd (cls p.1) (λas => (bd (con p.2 i) (λts => (bd (m ts as) (λz => .ok (.v z.2 false, aaZ i z.1 p.2)) .mk)) .mk)) .mk)) .mk)) .mk)) := rfl
@[simp] theorem av5 (i : Nat) (m : GM) (ρ : En) : axC i m ρ = ((bd (con ρ i) (λts => (bd (m ts []) (λz => .ok (.v z.2 false, aaZ i z.1 ρ)) .mk)) .mk)) := rfl
@[simp] theorem auO (fa : EF) (ρ : En) : abf fa ρ = ((bd (fa ρ) (λp => (bd (dr p.2 p.1) (λa => (bd (bOf a) (λb => .ok (b, p.2)) .mk)) .mk)) .mk)) := rfl
@[simp] theorem av6 (fa : EF) (ρ : En) : aez fa ρ = ((bd (fa ρ) (λp => (bd (dr p.2 p.1) (λa => (bd (tru a) (λb => .ok (b, p.2)) .mk)) .mk)) .mk)) := rfl
@[simp] theorem av7 (f g : BF) (ρ : En) : auy f g ρ = ((bd (f ρ) (λp => if p.1 = true then g p.2 else .ok (false, p.2)) .mk)) := rfl
@[simp] theorem axh (f g : BF) (ρ : En) : bOr f g ρ = ((bd (f ρ) (λp => if p.1 = true then .ok (true, p.2) else g p.2) .mk)) := rfl
@[simp] theorem av8 (f : BF) (ρ : En) : aee f ρ = ((bd (f ρ) (λp => .ok (!p.1, p.2)) .mk)) := rfl
@[simp] theorem aqP  (ρ : En) : adl  ρ = (.ok (true, ρ)) := rfl
@[simp] theorem av9  (ρ : En) : aaB  ρ = (.ok ([], ρ)) := rfl
@[simp] theorem auP (f : EF) (g : AF) (ρ : En) : aad f g ρ = ((bd (f ρ) (λp => (bd (g p.2) (λq => .ok (p.1 :: q.1, q.2)) .mk)) .mk)) := rfl
@[simp] theorem atQ (f : EF) (ρ : En) : fSq f ρ = ((bd (f ρ) (λp => (bd (abk p.1) (λz => .ok (z.1, p.2)) .mk)) .mk)) := rfl
@[simp] theorem awa (fa : AF) (ρ : En) : agE fa ρ = ((bd (fa ρ) (λp => (bd (drs p.2 p.1) (λas => match as with
 | [.int j] => if okR j = true then .ok (upTo 0 j.toNat, p.2) else .bad
 | _ => .bad) .mk)) .mk)) := rfl
@[simp] theorem auQ (fa : AF) (ρ : En) : avh fa ρ = ((bd (fa ρ) (λp => (bd (drs p.2 p.1) (λas => match as with
 | [.int i, .int j] => if okR i = true /\ okR j = true then .ok (upTo i (j - i).toNat, p.2) else .bad
 | _ => .bad) .mk)) .mk)) := rfl
@[simp] theorem awb (fa : AF) (ρ : En) : axI fa ρ = ((bd (fa ρ) (λp => match p.1 with
 | [.v (.lst us) _, .v (.lst vs) _] => .ok (aw3 us vs, p.2)
 | _ => .bad) .mk)) := rfl
@[simp] theorem axi  (ρ : En) : oNo  ρ = (.ok (none, ρ)) := rfl
@[simp] theorem auR (fa : EF) (ρ : En) : akZ fa ρ = ((bd (fa ρ) (λp => (bd (dr p.2 p.1) (λa => (bd (iOf a) (λb => .ok (some b, p.2)) .mk)) .mk)) .mk)) := rfl
@[simp] theorem aqQ (i : Nat) (T : Tr) (ρ : En) : gN i T ρ = (.ok (ρ.set i (.sh T))) := rfl
@[simp] theorem axQ (n : Nat) (f : GFs) (T : Tr) (ρ : En) : gT n f T ρ = (match T with
 | .tup Ts => if Ts.length = n then f Ts ρ else .bad
 | _ => .bad) := rfl
@[simp] theorem auS  (Ts : List Tr) (ρ : En) : aeh  Ts ρ = (match Ts with
 | [] => .ok ρ
 | _ => .bad) := rfl
@[simp] theorem atR (f : GF) (g : GFs) (Ts : List Tr) (ρ : En) : abL f g Ts ρ = (match Ts with
 | T :: r => (bd (f T ρ) (λρ' => g r ρ') .mk)
 | [] => .bad) := rfl
@[simp] theorem axj (a : Tr) : aaG 1 [a] = [.sh a] := rfl
end L2
end
section
namespace BH
open PySem L2
theorem aai (i : Int) : dep (.int i) = 0 := rfl
theorem aaH (i : Bool) : dep (.bl i) = 0 := rfl
theorem aau (i : Str) : dep (.str i) = 0 := rfl
theorem aax : dep .non = 0 := rfl
theorem aay (ts : List Tr) : dep (.tup ts) = deps ts + 1 := by simp only [dep]
theorem aav (ts : List Tr) : dep (.lst ts) = deps ts + 1 := by simp only [dep]
theorem aao : deps [] = 0 := rfl
theorem aaj (t : Tr) (ts : List Tr) : deps (t :: ts) = max (dep t) (deps ts) := by simp only [deps]
theorem aar (i j : Int) : eqT (.int i) (.int j) = (i == j) := by simp only [eqT]
theorem aaI (i j : Bool) : eqT (.bl i) (.bl j) = (i == j) := by simp only [eqT]
theorem aaJ (i j : Str) : eqT (.str i) (.str j) = (i == j) := by simp only [eqT]
noncomputable def isW : Tr -> Bool
 | .int _ => true
 | _ => false
theorem aen (T : Tr) : acw [T] = .ok (.bl (isW T), false) := by cases T <;> rfl
noncomputable def wc : BF := abf (eOp gNe (aah 1) (eC (.int 0)))
noncomputable def wb : SF := asG 0 1 (aad (aah 1) (aad (eOp abd (aah 0) (aah 1)) aaB))
theorem awc (a b : Int) : wc [.sh (.int a), .sh (.int b)] = .ok (!(b == 0), [.sh (.int a), .sh (.int b)]) := rfl
theorem awd (a b : Int) (h : b ≠ 0) : wb [.sh (.int a), .sh (.int b)] = .ok (.nx, [.sh (.int b), .sh (.int (a.fmod b))]) := by
 unfold wb; simp -dsimp [aa0, frz, dow, aaZ, con, abh, eB, bOf, tru, dr, drs, cls, clV, abp, g1, g2, gI, gIC, gB, gEq, gNe, gIn, aaW, abw, abN, abd, abF, aa5, gLt, gGt, gLe, gGe, gIx, aaO, abT, aaD, aaq, abO, abP, abG, abk, okR, iOf, isS, others, abe, aaY, aa9, abl, abo, aai, aaH, aau, aax, aay, aav, aao, aaj, aar, aaI, aaJ, abS, atI, ixN, aaG, h]
theorem akC : ∀ (n : Nat) (a b : Int), b.natAbs < n -> ∃ g : Int, af8 wc wb n [.sh (.int a), .sh (.int b)] = .ok (.nx, [.sh (.int g), .sh (.int 0)]) /\ (if g < 0 then -g else g) = ((Int.gcd a b : Nat) : Int)
 | 0, a, b, h => by omega
 | n + 1, a, b, h => by
  unfold af8
  rw [awc]
  by_cases z : b = 0
  ·subst z
   exact ⟨a, rfl, apV a⟩
  ·obtain ⟨g, h1, h2⟩ := akC n b (a.fmod b) (by have := akX a b z; omega)
   refine ⟨g, ?_, by rw [h2, anO]⟩
   have e : (!(b == 0)) = true := by simp [z]
   simp only [Rs.bind, e, if_true]
   rw [awd a b z]
   exact h1
noncomputable def axk : SF := (aa6 (ae3 (agP (fuI 1) wc wb)) (abU (eCB (g1 abT) (aad (aah 0) aaB))))
theorem ajq (a b : Int) : fnP 2 axk [.int a, .int b] = .ok (.int (Int.gcd a b : Nat), false) := by
 obtain ⟨g, h1, h2⟩ := akC (b.natAbs + 1) a b (by omega)
 have h0 : aaG 2 [.int a, .int b] = [.sh (.int a), .sh (.int b)] := rfl
 have h3 : ae3 (agP (fuI 1) wc wb) [.sh (.int a), .sh (.int b)] = .ok (.nx, [.sh (.int g), .sh (.int 0)]) := by
  unfold ae3 agP
  rw [show fuI 1 [.sh (.int a), .sh (.int b)] = b.natAbs + 1 from rfl, h1]
  rfl
 rw [<-h2]
 unfold fnP axk aa6
 rw [h0, h3]
 rfl
theorem adg (a b : Int) : abv [.int a, .int b] = .ok (.int (Int.gcd a b : Nat), false) := ajq a b
noncomputable def aoz : Tr -> Tr -> Bool
 | .int p, .int q => decide (1 <= q) && (Int.gcd p q == 1)
 | _, _ => false
noncomputable def aoA : Tr -> Bool
 | .tup [a, b] => aoz a b
 | _ => false
theorem amT (n : Nat) : ((n : Int) == 1) = (n == 1) := by
 rw [Bool.eq_iff_iff]; simp; omega
theorem abW (T : Tr) : acr [T] = .ok (.bl (aoA T), false) := by
 unfold acr aeD fnP
 cases T with
 | tup ts =>
  match ts with
  | [] => rfl
  | [_] => rfl
  | [a, b] =>
   cases a <;> cases b <;> try rfl
   rename_i p q
   simp -dsimp [aa0, frz, dow, aaZ, con, abh, eB, bOf, tru, dr, drs, cls, clV, abp, g1, g2, gI, gIC, gB, gEq, gNe, gIn, aaW, abw, abN, abd, abF, aa5, gLt, gGt, gLe, gGe, gIx, aaO, abT, aaD, aaq, abO, abP, abG, abk, okR, iOf, isS, others, abe, aaY, aa9, abl, abo, aai, aaH, aau, aax, aay, aav, aao, aaj, aar, aaI, aaJ, abS, atI, ixN, aaG, aen, isW, adg, aoA, aoz, amT]
   by_cases h : 1 <= q <;> simp [h]
  | a :: b :: c :: r =>
   have : ((r.length : Int) + 1 + 1 + 1 == 2) = false := by simp; omega
   simp -dsimp [aa0, frz, dow, aaZ, con, abh, eB, bOf, tru, dr, drs, cls, clV, abp, g1, g2, gI, gIC, gB, gEq, gNe, gIn, aaW, abw, abN, abd, abF, aa5, gLt, gGt, gLe, gGe, gIx, aaO, abT, aaD, aaq, abO, abP, abG, abk, okR, iOf, isS, others, abe, aaY, aa9, abl, abo, aai, aaH, aau, aax, aay, aav, aao, aaj, aar, aaI, aaJ, abS, atI, ixN, aaG, aoA, this]
 | _ => rfl
noncomputable def aiz : Tr -> Tr -> Bool
 | .int p, .int q => decide (0 <= p) && decide (p <= q) && decide (1 <= q) && (Int.gcd p q == 1)
 | _, _ => false
noncomputable def afe : Tr -> Bool
 | .tup [a, b] => aiz a b
 | _ => false
theorem ajr (T : Tr) : ab5 [T] = .ok (.bl (afe T), false) := by
 unfold ab5 agT fnP
 cases T with
 | tup ts =>
  match ts with
  | [] => simp -dsimp [aa0, frz, dow, aaZ, con, abh, eB, bOf, tru, dr, drs, cls, clV, abp, g1, g2, gI, gIC, gB, gEq, gNe, gIn, aaW, abw, abN, abd, abF, aa5, gLt, gGt, gLe, gGe, gIx, aaO, abT, aaD, aaq, abO, abP, abG, abk, okR, iOf, isS, others, abe, aaY, aa9, abl, abo, aai, aaH, aau, aax, aay, aav, aao, aaj, aar, aaI, aaJ, abS, atI, ixN, aaG, abW, aoA, afe]
  | [_] => simp -dsimp [aa0, frz, dow, aaZ, con, abh, eB, bOf, tru, dr, drs, cls, clV, abp, g1, g2, gI, gIC, gB, gEq, gNe, gIn, aaW, abw, abN, abd, abF, aa5, gLt, gGt, gLe, gGe, gIx, aaO, abT, aaD, aaq, abO, abP, abG, abk, okR, iOf, isS, others, abe, aaY, aa9, abl, abo, aai, aaH, aau, aax, aay, aav, aao, aaj, aar, aaI, aaJ, abS, atI, ixN, aaG, abW, aoA, afe]
  | [a, b] =>
   by_cases w : isW a = true /\ isW b = true
   case neg =>
    have w1 : aoz a b = false := by cases a <;> cases b <;> first | rfl | exact absurd ⟨rfl, rfl⟩ w
    have w2 : aiz a b = false := by cases a <;> cases b <;> first | rfl | exact absurd ⟨rfl, rfl⟩ w
    simp -dsimp [aa0, frz, dow, aaZ, con, abh, eB, bOf, tru, dr, drs, cls, clV, abp, g1, g2, gI, gIC, gB, gEq, gNe, gIn, aaW, abw, abN, abd, abF, aa5, gLt, gGt, gLe, gGe, gIx, aaO, abT, aaD, aaq, abO, abP, abG, abk, okR, iOf, isS, others, abe, aaY, aa9, abl, abo, aai, aaH, aau, aax, aay, aav, aao, aaj, aar, aaI, aaJ, abS, atI, ixN, aaG, abW, aoA, afe, w1, w2]
   cases a <;> try cases w.1
   cases b <;> try cases w.2
   rename_i p q
   simp -dsimp [aa0, frz, dow, aaZ, con, abh, eB, bOf, tru, dr, drs, cls, clV, abp, g1, g2, gI, gIC, gB, gEq, gNe, gIn, aaW, abw, abN, abd, abF, aa5, gLt, gGt, gLe, gGe, gIx, aaO, abT, aaD, aaq, abO, abP, abG, abk, okR, iOf, isS, others, abe, aaY, aa9, abl, abo, aai, aaH, aau, aax, aay, aav, aao, aaj, aar, aaI, aaJ, abS, atI, ixN, aaG, abW, aoA, afe, aoz, aiz]
   by_cases h : 1 <= q <;> by_cases h2 : p.gcd q = 1 <;> by_cases h3 : 0 <= p <;> simp [h, h2, h3]
  | a :: b :: c :: r => simp -dsimp [aa0, frz, dow, aaZ, con, abh, eB, bOf, tru, dr, drs, cls, clV, abp, g1, g2, gI, gIC, gB, gEq, gNe, gIn, aaW, abw, abN, abd, abF, aa5, gLt, gGt, gLe, gGe, gIx, aaO, abT, aaD, aaq, abO, abP, abG, abk, okR, iOf, isS, others, abe, aaY, aa9, abl, abo, aai, aaH, aau, aax, aay, aav, aao, aaj, aar, aaI, aaJ, abS, atI, ixN, aaG, abW, aoA, afe]
 | _ => simp -dsimp [aa0, frz, dow, aaZ, con, abh, eB, bOf, tru, dr, drs, cls, clV, abp, g1, g2, gI, gIC, gB, gEq, gNe, gIn, aaW, abw, abN, abd, abF, aa5, gLt, gGt, gLe, gGe, gIx, aaO, abT, aaD, aaq, abO, abP, abG, abk, okR, iOf, isS, others, abe, aaY, aa9, abl, abo, aai, aaH, aau, aax, aay, aav, aao, aaj, aar, aaI, aaJ, abS, atI, ixN, aaG, abW, aoA, afe]
end BH
end
section
namespace BH
open PySem L2
theorem comp_map {f : EF} {h : Tr -> Tr} {τ : En} : ∀ (us : List Tr) (s : Sl), (∀ u ∈ us, ∃ fr, f (.sh u :: τ) = .ok (.v (h u) fr, .sh u :: τ)) -> ∃ s', adz (gN 0) adl f us (s :: τ) = .ok (us.map h, s' :: τ)
 | [], s, _ => ⟨s, rfl⟩
 | u :: us, s, q => by
  obtain ⟨fr, e⟩ := q u (by simp)
  obtain ⟨s', e'⟩ := comp_map us (.sh u) λv hv => q v (by simp [hv])
  refine ⟨s', ?_⟩
  unfold adz
  simp [e, clV, e']
theorem ajs {p : Tr -> Bool} : ∀ us : List Tr, ai5 (us.map λu => .bl (p u)) = some (us.map p)
 | [] => rfl
 | u :: us => by simp [ai5, ajs us]
theorem ahy {F : FP} {p : Tr -> Bool} {us : List Tr} {ρ : En} {i : IF} {fe : EF} (hl : us.length <= 100000) (hi : i ρ = .ok (us, ρ)) (hf : ∀ u ∈ us, ∃ fr, fe [.sh u] = .ok (.v (.bl (p u)) fr, [.sh u])) : eCB (g1 abG) (aad (acv [none] i (gN 0) adl fe) aaB) ρ = .ok (.v (.bl (us.all p)) false, ρ) := by
 obtain ⟨s', e⟩ := comp_map (h := λu => .bl (p u)) us .un hf
 simp -dsimp [aa0, frz, dow, aaZ, con, abh, eB, bOf, tru, dr, drs, cls, clV, abp, g1, g2, gI, gIC, gB, gEq, gNe, gIn, aaW, abw, abN, abd, abF, aa5, gLt, gGt, gLe, gGe, gIx, aaO, abT, aaD, aaq, abO, abP, abG, abk, okR, iOf, isS, others, abe, aaY, aa9, abl, abo, aai, aaH, aau, aax, aay, aav, aao, aaj, aar, aaI, aaJ, abS, atI, ixN, aaG, hi, hl, e, ajs]
theorem amU {p : Tr -> Bool} {us : List Tr} {ρ : En} {i : IF} {fe : EF} {j : Nat} {T : Tr} (hl : us.length <= 100000) (hi : i ρ = .ok (us, ρ)) (hj : ρ[j]? = some (.sh T)) (hf : ∀ u ∈ us, ∃ fr, fe [.sh u, .sh T] = .ok (.v (.bl (p u)) fr, [.sh u, .sh T])) : eCB (g1 abG) (aad (acv [none, some j] i (gN 0) adl fe) aaB) ρ = .ok (.v (.bl (us.all p)) false, ρ) := by
 obtain ⟨s', e⟩ := comp_map (h := λu => .bl (p u)) us .un hf
 simp -dsimp [aa0, frz, dow, aaZ, con, abh, eB, bOf, tru, dr, drs, cls, clV, abp, g1, g2, gI, gIC, gB, gEq, gNe, gIn, aaW, abw, abN, abd, abF, aa5, gLt, gGt, gLe, gGe, gIx, aaO, abT, aaD, aaq, abO, abP, abG, abk, okR, iOf, isS, others, abe, aaY, aa9, abl, abo, aai, aaH, aau, aax, aay, aav, aao, aaj, aar, aaI, aaJ, abS, atI, ixN, aaG, hi, hl, hj, e, ajs]
noncomputable def acB (m : Int) : Tr -> Bool
 | .lst ts => decide (1 <= (ts.length : Int)) && decide ((ts.length : Int) <= m) && ts.all afe
 | _ => false
theorem ahz (T : Tr) (m : Int) (hm : m <= 1000) : ab0 [T, .int m] = .ok (.bl (acB m T), false) := by
 unfold ab0 afm fnP
 cases T with
 | lst ts =>
  by_cases h1 : 1 <= (ts.length : Int)
  ·by_cases h2 : (ts.length : Int) <= m
   ·have e := ahy (F := ab5) (p := afe) (us := ts) (ρ := [.sh (.lst ts), .sh (.int m)]) (i := fSq (aah 0)) (fe := aaM ab5 (aad (aah 0) aaB)) (by omega) rfl (λu _ => ⟨false, by simp -dsimp [aa0, frz, dow, aaZ, con, abh, eB, bOf, tru, dr, drs, cls, clV, abp, g1, g2, gI, gIC, gB, gEq, gNe, gIn, aaW, abw, abN, abd, abF, aa5, gLt, gGt, gLe, gGe, gIx, aaO, abT, aaD, aaq, abO, abP, abG, abk, okR, iOf, isS, others, abe, aaY, aa9, abl, abo, aai, aaH, aau, aax, aay, aav, aao, aaj, aar, aaI, aaJ, abS, atI, ixN, aaG, ajr]⟩)
    generalize eCB (g1 abG) (aad (acv [none] (fSq (aah 0)) (gN 0) adl (aaM ab5 (aad (aah 0) aaB))) aaB) = G at e ⊢
    simp -dsimp [aa0, frz, dow, aaZ, con, abh, eB, bOf, tru, dr, drs, cls, clV, abp, g1, g2, gI, gIC, gB, gEq, gNe, gIn, aaW, abw, abN, abd, abF, aa5, gLt, gGt, gLe, gGe, gIx, aaO, abT, aaD, aaq, abO, abP, abG, abk, okR, iOf, isS, others, abe, aaY, aa9, abl, abo, aai, aaH, aau, aax, aay, aav, aao, aaj, aar, aaI, aaJ, abS, atI, ixN, aaG, h1, h2, e, acB]
   ·simp -dsimp [aa0, frz, dow, aaZ, con, abh, eB, bOf, tru, dr, drs, cls, clV, abp, g1, g2, gI, gIC, gB, gEq, gNe, gIn, aaW, abw, abN, abd, abF, aa5, gLt, gGt, gLe, gGe, gIx, aaO, abT, aaD, aaq, abO, abP, abG, abk, okR, iOf, isS, others, abe, aaY, aa9, abl, abo, aai, aaH, aau, aax, aay, aav, aao, aaj, aar, aaI, aaJ, abS, atI, ixN, aaG, h1, h2, acB]
  ·simp -dsimp [aa0, frz, dow, aaZ, con, abh, eB, bOf, tru, dr, drs, cls, clV, abp, g1, g2, gI, gIC, gB, gEq, gNe, gIn, aaW, abw, abN, abd, abF, aa5, gLt, gGt, gLe, gGe, gIx, aaO, abT, aaD, aaq, abO, abP, abG, abk, okR, iOf, isS, others, abe, aaY, aa9, abl, abo, aai, aaH, aau, aax, aay, aav, aao, aaj, aar, aaI, aaJ, abS, atI, ixN, aaG, h1, acB]
 | _ => simp -dsimp [aa0, frz, dow, aaZ, con, abh, eB, bOf, tru, dr, drs, cls, clV, abp, g1, g2, gI, gIC, gB, gEq, gNe, gIn, aaW, abw, abN, abd, abF, aa5, gLt, gGt, gLe, gGe, gIx, aaO, abT, aaD, aaq, abO, abP, abG, abk, okR, iOf, isS, others, abe, aaY, aa9, abl, abo, aai, aaH, aau, aax, aay, aav, aao, aaj, aar, aaI, aaJ, abS, atI, ixN, aaG, acB]
noncomputable def afg : Tr -> Int
 | .lst ts => ts.length
 | _ => -1
noncomputable def afp : Tr -> Bool
 | .lst rs => decide (1 <= (rs.length : Int)) && decide ((rs.length : Int) <= 4) && rs.all (acB 12) && rs.all λr => afg r == afg (rs.headD .non)
 | _ => false
theorem aeQ {m : Int} {T : Tr} (h : acB m T = true) : ∃ ts, T = .lst ts := by
 cases T <;> first | exact ⟨_, rfl⟩ | cases h
theorem agX (T : Tr) : adM [T] = .ok (.bl (afp T), false) := by
 unfold adM ais fnP
 cases T with
 | lst ts =>
  by_cases h1 : 1 <= (ts.length : Int)
  ·by_cases h2 : (ts.length : Int) <= 4
   ·have e := ahy (F := ab5) (p := acB 12) (us := ts) (ρ := [.sh (.lst ts)]) (i := fSq (aah 0)) (fe := (aaM ab0 (aad (aah 0) (aad (eC (.int 12)) aaB)))) (by omega) rfl (λu _ => ⟨false, by simp -dsimp [aa0, frz, dow, aaZ, con, abh, eB, bOf, tru, dr, drs, cls, clV, abp, g1, g2, gI, gIC, gB, gEq, gNe, gIn, aaW, abw, abN, abd, abF, aa5, gLt, gGt, gLe, gGe, gIx, aaO, abT, aaD, aaq, abO, abP, abG, abk, okR, iOf, isS, others, abe, aaY, aa9, abl, abo, aai, aaH, aau, aax, aay, aav, aao, aaj, aar, aaI, aaJ, abS, atI, ixN, aaG, ahz]⟩)
    generalize eCB (g1 abG) (aad (acv [none] (fSq (aah 0)) (gN 0) adl (aaM ab0 (aad (aah 0) (aad (eC (.int 12)) aaB)))) aaB) = G at e ⊢
    cases h3 : ts.all (acB 12) with
    | false => rw [h3] at e; simp -dsimp [aa0, frz, dow, aaZ, con, abh, eB, bOf, tru, dr, drs, cls, clV, abp, g1, g2, gI, gIC, gB, gEq, gNe, gIn, aaW, abw, abN, abd, abF, aa5, gLt, gGt, gLe, gGe, gIx, aaO, abT, aaD, aaq, abO, abP, abG, abk, okR, iOf, isS, others, abe, aaY, aa9, abl, abo, aai, aaH, aau, aax, aay, aav, aao, aaj, aar, aaI, aaJ, abS, atI, ixN, aaG, h1, h2, e, afp, h3]
    | true =>
     have h4 := List.all_eq_true.mp h3
     obtain ⟨r0, rs, rfl⟩ : ∃ r0 rs, ts = r0 :: rs := by cases ts with
      | nil => simp at h1
      | cons a b => exact ⟨a, b, rfl⟩
     obtain ⟨l0, rfl⟩ := aeQ (h4 r0 (by simp))
     have e2 := amU (p := λr => afg r == (l0.length : Int)) (us := .lst l0 :: rs) (ρ := [.sh (.lst (.lst l0 :: rs))]) (j := 0) (T := .lst (.lst l0 :: rs)) (i := fSq (aah 0)) (fe := (eOp gEq (eCB (g1 aaO) (aad (aah 0) aaB)) (eCB (g1 aaO) (aad (eOp gIx (aah 1) (eC (.int 0))) aaB)))) (by omega) rfl rfl (λu hu => ⟨false, by
      obtain ⟨l, rfl⟩ := aeQ (h4 u hu)
      have : (0 : Int) < (rs.length : Int) + 1 := by omega
      simp -dsimp [aa0, frz, dow, aaZ, con, abh, eB, bOf, tru, dr, drs, cls, clV, abp, g1, g2, gI, gIC, gB, gEq, gNe, gIn, aaW, abw, abN, abd, abF, aa5, gLt, gGt, gLe, gGe, gIx, aaO, abT, aaD, aaq, abO, abP, abG, abk, okR, iOf, isS, others, abe, aaY, aa9, abl, abo, aai, aaH, aau, aax, aay, aav, aao, aaj, aar, aaI, aaJ, abS, atI, ixN, aaG, afg, this]⟩)
     generalize eCB (g1 abG) (aad (acv [none, some 0] (fSq (aah 0)) (gN 0) adl (eOp gEq (eCB (g1 aaO) (aad (aah 0) aaB)) (eCB (g1 aaO) (aad (eOp gIx (aah 1) (eC (.int 0))) aaB)))) aaB) = G2 at e2 ⊢
     rw [h3] at e
     have e3 : afp (.lst (.lst l0 :: rs)) = (Tr.lst l0 :: rs).all (λr => afg r == (l0.length : Int)) := by
      show (decide (1 <= ((Tr.lst l0 :: rs).length : Int)) && decide (((Tr.lst l0 :: rs).length : Int) <= 4) && (Tr.lst l0 :: rs).all (acB 12) && (Tr.lst l0 :: rs).all λr => afg r == afg (.lst l0)) = _
      rw [h3, decide_eq_true h1, decide_eq_true h2]
      rfl
     rw [e3]
     generalize (Tr.lst l0 :: rs).all (λr => afg r == (l0.length : Int)) = bb at e2
     have h1' : (1 : Int) <= (rs.length : Int) + 1 := by omega
     have h2' : (rs.length : Int) + 1 <= 4 := by simp only [List.length_cons] at h2; omega
     simp -dsimp [aa0, frz, dow, aaZ, con, abh, eB, bOf, tru, dr, drs, cls, clV, abp, g1, g2, gI, gIC, gB, gEq, gNe, gIn, aaW, abw, abN, abd, abF, aa5, gLt, gGt, gLe, gGe, gIx, aaO, abT, aaD, aaq, abO, abP, abG, abk, okR, iOf, isS, others, abe, aaY, aa9, abl, abo, aai, aaH, aau, aax, aay, aav, aao, aaj, aar, aaI, aaJ, abS, atI, ixN, aaG, h1', h2', e, e2]
   ·simp -dsimp [aa0, frz, dow, aaZ, con, abh, eB, bOf, tru, dr, drs, cls, clV, abp, g1, g2, gI, gIC, gB, gEq, gNe, gIn, aaW, abw, abN, abd, abF, aa5, gLt, gGt, gLe, gGe, gIx, aaO, abT, aaD, aaq, abO, abP, abG, abk, okR, iOf, isS, others, abe, aaY, aa9, abl, abo, aai, aaH, aau, aax, aay, aav, aao, aaj, aar, aaI, aaJ, abS, atI, ixN, aaG, h1, h2, afp]
  ·simp -dsimp [aa0, frz, dow, aaZ, con, abh, eB, bOf, tru, dr, drs, cls, clV, abp, g1, g2, gI, gIC, gB, gEq, gNe, gIn, aaW, abw, abN, abd, abF, aa5, gLt, gGt, gLe, gGe, gIx, aaO, abT, aaD, aaq, abO, abP, abG, abk, okR, iOf, isS, others, abe, aaY, aa9, abl, abo, aai, aaH, aau, aax, aay, aav, aao, aaj, aar, aaI, aaJ, abS, atI, ixN, aaG, h1, afp]
 | _ => simp -dsimp [aa0, frz, dow, aaZ, con, abh, eB, bOf, tru, dr, drs, cls, clV, abp, g1, g2, gI, gIC, gB, gEq, gNe, gIn, aaW, abw, abN, abd, abF, aa5, gLt, gGt, gLe, gGe, gIx, aaO, abT, aaD, aaq, abO, abP, abG, abk, okR, iOf, isS, others, abe, aaY, aa9, abl, abo, aai, aaH, aau, aax, aay, aav, aao, aaj, aar, aaI, aaJ, abS, atI, ixN, aaG, afp]
end BH
end
section
namespace L2
open PySem
@[simp] theorem axl (fa : AF) (ρ : En) : eLR fa ρ = bd (fa ρ) (λp => match p.1 with
 | [.v (.int n) _] => if 0 <= n /\ n <= 1000 then .ok (.v (.lst ((List.range n.toNat).map λi : Nat => Tr.int i)) true, p.2) else .bad
 | _ => .bad) .mk := rfl
@[simp] theorem arn (F : FR) (fa : EF) (ρ : En) : aqz F fa ρ = bd (fa ρ) (λp => match p.1 with
 | .v (.lst us) true => bd (F [.lst us]) (λz => .ok (.v z.1.1 z.1.2, p.2)) .mk
 | _ => .bad) .mk := rfl
@[simp] theorem atU (kt : Tr -> Option (Int × Int)) (src : List (Option Nat)) (fa : AF) (fb : RF) (ρ : En) : akx kt src fa fb ρ = bd (fa ρ) (λp => match p.1 with
 | [.v (.int n) _] => if 0 <= n /\ n < 64 then bd (aa0 (ajc kt fb (amD src p.2) (List.range n.toNat))) (λks => .ok (.v (.lst ((amA n.toNat λi => ks.getD i (0, 0)).map λi : Nat => Tr.int i)) true, p.2)) .mk else .bad
 | _ => .bad) .mk := rfl
end L2
namespace BH
open PySem L2
noncomputable def fT (x : Int × Int) : Tr := .tup [.int x.1, .int x.2]
theorem lg2 {k : Int} {M : Nat} (h : k.natAbs < 2 ^ M) (hM : M <= 8000) : k.natAbs.log2 < 9000 := by
 by_cases z : k.natAbs = 0
 ·rw [z]; decide
 ·have := (Nat.log2_lt (n := k.natAbs) (k := M) z).mpr h
  omega
theorem apq {k : Int} {M : Nat} (h : k.natAbs < 2 ^ M) (hM : M <= 8000) : fit k = true := by
 have := lg2 h hM
 unfold fit
 rw [decide_eq_true_eq]
 omega
theorem amV {i j : Int} {M N : Nat} (h1 : i.natAbs < 2 ^ M) (hM : M <= 8000) (h2 : j.natAbs < 2 ^ N) (hN : N <= 8000) : aed i j = true := by
 unfold aed
 rw [apq h1 hM, apq h2 hN]
 rfl
theorem ahA {i j : Int} {M : Nat} (h0 : j ≠ 0) (h : j.natAbs < 2 ^ M) (hM : M <= 8000) : ah3 i j = true := by
 unfold ah3
 rw [Bool.and_eq_true, decide_eq_true_eq, decide_eq_true_eq]
 exact ⟨h0, lg2 h hM⟩
theorem aoB {B q : Int} (hB : 1 <= B) (hq : 1 <= q) : let B' := (B * q).fdiv ((Int.gcd B q : Nat) : Int); 1 <= B' /\ B ∣ B' /\ q ∣ B' /\ B' <= B * q := by
 have g0 : 0 < Int.gcd B q := Int.gcd_pos_of_ne_zero_left _ (by omega)
 obtain ⟨b, hb⟩ := Int.gcd_dvd_left (a := B) (b := q)
 obtain ⟨o, ho⟩ := Int.gcd_dvd_right (a := B) (b := q)
 generalize hg : ((Int.gcd B q : Nat) : Int) = g at hb ho
 have g1 : 0 < g := by omega
 have b1 : 0 < b := by
  rcases Int.lt_or_le 0 b with z | z
  ·exact z
  ·have := Int.mul_nonpos_of_nonneg_of_nonpos (a := g) (b := b) (by omega) z; omega
 have o1 : 0 < o := by
  rcases Int.lt_or_le 0 o with z | z
  ·exact z
  ·have := Int.mul_nonpos_of_nonneg_of_nonpos (a := g) (b := o) (by omega) z; omega
 have e : (B * q).fdiv g = B * o := by
  rw [Int.fdiv_eq_ediv_of_nonneg _ (by omega)]
  have : B * q = g * (B * o) := by rw [ho]; ac_rfl
  rw [this]
  exact Int.mul_ediv_cancel_left _ (by omega)
 dsimp only
 rw [e]
 refine ⟨?_, ⟨o, rfl⟩, ⟨b, ?_⟩, ?_⟩
 ·have := Int.mul_pos (a := B) (b := o) (by omega) o1; omega
 ·conv => lhs; rw [hb]
  conv => rhs; rw [ho]
  ac_rfl
 ·refine Int.mul_le_mul_of_nonneg_left ?_ (by omega)
  rw [ho]
  have := Int.mul_le_mul_of_nonneg_right (a := 1) (b := g) (c := o) (by omega) (by omega)
  omega
noncomputable def cbB : SF := (abM (eOp abN (eOp abw (aah 1) (aah 3)) (aaM abv (aad (aah 1) (aad (aah 3) aaB)))) (gN 1))
theorem atV (s0 : Sl) (B p q : Int) {M N : Nat} (hB : 1 <= B) (hq : 1 <= q) (hB2 : B < 2 ^ M) (hM : M <= 8000) (hq2 : q < 2 ^ N) (hN : N <= 8000) : cbB [s0, .sh (.int B), .sh (.int p), .sh (.int q)] = .ok (.nx, [s0, .sh (.int ((B * q).fdiv ((Int.gcd B q : Nat) : Int))), .sh (.int p), .sh (.int q)]) := by
 have g0 : 0 < Int.gcd B q := Int.gcd_pos_of_ne_zero_left _ (by omega)
 have gl : Int.gcd B q <= q.natAbs := Nat.le_of_dvd (by omega) (Int.gcd_dvd_natAbs_right ..)
 have eM : ((2 ^ M : Nat) : Int) = 2 ^ M := by push_cast; rfl
 have eN : ((2 ^ N : Nat) : Int) = 2 ^ N := by push_cast; rfl
 have c1 : aed B q = true := amV (M := M) (N := N) (by omega) hM (by omega) hN
 have c2 : ∀ i, ah3 i ((Int.gcd B q : Nat) : Int) = true := λi => ahA (M := N) (by omega) (by omega) hN
 unfold cbB
 simp -dsimp [aa0, frz, dow, aaZ, con, abh, eB, bOf, tru, dr, drs, cls, clV, abp, g1, g2, gI, gIC, gB, gEq, gNe, gIn, aaW, abw, abN, abd, abF, aa5, gLt, gGt, gLe, gGe, gIx, aaO, abT, aaD, aaq, abO, abP, abG, abk, okR, iOf, isS, others, abe, aaY, aa9, abl, abo, aai, aaH, aau, aax, aay, aav, aao, aaj, aar, aaI, aaJ, abS, atI, ixN, aaG, adg, c1, c2]
noncomputable def Fr (N : Nat) (l : List (Int × Int)) : Prop := ∀ x ∈ l, 1 <= x.2 /\ x.2 < 2 ^ N
theorem amW {N : Nat} (s0 : Sl) : ∀ (l : List (Int × Int)) (B : Int) (M : Nat) (s2 s3 : Sl), Fr N l -> 1 <= B -> B < 2 ^ M -> M + N * l.length <= 8000 -> N <= 8000 -> ∃ B' t2 t3, acD (gT 2 (abL (gN 2) (abL (gN 3) aeh))) cbB (l.map fT) [s0, .sh (.int B), s2, s3] = .ok (.nx, [s0, .sh (.int B'), t2, t3]) /\ 1 <= B' /\ B' < 2 ^ (M + N * l.length) /\ B ∣ B' /\ ∀ x ∈ l, x.2 ∣ B'
 | [], B, M, s2, s3, _, h1, h2, _, _ => ⟨B, s2, s3, rfl, h1, by simpa using h2, Int.dvd_refl _, by simp⟩
 | x :: l, B, M, s2, s3, h, h1, h2, h3, h4 => by
  obtain ⟨a1, a2⟩ := h x (by simp)
  obtain ⟨b1, b2, b3, b4⟩ := aoB h1 a1
  have e := atV s0 B x.1 x.2 h1 a1 h2 (by omega) a2 h4
  generalize (B * x.2).fdiv ((Int.gcd B x.2 : Nat) : Int) = B1 at b1 b2 b3 b4 e
  have lt : B1 < 2 ^ (M + N) := by
   have p1 : (0 : Int) < 2 ^ N := Int.pow_pos (by omega)
   have q1 : B * x.2 <= B * 2 ^ N := Int.mul_le_mul_of_nonneg_left (by omega) (by omega)
   have q2 : B * 2 ^ N < 2 ^ M * 2 ^ N := Int.mul_lt_mul_of_pos_right h2 p1
   rw [Int.pow_add]
   omega
  rw [List.length_cons] at h3
  have hm : M + N + N * l.length = M + N * (l.length + 1) := by rw [Nat.mul_succ]; omega
  obtain ⟨B', t2, t3, e', c1, c2, c3, c4⟩ := amW s0 l B1 (M + N) (.sh (.int x.1)) (.sh (.int x.2)) (λy hy => h y (by simp [hy])) b1 lt (by omega) h4
  refine ⟨B', t2, t3, ?_, c1, by rw [List.length_cons, <-hm]; exact c2, Int.dvd_trans b2 c3, λy hy => ?_⟩
  ·show acD _ cbB (fT x :: l.map fT) _ = _
   unfold acD
   rw [show (gT 2 (abL (gN 2) (abL (gN 3) aeh))) (fT x) [s0, .sh (.int B), s2, s3] = .ok [s0, .sh (.int B), .sh (.int x.1), .sh (.int x.2)] from rfl]
   simp only [Rs.abj]
   rw [e]
   exact e'
  ·rcases List.mem_cons.mp hy with rfl | hy
   ·exact Int.dvd_trans b3 c3
   ·exact c4 y hy
theorem afA {N : Nat} (l : List (Int × Int)) (h : Fr N l) (hl : 1 + N * l.length <= 8000) (hN : N <= 8000) : ∃ B, ab1 [.lst (l.map fT)] = .ok (.int B, false) /\ 1 <= B /\ B < 2 ^ (1 + N * l.length) /\ ∀ x ∈ l, x.2 ∣ B := by
 obtain ⟨B, t2, t3, e, h1, h2, _, h3⟩ := amW (.sh (.lst (l.map fT))) l 1 1 .un .un h (by omega) (by omega) hl hN
 refine ⟨B, ?_, h1, h2, h3⟩
 show fnP 4 (aa6 (abM (eC (.int 1)) (gN 1)) (aa6 (ae3 (agA (fSq (aah 0)) (gT 2 (abL (gN 2) (abL (gN 3) aeh))) cbB)) (abU (aah 1)))) [.lst (l.map fT)] = _
 have e1 : ae3 (agA (fSq (aah 0)) (gT 2 (abL (gN 2) (abL (gN 3) aeh))) cbB) [.sh (.lst (l.map fT)), .sh (.int 1), .un, .un] = .ok (.nx, [.sh (.lst (l.map fT)), .sh (.int B), t2, t3]) := by
  unfold ae3 agA
  show aa0 (acD _ cbB (l.map fT) _) = _
  rw [e]
  rfl
 generalize ae3 _ = G at e1 ⊢
 generalize Tr.lst (l.map fT) = T at e1 ⊢
 unfold fnP
 simp -dsimp [aa0, frz, dow, aaZ, con, abh, eB, bOf, tru, dr, drs, cls, clV, abp, g1, g2, gI, gIC, gB, gEq, gNe, gIn, aaW, abw, abN, abd, abF, aa5, gLt, gGt, gLe, gGe, gIx, aaO, abT, aaD, aaq, abO, abP, abG, abk, okR, iOf, isS, others, abe, aaY, aa9, abl, abo, aai, aaH, aau, aax, aay, aav, aao, aaj, aar, aaI, aaJ, abS, atI, ixN, aaG, e1]
noncomputable def tpE : EF := (eOp abw (aah 0) (eOp abN (aah 2) (aah 1)))
theorem aiA {B : Int} {M N : Nat} (hB : 1 <= B) (hB2 : B < 2 ^ M) (hM : M <= 8000) (hN : N <= 8000) : ∀ (l : List (Int × Int)) (s0 s1 : Sl), Fr N l -> (∀ x ∈ l, x.1.natAbs < 2 ^ N) -> ∃ t0 t1, adz (gT 2 (abL (gN 0) (abL (gN 1) aeh))) adl tpE (l.map fT) [s0, s1, .sh (.int B)] = .ok (l.map λx => .int (x.1 * (B / x.2)), [t0, t1, .sh (.int B)])
 | [], s0, s1, _, _ => ⟨s0, s1, rfl⟩
 | x :: l, s0, s1, h, h' => by
  obtain ⟨a1, a2⟩ := h x (by simp)
  have a3 := h' x (by simp)
  obtain ⟨t0, t1, e⟩ := aiA hB hB2 hM hN l (.sh (.int x.1)) (.sh (.int x.2)) (λy hy => h y (by simp [hy])) (λy hy => h' y (by simp [hy]))
  refine ⟨t0, t1, ?_⟩
  have eM : ((2 ^ M : Nat) : Int) = 2 ^ M := by push_cast; rfl
  have eN : ((2 ^ N : Nat) : Int) = 2 ^ N := by push_cast; rfl
  have d0 := Int.ediv_nonneg (a := B) (b := x.2) (by omega) (by omega)
  have d1 := Int.ediv_le_self (a := B) x.2 (by omega)
  have c1 : ah3 B x.2 = true := ahA (M := N) (by omega) (by omega) hN
  have c2 : aed x.1 (B / x.2) = true := amV (M := N) (N := M) a3 hN (by omega) hM
  have e1 : tpE [.sh (.int x.1), .sh (.int x.2), .sh (.int B)] = .ok (.v (.int (x.1 * (B / x.2))) false, [.sh (.int x.1), .sh (.int x.2), .sh (.int B)]) := by
   unfold tpE
   have fe : B.fdiv x.2 = B / x.2 := Int.fdiv_eq_ediv_of_nonneg _ (by omega)
   simp -dsimp [aa0, frz, dow, aaZ, con, abh, eB, bOf, tru, dr, drs, cls, clV, abp, g1, g2, gI, gIC, gB, gEq, gNe, gIn, aaW, abw, abN, abd, abF, aa5, gLt, gGt, gLe, gGe, gIx, aaO, abT, aaD, aaq, abO, abP, abG, abk, okR, iOf, isS, others, abe, aaY, aa9, abl, abo, aai, aaH, aau, aax, aay, aav, aao, aaj, aar, aaI, aaJ, abS, atI, ixN, aaG, c1, fe, c2]
  show adz _ adl tpE (fT x :: l.map fT) _ = _
  unfold adz
  rw [show (gT 2 (abL (gN 0) (abL (gN 1) aeh))) (fT x) [s0, s1, .sh (.int B)] = .ok [.sh (.int x.1), .sh (.int x.2), .sh (.int B)] from rfl]
  simp only [Rs.abj, aqP, if_true]
  rw [e1]
  simp only [Rs.abj, clV]
  rw [e]
  rfl
noncomputable def Frs (N : Nat) (l : List (Int × Int)) : Prop := ∀ x ∈ l, 1 <= x.2 /\ x.2 < 2 ^ N /\ x.1.natAbs < 2 ^ N
theorem Frs.fr {N : Nat} {l : List (Int × Int)} (h : Frs N l) : Fr N l := λx hx => ⟨(h x hx).1, (h x hx).2.1⟩
theorem aqR {N : Nat} (l : List (Int × Int)) (h : Frs N l) (hl : 1 + N * l.length <= 8000) (hN : N <= 8000) (hl2 : l.length <= 1000) : ∃ B, abI [.lst (l.map fT)] = .ok (.lst (l.map λx => .int (x.1 * (B / x.2))), true) /\ 1 <= B /\ ∀ x ∈ l, x.2 ∣ B := by
 obtain ⟨B, e, h1, h2, h3⟩ := afA l h.fr hl hN
 obtain ⟨t0, t1, e2⟩ := aiA h1 h2 hl hN l .un .un h.fr λx hx => (h x hx).2.2
 refine ⟨B, ?_, h1, h3⟩
 show fnP 2 (aa6 (abM (aaM ab1 (aad (aah 0) aaB)) (gN 1)) (abU (acv [none, none, some 1] (fSq (aah 0)) (gT 2 (abL (gN 0) (abL (gN 1) aeh))) adl tpE))) [.lst (l.map fT)] = _
 unfold fnP
 simp -dsimp [aa0, frz, dow, aaZ, con, abh, eB, bOf, tru, dr, drs, cls, clV, abp, g1, g2, gI, gIC, gB, gEq, gNe, gIn, aaW, abw, abN, abd, abF, aa5, gLt, gGt, gLe, gGe, gIx, aaO, abT, aaD, aaq, abO, abP, abG, abk, okR, iOf, isS, others, abe, aaY, aa9, abl, abo, aai, aaH, aau, aax, aay, aav, aao, aaj, aar, aaI, aaJ, abS, atI, ixN, aaG, e, e2, show l.length <= 100000 by omega]
noncomputable def Bfr (l : List (Int × Int)) (i j : Nat) : Prop := (l.getD j (0, 1)).1 * (l.getD i (0, 1)).2 < (l.getD i (0, 1)).1 * (l.getD j (0, 1)).2 \/ ((l.getD j (0, 1)).1 * (l.getD i (0, 1)).2 = (l.getD i (0, 1)).1 * (l.getD j (0, 1)).2 /\ i < j)
noncomputable def Fall (l : List (Int × Int)) (ys : List Nat) : Prop := ys.Perm (List.range l.length) /\ ys.Pairwise (Bfr l)
theorem akD (ts : List Int) : ∀ (is : List Nat), (∀ i ∈ is, i < ts.length) -> ajc ate (rUn asi (rOp gIx (aon 1) (aon 0))) [some (.lst (ts.map Tr.int))] is = .ok (is.map λi => (-(ts.getD i 0), 0))
 | [], _ => rfl
 | i :: is, h => by
  have hi := h i (by simp)
  have e : (rUn asi (rOp gIx (aon 1) (aon 0))) [some (Tr.int i), some (.lst (ts.map Tr.int))] = .ok (.int (-(ts.getD i 0))) := by
   unfold rUn rOp aon
   have a : atI (ts.map Tr.int) (i : Int) = some (.int (ts.getD i 0)) := by
    unfold atI ixN
    simp [hi]
   simp [gIx, a, asi]
  unfold ajc
  rw [e, akD ts is λj hj => h j (by simp [hj])]
  rfl
theorem top_lt {B p q r s : Int} (hB : 1 <= B) (hq : 1 <= q) (hs : 1 <= s) (dq : q ∣ B) (ds : s ∣ B) : (p * (B / q) < r * (B / s) ↔ p * s < r * q) /\ (p * (B / q) = r * (B / s) ↔ p * s = r * q) := by
 obtain ⟨a, ha⟩ := dq
 obtain ⟨b, hb⟩ := ds
 have e1 : B / q = a := by rw [ha]; exact Int.mul_ediv_cancel_left _ (by omega)
 have e2 : B / s = b := by rw [hb]; exact Int.mul_ediv_cancel_left _ (by omega)
 rw [e1, e2]
 have x1 : (p * a) * (q * s) = (p * s) * B := by rw [ha]; ac_rfl
 have x2 : (r * b) * (q * s) = (r * q) * B := by rw [hb]; ac_rfl
 have qs : 0 < q * s := Int.mul_pos (by omega) (by omega)
 constructor
 ·constructor
  ·intro h
   have := Int.mul_lt_mul_of_pos_right h qs
   rw [x1, x2] at this
   exact Int.lt_of_mul_lt_mul_right this (by omega)
  ·intro h
   have := Int.mul_lt_mul_of_pos_right h (show 0 < B by omega)
   rw [<-x1, <-x2] at this
   exact Int.lt_of_mul_lt_mul_right this (by omega)
 ·constructor
  ·intro h
   rw [h, x2] at x1
   exact (Int.eq_of_mul_eq_mul_right (by omega) x1).symm
  ·intro h
   rw [h, <-x2] at x1
   exact Int.eq_of_mul_eq_mul_right (by omega) x1
theorem ak8 {N : Nat} (l : List (Int × Int)) (h : Frs N l) (hl : 1 + N * l.length <= 8000) (hN : N <= 8000) (h64 : l.length < 64) : ∃ ys, abV [.lst (l.map fT)] = .ok (.lst (ys.map λi : Nat => Tr.int i), true) /\ Fall l ys := by
 obtain ⟨B, e, h1, h3⟩ := aqR l h hl hN (by omega)
 have ek := akD (l.map λx => x.1 * (B / x.2)) (List.range l.length) λi hi => by simpa using hi
 refine ⟨amA l.length λi => ((List.range l.length).map λi => (-((l.map λx => x.1 * (B / x.2)).getD i 0), (0 : Int))).getD i (0, 0), ?_, ?_⟩
 ·unfold abV adv fnP
  have z1 : (l.map λx => Tr.int (x.1 * (B / x.2))) = (l.map λx => x.1 * (B / x.2)).map Tr.int := by rw [List.map_map]; rfl
  rw [z1] at e
  generalize hts : (l.map λx => x.1 * (B / x.2)) = ts at e ek ⊢
  have tl : ts.length = l.length := by rw [<-hts, List.length_map]
  generalize Tr.lst (l.map fT) = T at e ⊢
  have q1 : (l.length : Int) < 64 := by omega
  simp -dsimp [aa0, frz, dow, aaZ, con, abh, eB, bOf, tru, dr, drs, cls, clV, abp, g1, g2, gI, gIC, gB, gEq, gNe, gIn, aaW, abw, abN, abd, abF, aa5, gLt, gGt, gLe, gGe, gIx, aaO, abT, aaD, aaq, abO, abP, abG, abk, okR, iOf, isS, others, abe, aaY, aa9, abl, abo, aai, aaH, aau, aax, aay, aav, aao, aaj, aar, aaI, aaJ, abS, atI, ixN, aaG, e, tl, q1, amD, slT, ek]
 ·have hs := aip l.length λi => ((List.range l.length).map λi => (-((l.map λx => x.1 * (B / x.2)).getD i 0), (0 : Int))).getD i (0, 0)
  refine ⟨hs.1, ?_⟩
  refine hs.2.imp_of_mem λ{i j} hi hj hb => ?_
  have hi' : i < l.length := by simpa using hs.1.mem_iff.mp hi
  have hj' : j < l.length := by simpa using hs.1.mem_iff.mp hj
  have k : ∀ i, i < l.length -> ((List.range l.length).map λi => (-((l.map λx => x.1 * (B / x.2)).getD i 0), (0 : Int))).getD i (0, 0) = (-(l[i]!.1 * (B / l[i]!.2)), 0) := λi hi => by
   rw [List.getD_eq_getElem?_getD, List.getElem?_map, List.getElem?_range hi]
   simp [hi]
  simp only [k i hi', k j hj'] at hb
  have g : ∀ i, i < l.length -> l.getD i (0, 1) = l[i]! /\ l[i]! ∈ l := λi hi => by
   refine ⟨by simp [hi], by simp [hi]⟩
  obtain ⟨g1, m1⟩ := g i hi'
  obtain ⟨g2, m2⟩ := g j hj'
  unfold Bfr
  rw [g1, g2]
  have t := top_lt (p := l[j]!.1) (r := l[i]!.1) h1 (h _ m2).1 (h _ m1).1 (h3 _ m2) (h3 _ m1)
  rw [<-t.1, <-t.2]
  omega
theorem afq {T : Tr} (h : afp T = true) : aco [T] = .ok (.non, false) := by
 unfold aco aei fnP
 simp -dsimp [aa0, frz, dow, aaZ, con, abh, eB, bOf, tru, dr, drs, cls, clV, abp, g1, g2, gI, gIC, gB, gEq, gNe, gIn, aaW, abw, abN, abd, abF, aa5, gLt, gGt, gLe, gGe, gIx, aaO, abT, aaD, aaq, abO, abP, abG, abk, okR, iOf, isS, others, abe, aaY, aa9, abl, abo, aai, aaH, aau, aax, aay, aav, aao, aaj, aar, aaI, aaJ, abS, atI, ixN, aaG, agX, h]
theorem ags (k n : Int) : acy [.int k, .int n] = .ok (.bl (decide (0 <= k) && decide (k < n)), false) := by
 unfold acy ae4 fnP
 by_cases h : 0 <= k <;> simp -dsimp [aa0, frz, dow, aaZ, con, abh, eB, bOf, tru, dr, drs, cls, clV, abp, g1, g2, gI, gIC, gB, gEq, gNe, gIn, aaW, abw, abN, abd, abF, aa5, gLt, gGt, gLe, gGe, gIx, aaO, abT, aaD, aaq, abO, abP, abG, abk, okR, iOf, isS, others, abe, aaY, aa9, abl, abo, aai, aaH, aau, aax, aay, aav, aao, aaj, aar, aaI, aaJ, abS, atI, ixN, aaG, aen, isW, h]
theorem aiB {rows : List Tr} {k : Nat} (h : k < rows.length) : acp [.lst rows, .int k] = .ok (.non, false) := by
 unfold acp aej fnP
 have h1 : (k : Int) < rows.length := by omega
 simp -dsimp [aa0, frz, dow, aaZ, con, abh, eB, bOf, tru, dr, drs, cls, clV, abp, g1, g2, gI, gIC, gB, gEq, gNe, gIn, aaW, abw, abN, abd, abF, aa5, gLt, gGt, gLe, gGe, gIx, aaO, abT, aaD, aaq, abO, abP, abG, abk, okR, iOf, isS, others, abe, aaY, aa9, abl, abo, aai, aaH, aau, aax, aay, aav, aao, aaj, aar, aaI, aaJ, abS, atI, ixN, aaG, ags, h1]
theorem ahB {xs : List Tr} {i : Nat} {T : Tr} (h : xs[i]? = some T) : gIx (.lst xs) (.int i) = .ok (T, false) := by
 obtain ⟨hi, e⟩ := List.getElem?_eq_some_iff.mp h
 show (match atI xs i with
  | some t => Rs.ok (t, false)
  | none => .bad) = _
 have : atI xs (i : Int) = some T := by
  unfold atI ixN
  simp [hi, e]
 rw [this]
theorem aeR {xs : List Tr} {i : Nat} {T : Tr} (h : xs[i]? = some T) : gIx (.lst xs) (.int i) = .ok (T, false) := ahB h
theorem aeS {N : Nat} {rows : List Tr} {k : Nat} {l : List (Int × Int)} (hb : afp (.lst rows) = true) (hk : rows[k]? = some (.lst (l.map fT))) (h : Frs N l) (hl : 1 + N * l.length <= 8000) (hN : N <= 8000) (h64 : l.length < 64) : ∃ ys, aaN [.lst rows, .int k] = .ok (.lst (ys.map λi : Nat => Tr.int i), true) /\ Fall l ys := by
 obtain ⟨ys, e, hf⟩ := ak8 l h hl hN h64
 refine ⟨ys, ?_, hf⟩
 have hk' : k < rows.length := (List.getElem?_eq_some_iff.mp hk).1
 have e1 := ahB hk
 have e2 := aiB hk'
 have e3 := afq hb
 generalize Tr.lst rows = R at e1 e2 e3
 generalize Tr.lst (l.map fT) = T at e e1
 unfold aaN acZ fnP
 simp -dsimp [aaG, drs, dr, isS, e1, e2, e3, e]
end BH
namespace BH
open PySem L2
noncomputable def Wo (x : Int × Int) : Prop := 0 <= x.1 /\ x.1 <= x.2 /\ 1 <= x.2 /\ x.2 <= 1000000000000 /\ Int.gcd x.1 x.2 = 1
noncomputable instance (x : Int × Int) : Decidable (Wo x) := by unfold Wo; infer_instance
noncomputable def aiC (l : List (Int × Int)) : Tr := .lst (l.map fT)
noncomputable def bkT (ls : List (List (Int × Int))) : Tr := .lst (ls.map aiC)
noncomputable def Shp (c : Nat) (ls : List (List (Int × Int))) : Prop := ∀ l ∈ ls, l.length = c /\ ∀ x ∈ l, Wo x
noncomputable def Bk (c : Nat) (ls : List (List (Int × Int))) : Prop := 1 <= ls.length /\ ls.length <= 4 /\ 1 <= c /\ c <= 12 /\ Shp c ls
theorem Wo.afe {x : Int × Int} (h : Wo x) : afe (fT x) = true := by
 obtain ⟨h1, h2, h3, h4, h5⟩ := h
 show (decide (0 <= x.1) && decide (x.1 <= x.2) && decide (1 <= x.2) && (Int.gcd x.1 x.2 == 1)) = true
 simp [h1, h2, h3, h5]
theorem Wo.frs {l : List (Int × Int)} (h : ∀ x ∈ l, Wo x) : Frs 40 l := λx hx => by
 obtain ⟨h1, h2, h3, h4, h5⟩ := h x hx
 exact ⟨h3, by omega, by omega⟩
theorem atX {l : List (Int × Int)} (h : ∀ x ∈ l, Wo x) (h1 : 1 <= l.length) (h2 : l.length <= 12) : acB 12 (aiC l) = true := by
 show (decide (1 <= ((l.map fT).length : Int)) && decide (((l.map fT).length : Int) <= 12) && (l.map fT).all afe) = true
 rw [List.length_map, decide_eq_true (by omega), decide_eq_true (by omega)]
 simp only [Bool.true_and, List.all_eq_true]
 intro t ht
 obtain ⟨x, hx, rfl⟩ := List.mem_map.mp ht
 exact (h x hx).afe
theorem Bk.afp {c : Nat} {ls : List (List (Int × Int))} (h : Bk c ls) : afp (bkT ls) = true := by
 obtain ⟨h1, h2, h3, h4, h5⟩ := h
 show (decide (1 <= ((ls.map aiC).length : Int)) && decide (((ls.map aiC).length : Int) <= 4) && (ls.map aiC).all (acB 12) && (ls.map aiC).all λr => afg r == afg ((ls.map aiC).headD .non)) = true
 rw [List.length_map, decide_eq_true (by omega), decide_eq_true (by omega)]
 simp only [Bool.true_and, Bool.and_eq_true, List.all_eq_true]
 refine ⟨λt ht => ?_, λt ht => ?_⟩
 ·obtain ⟨l, hl, rfl⟩ := List.mem_map.mp ht
  exact atX (h5 l hl).2 (by have := (h5 l hl).1; omega) (by have := (h5 l hl).1; omega)
 ·obtain ⟨l, hl, rfl⟩ := List.mem_map.mp ht
  cases ls with
  | nil => simp at hl
  | cons l0 r =>
   show (afg (aiC l) == afg (aiC l0)) = true
   show (((l.map fT).length : Int) == ((l0.map fT).length : Int)) = true
   rw [List.length_map, List.length_map, (h5 l hl).1, (h5 l0 (by simp)).1]
   simp
theorem order_eq {c : Nat} {ls : List (List (Int × Int))} (h : Bk c ls) {k : Nat} {l : List (Int × Int)} (hk : ls[k]? = some l) : ∃ ys, aaN [bkT ls, .int k] = .ok (.lst (ys.map λi : Nat => Tr.int i), true) /\ Fall l ys := by
 have hl := h.2.2.2.2 l (List.mem_of_getElem? hk)
 have := h.2.2.2.1
 exact aeS (N := 40) h.afp (by rw [List.getElem?_map, hk]; rfl) (Wo.frs hl.2) (by rw [hl.1]; omega) (by omega) (by rw [hl.1]; omega)
end BH
end
section
namespace L2
open PySem
@[simp] theorem awe (fa : EF) (ρ : En) : axG fa ρ = bd (fa ρ) (λp => bd (dr p.2 p.1) (λa => bd (aw1 a) (λz => .ok (.v z.1 z.2, p.2)) .mk) .mk) .mk := rfl
end L2
namespace BH
open PySem L2
theorem aiD : ∀ ys : List Nat, deps (ys.map λi : Nat => Tr.int i) = 0
 | [] => rfl
 | y :: ys => by rw [List.map_cons, aaj, aai, aiD ys]; rfl
theorem akE {T : Tr} (h : dep T <= 40) : gNe T T = .ok (.bl false, false) := by
 unfold gNe
 rw [if_pos ⟨h, h⟩, afI]
 rfl
theorem aoC {T : Tr} (h : dep T <= 40) : gEq T T = .ok (.bl true, false) := by
 unfold gEq
 rw [if_pos ⟨h, h⟩, afI]
end BH
end
section
namespace BH
open PySem L2
noncomputable def lt2 (x y : Int × Int) : Bool := decide (x.1 * y.2 < y.1 * x.2)
end BH
end
section
namespace BH
open PySem L2
noncomputable def le2 (x y : Int × Int) : Prop := x.1 * y.2 <= y.1 * x.2
end BH
end
section
namespace BH
open PySem L2
noncomputable def Dsc (xs zs : List (Int × Int)) : Prop := zs.Perm xs /\ zs.Pairwise λa b => le2 b a
noncomputable def ov (t x : Int × Int) : Bool := lt2 t x
end BH
end
section
namespace BH
open PySem L2
end BH
end
section
namespace L2
open PySem
@[simp] theorem awf (d : Str) (fa : EF) (ρ : En) : air d fa ρ = bd (fa ρ) (λp => bd (dr p.2 p.1) (λa => match isc a d with
 | some b => .ok (eB b, p.2)
 | none => .bad) .mk) .mk := rfl
@[simp] theorem awg (fa : EF) (ρ : En) : avG fa ρ = bd (fa ρ) (λp => bd (dr p.2 p.1) (λa => match isv a with
 | some b => .ok (eB b, p.2)
 | none => .bad) .mk) .mk := rfl
@[simp] theorem atY (c : Str) (f : EF) (ρ : En) : akl c f ρ = bd (f ρ) (λ_ => .ex c) .mk := rfl
theorem aqS {cs : List Str} {j : Nat} {fb fh : SF} {ρ : En} {q : Fl × En} (h : fb ρ = .ok q) : alE cs j fb fh ρ = .ok q := by
 unfold alE
 rw [h]
theorem aqT {cs : List Str} {j : Nat} {fb fh : SF} {ρ : En} {c : Str} (h : fb ρ = .ex c) (hc : c ∈ cs) : alE cs j fb fh ρ = bd (aa0 (fh (ρ.set j (.sh (.exn c))))) (λq => .ok (q.1, q.2.set j .un)) .mk := by
 unfold alE
 rw [h]
 exact if_pos hc
end L2
namespace BH
open PySem L2
theorem aiE {T : Tr} (h : afp T = false) : aco [T] = .ex "NoBook" := by
 have e := agX T
 rw [h] at e
 unfold aco aei fnP
 simp -dsimp [aaG, drs, dr, isS, e, tru]
end BH
end
section
namespace BH
open PySem L2
end BH
end
section
namespace K08
open PySem L2 BH
theorem amX {α : Type} (a : α) : aa0 (.ok a) = .ok a := rfl
theorem ad0 (T : Tr) : acF [T] = .ok (.bl (isW T), false) := by cases T <;> rfl
theorem aeT (a b : Int) : adp [.int a, .int b] = .ok (.int (Int.gcd a b : Nat), false) := ajq a b
theorem aiF (T : Tr) : ab6 [T] = .ok (.bl (afe T), false) := by
 unfold ab6 agW fnP
 cases T with
 | tup ts =>
  match ts with
  | [] => rfl
  | [_] => rfl
  | [a, b] =>
   by_cases w : isW a = true
   case neg =>
    have w2 : aiz a b = false := by cases a <;> first | rfl | exact absurd rfl w
    rw [Bool.not_eq_true] at w
    simp -dsimp [aa0, frz, dow, aaZ, con, abh, eB, bOf, tru, dr, drs, cls, clV, abp, g1, g2, gI, gIC, gB, gEq, gNe, gIn, aaW, abw, abN, abd, abF, aa5, gLt, gGt, gLe, gGe, gIx, aaO, abT, aaD, aaq, abO, abP, abG, abk, okR, iOf, isS, others, abe, aaY, aa9, abl, abo, aai, aaH, aau, aax, aay, aav, aao, aaj, aar, aaI, aaJ, abS, atI, ixN, aaG, afe, w, w2, ad0]
   by_cases w' : isW b = true
   case neg =>
    have w2 : aiz a b = false := by cases a <;> cases b <;> first | rfl | exact absurd rfl w'
    rw [Bool.not_eq_true] at w'
    simp -dsimp [aa0, frz, dow, aaZ, con, abh, eB, bOf, tru, dr, drs, cls, clV, abp, g1, g2, gI, gIC, gB, gEq, gNe, gIn, aaW, abw, abN, abd, abF, aa5, gLt, gGt, gLe, gGe, gIx, aaO, abT, aaD, aaq, abO, abP, abG, abk, okR, iOf, isS, others, abe, aaY, aa9, abl, abo, aai, aaH, aau, aax, aay, aav, aao, aaj, aar, aaI, aaJ, abS, atI, ixN, aaG, afe, w, w', w2, ad0]
   cases a <;> try cases w
   cases b <;> try cases w'
   rename_i p q
   by_cases h : q < 1
   ·have h1 : ¬ 1 <= q := by omega
    simp -dsimp [aa0, frz, dow, aaZ, con, abh, eB, bOf, tru, dr, drs, cls, clV, abp, g1, g2, gI, gIC, gB, gEq, gNe, gIn, aaW, abw, abN, abd, abF, aa5, gLt, gGt, gLe, gGe, gIx, aaO, abT, aaD, aaq, abO, abP, abG, abk, okR, iOf, isS, others, abe, aaY, aa9, abl, abo, aai, aaH, aau, aax, aay, aav, aao, aaj, aar, aaI, aaJ, abS, atI, ixN, aaG, afe, aiz, ad0, isW, h, h1]
   ·have h1 : 1 <= q := by omega
    simp -dsimp [aa0, frz, dow, aaZ, con, abh, eB, bOf, tru, dr, drs, cls, clV, abp, g1, g2, gI, gIC, gB, gEq, gNe, gIn, aaW, abw, abN, abd, abF, aa5, gLt, gGt, gLe, gGe, gIx, aaO, abT, aaD, aaq, abO, abP, abG, abk, okR, iOf, isS, others, abe, aaY, aa9, abl, abo, aai, aaH, aau, aax, aay, aav, aao, aaj, aar, aaI, aaJ, abS, atI, ixN, aaG, afe, aiz, ad0, isW, h, h1, aeT, amT]
    by_cases h2 : 0 <= p <;> by_cases h3 : p <= q <;> simp [h2, h3]
  | a :: b :: c :: r =>
   have : ((r.length : Int) + 1 + 1 + 1 == 2) = false := by simp; omega
   simp -dsimp [aa0, frz, dow, aaZ, con, abh, eB, bOf, tru, dr, drs, cls, clV, abp, g1, g2, gI, gIC, gB, gEq, gNe, gIn, aaW, abw, abN, abd, abF, aa5, gLt, gGt, gLe, gGe, gIx, aaO, abT, aaD, aaq, abO, abP, abG, abk, okR, iOf, isS, others, abe, aaY, aa9, abl, abo, aai, aaH, aau, aax, aay, aav, aao, aaj, aar, aaI, aaJ, abS, atI, ixN, aaG, afe, this]
 | _ => rfl
theorem akF {p : Tr -> Bool} {b : SF} {s0 : Sl} : ∀ (us : List Tr) (s : Sl), (∀ u ∈ us, b [s0, .sh u] = .ok (if p u = true then .nx else .rt (.bl false) false, [s0, .sh u])) -> ∃ s', acD (gN 1) b us [s0, s] = .ok (if us.all p = true then .nx else .rt (.bl false) false, [s0, s'])
 | [], s, _ => ⟨s, rfl⟩
 | u :: us, s, q => by
  have e := q u (by simp)
  obtain ⟨s', e'⟩ := akF us (.sh u) λv hv => q v (by simp [hv])
  unfold acD
  cases h : p u with
  | true =>
   rw [h] at e
   refine ⟨s', ?_⟩
   simp only [aqQ, Rs.abj]
   rw [show List.set [s0, s] 1 (.sh u) = [s0, .sh u] from rfl, e, List.all_cons, h]
   exact e'
  | false =>
   rw [h] at e
   refine ⟨.sh u, ?_⟩
   simp only [aqQ, Rs.abj]
   rw [show List.set [s0, s] 1 (.sh u) = [s0, .sh u] from rfl, e, List.all_cons, h]
   rfl
noncomputable def ibB : SF := (aa6 (sIf (bOr (aee (aez (ai6 .list (aah 1)))) (bOr (abf (eOp gLt (eCB (g1 aaO) (aad (aah 1) aaB)) (eC (.int 1)))) (bOr (abf (eOp gGt (eCB (g1 aaO) (aad (aah 1) aaB)) (eC (.int 12)))) (abf (eOp gNe (eCB (g1 aaO) (aad (aah 1) aaB)) (eCB (g1 aaO) (aad (eOp gIx (aah 0) (eC (.int 0))) aaB))))))) (abU (eC (.bl false))) acC) (sIf (aee (aez (eCB (g1 abG) (aad (acv [none] (fSq (aah 1)) (gN 0) adl (aaM ab6 (aad (aah 0) aaB))) aaB)))) (abU (eC (.bl false))) acC))
theorem apr (T u : Tr) (h : abS u .list = false) : ibB [.sh T, .sh u] = .ok (.rt (.bl false) false, [.sh T, .sh u]) := by
 unfold ibB
 cases u <;> first | rfl | cases h
theorem aqU (l0 rs : List Tr) (u : Tr) : ibB [.sh (.lst (.lst l0 :: rs)), .sh u] = .ok (if (acB 12 u && afg u == afg (.lst l0)) = true then .nx else .rt (.bl false) false, [.sh (.lst (.lst l0 :: rs)), .sh u]) := by
 cases u with
 | lst l =>
  have h0 : (0 : Int) < (rs.length : Int) + 1 := by omega
  unfold ibB
  by_cases h1 : (l.length : Int) < 1
  ·have h1' : ¬ (1 : Int) <= l.length := by omega
   simp -dsimp [aa0, frz, dow, aaZ, con, abh, eB, bOf, tru, dr, drs, cls, clV, abp, g1, g2, gI, gIC, gB, gEq, gNe, gIn, aaW, abw, abN, abd, abF, aa5, gLt, gGt, gLe, gGe, gIx, aaO, abT, aaD, aaq, abO, abP, abG, abk, okR, iOf, isS, others, abe, aaY, aa9, abl, abo, aai, aaH, aau, aax, aay, aav, aao, aaj, aar, aaI, aaJ, abS, atI, ixN, aaG, h1, acB, h1']
  by_cases h2 : 12 < (l.length : Int)
  ·have h2' : ¬ (l.length : Int) <= 12 := by omega
   simp -dsimp [aa0, frz, dow, aaZ, con, abh, eB, bOf, tru, dr, drs, cls, clV, abp, g1, g2, gI, gIC, gB, gEq, gNe, gIn, aaW, abw, abN, abd, abF, aa5, gLt, gGt, gLe, gGe, gIx, aaO, abT, aaD, aaq, abO, abP, abG, abk, okR, iOf, isS, others, abe, aaY, aa9, abl, abo, aai, aaH, aau, aax, aay, aav, aao, aaj, aar, aaI, aaJ, abS, atI, ixN, aaG, h1, h2, acB, h2']
  by_cases h3 : (l.length : Int) = l0.length
  ·have e := ahy (F := ab6) (p := afe) (us := l) (ρ := [.sh (.lst (.lst l0 :: rs)), .sh (.lst l)]) (i := fSq (aah 1)) (fe := aaM ab6 (aad (aah 0) aaB)) (by omega) rfl (λu _ => ⟨false, by simp -dsimp [aa0, frz, dow, aaZ, con, abh, eB, bOf, tru, dr, drs, cls, clV, abp, g1, g2, gI, gIC, gB, gEq, gNe, gIn, aaW, abw, abN, abd, abF, aa5, gLt, gGt, gLe, gGe, gIx, aaO, abT, aaD, aaq, abO, abP, abG, abk, okR, iOf, isS, others, abe, aaY, aa9, abl, abo, aai, aaH, aau, aax, aay, aav, aao, aaj, aar, aaI, aaJ, abS, atI, ixN, aaG, aiF]⟩)
   generalize eCB (g1 abG) (aad (acv [none] (fSq (aah 1)) (gN 0) adl (aaM ab6 (aad (aah 0) aaB))) aaB) = G at e ⊢
   have h4 : (acB 12 (.lst l) && afg (.lst l) == afg (.lst l0)) = l.all afe := by
    show (decide (1 <= (l.length : Int)) && decide ((l.length : Int) <= 12) && l.all afe && ((l.length : Int) == l0.length)) = _
    rw [decide_eq_true (by omega), decide_eq_true (by omega), h3]
    simp
   rw [h4]
   generalize l.all afe = bb at e
   have h3' : ((l.length : Int) == l0.length) = true := by simp [h3]
   cases bb <;> simp -dsimp [aa0, frz, dow, aaZ, con, abh, eB, bOf, tru, dr, drs, cls, clV, abp, g1, g2, gI, gIC, gB, gEq, gNe, gIn, aaW, abw, abN, abd, abF, aa5, gLt, gGt, gLe, gGe, gIx, aaO, abT, aaD, aaq, abO, abP, abG, abk, okR, iOf, isS, others, abe, aaY, aa9, abl, abo, aai, aaH, aau, aax, aay, aav, aao, aaj, aar, aaI, aaJ, abS, atI, ixN, aaG, h1, h2, h0, h3', e]
  ·have h4 : (acB 12 (.lst l) && afg (.lst l) == afg (.lst l0)) = false := by
    show (acB 12 (.lst l) && ((l.length : Int) == l0.length)) = _
    rw [show ((l.length : Int) == l0.length) = false by simpa using λz => h3 (by omega)]
    simp
   rw [h4]
   have h3' : ((l.length : Int) == l0.length) = false := by simpa using λz => h3 (by omega)
   simp -dsimp [aa0, frz, dow, aaZ, con, abh, eB, bOf, tru, dr, drs, cls, clV, abp, g1, g2, gI, gIC, gB, gEq, gNe, gIn, aaW, abw, abN, abd, abF, aa5, gLt, gGt, gLe, gGe, gIx, aaO, abT, aaD, aaq, abO, abP, abG, abk, okR, iOf, isS, others, abe, aaY, aa9, abl, abo, aai, aaH, aau, aax, aay, aav, aao, aaj, aar, aaI, aaJ, abS, atI, ixN, aaG, h1, h2, h0, h3']
 | _ => exact apr _ _ rfl
theorem ajt (T : Tr) : adf [T] = .ok (.bl (afp T), false) := by
 unfold adf aiv fnP
 cases T with
 | lst ts =>
  by_cases hl : 1 <= (ts.length : Int) /\ (ts.length : Int) <= 4
  case neg =>
   have h1 : apQ (.int (ts.length : Int)) [.int 1, .int 2, .int 3, .int 4] = false := by
    simp [apQ, aar]; omega
   have h2 : afp (.lst ts) = false := by
    unfold afp
    simp only [Bool.and_eq_false_iff, decide_eq_false_iff_not]
    by_cases h : 1 <= (ts.length : Int)
    ·exact .inl (.inl (.inr λz => hl ⟨h, z⟩))
    ·exact .inl (.inl (.inl h))
   rw [h2]
   simp -dsimp [aa0, frz, dow, aaZ, con, abh, eB, bOf, tru, dr, drs, cls, clV, abp, g1, g2, gI, gIC, gB, gEq, gNe, gIn, aaW, abw, abN, abd, abF, aa5, gLt, gGt, gLe, gGe, gIx, aaO, abT, aaD, aaq, abO, abP, abG, abk, okR, iOf, isS, others, abe, aaY, aa9, abl, abo, aai, aaH, aau, aax, aay, aav, aao, aaj, aar, aaI, aaJ, abS, atI, ixN, aaG, h1]
  obtain ⟨r0, rs, rfl⟩ : ∃ r0 rs, ts = r0 :: rs := by cases ts with
   | nil => simp at hl
   | cons a b => exact ⟨a, b, rfl⟩
  have h1 : apQ (.int ((r0 :: rs).length : Int)) [.int 1, .int 2, .int 3, .int 4] = true := by
   simp only [apQ, List.any_cons, List.any_nil, aar, Bool.or_eq_true, beq_iff_eq]; omega
  generalize hL : (ae3 (agA _ _ _)) = L
  have key : ∃ s', L [.sh (.lst (r0 :: rs)), .un] = .ok (if afp (.lst (r0 :: rs)) = true then .nx else .rt (.bl false) false, [.sh (.lst (r0 :: rs)), s']) := by
   have hb1 : afp (.lst (r0 :: rs)) = ((r0 :: rs).all λr => acB 12 r && afg r == afg r0) := by
    show (decide (1 <= ((r0 :: rs).length : Int)) && decide (((r0 :: rs).length : Int) <= 4) && (r0 :: rs).all (acB 12) && (r0 :: rs).all λr => afg r == afg r0) = _
    rw [decide_eq_true hl.1, decide_eq_true hl.2]
    generalize (r0 :: rs) = l
    induction l with
    | nil => rfl
    | cons a l ih => simp only [List.all_cons, Bool.true_and] at ih ⊢; rw [<-ih]; cases acB 12 a <;> cases (afg a == afg r0) <;> simp
   subst hL
   show ∃ s', ae3 (agA (fSq (aah 0)) (gN 1) ibB) [.sh (.lst (r0 :: rs)), .un] = _
   by_cases hr : abS r0 .list = true
   ·cases r0 <;> try cases hr
    rename_i l0
    obtain ⟨s', e⟩ := akF (p := λr => acB 12 r && afg r == afg (.lst l0)) (b := ibB) (s0 := .sh (.lst (.lst l0 :: rs))) (.lst l0 :: rs) .un λu _ => aqU l0 rs u
    refine ⟨s', ?_⟩
    rw [hb1, <-amX, <-e]
    rfl
   ·rw [Bool.not_eq_true] at hr
    have w : acB 12 r0 = false := by cases r0 <;> first | rfl | cases hr
    refine ⟨.sh r0, ?_⟩
    rw [hb1, List.all_cons, w]
    have e := apr (.lst (r0 :: rs)) r0 hr
    simp only [aqN, aqO, atQ]
    show aa0 (acD (gN 1) ibB (r0 :: rs) [.sh (.lst (r0 :: rs)), .un]) = _
    unfold acD
    simp only [aqQ, Rs.abj]
    rw [show List.set [Sl.sh (.lst (r0 :: rs)), .un] 1 (.sh r0) = [.sh (.lst (r0 :: rs)), .sh r0] from rfl, e]
    rfl
  obtain ⟨s', e⟩ := key
  cases hb : afp (.lst (r0 :: rs)) with
  | true =>
   rw [hb] at e
   simp only [List.length_cons] at h1
   push_cast at h1
   simp -dsimp [aa0, frz, dow, aaZ, con, abh, eB, bOf, tru, dr, drs, cls, clV, abp, g1, g2, gI, gIC, gB, gEq, gNe, gIn, aaW, abw, abN, abd, abF, aa5, gLt, gGt, gLe, gGe, gIx, aaO, abT, aaD, aaq, abO, abP, abG, abk, okR, iOf, isS, others, abe, aaY, aa9, abl, abo, aai, aaH, aau, aax, aay, aav, aao, aaj, aar, aaI, aaJ, abS, atI, ixN, aaG, h1, e]
  | false =>
   rw [hb] at e
   simp only [List.length_cons] at h1
   push_cast at h1
   simp -dsimp [aa0, frz, dow, aaZ, con, abh, eB, bOf, tru, dr, drs, cls, clV, abp, g1, g2, gI, gIC, gB, gEq, gNe, gIn, aaW, abw, abN, abd, abF, aa5, gLt, gGt, gLe, gGe, gIx, aaO, abT, aaD, aaq, abO, abP, abG, abk, okR, iOf, isS, others, abe, aaY, aa9, abl, abo, aai, aaH, aau, aax, aay, aav, aao, aaj, aar, aaI, aaJ, abS, atI, ixN, aaG, h1, e]
 | _ => simp -dsimp [aa0, frz, dow, aaZ, con, abh, eB, bOf, tru, dr, drs, cls, clV, abp, g1, g2, gI, gIC, gB, gEq, gNe, gIn, aaW, abw, abN, abd, abF, aa5, gLt, gGt, gLe, gGe, gIx, aaO, abT, aaD, aaq, abO, abP, abG, abk, okR, iOf, isS, others, abe, aaY, aa9, abl, abo, aai, aaH, aau, aax, aay, aav, aao, aaj, aar, aaI, aaJ, abS, atI, ixN, aaG, afp]
end K08
end
section
namespace K08
open PySem L2 BH
mutual
noncomputable def okB : Tr -> Bool
 | .int i => decide (i.natAbs < 2 ^ 60)
 | .str x => x.cps.toList.all λc => decide (c < 16 ^ 8)
 | .tup ts => anr ts
 | .lst ts => anr ts
 | .exn _ => false
 | _ => true
noncomputable def anr : List Tr -> Bool
 | [] => true
 | t :: r => okB t && anr r
end
theorem lgS {k : Int} (h : k.natAbs < 2 ^ 60) : k.natAbs.log2 < 1920 := by
 by_cases z : k.natAbs = 0
 ·rw [z]; decide
 ·have := (Nat.log2_lt (n := k.natAbs) (k := 60) z).mpr h
  omega
mutual
theorem atZ : ∀ t : Tr, okB t = true -> okS t = true
 | .non, _ => by simp only [okS]
 | .bl _, _ => by simp only [okS]
 | .int i, h => by
  simp only [okB, decide_eq_true_eq] at h
  simp only [okS, decide_eq_true_eq]
  exact lgS h
 | .str x, h => by simpa only [okS, okB] using h
 | .tup ts, h => by
  simp only [okB] at h
  simp only [okS]
  exact amY ts h
 | .lst ts, h => by
  simp only [okB] at h
  simp only [okS]
  exact amY ts h
 | .exn _, h => by simp only [okB] at h; cases h
theorem amY : ∀ ts : List Tr, anr ts = true -> al2 ts = true
 | [], _ => by simp only [al2]
 | t :: r, h => by
  simp only [anr, Bool.and_eq_true] at h
  simp only [al2, Bool.and_eq_true]
  exact ⟨atZ t h.1, amY r h.2⟩
end
theorem ab9 (n k : Int) (h : 0 < k) (hk : k.natAbs.log2 < 9000) : abg [.lst [.int n], .int k] = .ok ((.int (n.fmod k), false), [.int (n.fdiv k)]) := by
 unfold abg amM fnR
 have h0 : k ≠ 0 := by omega
 have h1 : ah3 n k = true := by unfold ah3; simp [h0, hk]
 simp -dsimp [aa0, frz, dow, aaZ, con, abh, eB, bOf, tru, dr, drs, cls, clV, abp, g1, g2, gI, gIC, gB, gEq, gNe, gIn, aaW, abw, abN, abd, abF, aa5, gLt, gGt, gLe, gGe, gIx, aaO, abT, aaD, aaq, abO, abP, abG, abk, okR, iOf, isS, others, abe, aaY, aa9, abl, abo, aai, aaH, aau, aax, aay, aav, aao, aaj, aar, aaI, aaJ, abS, atI, ixN, aaG, h0, h1, ace, aeo]
theorem lg {k : Int} (h : k.natAbs < 2 ^ 60) : k.natAbs.log2 < 9000 := by
 by_cases z : k.natAbs = 0
 ·rw [z]; decide
 ·have := (Nat.log2_lt (n := k.natAbs) (k := 60) z).mpr h
  omega
noncomputable def Pr (T : Tr) : Prop := ∃ p q, T = .tup [.int p, .int q] /\ p.natAbs < 2 ^ 60 /\ q.natAbs < 2 ^ 60
theorem aju (x b : Int) (hx : 0 <= x) (hb : 1 <= b) (h1 : x <= b) (h2 : b <= 1000000000000) : ∃ T, aeF [.int x, .int b] = .ok (T, false) /\ Pr T := by
 obtain ⟨g1, g2, -, -⟩ := ah2 (a := x) (b := b) (by omega)
 refine ⟨.tup [.int (x.fdiv (Int.gcd x b : Nat)), .int (b.fdiv (Int.gcd x b : Nat))], ?_, _, _, rfl, ?_, ?_⟩
 ·unfold aeF amN fnP
  generalize hg : ((Int.gcd x b : Nat) : Int) = g at g1 g2
  have hs := aeT x b
  rw [hg] at hs
  have h3 : ¬ b < 0 := by omega
  have c1 : ah3 x g = true := by unfold ah3; simp only [Bool.and_eq_true, decide_eq_true_eq]; exact ⟨by omega, lg (by omega)⟩
  have c2 : ah3 b g = true := by unfold ah3; simp only [Bool.and_eq_true, decide_eq_true_eq]; exact ⟨by omega, lg (by omega)⟩
  simp -dsimp [aa0, frz, dow, aaZ, con, abh, eB, bOf, tru, dr, drs, cls, clV, abp, g1, g2, gI, gIC, gB, gEq, gNe, gIn, aaW, abw, abN, abd, abF, aa5, gLt, gGt, gLe, gGe, gIx, aaO, abT, aaD, aaq, abO, abP, abG, abk, okR, iOf, isS, others, abe, aaY, aa9, abl, abo, aai, aaH, aau, aax, aay, aav, aao, aaj, aar, aaI, aaJ, abS, atI, ixN, aaG, hs, h3, c1, c2]
 ·generalize ((Int.gcd x b : Nat) : Int) = g at g1 g2
  rw [Int.fdiv_eq_ediv_of_nonneg x (by omega)]
  have := Int.ediv_le_self (a := x) g (by omega)
  have := Int.ediv_nonneg (a := x) (b := g) (by omega) (by omega)
  omega
 ·generalize ((Int.gcd x b : Nat) : Int) = g at g1 g2
  rw [Int.fdiv_eq_ediv_of_nonneg b (by omega)]
  have := Int.ediv_le_self (a := b) g (by omega)
  have := Int.ediv_nonneg (a := b) (b := g) (by omega) (by omega)
  omega
theorem abu (n k : Int) (h : 0 < k) : 0 <= n.fmod k /\ n.fmod k < k := ⟨Int.fmod_nonneg_of_pos n h, Int.fmod_lt_of_pos n h⟩
theorem ahC (n : Int) : ∃ T m, ab2 [.lst [.int n]] = .ok ((T, false), [.int m]) /\ Pr T := by
 have hr := abu n 8 (by omega)
 have ht := ab9 n 8 (by omega) (by decide)
 have ff : ∀ (b c m : Int), c = b + 1 -> 1 <= b -> b <= 1000000000000 -> ∃ T x m', abg [.lst [.int m], .int c] = .ok ((.int x, false), [.int m']) /\ aeF [.int x, .int b] = .ok (T, false) /\ Pr T := λb c m hc h1 h2 => by
  subst hc
  have hh := abu m (b + 1) (by omega)
  obtain ⟨T, e, p⟩ := aju (m.fmod (b + 1)) b hh.1 h1 (by omega) h2
  exact ⟨T, _, _, ab9 m (b + 1) (by omega) (lg (by omega)), e, p⟩
 generalize n.fmod 8 = k at hr ht
 generalize n.fdiv 8 = m at ht
 unfold ab2 ajj fnR
 have hc : k = 0 \/ k = 1 \/ k = 2 \/ k = 3 \/ k = 4 \/ k = 5 \/ k = 6 \/ k = 7 := by omega
 rcases hc with rfl | rfl | rfl | rfl | rfl | rfl | rfl | rfl
 ·exact ⟨.tup [.int 0, .int 1], m, by simp -dsimp [aa0, frz, dow, aaZ, con, abh, eB, bOf, tru, dr, drs, cls, clV, abp, g1, g2, gI, gIC, gB, gEq, gNe, gIn, aaW, abw, abN, abd, abF, aa5, gLt, gGt, gLe, gGe, gIx, aaO, abT, aaD, aaq, abO, abP, abG, abk, okR, iOf, isS, others, abe, aaY, aa9, abl, abo, aai, aaH, aau, aax, aay, aav, aao, aaj, aar, aaI, aaJ, abS, atI, ixN, aaG, ht, ace, aeo], 0, 1, rfl, by decide, by decide⟩
 ·exact ⟨.tup [.int 1, .int 1], m, by simp -dsimp [aa0, frz, dow, aaZ, con, abh, eB, bOf, tru, dr, drs, cls, clV, abp, g1, g2, gI, gIC, gB, gEq, gNe, gIn, aaW, abw, abN, abd, abF, aa5, gLt, gGt, gLe, gGe, gIx, aaO, abT, aaD, aaq, abO, abP, abG, abk, okR, iOf, isS, others, abe, aaY, aa9, abl, abo, aai, aaH, aau, aax, aay, aav, aao, aaj, aar, aaI, aaJ, abS, atI, ixN, aaG, ht, ace, aeo], 1, 1, rfl, by decide, by decide⟩
 ·obtain ⟨T, x, m', e1, e2, p⟩ := ff 2 3 m (by omega) (by omega) (by omega)
  exact ⟨T, m', by simp -dsimp [aa0, frz, dow, aaZ, con, abh, eB, bOf, tru, dr, drs, cls, clV, abp, g1, g2, gI, gIC, gB, gEq, gNe, gIn, aaW, abw, abN, abd, abF, aa5, gLt, gGt, gLe, gGe, gIx, aaO, abT, aaD, aaq, abO, abP, abG, abk, okR, iOf, isS, others, abe, aaY, aa9, abl, abo, aai, aaH, aau, aax, aay, aav, aao, aaj, aar, aaI, aaJ, abS, atI, ixN, aaG, ht, ace, aeo, e1, e2], p⟩
 ·obtain ⟨T, x, m', e1, e2, p⟩ := ff 3 4 m (by omega) (by omega) (by omega)
  exact ⟨T, m', by simp -dsimp [aa0, frz, dow, aaZ, con, abh, eB, bOf, tru, dr, drs, cls, clV, abp, g1, g2, gI, gIC, gB, gEq, gNe, gIn, aaW, abw, abN, abd, abF, aa5, gLt, gGt, gLe, gGe, gIx, aaO, abT, aaD, aaq, abO, abP, abG, abk, okR, iOf, isS, others, abe, aaY, aa9, abl, abo, aai, aaH, aau, aax, aay, aav, aao, aaj, aar, aaI, aaJ, abS, atI, ixN, aaG, ht, ace, aeo, e1, e2], p⟩
 ·obtain ⟨T, x, m', e1, e2, p⟩ := ff 4 5 m (by omega) (by omega) (by omega)
  exact ⟨T, m', by simp -dsimp [aa0, frz, dow, aaZ, con, abh, eB, bOf, tru, dr, drs, cls, clV, abp, g1, g2, gI, gIC, gB, gEq, gNe, gIn, aaW, abw, abN, abd, abF, aa5, gLt, gGt, gLe, gGe, gIx, aaO, abT, aaD, aaq, abO, abP, abG, abk, okR, iOf, isS, others, abe, aaY, aa9, abl, abo, aai, aaH, aau, aax, aay, aav, aao, aaj, aar, aaI, aaJ, abS, atI, ixN, aaG, ht, ace, aeo, e1, e2], p⟩
 ·obtain ⟨T, x, m', e1, e2, p⟩ := ff 6 7 m (by omega) (by omega) (by omega)
  exact ⟨T, m', by simp -dsimp [aa0, frz, dow, aaZ, con, abh, eB, bOf, tru, dr, drs, cls, clV, abp, g1, g2, gI, gIC, gB, gEq, gNe, gIn, aaW, abw, abN, abd, abF, aa5, gLt, gGt, gLe, gGe, gIx, aaO, abT, aaD, aaq, abO, abP, abG, abk, okR, iOf, isS, others, abe, aaY, aa9, abl, abo, aai, aaH, aau, aax, aay, aav, aao, aaj, aar, aaI, aaJ, abS, atI, ixN, aaG, ht, ace, aeo, e1, e2], p⟩
 ·obtain ⟨T, x, m', e1, e2, p⟩ := ff 12 13 m (by omega) (by omega) (by omega)
  exact ⟨T, m', by simp -dsimp [aa0, frz, dow, aaZ, con, abh, eB, bOf, tru, dr, drs, cls, clV, abp, g1, g2, gI, gIC, gB, gEq, gNe, gIn, aaW, abw, abN, abd, abF, aa5, gLt, gGt, gLe, gGe, gIx, aaO, abT, aaD, aaq, abO, abP, abG, abk, okR, iOf, isS, others, abe, aaY, aa9, abl, abo, aai, aaH, aau, aax, aay, aav, aao, aaj, aar, aaI, aaJ, abS, atI, ixN, aaG, ht, ace, aeo, e1, e2], p⟩
 ·have h9 := ab9 m 999999999999 (by omega) (by decide)
  have hr := abu m 999999999999 (by omega)
  generalize m.fmod 999999999999 = b0 at h9 hr
  generalize m.fdiv 999999999999 = m1 at h9
  obtain ⟨T, x, m', e1, e2, p⟩ := ff (1 + b0) (1 + b0 + 1) m1 (by omega) (by omega) (by omega)
  exact ⟨T, m', by simp -dsimp [aa0, frz, dow, aaZ, con, abh, eB, bOf, tru, dr, drs, cls, clV, abp, g1, g2, gI, gIC, gB, gEq, gNe, gIn, aaW, abw, abN, abd, abF, aa5, gLt, gGt, gLe, gGe, gIx, aaO, abT, aaD, aaq, abO, abP, abG, abk, okR, iOf, isS, others, abe, aaY, aa9, abl, abo, aai, aaH, aau, aax, aay, aav, aao, aaj, aar, aaI, aaJ, abS, atI, ixN, aaG, ht, ace, aeo, ao1, tiny, h9, e1, e2], p⟩
end K08
end
section
namespace K08
open PySem L2 BH
theorem abX : ∀ (n : Nat) (lo : Int), (upTo lo n).length = n
 | 0, _ => rfl
 | n + 1, lo => by unfold L2.upTo; rw [List.length_cons, abX n]
noncomputable def Sh (c : Nat) (rows : List Tr) : Prop := ∀ r ∈ rows, ∃ l, r = .lst l /\ l.length = c /\ ∀ e ∈ l, Pr e
theorem agt : ∀ (us : List Tr) (s : Sl) (n : Int), ∃ ws s' m, adz (gN 0) adl (aaQ 0 ab2 (aad (aah 1) aaB)) us [s, .rf [.int n]] = .ok (ws, [s', .rf [.int m]]) /\ ws.length = us.length /\ ∀ w ∈ ws, Pr w
 | [], s, n => ⟨[], s, n, rfl, rfl, by simp⟩
 | u :: us, s, n => by
  obtain ⟨T, m1, e, p⟩ := ahC n
  obtain ⟨ws, s', m, e', hl, hp⟩ := agt us (.sh u) m1
  refine ⟨T :: ws, s', m, ?_, by simp [hl], by simpa using ⟨p, hp⟩⟩
  have e1 : aaQ 0 ab2 (aad (aah 1) aaB) [.sh u, .rf [.int n]] = .ok (.v T false, [.sh u, .rf [.int m1]]) := by simp -dsimp [aa0, frz, dow, aaZ, con, abh, eB, bOf, tru, dr, drs, cls, clV, abp, g1, g2, gI, gIC, gB, gEq, gNe, gIn, aaW, abw, abN, abd, abF, aa5, gLt, gGt, gLe, gGe, gIx, aaO, abT, aaD, aaq, abO, abP, abG, abk, okR, iOf, isS, others, abe, aaY, aa9, abl, abo, aai, aaH, aau, aax, aay, aav, aao, aaj, aar, aaI, aaJ, abS, atI, ixN, aaG, e]
  generalize aaQ 0 ab2 (aad (aah 1) aaB) = G at e1 e' ⊢
  unfold adz
  simp [e1, clV, e']
noncomputable def inE : EF := (acv [none, some 2] (agE (aad (aah 1) aaB)) (gN 0) adl (aaQ 0 ab2 (aad (aah 1) aaB)))
theorem amZ (u : Tr) (c : Nat) (hc : c <= 12) (n : Int) : ∃ l m, inE [.sh u, .sh (.int c), .rf [.int n]] = .ok (.v (.lst l) true, [.sh u, .sh (.int c), .rf [.int m]]) /\ l.length = c /\ ∀ e ∈ l, Pr e := by
 obtain ⟨ws, s', m, e, hl, hp⟩ := agt (upTo 0 c) .un n
 rw [abX] at hl
 refine ⟨ws, m, ?_, hl, hp⟩
 unfold inE
 generalize aaQ 0 ab2 (aad (aah 1) aaB) = G at e ⊢
 have h1 : (-1000000 : Int) <= c := by omega
 have h2 : (c : Int) <= 1000000 := by omega
 have h3 : c <= 100000 := by omega
 simp -dsimp [aa0, frz, dow, aaZ, con, abh, eB, bOf, tru, dr, drs, cls, clV, abp, g1, g2, gI, gIC, gB, gEq, gNe, gIn, aaW, abw, abN, abd, abF, aa5, gLt, gGt, gLe, gGe, gIx, aaO, abT, aaD, aaq, abO, abP, abG, abk, okR, iOf, isS, others, abe, aaY, aa9, abl, abo, aai, aaH, aau, aax, aay, aav, aao, aaj, aar, aaI, aaJ, abS, atI, ixN, aaG, h1, h2, h3, e, abX]
theorem aeU (c : Nat) (hc : c <= 12) : ∀ (us : List Tr) (s : Sl) (n : Int), ∃ rows s' m, adz (gN 0) adl inE us [s, .sh (.int c), .rf [.int n]] = .ok (rows, [s', .sh (.int c), .rf [.int m]]) /\ rows.length = us.length /\ Sh c rows
 | [], s, n => ⟨[], s, n, rfl, rfl, by intro r hr; simp at hr⟩
 | u :: us, s, n => by
  obtain ⟨l, m1, e, hl, p⟩ := amZ u c hc n
  obtain ⟨rows, s', m, e', hl', hp⟩ := aeU c hc us (.sh u) m1
  refine ⟨.lst l :: rows, s', m, ?_, by simp [hl'], ?_⟩
  ·unfold adz
   simp [e, clV, e']
  ·intro r hr
   rcases List.mem_cons.mp hr with rfl | hr
   ·exact ⟨l, rfl, hl, p⟩
   ·exact hp r hr
theorem am0 (n : Int) : ∃ rows c m, agV [.lst [.int n]] = .ok ((.lst rows, true), [.int m]) /\ 1 <= rows.length /\ rows.length <= 4 /\ 1 <= c /\ c <= 12 /\ Sh c rows := by
 have t1 := ab9 n 4 (by omega) (by decide)
 have r1 := abu n 4 (by omega)
 generalize n.fmod 4 = a at t1 r1
 generalize n.fdiv 4 = n1 at t1
 have t2 := ab9 n1 12 (by omega) (by decide)
 have r2 := abu n1 12 (by omega)
 generalize n1.fmod 12 = b at t2 r2
 generalize n1.fdiv 12 = n2 at t2
 obtain ⟨c, hc⟩ : ∃ c : Nat, (c : Int) = 1 + b := ⟨(1 + b).toNat, by omega⟩
 obtain ⟨k, hk⟩ : ∃ c : Nat, (c : Int) = 1 + a := ⟨(1 + a).toNat, by omega⟩
 obtain ⟨rows, s', m, e, hl, hs⟩ := aeU c (by omega) (upTo 0 k) .un n2
 rw [abX] at hl
 refine ⟨rows, c, m, ?_, by omega, by omega, by omega, by omega, hs⟩
 show fnR 3 0 (aa6 (abM (eOp aaW (eC (.int 1)) (aaQ 0 abg (aad (aah 0) (aad (eC (.int 4)) aaB)))) (gN 1)) (aa6 (abM (eOp aaW (eC (.int 1)) (aaQ 0 abg (aad (aah 0) (aad (eC (.int 12)) aaB)))) (gN 2)) (abU (acv [none, some 2, some 0] (agE (aad (aah 1) aaB)) (gN 0) adl inE)))) _ = _
 unfold fnR
 have h1 : (-1000000 : Int) <= k := by omega
 have h2 : (k : Int) <= 1000000 := by omega
 have h3 : k <= 100000 := by omega
 simp -dsimp [aa0, frz, dow, aaZ, con, abh, eB, bOf, tru, dr, drs, cls, clV, abp, g1, g2, gI, gIC, gB, gEq, gNe, gIn, aaW, abw, abN, abd, abF, aa5, gLt, gGt, gLe, gGe, gIx, aaO, abT, aaD, aaq, abO, abP, abG, abk, okR, iOf, isS, others, abe, aaY, aa9, abl, abo, aai, aaH, aau, aax, aay, aav, aao, aaj, aar, aaI, aaJ, abS, atI, ixN, aaG, t1, t2, <-hc, <-hk, h1, h2, h3, abX, e, ace, aeo]
end K08
end
section
namespace K08
open PySem L2 BH
noncomputable def Sm (B D : Nat) (T : Tr) : Prop := okB T = true /\ blk T <= B /\ dep T <= D
theorem Sm.mono {B D B' D' : Nat} {T : Tr} (h : Sm B D T) (hB : B <= B') (hD : D <= D') : Sm B' D' T := ⟨h.1, by have := h.2.1; omega, by have := h.2.2; omega⟩
theorem sms {B D : Nat} : ∀ {l : List Tr}, (∀ t ∈ l, Sm B D t) -> anr l = true /\ blks l <= l.length * (B + 1) /\ deps l <= D
 | [], _ => ⟨by simp only [anr], by simp [blks], by simp [deps]⟩
 | t :: l, h => by
  obtain ⟨a1, a2, a3⟩ := h t (by simp)
  obtain ⟨b1, b2, b3⟩ := sms (l := l) λu hu => h u (by simp [hu])
  refine ⟨by simp only [anr]; rw [a1, b1]; rfl, ?_, ?_⟩
  ·simp only [blks, List.length_cons]
   rw [Nat.succ_mul]
   omega
  ·simp only [deps]
   omega
theorem Sm.lst {B D N : Nat} {l : List Tr} (h : ∀ t ∈ l, Sm B D t) (hn : l.length * (B + 1) <= N) : Sm N (D + 1) (.lst l) := by
 obtain ⟨a, b, c⟩ := sms h
 exact ⟨by simp only [okB]; exact a, by simp only [blk]; omega, by simp only [dep]; omega⟩
theorem Sm.tup {B D N : Nat} {l : List Tr} (h : ∀ t ∈ l, Sm B D t) (hn : l.length * (B + 1) <= N) : Sm N (D + 1) (.tup l) := by
 obtain ⟨a, b, c⟩ := sms h
 exact ⟨by simp only [okB]; exact a, by simp only [blk]; omega, by simp only [dep]; omega⟩
theorem Sm.int {i : Int} (h : i.natAbs < 2 ^ 60) : Sm 0 0 (.int i) := ⟨by simp only [okB]; exact decide_eq_true h, by simp [blk], by simp [dep]⟩
theorem Pr.sm {T : Tr} (h : Pr T) : Sm 2 1 T := by
 obtain ⟨p, q, rfl, h1, h2⟩ := h
 exact Sm.tup (B := 0) (D := 0) (by intro t ht; rcases List.mem_cons.mp ht with rfl | ht; exact .int h1; rcases List.mem_cons.mp ht with rfl | ht; exact .int h2; simp at ht) (by simp)
noncomputable def smB (B D : Nat) (T : Tr) : Bool := okB T && decide (blk T <= B) && decide (dep T <= D)
theorem aiG {B D : Nat} {T : Tr} (h : smB B D T = true) : Sm B D T := by
 unfold smB at h
 rw [Bool.and_eq_true, Bool.and_eq_true] at h
 exact ⟨h.1.1, of_decide_eq_true h.1.2, of_decide_eq_true h.2⟩
theorem alX {xs : List Tr} {i : Nat} (h : i < xs.length) : atI xs (i : Int) = some xs[i] := by
 unfold atI ixN
 simp [h]
theorem ajv {xs : List Tr} {i : Nat} (h : i < xs.length) : gIx (.lst xs) (.int i) = .ok (xs[i], false) := by
 show (match atI xs i with
  | some t => Rs.ok (t, false)
  | none => .bad) = _
 rw [alX h]
theorem aqV (A B : List Tr) (hA : A.length = 12) (hB : B.length = 11) (n : Int) : ∃ T m, fnR 2 0 (aa6 (abM (eCL A) (gN 1)) (aa6 (abM (eOp aaW (aah 1) (eCL B)) (gN 1)) (abU (eOp gIx (aah 1) (aaQ 0 abg (aad (aah 0) (aad (eC (.int 23)) aaB))))))) [.lst [.int n]] = .ok ((T, false), [.int m]) /\ T ∈ A ++ B := by
 have t1 := ab9 n 23 (by omega) (by decide)
 have r1 := abu n 23 (by omega)
 generalize n.fmod 23 = a at t1 r1
 generalize n.fdiv 23 = m at t1
 obtain ⟨i, rfl⟩ : ∃ i : Nat, (i : Int) = a := ⟨a.toNat, by omega⟩
 have hi : i < (A ++ B).length := by simp [hA, hB]; omega
 refine ⟨(A ++ B)[i], m, ?_, List.getElem_mem _⟩
 have e' := ajv hi
 generalize (A ++ B)[i] = T at e'
 have hl : A.length + B.length <= 100000 := by omega
 unfold fnR
 simp -dsimp [aa0, frz, dow, aaZ, con, abh, eB, bOf, tru, dr, drs, cls, clV, abp, g1, g2, gI, gIC, gB, gEq, aaW, abd, aa5, gLt, gGt, aaO, aaD, aaq, abk, okR, iOf, isS, others, abe, aaY, aa9, abl, abo, aai, aar, aaG, hl, t1, ace, aeo, e']
theorem at3 (n : Int) : ∃ T m, amO [.lst [.int n]] = .ok ((T, false), [.int m]) /\ Sm 12 4 T := by
 obtain ⟨T, m, e, ht⟩ := aqV [.tup [.int 3, .int 2], .tup [.int (-1), .int 2], .tup [.int 2, .int 4], .tup [.int 0, .int 2], .tup [.int 1, .int 0], .tup [.int 0, .int 0], .tup [.int 1, .int (-1)], .tup [.bl true, .int 1], .tup [.int 1, .bl true], .tup [.int 0], .tup [.int 1, .int 2, .int 3], .tup []] [.lst [.int 1, .int 2], .int 1, .int 0, .non, .str "1/2", .bl true, .tup [.tup [.int 0, .int 1], .tup [.int 1, .int 1]], .tup [.int 1000000000000, .int 1000000000000], .tup [.str "0", .int 1], .tup [.non, .int 1], .lst []] rfl rfl n
 refine ⟨T, m, e, aiG (List.all_eq_true.mp ?_ T ht)⟩
 decide +kernel
theorem agY {c : Nat} : ∀ (rows : List Tr) (s : Sl), Sh c rows -> ∃ s', ai9 (gN 0) adl (eCB (g1 aaD) (aad (aah 0) aaB)) rows [s] = .ok (rows, [s'])
 | [], s, _ => ⟨s, rfl⟩
 | r :: rows, s, h => by
  obtain ⟨l, rfl, hl, hp⟩ := h r (by simp)
  obtain ⟨s', e⟩ := agY rows (.sh (.lst l)) λu hu => h u (by simp [hu])
  refine ⟨s', ?_⟩
  have e1 : eCB (g1 aaD) (aad (aah 0) aaB) [.sh (.lst l)] = .ok (.v (.lst l) true, [.sh (.lst l)]) := rfl
  generalize eCB (g1 aaD) (aad (aah 0) aaB) = G at e e1 ⊢
  unfold ai9
  simp [e1, abp, e]
theorem aqW {c : Nat} (rows : List Tr) (h : Sh c rows) (hn : rows.length <= 100000) (σ : En) : agf 2 [none] (fSq (aah 0)) (gN 0) adl (eCB (g1 aaD) (aad (aah 0) aaB)) (.sh (.lst rows) :: σ) = .ok (.nx, (Sl.sh (.lst rows) :: σ).set 2 (.dp rows)) := by
 obtain ⟨s', e⟩ := agY rows .un h
 generalize eCB (g1 aaD) (aad (aah 0) aaB) = G at e ⊢
 simp -dsimp [aa0, frz, dow, aaZ, con, abh, eB, bOf, tru, dr, drs, cls, clV, abp, g1, g2, gI, gIC, gB, gEq, aaW, abd, aa5, gLt, gGt, aaO, aaD, aaq, abk, okR, iOf, isS, others, abe, aaY, aa9, abl, abo, aai, aar, e, hn]
end K08
end
section
namespace K08
open PySem L2 BH
noncomputable def X4 : SF := (alD 2 (abU (eOp gIx (aeW (aad (aeW aaB) (aad (eCB (g1 aaq) (aad (aah 2) aaB)) (aad (eOp gIx (aah 2) (eC (.int 0))) (aad (eC .non) (aad (eC (.str "1 1/2")) (aad (eC (.bl true)) (aad (eC (.int 7)) (aad (eCL [.lst []]) (aad (eCL [.lst [], .lst []]) aaB)))))))))) (aaQ 0 abg (aad (aah 1) (aad (eC (.int 9)) aaB))))))
noncomputable def X5 : SF := (alD 2 (abU (eOp aaW (aah 2) (acv [none, some 2] (agE (aad (eOp aaW (eC (.int 1)) (aaQ 0 abg (aad (aah 1) (aad (eC (.int 4)) aaB)))) aaB)) (gN 0) adl (eCB (g1 aaD) (aad (eOp gIx (aah 1) (eC (.int 0))) aaB))))))
noncomputable def X6 : SF := (alD 2 (auB 2 (abU (acv [none, some 5] (fSq (aah 2)) (gN 0) adl (eSl (eOp abw (aah 0) (eC (.int 13))) oNo (akZ (eOp aaW (eC (.int 12)) (eOp abd (aah 1) (eC (.int 2))))))))))
noncomputable def X7 : SF := (ark 2 (aik 4) afl (aik 5))
noncomputable def X8 : SF := (ark 2 (aik 4) ao7 (auE 2 (aik 4) (aik 5)))
noncomputable def X9 : SF := (alD 2 (amg 2 (aah 4) (eOp gIx (aeW (aad (eCB (g1 aaq) (aad (eOp gIx (aah 2) (aah 4)) aaB)) (aad (eC .non) (aad (eOp gIx (eOp gIx (aah 2) (aah 4)) (eC (.int 0))) (aad (aeW (aad (eOp gIx (aah 2) (aah 4)) aaB)) (aad (eC (.str "1")) aaB)))))) (aaQ 0 abg (aad (aah 1) (aad (eC (.int 5)) aaB))))))
noncomputable def X10 : SF := (aob 2 (aik 4) (aik 5) (aaQ 0 amO (aad (aah 1) aaB)))
noncomputable def tl : SF := (aa6 (sIf (abf (eOp gEq (aah 3) (eC (.int 0)))) X4 acC) (aa6 (sIf (abf (eOp gEq (aah 3) (eC (.int 1)))) X5 acC) (aa6 (sIf (abf (eOp gEq (aah 3) (eC (.int 2)))) X6 acC) (aa6 (sIf (abf (eOp gEq (aah 3) (eC (.int 3)))) X7 acC) (aa6 (sIf (abf (eOp gEq (aah 3) (eC (.int 4)))) X8 acC) (aa6 (sIf (abf (eOp gEq (aah 3) (eC (.int 5)))) X9 acC) (aa6 (sIf (auy (abf (eOp gGt (aah 3) (eC (.int 5)))) (abf (eOp gLt (aah 3) (eC (.int 11))))) X10 acC) (alD 2 (abU (aah 2))))))))))
theorem aoD : apk = (aa6 (agf 2 [none] (fSq (aah 0)) (gN 0) adl (eCB (g1 aaD) (aad (aah 0) aaB))) (aa6 (abM (aaQ 0 abg (aad (aah 1) (aad (eC (.int 12)) aaB))) (gN 3)) (aa6 (abM (aaQ 0 abg (aad (aah 1) (aad (eCB (g1 aaO) (aad (aah 0) aaB)) aaB))) (gN 4)) (aa6 (abM (aaQ 0 abg (aad (aah 1) (aad (eCB (g1 aaO) (aad (eOp gIx (aah 0) (eC (.int 0))) aaB)) aaB))) (gN 5)) tl)))) := rfl
theorem ad1 (n k : Int) (h : 0 < k) (hk : k.natAbs < 2 ^ 60) : ∃ (i : Nat) (m : Int), abg [.lst [.int n], .int k] = .ok ((.int i, false), [.int m]) /\ (i : Int) < k := by
 have r := abu n k h
 refine ⟨(n.fmod k).toNat, n.fdiv k, ?_, by omega⟩
 rw [ab9 n k h (lg hk), show (((n.fmod k).toNat : Nat) : Int) = n.fmod k by omega]
theorem aeR {xs : List Tr} {i : Nat} {T : Tr} (h : xs[i]? = some T) : gIx (.lst xs) (.int i) = .ok (T, false) := by
 obtain ⟨h1, h2⟩ := List.getElem?_eq_some_iff.mp h
 rw [ajv h1, h2]
theorem am1 {xs : List Tr} {i : Nat} (h : i < xs.length) : ∃ T, T ∈ xs /\ gIx (.lst xs) (.int i) = .ok (T, false) := ⟨xs[i], List.getElem_mem _, ajv h⟩
theorem aoE (r : Tr) (rs : List Tr) : gIx (.lst (r :: rs)) (.int 0) = .ok (r, false) := aeR (i := 0) rfl
theorem ajw {n i : Nat} (h : i < n) : ixN n (i : Int) = some i := by unfold ixN; simp [h]
theorem agu {xs : List Tr} {i : Nat} {T : Tr} (h : xs[i]? = some T) : ixT xs (.int i) = .ok (i, T) := by
 obtain ⟨h1, h2⟩ := List.getElem?_eq_some_iff.mp h
 simp only [ixT, ajw h1, h]
theorem Sh.sm {c : Nat} {rows : List Tr} (hc : c <= 12) (h : Sh c rows) : ∀ r ∈ rows, Sm 36 2 r := λr hr => by
 obtain ⟨l, rfl, hl, hp⟩ := h r hr
 exact Sm.lst (B := 2) (D := 1) (λe he => (hp e he).sm) (by omega)
noncomputable def awh (hi : Option Int) : Tr -> Tr
 | .lst l => .lst (cut (List.replicate 13 l).flatten none hi)
 | t => t
section
variable {rows : List Tr} {c : Nat} (hs : Sh c rows) (hc : 1 <= c) (hc' : c <= 12) (h1 : 1 <= rows.length) (h4 : rows.length <= 4) (n : Int) (s3 s4 s5 : Sl)
include hs hc hc' h1 h4
theorem x4 : ∃ T ρ m, X4 [.sh (.lst rows), .rf [.int n], .dp rows, s3, s4, s5] = .ok (.rt T false, ρ) /\ ρ[1]? = some (.rf [.int m]) /\ Sm 4100 8 T := by
 obtain ⟨r0, rs, rfl⟩ : ∃ r0 rs, rows = r0 :: rs := by cases rows with
  | nil => simp at h1
  | cons a b => exact ⟨a, b, rfl⟩
 obtain ⟨i, m, t1, hi⟩ := ad1 n 9 (by omega) (by decide)
 obtain ⟨T, ht, e⟩ := am1 (xs := [.lst [], .tup (r0 :: rs), r0, .non, .str "1 1/2", .bl true, .int 7, .lst [.lst []], .lst [.lst [], .lst []]]) (i := i) (by simp; omega)
 refine ⟨T, [.sh (.lst (r0 :: rs)), .rf [.int m], .ow (r0 :: rs), s3, s4, s5], m, ?_, rfl, ?_⟩
 ·unfold X4
  simp -dsimp [aa0, frz, dow, aaZ, con, abh, eB, bOf, tru, dr, drs, cls, clV, abp, g1, g2, gI, gIC, gB, gEq, aaW, abd, aa5, gLt, gGt, aaO, aaD, aaq, abk, okR, iOf, isS, others, abe, aaY, aa9, abl, abo, aai, aar, t1, aoE, e]
 ·have hm := hs.sm hc'
  simp only [List.mem_cons, List.not_mem_nil, or_false] at ht
  rcases ht with rfl | rfl | rfl | rfl | rfl | rfl | rfl | rfl | rfl
  ·exact aiG (by decide +kernel)
  ·exact (Sm.tup hm (N := 148) (by omega)).mono (by omega) (by omega)
  ·exact (hm _ (by simp)).mono (by omega) (by omega)
  all_goals exact aiG (by decide +kernel)
theorem x5 : ∃ T fr ρ m, X5 [.sh (.lst rows), .rf [.int n], .dp rows, s3, s4, s5] = .ok (.rt T fr, ρ) /\ ρ[1]? = some (.rf [.int m]) /\ Sm 4100 8 T := by
 have hm := hs.sm hc'
 obtain ⟨l0, rs, rfl⟩ : ∃ l0 rs, rows = .lst l0 :: rs := by cases rows with
  | nil => simp at h1
  | cons a b => obtain ⟨l, rfl, _⟩ := hs a (by simp); exact ⟨l, b, rfl⟩
 obtain ⟨i, m, t1, hi⟩ := ad1 n 4 (by omega) (by decide)
 obtain ⟨s', e⟩ := comp_map (f := eCB (g1 aaD) (aad (eOp gIx (aah 1) (eC (.int 0))) aaB)) (h := λ_ => .lst l0) (τ := [.ow (.lst l0 :: rs)]) (L2.upTo 0 (1 + (i : Int)).toNat) .un λu _ => ⟨true, by simp -dsimp [aa0, frz, dow, aaZ, con, abh, eB, bOf, tru, dr, drs, cls, clV, abp, g1, g2, gI, gIC, gB, gEq, aaW, abd, aa5, gLt, gGt, aaO, aaD, aaq, abk, okR, iOf, isS, others, abe, aaY, aa9, abl, abo, aai, aar, aoE]⟩
 have hl := abX (1 + (i : Int)).toNat 0
 refine ⟨.lst ((.lst l0 :: rs) ++ (L2.upTo 0 (1 + (i : Int)).toNat).map λ_ => .lst l0), true, [.sh (.lst (.lst l0 :: rs)), .rf [.int m], .ow (.lst l0 :: rs), s3, s4, s5], m, ?_, rfl, ?_⟩
 ·unfold X5
  generalize eCB (g1 aaD) (aad (eOp gIx (aah 1) (eC (.int 0))) aaB) = G at e ⊢
  have q1 : (-1000000 : Int) <= 1 + i := by omega
  have q2 : (1 + i : Int) <= 1000000 := by omega
  have q3 : (1 + (i : Int)).toNat <= 100000 := by omega
  have q4 : rs.length + 1 + (1 + (i : Int)).toNat <= 100000 := by simp only [List.length_cons] at h4; omega
  simp -dsimp [aa0, frz, dow, aaZ, con, abh, eB, bOf, tru, dr, drs, cls, clV, abp, g1, g2, gI, gIC, gB, gEq, aaW, abd, aa5, gLt, gGt, aaO, aaD, aaq, abk, okR, iOf, isS, others, abe, aaY, aa9, abl, abo, aai, aar, t1, q1, q2, q3, q4, e, hl]
 ·refine (Sm.lst (B := 36) (D := 2) (N := 400) (λt ht => ?_) ?_).mono (by omega) (by omega)
  ·rcases List.mem_append.mp ht with ht | ht
   ·exact hm t ht
   ·obtain ⟨_, _, rfl⟩ := List.mem_map.mp ht
    exact hm _ (by simp)
  ·simp only [List.length_append, List.length_map, hl]
   omega
omit hc h1 in
theorem x6 (j : Nat) : ∃ T fr ρ m, X6 [.sh (.lst rows), .rf [.int n], .dp rows, s3, s4, .sh (.int j)] = .ok (.rt T fr, ρ) /\ ρ[1]? = some (.rf [.int m]) /\ Sm 4100 8 T := by
 obtain ⟨s', e⟩ := comp_map (f := eSl (eOp abw (aah 0) (eC (.int 13))) oNo (akZ (eOp aaW (eC (.int 12)) (eOp abd (aah 1) (eC (.int 2)))))) (h := λu => awh (some (12 + Int.fmod j 2)) u) (τ := [.sh (.int j)]) rows .un λu hu => by
  obtain ⟨l, rfl, hl, hp⟩ := hs u hu
  have q : l.length <= 100 := by omega
  exact ⟨true, by simp -dsimp [aa0, frz, dow, aaZ, con, abh, eB, bOf, tru, dr, drs, cls, clV, abp, g1, g2, gI, gIC, gB, gEq, aaW, abd, aa5, gLt, gGt, aaO, aaD, aaq, abk, okR, iOf, isS, others, abe, aaY, aa9, abl, abo, aai, aar, abw, gSl, q, awh]⟩
 refine ⟨.lst (rows.map λu => awh (some (12 + Int.fmod j 2)) u), true, [.sh (.lst rows), .rf [.int n], .sh (.lst rows), s3, s4, .sh (.int j)], n, ?_, rfl, ?_⟩
 ·unfold X6
  generalize eSl (eOp abw (aah 0) (eC (.int 13))) oNo (akZ (eOp aaW (eC (.int 12)) (eOp abd (aah 1) (eC (.int 2))))) = G at e ⊢
  have q : rows.length <= 100000 := by omega
  simp -dsimp [aa0, frz, dow, aaZ, con, abh, eB, bOf, tru, dr, drs, cls, clV, abp, g1, g2, gI, gIC, gB, gEq, aaW, abd, aa5, gLt, gGt, aaO, aaD, aaq, abk, okR, iOf, isS, others, abe, aaY, aa9, abl, abo, aai, aar, e, q]
 ·refine (Sm.lst (B := 468) (D := 2) (N := 1876) (λt ht => ?_) ?_).mono (by omega) (by omega)
  ·obtain ⟨u, hu, rfl⟩ := List.mem_map.mp ht
   obtain ⟨l, rfl, hl, hp⟩ := hs u hu
   refine Sm.lst (B := 2) (D := 1) (λe he => ?_) ?_
   ·have h2 := List.mem_of_mem_drop (List.mem_of_mem_take he)
    obtain ⟨l', q1, q2⟩ := List.mem_flatten.mp h2
    rw [List.eq_of_mem_replicate q1] at q2
    exact (hp e q2).sm
   ·have : (cut (List.replicate 13 l).flatten none (some (12 + Int.fmod j 2))).length <= 13 * l.length := by
     unfold cut
     simp only [List.length_take, List.length_drop]
     have : (List.replicate 13 l).flatten.length = 13 * l.length := by simp; omega
     omega
    have e : 13 * l.length <= 156 := by omega
    exact Nat.le_trans (Nat.mul_le_mul_right 3 (Nat.le_trans this e)) (by omega)
  ·simp only [List.length_map]
   omega
theorem x7 (i j : Nat) (hi : i < rows.length) (hj : j < c) : ∃ acW, X7 [.sh (.lst rows), .rf [.int n], .dp rows, s3, .sh (.int i), .sh (.int j)] = .ok (.nx, [.sh (.lst rows), .rf [.int n], .dp acW, s3, .sh (.int i), .sh (.int j)]) /\ Sm 4100 8 (.lst acW) := by
 have hm := hs.sm hc'
 obtain ⟨l, el, hl, hp⟩ := hs rows[i] (List.getElem_mem _)
 have ei : rows[i]? = some (.lst l) := by rw [List.getElem?_eq_getElem hi, el]
 have hjl : j < l.length := by omega
 have e1 := agu ei
 have e2 : afl l [.int j] = .ok (l.eraseIdx j, l[j]) := by
  have o : okR (j : Int) = true := by unfold okR; simp; omega
  simp only [afl, o, (aiY (ajw hjl)).1, List.getElem?_eq_getElem hjl, if_true]
 refine ⟨rows.set i (.lst (l.eraseIdx j)), ?_, ?_⟩
 ·unfold X7
  simp -dsimp [aa0, frz, dow, aaZ, con, abh, eB, bOf, tru, dr, drs, cls, clV, abp, g1, g2, gI, gIC, gB, gEq, aaW, abd, aa5, gLt, gGt, aaO, aaD, aaq, abk, okR, iOf, isS, others, abe, aaY, aa9, abl, abo, aai, aar, e1, e2]
 ·refine (Sm.lst (B := 36) (D := 2) (N := 400) (λt ht => ?_) (by simp; omega)).mono (by omega) (by omega)
  rcases List.mem_or_eq_of_mem_set ht with ht | rfl
  ·exact hm t ht
  ·exact Sm.lst (B := 2) (D := 1) (λe he => (hp e (List.mem_of_mem_eraseIdx he)).sm) (by have := List.length_eraseIdx_le l j; omega)
theorem x8 (i j : Nat) (hi : i < rows.length) (hj : j < c) : ∃ acW, X8 [.sh (.lst rows), .rf [.int n], .dp rows, s3, .sh (.int i), .sh (.int j)] = .ok (.nx, [.sh (.lst rows), .rf [.int n], .dp acW, s3, .sh (.int i), .sh (.int j)]) /\ Sm 4100 8 (.lst acW) := by
 have hm := hs.sm hc'
 obtain ⟨l, el, hl, hp⟩ := hs rows[i] (List.getElem_mem _)
 have ei : rows[i]? = some (.lst l) := by rw [List.getElem?_eq_getElem hi, el]
 have hjl : j < l.length := by omega
 have e1 := agu ei
 have e2 := agu (List.getElem?_eq_getElem hjl)
 have hpe : Pr l[j] := hp _ (List.getElem_mem _)
 generalize l[j] = T at e2 hpe
 have e3 : ao7 l [T] = .ok (l ++ [T], .non) := by unfold ao7; simp; omega
 refine ⟨rows.set i (.lst (l ++ [T])), ?_, ?_⟩
 ·unfold X8
  simp -dsimp [aa0, frz, dow, aaZ, con, abh, eB, bOf, tru, dr, drs, cls, clV, abp, g1, g2, gI, gIC, gB, gEq, aaW, abd, aa5, gLt, gGt, aaO, aaD, aaq, abk, okR, iOf, isS, others, abe, aaY, aa9, abl, abo, aai, aar, e1, e2, e3]
 ·refine (Sm.lst (B := 39) (D := 2) (N := 400) (λt ht => ?_) (by simp; omega)).mono (by omega) (by omega)
  rcases List.mem_or_eq_of_mem_set ht with ht | rfl
  ·exact (hm t ht).mono (by omega) (by omega)
  ·refine Sm.lst (B := 2) (D := 1) (λe he => ?_) (by simp; omega)
   rcases List.mem_append.mp he with he | he
   ·exact (hp e he).sm
   ·rw [List.mem_singleton.mp he]; exact hpe.sm
theorem x9 (i : Nat) (hi : i < rows.length) : ∃ acW m, X9 [.sh (.lst rows), .rf [.int n], .dp rows, s3, .sh (.int i), s5] = .ok (.nx, [.sh (.lst rows), .rf [.int m], .ow acW, s3, .sh (.int i), s5]) /\ Sm 4100 8 (.lst acW) := by
 have hm := hs.sm hc'
 obtain ⟨l, el, hl, hp⟩ := hs rows[i] (List.getElem_mem _)
 have hml := hm _ (List.getElem_mem hi)
 rw [el] at hml
 have ei : rows[i]? = some (.lst l) := by rw [List.getElem?_eq_getElem hi, el]
 have e1 := aeR ei
 have e2 := ajw hi
 obtain ⟨a, l', rfl⟩ : ∃ a l', l = a :: l' := by cases l with
  | nil => simp at hl; omega
  | cons a b => exact ⟨a, b, rfl⟩
 obtain ⟨k, m, t1, hk⟩ := ad1 n 5 (by omega) (by decide)
 obtain ⟨T, ht, e⟩ := am1 (xs := [.tup (a :: l'), .non, a, .lst [.lst (a :: l')], .str "1"]) (i := k) (by simp; omega)
 refine ⟨rows.set i T, m, ?_, ?_⟩
 ·unfold X9
  simp -dsimp [aa0, frz, dow, aaZ, con, abh, eB, bOf, tru, dr, drs, cls, clV, abp, g1, g2, gI, gIC, gB, gEq, aaW, abd, aa5, gLt, gGt, aaO, aaD, aaq, abk, okR, iOf, isS, others, abe, aaY, aa9, abl, abo, aai, aar, e1, e2, aoE, t1, e]
 ·refine (Sm.lst (B := 400) (D := 4) (N := 2000) (λt hu => ?_) (by simp; omega)).mono (by omega) (by omega)
  rcases List.mem_or_eq_of_mem_set hu with hu | rfl
  ·exact (hm t hu).mono (by omega) (by omega)
  ·simp only [List.mem_cons, List.not_mem_nil, or_false] at ht
   rcases ht with rfl | rfl | rfl | rfl | rfl
   ·exact (Sm.tup (B := 2) (D := 1) (N := 36) (λe he => (hp e he).sm) (by omega)).mono (by omega) (by omega)
   ·exact aiG (by decide +kernel)
   ·exact ((hp _ (by simp)).sm).mono (by omega) (by omega)
   ·exact (Sm.lst (B := 36) (D := 2) (N := 37) (λe he => by rw [List.mem_singleton.mp he]; exact hml) (by simp)).mono (by omega) (by omega)
   ·exact aiG (by decide +kernel)
theorem x10 (i j : Nat) (hi : i < rows.length) (hj : j < c) : ∃ acW m, X10 [.sh (.lst rows), .rf [.int n], .dp rows, s3, .sh (.int i), .sh (.int j)] = .ok (.nx, [.sh (.lst rows), .rf [.int m], .dp acW, s3, .sh (.int i), .sh (.int j)]) /\ Sm 4100 8 (.lst acW) := by
 have hm := hs.sm hc'
 obtain ⟨l, el, hl, hp⟩ := hs rows[i] (List.getElem_mem _)
 have ei : rows[i]? = some (.lst l) := by rw [List.getElem?_eq_getElem hi, el]
 have hjl : j < l.length := by omega
 have e1 := agu ei
 have e2 := agu (List.getElem?_eq_getElem hjl)
 obtain ⟨T, m, t1, hT⟩ := at3 n
 refine ⟨rows.set i (.lst (l.set j T)), m, ?_, ?_⟩
 ·unfold X10
  simp -dsimp [aa0, frz, dow, aaZ, con, abh, eB, bOf, tru, dr, drs, cls, clV, abp, g1, g2, gI, gIC, gB, gEq, aaW, abd, aa5, gLt, gGt, aaO, aaD, aaq, abk, okR, iOf, isS, others, abe, aaY, aa9, abl, abo, aai, aar, e1, e2, t1]
 ·refine (Sm.lst (B := 200) (D := 5) (N := 2000) (λt ht => ?_) (by simp; omega)).mono (by omega) (by omega)
  rcases List.mem_or_eq_of_mem_set ht with ht | rfl
  ·exact (hm t ht).mono (by omega) (by omega)
  ·refine Sm.lst (B := 12) (D := 4) (λe he => ?_) (by simp; omega)
   rcases List.mem_or_eq_of_mem_set he with he | rfl
   ·exact ((hp e he).sm).mono (by omega) (by omega)
   ·exact hT
end
end K08
end
section
namespace K08
open PySem L2 BH
section
variable {rows : List Tr} {c : Nat} (hs : Sh c rows) (hc : 1 <= c) (hc' : c <= 12) (h1 : 1 <= rows.length) (h4 : rows.length <= 4) (n : Int)
include hs hc hc' h1 h4
theorem awi (w i j : Nat) (hw : w < 12) (hi : i < rows.length) (hj : j < c) : ∃ T fr ρ m, tl [.sh (.lst rows), .rf [.int n], .dp rows, .sh (.int w), .sh (.int i), .sh (.int j)] = .ok (.rt T fr, ρ) /\ ρ[1]? = some (.rf [.int m]) /\ Sm 4100 8 T := by
 have hz : w = 0 \/ w = 1 \/ w = 2 \/ w = 3 \/ w = 4 \/ w = 5 \/ (5 < w /\ w < 11) \/ w = 11 := by omega
 rcases hz with rfl | rfl | rfl | rfl | rfl | rfl | hz | rfl
 ·obtain ⟨T, ρ, m, e, e1, sm⟩ := x4 hs hc hc' h1 h4 n (.sh (.int 0)) (.sh (.int i)) (.sh (.int j))
  exact ⟨T, false, ρ, m, by unfold tl; simp -dsimp [aa0, frz, dow, aaZ, con, abh, eB, bOf, tru, dr, drs, cls, clV, abp, g1, g2, gI, gIC, gB, gEq, aaW, abd, aa5, gLt, gGt, aaO, aaD, aaq, abk, okR, iOf, isS, others, abe, aaY, aa9, abl, abo, aai, aar, e], e1, sm⟩
 ·obtain ⟨T, fr, ρ, m, e, e1, sm⟩ := x5 hs hc hc' h1 h4 n (.sh (.int 1)) (.sh (.int i)) (.sh (.int j))
  exact ⟨T, fr, ρ, m, by unfold tl; simp -dsimp [aa0, frz, dow, aaZ, con, abh, eB, bOf, tru, dr, drs, cls, clV, abp, g1, g2, gI, gIC, gB, gEq, aaW, abd, aa5, gLt, gGt, aaO, aaD, aaq, abk, okR, iOf, isS, others, abe, aaY, aa9, abl, abo, aai, aar, e], e1, sm⟩
 ·obtain ⟨T, fr, ρ, m, e, e1, sm⟩ := x6 hs hc' h4 n (.sh (.int 2)) (.sh (.int i)) j
  exact ⟨T, fr, ρ, m, by unfold tl; simp -dsimp [aa0, frz, dow, aaZ, con, abh, eB, bOf, tru, dr, drs, cls, clV, abp, g1, g2, gI, gIC, gB, gEq, aaW, abd, aa5, gLt, gGt, aaO, aaD, aaq, abk, okR, iOf, isS, others, abe, aaY, aa9, abl, abo, aai, aar, e], e1, sm⟩
 ·obtain ⟨acW, e, sm⟩ := x7 hs hc hc' h1 h4 n (.sh (.int 3)) i j hi hj
  exact ⟨.lst acW, true, [.sh (.lst rows), .rf [.int n], .ow acW, .sh (.int 3), .sh (.int i), .sh (.int j)], n, by unfold tl; simp -dsimp [aa0, frz, dow, aaZ, con, abh, eB, bOf, tru, dr, drs, cls, clV, abp, g1, g2, gI, gIC, gB, gEq, aaW, abd, aa5, gLt, gGt, aaO, aaD, aaq, abk, okR, iOf, isS, others, abe, aaY, aa9, abl, abo, aai, aar, e], rfl, sm⟩
 ·obtain ⟨acW, e, sm⟩ := x8 hs hc hc' h1 h4 n (.sh (.int 4)) i j hi hj
  exact ⟨.lst acW, true, [.sh (.lst rows), .rf [.int n], .ow acW, .sh (.int 4), .sh (.int i), .sh (.int j)], n, by unfold tl; simp -dsimp [aa0, frz, dow, aaZ, con, abh, eB, bOf, tru, dr, drs, cls, clV, abp, g1, g2, gI, gIC, gB, gEq, aaW, abd, aa5, gLt, gGt, aaO, aaD, aaq, abk, okR, iOf, isS, others, abe, aaY, aa9, abl, abo, aai, aar, e], rfl, sm⟩
 ·obtain ⟨acW, m, e, sm⟩ := x9 hs hc hc' h1 h4 n (.sh (.int 5)) (.sh (.int j)) i hi
  exact ⟨.lst acW, true, [.sh (.lst rows), .rf [.int m], .ow acW, .sh (.int 5), .sh (.int i), .sh (.int j)], m, by unfold tl; simp -dsimp [aa0, frz, dow, aaZ, con, abh, eB, bOf, tru, dr, drs, cls, clV, abp, g1, g2, gI, gIC, gB, gEq, aaW, abd, aa5, gLt, gGt, aaO, aaD, aaq, abk, okR, iOf, isS, others, abe, aaY, aa9, abl, abo, aai, aar, e], rfl, sm⟩
 ·obtain ⟨acW, m, e, sm⟩ := x10 hs hc hc' h1 h4 n (.sh (.int w)) i j hi hj
  have q0 : ((w : Int) == 0) = false := by simp; omega
  have q1 : ((w : Int) == 1) = false := by simp; omega
  have q2 : ((w : Int) == 2) = false := by simp; omega
  have q3 : ((w : Int) == 3) = false := by simp; omega
  have q4 : ((w : Int) == 4) = false := by simp; omega
  have q5 : ((w : Int) == 5) = false := by simp; omega
  have q6 : 5 < (w : Int) := by omega
  have q7 : (w : Int) < 11 := by omega
  exact ⟨.lst acW, true, [.sh (.lst rows), .rf [.int m], .ow acW, .sh (.int w), .sh (.int i), .sh (.int j)], m, by unfold tl; simp -dsimp [aa0, frz, dow, aaZ, con, abh, eB, bOf, tru, dr, drs, cls, clV, abp, g1, g2, gI, gIC, gB, gEq, aaW, abd, aa5, gLt, gGt, aaO, aaD, aaq, abk, okR, iOf, isS, others, abe, aaY, aa9, abl, abo, aai, aar, q0, q1, q2, q3, q4, q5, q6, q7, e], rfl, sm⟩
 ·refine ⟨.lst rows, true, [.sh (.lst rows), .rf [.int n], .ow rows, .sh (.int 11), .sh (.int i), .sh (.int j)], n, by unfold tl; simp -dsimp [aa0, frz, dow, aaZ, con, abh, eB, bOf, tru, dr, drs, cls, clV, abp, g1, g2, gI, gIC, gB, gEq, aaW, abd, aa5, gLt, gGt, aaO, aaD, aaq, abk, okR, iOf, isS, others, abe, aaY, aa9, abl, abo, aai, aar], rfl, ?_⟩
  exact (Sm.lst (B := 36) (D := 2) (N := 400) (hs.sm hc') (by omega)).mono (by omega) (by omega)
theorem am2 : ∃ T fr m, ad9 [.lst rows, .lst [.int n]] = .ok ((T, fr), [.int m]) /\ Sm 4100 8 T := by
 obtain ⟨l0, rs, hr, hl0⟩ : ∃ l0 rs, rows = .lst l0 :: rs /\ l0.length = c := by cases rows with
  | nil => simp at h1
  | cons a b => obtain ⟨l, rfl, q, _⟩ := hs a (by simp); exact ⟨l, b, rfl, q⟩
 obtain ⟨w, m1, t1, hw⟩ := ad1 n 12 (by omega) (by decide)
 obtain ⟨i, m2, t2, hi⟩ := ad1 m1 (rows.length : Int) (by omega) (by omega)
 obtain ⟨j, m3, t3, hj⟩ := ad1 m2 (l0.length : Int) (by omega) (by omega)
 obtain ⟨T, fr, ρ, m, e, e1, sm⟩ := awi hs hc hc' h1 h4 m3 w i j (by omega) (by omega) (by omega)
 refine ⟨T, fr, m, ?_, sm⟩
 have ec := aqW rows hs (by omega) [.rf [.int n], .un, .un, .un, .un]
 have eg : gIx (.lst rows) (.int 0) = .ok (.lst l0, false) := by rw [hr]; exact aoE _ _
 unfold ad9
 rw [aoD]
 unfold fnR
 generalize agf 2 [none] (fSq (aah 0)) (gN 0) adl (eCB (g1 aaD) (aad (aah 0) aaB)) = S at ec ⊢
 generalize tl = TL at e ⊢
 simp -dsimp [aa0, frz, dow, aaZ, con, abh, eB, bOf, tru, dr, drs, cls, clV, abp, g1, g2, gI, gIC, gB, gEq, aaW, abd, aa5, gLt, gGt, aaO, aaD, aaq, abk, okR, iOf, isS, others, abe, aaY, aa9, abl, abo, aai, aar, aaG, ec, t1, t2, t3, eg, e, e1, ace, aeo]
end
end K08
end
section
namespace K08
open PySem L2 BH
theorem am3 {i : Int} (h : -1000000000000000000 < i /\ i < 1000000000000000000) : tiny i = true := by
 unfold tiny
 rw [Bool.and_eq_true]
 exact ⟨decide_eq_true (by omega), decide_eq_true (by omega)⟩
theorem adR {i j : Int} (h : -1000000000000000000 < i /\ i < 1000000000000000000) : aed i j = true := by unfold aed; rw [am3 h]; simp
theorem agv {i j : Int} (h : -1000000000000000000 < j /\ j < 1000000000000000000) : aed i j = true := by unfold aed; rw [am3 h]; simp
theorem ahD (a k : Int) (h0 : 0 <= k) (h1 : k < 100000) : ∃ x, ado [.int a, .int k] = .ok (.int x, false) := by
 have c1 : aed (a.fmod 2147483629) 69621 = true := agv (by omega)
 have c2 : aed 40503 k = true := adR (by omega)
 have c3 : aed (40503 * k) k = true := agv (by omega)
 have c4 : aed 16807 k = true := adR (by omega)
 generalize hA : a.fmod 2147483629 * 69621 + 40503 * k * k + 16807 * k + 1048583 = A
 have rA := abu A 2147483647 (by omega)
 generalize hB : A.fmod 2147483647 = B at rA
 have c5 : aed B B = true := adR (by omega)
 have rB := abu (B * B) 2147483629 (by omega)
 generalize hC : (B * B).fmod 2147483629 = C at rB
 have c6 : aed C (C + 2) = true := adR (by omega)
 refine ⟨(C * (C + 2)).fmod 2147483587, ?_⟩
 unfold ado aji fnP
 simp -dsimp [aa0, frz, dow, aaZ, con, abh, eB, bOf, tru, dr, drs, cls, clV, abp, g1, g2, gI, gIC, gB, gEq, aaW, abd, aa5, gLt, gGt, aaO, aaD, aaq, abk, okR, iOf, isS, others, abe, aaY, aa9, abl, abo, aai, aar, aaG, abw, c1, c2, c3, c4, hA, hB, c5, hC, c6]
noncomputable def plB : SF := (abM (eOp aaW (eOp abw (aah 3) (eC (.int 2147483587))) (aaM ado (aad (aah 2) (aad (eOp aaW (eOp abw (eC (.int 31)) (aah 1)) (aah 4)) aaB)))) (gN 3))
theorem agw (S : Tr) (k cell : Int) (h0 : 0 <= k) (h1 : k < 1000) : ∀ (us : List Tr) (aiH : Int) (s : Sl), (∀ u ∈ us, ∃ j : Int, u = .int j /\ 0 <= j /\ j < 1000) -> ∃ x s', acD (gN 4) plB us [.sh S, .sh (.int k), .sh (.int cell), .sh (.int aiH), s] = .ok (.nx, [.sh S, .sh (.int k), .sh (.int cell), .sh (.int x), s'])
 | [], aiH, s, _ => ⟨aiH, s, rfl⟩
 | u :: us, aiH, s, h => by
  obtain ⟨j, rfl, j0, j1⟩ := h u (by simp)
  obtain ⟨y, e⟩ := ahD cell (31 * k + j) (by omega) (by omega)
  obtain ⟨x, s', e'⟩ := agw S k cell h0 h1 us (aiH * 2147483587 + y) (.sh (.int j)) λv hv => h v (by simp [hv])
  have c1 : aed aiH 2147483587 = true := agv (by omega)
  have c2 : aed 31 k = true := adR (by omega)
  have e2 : plB [.sh S, .sh (.int k), .sh (.int cell), .sh (.int aiH), .sh (.int j)] = .ok (.nx, [.sh S, .sh (.int k), .sh (.int cell), .sh (.int (aiH * 2147483587 + y)), .sh (.int j)]) := by
   unfold plB
   simp -dsimp [aa0, frz, dow, aaZ, con, abh, eB, bOf, tru, dr, drs, cls, clV, abp, g1, g2, gI, gIC, gB, gEq, aaW, abd, aa5, gLt, gGt, aaO, aaD, aaq, abk, okR, iOf, isS, others, abe, aaY, aa9, abl, abo, aai, aar, abw, c1, c2, e]
  refine ⟨x, s', ?_⟩
  unfold acD
  simp [e2, e']
theorem ad2 : ∀ (n : Nat) (lo : Int) (u : Tr), u ∈ L2.upTo lo n -> ∃ j : Int, u = .int j /\ lo <= j /\ j < lo + n
 | 0, _, u, h => by simp [L2.upTo] at h
 | n + 1, lo, u, h => by
  unfold L2.upTo at h
  rcases List.mem_cons.mp h with rfl | h
  ·exact ⟨lo, rfl, by omega, by omega⟩
  ·obtain ⟨j, rfl, h1, h2⟩ := ad2 n (lo + 1) u h
   exact ⟨j, rfl, by omega, by omega⟩
noncomputable def plT : SF := (aa6 (sIf (abf (eOp gGe (aah 2) (eOp abF (eC (.int 10)) (eC (.int 18))))) (abU (aeW (aad (eOp aa5 (aah 2) (eOp abF (eC (.int 10)) (eC (.int 18)))) aaB))) acC) (aa6 (abM (eC (.int 0)) (gN 3)) (aa6 (ae3 (agA (agE (aad (eC (.int 20)) aaB)) (gN 4) plB)) (abU (aeW (aad (aah 3) aaB))))))
theorem aiI (S : Tr) (k : Nat) (hk : k < 1000) (cell : Int) : ∃ x ρ, plT [.sh S, .sh (.int k), .sh (.int cell), .un, .un] = .ok (.rt (.lst [.int x]) true, ρ) := by
 by_cases h : 1000000000000000000 <= cell
 ·refine ⟨cell - 1000000000000000000, [.sh S, .sh (.int k), .sh (.int cell), .un, .un], ?_⟩
  unfold plT
  simp -dsimp [aa0, frz, dow, aaZ, con, abh, eB, bOf, tru, dr, drs, cls, clV, abp, g1, g2, gI, gIC, gB, gEq, aaW, abd, aa5, gLt, gGt, aaO, aaD, aaq, abk, okR, iOf, isS, others, abe, aaY, aa9, abl, abo, aai, aar, gGe, abF, ao1, tiny, h]
 ·obtain ⟨x, s', e⟩ := agw S k cell (by omega) (by omega) (L2.upTo 0 20) 0 .un λu hu => by
   obtain ⟨j, rfl, h1, h2⟩ := ad2 _ _ _ hu
   exact ⟨j, rfl, h1, by omega⟩
  have e1 : ae3 (agA (agE (aad (eC (.int 20)) aaB)) (gN 4) plB) [.sh S, .sh (.int k), .sh (.int cell), .sh (.int 0), .un] = .ok (.nx, [.sh S, .sh (.int k), .sh (.int cell), .sh (.int x), s']) := by
   show aa0 (acD (gN 4) plB (L2.upTo 0 20) _) = _
   rw [e]
   rfl
  refine ⟨x, [.sh S, .sh (.int k), .sh (.int cell), .sh (.int x), s'], ?_⟩
  unfold plT
  generalize ae3 (agA (agE (aad (eC (.int 20)) aaB)) (gN 4) plB) = G at e1 ⊢
  simp -dsimp [aa0, frz, dow, aaZ, con, abh, eB, bOf, tru, dr, drs, cls, clV, abp, g1, g2, gI, gIC, gB, gEq, aaW, abd, aa5, gLt, gGt, aaO, aaD, aaq, abk, okR, iOf, isS, others, abe, aaY, aa9, abl, abo, aai, aar, gGe, abF, ao1, tiny, h, e1]
theorem am4 (ns : List Int) (k : Nat) (hk : k < 1000) : ∃ x : Int, afn [.lst (ns.map .int), .int k] = .ok (.lst [.int x], true) := by
 have hd : amL = (aa6 (abM (eC (.int 0)) (gN 2)) (aa6 (sIf (abf (eOp gLt (aah 1) (eCB (g1 aaO) (aad (aah 0) aaB)))) (abM (eOp gIx (aah 0) (aah 1)) (gN 2)) acC) plT)) := rfl
 unfold afn
 rw [hd]
 by_cases h : k < ns.length
 ·have e := aeR (xs := ns.map .int) (i := k) (T := .int ns[k]) (by simp [h])
  obtain ⟨x, ρ, e1⟩ := aiI (.lst (ns.map .int)) k hk ns[k]
  refine ⟨x, ?_⟩
  unfold fnP
  generalize plT = G at e1 ⊢
  generalize ns[k] = cell at e e1
  simp -dsimp [aa0, frz, dow, aaZ, con, abh, eB, bOf, tru, dr, drs, cls, clV, abp, g1, g2, gI, gIC, gB, gEq, aaW, abd, aa5, gLt, gGt, aaO, aaD, aaq, abk, okR, iOf, isS, others, abe, aaY, aa9, abl, abo, aai, aar, aaG, h, e, e1]
 ·obtain ⟨x, ρ, e1⟩ := aiI (.lst (ns.map .int)) k hk 0
  refine ⟨x, ?_⟩
  unfold fnP
  generalize plT = G at e1 ⊢
  simp -dsimp [aa0, frz, dow, aaZ, con, abh, eB, bOf, tru, dr, drs, cls, clV, abp, g1, g2, gI, gIC, gB, gEq, aaW, abd, aa5, gLt, gGt, aaO, aaD, aaq, abk, okR, iOf, isS, others, abe, aaY, aa9, abl, abo, aai, aar, aaG, h, e1]
theorem aqX {T : Tr} (h : afp T = true) (ho : okB T = true) : ∃ rows c, T = .lst rows /\ 1 <= rows.length /\ rows.length <= 4 /\ 1 <= c /\ c <= 12 /\ Sh c rows := by
 cases T with
 | lst rows =>
  unfold afp at h
  simp only [Bool.and_eq_true, decide_eq_true_eq, List.all_eq_true, beq_iff_eq] at h
  obtain ⟨⟨⟨h1, h2⟩, h3⟩, h4⟩ := h
  cases rows with
  | nil => simp at h1
  | cons r0 rs =>
   obtain ⟨l0, rfl⟩ := aeQ (h3 r0 (by simp))
   have h5 := h3 (.lst l0) (by simp)
   simp only [acB, Bool.and_eq_true, decide_eq_true_eq] at h5
   refine ⟨_, l0.length, rfl, by omega, by omega, by omega, by omega, λr hr => ?_⟩
   obtain ⟨l, rfl⟩ := aeQ (h3 r hr)
   have h6 := h3 (.lst l) hr
   simp only [acB, Bool.and_eq_true, decide_eq_true_eq, List.all_eq_true] at h6
   have h7 := h4 (.lst l) hr
   simp only [afg, List.headD_cons] at h7
   refine ⟨l, rfl, by omega, λe he => ?_⟩
   have ok1 : ∀ {ts : List Tr}, anr ts = true -> ∀ t ∈ ts, okB t = true := λ{ts} => by
    induction ts with
    | nil => intro _ t ht; simp at ht
    | cons a b ih => intro q t ht; simp only [anr, Bool.and_eq_true] at q; rcases List.mem_cons.mp ht with rfl | ht; exact q.1; exact ih q.2 t ht
   simp only [okB] at ho
   have o1 := ok1 ho _ hr
   simp only [okB] at o1
   have o2 := ok1 o1 _ he
   have w := h6.2 e he
   unfold afe at w
   split at w
   ·rename_i a b
    unfold aiz at w
    split at w
    ·rename_i p q
     simp only [okB] at o2
     have o3 := ok1 o2 (.int p) (by simp)
     have o4 := ok1 o2 (.int q) (by simp)
     simp only [okB, decide_eq_true_eq] at o3 o4
     exact ⟨p, q, rfl, o3, o4⟩
    ·cases w
   ·cases w
 | _ => cases h
end K08
end
section
namespace K08
open PySem L2 BH
theorem at4 : afo [.exn "NoBook", .str "NoBook"] = .ok (.bl true, false) := by kernel_rfl
theorem at5 : afo [.exn "NoList", .str "NoList"] = .ok (.bl true, false) := by kernel_rfl
noncomputable def auT (n : Int) : Tr -> Bool
 | .int k => decide (0 <= k) && decide (k < n)
 | _ => false
theorem aoF (T : Tr) (n : Int) : acy [T, .int n] = .ok (.bl (auT n T), false) := by
 have e := aen T
 cases T with
 | int k => exact ags k n
 | _ =>
  unfold isW at e
  unfold auT acy ae4 fnP
  simp -dsimp [aaG, drs, dr, isS, e, bOf, eB]
theorem aoG {T W : Tr} (h : afp T = false) : aaN [T, W] = .ex "NoBook" := by
 have e := aiE h
 unfold aaN acZ fnP
 simp -dsimp [aaG, drs, dr, isS, e]
theorem aoH {rows : List Tr} {W : Tr} (h : afp (.lst rows) = true) (hp : auT rows.length W = false) : aaN [.lst rows, W] = .ex "NoList" := by
 have e := afq h
 have e2 := aoF W rows.length
 rw [hp] at e2
 have el : aaO (.lst rows) = .ok (.int (rows.length : Nat), false) := rfl
 generalize Tr.int (rows.length : Nat) = N at *
 have e3 : acp [.lst rows, W] = .ex "NoList" := by
  generalize Tr.lst rows = R at *
  unfold acp aej fnP
  simp -dsimp [aaG, drs, dr, isS, g1, el, e2, tru]
 generalize Tr.lst rows = R at *
 unfold aaN acZ fnP
 simp -dsimp [aaG, drs, dr, isS, e, e3]
theorem aps : ∀ {l : List Tr}, (∀ e ∈ l, Pr e) -> ∃ x : List (Int × Int), l = x.map fT /\ ∀ y ∈ x, y.1.natAbs < 2 ^ 60 /\ y.2.natAbs < 2 ^ 60
 | [], _ => ⟨[], rfl, by simp⟩
 | t :: l, h => by
  obtain ⟨p, q, rfl, h1, h2⟩ := h t (by simp)
  obtain ⟨x, rfl, hx⟩ := aps (l := l) λe he => h e (by simp [he])
  refine ⟨(p, q) :: x, rfl, λy hy => ?_⟩
  rcases List.mem_cons.mp hy with rfl | hy
  ·exact ⟨h1, h2⟩
  ·exact hx y hy
theorem aoI {T : Tr} (h : afp T = true) (ho : okB T = true) : ∃ (rows : List Tr) (c : Nat), T = .lst rows /\ 1 <= rows.length /\ rows.length <= 4 /\ 1 <= c /\ c <= 12 /\ Sh c rows /\ ∀ k : Nat, k < rows.length -> ∃ ys : List Nat, ys.length = c /\ aaN [T, .int (k : Nat)] = .ok (.lst (ys.map λi : Nat => Tr.int i), true) := by
 obtain ⟨rows, c, rfl, h1, h2, h3, h4, h5⟩ := aqX h ho
 refine ⟨rows, c, rfl, h1, h2, h3, h4, h5, λk hk => ?_⟩
 have hm := List.getElem_mem hk
 obtain ⟨l, el, hl, hp⟩ := h5 _ hm
 obtain ⟨x, rfl, hx⟩ := aps hp
 have hw : acB 12 rows[k] = true := by
  unfold afp at h
  simp only [Bool.and_eq_true] at h
  exact List.all_eq_true.mp h.1.2 _ hm
 rw [el] at hw
 have hw : (x.map fT).all afe = true := by
  have z : (decide (1 <= ((x.map fT).length : Int)) && decide (((x.map fT).length : Int) <= 12) && (x.map fT).all afe) = true := hw
  rw [Bool.and_eq_true] at z
  exact z.2
 have hf : Frs 60 x := λy hy => by
  have w : afe (fT y) = true := List.all_eq_true.mp hw _ (List.mem_map.mpr ⟨y, hy, rfl⟩)
  have w : (decide (0 <= y.1) && decide (y.1 <= y.2) && decide (1 <= y.2) && (Int.gcd y.1 y.2 == 1)) = true := w
  simp only [Bool.and_eq_true, decide_eq_true_eq] at w
  have := hx y hy
  exact ⟨w.1.2, by omega, this.1⟩
 rw [List.length_map] at hl
 obtain ⟨ys, e, f⟩ := aeS (N := 60) (k := k) h (by rw [List.getElem?_eq_getElem hk, el]) hf (by rw [hl]; omega) (by omega) (by rw [hl]; omega)
 exact ⟨ys, by have := f.1.length_eq; simpa [hl] using this, e⟩
noncomputable def asB : SF := (abM (aaM aaN (aad (aah 0) (aad (aah 1) aaB))) (gN 2))
theorem aoJ {T W L : Tr} {f : Bool} (h : aaN [T, W] = .ok (L, f)) : aem [T, W] = .ok (.tup [L, .non], false) := by
 have e : asB [.sh T, .sh W, .sh .non, .sh .non, .un] = .ok (.nx, [.sh T, .sh W, .sh L, .sh .non, .un]) := by
  unfold asB
  simp -dsimp [drs, dr, isS, h]
 have e := aqS (cs := ["NoBook", "NoList"]) (j := 4) (fh := (abM (aah 4) (gN 3))) e
 show fnP 5 (aa6 (abM (eC .non) (gN 2)) (aa6 (abM (eC .non) (gN 3)) (aa6 (alE ["NoBook", "NoList"] 4 asB (abM (aah 4) (gN 3))) (abU (arf (aad (aah 2) (aad (aah 3) aaB))))))) [T, W] = _
 generalize alE _ _ _ _ = G at e ⊢
 unfold fnP
 simp -dsimp [aaG, drs, dr, isS, cls, e]
theorem akG {T W : Tr} {c : Str} (h : aaN [T, W] = .ex c) (hc : c ∈ (["NoBook", "NoList"] : List Str)) : aem [T, W] = .ok (.tup [.non, .exn c], false) := by
 have e : asB [.sh T, .sh W, .sh .non, .sh .non, .un] = .ex c := by
  unfold asB
  simp -dsimp [drs, dr, isS, h]
 have e := aqT (cs := ["NoBook", "NoList"]) (j := 4) (fh := (abM (aah 4) (gN 3))) e hc
 have e : alE ["NoBook", "NoList"] 4 asB (abM (aah 4) (gN 3)) [.sh T, .sh W, .sh .non, .sh .non, .un] = .ok (.nx, [.sh T, .sh W, .sh .non, .sh (.exn c), .un]) := by
  rw [e]
  rfl
 show fnP 5 (aa6 (abM (eC .non) (gN 2)) (aa6 (abM (eC .non) (gN 3)) (aa6 (alE ["NoBook", "NoList"] 4 asB (abM (aah 4) (gN 3))) (abU (arf (aad (aah 2) (aad (aah 3) aaB))))))) [T, W] = _
 generalize alE _ _ _ _ = G at e ⊢
 unfold fnP
 simp -dsimp [aaG, drs, dr, isS, cls, e]
noncomputable def Wk (W : Tr) : Prop := okS W = true /\ blk W <= 100 /\ dep W <= 3
noncomputable def gd3 : SF := (abU (akY (eOp (gIs id) (aah 4) (eC .non)) (akY (ai6 .list (aah 3)) (eOp gEq (eCB (g1 aaO) (aad (aah 3) aaB)) (eCB (g1 aaO) (aad (eOp gIx (aah 0) (eC (.int 0))) aaB))))))
noncomputable def gd2 : SF := (aa6 (sIf (bOr (aee (aez (aaM acF (aad (aah 1) aaB)))) (bOr (abf (eOp gLt (aah 1) (eC (.int 0)))) (abf (eOp gGe (aah 1) (eCB (g1 aaO) (aad (aah 0) aaB)))))) (abU (aaM afo (aad (aah 4) (aad (eC (.str "NoList")) aaB)))) acC) gd3)
noncomputable def gd1 : SF := (aa6 (sIf (aee (aez (aaM adf (aad (aah 0) aaB)))) (abU (aaM afo (aad (aah 4) (aad (eC (.str "NoBook")) aaB)))) acC) gd2)
theorem aoK : apl = (aa6 (abM (eCB (g1 anq) (aad (aeW (aad (aah 0) (aad (aah 1) aaB))) aaB)) (gN 2)) (aa6 (abM (aaM aem (aad (aah 0) (aad (aah 1) aaB))) (gT 2 (abL (gN 3) (abL (gN 4) aeh)))) (aa6 (sIf (abf (eOp gNe (eCB (g1 anq) (aad (aeW (aad (aah 0) (aad (aah 1) aaB))) aaB)) (aah 2))) (abU (eC (.bl false))) acC) gd1))) := rfl
theorem ajx {T W A B : Tr} {ρ : En} (hs : okS (.lst [T, W]) = true /\ blk (.lst [T, W]) <= 8000 /\ dep (.lst [T, W]) <= 40) (ha : aem [T, W] = .ok (.tup [A, B], false)) (h : ∀ z : Str, ∃ ρ, gd1 [.sh T, .sh W, .sh (.str z), .sh A, .sh B] = .ok (.rt (.bl true) false, ρ)) : aeG [T, W] = .ok (.bl true, false) := by
 have e : anq (.lst [T, W]) = .ok (.str (txt (.lst [T, W])), false) := if_pos hs
 obtain ⟨ρ, h⟩ := h (txt (.lst [T, W]))
 generalize txt (.lst [T, W]) = z at *
 have n1 : gNe (.str z) (.str z) = .ok (.bl false, false) := akE (by rw [aau]; omega)
 unfold aeG
 rw [aoK]
 generalize gd1 = G at *
 generalize Tr.str z = Z at *
 unfold fnP
 simp -dsimp [aaG, drs, dr, isS, cls, g1, e, ha, n1, bOf, h]
theorem am5 {T W : Tr} (hT : Sm 4100 8 T) (hW : Wk W) : aeG [T, W] = .ok (.bl true, false) := by
 have hs : okS (.lst [T, W]) = true /\ blk (.lst [T, W]) <= 8000 /\ dep (.lst [T, W]) <= 40 := by
  obtain ⟨a1, a2, a3⟩ := hT
  obtain ⟨b1, b2, b3⟩ := hW
  have a1 := atZ T a1
  refine ⟨?_, ?_, ?_⟩
  ·simp only [okS, al2]
   rw [a1, b1]
   rfl
  ·simp only [blk, blks]
   omega
  ·simp only [dep, deps]
   omega
 have lb := ajt T
 have lw := ad0 W
 cases hb : afp T with
 | false =>
  rw [hb] at lb
  refine ajx (ρ := []) hs (akG (aoG hb) (by simp)) λz => ⟨[.sh T, .sh W, .sh (.str z), .sh .non, .sh (.exn "NoBook")], ?_⟩
  have eo := at4
  unfold gd1
  generalize gd2 = G
  simp -dsimp [drs, dr, isS, lb, tru, eo]
 | true =>
  rw [hb] at lb
  obtain ⟨rows, c, rfl, h1, h2, h3, h4, h5, hok⟩ := aoI hb hT.1
  have el : aaO (.lst rows) = .ok (.int (rows.length : Nat), false) := rfl
  cases hp : auT rows.length W with
  | false =>
   refine ajx (ρ := []) hs (akG (aoH hb hp) (by simp)) λz => ⟨[.sh (.lst rows), .sh W, .sh (.str z), .sh .non, .sh (.exn "NoList")], ?_⟩
   have eo := at5
   have ec : (bOr (aee (aez (aaM acF (aad (aah 1) aaB)))) (bOr (abf (eOp gLt (aah 1) (eC (.int 0)))) (abf (eOp gGe (aah 1) (eCB (g1 aaO) (aad (aah 0) aaB)))))) [.sh (.lst rows), .sh W, .sh (.str z), .sh .non, .sh (.exn "NoList")] = .ok (true, [.sh (.lst rows), .sh W, .sh (.str z), .sh .non, .sh (.exn "NoList")]) := by
    generalize Tr.lst rows = R at *
    cases W with
    | int k =>
     have lw : acF [.int k] = .ok (.bl true, false) := lw
     have hp : (decide (0 <= k) && decide (k < (rows.length : Int))) = false := hp
     have l1 : gLt (.int k) (.int 0) = .ok (.bl (decide (k < 0)), false) := rfl
     have l2 : gGe (.int k) (.int (rows.length : Nat)) = .ok (.bl (decide (k >= (rows.length : Int))), false) := rfl
     by_cases z1 : k < 0
     ·rw [decide_eq_true z1] at l1
      simp -dsimp [drs, dr, isS, lw, tru, l1, bOf]
     ·rw [decide_eq_false z1] at l1
      have z2 : k >= (rows.length : Int) := by
       rw [decide_eq_true (by omega), Bool.true_and, decide_eq_false_iff_not] at hp
       omega
      rw [decide_eq_true z2] at l2
      simp -dsimp [drs, dr, isS, lw, tru, l1, l2, g1, el, bOf]
    | _ =>
     unfold isW at lw
     simp -dsimp [drs, dr, isS, lw, tru]
   unfold gd1 gd2
   generalize gd3 = G
   generalize bOr _ _ = C at *
   generalize Tr.lst rows = R at *
   simp -dsimp [drs, dr, isS, lb, tru, ec, eo]
  | true =>
   cases W with
   | int k =>
    have hp : (decide (0 <= k) && decide (k < (rows.length : Int))) = true := hp
    rw [Bool.and_eq_true, decide_eq_true_eq, decide_eq_true_eq] at hp
    obtain ⟨k, rfl⟩ := Int.eq_ofNat_of_zero_le hp.1
    obtain ⟨ys, hy, e⟩ := hok k (by omega)
    refine ajx (ρ := []) hs (aoJ e) λz => ⟨[.sh (.lst rows), .sh (.int (k : Nat)), .sh (.str z), .sh (.lst (ys.map λi : Nat => Tr.int i)), .sh .non], ?_⟩
    have lw : acF [.int (k : Nat)] = .ok (.bl true, false) := lw
    have l1 : gLt (.int (k : Nat)) (.int 0) = .ok (.bl false, false) := by
     show Rs.ok (Tr.bl (decide ((k : Int) < 0)), false) = _
     rw [decide_eq_false (by omega)]
    have l2 : gGe (.int (k : Nat)) (.int (rows.length : Nat)) = .ok (.bl false, false) := by
     show Rs.ok (Tr.bl (decide ((k : Int) >= (rows.length : Int))), false) = _
     rw [decide_eq_false (by omega)]
    obtain ⟨r0, hr0⟩ : ∃ r, rows[0]? = some r := ⟨_, List.getElem?_eq_getElem (by omega)⟩
    obtain ⟨l0, rfl, hl0, _⟩ := h5 r0 (List.mem_of_getElem? hr0)
    have g0 : gIx (.lst rows) (.int 0) = .ok (.lst l0, false) := ahB (i := 0) hr0
    have gl0 : aaO (.lst l0) = .ok (.int (c : Nat), false) := by
     show Rs.ok (Tr.int (l0.length : Int), false) = _
     rw [hl0]
    have gly : aaO (.lst (ys.map λi : Nat => Tr.int i)) = .ok (.int (c : Nat), false) := by
     show Rs.ok (Tr.int ((ys.map λi : Nat => Tr.int i).length : Int), false) = _
     rw [List.length_map, hy]
    have n1 : gEq (.int (c : Nat)) (.int (c : Nat)) = .ok (.bl true, false) := aoC (by rw [aai]; omega)
    have n2 : gIs id .non .non = .ok (.bl true, false) := rfl
    have ty : abS (.lst (ys.map λi : Nat => Tr.int i)) .list = true := rfl
    generalize Tr.lst (ys.map λi : Nat => Tr.int i) = Y at *
    generalize Tr.lst rows = R at *
    generalize Tr.lst l0 = L0 at *
    generalize Tr.int (k : Nat) = K at *
    generalize Tr.int (rows.length : Nat) = N at *
    generalize Tr.int (c : Nat) = C at *
    have e3 : gd3 [.sh R, .sh K, .sh (.str z), .sh Y, .sh .non] = .ok (.rt (.bl true) false, [.sh R, .sh K, .sh (.str z), .sh Y, .sh .non]) := by
     unfold gd3
     simp -dsimp [drs, dr, isS, g1, n2, bOf, ty, eB, gly, g0, gl0, n1]
    unfold gd1 gd2
    generalize gd3 = G at *
    simp -dsimp [drs, dr, isS, g1, lb, tru, lw, l1, bOf, el, l2, e3]
   | _ => cases hp
theorem akH (m : Nat) (h1 : 1 <= m) (h4 : m <= 4) (n : Int) : ∃ (W : Tr) (n' : Int), adq [.int (m : Nat), .lst [.int n]] = .ok ((W, false), [.int n']) /\ Wk W := by
 have t1 := ab9 n 14 (by omega) (by decide)
 have r1 := abu n 14 (by omega)
 generalize n.fmod 14 = a at *
 generalize n.fdiv 14 = n1 at *
 by_cases h3 : a < 3
 ·have t2 := ab9 n1 (m : Int) (by omega) (lg (by omega))
  have r2 := abu n1 (m : Int) (by omega)
  refine ⟨.int (n1.fmod m), n1.fdiv m, ?_, ?_⟩
  ·have l1 : gLt (.int a) (.int 3) = .ok (.bl true, false) := by
    show Rs.ok (Tr.bl (decide (a < 3)), false) = _
    rw [decide_eq_true h3]
   generalize n1.fmod m = X at *
   generalize n1.fdiv m = Y at *
   generalize (m : Int) = M at *
   unfold adq ajk fnR
   simp -dsimp [aaG, con, drs, dr, isS, others, aaZ, aa0, ace, aeo, t1, l1, bOf, t2]
  ·refine ⟨?_, by simp [blk], by simp [dep]⟩
   simp only [okS, decide_eq_true_eq]
   exact lgS (by omega)
 ·have p59 : (10 : Int) ^ 59 = 100000000000000000000000000000000000000000000000000000000000 := by decide
  have t2 := ab9 n1 ((10 : Int) ^ 59) (by rw [p59]; omega) (by rw [p59]; decide)
  have r2 := abu n1 ((10 : Int) ^ 59) (by rw [p59]; omega)
  have l1 : gLt (.int a) (.int 3) = .ok (.bl false, false) := by
   show Rs.ok (Tr.bl (decide (a < 3)), false) = _
   rw [decide_eq_false h3]
  obtain ⟨i, hi⟩ : ∃ i : Nat, (i : Int) = a - 3 := ⟨(a - 3).toNat, by omega⟩
  have hp : abF (.int 10) (.int 59) = .ok (.int ((10 : Int) ^ 59), false) := rfl
  generalize hf : n1.fmod ((10 : Int) ^ 59) = f at *
  generalize n1.fdiv ((10 : Int) ^ 59) = n2 at *
  obtain ⟨S, hS⟩ : ∃ S : List Tr, S = [.int (0 - 1), .int (m : Nat), .int ((m : Int) + f), .int (0 - 1 - f), .bl true, .bl false, .non, .str "0", .tup [.int 0], .lst [.int 0], .tup [.int 0, .int 1]] := ⟨_, rfl⟩
  have hl : S.length = 11 := by rw [hS]; rfl
  obtain ⟨W, eW⟩ : ∃ W, S[i]? = some W := ⟨_, List.getElem?_eq_getElem (by omega)⟩
  have g0 := ahB eW
  rw [hi] at g0
  have lgB : ∀ k : Int, k.natAbs < 2 ^ 250 -> k.natAbs.log2 < 1920 := λk hk => by
   by_cases z : k.natAbs = 0
   ·rw [z]; decide
   ·have := (Nat.log2_lt (n := k.natAbs) (k := 250) z).mpr hk
    omega
  have wi : ∀ k : Int, k.natAbs < 2 ^ 250 -> Wk (.int k) := λk hk => ⟨by simp only [okS, decide_eq_true_eq]; exact lgB k hk, by simp [blk], by simp [dep]⟩
  refine ⟨W, n2, ?_, ?_⟩
  ·have q1 : aa5 (.int 0) (.int 1) = .ok (.int (0 - 1), false) := rfl
   have q2 : aaW (.int (m : Nat)) (.int f) = .ok (.int ((m : Int) + f), false) := rfl
   have q3 : aa5 (.int (0 - 1)) (.int f) = .ok (.int (0 - 1 - f), false) := rfl
   have q4 : aa5 (.int a) (.int 3) = .ok (.int (a - 3), false) := rfl
   rw [hS] at g0
   generalize (0 : Int) - 1 - f = C3 at *
   generalize (0 : Int) - 1 = C1 at *
   generalize (m : Int) + f = C2 at *
   generalize a - 3 = A3 at *
   generalize (m : Int) = M at *
   generalize (10 : Int) ^ 59 = P at *
   unfold adq ajk fnR
   simp -dsimp [aaG, con, drs, dr, isS, others, aaZ, aa0, ace, aeo, cls, t1, l1, bOf, hp, t2, q1, q2, q3, q4, g0]
  ·have hm := List.mem_of_getElem? eW
   rw [hS] at hm
   simp only [List.mem_cons, List.mem_nil_iff, or_false] at hm
   rcases hm with rfl | rfl | rfl | rfl | rfl | rfl | rfl | rfl | rfl | rfl | rfl
   ·exact wi _ (by decide)
   ·exact wi _ (by omega)
   ·exact wi _ (by rw [p59] at r2; omega)
   ·exact wi _ (by rw [p59] at r2; omega)
   all_goals (refine ⟨?_, ?_, ?_⟩ <;> decide +kernel)
end K08
end
section
namespace axm
open PySem L2 BH K08
theorem amX {α : Type} (a : α) : aa0 (.ok a) = .ok a := rfl
theorem ad0 (T : Tr) : acF [T] = .ok (.bl (isW T), false) := by cases T <;> rfl
theorem aeT (a b : Int) : adp [.int a, .int b] = .ok (.int (Int.gcd a b : Nat), false) := ajq a b
theorem ab9 (n k : Int) (h : 0 < k) (hk : k.natAbs.log2 < 9000) : abg [.lst [.int n], .int k] = .ok ((.int (n.fmod k), false), [.int (n.fdiv k)]) := by
 unfold abg amM fnR
 have h0 : k ≠ 0 := by omega
 have h1 : ah3 n k = true := by unfold ah3; simp [h0, hk]
 simp -dsimp [aa0, frz, dow, aaZ, con, abh, eB, bOf, tru, dr, drs, cls, clV, abp, g1, g2, gI, gIC, gB, gEq, gNe, gIn, aaW, abw, abN, abd, abF, aa5, gLt, gGt, gLe, gGe, gIx, aaO, abT, aaD, aaq, abO, abP, abG, abk, okR, iOf, isS, others, abe, aaY, aa9, abl, abo, aai, aaH, aau, aax, aay, aav, aao, aaj, aar, aaI, aaJ, abS, atI, ixN, aaG, h0, h1, ace, aeo]
theorem lg {k : Int} (h : k.natAbs < 2 ^ 60) : k.natAbs.log2 < 9000 := lg2 h (by omega)
theorem abu (n k : Int) (h : 0 < k) : 0 <= n.fmod k /\ n.fmod k < k := ⟨Int.fmod_nonneg_of_pos n h, Int.fmod_lt_of_pos n h⟩
theorem aju (x b : Int) (hx : 0 <= x) (hb : 1 <= b) (h1 : x <= b) (h2 : b <= 1000000000000) : ∃ y, aeF [.int x, .int b] = .ok (fT y, false) /\ Wo y := by
 obtain ⟨g1, g2, g3, g4, g5, g6, g7⟩ := ah2 (a := x) (b := b) (by omega)
 have e1 : x.fdiv (Int.gcd x b : Nat) = x / (Int.gcd x b : Nat) := Int.fdiv_eq_ediv_of_nonneg _ (by omega)
 have e2 : b.fdiv (Int.gcd x b : Nat) = b / (Int.gcd x b : Nat) := Int.fdiv_eq_ediv_of_nonneg _ (by omega)
 refine ⟨(x.fdiv (Int.gcd x b : Nat), b.fdiv (Int.gcd x b : Nat)), ?_, ?_⟩
 ·unfold aeF amN fnP fT
  generalize hg : ((Int.gcd x b : Nat) : Int) = g at g1 g2
  have hs := aeT x b
  rw [hg] at hs
  have h3 : ¬ b < 0 := by omega
  have c1 : ah3 x g = true := ahA (M := 60) (by omega) (by omega) (by omega)
  have c2 : ah3 b g = true := ahA (M := 60) (by omega) (by omega) (by omega)
  simp -dsimp [aa0, frz, dow, aaZ, con, abh, eB, bOf, tru, dr, drs, cls, clV, abp, g1, g2, gI, gIC, gB, gEq, gNe, gIn, aaW, abw, abN, abd, abF, aa5, gLt, gGt, gLe, gGe, gIx, aaO, abT, aaD, aaq, abO, abP, abG, abk, okR, iOf, isS, others, abe, aaY, aa9, abl, abo, aai, aaH, aau, aax, aay, aav, aao, aaj, aar, aaI, aaJ, abS, atI, ixN, aaG, hs, h3, c1, c2]
 ·rw [e1, e2]
  refine ⟨g5 hx, Int.ediv_le_ediv g1 h1, g3, ?_, g4⟩
  have := Int.ediv_le_self (a := b) ((Int.gcd x b : Nat) : Int) (by omega)
  show b / ((Int.gcd x b : Nat) : Int) <= 1000000000000
  omega
theorem ahC (n : Int) : ∃ y m, ab2 [.lst [.int n]] = .ok ((fT y, false), [.int m]) /\ Wo y := by
 have hr := abu n 8 (by omega)
 have ht := ab9 n 8 (by omega) (by decide)
 have ff : ∀ (b c m : Int), c = b + 1 -> 1 <= b -> b <= 1000000000000 -> ∃ y x m', abg [.lst [.int m], .int c] = .ok ((.int x, false), [.int m']) /\ aeF [.int x, .int b] = .ok (fT y, false) /\ Wo y := λb c m hc h1 h2 => by
  subst hc
  have hh := abu m (b + 1) (by omega)
  obtain ⟨T, e, p⟩ := aju (m.fmod (b + 1)) b hh.1 h1 (by omega) h2
  exact ⟨T, _, _, ab9 m (b + 1) (by omega) (lg (by omega)), e, p⟩
 generalize n.fmod 8 = k at hr ht
 generalize n.fdiv 8 = m at ht
 unfold ab2 ajj fnR
 have hc : k = 0 \/ k = 1 \/ k = 2 \/ k = 3 \/ k = 4 \/ k = 5 \/ k = 6 \/ k = 7 := by omega
 rcases hc with rfl | rfl | rfl | rfl | rfl | rfl | rfl | rfl
 ·exact ⟨(0, 1), m, by simp -dsimp [aa0, frz, dow, aaZ, con, abh, eB, bOf, tru, dr, drs, cls, clV, abp, g1, g2, gI, gIC, gB, gEq, gNe, gIn, aaW, abw, abN, abd, abF, aa5, gLt, gGt, gLe, gGe, gIx, aaO, abT, aaD, aaq, abO, abP, abG, abk, okR, iOf, isS, others, abe, aaY, aa9, abl, abo, aai, aaH, aau, aax, aay, aav, aao, aaj, aar, aaI, aaJ, abS, atI, ixN, aaG, ht, ace, aeo, fT], by decide⟩
 ·exact ⟨(1, 1), m, by simp -dsimp [aa0, frz, dow, aaZ, con, abh, eB, bOf, tru, dr, drs, cls, clV, abp, g1, g2, gI, gIC, gB, gEq, gNe, gIn, aaW, abw, abN, abd, abF, aa5, gLt, gGt, gLe, gGe, gIx, aaO, abT, aaD, aaq, abO, abP, abG, abk, okR, iOf, isS, others, abe, aaY, aa9, abl, abo, aai, aaH, aau, aax, aay, aav, aao, aaj, aar, aaI, aaJ, abS, atI, ixN, aaG, ht, ace, aeo, fT], by decide⟩
 ·obtain ⟨T, x, m', e1, e2, p⟩ := ff 2 3 m (by omega) (by omega) (by omega)
  exact ⟨T, m', by simp -dsimp [aa0, frz, dow, aaZ, con, abh, eB, bOf, tru, dr, drs, cls, clV, abp, g1, g2, gI, gIC, gB, gEq, gNe, gIn, aaW, abw, abN, abd, abF, aa5, gLt, gGt, gLe, gGe, gIx, aaO, abT, aaD, aaq, abO, abP, abG, abk, okR, iOf, isS, others, abe, aaY, aa9, abl, abo, aai, aaH, aau, aax, aay, aav, aao, aaj, aar, aaI, aaJ, abS, atI, ixN, aaG, ht, ace, aeo, e1, e2], p⟩
 ·obtain ⟨T, x, m', e1, e2, p⟩ := ff 3 4 m (by omega) (by omega) (by omega)
  exact ⟨T, m', by simp -dsimp [aa0, frz, dow, aaZ, con, abh, eB, bOf, tru, dr, drs, cls, clV, abp, g1, g2, gI, gIC, gB, gEq, gNe, gIn, aaW, abw, abN, abd, abF, aa5, gLt, gGt, gLe, gGe, gIx, aaO, abT, aaD, aaq, abO, abP, abG, abk, okR, iOf, isS, others, abe, aaY, aa9, abl, abo, aai, aaH, aau, aax, aay, aav, aao, aaj, aar, aaI, aaJ, abS, atI, ixN, aaG, ht, ace, aeo, e1, e2], p⟩
 ·obtain ⟨T, x, m', e1, e2, p⟩ := ff 4 5 m (by omega) (by omega) (by omega)
  exact ⟨T, m', by simp -dsimp [aa0, frz, dow, aaZ, con, abh, eB, bOf, tru, dr, drs, cls, clV, abp, g1, g2, gI, gIC, gB, gEq, gNe, gIn, aaW, abw, abN, abd, abF, aa5, gLt, gGt, gLe, gGe, gIx, aaO, abT, aaD, aaq, abO, abP, abG, abk, okR, iOf, isS, others, abe, aaY, aa9, abl, abo, aai, aaH, aau, aax, aay, aav, aao, aaj, aar, aaI, aaJ, abS, atI, ixN, aaG, ht, ace, aeo, e1, e2], p⟩
 ·obtain ⟨T, x, m', e1, e2, p⟩ := ff 6 7 m (by omega) (by omega) (by omega)
  exact ⟨T, m', by simp -dsimp [aa0, frz, dow, aaZ, con, abh, eB, bOf, tru, dr, drs, cls, clV, abp, g1, g2, gI, gIC, gB, gEq, gNe, gIn, aaW, abw, abN, abd, abF, aa5, gLt, gGt, gLe, gGe, gIx, aaO, abT, aaD, aaq, abO, abP, abG, abk, okR, iOf, isS, others, abe, aaY, aa9, abl, abo, aai, aaH, aau, aax, aay, aav, aao, aaj, aar, aaI, aaJ, abS, atI, ixN, aaG, ht, ace, aeo, e1, e2], p⟩
 ·obtain ⟨T, x, m', e1, e2, p⟩ := ff 12 13 m (by omega) (by omega) (by omega)
  exact ⟨T, m', by simp -dsimp [aa0, frz, dow, aaZ, con, abh, eB, bOf, tru, dr, drs, cls, clV, abp, g1, g2, gI, gIC, gB, gEq, gNe, gIn, aaW, abw, abN, abd, abF, aa5, gLt, gGt, gLe, gGe, gIx, aaO, abT, aaD, aaq, abO, abP, abG, abk, okR, iOf, isS, others, abe, aaY, aa9, abl, abo, aai, aaH, aau, aax, aay, aav, aao, aaj, aar, aaI, aaJ, abS, atI, ixN, aaG, ht, ace, aeo, e1, e2], p⟩
 ·have h9 := ab9 m 999999999999 (by omega) (by decide)
  have hr := abu m 999999999999 (by omega)
  generalize m.fmod 999999999999 = b0 at h9 hr
  generalize m.fdiv 999999999999 = m1 at h9
  obtain ⟨T, x, m', e1, e2, p⟩ := ff (1 + b0) (1 + b0 + 1) m1 (by omega) (by omega) (by omega)
  exact ⟨T, m', by simp -dsimp [aa0, frz, dow, aaZ, con, abh, eB, bOf, tru, dr, drs, cls, clV, abp, g1, g2, gI, gIC, gB, gEq, gNe, gIn, aaW, abw, abN, abd, abF, aa5, gLt, gGt, gLe, gGe, gIx, aaO, abT, aaD, aaq, abO, abP, abG, abk, okR, iOf, isS, others, abe, aaY, aa9, abl, abo, aai, aaH, aau, aax, aay, aav, aao, aaj, aar, aaI, aaJ, abS, atI, ixN, aaG, ht, ace, aeo, ao1, tiny, h9, e1, e2], p⟩
theorem abX : ∀ (n : Nat) (lo : Int), (upTo lo n).length = n
 | 0, _ => rfl
 | n + 1, lo => by unfold L2.upTo; rw [List.length_cons, abX n]
theorem agt : ∀ (us : List Tr) (s : Sl) (n : Int), ∃ (ws : List (Int × Int)) (s' : Sl) (m : Int), adz (gN 0) adl (aaQ 0 ab2 (aad (aah 1) aaB)) us [s, .rf [.int n]] = .ok (ws.map fT, [s', .rf [.int m]]) /\ ws.length = us.length /\ ∀ w ∈ ws, Wo w
 | [], s, n => ⟨[], s, n, rfl, rfl, by simp⟩
 | u :: us, s, n => by
  obtain ⟨T, m1, e, p⟩ := ahC n
  obtain ⟨ws, s', m, e', hl, hp⟩ := agt us (.sh u) m1
  refine ⟨T :: ws, s', m, ?_, by simp [hl], λw hw => (List.mem_cons.mp hw).elim (λz => z ▸ p) (hp w)⟩
  have e1 : aaQ 0 ab2 (aad (aah 1) aaB) [.sh u, .rf [.int n]] = .ok (.v (fT T) false, [.sh u, .rf [.int m1]]) := by simp -dsimp [aa0, frz, dow, aaZ, con, abh, eB, bOf, tru, dr, drs, cls, clV, abp, g1, g2, gI, gIC, gB, gEq, gNe, gIn, aaW, abw, abN, abd, abF, aa5, gLt, gGt, gLe, gGe, gIx, aaO, abT, aaD, aaq, abO, abP, abG, abk, okR, iOf, isS, others, abe, aaY, aa9, abl, abo, aai, aaH, aau, aax, aay, aav, aao, aaj, aar, aaI, aaJ, abS, atI, ixN, aaG, e]
  generalize aaQ 0 ab2 (aad (aah 1) aaB) = G at e1 e' ⊢
  unfold adz
  simp [e1, clV, e']
noncomputable def inE : EF := (acv [none, some 2] (agE (aad (aah 1) aaB)) (gN 0) adl (aaQ 0 ab2 (aad (aah 1) aaB)))
theorem amZ (u : Tr) (c : Nat) (hc : c <= 12) (n : Int) : ∃ l m, inE [.sh u, .sh (.int c), .rf [.int n]] = .ok (.v (aiC l) true, [.sh u, .sh (.int c), .rf [.int m]]) /\ l.length = c /\ ∀ e ∈ l, Wo e := by
 obtain ⟨ws, s', m, e, hl, hp⟩ := agt (upTo 0 c) .un n
 rw [abX] at hl
 refine ⟨ws, m, ?_, hl, hp⟩
 unfold inE aiC
 generalize aaQ 0 ab2 (aad (aah 1) aaB) = G at e ⊢
 have h1 : (-1000000 : Int) <= c := by omega
 have h2 : (c : Int) <= 1000000 := by omega
 have h3 : c <= 100000 := by omega
 simp -dsimp [aa0, frz, dow, aaZ, con, abh, eB, bOf, tru, dr, drs, cls, clV, abp, g1, g2, gI, gIC, gB, gEq, gNe, gIn, aaW, abw, abN, abd, abF, aa5, gLt, gGt, gLe, gGe, gIx, aaO, abT, aaD, aaq, abO, abP, abG, abk, okR, iOf, isS, others, abe, aaY, aa9, abl, abo, aai, aaH, aau, aax, aay, aav, aao, aaj, aar, aaI, aaJ, abS, atI, ixN, aaG, h1, h2, h3, e, abX]
theorem aeU (c : Nat) (hc : c <= 12) : ∀ (us : List Tr) (s : Sl) (n : Int), ∃ (rows : List (List (Int × Int))) (s' : Sl) (m : Int), adz (gN 0) adl inE us [s, .sh (.int c), .rf [.int n]] = .ok (rows.map aiC, [s', .sh (.int c), .rf [.int m]]) /\ rows.length = us.length /\ Shp c rows
 | [], s, n => ⟨[], s, n, rfl, rfl, by intro r hr; simp at hr⟩
 | u :: us, s, n => by
  obtain ⟨l, m1, e, hl, p⟩ := amZ u c hc n
  obtain ⟨rows, s', m, e', hl', hp⟩ := aeU c hc us (.sh u) m1
  refine ⟨l :: rows, s', m, ?_, by simp [hl'], ?_⟩
  ·unfold adz
   simp [e, clV, e']
  ·intro r hr
   rcases List.mem_cons.mp hr with rfl | hr
   ·exact ⟨hl, p⟩
   ·exact hp r hr
theorem am0 (n : Int) : ∃ rows c m, agV [.lst [.int n]] = .ok ((bkT rows, true), [.int m]) /\ Bk c rows := by
 have t1 := ab9 n 4 (by omega) (by decide)
 have r1 := abu n 4 (by omega)
 generalize n.fmod 4 = a at t1 r1
 generalize n.fdiv 4 = n1 at t1
 have t2 := ab9 n1 12 (by omega) (by decide)
 have r2 := abu n1 12 (by omega)
 generalize n1.fmod 12 = b at t2 r2
 generalize n1.fdiv 12 = n2 at t2
 obtain ⟨c, hc⟩ : ∃ c : Nat, (c : Int) = 1 + b := ⟨(1 + b).toNat, by omega⟩
 obtain ⟨k, hk⟩ : ∃ c : Nat, (c : Int) = 1 + a := ⟨(1 + a).toNat, by omega⟩
 obtain ⟨rows, s', m, e, hl, hs⟩ := aeU c (by omega) (upTo 0 k) .un n2
 rw [abX] at hl
 refine ⟨rows, c, m, ?_, by omega, by omega, by omega, by omega, hs⟩
 show fnR 3 0 (aa6 (abM (eOp aaW (eC (.int 1)) (aaQ 0 abg (aad (aah 0) (aad (eC (.int 4)) aaB)))) (gN 1)) (aa6 (abM (eOp aaW (eC (.int 1)) (aaQ 0 abg (aad (aah 0) (aad (eC (.int 12)) aaB)))) (gN 2)) (abU (acv [none, some 2, some 0] (agE (aad (aah 1) aaB)) (gN 0) adl inE)))) _ = _
 unfold fnR bkT
 have h1 : (-1000000 : Int) <= k := by omega
 have h2 : (k : Int) <= 1000000 := by omega
 have h3 : k <= 100000 := by omega
 simp -dsimp [aa0, frz, dow, aaZ, con, abh, eB, bOf, tru, dr, drs, cls, clV, abp, g1, g2, gI, gIC, gB, gEq, gNe, gIn, aaW, abw, abN, abd, abF, aa5, gLt, gGt, gLe, gGe, gIx, aaO, abT, aaD, aaq, abO, abP, abG, abk, okR, iOf, isS, others, abe, aaY, aa9, abl, abo, aai, aaH, aau, aax, aay, aav, aao, aaj, aar, aaI, aaJ, abS, atI, ixN, aaG, t1, t2, <-hc, <-hk, h1, h2, h3, abX, e, ace, aeo]
theorem am3 {i : Int} (h : -1000000000000000000 < i /\ i < 1000000000000000000) : tiny i = true := by
 unfold tiny
 rw [Bool.and_eq_true]
 exact ⟨decide_eq_true (by omega), decide_eq_true (by omega)⟩
theorem adR {i j : Int} (h : -1000000000000000000 < i /\ i < 1000000000000000000) : aed i j = true := by unfold aed; rw [am3 h]; simp
theorem agv {i j : Int} (h : -1000000000000000000 < j /\ j < 1000000000000000000) : aed i j = true := by unfold aed; rw [am3 h]; simp
theorem ahD (a k : Int) (h0 : 0 <= k) (h1 : k < 100000) : ∃ x, ado [.int a, .int k] = .ok (.int x, false) := by
 have c1 : aed (a.fmod 2147483629) 69621 = true := agv (by omega)
 have c2 : aed 40503 k = true := adR (by omega)
 have c3 : aed (40503 * k) k = true := agv (by omega)
 have c4 : aed 16807 k = true := adR (by omega)
 generalize hA : a.fmod 2147483629 * 69621 + 40503 * k * k + 16807 * k + 1048583 = A
 have rA := abu A 2147483647 (by omega)
 generalize hB : A.fmod 2147483647 = B at rA
 have c5 : aed B B = true := adR (by omega)
 have rB := abu (B * B) 2147483629 (by omega)
 generalize hC : (B * B).fmod 2147483629 = C at rB
 have c6 : aed C (C + 2) = true := adR (by omega)
 refine ⟨(C * (C + 2)).fmod 2147483587, ?_⟩
 unfold ado aji fnP
 simp -dsimp [aa0, frz, dow, aaZ, con, abh, eB, bOf, tru, dr, drs, cls, clV, abp, g1, g2, gI, gIC, gB, gEq, aaW, abd, aa5, gLt, gGt, aaO, aaD, aaq, abk, okR, iOf, isS, others, abe, aaY, aa9, abl, abo, aai, aar, aaG, abw, c1, c2, c3, c4, hA, hB, c5, hC, c6]
noncomputable def plB : SF := (abM (eOp aaW (eOp abw (aah 3) (eC (.int 2147483587))) (aaM ado (aad (aah 2) (aad (eOp aaW (eOp abw (eC (.int 31)) (aah 1)) (aah 4)) aaB)))) (gN 3))
theorem agw (S : Tr) (k cell : Int) (h0 : 0 <= k) (h1 : k < 1000) : ∀ (us : List Tr) (aiH : Int) (s : Sl), (∀ u ∈ us, ∃ j : Int, u = .int j /\ 0 <= j /\ j < 1000) -> ∃ x s', acD (gN 4) plB us [.sh S, .sh (.int k), .sh (.int cell), .sh (.int aiH), s] = .ok (.nx, [.sh S, .sh (.int k), .sh (.int cell), .sh (.int x), s'])
 | [], aiH, s, _ => ⟨aiH, s, rfl⟩
 | u :: us, aiH, s, h => by
  obtain ⟨j, rfl, j0, j1⟩ := h u (by simp)
  obtain ⟨y, e⟩ := ahD cell (31 * k + j) (by omega) (by omega)
  obtain ⟨x, s', e'⟩ := agw S k cell h0 h1 us (aiH * 2147483587 + y) (.sh (.int j)) λv hv => h v (by simp [hv])
  have c1 : aed aiH 2147483587 = true := agv (by omega)
  have c2 : aed 31 k = true := adR (by omega)
  have e2 : plB [.sh S, .sh (.int k), .sh (.int cell), .sh (.int aiH), .sh (.int j)] = .ok (.nx, [.sh S, .sh (.int k), .sh (.int cell), .sh (.int (aiH * 2147483587 + y)), .sh (.int j)]) := by
   unfold plB
   simp -dsimp [aa0, frz, dow, aaZ, con, abh, eB, bOf, tru, dr, drs, cls, clV, abp, g1, g2, gI, gIC, gB, gEq, aaW, abd, aa5, gLt, gGt, aaO, aaD, aaq, abk, okR, iOf, isS, others, abe, aaY, aa9, abl, abo, aai, aar, abw, c1, c2, e]
  refine ⟨x, s', ?_⟩
  unfold acD
  simp [e2, e']
theorem ad2 : ∀ (n : Nat) (lo : Int) (u : Tr), u ∈ L2.upTo lo n -> ∃ j : Int, u = .int j /\ lo <= j /\ j < lo + n
 | 0, _, u, h => by simp [L2.upTo] at h
 | n + 1, lo, u, h => by
  unfold L2.upTo at h
  rcases List.mem_cons.mp h with rfl | h
  ·exact ⟨lo, rfl, by omega, by omega⟩
  ·obtain ⟨j, rfl, h1, h2⟩ := ad2 n (lo + 1) u h
   exact ⟨j, rfl, by omega, by omega⟩
noncomputable def plT : SF := (aa6 (sIf (abf (eOp gGe (aah 2) (eOp abF (eC (.int 10)) (eC (.int 18))))) (abU (aeW (aad (eOp aa5 (aah 2) (eOp abF (eC (.int 10)) (eC (.int 18)))) aaB))) acC) (aa6 (abM (eC (.int 0)) (gN 3)) (aa6 (ae3 (agA (agE (aad (eC (.int 20)) aaB)) (gN 4) plB)) (abU (aeW (aad (aah 3) aaB))))))
theorem aiI (S : Tr) (k : Nat) (hk : k < 1000) (cell : Int) : ∃ x ρ, plT [.sh S, .sh (.int k), .sh (.int cell), .un, .un] = .ok (.rt (.lst [.int x]) true, ρ) := by
 by_cases h : 1000000000000000000 <= cell
 ·refine ⟨cell - 1000000000000000000, [.sh S, .sh (.int k), .sh (.int cell), .un, .un], ?_⟩
  unfold plT
  simp -dsimp [aa0, frz, dow, aaZ, con, abh, eB, bOf, tru, dr, drs, cls, clV, abp, g1, g2, gI, gIC, gB, gEq, aaW, abd, aa5, gLt, gGt, aaO, aaD, aaq, abk, okR, iOf, isS, others, abe, aaY, aa9, abl, abo, aai, aar, gGe, abF, ao1, tiny, h]
 ·obtain ⟨x, s', e⟩ := agw S k cell (by omega) (by omega) (L2.upTo 0 20) 0 .un λu hu => by
   obtain ⟨j, rfl, h1, h2⟩ := ad2 _ _ _ hu
   exact ⟨j, rfl, h1, by omega⟩
  have e1 : ae3 (agA (agE (aad (eC (.int 20)) aaB)) (gN 4) plB) [.sh S, .sh (.int k), .sh (.int cell), .sh (.int 0), .un] = .ok (.nx, [.sh S, .sh (.int k), .sh (.int cell), .sh (.int x), s']) := by
   show aa0 (acD (gN 4) plB (L2.upTo 0 20) _) = _
   rw [e]
   rfl
  refine ⟨x, [.sh S, .sh (.int k), .sh (.int cell), .sh (.int x), s'], ?_⟩
  unfold plT
  generalize ae3 (agA (agE (aad (eC (.int 20)) aaB)) (gN 4) plB) = G at e1 ⊢
  simp -dsimp [aa0, frz, dow, aaZ, con, abh, eB, bOf, tru, dr, drs, cls, clV, abp, g1, g2, gI, gIC, gB, gEq, aaW, abd, aa5, gLt, gGt, aaO, aaD, aaq, abk, okR, iOf, isS, others, abe, aaY, aa9, abl, abo, aai, aar, gGe, abF, ao1, tiny, h, e1]
theorem am4 (ns : List Int) (k : Nat) (hk : k < 1000) : ∃ x : Int, afn [.lst (ns.map .int), .int k] = .ok (.lst [.int x], true) := by
 have hd : amL = (aa6 (abM (eC (.int 0)) (gN 2)) (aa6 (sIf (abf (eOp gLt (aah 1) (eCB (g1 aaO) (aad (aah 0) aaB)))) (abM (eOp gIx (aah 0) (aah 1)) (gN 2)) acC) plT)) := rfl
 unfold afn
 rw [hd]
 by_cases h : k < ns.length
 ·have e := BH.aeR (xs := ns.map .int) (i := k) (T := .int ns[k]) (by simp [h])
  obtain ⟨x, ρ, e1⟩ := aiI (.lst (ns.map .int)) k hk ns[k]
  refine ⟨x, ?_⟩
  unfold fnP
  generalize plT = G at e1 ⊢
  generalize ns[k] = cell at e e1
  simp -dsimp [aa0, frz, dow, aaZ, con, abh, eB, bOf, tru, dr, drs, cls, clV, abp, g1, g2, gI, gIC, gB, gEq, aaW, abd, aa5, gLt, gGt, aaO, aaD, aaq, abk, okR, iOf, isS, others, abe, aaY, aa9, abl, abo, aai, aar, aaG, h, e, e1]
 ·obtain ⟨x, ρ, e1⟩ := aiI (.lst (ns.map .int)) k hk 0
  refine ⟨x, ?_⟩
  unfold fnP
  generalize plT = G at e1 ⊢
  simp -dsimp [aa0, frz, dow, aaZ, con, abh, eB, bOf, tru, dr, drs, cls, clV, abp, g1, g2, gI, gIC, gB, gEq, aaW, abd, aa5, gLt, gGt, aaO, aaD, aaq, abk, okR, iOf, isS, others, abe, aaY, aa9, abl, abo, aai, aar, aaG, h, e1]
end axm
end
section
namespace K08
open PySem L2 BH
theorem awj {c : Nat} {rows : List (List (Int × Int))} (h : Bk c rows) : Sh c (rows.map aiC) := λr hr => by
 obtain ⟨l, hl, rfl⟩ := List.mem_map.mp hr
 obtain ⟨h1, h2⟩ := h.2.2.2.2 l hl
 refine ⟨l.map fT, rfl, by rw [List.length_map]; exact h1, λe he => ?_⟩
 obtain ⟨x, hx, rfl⟩ := List.mem_map.mp he
 obtain ⟨a1, a2, a3, a4, _⟩ := h2 x hx
 exact ⟨x.1, x.2, rfl, by omega, by omega⟩
noncomputable def inB : SF := (sIf (bOr (aee (aez (aaM aeG (aad (aah 6) (aad (aah 5) aaB))))) (aee (aez (aaM aeG (aad (aah 6) (aad (aaQ 1 adq (aad (eCB (g1 aaO) (aad (aah 3) aaB)) (aad (aah 2) aaB))) aaB)))))) (abU (eC (.bl false))) acC)
theorem at6 {B T W : Tr} {m : Nat} (h1 : 1 <= m) (h4 : m <= 4) (hl : aaO B = .ok (.int (m : Nat), false)) (hT : Sm 4100 8 T) (hW : Wk W) (s0 s1 s4 : Sl) (n : Int) : ∃ n' : Int, inB [s0, s1, .ow [.int n], .sh B, s4, .sh W, .sh T] = .ok (.nx, [s0, s1, .ow [.int n'], .sh B, s4, .sh W, .sh T]) := by
 obtain ⟨W', n', e, hW'⟩ := akH m h1 h4 n
 have g1' := am5 hT hW
 have g2' := am5 hT hW'
 refine ⟨n', ?_⟩
 generalize Tr.int (m : Nat) = M at *
 unfold inB
 simp -dsimp [con, drs, dr, isS, others, aaZ, g1, hl, e, g1', g2', tru]
theorem am6 {B W : Tr} {m : Nat} (h1 : 1 <= m) (h4 : m <= 4) (hl : aaO B = .ok (.int (m : Nat), false)) (hW : Wk W) (s0 s1 s4 : Sl) : ∀ (ts : List Tr) (n : Int) (s6 : Sl), (∀ t ∈ ts, Sm 4100 8 t) -> ∃ (n' : Int) (t6 : Sl), acD (gN 6) inB ts [s0, s1, .ow [.int n], .sh B, s4, .sh W, s6] = .ok (.nx, [s0, s1, .ow [.int n'], .sh B, s4, .sh W, t6])
 | [], n, s6, _ => ⟨n, s6, rfl⟩
 | t :: ts, n, s6, h => by
  obtain ⟨n1, e⟩ := at6 h1 h4 hl (h t (by simp)) hW s0 s1 s4 n
  obtain ⟨n', t6, e'⟩ := am6 h1 h4 hl hW s0 s1 s4 ts n1 (.sh t) (λu hu => h u (by simp [hu]))
  refine ⟨n', t6, ?_⟩
  unfold acD
  rw [show gN 6 t [s0, s1, .ow [.int n], .sh B, s4, .sh W, s6] = .ok [s0, s1, .ow [.int n], .sh B, s4, .sh W, .sh t] from rfl]
  simp only [Rs.abj]
  rw [e]
  exact e'
noncomputable def lwF : SF := (agA (fSq (aeW (aad (aah 3) (aad (aaQ 1 ad9 (aad (aah 3) (aad (aah 2) aaB))) (aad (aaQ 1 ad9 (aad (aah 3) (aad (aah 2) aaB))) aaB))))) (gN 6) inB)
theorem at7 {c : Nat} {rows : List (List (Int × Int))} (hb : Bk c rows) {W : Tr} (hW : Wk W) (s0 s1 s4 s6 : Sl) (n : Int) : ∃ (n' : Int) (t6 : Sl), lwF [s0, s1, .ow [.int n], .sh (bkT rows), s4, .sh W, s6] = .ok (.nx, [s0, s1, .ow [.int n'], .sh (bkT rows), s4, .sh W, t6]) := by
 have hs := awj hb
 obtain ⟨h1, h2, h3, h4, _⟩ := id hb
 have l1 : 1 <= (rows.map aiC).length := by rw [List.length_map]; exact h1
 have l2 : (rows.map aiC).length <= 4 := by rw [List.length_map]; exact h2
 obtain ⟨T1, f1, m1, e1, sm1⟩ := am2 hs h3 h4 l1 l2 n
 obtain ⟨T2, f2, m2, e2, sm2⟩ := am2 hs h3 h4 l1 l2 m1
 have sm0 : Sm 4100 8 (bkT rows) := (Sm.lst (B := 36) (D := 2) (N := 400) (hs.sm h4) (by omega)).mono (by omega) (by omega)
 have el : aaO (bkT rows) = .ok (.int (rows.length : Nat), false) := by
  show Rs.ok (Tr.int ((rows.map aiC).length : Int), false) = _
  rw [List.length_map]
 obtain ⟨n', t6, e3⟩ := am6 h1 h2 el hW s0 s1 s4 [bkT rows, T1, T2] m2 s6 (λt ht => by
  simp only [List.mem_cons, List.mem_nil_iff, or_false] at ht
  rcases ht with rfl | rfl | rfl
  ·exact sm0
  ·exact sm1
  ·exact sm2)
 have e1 : ad9 [bkT rows, .lst [.int n]] = .ok ((T1, f1), [.int m1]) := e1
 have e2 : ad9 [bkT rows, .lst [.int m1]] = .ok ((T2, f2), [.int m2]) := e2
 refine ⟨n', t6, ?_⟩
 generalize bkT rows = B at *
 unfold lwF
 generalize inB = G at *
 cases f1 <;> cases f2 <;> simp -dsimp [con, drs, dr, isS, others, aaZ, cls, clV, abk, e1, e2, e3]
noncomputable def lwG : SF := (sIf (abf (eOp gNe (aaM aaN (aad (aah 3) (aad (eOp aa5 (eCB (g1 aaO) (aad (aah 3) aaB)) (eC (.int 1))) aaB))) (aah 4))) (abU (eC (.bl false))) acC)
noncomputable def lwB : SF := (aa6 (auA 2 (aaM afn (aad (aah 0) (aad (aah 1) aaB)))) (aa6 (abM (aaQ 0 agV (aad (aah 2) aaB)) (gN 3)) (aa6 (abM (aaM aaN (aad (aah 3) (aad (eOp aa5 (eCB (g1 aaO) (aad (aah 3) aaB)) (eC (.int 1))) aaB))) (gN 4)) (aa6 (abM (aaQ 1 adq (aad (eCB (g1 aaO) (aad (aah 3) aaB)) (aad (aah 2) aaB))) (gN 5)) (aa6 lwF lwG)))))
theorem aqY : atw = (aa6 (ae3 (agA (agE (aad (eCB (g2 abP) (aad (eCB (g2 abO) (aad (eCB (g1 aaO) (aad (aah 0) aaB)) (aad (eC (.int 30)) aaB))) (aad (eC (.int 1)) aaB))) aaB)) (gN 1) lwB)) (abU (eC (.bl true)))) := rfl
theorem at8 (ns : List Int) (k : Nat) (hk : k < 1000) (s2 s3 s4 s5 s6 : Sl) : ∃ t2 t3 t4 t5 t6, lwB [.sh (.lst (ns.map .int)), .sh (.int k), s2, s3, s4, s5, s6] = .ok (.nx, [.sh (.lst (ns.map .int)), .sh (.int k), t2, t3, t4, t5, t6]) := by
 obtain ⟨x, e1⟩ := am4 ns k hk
 obtain ⟨rows, c, m, e2, hb⟩ := axm.am0 x
 obtain ⟨h1, h2, h3, h4, h5⟩ := id hb
 obtain ⟨W, m2, e3, hW⟩ := akH rows.length h1 h2 m
 obtain ⟨l, hl⟩ : ∃ l, rows[rows.length - 1]? = some l := ⟨_, List.getElem?_eq_getElem (by omega)⟩
 obtain ⟨ys, e4, _⟩ := order_eq hb hl
 have hi : (((rows.length - 1 : Nat) : Nat) : Int) = (rows.length : Int) - 1 := by omega
 rw [hi] at e4
 obtain ⟨n', t6, e5⟩ := at7 hb hW (.sh (.lst (ns.map .int))) (.sh (.int k)) (.sh (.lst (ys.map λi : Nat => Tr.int i))) s6 m2
 have el : aaO (bkT rows) = .ok (.int (rows.length : Nat), false) := by
  show Rs.ok (Tr.int ((rows.map aiC).length : Int), false) = _
  rw [List.length_map]
 have ed : aa5 (.int (rows.length : Nat)) (.int 1) = .ok (.int ((rows.length : Int) - 1), false) := rfl
 have en : gNe (.lst (ys.map λi : Nat => Tr.int i)) (.lst (ys.map λi : Nat => Tr.int i)) = .ok (.bl false, false) := akE (by
  rw [aav]
  have := aiD ys
  omega)
 refine ⟨.ow [.int n'], .sh (bkT rows), .sh (.lst (ys.map λi : Nat => Tr.int i)), .sh W, t6, ?_⟩
 generalize Tr.lst (ns.map .int) = S at *
 generalize Tr.lst (ys.map λi : Nat => Tr.int i) = Y at *
 generalize bkT rows = B at *
 generalize (rows.length : Int) - 1 = N1 at *
 generalize Tr.int (rows.length : Nat) = N at *
 have e6 : ∀ s0 s1 s2 s5 s6, lwG [s0, s1, s2, .sh B, .sh Y, s5, s6] = .ok (.nx, [s0, s1, s2, .sh B, .sh Y, s5, s6]) := λs0 s1 s2 s5 s6 => by
  unfold lwG
  simp -dsimp [drs, dr, isS, g1, el, ed, e4, en, bOf]
 unfold lwB
 generalize lwF = G1 at *
 generalize lwG = G2 at *
 simp -dsimp [con, drs, dr, isS, others, aaZ, g1, e1, e2, el, ed, e4, e3, e5, e6]
theorem am7 (ns : List Int) : ∀ (us : List Tr) (s1 s2 s3 s4 s5 s6 : Sl), (∀ u ∈ us, ∃ j : Int, u = .int j /\ 0 <= j /\ j < 1000) -> ∃ t1 t2 t3 t4 t5 t6, acD (gN 1) lwB us [.sh (.lst (ns.map .int)), s1, s2, s3, s4, s5, s6] = .ok (.nx, [.sh (.lst (ns.map .int)), t1, t2, t3, t4, t5, t6])
 | [], s1, s2, s3, s4, s5, s6, _ => ⟨s1, s2, s3, s4, s5, s6, rfl⟩
 | u :: us, s1, s2, s3, s4, s5, s6, h => by
  obtain ⟨j, rfl, j0, j1⟩ := h u (by simp)
  obtain ⟨k, rfl⟩ : ∃ k : Nat, (k : Int) = j := ⟨j.toNat, by omega⟩
  obtain ⟨t2, t3, t4, t5, t6, e⟩ := at8 ns k (by omega) s2 s3 s4 s5 s6
  obtain ⟨r1, r2, r3, r4, r5, r6, e'⟩ := am7 ns us (.sh (.int k)) t2 t3 t4 t5 t6 λv hv => h v (by simp [hv])
  refine ⟨r1, r2, r3, r4, r5, r6, ?_⟩
  unfold acD
  simp [e, e']
theorem aqZ (ns : List Int) (ρ : En) : ∃ n : Nat, n <= 30 /\ agE (aad (eCB (g2 abP) (aad (eCB (g2 abO) (aad (eCB (g1 aaO) (aad (aah 0) aaB)) (aad (eC (.int 30)) aaB))) (aad (eC (.int 1)) aaB))) aaB) (.sh (.lst (ns.map .int)) :: ρ) = .ok (L2.upTo 0 n, .sh (.lst (ns.map .int)) :: ρ) := by
 by_cases h : (30 : Int) < ns.length
 ·exact ⟨30, by omega, by simp -dsimp [aa0, frz, dow, aaZ, con, abh, eB, bOf, tru, dr, drs, cls, clV, abp, g1, g2, gI, gIC, gB, gEq, aaW, abd, aa5, gLt, gGt, aaO, aaD, aaq, abk, okR, iOf, isS, others, abe, aaY, aa9, abl, abo, aai, aar, abO, abP, h]⟩
 ·by_cases h' : (ns.length : Int) < 1
  ·exact ⟨1, by omega, by simp -dsimp [aa0, frz, dow, aaZ, con, abh, eB, bOf, tru, dr, drs, cls, clV, abp, g1, g2, gI, gIC, gB, gEq, aaW, abd, aa5, gLt, gGt, aaO, aaD, aaq, abk, okR, iOf, isS, others, abe, aaY, aa9, abl, abo, aai, aar, abO, abP, h, h']⟩
  ·refine ⟨ns.length, by omega, ?_⟩
   have q1 : (-1000000 : Int) <= ns.length := by omega
   have q2 : (ns.length : Int) <= 1000000 := by omega
   simp -dsimp [aa0, frz, dow, aaZ, con, abh, eB, bOf, tru, dr, drs, cls, clV, abp, g1, g2, gI, gIC, gB, gEq, aaW, abd, aa5, gLt, gGt, aaO, aaD, aaq, abk, okR, iOf, isS, others, abe, aaY, aa9, abl, abo, aai, aar, abO, abP, h, h', q1, q2]
theorem at9 (ns : List Int) : ak2 [.lst (ns.map .int)] = .ok (.bl true, false) := by
 obtain ⟨n, hn', er⟩ := aqZ ns [.un, .un, .un, .un, .un, .un]
 obtain ⟨t1, t2, t3, t4, t5, t6, e⟩ := am7 ns (L2.upTo 0 n) .un .un .un .un .un .un λu hu => by
  obtain ⟨j, rfl, h1, h2⟩ := ad2 _ _ _ hu
  exact ⟨j, rfl, h1, by omega⟩
 unfold ak2
 rw [aqY]
 have e1 : ae3 (agA (agE (aad (eCB (g2 abP) (aad (eCB (g2 abO) (aad (eCB (g1 aaO) (aad (aah 0) aaB)) (aad (eC (.int 30)) aaB))) (aad (eC (.int 1)) aaB))) aaB)) (gN 1) lwB) [.sh (.lst (ns.map .int)), .un, .un, .un, .un, .un, .un] = .ok (.nx, [.sh (.lst (ns.map .int)), t1, t2, t3, t4, t5, t6]) := by
  unfold ae3 agA
  rw [er]
  show aa0 (acD (gN 1) lwB (L2.upTo 0 n) _) = _
  rw [e]
  rfl
 generalize ae3 _ = G at e1 ⊢
 unfold fnP
 simp -dsimp [aa0, frz, dow, aaZ, con, abh, eB, bOf, tru, dr, drs, cls, clV, abp, g1, g2, gI, gIC, gB, gEq, aaW, abd, aa5, gLt, gGt, aaO, aaD, aaq, abk, okR, iOf, isS, others, abe, aaY, aa9, abl, abo, aai, aar, aaG, e1]
end K08
end
section
namespace L2
open PySem PySem.Spec PyProof.Rows PySem.W
theorem am8 {P : Program} {w : World} {K : PySem.W.Frag} {mg mb : Str -> Option Value} {CX : CXT} {k : Nat} {fa a : Addr} {x : Str} {sp : Sp} {s₁ : Shared} {vs : List Value} {ns : List Int}
  (KX : K.In s₁.heap) (hns : s₁.heap.Ns mainGlobals mg) (hb : s₁.heap.Ns builtinsNs mb) (hbb : ∀ x : Str, x ≠ "__name__" -> mb x = bootBuiltins x) (hlim : s₁.heap.NoLimit) (hg : s₁.gens = #[])
  (ha : s₁.heap.get? a = some { cls := .type "list", data := .seq vs.toArray }) (hi : IntsAre vs ns) (hl : ns.length <= sizeLine) (hr : aeZ k callerA)
  (hT : ∀ x ∈ abz, ∀ c b, tabIn K x = some (c, b) -> CodeHd s₁.heap c b /\ s₁.heap.get? b = some (tabObj #[])) (hNT : noTabs K = true) (hB : aoj mg s₁.heap)
  (F : ∀ base : Heap, K.In base -> base.Ns mainGlobals mg -> (∀ x ∈ abz, ∀ c b, tabIn K x = some (c, b) -> CodeHd base c b) -> aoj mg base -> ∃ fd : FuncData, (∀ (s : Shared) (u : Value), K.In s.heap -> BindsTo s fd ⟨[u], []⟩ [(x, u)]) /\ aj3 P w K mg base CX k fa fd [x] sp)
  (hsp : ∀ H : Hp, TbS (nlK K) H -> SqX K H a (ns.map V.int) -> sp [.ref a] H (λv _ => v = .bl true) λ_ _ _ => False)
  (hCX : ∀ H e s', CX [] H s₁ (λ_ _ _ => False) e s' -> False) :
  codeAny (model P w) callerA (.call (.ref fa) ⟨[.ref a], []⟩) (λr s' => r = .ok (.ret (.bool true)) /\ OldK s₁.heap s'.heap /\ s'.os = s₁.os /\ AllBare s'.gens) s₁ := by
 have rv := ahX hi
 have lenV := hi.length
 -- from an abstract heap in which nothing but the script may be tracked
 have hT' : ∀ b, Tb (nlK K) b -> ∃ c, CodeHd s₁.heap c b /\ s₁.heap.get? b = some (tabObj #[]) := λb ⟨x, hx, c, e⟩ => ⟨c, hT x hx c b (akz e)⟩
 have core : ∀ H : Hp, (∀ b, H b = none \/ (∃ o xs, H b = some (.frz o (.lst xs))) \/ (H b = some (.tbl #[]) /\ Tb (nlK K) b)) -> TbS (nlK K) H -> SqX K H a (ns.map V.int) -> HOk P w H s₁.heap -> (∀ b, H b ≠ none -> b = a \/ Tb (nlK K) b) -> (H a ≠ none -> K.lookup a = none) ->
   codeAny (model P w) callerA (.call (.ref fa) ⟨[.ref a], []⟩) (λr s' => r = .ok (.ret (.bool true)) /\ OldK s₁.heap s'.heap /\ s'.os = s₁.os /\ AllBare s'.gens) s₁ := by
  intro H hO hTb hS hok hA hK
  have ahE : ∀ {b : Addr} {o : Obj}, s₁.heap.get? b = some o -> H b = none -> (ant s₁.heap H).get? b = some o := λe n => anu e n
  have noA : ∀ {b : Addr} {o : Obj} {es : Array DictEntry} {ep : Nat}, s₁.heap.get? b = some o -> o.data = .dict es ep -> H b = none := λ{b o es ep} e d => by
   cases q : H b with
   | none => rfl
   | some u =>
    rcases hA b (by rw [q]; simp) with e' | e'
    ·subst e'
     rw [ha] at e; cases e
     have d' : Data.seq vs.toArray _ = Data.dict es ep := d
     cases d'
    ·obtain ⟨c, _, z⟩ := hT' b e'
     rw [z] at e; cases e
     cases d
  have nsK : ∀ {b : Addr} {m : Str -> Option Value}, s₁.heap.Ns b m -> (ant s₁.heap H).Ns b m := λ{b m} ⟨o, es, ep, e, d, r⟩ => ⟨o, es, ep, ahE e (noA e d), d, r⟩
  have hKb : K.In (ant s₁.heap H) := λb o e => ahE (KX b o e) (by
   cases q : H b with
   | none => rfl
   | some u =>
    rcases hA b (by rw [q]; simp) with e' | e'
    ·subst e'
     rw [hK (by rw [q]; simp)] at e; cases e
    ·obtain ⟨c, _, z⟩ := hT' b e'
     have z2 := KX b o e
     rw [z] at z2
     cases z2
     have h2 := List.all_eq_true.mp hNT (b, _) (mem_of_lookupK e)
     exact absurd (show false = true from h2) Bool.false_ne_true)
  have hM : Mod K mg (ant s₁.heap H) := ⟨hKb, nsK hns, ⟨mb, nsK hb, hbb⟩, let ⟨mc, h1, h2⟩ := hlim; ⟨mc, nsK h1, h2⟩⟩
  have e0 : aus P w K mg (ant s₁.heap H) callerA [] s₁ H := ⟨rfl, hM, λb o e => apu e, Nat.le_of_eq (alF _ _), trivial, λb hb => absurd (show b ∈ ([] : List Addr) from hb) (by simp), hok, .of_eq hg⟩
  have free : ∀ {b : Addr} {o : Obj}, s₁.heap.get? b = some o -> o.cls ≠ .none -> (∀ its n, o.data ≠ .seq its n) -> H b = none := λ{b o} e n1 n2 => by
   cases q : H b with
   | none => rfl
   | some u =>
    rcases hA b (by rw [q]; simp) with e' | e'
    ·subst e'
     rw [ha] at e; cases e
     exact (n2 _ _ rfl).elim
    ·obtain ⟨c, _, z⟩ := hT' b e'
     rw [z] at e; cases e
     exact (n1 rfl).elim
  obtain ⟨fd, hbind, F1⟩ := F _ hKb (nsK hns) (λx hx c b e => by
   obtain ⟨o, vs', file, tf, flags, tg, inF, text, tt, e1, r1, r2, r3⟩ := (hT x hx c b e).1
   exact ⟨o, vs', file, tf, flags, tg, inF, text, tt, ahE e1 (free e1 (by rw [r1]; intro z; cases z) (λ_ _ z => by rw [r2] at z; cases z)), r1, r2, r3⟩) (by
   obtain ⟨bm, ob, b1, b2, b3, b4, b5, b6, b7⟩ := hB
   exact ⟨bm, ob, b1, b2, b3, ahE b4 (free b4 (by rw [b5]; intro z; cases z) (λ_ _ z => by rw [b7] at z; cases z)), b5, b6, b7⟩)
  refine codeAny_mono (F1.run callerA [] s₁ H ⟨[.ref a], []⟩ [.ref a] [.ref a] _ _ hr e0 (hbind s₁ (.ref a) KX) (.cons rfl .nil) (hsp H hTb hS)) λr s' h => ?_
  cases r with
  | error e => exact (hCX H e s' h).elim
  | ok fl =>
   cases fl with
   | next => exact False.elim h
   | brk => exact False.elim h
   | cont => exact False.elim h
   | ret u =>
    obtain ⟨v, H', os, bare, un, hok', r', q⟩ := h
    have q' : v = .bl true := q
    subst q'
    obtain rfl : u = Value.bool true := r'
    refine ⟨rfl, ⟨λb o e => ?_, λb o e => un.there b o e (by simp)⟩, os, bare⟩
    cases q : H b with
    | none => exact .inl (un.keep b o e q (by intro z; exact absurd (show b ∈ ([] : List Addr) from z) (by simp)) (by simp))
    | some u =>
     rcases hO b with z | ⟨ob, xs, z⟩ | ⟨z, zt⟩
     ·rw [q] at z; cases z
     ·have z2 := un.ajS b ob _ z
      obtain ⟨e1, _⟩ := hok b _ z
      obtain ⟨e2, _⟩ := hok' b _ z2
      rw [e] at e1; cases e1
      exact .inl e2
     ·obtain ⟨more, z2⟩ := un.ajT b _ z
      have e1 : s₁.heap.get? b = some (tabObj #[]) := hok b _ z
      have e2 : s'.heap.get? b = some (tabObj (#[] ++ more)) := hok' b _ z2
      rw [e] at e1; cases e1
      obtain ⟨c, hc, _⟩ := hT' b zt
      exact .inr (.inl ⟨(hc.tab e).isCodeTable, rfl, #[], more, rfl, e2⟩)
 classical
 have axn : ∀ H : Hp, (∀ b, Tb (nlK K) b -> H b = some (.tbl #[])) -> TbS (nlK K) H := λH h x hx c b e => ⟨#[], h b ⟨x, hx, c, e⟩, trivial, λpos v z => by cases z⟩
 have nTa : ¬ Tb (nlK K) a := λz => by
  obtain ⟨c, _, e⟩ := hT' a z
  rw [ha] at e
  cases e
 cases hk : K.lookup a with
 | some o =>
  have e := KX a o hk
  rw [ha] at e
  cases e
  refine core (λb => if Tb (nlK K) b then some (.tbl #[]) else none) (λb => ?_) (axn _ λb z => if_pos z) (.inr ⟨vs.toArray, _, hk, by rw [List.size_toArray, lenV]; exact hl, by simpa using rv⟩) (λb u z => ?_) (λb z => ?_) λz => ?_
  ·by_cases q : Tb (nlK K) b
   ·exact .inr (.inr ⟨if_pos q, q⟩)
   ·exact .inl (if_neg q)
  ·by_cases q : Tb (nlK K) b
   ·have z' := (if_pos q).symm.trans z
    cases z'
    obtain ⟨c, _, e⟩ := hT' b q
    exact e
   ·have z' := (if_neg q).symm.trans z
    cases z'
  ·by_cases q : Tb (nlK K) b
   ·exact .inr q
   ·exact absurd (if_neg q) z
  ·exact absurd (if_neg nTa) z
 | none =>
  refine core (λb => if b = a then some (.frz { cls := .type "list", data := .seq vs.toArray } (.lst (ns.map V.int))) else if Tb (nlK K) b then some (.tbl #[]) else none) (λb => ?_) (axn _ λb z => by
   have nb : ¬ b = a := λq => nTa (by rw [<-q]; exact z)
   exact (if_neg nb).trans (if_pos z)) (.inl (.inr ⟨{ cls := .type "list", data := .seq vs.toArray }, if_pos rfl⟩)) (λb u z => ?_) (λb z => ?_) λ_ => hk
  ·by_cases hb : b = a
   ·exact .inr (.inl ⟨_, _, if_pos hb⟩)
   ·by_cases q : Tb (nlK K) b
    ·exact .inr (.inr ⟨(if_neg hb).trans (if_pos q), q⟩)
    ·exact .inl ((if_neg hb).trans (if_neg q))
  ·by_cases hb : b = a
   ·have z' := (if_pos hb).symm.trans z
    cases z'
    subst hb
    exact ⟨ha, by rw [List.length_map]; exact hl, vs, _, rv, ha⟩
   ·have z' := (if_neg hb).symm.trans z
    by_cases q : Tb (nlK K) b
    ·have z' := (if_pos q).symm.trans z'
     cases z'
     obtain ⟨c, _, e⟩ := hT' b q
     exact e
    ·have z' := (if_neg q).symm.trans z'
     cases z'
  ·by_cases hb : b = a
   ·exact .inl hb
   ·by_cases q : Tb (nlK K) b
    ·exact .inr q
    ·exact absurd ((if_neg hb).trans (if_neg q)) z
theorem aoL {l : PySem.W.OpenLaw} {n k : Nat} {q : Program} {loose : List Str} {XP : (Str -> Option Value) -> Heap -> Prop} {YP : World -> Heap -> Prop} {d : DefRec} {K : Params -> PySem.W.Frag} {CX : World -> CXT} {sp : World -> Sp} {x : Str}
  (hn : l.most = some n) (hn2 : n <= sizeLine) (hdf : d.params.defaults = []) (hr : aeZ k callerA)
  (aua : ∀ x ∈ abz, ((recsOf q).find? (λe => e.name == x)).isSome = true \/ ∀ w : World, nsIn (K w.params) mainGlobals x = some none) (hNT : ∀ w : World, noTabs (K w.params) = true)
  (hY : ∀ (w : World) (h : Heap), YP w h -> (K w.params).In h)
  (F : ∀ (w : World) (mg : Str -> Option Value) (fa : Addr) (h : Heap), (K w.params).In h -> h.Ns mainGlobals mg -> mg d.name = some (.ref fa) ->
   ∀ base : Heap, (K w.params).In base -> base.Ns mainGlobals mg -> (∀ x ∈ abz, ∀ c b, tabIn (K w.params) x = some (c, b) -> CodeHd base c b) -> aoj mg base -> ∃ fd : FuncData, (∀ (s : Shared) (u : Value), (K w.params).In s.heap -> BindsTo s fd ⟨[u], []⟩ [(x, u)]) /\ aj3 l.prog w (K w.params) mg base (CX w) k fa fd [x] (sp w))
  (hsp : ∀ (w : World) (H : Hp) (a : Addr) (ns : List Int), ns.length <= n -> TbS (nlK (K w.params)) H -> SqX (K w.params) H a (ns.map V.int) -> sp w [.ref a] H (λv _ => v = .bl true) λ_ _ _ => False)
  (hCX : ∀ (w : World) (H : Hp) (s : Shared) (e : Value) (s' : Shared), CX w [] H s (λ_ _ _ => False) e s' -> False) :
  PySem.W.WalkO q loose XP YP l.row.toRowW d [] (λf vs => PySem.call f vs) := by
 refine Att.ai0 hn hdf λw s₀ s₁ mg mb fa o pm cd doc a vs ns G Y ho hd hcd hmg hobj hints hlen hg => ?_
 have KX := hY w _ Y
 have hT : ∀ x ∈ abz, ∀ c b, tabIn (K w.params) x = some (c, b) -> CodeHd s₁.heap c b /\ s₁.heap.get? b = some (tabObj #[]) := λx hx c b e => by
  rcases aua x hx with z | z
  ·obtain ⟨d, z⟩ := Option.isSome_iff_exists.mp z
   exact tab_of G.T KX z e
  ·rw [akA (z w)] at e; cases e
 have hB : aoj mg s₁.heap := by
  obtain ⟨bm, ob, b1, b2, b3, b4, b5, b6⟩ := G.T.bmain
  refine ⟨bm, ob, b1, b2, λz => ?_, b3, b4, b5, b6⟩
  obtain ⟨o, es, ep, e, hd, _⟩ := G.T.g
  rw [z, e] at b3; cases b3
  rw [hd] at b6; cases b6
 exact am8 KX G.T.g G.T.b G.T.builtins G.T.nolimit hg hobj hints (Nat.le_trans hlen hn2) hr hT (hNT w) hB (F w mg fa _ KX G.T.g hmg) (λH hO hS => hsp w H a ns hlen hO hS) λH e s' => hCX w H s₁ e s'
end L2
end
section
namespace K08
open PySem L2 BH PySem.W
section
variable {K : Frag} {mg : Str -> Option Value} {h : Heap}
theorem acu {x : Str} {st : Stmt} (X : K.In h) (G : h.Ns mainGlobals mg) {f : Addr} {od an : Option Addr} {sl : Array (Option Value)} {oc kV dc pm cd ct : Value}
  (a : nsIn K mainGlobals x = some (some (.ref f))) (l : K.lookup f = some ⟨oc, od, .func (fnOf x x (acM st) (abZ st) (aan st) .none kV dc pm an cd ct), sl⟩) (c : codeIn K cd x = true) (k : keepIn K (.ref f) = true) : At K mg x st :=
 ⟨f, _, aoV (st := st) l c k, mg_of X G a⟩
theorem aub {x : Str} {st : Stmt} (X : K.In h) (G : h.Ns mainGlobals mg) {f c : Addr} {od an : Option Addr} {sl : Array (Option Value)} {oc kV dc pm ct : Value}
  (a : nsIn K mainGlobals x = some (some (.ref f))) (l : K.lookup f = some ⟨oc, od, .func (fnOf x x (acM st) (abZ st) (aan st) .none kV dc pm an (.ref c) ct), sl⟩) (cc : codeIn K (.ref c) x = true) (k : keepIn K (.ref f) = true) : AtL K mg x st c :=
 ⟨f, _, aoV (st := st) l cc k, mg_of X G a, rfl⟩
theorem apt {x : Str} {i : Int} {tk : Tok} (X : K.In h) (G : h.Ns mainGlobals mg) (a : nsIn K mainGlobals x = some (some (.int i tk))) : Gk K mg x (.int i) (.int i) := ⟨.int i tk, mg_of X G a, by first | exact rfl | exact ⟨_, rfl⟩, λ_ => .int i⟩
theorem am9 (H : Hp) : aa2 (λ_ => False) H = H := by
 funext b
 exact aaS (λz => z)
theorem aiJ {K : Frag} {H : Hp} : ∀ ns : List Int, aa3 K H (ns.map V.int) (ns.map Tr.int)
 | [] => .nil
 | n :: ns => .cons (.int n) (aiJ ns)
noncomputable def spL (K : Frag) (n : Nat) (F : FP) : Sp := λvs H Q E => ∃ Z ts, vs.length = n /\ aa3 (nlK K) (aa2 Z H) vs ts /\ (∀ b, Z b -> Lt H b) /\ TbS (nlK K) H /\ ∃ p, F ts = .ok p /\ ∀ v H', SmT (nlK K) H H' -> VRt (nlK K) Z H H' v p.1 p.2 -> Q v H'
theorem aq0 {K : Frag} {cl : Str -> Addr} {n : Nat} {F : FP} (vs : List V) (H : Hp) (Q : VK) (E : XK) (h : spL K n F vs H Q E) : spP K cl n F vs H Q E := by
 obtain ⟨Z, ts, h1, h2, h3, h4, p, h5, h6⟩ := h
 refine ⟨Z, ts, h1, h2, h3, h4, ?_⟩
 rw [h5]
 exact h6
theorem awk (X : K.In h) (G : h.Ns mainGlobals mg) (z0 : nsIn K mainGlobals "ValueError" = some none) (z1 : nsIn K mainGlobals "abs" = some none) (z2 : nsIn K mainGlobals "all" = some none) (z3 : nsIn K mainGlobals "bool" = some none) (z4 : nsIn K mainGlobals "int" = some none) (z5 : nsIn K mainGlobals "isinstance" = some none) (z6 : nsIn K mainGlobals "len" = some none) (z7 : nsIn K mainGlobals "list" = some none) (z8 : nsIn K mainGlobals "max" = some none) (z9 : nsIn K mainGlobals "min" = some none) (z10 : nsIn K mainGlobals "range" = some none) (z11 : nsIn K mainGlobals "sorted" = some none) (z12 : nsIn K mainGlobals "str" = some none) (z13 : nsIn K mainGlobals "tuple" = some none) : Nm mg :=
 ⟨mg_none_of X G z0, mg_none_of X G z1, mg_none_of X G z2, mg_none_of X G z3, mg_none_of X G z4, mg_none_of X G z5, mg_none_of X G z6, mg_none_of X G z7, mg_none_of X G z8, mg_none_of X G z9, mg_none_of X G z10, mg_none_of X G z11, mg_none_of X G z12, mg_none_of X G z13⟩
end
section
variable {P : Program} {w : World} {K : Frag} {mg : Str -> Option Value} {base : Heap}
theorem awl (M : Nm mg) {adV : Addr} (afQ : PyProof.Rows.OwnCls "NoBook" adV bmV "ValueError.__new__" mg base) {adX : Addr} (afR : PyProof.Rows.OwnCls "NoList" adX bmV "ValueError.__new__" mg base) (XT : ahn K) {acV : Addr} (ab3 : Cg K mg "HeadError" acV) (aeH : Cg K mg "NoBook" adV) {afa : Addr} (adW : Cg K mg "NoBottom" afa) {agk : Addr} (aeI : Cg K mg "NoCount" agk) {ahs : Addr} (afN : Cg K mg "NoLine" ahs) (aeJ : Cg K mg "NoList" adX) {agl : Addr} (aeK : Cg K mg "NoLooks" agl) {aht : Addr} (afO : Cg K mg "NoRule" aht) {agm : Addr} (aeL : Cg K mg "NoSlack" agm) {ahu : Addr} (afP : Cg K mg "NoText" ahu) {agn : Addr} (aeM : Cg K mg "NoThing" agn) {afb : Addr} (adY : Cg K mg "NoThings" afb) {ago : Addr} (aeN : Cg K mg "NoWorth" ago) {agp : Addr} (aeO : Cg K mg "NotSure" agp) {agq : Addr} (aeP : Cg K mg "TooMany" agq) (ak9 : At K mg "is_whole" ae5) (afB : At K mg "common_divisor" acE) (ahF : At K mg "is_fraction" adn) (agx : At K mg "common_bottom" acU) (ad7 : At K mg "tops_on_one_bottom" abJ) {adw afC : Addr} (afD : AtL K mg "falling_places" ach adw) (afE : aop K mg base "falling_places" adw afC) (ala : At K mg "is_worth" ae6) (aiK : At K mg "are_worths" ac0) (ana : At K mg "is_book" adN) (alb : At K mg "is_place" ae7) (ajy : At K mg "need_book" aek) (ajz : At K mg "need_list" ael) (aiL : At K mg "read_order" adO) (aq1 : At K mg "_law_mixed" ajd) (auc : At K mg "_law_pile" amH) (aud : At K mg "_law_take" amI) (aoM : At K mg "_law_shared" aho) (aue : At K mg "_law_frac" amJ) (aq2 : At K mg "_law_whole" aje) (auf : At K mg "_law_only" akB) (aq3 : At K mg "_law_worth" ajf) (auh : At K mg "_law_book" ait) (alc : At K mg "_law_is_worth" ae8) (anb : At K mg "_law_is_book" aeE) (awm : At K mg "_law_odd" aqB) (aui : At K mg "_law_bent" agU) (aq4 : At K mg "_law_which" ajg) (aq5 : At K mg "_law_asked" ajh) (auj : At K mg "_law_good" amK) (awn : At K mg "law" aqC) {adP : V} (ac2 : Gk K mg "MOST_LISTS" adP (.int 4)) {adt : V} (acK : Gk K mg "MOST_THINGS" adt (.int 12)) : DfX P w K mg base 10 "law" (["_law_script"] : List Str) (spL K 1 ak2) := by
 obtain ⟨cl, akI, akJ⟩ : ∃ cl : Str → Addr, cl "NoBook" = adV ∧ cl "NoList" = adX := ⟨λx => if x = ("NoBook" : Str) then adV else if x = ("NoList" : Str) then adX else 0, if_pos rfl, (if_neg (by decide +kernel)).trans (if_pos rfl)⟩
 rw [<-akI] at afQ
 rw [<-akJ] at afR
 have XC : XCl K cl (["NoBook", "NoList"] : List Str) := List.forall_mem_cons.mpr ⟨⟨by decide +kernel, by rw [akI]; exact aeH.1⟩, List.forall_mem_cons.mpr ⟨⟨by decide +kernel, by rw [akJ]; exact aeJ.1⟩, λ_ h => nomatch h⟩⟩
 have agZ := ajm (P := P) (w := w) (base := base) (cl := cl) ak9 M XT
 have adx := afc (P := P) (w := w) (base := base) (cl := cl) afB M
 have ahG := agI (P := P) (w := w) (base := base) (cl := cl) ahF M XT agZ adx
 have agy := afy (P := P) (w := w) (base := base) (cl := cl) agx M adx
 have ad8 := adQ (P := P) (w := w) (base := base) (cl := cl) ad7 M agy
 have afF := afd (P := P) (w := w) (base := base) (cl := cl) afD afE M ad8
 have ald := ajn (P := P) (w := w) (base := base) (cl := cl) ala M ahG
 have aiM := ahv (P := P) (w := w) (base := base) (cl := cl) aiK M XT ald
 have anc := ak6 (P := P) (w := w) (base := base) (cl := cl) ana M ac2 acK XT aiM
 have ale := ajl (P := P) (w := w) (base := base) (cl := cl) alb M agZ
 have ajA := aix (P := P) (w := w) (base := base) (cl := cl) ajy M afQ anc
 have ajB := aiy (P := P) (w := w) (base := base) (cl := cl) ajz M afR ale
 have afr := ahx (P := P) (w := w) (base := base) (cl := cl) aiL M ajA ajB afF
 have aq6 := aqI (P := P) (w := w) (base := base) (cl := cl) aq1 M
 have auk := atD (P := P) (w := w) (base := base) (cl := cl) auc M aq6
 have aiN := atF (P := P) (w := w) (base := base) aud M
 have akK := aoy (P := P) (w := w) (base := base) (cl := cl) aoM M
 have aul := atz (P := P) (w := w) (base := base) (cl := cl) aue M akK
 have ane := aqL (P := P) (w := w) (base := base) (cl := cl) aq2 M XT
 have aum := atB (P := P) (w := w) (base := base) (cl := cl) auf M XT ab3 aeH adW aeI afN aeJ aeK afO aeL afP aeM adY aeN aeO aeP
 have aq7 := aqM (P := P) (w := w) (base := base) (cl := cl) aq3 M aiN aul
 have aun := aty (P := P) (w := w) (base := base) auh M aiN aq7
 have alf := ak4 (P := P) (w := w) (base := base) (cl := cl) alc M XT ane akK
 have anf := amQ (P := P) (w := w) (base := base) (cl := cl) anb M XT alf
 have awo := avL (P := P) (w := w) (base := base) awm M aiN
 have auo := atx (P := P) (w := w) (base := base) aui M aiN awo
 have aq8 := aqK (P := P) (w := w) (base := base) aq4 M aiN
 have aq9 := aqF (P := P) (w := w) (base := base) (cl := cl) aq5 M XT XC ab3 afr
 have aup := atA (P := P) (w := w) (base := base) (cl := cl) auj M XT aq9 anf aum ane
 have awp := atH (P := P) (w := w) (base := base) (cl := cl) awn M auk aun afr aq8 auo aup
 obtain ⟨f, fd, h1, h2⟩ := awp
 exact ⟨f, fd, h1.imp aq0, h2⟩
end
theorem walk {l : OpenLaw} {q : Program} {loose : List Str} {XP : (Str -> Option Value) -> Heap -> Prop} {YP : World -> Heap -> Prop} {d : DefRec} {K : Params -> Frag} (hn : l.most = some 63) (hdf : d.params.defaults = []) (hd : d.name = "law")
  (aua : ∀ x ∈ abz, ((PyProof.Rows.recsOf q).find? (λe => e.name == x)).isSome = true \/ ∀ w : World, nsIn (K w.params) mainGlobals x = some none) (hNT : ∀ w : World, noTabs (K w.params) = true)
  (hY : ∀ (w : World) (h : Heap), YP w h -> (K w.params).In h)
  (F : ∀ (w : World) (mg : Str -> Option Value) (h : Heap), (K w.params).In h -> h.Ns mainGlobals mg -> ∀ base : Heap, (K w.params).In base -> base.Ns mainGlobals mg -> (∀ x ∈ abz, ∀ c b, tabIn (K w.params) x = some (c, b) -> CodeHd base c b) -> aoj mg base -> DfX l.prog w (K w.params) mg base 10 "law" (["_law_script"] : List Str) (spL (K w.params) 1 ak2)) :
  WalkO q loose XP YP l.row.toRowW d [] (λf vs => PySem.call f vs) :=
 L2.aoL (n := 63) (k := 10) (x := "_law_script") (CX := λw => CXF l.prog w) (sp := λw => spL (K w.params) 1 ak2) hn (by decide) hdf ⟨rfl, by decide, by decide, rfl⟩ aua hNT hY
  (λw mg fa h KX G hm base kb gb hc bm => by
   obtain ⟨f, fd, h1, h2, _, h4⟩ := F w mg h KX G base kb gb hc bm
   rw [hd] at hm
   cases h4.symm.trans hm
   exact ⟨fd, λs u ks => h2 s [u] ks rfl, h1⟩)
  (λw H a ns hl hTb hS => ⟨λ_ => False, [.lst (ns.map .int)], rfl, .cons (.lst ((am9 H).symm ▸ hS.toN) (aiJ ns)) .nil, λb z => z.elim, hTb, _, at9 ns, λv H' _ r => by
   cases r
   rfl⟩)
  λw H s e s' h => by
   obtain ⟨_, _, _, _, _, _, z, _⟩ := h
   exact z
end K08
end
section
namespace PySem.W.Fast
end PySem.W.Fast
namespace PySem.W.Fast
end PySem.W.Fast
namespace PySem.W.Fast
theorem tw10321351313632531509 : True := ⟨⟩
theorem tw10431936092910163248 : True := ⟨⟩
theorem tw11127609154029259678 : True := ⟨⟩
theorem tw11300878652241696981 : True := ⟨⟩
theorem tw1139697848361707524 : True := ⟨⟩
theorem tw11455642886759169519 : True := ⟨⟩
theorem tw11661467639198552035 : True := ⟨⟩
theorem tw11938031362188022457 : True := ⟨⟩
theorem tw12006370971912391888 : True := ⟨⟩
theorem tw12039433635292863240 : True := ⟨⟩
theorem tw1207215151839141150 : True := ⟨⟩
theorem tw12170631865995358840 : True := ⟨⟩
theorem tw1221014569858241286 : True := ⟨⟩
theorem tw12268028675393279536 : True := ⟨⟩
theorem tw12403693963889042897 : True := ⟨⟩
theorem tw12421173314270185921 : True := ⟨⟩
theorem tw12468970921286511993 : True := ⟨⟩
theorem tw12745459221172242102 : True := ⟨⟩
theorem tw12775027546054001852 : True := ⟨⟩
theorem tw12858089856533890490 : True := ⟨⟩
theorem tw12962740473208313303 : True := ⟨⟩
theorem tw13378673163130757616 : True := ⟨⟩
theorem tw13379562363426455113 : True := ⟨⟩
theorem tw13432316200428203033 : True := ⟨⟩
theorem tw13595480749395169975 : True := ⟨⟩
theorem tw13644986388277219361 : True := ⟨⟩
theorem tw13858420676229700811 : True := ⟨⟩
theorem tw14123790322597575812 : True := ⟨⟩
theorem tw14295897569210300551 : True := ⟨⟩
theorem tw14514949879213893755 : True := ⟨⟩
theorem tw14579319986319816467 : True := ⟨⟩
theorem tw14749087770310913838 : True := ⟨⟩
theorem tw14976905389265842540 : True := ⟨⟩
theorem tw14998831872766242741 : True := ⟨⟩
theorem tw15014709296608996283 : True := ⟨⟩
theorem tw15021166838355135447 : True := ⟨⟩
theorem tw15075389316036899281 : True := ⟨⟩
theorem tw15323787882853770205 : True := ⟨⟩
theorem tw15442385023746080334 : True := ⟨⟩
theorem tw1587000007475465741 : True := ⟨⟩
theorem tw16125154961652915657 : True := ⟨⟩
theorem tw1668901851633496404 : True := ⟨⟩
theorem tw16705359972339712855 : True := ⟨⟩
theorem tw1679830228820182203 : True := ⟨⟩
theorem tw16838991378367819248 : True := ⟨⟩
theorem tw17102354169820232664 : True := ⟨⟩
theorem tw17236251421271792033 : True := ⟨⟩
theorem tw17315185400613805618 : True := ⟨⟩
theorem tw17606943116117613750 : True := ⟨⟩
theorem tw17826218223749980680 : True := ⟨⟩
theorem tw17881732118021786490 : True := ⟨⟩
theorem tw18235272665051461060 : True := ⟨⟩
theorem tw18288678319547823630 : True := ⟨⟩
theorem tw18318266023773915383 : True := ⟨⟩
theorem tw2046553202839550856 : True := ⟨⟩
theorem tw2071330817176226751 : True := ⟨⟩
theorem tw213682979177825218 : True := ⟨⟩
theorem tw2199067534824248375 : True := ⟨⟩
theorem tw273713594484351307 : True := ⟨⟩
theorem tw2741344224703142069 : True := ⟨⟩
theorem tw290830658805480096 : True := ⟨⟩
theorem tw3032420215151492250 : True := ⟨⟩
theorem tw3180627768907510858 : True := ⟨⟩
theorem tw3231707255219507370 : True := ⟨⟩
theorem tw3238209531923449218 : True := ⟨⟩
theorem tw3717577746262001178 : True := ⟨⟩
theorem tw4176893468101616925 : True := ⟨⟩
theorem tw4203316857145375646 : True := ⟨⟩
theorem tw4456803233182607538 : True := ⟨⟩
theorem tw4470711831407691121 : True := ⟨⟩
theorem tw4550918207738703549 : True := ⟨⟩
theorem tw4632959610940401869 : True := ⟨⟩
theorem tw4652092862963130517 : True := ⟨⟩
theorem tw5390409555969005669 : True := ⟨⟩
theorem tw5473399999508135945 : True := ⟨⟩
theorem tw5586487444795846499 : True := ⟨⟩
theorem tw5743768508819328152 : True := ⟨⟩
theorem tw5819624887938398416 : True := ⟨⟩
theorem tw5833475200320576287 : True := ⟨⟩
theorem tw5931339103199828548 : True := ⟨⟩
theorem tw5962050342095573545 : True := ⟨⟩
theorem tw6016233163299220257 : True := ⟨⟩
theorem tw6081899245908742590 : True := ⟨⟩
theorem tw6122144554519292154 : True := ⟨⟩
theorem tw6249683799585493246 : True := ⟨⟩
theorem tw6735087836780363680 : True := ⟨⟩
theorem tw68641369217928261 : True := ⟨⟩
theorem tw6876404800760346512 : True := ⟨⟩
theorem tw7215077930208913811 : True := ⟨⟩
theorem tw728926045692713757 : True := ⟨⟩
theorem tw7401705663277103287 : True := ⟨⟩
theorem tw7601069117072549406 : True := ⟨⟩
theorem tw7803388961443243139 : True := ⟨⟩
theorem tw7992826690830043431 : True := ⟨⟩
theorem tw8329712274964223850 : True := ⟨⟩
theorem tw8615050049281625024 : True := ⟨⟩
theorem tw8786580452241241350 : True := ⟨⟩
theorem tw9292617392491107080 : True := ⟨⟩
theorem tw9446529144537187806 : True := ⟨⟩
theorem tw946047008421926341 : True := ⟨⟩
theorem tw9575294138414891724 : True := ⟨⟩
end PySem.W.Fast
open PySem PySem.W PyProof.Rows
set_option maxRecDepth 100000 in
set_option maxHeartbeats 0 in
theorem PySem.Challenge.cw_bestheads_k08_refused_books_and_lists_holds : PySem.Challenge.rw_bestheads_k08_refused_books_and_lists.Holds := by
 w_on; o_law; k_head; (case hw => w_witness2)
 k_fill
 refine K08.walk (l := PySem.Challenge.rw_bestheads_k08_refused_books_and_lists) rfl rfl rfl ?aua ?hNT (λw h Y => by first | exact PySem.W.km_in_of Y | exact PySem.W.kIn_of Y) ?F
 case aua =>
  intro x hx
  rcases (List.mem_cons.mp hx) with rfl | hx
  ·exact .inl (by kernel_rfl)
  ·rw [List.mem_singleton.mp hx]
   exact .inr λw => by k_is
 case hNT => intro w; kernel_rfl
 case F =>
  intro w mg h KX G base kb gb hcd hbm
  refine' K08.awl ?qM ?ang ?anh ?qXT ?aiO ?ani ?ajC ?alg ?anj ?ank ?alh ?anl ?ali ?anm ?alj ?ajD ?alk ?alm ?aln ?qd1 ?qd2 ?qd3 ?qd4 ?qd5 ?qd6 ?qe6 ?qd7 ?qd8 ?qd9 ?axR ?axS ?axT ?axU ?axV ?axW ?axX ?axY ?axZ ?ax0 ?ax1 ?ax2 ?ax3 ?ax4 ?ax5 ?ax6 ?ax7 ?ax8 ?ax9 ?aya ?ayb ?awq ?awr
  case qM =>
   refine' K08.awk KX G ?z0 ?z1 ?z2 ?z3 ?z4 ?z5 ?z6 ?z7 ?z8 ?z9 ?z10 ?z11 ?z12 ?z13
   all_goals k_is
  case qd1 =>
   refine' K08.acu KX G ?qa1 ?ql1 ?qc1 ?qk1
   (case qa1 => k_is); (case ql1 => k_is); (case qc1 => k_is); (case qk1 => k_is)
  case qd2 =>
   refine' K08.acu KX G ?qa2 ?ql2 ?qc2 ?qk2
   (case qa2 => k_is); (case ql2 => k_is); (case qc2 => k_is); (case qk2 => k_is)
  case qd3 =>
   refine' K08.acu KX G ?qa3 ?ql3 ?qc3 ?qk3
   (case qa3 => k_is); (case ql3 => k_is); (case qc3 => k_is); (case qk3 => k_is)
  case qd4 =>
   refine' K08.acu KX G ?qa4 ?ql4 ?qc4 ?qk4
   (case qa4 => k_is); (case ql4 => k_is); (case qc4 => k_is); (case qk4 => k_is)
  case qd5 =>
   refine' K08.acu KX G ?qa5 ?ql5 ?qc5 ?qk5
   (case qa5 => k_is); (case ql5 => k_is); (case qc5 => k_is); (case qk5 => k_is)
  case qd7 =>
   refine' K08.acu KX G ?qa7 ?ql7 ?qc7 ?qk7
   (case qa7 => k_is); (case ql7 => k_is); (case qc7 => k_is); (case qk7 => k_is)
  case qd8 =>
   refine' K08.acu KX G ?qa8 ?ql8 ?qc8 ?qk8
   (case qa8 => k_is); (case ql8 => k_is); (case qc8 => k_is); (case qk8 => k_is)
  case qd9 =>
   refine' K08.acu KX G ?qa9 ?ql9 ?qc9 ?qk9
   (case qa9 => k_is); (case ql9 => k_is); (case qc9 => k_is); (case qk9 => k_is)
  case axR =>
   refine' K08.acu KX G ?ayc ?ayd ?aye ?ayf
   (case ayc => k_is); (case ayd => k_is); (case aye => k_is); (case ayf => k_is)
  case axS =>
   refine' K08.acu KX G ?ayg ?ayh ?ayi ?ayj
   (case ayg => k_is); (case ayh => k_is); (case ayi => k_is); (case ayj => k_is)
  case axT =>
   refine' K08.acu KX G ?ayk ?ayl ?aym ?ayn
   (case ayk => k_is); (case ayl => k_is); (case aym => k_is); (case ayn => k_is)
  case axU =>
   refine' K08.acu KX G ?ayo ?ayp ?ayq ?ayr
   (case ayo => k_is); (case ayp => k_is); (case ayq => k_is); (case ayr => k_is)
  case axV =>
   refine' K08.acu KX G ?ays ?ayt ?ayu ?ayv
   (case ays => k_is); (case ayt => k_is); (case ayu => k_is); (case ayv => k_is)
  case axW =>
   refine' K08.acu KX G ?ayw ?ayx ?ayy ?ayz
   (case ayw => k_is); (case ayx => k_is); (case ayy => k_is); (case ayz => k_is)
  case axX =>
   refine' K08.acu KX G ?ayA ?ayB ?ayC ?ayD
   (case ayA => k_is); (case ayB => k_is); (case ayC => k_is); (case ayD => k_is)
  case axY =>
   refine' K08.acu KX G ?ayE ?ayF ?ayG ?ayH
   (case ayE => k_is); (case ayF => k_is); (case ayG => k_is); (case ayH => k_is)
  case axZ =>
   refine' K08.acu KX G ?ayI ?ayJ ?ayK ?ayL
   (case ayI => k_is); (case ayJ => k_is); (case ayK => k_is); (case ayL => k_is)
  case ax0 =>
   refine' K08.acu KX G ?ayM ?ayN ?ayO ?ayP
   (case ayM => k_is); (case ayN => k_is); (case ayO => k_is); (case ayP => k_is)
  case ax1 =>
   refine' K08.acu KX G ?ayQ ?ayR ?ayS ?ayT
   (case ayQ => k_is); (case ayR => k_is); (case ayS => k_is); (case ayT => k_is)
  case ax2 =>
   refine' K08.acu KX G ?ayU ?ayV ?ayW ?ayX
   (case ayU => k_is); (case ayV => k_is); (case ayW => k_is); (case ayX => k_is)
  case ax3 =>
   refine' K08.acu KX G ?ayY ?ayZ ?ay0 ?ay1
   (case ayY => k_is); (case ayZ => k_is); (case ay0 => k_is); (case ay1 => k_is)
  case ax4 =>
   refine' K08.acu KX G ?ay2 ?ay3 ?ay4 ?ay5
   (case ay2 => k_is); (case ay3 => k_is); (case ay4 => k_is); (case ay5 => k_is)
  case ax5 =>
   refine' K08.acu KX G ?ay6 ?ay7 ?ay8 ?ay9
   (case ay6 => k_is); (case ay7 => k_is); (case ay8 => k_is); (case ay9 => k_is)
  case ax6 =>
   refine' K08.acu KX G ?aza ?azb ?azc ?azd
   (case aza => k_is); (case azb => k_is); (case azc => k_is); (case azd => k_is)
  case ax7 =>
   refine' K08.acu KX G ?aze ?azf ?azg ?azh
   (case aze => k_is); (case azf => k_is); (case azg => k_is); (case azh => k_is)
  case ax8 =>
   refine' K08.acu KX G ?azi ?azj ?azk ?azl
   (case azi => k_is); (case azj => k_is); (case azk => k_is); (case azl => k_is)
  case ax9 =>
   refine' K08.acu KX G ?azm ?azn ?azo ?azp
   (case azm => k_is); (case azn => k_is); (case azo => k_is); (case azp => k_is)
  case aya =>
   refine' K08.acu KX G ?azq ?azr ?azs ?azt
   (case azq => k_is); (case azr => k_is); (case azs => k_is); (case azt => k_is)
  case ayb =>
   refine' K08.acu KX G ?azu ?azv ?azw ?azx
   (case azu => k_is); (case azv => k_is); (case azw => k_is); (case azx => k_is)
  case qd6 =>
   refine' K08.aub KX G ?qa6 ?ql6 ?qc6 ?qk6
   (case qa6 => k_is); (case ql6 => k_is); (case qc6 => k_is); (case qk6 => k_is)
  case qe6 =>
   refine' L2.aoq (by decide) hcd hbm (L2.aqy ?ra6 ?rb6 ?azy ?rc6 ?azz ?azA ?rd6 ?azB ?azC) ?re6
   (case ra6 => k_is); (case rb6 => k_is); (case rc6 => k_is); (case azA => exact rfl); (case rd6 => k_is); (case azy => kernel_rfl); (case azz => kernel_rfl); (case azB => kernel_rfl); (case azC => exact rfl)
   case re6 =>
    intro x' hx'
    rcases (List.mem_cons.mp hx') with rfl | hx'
    ·exact .inl rfl
    ·rw [List.mem_singleton.mp hx']
     exact .inr λc' z => (by have y := (L2.akA (by k_is)).symm.trans z; cases y)
  case awq =>
   refine' K08.apt KX G ?aws
   (case aws => k_is)
  case awr =>
   refine' K08.apt KX G ?awt
   (case awt => k_is)
  case qXT => exact L2.ahn.of (by kernel_rfl)
  case aiO =>
   refine' ⟨?ahH, mg_of KX G ?ahI⟩
   (case ahH => k_is); (case ahI => k_is)
  case ani =>
   refine' ⟨?alo, mg_of KX G ?alp⟩
   (case alo => k_is); (case alp => k_is)
  case ajC =>
   refine' ⟨?aiP, mg_of KX G ?aiQ⟩
   (case aiP => k_is); (case aiQ => k_is)
  case alg =>
   refine' ⟨?ajE, mg_of KX G ?ajF⟩
   (case ajE => k_is); (case ajF => k_is)
  case anj =>
   refine' ⟨?alq, mg_of KX G ?alr⟩
   (case alq => k_is); (case alr => k_is)
  case ank =>
   refine' ⟨?als, mg_of KX G ?alu⟩
   (case als => k_is); (case alu => k_is)
  case alh =>
   refine' ⟨?ajG, mg_of KX G ?ajH⟩
   (case ajG => k_is); (case ajH => k_is)
  case anl =>
   refine' ⟨?alv, mg_of KX G ?alw⟩
   (case alv => k_is); (case alw => k_is)
  case ali =>
   refine' ⟨?ajI, mg_of KX G ?ajJ⟩
   (case ajI => k_is); (case ajJ => k_is)
  case anm =>
   refine' ⟨?alx, mg_of KX G ?aly⟩
   (case alx => k_is); (case aly => k_is)
  case alj =>
   refine' ⟨?ajK, mg_of KX G ?ajL⟩
   (case ajK => k_is); (case ajL => k_is)
  case ajD =>
   refine' ⟨?aiR, mg_of KX G ?aiS⟩
   (case aiR => k_is); (case aiS => k_is)
  case alk =>
   refine' ⟨?ajM, mg_of KX G ?ajN⟩
   (case ajM => k_is); (case ajN => k_is)
  case alm =>
   refine' ⟨?ajO, mg_of KX G ?ajP⟩
   (case ajO => k_is); (case ajP => k_is)
  case aln =>
   refine' ⟨?ajQ, mg_of KX G ?ajR⟩
   (case ajQ => k_is); (case ajR => k_is)
  case ang =>
   refine' L2.aoX kb gb ?alz ?alA
   (case alz => k_is); (case alA => k_exc)
  case anh =>
   refine' L2.aoX kb gb ?alB ?alC
   (case alB => k_is); (case alC => k_exc)
#print axioms PySem.Challenge.cw_bestheads_k08_refused_books_and_lists_holds
end