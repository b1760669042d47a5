import PyProof.Rows.All
import Wide.All
import OpenK.AllK
import Wide.FinOn
import Lean
import PyProof.EqAt
import PyProof.EqKinds
import PyProof.TupleCall
import PyProof.ReprRoads
import PyProof.ReprBulk
import PyProof.Rows.RegStrFacts
import PyProof.StrBlockH
import PyProof.FitsBits
import KE.KTurns
import PyProof.NeKinds
import KE.KNest
import KE.KSortKey
import PyProof.ListRange
import PyProof.Rows.SortWalk
import KE.KListMore
import PySem.Challenge.RW_bestheads_k51_no_book_to_beat_in
set_option exponentiation.threshold 6000
set_option Elab.async false
set_option linter.all false
set_option maxRecDepth 100000
set_option maxHeartbeats 4000000
section
namespace L2
open PySem PySem.Spec PyProof.Rows
noncomputable abbrev Key := Sum Int Str
noncomputable def ao7 : Key -> Value -> Bool
 | .inl k, v => Value.isInt k v
 | .inr x, v => Value.isStrOf x v
noncomputable def auN (w : World) : Key -> Int
 | .inl k => hashInt k
 | .inr x => hashStr w x
theorem abd : ∀ {k : Key} {v : Value}, ao7 k v = true -> (∃ i t, k = Sum.inl i /\ v = Value.int i t) \/ (∃ x t, k = Sum.inr x /\ v = Value.str x t)
 | .inl i, v, h => by
  obtain ⟨t, e⟩ := Value.isInt_shape (k := i) (v := v) h
  exact .inl ⟨i, t, rfl, e⟩
 | .inr x, v, h => by
  obtain ⟨t, e⟩ := Value.isStrOf_shape (x := x) (v := v) h
  exact .inr ⟨x, t, rfl, e⟩
theorem ao8 (a b : Int) : decide ((Sum.inl a : Key) = Sum.inl b) = (a == b) := by
 by_cases e : a = b
 ·subst e; simp
 ·have h : ¬ (Sum.inl a : Key) = Sum.inl b := λq => e (Sum.inl.inj q)
  rw [decide_eq_false h]
  exact (beq_eq_false_iff_ne.mpr e).symm
theorem ao9 (a b : Str) : decide ((Sum.inr a : Key) = Sum.inr b) = decide (a = b) := by
 by_cases e : a = b
 ·subst e; simp
 ·have h : ¬ (Sum.inr a : Key) = Sum.inr b := λq => e (Sum.inr.inj q)
  rw [decide_eq_false h, decide_eq_false e]
theorem apa (a : Int) (b : Str) : decide ((Sum.inl a : Key) = Sum.inr b) = false := decide_eq_false (λq => nomatch q)
theorem apb (a : Str) (b : Int) : decide ((Sum.inr a : Key) = Sum.inl b) = false := decide_eq_false (λq => nomatch q)
noncomputable def ahn (prog : Program) (w : World) : PySem.KeyKind prog w Key where
 is := ao7
 hash := auN w
 inj := λv a b ha hb => by
  rcases abd ha with ⟨i, t, rfl, rfl⟩ | ⟨x, t, rfl, rfl⟩
  ·rcases abd hb with ⟨j, u, rfl, e⟩ | ⟨y, u, rfl, e⟩
   ·injection e with e1 _; rw [e1]
   ·exact nomatch e
  ·rcases abd hb with ⟨j, u, rfl, e⟩ | ⟨y, u, rfl, e⟩
   ·exact nomatch e
   ·injection e with e1 _; rw [e1]
 byValue := λk v h => by
  rcases abd h with ⟨i, t, rfl, rfl⟩ | ⟨x, t, rfl, rfl⟩ <;> rfl
 pyHash := λhv h => by
  rcases abd hv with ⟨i, t, rfl, rfl⟩ | ⟨x, t, rfl, rfl⟩
  ·exact wpAny_pyHash_int h
  ·exact wpAny_pyHash_str h
 eqBool := λhu hv h => by
  rcases abd hu with ⟨i, t, rfl, rfl⟩ | ⟨x, t, rfl, rfl⟩
  ·rcases abd hv with ⟨j, u, rfl, rfl⟩ | ⟨y, u, rfl, rfl⟩
   ·rw [ao8] at h; exact wpAny_eqBool_int h
   ·rw [apa] at h; exact SeqAt.EqAt.int_str i t y u _ _ _ _ h
  ·rcases abd hv with ⟨j, u, rfl, rfl⟩ | ⟨y, u, rfl, rfl⟩
   ·rw [apb] at h; exact SeqAt.EqAt.str_int x t j u _ _ _ _ h
   ·rw [ao9] at h; exact wpAny_eqBool_str h
 «strs» := λk x t v h => by
  rcases abd h with ⟨i, u, rfl, e⟩ | ⟨y, u, rfl, e⟩
  ·exact nomatch e
  ·injection e with e1 _
   subst e1
   cases v <;> rfl
end L2
namespace L2
open PySem PySem.Spec PyProof.Rows
inductive V where
 | non | bl (b : Bool) | int (i : Int) | str (x : Str) | byt (b : Array UInt8) | flt (b : UInt64) | ref (a : Addr) | ty (n : String)
 deriving DecidableEq
noncomputable def RelV : V -> Value -> Prop
 | .non, u => u = Value.none
 | .bl b, u => u = Value.bool b
 | .int i, u => ∃ t, u = Value.int i t
 | .str x, u => ∃ t, u = Value.str x t
 | .byt b, u => ∃ t, u = Value.bytes b t
 | .flt b, u => ∃ t, u = Value.float b t
 | .ref a, u => u = Value.ref a
 | .ty n, u => u = Value.type n
noncomputable abbrev Vals : List V -> List Value -> Prop := Paired RelV
theorem Vals.length {xs : List V} {us : List Value} (r : Vals xs us) : xs.length = us.length := Paired.length r
theorem Vals.get : ∀ {xs : List V} {us : List Value} {i : Nat} {x : V}, Vals xs us -> xs[i]? = some x -> ∃ u, us[i]? = some u /\ RelV x u
 | _, _, _, _, .nil, e => by simp at e
 | _, _, 0, _, .cons r _, e => by simp at e; subst e; exact ⟨_, rfl, r⟩
 | _, _, i + 1, x, .cons _ t, e => by
  obtain ⟨u, h1, h2⟩ := Vals.get (i := i) (x := x) t (by simpa using e)
  exact ⟨u, by simpa using h1, h2⟩
theorem Vals.set {x : V} {u : Value} (r : RelV x u) : ∀ {xs : List V} {us : List Value} (i : Nat), Vals xs us -> Vals (xs.set i x) (us.set i u)
 | _, _, _, .nil => .nil
 | _, _, 0, .cons _ t => .cons r t
 | _, _, i + 1, .cons q t => .cons q (Vals.set r i t)
theorem Vals.append : ∀ {xs ys : List V} {us ws : List Value}, Vals xs us -> Vals ys ws -> Vals (xs ++ ys) (us ++ ws)
 | _, _, _, _, .nil, s => s
 | _, _, _, _, .cons r t, s => .cons r (Vals.append t s)
theorem Vals.take : ∀ {xs : List V} {us : List Value} (n : Nat), Vals xs us -> Vals (xs.take n) (us.take n)
 | _, _, 0, _ => .nil
 | _, _, _ + 1, .nil => .nil
 | _, _, n + 1, .cons r t => .cons r (Vals.take n t)
theorem Vals.drop : ∀ {xs : List V} {us : List Value} (n : Nat), Vals xs us -> Vals (xs.drop n) (us.drop n)
 | _, _, 0, r => r
 | _, _, _ + 1, .nil => .nil
 | _, _, n + 1, .cons _ t => Vals.drop n t
noncomputable def atR : Option V -> Option Value -> Prop
 | some v, some u => RelV v u
 | none, none => True
 | _, _ => False
noncomputable def KV {κ : Type} : List (κ × V) -> List (κ × Value) -> Prop := Paired λ(p : κ × V) (q : κ × Value) => p.1 = q.1 /\ RelV p.2 q.2
noncomputable def kV : Key -> V
 | .inl i => .int i
 | .inr x => .str x
inductive HO where
 | lst (xs : List V)
 | tup (xs : List V)
 | dK (kvs : List (Key × V)) | dT (kvs : List (List Key × V))
 | set (S : Int -> Bool) (n : Nat)
 | ins (C dx : Addr) (fs : List (Str × V))
 | own (x : Addr)
 | xd (fs : List (Str × V))
 | met (f x : Addr)
 | rng (lo hi : Int)
 | frz (o : Obj) (u : HO)
 | tbl (ps : Array Value)
 | ext (φ : Heap -> Prop)
noncomputable abbrev Hp := Addr -> Option HO
noncomputable def upd (H : Hp) (a : Addr) (o : HO) : Hp := λb => if b = a then some o else H b
theorem aa8 {H : Hp} {a : Addr} {o : HO} : upd H a o a = some o := by unfold upd; rw [if_pos rfl]
theorem aaC {H : Hp} {a b : Addr} {o : HO} (h : b ≠ a) : upd H a o b = H b := by unfold upd; rw [if_neg h]
theorem abh {H : Hp} {a b : Addr} {o : HO} (h : H a = some o) (h' : H b = none) : a ≠ b := by
 intro e; subst e; rw [h] at h'; cases h'
section
variable (P : Program) (w : World)
noncomputable def adv (H : Hp) (h : Heap) (a : Addr) : HO -> Prop
 | .lst xs => xs.length <= sizeLine /\ ∃ (its : List Value) (n : Nat), Vals xs its /\ h.get? a = some { cls := .type "list", data := .seq its.toArray n }
 | .tup xs => xs.length <= sizeLine /\ ∃ its : List Value, Vals xs its /\ IsTup h a its.toArray
 | .dK kvs => kvs.length <= sizeLine /\ (a == sysModules) = false /\ ∃ vs, KV kvs vs /\ h.DictOf (ahn P w) a vs
 | .dT kvs => kvs.length <= sizeLine /\ (a == sysModules) = false /\ ∃ xs : List (List Key × Addr × Value),
   Paired (λ(p : List Key × V) (q : List Key × Addr × Value) => p.1 = q.1 /\ H q.2.1 = some (.tup (p.1.map kV)) /\ RelV p.2 q.2.2) kvs xs /\
   ∃ o es ep, h.get? a = some o /\ o.ExactDict /\ o.data = .dict es ep /\ es.toList = xs.map (entryOfKey (tupleKind (ahn P w))) /\ (xs.map (·.1)).Nodup
 | .set S n => h.SetOf (intKind P w) a S n
 | .ins C dx fs => H dx = some (.own a) /\ fs.length <= 1000 /\ dx ≠ a /\ h.get? a = some (PySem.W.instObj C dx) /\
   ∃ mA, h.Ns1 dx mA /\ (∀ f, atR (fs.lookup f) (mA f)) /\ PySem.Within mA (fs.map (·.1))
 | .own _ => ∃ o, h.get? a = some o
 | .xd fs => ∃ mA, h.Ns1 a mA /\ ∀ f, atR (fs.lookup f) (mA f)
 | .rng lo hi => ∃ t u v, h.get? a = some { cls := .type "range", data := .fields #[.int lo t, .int hi u, .int 1 v] }
 | .frz o u => h.get? a = some o /\ adv H h a u
 | .tbl ps => h.get? a = some { cls := .none, data := .fields ps }
 | .met f x => h.get? a = some (PySem.W.methodObj (.ref f) (.ref x))
 | .ext φ => φ h /\ (∃ o, h.get? a = some o) /\ ∀ h1 h2 : Heap, φ h1 -> (∀ o, h1.get? a = some o -> h2.get? a = some o) -> φ h2
noncomputable def HOk (H : Hp) (h : Heap) : Prop := ∀ a o, H a = some o -> adv P w H h a o
end
section
variable {P : Program} {w : World} {H H' : Hp} {h h' : Heap} {a : Addr} {o : HO}
theorem adv.lt (x : adv P w H h a o) : a < h.objs.size := by
 cases o with
 | lst xs => obtain ⟨_, _, _, _, e⟩ := x; exact Heap.lt_size e
 | tup xs => obtain ⟨_, _, _, p⟩ := x; exact p.lt
 | dK kvs => obtain ⟨_, _, _, _, o, _, _, e, _⟩ := x; exact Heap.lt_size e
 | dT kvs => obtain ⟨_, _, _, _, o, _, _, e, _⟩ := x; exact Heap.lt_size e
 | set S n => obtain ⟨o, _, _, _, e, _⟩ := x; exact Heap.lt_size e
 | ins C dx fs => obtain ⟨_, _, _, e, _⟩ := x; exact Heap.lt_size e
 | own y => obtain ⟨_, e⟩ := x; exact Heap.lt_size e
 | xd fs => obtain ⟨_, ⟨_, _, _, e, _⟩, _⟩ := x; exact Heap.lt_size e
 | rng lo hi => obtain ⟨_, _, _, e⟩ := x; exact Heap.lt_size e
 | frz ob u => obtain ⟨e, _⟩ := x; exact Heap.lt_size e
 | tbl ps => exact Heap.lt_size (show h.get? a = some _ from x)
 | met f y => exact Heap.lt_size (show h.get? a = some _ from x)
 | ext φ => obtain ⟨_, ⟨_, e⟩, _⟩ := x; exact Heap.lt_size e
theorem Paired.atU {α β : Type} {F G : α -> β -> Prop} : ∀ {l₁ : List α} {l₂ : List β}, Paired F l₁ l₂ -> (∀ a b, F a b -> G a b) -> Paired G l₁ l₂
 | _, _, .nil, _ => .nil
 | _, _, .cons r t, f => .cons (f _ _ r) (Paired.atU t f)
theorem adv.stay (x : adv P w H h a o) (k : ∀ b u, (b = a \/ H b = some (.own a)) -> h.get? b = some u -> h'.get? b = some u)
  (ho : ∀ b, H b = some (.own a) -> H' b = some (.own a)) (ht : ∀ b xs, H b = some (.tup xs) -> H' b = some (.tup xs)) : adv P w H' h' a o := by
 induction o with
 | lst xs => obtain ⟨z, its, n, r, e⟩ := x; exact ⟨z, its, n, r, k _ _ (.inl rfl) e⟩
 | tup xs => obtain ⟨z, its, r, ob, e, c⟩ := x; exact ⟨z, its, r, ob, k _ _ (.inl rfl) e, c⟩
 | dK kvs => obtain ⟨z, y, vs, r, ob, es, ep, e, c⟩ := x; exact ⟨z, y, vs, r, ob, es, ep, k _ _ (.inl rfl) e, c⟩
 | dT kvs =>
  obtain ⟨z, y, xs, r, ob, es, ep, e, c⟩ := x
  exact ⟨z, y, xs, Paired.atU r λp q z => ⟨z.1, ht _ _ z.2.1, z.2.2⟩, ob, es, ep, k _ _ (.inl rfl) e, c⟩
 | set S n => obtain ⟨ob, es, ep, t, e, c⟩ := x; exact ⟨ob, es, ep, t, k _ _ (.inl rfl) e, c⟩
 | ins C dx fs =>
  obtain ⟨d, z, ne, e, mA, ⟨od, es, ep, e2, c⟩, r⟩ := x
  exact ⟨ho _ d, z, ne, k _ _ (.inl rfl) e, mA, ⟨od, es, ep, k _ _ (.inr d) e2, c⟩, r⟩
 | own y => obtain ⟨ob, e⟩ := x; exact ⟨ob, k _ _ (.inl rfl) e⟩
 | xd fs => obtain ⟨mA, ⟨od, es, ep, e, c⟩, r⟩ := x; exact ⟨mA, ⟨od, es, ep, k _ _ (.inl rfl) e, c⟩, r⟩
 | rng lo hi => obtain ⟨t, u, v, e⟩ := x; exact ⟨t, u, v, k _ _ (.inl rfl) e⟩
 | frz ob u ih => obtain ⟨e, q⟩ := x; exact ⟨k _ _ (.inl rfl) e, ih q⟩
 | tbl ps =>
  have e : h.get? a = some { cls := .none, data := .fields ps } := x
  show h'.get? a = some { cls := .none, data := .fields ps }
  exact k a _ (.inl rfl) e
 | met f y =>
  have e : h.get? a = some (PySem.W.methodObj (.ref f) (.ref y)) := x
  show h'.get? a = some (PySem.W.methodObj (.ref f) (.ref y))
  exact k a _ (.inl rfl) e
 | ext φ => obtain ⟨p, ⟨o, e⟩, st⟩ := x; exact ⟨st _ _ p λo q => k _ _ (.inl rfl) q, ⟨o, k _ _ (.inl rfl) e⟩, st⟩
theorem HOk.lt (x : HOk P w H h) (e : H a = some o) : a < h.objs.size := (x a o e).lt
theorem HOk.fresh (x : HOk P w H h) (e : h.objs.size <= a) : H a = none := by
 cases q : H a with
 | none => rfl
 | some u => exact absurd (Nat.lt_of_lt_of_le (x.lt q) e) (Nat.lt_irrefl _)
theorem HOk.kept (x : HOk P w H h) (k : ∀ b u, h.get? b = some u -> h'.get? b = some u) : HOk P w H h' := λa o e =>
 (x a o e).stay (λb u _ q => k b u q) (λ_ q => q) λ_ _ q => q
theorem HOk.laid (x : HOk P w H h) (k : ∀ b u, h.get? b = some u -> h'.get? b = some u) (hp : h.objs.size <= a) (new : adv P w (upd H a o) h' a o) : HOk P w (upd H a o) h' := λb u e => by
 have hn := x.fresh hp
 by_cases hb : b = a
 ·subst hb; rw [aa8] at e; cases e; exact new
 ·rw [aaC hb] at e
  exact (x b u e).stay (λc v _ q => k c v q) (λc q => by rw [aaC (abh q hn)]; exact q) λc xs q => by rw [aaC (abh q hn)]; exact q
end
noncomputable def Rd (H : Hp) (a : Addr) (u : HO) : Prop := H a = some u \/ ∃ o, H a = some (.frz o u)
theorem Rd.ok {P : Program} {w : World} {H : Hp} {h : Heap} {a : Addr} {u : HO} (r : Rd H a u) (x : HOk P w H h) : adv P w H h a u := by
 rcases r with r | ⟨o, r⟩
 ·exact x a u r
 ·obtain ⟨_, q⟩ := x a _ r
  exact q
noncomputable def Mut : Option HO -> Prop
 | some (.lst _) => True
 | some (.dK _) => True
 | some (.dT _) => True
 | some (.set _ _) => True
 | some (.ins _ _ _) => True
 | some (.ext _) => True
 | _ => False
section
variable {P : Program} {w : World} {H : Hp} {h h' : Heap} {x e : Addr} {o' : HO}
theorem HOk.write (ok : HOk P w H h) (mu : Mut (H x)) (he : e = x \/ H e = some (.own x)) (k : ∀ b u, b ≠ e -> h.get? b = some u -> h'.get? b = some u) (heo : ∃ u, h'.get? e = some u)
  (new : adv P w (upd H x o') h' x o') : HOk P w (upd H x o') h' := λb u q => by
 have atV : ∀ c y, H c = some (.own y) -> c ≠ x := λc y r z => by subst z; rw [r] at mu; exact mu
 have auO : ∀ c xs, H c = some (.tup xs) -> c ≠ x := λc xs r z => by subst z; rw [r] at mu; exact mu
 by_cases hb : b = x
 ·subst hb; rw [aa8] at q; cases q; exact new
 ·rw [aaC hb] at q
  by_cases hbe : b = e
  ·have q' : H b = some (.own x) := by
    rcases he with z | z
    ·exact absurd (hbe.trans z) hb
    ·rw [hbe]; exact z
   rw [q] at q'; cases q'
   obtain ⟨v, hv⟩ := heo
   exact ⟨v, by rw [hbe]; exact hv⟩
  ·refine (ok b u q).stay (λc v hc r => k c v ?_ r) (λc r => by rw [aaC (atV c b r)]; exact r) λc xs r => by rw [aaC (auO c xs r)]; exact r
   rcases hc with rfl | hc
   ·exact hbe
   ·rintro rfl
    rcases he with z | z
    ·exact atV c b hc z
    ·rw [hc] at z; cases z; exact hb rfl
end
structure Un (fs ex : List Addr) (H H' : Hp) (h h' : Heap) : Prop where
 keep : ∀ b o, h.get? b = some o -> H b = none -> b ∉ fs -> b ∉ ex -> h'.get? b = some o
 slot : ∀ b o, h.get? b = some o -> H b = none -> b ∈ fs -> b ∉ ex -> ∃ sl, h'.get? b = some { o with slots := sl }
 free : ∀ b o, h.get? b = some o -> H b = none -> b ∉ ex -> H' b = none
 there : ∀ b o, h.get? b = some o -> b ∉ ex -> ∃ o', h'.get? b = some o'
 tups : ∀ b xs, H b = some (.tup xs) -> H' b = some (.tup xs)
 aif : ∀ b o u, H b = some (.frz o u) -> H' b = some (.frz o u)
 aii : ∀ b ps, H b = some (.tbl ps) -> ∃ more, H' b = some (.tbl (ps ++ more))
section
variable {fs fs' ex ex' : List Addr} {H H1 H2 : Hp} {h h1 h2 h' : Heap} {a x e : Addr} {o : HO}
theorem Un.any (u : Un fs ex H H1 h h1) {b : Addr} {ob : Obj} (q : h.get? b = some ob) (n : H b = none) (hx : b ∉ ex) : ∃ sl, h1.get? b = some { ob with slots := sl } := by
 by_cases hb : b ∈ fs
 ·exact u.slot b ob q n hb hx
 ·exact ⟨ob.slots, u.keep b ob q n hb hx⟩
theorem Un.kept (k : ∀ b u, h.get? b = some u -> h'.get? b = some u) : Un fs ex H H h h' :=
 ⟨λb ob q _ _ _ => k b ob q, λb ob q _ _ _ => ⟨ob.slots, k b ob q⟩, λ_ _ _ n _ => n, λb ob q _ => ⟨ob, k b ob q⟩, λ_ _ q => q, λ_ _ _ q => q, λ_ ps q => ⟨#[], by rw [q]; simp⟩⟩
theorem Un.refl : Un fs ex H H h h := Un.kept λ_ _ q => q
theorem Un.laid (k : ∀ b u, h.get? b = some u -> h'.get? b = some u) (hp : h.objs.size <= a) (hn : H a = none) : Un fs ex H (upd H a o) h h' where
 keep := λb u q _ _ _ => k b u q
 slot := λb u q _ _ _ => ⟨u.slots, k b u q⟩
 free := λb u q n _ => by rw [aaC (Nat.ne_of_lt (Nat.lt_of_lt_of_le (Heap.lt_size q) hp))]; exact n
 there := λb u q _ => ⟨u, k b u q⟩
 tups := λb xs q => by rw [aaC (abh q hn)]; exact q
 aif := λb u xs q => by rw [aaC (abh q hn)]; exact q
 aii := λb ps q => ⟨#[], by rw [aaC (abh q hn), q]; simp⟩
theorem Un.write (mu : Mut (H x)) (he : e = x \/ H e = some (.own x)) (k : ∀ b u, b ≠ e -> h.get? b = some u -> h'.get? b = some u) (heo : ∃ u, h'.get? e = some u) : Un fs ex H (upd H x o) h h' := by
 have hx : ∀ b, H b = none -> b ≠ x := λb n z => by subst z; rw [n] at mu; exact mu
 have hb : ∀ b, H b = none -> b ≠ e := λb n z => by
  subst z
  rcases he with r | r
  ·exact hx b n r
  ·rw [n] at r; cases r
 have hm : ∀ b u, H b = some u -> ¬ Mut (some u) -> b ≠ x := λb u q nm z => by subst z; rw [q] at mu; exact nm mu
 refine ⟨λb u q n _ _ => k b u (hb b n) q, λb u q n _ _ => ⟨u.slots, k b u (hb b n) q⟩, λb u q n _ => by rw [aaC (hx b n)]; exact n, λb u q _ => ?_,
  λb xs q => by rw [aaC (hm b _ q λz => z)]; exact q, λb u xs q => by rw [aaC (hm b _ q λz => z)]; exact q, λb ps q => ⟨#[], by rw [aaC (hm b _ q λz => z), q]; simp⟩⟩
 by_cases hbe : b = e
 ·subst hbe; exact heo
 ·exact ⟨u, k b u hbe q⟩
end
noncomputable def trk (h : Heap) (H : Hp) : List Addr := (List.range h.objs.size).filter λa => (H a).isSome
noncomputable def alv (h : Heap) (H : Hp) : Heap := PySem.W.hideAll h (trk h H)
theorem ajQ (h : Heap) (H : Hp) : (alv h H).objs.size = h.objs.size := PySem.W.hideAll_size _ _
theorem alw {h : Heap} {H : Hp} {b : Addr} {o : Obj} (e : h.get? b = some o) (n : H b = none) : (alv h H).get? b = some o :=
 PySem.W.hideAll_get _ e λhm => by
  have q : (H b).isSome = true := (List.mem_filter.mp hm).2
  rw [n] at q; simp at q
theorem anm {h : Heap} {H : Hp} {b : Addr} {o : Obj} (e : (alv h H).get? b = some o) : h.get? b = some o /\ H b = none := by
 have e' : h.get? b = some o := PySem.W.of_hideAll (trk h H) e
 refine ⟨e', ?_⟩
 cases q : H b with
 | none => rfl
 | some x =>
  have hm : b ∈ trk h H := List.mem_filter.mpr ⟨List.mem_range.mpr (Heap.lt_size e'), by simp [q]⟩
  have z : (alv h H).get? b = none := PySem.W.hideAll_none (trk h H) hm
  rw [z] at e; cases e
noncomputable def ano (g h : Heap) (L : Addr) : List (Addr × Obj) := (List.range h.objs.size).filterMap λa => if a = L \/ (g.get? a).isSome = true then none else (h.get? a).map λo => (a, o)
noncomputable def rest (g h : Heap) (L d : Addr) : List (Addr × Obj) := (ano g h L).filter λp => decide (p.1 ≠ d)
end L2
namespace L2
open PySem PySem.Spec PyProof.Rows
structure Mod (K : PySem.W.Frag) (mg : Str -> Option Value) (base : Heap) : Prop where
 kin : K.In base
 glob : base.Ns mainGlobals mg
 blt : ∃ mb, base.Ns builtinsNs mb /\ ∀ x : Str, x ≠ "__name__" -> mb x = bootBuiltins x
 nolimit : base.NoLimit
structure Cx where
 prog : Program
 w : World
 K : PySem.W.Frag
 mg : Str -> Option Value
 base : Heap
 A : Around
 N : List Str
 s₀ : Shared
 H₀ : Hp
 env : Env
 outer : List Env
 stack : List Env
 ex : List Addr
 fn : Str -> Bool
 calm : Bool
 pn : List (Addr × Obj)
 xe : Value -> Shared -> Prop
noncomputable def frs (l : List Env) : List Addr := l.filterMap (·.frame)
noncomputable abbrev Cx.fs (X : Cx) : List Addr := frs X.outer
noncomputable def Vis (sc : Scope) (x : Str) : Prop := sc.names.lookup x = some .local \/ sc.names.lookup x = some .cell \/ sc.names.lookup x = some .free
noncomputable def Loc (sc : Scope) (x : Str) : Prop := sc.names.lookup x = some .local \/ sc.names.lookup x = some .cell
noncomputable def Look (env : Env) (h : Heap) (m : Str -> Option Value) (x : Str) (u : Value) : Prop :=
 (env.kindOf x = some .local /\ m x = some u) \/ ((env.kindOf x = some .cell \/ env.kindOf x = some .free) /\ ∃ c, env.cells.lookup x = some c /\ h.IsCell c (some u))
structure Cx.Ok (X : Cx) : Prop where
 mod : Mod X.K X.mg X.base
 kind : X.env.scope.kind = .function
 glob : X.env.globals = mainGlobals
 blt : X.env.builtins = builtinsNs
 above : X.s₀.heap.objs.size <= X.env.locals
 inj : ∀ x y c, X.env.cells.lookup x = some c -> X.env.cells.lookup y = some c -> x = y
 has : ∀ x, (X.env.kindOf x = some .cell \/ X.env.kindOf x = some .free) -> ∃ c, X.env.cells.lookup x = some c
 cab : ∀ x c, X.fn x = true -> X.env.cells.lookup x = some c -> X.s₀.heap.objs.size <= c
 hd : X.calm = true -> X.A.handled = none
 frames : X.A.frames = some X.stack
 stk : X.stack = X.outer \/ (X.stack = X.env :: X.outer /\ X.env.frame = some X.env.locals)
 exf : ∀ b ∈ X.ex, b ≠ X.env.locals /\ ∀ x c, X.env.cells.lookup x = some c -> c ≠ b
 bs : ∀ b o, X.base.get? b = some o -> X.s₀.heap.get? b = some o /\ X.H₀ b = none
 bsz : X.base.objs.size <= X.s₀.heap.objs.size
 aho : ∀ b o, X.base.get? b = some o -> b ∉ X.ex
 apc : ∀ b ∈ X.ex, b ∉ X.fs
 aiZ : X.s₀.heap.FunFrames X.base X.outer
 frf : ∀ b ∈ X.fs, X.H₀ b = none
structure Inv (X : Cx) (pins : List (Addr × Obj)) (σ : List (Option V)) (H : Hp) (s : Shared) : Prop where
 ok : X.Ok
 os : s.os = X.s₀.os
 bare : AllBare s.gens
 base : Un X.fs X.ex X.H₀ H X.s₀.heap s.heap
 loc : ∃ m, s.heap.Ns X.env.locals m /\ ∀ (i : Nat) (x : Str) (v : V), X.N[i]? = some x -> σ[i]? = some (some v) -> Vis X.env.scope x -> ∃ u, RelV v u /\ Look X.env s.heap m x u
 cell : ∀ x c, X.env.cells.lookup x = some c -> ∃ v, s.heap.IsCell c v
 free : H X.env.locals = none
 ad5 : ∀ x c, X.env.cells.lookup x = some c -> H c = none
 pin : ∀ p ∈ X.pn ++ pins, s.heap.get? p.1 = some p.2 /\ H p.1 = none /\ p.1 ≠ X.env.locals /\ p.1 ∉ X.fs /\ ∀ v, p.2.data ≠ .cell v
 hok : HOk X.prog X.w H s.heap
 len : σ.length = X.N.length
section
variable {X : Cx} {pins : List (Addr × Obj)} {σ : List (Option V)} {H H' : Hp} {s : Shared} {h' : Heap}
theorem Cx.Ok.auP (ok : X.Ok) {b : Addr} {o : Obj} (e : X.base.get? b = some o) : b ∉ X.fs := λhb => by
 have := (ok.aiZ.mem hb).1
 rw [e] at this; cases this
theorem Inv.bs (I : Inv X pins σ H s) : ∀ b o, X.base.get? b = some o -> s.heap.get? b = some o /\ H b = none := λb o e =>
 ⟨I.base.keep b o (I.ok.bs b o e).1 (I.ok.bs b o e).2 (I.ok.auP e) (I.ok.aho b o e), I.base.free b o (I.ok.bs b o e).1 (I.ok.bs b o e).2 (I.ok.aho b o e)⟩
theorem Inv.bk (I : Inv X pins σ H s) : ∀ b o, X.base.get? b = some o -> s.heap.get? b = some o := λb o e => (I.bs b o e).1
theorem Inv.mod (I : Inv X pins σ H s) : Mod X.K X.mg X.base := I.ok.mod
theorem Inv.kIn (I : Inv X pins σ H s) : X.K.In s.heap := I.ok.mod.kin.keeps I.bk
theorem Inv.lt (I : Inv X pins σ H s) : X.env.locals < s.heap.objs.size := let ⟨_, hn, _⟩ := I.loc; hn.lt
theorem Inv.sz (I : Inv X pins σ H s) : X.s₀.heap.objs.size <= s.heap.objs.size := Nat.le_trans I.ok.above (Nat.le_of_lt I.lt)
theorem Inv.auQ (I : Inv X pins σ H s) {a : Addr} (h : s.heap.objs.size <= a) : a ∉ X.fs := λhb => by
 obtain ⟨_, o, ho, _⟩ := I.ok.aiZ.mem hb
 exact absurd (Nat.lt_of_lt_of_le (Heap.lt_size ho) (Nat.le_trans I.sz h)) (Nat.lt_irrefl _)
theorem Inv.cne (I : Inv X pins σ H s) : ∀ x c, X.env.cells.lookup x = some c -> c ≠ X.env.locals := λx c e z => by
 obtain ⟨v, o, ho, hd⟩ := I.cell x c e
 obtain ⟨m, ⟨o', es, ep, ho', hd', _⟩, _⟩ := I.loc
 rw [z, ho'] at ho; cases ho; rw [hd'] at hd; cases hd
theorem Inv.aiZ (I : Inv X pins σ H s) : s.heap.FunFrames X.base X.outer := by
 have all : ∀ (l : List Env), (∀ b ∈ frs l, b ∈ X.fs) -> X.s₀.heap.FunFrames X.base l -> s.heap.FunFrames X.base l := by
  intro l
  induction l with
  | nil => intro _ _; trivial
  | cons env r ih =>
   intro hs hl
   obtain ⟨hk, ⟨L, o, hf, hn, ho, hd⟩, hr⟩ := hl
   have hL : L ∈ X.fs := hs L (by unfold frs; rw [List.filterMap_cons, hf]; exact List.mem_cons_self)
   obtain ⟨sl, e⟩ := I.base.slot L o ho (I.ok.frf L hL) hL λz => I.ok.apc L z hL
   exact ⟨hk, ⟨L, _, hf, hn, e, hd⟩, ih (λb hb => hs b (by unfold frs; rw [List.filterMap_cons, hf]; exact List.mem_cons_of_mem _ hb)) hr⟩
 exact all X.outer (λ_ hb => hb) I.ok.aiZ
theorem Inv.stack (I : Inv X pins σ H s) : s.heap.FunFrames X.base X.stack := by
 rcases I.ok.stk with e | ⟨e, hf⟩
 ·rw [e]; exact I.aiZ
 ·rw [e]
  obtain ⟨m, hn, _⟩ := I.loc
  refine .cons (by rw [I.ok.kind]; decide) hf hn ?_ I.aiZ
  exact Heap.get?_none_of_le (Nat.le_trans I.ok.bsz I.ok.above)
theorem Inv.agx (I : Inv X pins σ H s) : ∀ b ∈ frs X.stack, b ∈ X.env.locals :: X.fs := λb hb => by
 rcases I.ok.stk with e | ⟨e, hf⟩
 ·rw [e] at hb; exact List.mem_cons_of_mem _ hb
 ·rw [e] at hb
  unfold frs at hb
  rw [List.filterMap_cons, hf] at hb
  exact hb
theorem Inv.aeV (I : Inv X pins σ H s) : ∀ b ∈ frs X.stack, H b = none := λb hb => by
 rcases List.mem_cons.mp (I.agx b hb) with e | hb
 ·rw [e]; exact I.free
 ·obtain ⟨_, o, ho, _⟩ := I.ok.aiZ.mem hb
  exact I.base.free b o ho (I.ok.frf b hb) λz => I.ok.apc b z hb
theorem Inv.step {g' : Array GenState} {t' : Nat} {d' : Drawn} {ch : List Addr} (I : Inv X pins σ H s)
  (hch : ∀ b ∈ ch, (b ∈ X.ex \/ X.s₀.heap.objs.size <= b) /\ b ≠ X.env.locals /\ (∀ x c, X.env.cells.lookup x = some c -> c ≠ b) /\ ∀ p ∈ X.pn ++ pins, p.1 ≠ b)
  (keep : ∀ b o, b ≠ X.env.locals -> b ∉ X.fs -> b ∉ ch -> s.heap.get? b = some o -> H b = none -> h'.get? b = some o)
  (slot : ∀ b o, b ≠ X.env.locals -> b ∈ X.fs -> b ∉ ch -> s.heap.get? b = some o -> H b = none -> ∃ sl, h'.get? b = some { o with slots := sl }) (free : ∀ b o, b ∉ ch -> s.heap.get? b = some o -> H b = none -> H' b = none)
  (there : ∀ b o, b ∉ ch -> s.heap.get? b = some o -> ∃ o', h'.get? b = some o')
  (tups : ∀ b xs, H b = some (.tup xs) -> H' b = some (.tup xs)) (aif : ∀ b o u, H b = some (.frz o u) -> H' b = some (.frz o u)) (aii : ∀ b ps, H b = some (.tbl ps) -> ∃ more, H' b = some (.tbl (ps ++ more)))
  (ns : ∀ m, s.heap.Ns X.env.locals m -> h'.Ns X.env.locals m) (hok : HOk X.prog X.w H' h') (hg : AllBare g') :
  Inv X pins σ H' { s with heap := h', gens := g', drawn := d', toks := t' } := by
 have neL : ∀ b o, X.s₀.heap.get? b = some o -> b ≠ X.env.locals := λb o e => Nat.ne_of_lt (Nat.lt_of_lt_of_le (Heap.lt_size e) I.ok.above)
 have neC : ∀ b o, X.s₀.heap.get? b = some o -> b ∉ X.ex -> b ∉ ch := λb o e hx hb => by
  rcases (hch b hb).1 with z | z
  ·exact hx z
  ·exact absurd (Nat.lt_of_lt_of_le (Heap.lt_size e) z) (Nat.lt_irrefl _)
 have cellK : ∀ x c, X.env.cells.lookup x = some c -> ∀ v, s.heap.IsCell c v -> h'.IsCell c v := λx c e v ⟨o, ho, hd⟩ => by
  have nch : c ∉ ch := λz => (hch c z).2.2.1 x c e rfl
  by_cases hc : c ∈ X.fs
  ·obtain ⟨sl, q⟩ := slot c o (I.cne x c e) hc nch ho (I.ad5 x c e)
   exact ⟨_, q, hd⟩
  ·exact ⟨o, keep c o (I.cne x c e) hc nch ho (I.ad5 x c e), hd⟩
 refine ⟨I.ok, I.os, hg, ⟨λb o e n hb hx => ?_, λb o e n hb hx => ?_, λb o e n hx => ?_, λb o e hx => ?_, λb xs e => tups b xs (I.base.tups b xs e), λb o xs e => aif b o xs (I.base.aif b o xs e), λb ps e => ?_⟩, ?_, λx c e => ?_, ?_, λx c e => ?_, λp hp => ?_, hok, I.len⟩
 ·exact keep b o (neL b o e) hb (neC b o e hx) (I.base.keep b o e n hb hx) (I.base.free b o e n hx)
 ·obtain ⟨sl, e1⟩ := I.base.slot b o e n hb hx
  obtain ⟨sl', e2⟩ := slot b _ (neL b o e) hb (neC b o e hx) e1 (I.base.free b o e n hx)
  exact ⟨sl', e2⟩
 ·obtain ⟨o', e1⟩ := I.base.there b o e hx
  exact free b o' (neC b o e hx) e1 (I.base.free b o e n hx)
 ·obtain ⟨o', e1⟩ := I.base.there b o e hx
  exact there b o' (neC b o e hx) e1
 ·obtain ⟨m1, e1⟩ := I.base.aii b ps e
  obtain ⟨m2, e2⟩ := aii b _ e1
  exact ⟨m1 ++ m2, by rw [e2, Array.append_assoc]⟩
 ·obtain ⟨m, hn, hl⟩ := I.loc
  refine ⟨m, ns m hn, λi x v e1 e2 e3 => ?_⟩
  obtain ⟨u, r, l⟩ := hl i x v e1 e2 e3
  refine ⟨u, r, ?_⟩
  rcases l with l | ⟨k, c, e, z⟩
  ·exact .inl l
  ·exact .inr ⟨k, c, e, cellK x c e _ z⟩
 ·obtain ⟨v, z⟩ := I.cell x c e
  exact ⟨v, cellK x c e v z⟩
 ·obtain ⟨m, ⟨o, _, _, ho, _⟩, _⟩ := I.loc
  exact free _ o (λz => (hch _ z).2.1 rfl) ho I.free
 ·obtain ⟨v, o, ho, hd⟩ := I.cell x c e
  exact free c o (λz => (hch c z).2.2.1 x c e rfl) ho (I.ad5 x c e)
 ·obtain ⟨e, n, ne, nf, d⟩ := I.pin p hp
  have nch : p.1 ∉ ch := λz => (hch p.1 z).2.2.2 p hp rfl
  exact ⟨keep p.1 p.2 ne nf nch e n, free p.1 p.2 nch e n, ne, nf, d⟩
theorem Inv.un {t' : Nat} (I : Inv X pins σ H s) (u : Un X.fs [] H H' s.heap h') (hok : HOk X.prog X.w H' h') : Inv X pins σ H' { s with heap := h', toks := t' } := by
 obtain ⟨m, ⟨o, es, ep, ho, r⟩, _⟩ := id I.loc
 obtain ⟨sl, hL⟩ := u.any ho I.free (by simp)
 exact I.step (g' := s.gens) (d' := s.drawn) (ch := []) (λ_ z => nomatch z) (λb o _ hb _ e n => u.keep b o e n hb (by simp)) (λb o _ hb _ e n => u.slot b o e n hb (by simp)) (λb o _ e n => u.free b o e n (by simp)) (λb o _ e => u.there b o e (by simp)) u.tups u.aif u.aii (λm' hm => by
  obtain ⟨o', es', ep', ho', r'⟩ := hm
  rw [ho] at ho'; cases ho'
  exact ⟨_, es', ep', hL, r'⟩) hok I.bare
theorem Inv.call {g' : Array GenState} {t' : Nat} {d' : Drawn} {ch : List Addr} (I : Inv X pins σ H s) (u : Un (frs X.stack) ch H H' s.heap h') (hok : HOk X.prog X.w H' h') (hg : AllBare g')
  (hch : ∀ b ∈ ch, (b ∈ X.ex \/ X.s₀.heap.objs.size <= b) /\ b ≠ X.env.locals /\ (∀ x c, X.env.cells.lookup x = some c -> c ≠ b) /\ ∀ p ∈ X.pn ++ pins, p.1 ≠ b) :
  Inv X pins σ H' { s with heap := h', gens := g', drawn := d', toks := t' } := by
 obtain ⟨m, ⟨o, es, ep, ho, r⟩, _⟩ := id I.loc
 obtain ⟨sl, hL⟩ := u.any ho I.free λz => (hch _ z).2.1 rfl
 exact I.step (ch := ch) hch (λb o hL hb hc e n => u.keep b o e n (λz => (List.mem_cons.mp (I.agx b z)).elim hL hb) hc) (λb o _ _ hc e n => u.any e n hc) (λb o hc e n => u.free b o e n hc) (λb o hc e => u.there b o e hc) u.tups u.aif u.aii (λm' hm => by
  obtain ⟨o', es', ep', ho', r'⟩ := hm
  rw [ho] at ho'; cases ho'
  exact ⟨_, es', ep', hL, r'⟩) hok hg
theorem Inv.turned {t' : Nat} {it : Addr} (I : Inv X pins σ H s) (k : ∀ b o, b ≠ it -> s.heap.get? b = some o -> h'.get? b = some o) (hn : H it = none) (hL : it ≠ X.env.locals)
  (h1 : it ∈ X.ex \/ X.s₀.heap.objs.size <= it) (h2 : ∀ x c, X.env.cells.lookup x = some c -> c ≠ it) (h3 : ∀ p ∈ X.pn ++ pins, p.1 ≠ it) : Inv X pins σ H { s with heap := h', toks := t' } := by
 have nit : ∀ b u, H b = some u -> b ≠ it := λb u e z => by rw [z, hn] at e; cases e
 refine I.step (g' := s.gens) (d' := s.drawn) (ch := [it]) (λb hb => ?_) (λb o _ _ hc e _ => k b o (λz => hc (by simp [z])) e) (λb o _ _ hc e _ => ⟨o.slots, k b o (λz => hc (by simp [z])) e⟩) (λ_ _ _ _ n => n)
  (λb o hc e => ⟨o, k b o (λz => hc (by simp [z])) e⟩) (λ_ _ e => e) (λ_ _ _ e => e) (λb ps e => ⟨#[], by rw [e]; simp⟩) (λm hm => ?_) (λb u e => ?_) I.bare
 ·have e : b = it := by simpa using hb
  subst e
  exact ⟨h1, hL, h2, h3⟩
 ·obtain ⟨o, es, ep, ho, r⟩ := hm
  exact ⟨o, es, ep, k _ o (Ne.symm hL) ho, r⟩
 ·refine (I.hok b u e).stay (λc v hc q => k c v ?_ q) (λ_ q => q) λ_ _ q => q
  rcases hc with z | z
  ·rw [z]; exact nit b u e
  ·exact nit c _ z
theorem Inv.tok (I : Inv X pins σ H s) (t : Nat) : Inv X pins σ H { s with toks := t } := I.un (h' := s.heap) (t' := t) Un.refl I.hok
theorem Inv.kept {t' : Nat} (I : Inv X pins σ H s) (k : ∀ b u, s.heap.get? b = some u -> h'.get? b = some u) : Inv X pins σ H { s with heap := h', toks := t' } := I.un (Un.kept k) (I.hok.kept k)
theorem Inv.laid {a : Addr} {o : HO} {t' : Nat} (I : Inv X pins σ H s) (k : ∀ b u, s.heap.get? b = some u -> h'.get? b = some u) (hp : s.heap.objs.size <= a) (new : adv X.prog X.w (upd H a o) h' a o) :
  Inv X pins σ (upd H a o) { s with heap := h', toks := t' } := I.un (Un.laid k hp (I.hok.fresh hp)) (I.hok.laid k hp new)
theorem Inv.write {x e : Addr} {o : HO} {t' : Nat} (I : Inv X pins σ H s) (mu : Mut (H x)) (he : e = x \/ H e = some (.own x)) (k : ∀ b u, b ≠ e -> s.heap.get? b = some u -> h'.get? b = some u) (heo : ∃ u, h'.get? e = some u)
  (new : adv X.prog X.w (upd H x o) h' x o) : Inv X pins σ (upd H x o) { s with heap := h', toks := t' } := I.un (Un.write mu he k heo) (I.hok.write mu he k heo new)
theorem Inv.ajR {apd : List (Addr × Obj)} (I : Inv X pins σ H s) (h : ∀ p ∈ apd, s.heap.get? p.1 = some p.2 /\ H p.1 = none /\ p.1 ≠ X.env.locals /\ p.1 ∉ X.fs /\ ∀ v, p.2.data ≠ .cell v) : Inv X apd σ H s :=
 ⟨I.ok, I.os, I.bare, I.base, I.loc, I.cell, I.free, I.ad5, λp hp => (List.mem_append.mp hp).elim (λz => I.pin p (List.mem_append_left _ z)) (h p), I.hok, I.len⟩
theorem afL {N : List Str} (hN : N.Nodup) {i j : Nat} {x : Str} (a : N[i]? = some x) (b : N[j]? = some x) : i = j := by
 obtain ⟨h1, e1⟩ := List.getElem?_eq_some_iff.mp a
 obtain ⟨h2, e2⟩ := List.getElem?_eq_some_iff.mp b
 exact (List.getElem_inj hN).mp (e1.trans e2.symm)
theorem agy {M : Model} {A : Around} {E : Value -> Shared -> Prop} {i : Nat} {x : Str} {v : V} {u : Value} {Q : Unit -> Shared -> Prop} (I : Inv X pins σ H s) (hN : X.N.Nodup) (hi : X.N[i]? = some x) (hx : Loc X.env.scope x) (r : RelV v u)
  (h : ∀ s', Inv X pins (σ.set i (some v)) H s' -> (∃ a, Heap.SameBut a s.heap s'.heap /\ (a = X.env.locals \/ X.env.cells.lookup x = some a)) -> Q () s') (hf : X.fn x = true \/ X.env.scope.names.lookup x = some .local := by first | exact .inl rfl | exact .inr rfl | assumption) : wpAny M A (storeName X.env x u) Q E s := by
 obtain ⟨m, hn, hl⟩ := id I.loc
 have hcls : (X.env.scope.kind == .class || (X.env.scope.kind == .module && X.env.locals != X.env.globals)) = false := by rw [I.ok.kind]; rfl
 have hiσ : i < σ.length := by rw [I.len]; exact (List.getElem?_eq_some_iff.mp hi).1
 have cne := I.cne
 have tracked : ∀ {a : Addr} {h' : Heap}, (∃ o, s.heap.get? a = some o /\ H a = none) -> Heap.SameBut a s.heap h' -> HOk X.prog X.w H h' := λ{a h'} ha hs b ob e => by
  obtain ⟨_, _, hfree⟩ := ha
  refine (I.hok b ob e).stay (λc w' hc q => (hs.2 c ?_).trans q) (λ_ q => q) λ_ _ q => q
  rintro rfl
  rcases hc with rfl | hc
  ·rw [hfree] at e; cases e
  ·rw [hfree] at hc; cases hc
 rcases hx with hk | hk
 ·refine wpAny_storeName_local hk hn (λh' hn' hs => ?_) hcls
  obtain ⟨oL, _, _, hoL, _⟩ := id hn
  refine h _ ⟨I.ok, I.os, I.bare, ⟨λb o e n hb hx => ?_, λb o e n hb hx => ?_, I.base.free, λb o e hx => ?_, I.base.tups, I.base.aif, I.base.aii⟩, ⟨_, hn', λj y v' e1 e2 e3 => ?_⟩, λy c e => ?_, I.free, I.ad5, λp hp => ?_, tracked ⟨oL, hoL, I.free⟩ hs, by simpa using I.len⟩ ⟨_, hs, .inl rfl⟩
  ·exact (hs.2 b (Nat.ne_of_lt (Nat.lt_of_lt_of_le (Heap.lt_size e) I.ok.above))).trans (I.base.keep b o e n hb hx)
  ·obtain ⟨sl, e1⟩ := I.base.slot b o e n hb hx
   exact ⟨sl, (hs.2 b (Nat.ne_of_lt (Nat.lt_of_lt_of_le (Heap.lt_size e) I.ok.above))).trans e1⟩
  ·obtain ⟨o', e1⟩ := I.base.there b o e hx
   exact ⟨o', (hs.2 b (Nat.ne_of_lt (Nat.lt_of_lt_of_le (Heap.lt_size e) I.ok.above))).trans e1⟩
  ·by_cases hj : j = i
   ·subst hj
    rw [hi] at e1; cases e1
    rw [List.getElem?_set_self hiσ] at e2
    cases e2
    exact ⟨u, r, .inl ⟨hk, by simp⟩⟩
   ·rw [List.getElem?_set_ne (Ne.symm hj)] at e2
    obtain ⟨u', r', q⟩ := hl j y v' e1 e2 e3
    refine ⟨u', r', ?_⟩
    rcases q with ⟨k, e⟩ | ⟨k, c, e, z⟩
    ·refine .inl ⟨k, ?_⟩
     have : y ≠ x := λe => hj (afL hN e1 (e ▸ hi))
     simp [this, e]
    ·exact .inr ⟨k, c, e, z.sameBut hs (cne y c e)⟩
  ·obtain ⟨w', z⟩ := I.cell y c e
   exact ⟨w', z.sameBut hs (cne y c e)⟩
  ·obtain ⟨e, n, ne, nf, d⟩ := I.pin p hp
   exact ⟨(hs.2 p.1 ne).trans e, n, ne, nf, d⟩
 ·have hfn : X.fn x = true := by
   rcases hf with z | z
   ·exact z
   ·rw [z] at hk; cases hk
  obtain ⟨c, hc⟩ := I.ok.has x (.inl hk)
  obtain ⟨w', z⟩ := I.cell x c hc
  refine wpAny_storeName_cell I.ok.kind hk hc z (λh' hc' hs => ?_)
  obtain ⟨oc, hoc, auR⟩ := id z
  refine h { s with heap := h' } ⟨I.ok, I.os, I.bare, ⟨λb o e n hb hx => ?_, λb o e n hb hx => ?_, I.base.free, λb o e hx => ?_, I.base.tups, I.base.aif, I.base.aii⟩, ⟨m, hn.sameBut hs (Ne.symm (cne x c hc)), λj y v' e1 e2 e3 => ?_⟩, λy c' e => ?_, I.free, I.ad5, λp hp => ?_, tracked ⟨oc, hoc, I.ad5 x c hc⟩ hs, by simpa using I.len⟩ ⟨c, hs, .inr hc⟩
  ·exact (hs.2 b (Nat.ne_of_lt (Nat.lt_of_lt_of_le (Heap.lt_size e) (I.ok.cab x c hfn hc)))).trans (I.base.keep b o e n hb hx)
  ·obtain ⟨sl, e1⟩ := I.base.slot b o e n hb hx
   exact ⟨sl, (hs.2 b (Nat.ne_of_lt (Nat.lt_of_lt_of_le (Heap.lt_size e) (I.ok.cab x c hfn hc)))).trans e1⟩
  ·obtain ⟨o', e1⟩ := I.base.there b o e hx
   exact ⟨o', (hs.2 b (Nat.ne_of_lt (Nat.lt_of_lt_of_le (Heap.lt_size e) (I.ok.cab x c hfn hc)))).trans e1⟩
  ·by_cases hj : j = i
   ·subst hj
    rw [hi] at e1; cases e1
    rw [List.getElem?_set_self hiσ] at e2
    cases e2
    exact ⟨u, r, .inr ⟨.inl hk, c, hc, hc'⟩⟩
   ·rw [List.getElem?_set_ne (Ne.symm hj)] at e2
    obtain ⟨u', r', q⟩ := hl j y v' e1 e2 e3
    refine ⟨u', r', ?_⟩
    rcases q with q | ⟨k, c', e, z'⟩
    ·exact .inl q
    ·refine .inr ⟨k, c', e, z'.sameBut hs ?_⟩
     rintro rfl
     exact hj (afL hN e1 (I.ok.inj _ _ _ e hc ▸ hi))
  ·by_cases hcc : c' = c
   ·subst hcc; exact ⟨_, hc'⟩
   ·obtain ⟨w2, z2⟩ := I.cell y c' e
    exact ⟨w2, z2.sameBut hs hcc⟩
  ·obtain ⟨e, n, ne, nf, d⟩ := I.pin p hp
   refine ⟨(hs.2 p.1 ?_).trans e, n, ne, nf, d⟩
   intro q
   rw [q, hoc] at e
   have q' : oc = p.2 := Option.some.inj e
   exact d w' (by rw [<-q']; exact auR)
theorem adK {M : Model} {A : Around} {E : Value -> Shared -> Prop} {i : Nat} {x : Str} {v : V} {u : Value} {Q : Unit -> Shared -> Prop} (I : Inv X pins σ H s) (hN : X.N.Nodup) (hi : X.N[i]? = some x) (hx : Loc X.env.scope x) (r : RelV v u)
  (h : ∀ s', Inv X pins (σ.set i (some v)) H s' -> Q () s') (hf : X.fn x = true \/ X.env.scope.names.lookup x = some .local := by first | exact .inl rfl | exact .inr rfl | assumption) : wpAny M A (storeName X.env x u) Q E s :=
 agy I hN hi hx r (λs' I' _ => h s' I') hf
theorem Inv.call' {s' : Shared} {ch : List Addr} (I : Inv X pins σ H s) (ho : s'.os = s.os) (u : Un (frs X.stack) ch H H' s.heap s'.heap) (hok : HOk X.prog X.w H' s'.heap) (hg : AllBare s'.gens)
  (hch : ∀ b ∈ ch, (b ∈ X.ex \/ X.s₀.heap.objs.size <= b) /\ b ≠ X.env.locals /\ (∀ x c, X.env.cells.lookup x = some c -> c ≠ b) /\ ∀ p ∈ X.pn ++ pins, p.1 ≠ b) : Inv X pins σ H' s' := by
 obtain ⟨h', g', d', t', o'⟩ := s'
 have e : o' = s.os := ho
 subst e
 exact I.call (g' := g') (t' := t') (d' := d') u hok hg hch
end
noncomputable abbrev XK := Value -> Option Addr -> Hp -> Prop
noncomputable abbrev St := List (Option V)
noncomputable abbrev VK := V -> Hp -> Prop
noncomputable abbrev TE := St -> Hp -> VK -> Prop
noncomputable abbrev TT := St -> Hp -> (Bool -> Hp -> Prop) -> Prop
noncomputable abbrev TA := St -> Hp -> (List V -> Hp -> Prop) -> Prop
structure Ends where
 nx : St -> Hp -> Prop
 rt : VK
 bk : St -> Hp -> Prop := λ_ _ => False
 ct : St -> Hp -> Prop := λ_ _ => False
noncomputable abbrev TS := Ends -> St -> Hp -> Prop
noncomputable def EP (X : Cx) (pins : List (Addr × Obj)) (σ : St) (Q : VK) (u : Value) (s' : Shared) : Prop := ∃ v H', Inv X pins σ H' s' /\ RelV v u /\ Q v H'
noncomputable def TP (X : Cx) (pins : List (Addr × Obj)) (σ : St) (Q : Bool -> Hp -> Prop) (b : Bool) (s' : Shared) : Prop := ∃ H', Inv X pins σ H' s' /\ Q b H'
noncomputable def AP (X : Cx) (pins : List (Addr × Obj)) (σ : St) (Q : List V -> Hp -> Prop) (us : List Value) (s' : Shared) : Prop := ∃ vs H', Inv X pins σ H' s' /\ Vals vs us /\ Q vs H'
noncomputable def SP (X : Cx) (pins : List (Addr × Obj)) (D : Ends) (f : Flow) (s' : Shared) : Prop :=
 match f with
 | .next => ∃ σ' H', Inv X pins σ' H' s' /\ D.nx σ' H'
 | .brk => ∃ σ' H', Inv X pins σ' H' s' /\ D.bk σ' H'
 | .cont => ∃ σ' H', Inv X pins σ' H' s' /\ D.ct σ' H'
 | .ret u => ∃ v σ' H', Inv X pins σ' H' s' /\ RelV v u /\ D.rt v H'
noncomputable def PE (X : Cx) (e : Expr) (t : TE) : Prop :=
 ∀ (pins : List (Addr × Obj)) (s : Shared) (σ : St) (H : Hp) (Q : VK), Inv X pins σ H s -> t σ H Q -> wpAny (model X.prog X.w) X.A (eval e X.env) (EP X pins σ Q) X.xe s
noncomputable def PT (X : Cx) (e : Expr) (t : TT) : Prop :=
 ∀ (pins : List (Addr × Obj)) (s : Shared) (σ : St) (H : Hp) (Q : Bool -> Hp -> Prop), Inv X pins σ H s -> t σ H Q -> wpAny (model X.prog X.w) X.A (isTrue e X.env (eval e X.env)) (TP X pins σ Q) X.xe s
noncomputable def PW (X : Cx) (e : Expr) (t : TT) : Prop :=
 ∀ (whole : Sem Value) (pins : List (Addr × Obj)) (s : Shared) (σ : St) (H : Hp) (Q : Bool -> Hp -> Prop), Inv X pins σ H s -> t σ H Q -> wpAny (model X.prog X.w) X.A (isTrue e X.env whole) (TP X pins σ Q) X.xe s
theorem PW.pt {X : Cx} {e : Expr} {t : TT} (h : PW X e t) : PT X e t := h _
noncomputable def PA (X : Cx) (es : List Expr) (t : TA) : Prop :=
 ∀ (pos : Pos) (pins : List (Addr × Obj)) (s : Shared) (σ : St) (H : Hp) (Q : List V -> Hp -> Prop), Inv X pins σ H s -> t σ H Q -> wpAny (model X.prog X.w) X.A (spliced (backTo pos (starEach es X.env))) (AP X pins σ Q) X.xe s
noncomputable def PS (X : Cx) (st : Stmt) (t : TS) : Prop :=
 ∀ (pins : List (Addr × Obj)) (s : Shared) (σ : St) (H : Hp) (D : Ends), Inv X pins σ H s -> t D σ H -> wpAny (model X.prog X.w) X.A (exec st X.env) (SP X pins D) X.xe s
noncomputable def PSs (X : Cx) (st : List Stmt) (t : TS) : Prop :=
 ∀ (pins : List (Addr × Obj)) (s : Shared) (σ : St) (H : Hp) (D : Ends), Inv X pins σ H s -> t D σ H -> wpAny (model X.prog X.w) X.A (execs st X.env) (SP X pins D) X.xe s
theorem thn {α : Type} {t : Sem α} {Q Q' : α -> Shared -> Prop} {M : Model} {A : Around} {E : Value -> Shared -> Prop} {s : Shared} (h : wpAny M A t Q E s) (hQ : ∀ a s, Q a s -> Q' a s) : wpAny M A t Q' E s := wpAny_mono h hQ λ_ _ x => x
end L2
namespace L2
open PySem PySem.Spec PyProof.Rows
section
variable {X : Cx}
noncomputable def anp (i : Nat) : TE := λσ H Q => ∃ v, σ[i]? = some (some v) /\ Q v H
noncomputable def tC (v : V) : TE := λ_ H Q => Q v H
theorem amM {i : Nat} {x : Str} {pos : Pos} (hN : X.N[i]? = some x) (hv : Vis X.env.scope x) (hd : (x == ("__debug__" : Str)) = false := by decide) (hcd : (x == ("__classdict__" : Str)) = false := by decide) : PE X (.Name x pos) (anp i) := by
 intro pins s σ H Q I h
 obtain ⟨v, e, h⟩ := h
 obtain ⟨m, hn, hl⟩ := I.loc
 obtain ⟨u, r, l⟩ := hl i x v hN e hv
 have fin : EP X pins σ Q u s := ⟨v, H, I, r, h⟩
 rcases l with ⟨hk, hm⟩ | ⟨hk, c, hc, hcell⟩
 ·exact wpAny_Name (wpAny_loadName_local I.ok.kind hk hn hm fin) hd
 ·rcases hk with hk | hk
  ·exact wpAny_Name (wpAny_loadName_cell I.ok.kind hk hc hcell fin) hd
  ·exact wpAny_Name (wpAny_loadName_free I.ok.kind hk hc hcell fin hcd) hd
theorem aan {i j pos} : PE X (.Constant (.int i) j pos) (tC (.int i)) := λ_ _ _ H _ I h => wpAny_Constant_int ⟨.int i, H, I.tok _, ⟨_, rfl⟩, h⟩
theorem afM {b j pos} : PE X (.Constant (.bool b) j pos) (tC (.bl b)) := λ_ _ _ H _ I h => Constant_bool ⟨.bl b, H, I, rfl, h⟩
theorem aij {j pos} : PE X (.Constant .none j pos) (tC .non) := λ_ _ _ H _ I h => Constant_none ⟨.non, H, I, rfl, h⟩
theorem ajS {x j pos} : PE X (.Constant (.str x) j pos) (tC (.str x)) := λ_ _ _ H _ I h => Calls.Constant_str ⟨.str x, H, I.tok _, ⟨_, rfl⟩, h⟩
noncomputable def Gl (X : Cx) (x : Str) : Prop := X.env.kindOf x = some .globalImplicit
theorem aeW {E : Value -> Shared -> Prop} {pins : List (Addr × Obj)} {s : Shared} {σ : St} {H : Hp} {x : Str} {u : Value} {pos : Pos} {Q : Value -> Shared -> Prop} (I : Inv X pins σ H s) (hg : Gl X x) (hm : X.mg x = some u) (h : Q u s)
  (hd : (x == ("__debug__" : Str)) = false := by decide) : wpAny (model X.prog X.w) X.A (eval (.Name x pos) X.env) Q E s :=
 Calls.Name_function_global I.ok.kind hg (Calls.loadGlobal_global (by rw [I.ok.glob]; exact I.mod.glob.keeps I.bk) hm h) hd
theorem aft {E : Value -> Shared -> Prop} {pins : List (Addr × Obj)} {s : Shared} {σ : St} {H : Hp} {x : Str} {u : Value} {pos : Pos} {Q : Value -> Shared -> Prop} (I : Inv X pins σ H s) (hg : Gl X x) (hm : X.mg x = none) (hv : bootBuiltins x = some u) (h : Q u s)
  (hn : x ≠ "__name__" := by decide) (hd : (x == ("__debug__" : Str)) = false := by decide) : wpAny (model X.prog X.w) X.A (eval (.Name x pos) X.env) Q E s := by
 obtain ⟨mb, h1, h2⟩ := I.mod.blt
 exact Calls.Name_function_global I.ok.kind hg (Calls.loadGlobal_builtin (by rw [I.ok.glob]; exact I.mod.glob.keeps I.bk) hm (by rw [I.ok.blt]; exact h1.keeps I.bk) ((h2 x hn).trans hv) h) hd
theorem ajT {x : Str} {v : V} {u : Value} {pos : Pos} (hg : Gl X x) (hm : X.mg x = some u) (r : RelV v u) (hd : (x == ("__debug__" : Str)) = false := by decide) : PE X (.Name x pos) (tC v) :=
 λ_ _ _ H _ I h => aeW I hg hm ⟨v, H, I, r, h⟩ hd
theorem ajU {x : Str} {v : V} {u : Value} {pos : Pos} (hg : Gl X x) (hm : X.mg x = none) (hv : bootBuiltins x = some u) (r : RelV v u) (hn : x ≠ "__name__" := by decide) (hd : (x == ("__debug__" : Str)) = false := by decide) : PE X (.Name x pos) (tC v) :=
 λ_ _ _ H _ I h => aft I hg hm hv ⟨v, H, I, r, h⟩ hn hd
variable {a b : Expr} {ta tb : TE} {pos : Pos}
variable {tA tB' : TT} {rest : List Expr}
noncomputable def atX (t u : TT) : TT := λσ H Q => t σ H λc H1 => if c = true then u σ H1 Q else Q false H1
noncomputable def tOr (t u : TT) : TT := λσ H Q => t σ H λc H1 => if c = true then Q true H1 else u σ H1 Q
noncomputable def atY (t : TT) : TT := λσ H Q => t σ H λc H1 => Q (!c) H1
theorem ajV (ha : PT X a tA) : PW X (.BoolOp .And [a] pos) tA := by
 intro wh pins s σ H Q I h
 refine isTrue_and (thn (ha pins s σ H Q I h) λc s1 e => ?_)
 cases c with
 | true => exact isTrue_and_nil e
 | false => exact e
theorem agz (ha : PT X a tA) : PW X (.BoolOp .Or [a] pos) tA := by
 intro wh pins s σ H Q I h
 refine isTrue_or (thn (ha pins s σ H Q I h) λc s1 e => ?_)
 cases c with
 | false => exact isTrue_or_nil e
 | true => exact e
theorem amN (ha : PT X a tA) (hb : PW X (.BoolOp .And (b :: rest) pos) tB') : PW X (.BoolOp .And (a :: b :: rest) pos) (atX tA tB') := by
 intro wh pins s σ H Q I h
 refine isTrue_and (thn (ha pins s σ H _ I h) λc s1 ⟨H1, I1, q1⟩ => ?_)
 cases c with
 | true => exact hb wh pins s1 σ H1 Q I1 q1
 | false => exact ⟨H1, I1, q1⟩
theorem ajW (ha : PT X a tA) (hb : PW X (.BoolOp .Or (b :: rest) pos) tB') : PW X (.BoolOp .Or (a :: b :: rest) pos) (tOr tA tB') := by
 intro wh pins s σ H Q I h
 refine isTrue_or (thn (ha pins s σ H _ I h) λc s1 ⟨H1, I1, q1⟩ => ?_)
 cases c with
 | true => exact ⟨H1, I1, q1⟩
 | false => exact hb wh pins s1 σ H1 Q I1 q1
theorem acW (ha : PT X a tA) : PT X (.UnaryOp .Not a pos) (atY tA) := by
 intro pins s σ H Q I h
 exact isTrue_not (ha pins s σ H (λc H1 => Q (!c) H1) I h)
noncomputable def ape (ta tb : TE) : TE := λσ H Q => ta σ H λx H1 => ∃ c, x = .bl c /\ if c = true then tb σ H1 Q else Q (.bl false) H1
noncomputable def apf (ta : TE) : TE := λσ H Q => ta σ H λx H1 => ∃ c, x = .bl c /\ Q (.bl (!c)) H1
theorem aik {op} {t : TE} (h : PE X a t) : PE X (.BoolOp op [a] pos) t := λpins s σ H Q I hw => BoolOp_one (h pins s σ H Q I hw)
theorem ail (ha : PE X a ta) (hb : PE X (.BoolOp .And (b :: rest) pos) tb) : PE X (.BoolOp .And (a :: b :: rest) pos) (ape ta tb) := by
 intro pins s σ H Q I h
 refine BoolOp_and (thn (ha pins s σ H _ I h) λv s1 ⟨x, H1, I1, r1, q1⟩ => ?_)
 obtain ⟨c, rfl, q1⟩ := q1
 cases r1
 refine wpAny_truthy_bool ?_
 cases c with
 | true => exact hb pins s1 σ H1 Q I1 q1
 | false => exact ⟨.bl false, H1, I1, rfl, q1⟩
theorem apg (ha : PE X a ta) : PE X (.UnaryOp .Not a pos) (apf ta) := by
 intro pins s σ H Q I h
 refine UnaryOp_ (thn (ha pins s σ H _ I h) λv s1 ⟨x, H1, I1, r1, q1⟩ => ?_)
 obtain ⟨c, rfl, q1⟩ := q1
 cases r1
 exact not_of (wpAny_truthy_bool ⟨.bl (!c), H1, I1, rfl, q1⟩)
end
end L2
namespace L2
open PySem PySem.Spec PyProof.Rows
noncomputable def SqL (K : PySem.W.Frag) (H : Hp) (a : Addr) (xs : List V) : Prop :=
 Rd H a (.lst xs) \/
  ∃ (o : Obj) (its : Array Value) (n : Nat), K.lookup a = some o /\ o.cls = .type "list" /\ o.dict = none /\ o.data = .seq its n /\ its.size <= sizeLine /\ Vals xs its.toList
noncomputable def SqT (K : PySem.W.Frag) (H : Hp) (a : Addr) (xs : List V) : Prop :=
 Rd H a (.tup xs) \/
  ∃ (o : Obj) (its : Array Value) (n : Nat), K.lookup a = some o /\ o.cls = .type "tuple" /\ o.data = .seq its n /\ its.size <= sizeLine /\ Vals xs its.toList
noncomputable def auS : Value -> Option V
 | .none => some .non
 | .bool b => some (.bl b)
 | .int i _ => some (.int i)
 | .str x _ => some (.str x)
 | .bytes b _ => some (.byt b)
 | .float b _ => some (.flt b)
 | .ref a => some (.ref a)
 | .type n => some (.ty n)
 | _ => none
theorem RelV.abs {x : V} {u : Value} (r : RelV x u) : auS u = some x := by
 cases x with
 | non => cases r; rfl
 | bl _ => cases r; rfl
 | int _ => obtain ⟨t, rfl⟩ := r; rfl
 | str _ => obtain ⟨t, rfl⟩ := r; rfl
 | byt _ => obtain ⟨t, rfl⟩ := r; rfl
 | flt _ => obtain ⟨t, rfl⟩ := r; rfl
 | ref _ => cases r; rfl
 | ty _ => cases r; rfl
theorem RelV.inj {x y : V} {u : Value} (r : RelV x u) (q : RelV y u) : x = y := Option.some.inj (r.abs.symm.trans q.abs)
theorem Vals.inj : ∀ {xs ys : List V} {us : List Value}, Vals xs us -> Vals ys us -> xs = ys
 | _, _, _, .nil, .nil => rfl
 | _, _, _, .cons r t, .cons r' t' => by rw [r.inj r', Vals.inj t t']
section
variable {X : Cx} {pins : List (Addr × Obj)} {σ : St} {H : Hp} {s : Shared} {a : Addr} {xs ys : List V}
theorem SqL.of {K : PySem.W.Frag} (h : H a = some (.lst xs)) : SqL K H a xs := .inl (.inl h)
theorem SqT.of {K : PySem.W.Frag} (h : H a = some (.tup xs)) : SqT K H a xs := .inl (.inl h)
theorem Inv.list (I : Inv X pins σ H s) (h : SqL X.K H a xs) : ∃ its : List Value, Vals xs its /\ PlainL s.heap a its.toArray /\ xs.length <= sizeLine := by
 rcases h with h | ⟨o, its, n, hk, hc, hd, hs, hz, r⟩
 ·obtain ⟨z, its, n, r, e⟩ := h.ok I.hok
  exact ⟨its, r, ⟨_, n, e, rfl, rfl, rfl⟩, z⟩
 ·refine ⟨its.toList, r, ⟨o, n, I.kIn a o hk, hc, hd, by simpa using hs⟩, ?_⟩
  have e := r.length
  simp only [Array.length_toList] at e
  omega
theorem Inv.tuple (I : Inv X pins σ H s) (h : SqT X.K H a xs) : ∃ its : List Value, Vals xs its /\ IsTup s.heap a its.toArray /\ xs.length <= sizeLine := by
 rcases h with h | ⟨o, its, n, hk, hc, hs, hz, r⟩
 ·obtain ⟨z, its, r, p⟩ := h.ok I.hok
  exact ⟨its, r, p, z⟩
 ·refine ⟨its.toList, r, ⟨o, I.kIn a o hk, hc, n, by simpa using hs⟩, ?_⟩
  have e := r.length
  simp only [Array.length_toList] at e
  omega
theorem Inv.ain (I : Inv X pins σ H s) (h : SqL X.K H a xs) (h' : SqL X.K H a ys) : xs = ys := by
 obtain ⟨its, r, ⟨o, n, e, _, _, d⟩, _⟩ := I.list h
 obtain ⟨its', r', ⟨o', n', e', _, _, d'⟩, _⟩ := I.list h'
 rw [e] at e'; cases e'
 rw [d] at d'
 injection d' with d1 _
 have : its = its' := by simpa using congrArg Array.toList d1
 subst this
 exact r.inj r'
theorem Inv.agA (I : Inv X pins σ H s) (h : SqT X.K H a xs) (h' : SqT X.K H a ys) : xs = ys := by
 obtain ⟨its, r, ⟨o, e, _, n, d⟩, _⟩ := I.tuple h
 obtain ⟨its', r', ⟨o', e', _, n', d'⟩, _⟩ := I.tuple h'
 rw [e] at e'; cases e'
 rw [d] at d'
 injection d' with d1 _
 have : its = its' := by simpa using congrArg Array.toList d1
 subst this
 exact r.inj r'
end
noncomputable abbrev Cx.wish (X : Cx) (E : Value -> Shared -> Prop) : Cx := { X with xe := E }
noncomputable abbrev Cx.nox (X : Cx) : Cx := X.wish λ_ _ => False
theorem Cx.Ok.wish {X : Cx} (ok : X.Ok) (E : Value -> Shared -> Prop) : (X.wish E).Ok :=
 ⟨ok.mod, ok.kind, ok.glob, ok.blt, ok.above, ok.inj, ok.has, ok.cab, ok.hd, ok.frames, ok.stk, ok.exf, ok.bs, ok.bsz, ok.aho, ok.apc, ok.aiZ, ok.frf⟩
theorem Cx.Ok.ac3 {X : Cx} {E : Value -> Shared -> Prop} (ok : (X.wish E).Ok) : X.Ok :=
 ⟨ok.mod, ok.kind, ok.glob, ok.blt, ok.above, ok.inj, ok.has, ok.cab, ok.hd, ok.frames, ok.stk, ok.exf, ok.bs, ok.bsz, ok.aho, ok.apc, ok.aiZ, ok.frf⟩
section
variable {X : Cx} {pins : List (Addr × Obj)} {σ : St} {H : Hp} {s : Shared} {E : Value -> Shared -> Prop}
theorem Inv.wish (I : Inv X pins σ H s) (E : Value -> Shared -> Prop) : Inv (X.wish E) pins σ H s := ⟨I.ok.wish E, I.os, I.bare, I.base, I.loc, I.cell, I.free, I.ad5, I.pin, I.hok, I.len⟩
theorem Inv.ac3 (I : Inv (X.wish E) pins σ H s) : Inv X pins σ H s := ⟨I.ok.ac3, I.os, I.bare, I.base, I.loc, I.cell, I.free, I.ad5, I.pin, I.hok, I.len⟩
theorem SP.ac3 {D : Ends} {f : Flow} {s' : Shared} (h : SP (X.wish E) pins D f s') : SP X pins D f s' := by
 cases f with
 | next => obtain ⟨σ', H', I, q⟩ := h; exact ⟨σ', H', I.ac3, q⟩
 | brk => obtain ⟨σ', H', I, q⟩ := h; exact ⟨σ', H', I.ac3, q⟩
 | cont => obtain ⟨σ', H', I, q⟩ := h; exact ⟨σ', H', I.ac3, q⟩
 | ret u => obtain ⟨v, σ', H', I, r, q⟩ := h; exact ⟨v, σ', H', I.ac3, r, q⟩
end
section
variable {X : Cx} {st : Stmt} {rest : List Stmt} {t u : TS} {e : Expr} {te : TE} {pos : Pos}
noncomputable def aph : TS := λD σ H => D.nx σ H
noncomputable def atZ (t u : TS) : TS := λD σ H => t { D with nx := u D } σ H
theorem abC : PSs X [] aph := λ_ _ σ H _ I h => wpAny_execs_nil ⟨σ, H, I, h⟩
theorem aai (h1 : PS X st t) (h2 : PSs X rest u) : PSs X (st :: rest) (atZ t u) := by
 intro pins s σ H D I h
 refine wpAny_execs_cons (thn (h1 pins s σ H { D with nx := u D } I h) λf s1 q => ?_)
 cases f with
 | next =>
  obtain ⟨σ', H', I', q⟩ := q
  exact h2 pins s1 σ' H' D I' q
 | ret v => exact q
 | brk => exact q
 | cont => exact q
theorem aat (h1 : PS X st t) : PSs X [st] t := by
 intro pins s σ H D I h
 refine wpAny_execs_cons (thn (h1 pins s σ H D I h) λf s1 q => ?_)
 cases f with
 | next => exact wpAny_execs_nil q
 | ret v => exact q
 | brk => exact q
 | cont => exact q
theorem Inv.quiet {pins : List (Addr × Obj)} {σ : St} {H : Hp} {s : Shared} (I : Inv X pins σ H s) : interactive X.env = false := by simp [interactive, I.ok.kind]
noncomputable def anq (te : TE) : TS := λD σ H => te σ H λ_ H1 => D.nx σ H1
theorem anr (he : PE X e te) (hs : swapsWith e none pos.line X.env = pure false := by rfl) : PS X (.Expr e pos) (anq te) := by
 intro pins s σ H D I h
 exact wpAny_Expr_any (thn (he pins s σ H _ I h) λv s1 ⟨x, H1, I1, r1, q1⟩ => ⟨σ, H1, I1, q1⟩) I.quiet hs
noncomputable def at3 (te : TE) : TS := λD σ H => te σ H D.rt
theorem aaS (he : PE X e te) : PS X (.Return (some e) pos) (at3 te) := by
 intro pins s σ H D I h
 exact wpAny_Return_some (thn (he pins s σ H _ I h) λv s1 ⟨x, H1, I1, r1, q1⟩ => ⟨x, σ, H1, I1, r1, q1⟩)
noncomputable def at4 (c : TT) (t u : TS) : TS := λD σ H => c σ H λb H1 => if b = true then t D σ H1 else u D σ H1
theorem ady {c : Expr} {a b : List Stmt} {tc : TT} (hc : PT X c tc) (ha : PSs X a t) (hb : PSs X b u) : PS X (.If c a b pos) (at4 tc t u) := by
 intro pins s σ H D I h
 refine wpAny_If (thn (hc pins s σ H _ I h) λd s1 ⟨H1, I1, q1⟩ => ?_)
 cases d with
 | true => exact ha pins s1 σ H1 D I1 q1
 | false => exact hb pins s1 σ H1 D I1 q1
end
noncomputable abbrev TG := V -> St -> Hp -> (St -> Hp -> Prop) -> Prop
noncomputable abbrev TGs := List V -> St -> Hp -> (St -> Hp -> Prop) -> Prop
noncomputable def PG (X : Cx) (target : Expr) (t : TG) : Prop :=
 ∀ (pins : List (Addr × Obj)) (s : Shared) (σ : St) (H : Hp) (v : V) (u : Value) (Q : St -> Hp -> Prop), Inv X pins σ H s -> RelV v u -> t v σ H Q ->
  wpAny (model X.prog X.w) X.A (assign target X.env u) (λ_ s' => ∃ σ' H', Inv X pins σ' H' s' /\ Q σ' H') X.xe s
noncomputable def PGs (X : Cx) (ts : List Expr) (t : TGs) : Prop :=
 ∀ (pins : List (Addr × Obj)) (s : Shared) (σ : St) (H : Hp) (vs : List V) (us : List Value) (Q : St -> Hp -> Prop), Inv X pins σ H s -> Vals vs us -> t vs σ H Q ->
  wpAny (model X.prog X.w) X.A (assignInOrder ((assignEach ts X.env).map (·.2)) us) (λ_ s' => ∃ σ' H', Inv X pins σ' H' s' /\ Q σ' H') X.xe s
noncomputable abbrev arT := V -> V -> V -> Hp -> (Hp -> Prop) -> Prop
noncomputable def at5 (X : Cx) (t : arT) : Prop :=
 ∀ (pins : List (Addr × Obj)) (s : Shared) (σ : St) (H : Hp) (o i v : V) (ov iv u : Value) (Q : Hp -> Prop), Inv X pins σ H s -> RelV o ov -> RelV i iv -> RelV v u -> t o i v H Q ->
  wpAny (model X.prog X.w) X.A (setItem ov iv u) (λ_ s' => ∃ H', Inv X pins σ H' s' /\ Q H') X.xe s
section
variable {X : Cx} {pos : Pos}
noncomputable def acz (i : Nat) : TG := λv σ H Q => Q (σ.set i (some v)) H
theorem ajX {i : Nat} {x : Str} (hN : X.N.Nodup) (hi : X.N[i]? = some x) (hx : Loc X.env.scope x) (hf : X.fn x = true \/ X.env.scope.names.lookup x = some .local := by first | exact .inl rfl | exact .inr rfl | assumption) : PG X (.Name x pos) (acz i) := by
 intro pins s σ H v u Q I r h
 exact wpAny_assign_Name (adK I hN hi hx r (λs' I' => ⟨_, H, I', h⟩) hf)
noncomputable def at6 : TGs := λvs σ H Q => vs = [] /\ Q σ H
noncomputable def apj (t : TG) (u : TGs) : TGs := λvs σ H Q => ∃ v r, vs = v :: r /\ t v σ H λσ' H' => u r σ' H' Q
theorem ajY : PGs X [] at6 := by
 intro pins s σ H vs us Q I r h
 obtain ⟨e, h⟩ := h
 subst e
 cases r
 exact assignInOrder_nil ⟨σ, H, I, h⟩
theorem aeL {e : Expr} {es : List Expr} {t : TG} {u : TGs} (h1 : PG X e t) (h2 : PGs X es u)
  (hs : (assignEach (e :: es) X.env).map (·.2) = assign e X.env :: (assignEach es X.env).map (·.2) := by rfl) : PGs X (e :: es) (apj t u) := by
 intro pins s σ H vs us Q I r h
 obtain ⟨v, vr, e1, h⟩ := h
 subst e1
 cases r with
 | cons r rr =>
  rw [hs]
  refine assignInOrder_cons (thn (h1 pins s σ H _ _ _ I r h) λ_ s1 ⟨σ1, H1, I1, q1⟩ => ?_)
  exact h2 pins s1 σ1 H1 _ _ Q I1 rr q1
noncomputable def at7 (K : PySem.W.Frag) (n : Nat) (t : TGs) : TG := λv σ H Q => ∃ a xs, v = .ref a /\ SqT K H a xs /\ xs.length = n /\ t xs σ H Q
theorem amO {es : List Expr} {k : Nat} {t : TGs} {n : Nat} (hc : X.calm = true) (h : PGs X es t)
  (hn : (assignEach es X.env).length = n := by rfl) (hst : (assignEach es X.env).findIdx? (·.1) = none := by rfl) : PG X (.Tuple es k pos) (at7 X.K n t) := by
 intro pins s σ H v u Q I r hw
 obtain ⟨a, xs, e1, hq, hl, hw⟩ := hw
 subst e1
 cases r
 obtain ⟨its, rv, ht, hz⟩ := I.tuple hq
 refine assign_Tuple_tuple (I.ok.hd hc) ht (by simp [hn, <-hl, rv.length]) hst λh' hx => ?_
 have I1 : Inv X pins σ H { s with heap := h' } := I.kept (t' := s.toks) λb o e => hx b o (Nat.ne_of_lt (Heap.lt_size e)) e
 exact h pins _ σ H xs _ Q I1 (by simpa using rv) hw
noncomputable def at8 (to ti : TE) (t : arT) : TG := λv σ H Q => to σ H λo H1 => ti σ H1 λi H2 => t o i v H2 λH3 => Q σ H3
theorem apk {o i : Expr} {to ti : TE} {t : arT} (ho : PE X o to) (hi : PE X i ti) (hs : at5 X t)
  (ha : ∀ v, assign (.Subscript o i pos) X.env v = (do
   let ov <-holding [v] (eval o X.env)
   let iv <-holding [v, ov] (eval i X.env)
   standAt pos
   holding [v, ov, iv] (setItem ov iv v)
   release [v, ov, iv] []) := by intro _; rfl) : PG X (.Subscript o i pos) (at8 to ti t) := by
 intro pins s σ H v u Q I r h
 rw [ha]
 refine wpAny_bind (wpAny_holding (thn (ho pins s σ H _ I h) λov s1 ⟨x, H1, I1, r1, q1⟩ => ?_))
 refine wpAny_bind (wpAny_holding (thn (hi pins s1 σ H1 _ I1 q1) λiv s2 ⟨y, H2, I2, r2, q2⟩ => ?_))
 refine wpAny_bind (wpAny_standAt (wpAny_bind (wpAny_holding (thn (hs pins s2 σ H2 x y v ov iv u _ I2 r1 r2 r q2) λ_ s3 ⟨H3, I3, q3⟩ => ?_))))
 exact wpAny_release ⟨σ, H3, I3, q3⟩
noncomputable def amP (te : TE) (g : TG) : TS := λD σ H => te σ H λx H1 => g x σ H1 D.nx
theorem ajZ {tg e : Expr} {te : TE} {g : TG} (he : PE X e te) (hg : PG X tg g) (hs : swapsWithSole [tg] e pos.line X.env = pure false := by rfl) (hw : swappedStores [tg] e X.env = pure none := by rfl)
  (h1 : (assignEach [tg] X.env).map (·.2) = [assign tg X.env] := by rfl) : PS X (.Assign [tg] e pos) (amP te g) := by
 intro pins s σ H D I h
 refine wpAny_Assign_stores (thn (he pins s σ H _ I h) λv s1 ⟨x, H1, I1, r1, q1⟩ => ?_) hs hw
 rw [h1]
 exact thn (hg pins s1 σ H1 x v _ I1 r1 q1) λ_ s2 q => q
theorem amQ {i : Nat} {x : Str} {e : Expr} {te : TE} {pos' : Pos} (hN : X.N.Nodup) (hi : X.N[i]? = some x) (hx : Loc X.env.scope x) (he : PE X e te) (hs : swapsWith e (some (.Name x pos')) pos.line X.env = pure false := by rfl) (hf : X.fn x = true \/ X.env.scope.names.lookup x = some .local := by first | exact .inl rfl | exact .inr rfl | assumption) :
  PS X (.Assign [.Name x pos'] e pos) (amP te (acz i)) := by
 intro pins s σ H D I h
 refine wpAny_Assign_Name (thn (he pins s σ H _ I h) λv s1 ⟨y, H1, I1, r1, q1⟩ => ?_) hs
 exact adK I1 hN hi hx r1 (λs2 I2 => ⟨_, H1, I2, q1⟩) hf
noncomputable def at9 (i j : Nat) (ta : TA) : TS := λD σ H => ta σ H λvs H1 => ∃ v w, vs = [v, w] /\ D.nx ((σ.set i (some v)).set j (some w)) H1
theorem amR {i j : Nat} {x y : Str} {a b : Expr} {ta : TA} {px py pt : Pos} {kt k2 pt2} (hc : X.calm = true) (hN : X.N.Nodup) (hi : X.N[i]? = some x) (hj : X.N[j]? = some y) (hij : i ≠ j)
  (hx : X.env.scope.names.lookup x = some .local) (hy : X.env.scope.names.lookup y = some .local) (ha : PA X [a, b] ta)
  (hw : swappedStores [.Tuple [.Name x px, .Name y py] kt pt] (.Tuple [a, b] k2 pt2) X.env = pure (some [x, y]))
  (hs : swapsWithSole [.Tuple [.Name x px, .Name y py] kt pt] (.Tuple [a, b] k2 pt2) pos.line X.env = pure false := by rfl) :
  PS X (.Assign [.Tuple [.Name x px, .Name y py] kt pt] (.Tuple [a, b] k2 pt2) pos) (at9 i j ta) := by
 intro pins s σ H D I h
 rw [exec_Assign_arm]
 refine wpAny_bind (wpAny_standAt ?_)
 rw [hs]
 refine wpAny_bind (wpAny_pure ?_)
 rw [if_neg (by decide)]
 refine wpAny_bind (Tuple_ (thn (ha _ pins s σ H _ I h) λus s1 ⟨vs, H1, I1, r1, q1⟩ => ?_))
 obtain ⟨v, w, e1, q1⟩ := q1
 subst e1
 obtain ⟨u1, u2, rfl, rv, rw'⟩ : ∃ u1 u2, us = [u1, u2] /\ RelV v u1 /\ RelV w u2 := by
  cases r1 with
  | cons p q =>
   cases q with
   | cons p' q' =>
    cases q'
    exact ⟨_, _, rfl, p, p'⟩
 refine wpAny_newObj_type ?_ (by show 2 <= sizeLine; decide)
 have I2 : Inv X pins σ H1 { s1 with heap := s1.heap.push { cls := .type "tuple", data := .seq [u1, u2].toArray } } := I1.kept (t' := s1.toks) λb o e => Heap.get?_push_of_some _ e
 rw [hw]
 refine wpAny_bind (wpAny_pure ?_)
 show wpAny (model X.prog X.w) X.A (do rule "assign.swapped-stores"; let items <-unpackItems (.ref s1.heap.objs.size) 2 none; assignInOrder [λv => bindName X.env y v, λv => bindName X.env x v] items.reverse; pure Flow.next) _ _ _
 refine wpAny_bind (wpAny_rule (wpAny_bind (unpackItems_tuple (items := #[u1, u2]) (I.ok.hd hc) (IsTup.new s1.heap _) λh' hx' => ?_)))
 have I3 := I2.kept (h' := h') (t' := s1.toks) λb o e => hx' b o (Nat.ne_of_lt (Heap.lt_size e)) e
 show wpAny _ _ (assignInOrder [λv => bindName X.env y v, λv => bindName X.env x v] [u2, u1] >>= λ_ => pure Flow.next) _ _ _
 refine wpAny_bind (assignInOrder_cons (wpAny_bindName (adK I3 hN hj (.inl hy) rw' (λs2 I4 => ?_) (.inr hy))))
 refine assignInOrder_cons (wpAny_bindName (adK I4 hN hi (.inl hx) rv (λs3 I5 => assignInOrder_nil (wpAny_pure ?_)) (.inr hx)))
 rw [List.set_comm _ _ (Ne.symm hij)] at I5
 exact ⟨_, H1, I5, q1⟩
end
section
variable {X : Cx} {pos : Pos}
noncomputable def amS (c : TT) (tb : TS) : TS := λD σ H => ∃ W : Nat -> St -> Hp -> Prop, (∃ m, W m σ H) /\ ∀ m σ H, W m σ H ->
 c σ H λb H1 => if b = true then ∃ N : St -> Hp -> Prop, (∀ σ' H', N σ' H' -> ∃ m', m' < m /\ W m' σ' H') /\ tb { D with nx := N, ct := N, bk := D.nx } σ H1 else D.nx σ H1
theorem afN {c : Expr} {body : List Stmt} {tc : TT} {tb : TS} (hp : PassesOwn (model X.prog X.w) X.A X.env X.xe) (hc : PT X c tc) (hb : PSs X body tb) : PS X (.While c body [] pos) (amS tc tb) := by
 intro pins s σ H D I h
 obtain ⟨W, ⟨m0, w0⟩, turn⟩ := h
 refine wpAny_While (codeAny_whileLoop (λn s' => ∃ σ' H', Inv X pins σ' H' s' /\ W n σ' H') ?_ m0 ⟨σ, H, I, w0⟩)
 rintro n s1 ⟨σ1, H1, I1, w1⟩
 refine wpAny_passesOwn hp (thn (hc pins s1 σ1 H1 _ I1 (turn n σ1 H1 w1)) λb s2 ⟨H2, I2, q2⟩ => ?_)
 cases b with
 | true =>
  obtain ⟨N, hN, q2⟩ := q2
  rw [if_pos rfl]
  refine wpAny_passesOwn hp (thn (hb pins s2 σ1 H2 _ I2 q2) λf s3 q3 => ?_)
  cases f with
  | next =>
   obtain ⟨σ3, H3, I3, n3⟩ := q3
   obtain ⟨m', hm, w3⟩ := hN σ3 H3 n3
   exact ⟨m', hm, σ3, H3, I3, w3⟩
  | cont =>
   obtain ⟨σ3, H3, I3, n3⟩ := q3
   obtain ⟨m', hm, w3⟩ := hN σ3 H3 n3
   exact ⟨m', hm, σ3, H3, I3, w3⟩
  | brk => exact q3
  | ret v => exact q3
 | false =>
  rw [if_neg Bool.false_ne_true]
  exact wpAny_execs_nil ⟨σ1, H2, I2, q2⟩
end
structure It where
 go : Nat -> Hp -> Prop
 yld : Nat -> Hp -> V -> Hp -> Prop
 stop : Nat -> Hp -> Prop
noncomputable def aj0 (X : Cx) (pins : List (Addr × Obj)) (H : Hp) (b : Addr) : Prop :=
 H b = none /\ b ≠ X.env.locals /\ b ∉ X.fs /\ (b ∈ X.ex \/ X.s₀.heap.objs.size <= b) /\ (∀ x c, X.env.cells.lookup x = some c -> c ≠ b) /\ ∀ p ∈ X.pn ++ pins, p.1 ≠ b
theorem Inv.arU {X : Cx} {pins : List (Addr × Obj)} {σ : St} {H H' : Hp} {s : Shared} {b : Addr} (I : Inv X pins σ H s) (hb : s.heap.objs.size <= b) (hn : H' b = none) : aj0 X pins H' b := by
 refine ⟨hn, Nat.ne_of_gt (Nat.lt_of_lt_of_le I.lt hb), I.auQ hb, .inr (Nat.le_trans I.sz hb), λx c e z => ?_, λp hp z => ?_⟩
 ·obtain ⟨v, q⟩ := I.cell x c e
  exact absurd (Nat.lt_of_lt_of_le q.lt (by rw [z]; exact hb)) (Nat.lt_irrefl _)
 ·exact absurd (Nat.lt_of_lt_of_le (Heap.lt_size (I.pin p hp).1) (by rw [z]; exact hb)) (Nat.lt_irrefl _)
structure Turn (P : Program) (w : World) (K : PySem.W.Frag) (tg : Expr) (J : It) (fp : List Addr) (it : Addr) (tn : Nat -> Heap -> Prop) : Prop where
 mem : it ∈ fp
 obj : ∀ i h, tn i h -> ∀ b ∈ fp, ∃ o, h.get? b = some o /\ ∀ v, o.data ≠ .cell v
 keep : ∀ i h h', tn i h -> (∀ b ∈ fp, ∀ o, h.get? b = some o -> h'.get? b = some o) -> tn i h'
 item : ∀ (X : Cx), X.prog = P -> X.w = w -> X.K = K -> X.calm = true -> ∀ (i : Nat) (pins : List (Addr × Obj)) (s : Shared) (σ : St) (H : Hp) (E : Value -> Shared -> Prop), Inv X pins σ H s -> (∀ b ∈ fp, aj0 X pins H b) -> tn i s.heap -> J.go i H ->
  wpAny (model P w) X.A (pyNext (.ref it)) (λr s1 => ∃ u, r = some u /\
   wpAny (model P w) X.A (letOwnedTupleGo tg (.ref it) u) (λ_ s2 => ∃ x H', Inv X pins σ H' s2 /\ RelV x u /\ J.yld i H x H' /\ tn (i + 1) s2.heap /\ ∀ b ∈ fp, H' b = none) E s1) E s
 done : ∀ (X : Cx), X.prog = P -> X.w = w -> X.K = K -> X.calm = true -> ∀ (i : Nat) (pins : List (Addr × Obj)) (s : Shared) (σ : St) (H : Hp) (E : Value -> Shared -> Prop), Inv X pins σ H s -> (∀ b ∈ fp, aj0 X pins H b) -> tn i s.heap -> J.stop i H ->
  wpAny (model P w) X.A (pyNext (.ref it)) (λr s1 => r = none /\ Inv X pins σ H s1) E s
 self : ∀ (A : Around) (i : Nat) (s : Shared) (Q : Value -> Shared -> Prop) (E : Value -> Shared -> Prop), tn i s.heap -> Q (.ref it) s -> wpAny (model P w) A (pyIter (.ref it)) Q E s
noncomputable abbrev TI := St -> Hp -> (It -> Hp -> Prop) -> Prop
noncomputable def PIE (X : Cx) (pins : List (Addr × Obj)) (σ : St) (tg : Expr) (R : It -> Hp -> Prop) (itv : Value) (s2 : Shared) : Prop :=
 ∃ (it : Addr) (fp : List Addr) (tn : Nat -> Heap -> Prop) (J : It) (H' : Hp), itv = .ref it /\ Inv X pins σ H' s2 /\ Turn X.prog X.w X.K tg J fp it tn /\ tn 0 s2.heap /\ (∀ b ∈ fp, aj0 X pins H' b) /\ R J H'
noncomputable def PI (X : Cx) (tg iter : Expr) (wi : TI) : Prop :=
 ∀ (pins : List (Addr × Obj)) (s : Shared) (σ : St) (H : Hp) (R : It -> Hp -> Prop), Inv X pins σ H s -> wi σ H R ->
  wpAny (model X.prog X.w) X.A (eval iter X.env) (λv s1 => wpAny (model X.prog X.w) X.A (pyIter v) (PIE X pins σ tg R) X.xe s1) X.xe s
theorem ant {M : Model} {A : Around} {E : Value → Shared → Prop} {s : Shared} {tg : Expr} {it : Addr} {u : Value} {o : Obj} {n : String} {vs : Array Value} {Q : Unit → Shared → Prop} (ho : s.heap.get? it = some o) (hc : o.cls = .type n) (hd : o.data = .fields vs)
    (hn : ["enumerate", "zip", "dict_itemiterator", "dict_reverseitemiterator", "odict_iterator", "itertools.zip_longest", "itertools.pairwise"].contains n = false) (hQ : Q () s) : wpAny M A (letOwnedTupleGo tg (.ref it) u) Q E s := by
  unfold letOwnedTupleGo
  cases tg <;> first
    | exact wpAny_pure hQ
    | (cases u <;> first
        | exact wpAny_pure hQ
        | (refine wpAny_bind (wpAny_load ho ?_)
           rw [hc, hd]
           show wpAny M A (if (["enumerate", "zip", "dict_itemiterator", "dict_reverseitemiterator", "odict_iterator", "itertools.zip_longest", "itertools.pairwise"].contains n && vs[0]? == some (rawInt _)) = true then _ else _) Q E s
           rw [if_neg (by intro h; rw [hn, Bool.false_and] at h; cases h)]
           exact wpAny_pure hQ))
noncomputable def Itl (K : PySem.W.Frag) (a : Addr) : It :=
 ⟨λi H => ∃ xs x, SqL K H a xs /\ xs[i]? = some x, λi H x H' => H' = H /\ ∀ xs, SqL K H a xs -> xs[i]? = some x, λi H => ∃ xs, SqL K H a xs /\ xs.length <= i⟩
noncomputable def Itt (K : PySem.W.Frag) (a : Addr) : It :=
 ⟨λi H => ∃ xs x, SqT K H a xs /\ xs[i]? = some x, λi H x H' => H' = H /\ ∀ xs, SqT K H a xs -> xs[i]? = some x, λi H => ∃ xs, SqT K H a xs /\ xs.length <= i⟩
noncomputable def Itr (lo : Int) (n : Nat) : It := ⟨λi _ => i < n, λi H x H' => H' = H /\ x = .int (lo + i), λi _ => n <= i⟩
theorem aj1 {P : Program} {w : World} {K : PySem.W.Frag} {tg : Expr} (a it : Addr) : Turn P w K tg (Itl K a) [it] it (λi h => h.IsListIter it a i) where
 mem := by simp
 obj := λi h st b hb => by
  have e : b = it := by simpa using hb
  subst e
  obtain ⟨o, e, c, d⟩ := st
  exact ⟨o, e, λv z => by rw [d] at z; cases z⟩
 keep := λi h h' st k => st.at λo e => k it (by simp) o e
 item := by
  intro X hP hw hK hc i pins s σ H E I hf st hg
  subst hP hw hK
  obtain ⟨xs, x, hq, hx⟩ := hg
  obtain ⟨its, rv, p, hz⟩ := I.list hq
  obtain ⟨u, hu, ru⟩ := rv.get hx
  obtain ⟨f0, f1, f2, f3, f4, f5⟩ := hf it (by simp)
  refine wpAny_pyNext_list_item st p.isList (x := u) (by simpa using hu) λh' st' sb => ?_
  have I1 : Inv X pins σ H { s with heap := h' } := I.turned (t' := s.toks) (λb o hb e => (sb.2 b hb).trans e) f0 f1 f3 f4 f5
  obtain ⟨o, e, c, d⟩ := id st'
  exact ⟨u, rfl, ant (s := { s with heap := h' }) e c d (by decide) ⟨x, H, I1, ru, ⟨rfl, λys hy => by rw [I.ain hy hq]; exact hx⟩, st', λb hb => (hf b hb).1⟩⟩
 done := by
  intro X hP hw hK hc i pins s σ H E I hf st hg
  subst hP hw hK
  obtain ⟨xs, hq, hx⟩ := hg
  obtain ⟨its, rv, p, hz⟩ := I.list hq
  obtain ⟨f0, f1, f2, f3, f4, f5⟩ := hf it (by simp)
  have hl := rv.length
  exact wpAny_pyNext_list_end (I.ok.hd hc) st p.isList (by simp; omega) λh' eb => ⟨rfl, I.turned (t' := s.toks) (λb o hb e => eb b o hb e) f0 f1 f3 f4 f5⟩
 self := λ_ _ _ _ _ st h => wpAny_pyIter_listiter st h
theorem ai0 {P : Program} {w : World} {K : PySem.W.Frag} {tg : Expr} (a it : Addr) : Turn P w K tg (Itt K a) [it] it (λi h => h.IsTupleIter it a i) where
 mem := by simp
 obj := λi h st b hb => by
  have e : b = it := by simpa using hb
  subst e
  obtain ⟨o, e, c, d⟩ := st
  exact ⟨o, e, λv z => by rw [d] at z; cases z⟩
 keep := λi h h' st k => st.at λo e => k it (by simp) o e
 item := by
  intro X hP hw hK hc i pins s σ H E I hf st hg
  subst hP hw hK
  obtain ⟨xs, x, hq, hx⟩ := hg
  obtain ⟨its, rv, p, hz⟩ := I.tuple hq
  obtain ⟨u, hu, ru⟩ := rv.get hx
  obtain ⟨f0, f1, f2, f3, f4, f5⟩ := hf it (by simp)
  refine wpAny_pyNext_tuple_item st (show s.heap.IsTuple a its.toArray from p) (x := u) (by simpa using hu) λh' st' sb => ?_
  have I1 : Inv X pins σ H { s with heap := h' } := I.turned (t' := s.toks) (λb o hb e => (sb.2 b hb).trans e) f0 f1 f3 f4 f5
  obtain ⟨o, e, c, d⟩ := id st'
  exact ⟨u, rfl, ant (s := { s with heap := h' }) e c d (by decide) ⟨x, H, I1, ru, ⟨rfl, λys hy => by rw [I.agA hy hq]; exact hx⟩, st', λb hb => (hf b hb).1⟩⟩
 done := by
  intro X hP hw hK hc i pins s σ H E I hf st hg
  subst hP hw hK
  obtain ⟨xs, hq, hx⟩ := hg
  obtain ⟨its, rv, p, hz⟩ := I.tuple hq
  obtain ⟨f0, f1, f2, f3, f4, f5⟩ := hf it (by simp)
  have hl := rv.length
  exact wpAny_pyNext_tuple_end (I.ok.hd hc) st (show s.heap.IsTuple a its.toArray from p) (by simp; omega) λh' eb => ⟨rfl, I.turned (t' := s.toks) (λb o hb e => eb b o hb e) f0 f1 f3 f4 f5⟩
 self := λ_ _ _ _ _ st h => wpAny_pyIter_tupleiter st h
theorem ai1 {P : Program} {w : World} {K : PySem.W.Frag} {tg : Expr} (it : Addr) (lo : Int) (n : Nat) : Turn P w K tg (Itr lo n) [it] it (λi h => IsRangeIter h it (lo + (i : Nat) * 1) ((n : Int) - (i : Nat)) 1) where
 mem := by simp
 obj := λi h st b hb => by
  have e : b = it := by simpa using hb
  subst e
  exact ⟨_, st, λv z => by
   have z' : Data.fields _ = Data.cell v := z
   cases z'⟩
 keep := λi h h' st k => k it (by simp) _ st
 item := by
  intro X hP hw hK hc i pins s σ H E I hf st hg
  subst hP hw hK
  obtain ⟨f0, f1, f2, f3, f4, f5⟩ := hf it (by simp)
  have W := Walks.range (prog := X.prog) (w := X.w) (I.ok.hd hc) it lo 1 n
  refine W.item i s _ _ hg st λv h' tk hv st' kk => ?_
  obtain ⟨t, rfl⟩ := hv
  have I1 : Inv X pins σ H { s with heap := h', toks := tk } := I.turned (λb o hb e => kk b o (by simpa using hb) e) f0 f1 f3 f4 f5
  refine ⟨_, rfl, ant (s := { s with heap := h', toks := tk }) (n := "range_iterator") st' rfl rfl (by decide) ⟨.int (lo + i), H, I1, ⟨t, ?_⟩, ⟨rfl, rfl⟩, st', λb hb => (hf b hb).1⟩⟩
  rw [Int.mul_one]
 done := by
  intro X hP hw hK hc i pins s σ H E I hf st hg
  subst hP hw hK
  obtain ⟨f0, f1, f2, f3, f4, f5⟩ := hf it (by simp)
  exact wpAny_pyNext_range_end (I.ok.hd hc) st (by have : n <= i := hg; omega) λh' eb => ⟨rfl, I.turned (t' := s.toks) (λb o hb e => eb b o hb e) f0 f1 f3 f4 f5⟩
 self := λ_ _ _ _ _ st h => wpAny_pyIter_rangeiter st h
end L2
namespace L2
open PySem PySem.Spec PyProof.Rows
section
variable {X : Cx} {tg : Expr}
noncomputable def apl (K : PySem.W.Frag) (tl : TE) : TI := λσ H R => tl σ H λx H1 => ∃ a, x = .ref a /\ (∃ xs, SqL K H1 a xs) /\ R (Itl K a) H1
noncomputable def aua (K : PySem.W.Frag) (tl : TE) : TI := λσ H R => tl σ H λx H1 => ∃ a, x = .ref a /\ (∃ xs, SqT K H1 a xs) /\ R (Itt K a) H1
theorem anu {l : Expr} {tl : TE} (hl : PE X l tl) : PI X tg l (apl X.K tl) := by
 intro pins s σ H R I h
 refine thn (hl pins s σ H _ I h) λv s1 ⟨x, H1, I1, r1, q1⟩ => ?_
 obtain ⟨a, e, ⟨xs, hq⟩, q⟩ := q1
 subst e
 cases r1
 obtain ⟨its, rv, p, hz⟩ := I1.list hq
 refine wpAny_pyIter_list p.isList ?_
 refine ⟨s1.heap.objs.size, [s1.heap.objs.size], _, _, H1, rfl, I1.kept (t' := s1.toks) λb o e => Heap.get?_push_of_some _ e, aj1 a _, ⟨_, Heap.get?_push_size _ rfl, rfl, rfl⟩, λb hb => ?_, q⟩
 have e : b = s1.heap.objs.size := by simpa using hb
 subst e
 exact I1.arU (Nat.le_refl _) (I1.hok.fresh (Nat.le_refl _))
theorem apm {l : Expr} {tl : TE} (hl : PE X l tl) : PI X tg l (aua X.K tl) := by
 intro pins s σ H R I h
 refine thn (hl pins s σ H _ I h) λv s1 ⟨x, H1, I1, r1, q1⟩ => ?_
 obtain ⟨a, e, ⟨xs, hq⟩, q⟩ := q1
 subst e
 cases r1
 obtain ⟨its, rv, p, hz⟩ := I1.tuple hq
 refine wpAny_pyIter_tuple (show s1.heap.IsTuple a its.toArray from p) ?_
 refine ⟨s1.heap.objs.size, [s1.heap.objs.size], _, _, H1, rfl, I1.kept (t' := s1.toks) λb o e => Heap.get?_push_of_some _ e, ai0 a _, ⟨_, Heap.get?_push_size _ rfl, rfl, rfl⟩, λb hb => ?_, q⟩
 have e : b = s1.heap.objs.size := by simpa using hb
 subst e
 exact I1.arU (Nat.le_refl _) (I1.hok.fresh (Nat.le_refl _))
theorem alx {pins : List (Addr × Obj)} {σ : St} {H : Hp} {s : Shared} {R : It -> Hp -> Prop} {E : Value -> Shared -> Prop} {lo hi : Int} {t u v : Tok} {tk : Nat} (I : Inv X pins σ H s) (h1 : -(2 ^ 62) <= lo) (h2 : lo < 2 ^ 62) (h3 : -(2 ^ 62) <= hi) (h4 : hi < 2 ^ 62)
  (q : R (Itr lo (hi - lo).toNat) H) : wpAny (model X.prog X.w) X.A (pyIter (.ref s.heap.objs.size)) (PIE X pins σ tg R) E { s with heap := s.heap.push { cls := .type "range", data := .fields #[.int lo t, .int hi u, .int 1 v] }, toks := tk } := by
 refine wpAny_pyIter_range (IsRange.new ..) (small_one h1 h2 h3 h4) ?_
 have I1 : Inv X pins σ H { s with heap := s.heap.push { cls := .type "range", data := .fields #[.int lo t, .int hi u, .int 1 v] }, toks := tk } := I.kept λb o e => Heap.get?_push_of_some _ e
 refine ⟨(s.heap.push { cls := .type "range", data := .fields #[.int lo t, .int hi u, .int 1 v] }).objs.size, [(s.heap.push { cls := .type "range", data := .fields #[.int lo t, .int hi u, .int 1 v] }).objs.size], _, _, H, rfl,
  I1.kept (t' := tk) λb o e => Heap.get?_push_of_some _ e, ai1 _ lo (hi - lo).toNat, ?_, λb hb => ?_, q⟩
 ·have e1 : lo + ((0 : Nat) : Int) * 1 = lo := by simp
  have e2 : (((hi - lo).toNat : Nat) : Int) - ((0 : Nat) : Int) = Builtin.Range.rangeSize lo hi 1 := by rw [rangeSize_one]; split <;> omega
  show IsRangeIter _ _ (lo + ((0 : Nat) : Int) * 1) ((((hi - lo).toNat : Nat) : Int) - ((0 : Nat) : Int)) 1
  rw [e1, e2]
  exact Heap.get?_push_size _ rfl
 ·have e : b = (s.heap.push { cls := .type "range", data := .fields #[.int lo t, .int hi u, .int 1 v] }).objs.size := by simpa using hb
  subst e
  exact I1.arU (Nat.le_refl _) (I1.hok.fresh (Nat.le_refl _))
noncomputable def anv (ta : TA) : TI := λσ H R => ta σ H λvs H1 => ∃ j : Int, vs = [.int j] /\ -(2 ^ 62) <= j /\ j < 2 ^ 62 /\ R (Itr 0 j.toNat) H1
theorem aj2 {a : Expr} {ta : TA} {p pos : Pos} (hg : Gl X "range") (hm : X.mg "range" = none) (ha : PA X [a] ta) (hs : starEach [a] X.env = [(false, eval a X.env)] := by rfl) : PI X tg (.Call (.Name "range" p) [a] [] pos) (anv ta) := by
 intro pins s σ H R I h
 refine Call_ (aft I hg hm boot_range (PyProof.Rows.callWith_type1 (thn (ha pos pins s σ H _ I h) λus s1 ⟨vs, H1, I1, r1, q1⟩ => ?_) hs rfl))
 obtain ⟨j, e, q1, q2, q⟩ := q1
 subst e
 cases r1 with
 | cons r rr =>
  cases rr
  obtain ⟨t, rfl⟩ := r
  exact call_range_1 (alx I1 (by omega) (by omega) q1 q2 (by simpa using q))
noncomputable def aub (wi : TI) (g : TG) (tb : TS) : TS := λD σ H => wi σ H λJ H1 => ∃ W : Nat -> Nat -> St -> Hp -> Prop, (∃ m, W 0 m σ H1) /\ ∀ i m σ H, W i m σ H ->
 (J.stop i H /\ D.nx σ H) \/ (J.go i H /\ ∃ N : St -> Hp -> Prop, (∀ σ' H', N σ' H' -> ∃ m', m' < m /\ W (i + 1) m' σ' H') /\ ∀ x H', J.yld i H x H' -> g x σ H' λσ2 H2 => tb { D with nx := N, ct := N, bk := D.nx } σ2 H2)
noncomputable def aio (fp : List Addr) (h : Heap) : List (Addr × Obj) := fp.filterMap λb => (h.get? b).map λo => (b, o)
theorem abF {fp : List Addr} {h : Heap} {b : Addr} {o : Obj} (hb : b ∈ fp) (e : h.get? b = some o) : (b, o) ∈ aio fp h := List.mem_filterMap.mpr ⟨b, hb, by rw [e]; rfl⟩
theorem aj3 {fp : List Addr} {h : Heap} {p : Addr × Obj} (hp : p ∈ aio fp h) : p.1 ∈ fp /\ h.get? p.1 = some p.2 := by
 obtain ⟨b, hb, e⟩ := List.mem_filterMap.mp hp
 cases q : h.get? b with
 | none => rw [q] at e; cases e
 | some o =>
  rw [q] at e
  have e' : (b, o) = p := Option.some.inj e
  subst e'
  exact ⟨hb, q⟩
theorem Inv.pinned {pins : List (Addr × Obj)} {σ : St} {H : Hp} {s : Shared} {fp : List Addr} (I : Inv X pins σ H s) (hf : ∀ b ∈ fp, aj0 X pins H b) (ho : ∀ b ∈ fp, ∃ o, s.heap.get? b = some o /\ ∀ v, o.data ≠ .cell v) : Inv X (pins ++ aio fp s.heap) σ H s :=
 I.ajR λp hp => (List.mem_append.mp hp).elim (λz => I.pin p (List.mem_append_right _ z)) λz => by
  obtain ⟨hb, e⟩ := aj3 z
  obtain ⟨f0, f1, f2, _⟩ := hf p.1 hb
  obtain ⟨o, e', d⟩ := ho p.1 hb
  rw [e] at e'; cases e'
  exact ⟨e, f0, f1, f2, d⟩
theorem Inv.adn {pins pl : List (Addr × Obj)} {σ : St} {H : Hp} {s : Shared} (I : Inv X (pins ++ pl) σ H s) : Inv X pins σ H s := I.ajR λp hp => I.pin p (List.mem_append_right _ (List.mem_append_left _ hp))
theorem agB {iter : Expr} {body : List Stmt} {wi : TI} {g : TG} {tb : TS} {pos : Pos} (hp : PassesOwn (model X.prog X.w) X.A X.env X.xe) (hc : X.calm = true) (hi : PI X tg iter wi) (hg : PG X tg g) (hb : PSs X body tb)
  (hs : ∀ x, foldedSetIterable iter X.env x = pure x := by intro _; rfl) : PS X (.For tg iter body [] pos) (aub wi g tb) := by
 intro pins s σ H D I h
 refine wpAny_For (thn (hi pins s σ H _ I h) λv s1 h1 => thn h1 λitv s2 h2 => ?_) hs
 obtain ⟨it, fp, tn, J, H2, e, I2, T, st2, f2, W, ⟨m0, w0⟩, turn⟩ := h2
 subst e
 -- what stays true of the iterator's objects through the loop
 have stat : ∀ {H' : Hp}, (∀ b ∈ fp, H' b = none) -> ∀ b ∈ fp, aj0 X pins H' b := λhn b hb => ⟨hn b hb, (f2 b hb).2⟩
 refine codeAny_forLoop_any (λn s' => ∃ i σ' H', Inv X pins σ' H' s' /\ tn i s'.heap /\ (∀ b ∈ fp, H' b = none) /\ W i n σ' H') ?_ m0 ⟨0, σ, H2, I2, st2, λb hb => (f2 b hb).1, w0⟩
 rintro n s3 ⟨i, σ3, H3, I3, st3, fr3, w3⟩
 rcases turn i n σ3 H3 w3 with ⟨stop, qn⟩ | ⟨go, N, hN, step⟩
 ·refine wpAny_passesOwn hp (thn (T.done X rfl rfl rfl hc i pins s3 σ3 H3 X.xe I3 (stat fr3) st3 stop) λr s4 ⟨hr, I4⟩ => ?_)
  subst hr
  exact wpAny_execs_nil ⟨σ3, H3, I4, qn⟩
 ·refine wpAny_passesOwn hp (thn (T.item X rfl rfl rfl hc i pins s3 σ3 H3 X.xe I3 (stat fr3) st3 go) λr s4 ⟨u, hr, h4⟩ => ?_)
  subst hr
  refine wpAny_passesOwn hp (thn h4 λ_ s5 ⟨x, H5, I5, r5, y5, st5, fr5⟩ => ?_)
  have I5' := I5.pinned (stat fr5) (T.obj _ _ st5)
  refine wpAny_passesOwn hp (thn (hg _ s5 σ3 H5 x u _ I5' r5 (step x H5 y5)) λ_ s6 ⟨σ6, H6, I6, q6⟩ => ?_)
  refine wpAny_passesOwn hp (thn (hb _ s6 σ6 H6 _ I6 q6) λf s7 q7 => ?_)
  have again : ∀ {σ7 : St} {H7 : Hp}, Inv X (pins ++ aio fp s5.heap) σ7 H7 s7 -> N σ7 H7 -> ∃ m, m < n /\ ∃ i σ' H', Inv X pins σ' H' s7 /\ tn i s7.heap /\ (∀ b ∈ fp, H' b = none) /\ W i m σ' H' := λ{σ7 H7} I7 n7 => by
   obtain ⟨m', hm, w7⟩ := hN σ7 H7 n7
   refine ⟨m', hm, i + 1, σ7, H7, I7.adn, T.keep _ _ _ st5 λb hb o e => (I7.pin (b, o) (List.mem_append_right _ (List.mem_append_right _ (abF hb e)))).1, λb hb => ?_, w7⟩
   obtain ⟨o, e, d⟩ := T.obj _ _ st5 b hb
   exact (I7.pin (b, o) (List.mem_append_right _ (List.mem_append_right _ (abF hb e)))).2.1
  cases f with
  | next => obtain ⟨σ7, H7, I7, n7⟩ := q7; exact again I7 n7
  | cont => obtain ⟨σ7, H7, I7, n7⟩ := q7; exact again I7 n7
  | brk => obtain ⟨σ7, H7, I7, q7⟩ := q7; exact ⟨σ7, H7, I7.adn, q7⟩
  | ret v => obtain ⟨x7, σ7, H7, I7, r7, q7⟩ := q7; exact ⟨x7, σ7, H7, I7.adn, r7, q7⟩
end
end L2
namespace L2
open PySem PySem.Spec PyProof.Rows
noncomputable abbrev R2 := V -> V -> Hp -> VK -> Prop
noncomputable def OpR (X : Cx) (f : Value -> Value -> Sem Value) (r : R2) : Prop :=
 ∀ (pins : List (Addr × Obj)) (s : Shared) (σ : St) (H : Hp) (x y : V) (v u : Value) (Q : VK), Inv X pins σ H s -> RelV x v -> RelV y u -> r x y H Q ->
  wpAny (model X.prog X.w) X.A (f v u) (EP X pins σ Q) X.xe s
noncomputable def UnR (X : Cx) (f : Value -> Sem Value) (r : V -> Hp -> VK -> Prop) : Prop :=
 ∀ (pins : List (Addr × Obj)) (s : Shared) (σ : St) (H : Hp) (x : V) (v : Value) (Q : VK), Inv X pins σ H s -> RelV x v -> r x H Q ->
  wpAny (model X.prog X.w) X.A (f v) (EP X pins σ Q) X.xe s
noncomputable def ab6 (X : Cx) (f : Value) (r : List V -> Hp -> VK -> Prop) : Prop :=
 ∀ (pins : List (Addr × Obj)) (s : Shared) (σ : St) (H : Hp) (xs : List V) (us : List Value) (Q : VK), Inv X pins σ H s -> Vals xs us -> r xs H Q ->
  wpAny (model X.prog X.w) X.A (call f us) (EP X pins σ Q) X.xe s
noncomputable def auT (X : Cx) (r : V -> Hp -> (Bool -> Hp -> Prop) -> Prop) : Prop :=
 ∀ (pins : List (Addr × Obj)) (s : Shared) (σ : St) (H : Hp) (x : V) (v : Value) (Q : Bool -> Hp -> Prop), Inv X pins σ H s -> RelV x v -> r x H Q ->
  wpAny (model X.prog X.w) X.A (truthy v) (TP X pins σ Q) X.xe s
noncomputable def tOp (r : R2) (ta tb : TE) : TE := λσ H Q => ta σ H λx H1 => tb σ H1 λy H2 => r x y H2 Q
noncomputable def tUn (r : V -> Hp -> VK -> Prop) (ta : TE) : TE := λσ H Q => ta σ H λx H1 => r x H1 Q
noncomputable def rI (C : Int -> Int -> Prop) (g : Int -> Int -> V) : R2 := λx y H Q => ∃ i j, x = .int i /\ y = .int j /\ C i j /\ Q (g i j) H
noncomputable def rI0 (g : Int -> Int -> V) : R2 := λx y H Q => ∃ i j, x = .int i /\ y = .int j /\ Q (g i j) H
noncomputable def rU (g : Int -> V) : V -> Hp -> VK -> Prop := λx H Q => ∃ i, x = .int i /\ Q (g i) H
section
variable {X : Cx} {a b c : Expr} {ta tb tc : TE} {pos : Pos}
theorem arV (ha : PE X a ta) (hb : PE X b tb) {pins : List (Addr × Obj)} {s : Shared} {σ : St} {H : Hp} {R : V -> V -> Hp -> Prop} (I : Inv X pins σ H s)
  (h : ta σ H λx H1 => tb σ H1 λy H2 => R x y H2) {Q : Value -> Shared -> Prop} {f : Value -> Value -> Sem Value}
  (hf : ∀ v u s2 x y H2, Inv X pins σ H2 s2 -> RelV x v -> RelV y u -> R x y H2 -> wpAny (model X.prog X.w) X.A (f v u) Q X.xe s2) :
  wpAny (model X.prog X.w) X.A (eval a X.env) (λv s₁ => wpAny (model X.prog X.w) X.A (eval b X.env) (λu s₂ => wpAny (model X.prog X.w) X.A (f v u) Q X.xe s₂) X.xe s₁) X.xe s := by
 refine thn (ha pins s σ H _ I h) λv s1 ⟨x, H1, I1, r1, q1⟩ => ?_
 refine thn (hb pins s1 σ H1 _ I1 q1) λu s2 ⟨y, H2, I2, r2, q2⟩ => ?_
 exact hf v u s2 x y H2 I2 r1 r2 q2
theorem aaP {op : Operator} {r : R2} (ho : OpR X (binaryOp op) r) (ha : PE X a ta) (hb : PE X b tb) : PE X (.BinOp a op b pos) (tOp r ta tb) := by
 intro pins s σ H Q I h
 exact wpAny_BinOp (arV ha hb I h λv u s2 x y H2 I2 rx ry q => ho pins s2 σ H2 x y v u Q I2 rx ry q)
theorem apn {op : UnaryOp} {r : V -> Hp -> VK -> Prop} (ho : UnR X (unaryOp op) r) (ha : PE X a ta) : PE X (.UnaryOp op a pos) (tUn r ta) := by
 intro pins s σ H Q I h
 exact UnaryOp_ (thn (ha pins s σ H _ I h) λv s1 ⟨x, H1, I1, r1, q1⟩ => ho pins s1 σ H1 x v Q I1 r1 q1)
theorem opI {f : Value -> Value -> Sem Value} {C : Int -> Int -> Prop} {g : Int -> Int -> Int}
  (rule : ∀ (i j : Int) (t u : Tok) (s : Shared) (Q : Value -> Shared -> Prop) (E : Value -> Shared -> Prop), C i j -> Q (.int (g i j) s.toks) { s with toks := s.toks + 1 } -> wpAny (model X.prog X.w) X.A (f (.int i t) (.int j u)) Q E s) :
  OpR X f (rI C λi j => .int (g i j)) := by
 intro pins s σ H x y v u Q I rx ry h
 obtain ⟨i, j, rfl, rfl, hc, q⟩ := h
 obtain ⟨t, rfl⟩ := rx
 obtain ⟨t', rfl⟩ := ry
 exact rule i j t t' s _ _ hc ⟨.int (g i j), H, I.tok _, ⟨_, rfl⟩, q⟩
theorem auc {f : Value -> Value -> Sem Value} {g : Int -> Int -> Int}
  (rule : ∀ (i j : Int) (t u : Tok) (s : Shared) (Q : Value -> Shared -> Prop) (E : Value -> Shared -> Prop), Q (.int (g i j) s.toks) { s with toks := s.toks + 1 } -> wpAny (model X.prog X.w) X.A (f (.int i t) (.int j u)) Q E s) :
  OpR X f (rI0 λi j => .int (g i j)) := by
 intro pins s σ H x y v u Q I rx ry h
 obtain ⟨i, j, rfl, rfl, q⟩ := h
 obtain ⟨t, rfl⟩ := rx
 obtain ⟨t', rfl⟩ := ry
 exact rule i j t t' s _ _ ⟨.int (g i j), H, I.tok _, ⟨_, rfl⟩, q⟩
theorem arC {f : Value -> Value -> Sem Value} {g : Int -> Int -> Bool}
  (rule : ∀ (i j : Int) (t u : Tok) (s : Shared) (Q : Value -> Shared -> Prop) (E : Value -> Shared -> Prop), Q (.bool (g i j)) s -> wpAny (model X.prog X.w) X.A (f (.int i t) (.int j u)) Q E s) :
  OpR X f (rI0 λi j => .bl (g i j)) := by
 intro pins s σ H x y v u Q I rx ry h
 obtain ⟨i, j, rfl, rfl, q⟩ := h
 obtain ⟨t, rfl⟩ := rx
 obtain ⟨t', rfl⟩ := ry
 exact rule i j t t' s _ _ ⟨.bl (g i j), H, I, rfl, q⟩
noncomputable def arW (i j : Int) : Prop := 0 <= j /\ j <= 1000000 /\ i.natAbs < 2 ^ 64
theorem amT : OpR X (binaryOp .Add) (rI0 λi j => .int (i + j)) := auc λ_ _ _ _ _ _ _ q => add_int q
theorem aip : OpR X (binaryOp .Sub) (rI0 λi j => .int (i - j)) := auc λ_ _ _ _ _ _ _ q => sub_int q
theorem adz : OpR X (binaryOp .Mod) (rI (λ_ j => j ≠ 0) λi j => .int (i.fmod j)) := opI λ_ _ _ _ _ _ _ hc q => mod_int' hc q
theorem aiq : OpR X (binaryOp .Pow) (rI arW λi j => .int (i ^ j.toNat)) := opI λ_ _ _ _ _ _ _ hc q => pow_int_small hc.1 hc.2.1 hc.2.2 q
theorem unI {f : Value -> Sem Value} {g : Int -> Int}
  (rule : ∀ (i : Int) (t : Tok) (s : Shared) (Q : Value -> Shared -> Prop) (E : Value -> Shared -> Prop), Q (.int (g i) s.toks) { s with toks := s.toks + 1 } -> wpAny (model X.prog X.w) X.A (f (.int i t)) Q E s) :
  UnR X f (rU λi => .int (g i)) := by
 intro pins s σ H x v Q I rx h
 obtain ⟨i, rfl, q⟩ := h
 obtain ⟨t, rfl⟩ := rx
 exact rule i t s _ _ ⟨.int (g i), H, I.tok _, ⟨_, rfl⟩, q⟩
theorem amU : UnR X (unaryOp .USub) (rU λi => .int (-i)) := unI λ_ _ _ _ _ q => neg_int q
end
section
variable {X : Cx} {a b c : Expr} {ta tb tc : TE} {pos : Pos}
theorem apo {pins : List (Addr × Obj)} {σ : St} {H : Hp} {s : Shared} {Q : VK} {k k' : Bool} (I : Inv X pins σ H s) (q : Q (.bl k) H) (e : k = k') : EP X pins σ Q (.bool k') s := by
 subst e
 exact ⟨.bl k, H, I, rfl, q⟩
theorem arX : OpR X (compareOp .Lt) (rI0 λi j => .bl (decide (i < j))) := arC λ_ _ _ _ _ _ _ q => lt_int q
theorem ai2 : OpR X (compareOp .LtE) (rI0 λi j => .bl (decide (i <= j))) := arC λ_ _ _ _ _ _ _ q => le_int q
theorem apq : OpR X (compareOp .Gt) (rI0 λi j => .bl (decide (j < i))) := arC λ_ _ _ _ _ _ _ q => gt_int q
theorem apr : OpR X (compareOp .GtE) (rI0 λi j => .bl (decide (j <= i))) := arC λ_ _ _ _ _ _ _ q => ge_int q
theorem anw : OpR X (compareOp .IsNot) (λx y H Q => y = .non /\ Q (.bl (!decide (x = .non))) H) := by
 intro pins s σ H x y v u Q I rx ry h
 obtain ⟨rfl, q⟩ := h
 cases ry
 refine isnot_none_gen (apo I q ?_)
 cases x <;> first
  | (cases rx; rfl)
  | (obtain ⟨t, rfl⟩ := rx; rfl)
theorem OpR.or {f : Value -> Value -> Sem Value} {r r' : R2} (h : OpR X f r) (h' : OpR X f r') : OpR X f (λx y H Q => r x y H Q \/ r' x y H Q) := by
 intro pins s σ H x y v u Q I rx ry q
 rcases q with q | q
 ·exact h pins s σ H x y v u Q I rx ry q
 ·exact h' pins s σ H x y v u Q I rx ry q
theorem abI (b : Expr) {op : CmpOp} (h : op ≠ .In := by decide) (h2 : op ≠ .NotIn := by decide) : behindInMarks op b = false := by
 have e1 : (op == CmpOp.In) = false := by cases op <;> first | rfl | exact absurd rfl h
 have e2 : (op == CmpOp.NotIn) = false := by cases op <;> first | rfl | exact absurd rfl h2
 cases b <;> simp [behindInMarks, e1, e2]
theorem ac4 {op : CmpOp} {r : R2} (ho : OpR X (compareOp op) r) (ha : PE X a ta) (hb : PE X b tb) (hm : behindInMarks op b = false) : PE X (.Compare a [op] [b] pos) (tOp r ta tb) := by
 intro pins s σ H Q I h
 exact wpAny_Compare1 (arV ha hb I h λv u s2 x y H2 I2 rx ry q => ho pins s2 σ H2 x y v u Q I2 rx ry q) hm
noncomputable def anx (t : TE) : TT := λσ H Q => t σ H λx H' => ∃ k, x = .bl k /\ Q k H'
theorem abV {op : CmpOp} {r : R2} (ho : OpR X (compareOp op) r) (ha : PE X a ta) (hb : PE X b tb) (hm : behindInMarks op b = false) : PT X (.Compare a [op] [b] pos) (anx (tOp r ta tb)) := by
 intro pins s σ H Q I h
 refine wpAny_isTrue_Compare1 (thn (ha pins s σ H _ I h) λv s1 ⟨x, H1, I1, r1, q1⟩ => thn (hb pins s1 σ H1 _ I1 q1) λu s2 ⟨y, H2, I2, r2, q2⟩ =>
  thn (ho pins s2 σ H2 x y v u _ I2 r1 r2 q2) λc s3 ⟨z, H3, I3, r3, k, e, q3⟩ => ?_) hm
 subst e
 cases r3
 exact wpAny_truthy_bool ⟨H3, I3, q3⟩
noncomputable def air (r r' : R2) (ta tb tc : TE) : TE := λσ H Q => ta σ H λx H1 => tb σ H1 λy H2 => r x y H2 λz H3 => ∃ k, z = .bl k /\
 (if k = true then tc σ H3 λw' H4 => r' y w' H4 Q else Q (.bl false) H3)
theorem aly {op op' : CmpOp} {r r' : R2} (ho : OpR X (compareOp op) r) (ho' : OpR X (compareOp op') r') (ha : PE X a ta) (hb : PE X b tb) (hc : PE X c tc)
  (hm : lastMarks [op, op'] [b, c] = false := by with_unfolding_all rfl) : PE X (.Compare a [op, op'] [b, c] pos) (air r r' ta tb tc) := by
 intro pins s σ H Q I h
 refine Compare_chain (thn (ha pins s σ H _ I h) λv s1 ⟨x, H1, I1, r1, q1⟩ => chain_link (thn (hb pins s1 σ H1 _ I1 q1) λu s2 ⟨y, H2, I2, r2, q2⟩ =>
  thn (ho pins s2 σ H2 x y v u _ I2 r1 r2 q2) λd s3 ⟨z, H3, I3, r3, k, e, q3⟩ => ?_)) hm
 subst e
 cases r3
 refine wpAny_truthy_bool ?_
 cases k with
 | false => exact ite_ff ⟨.bl false, H3, I3, rfl, q3⟩
 | true => exact ite_tt (chain_last (thn (hc pins s3 σ H3 _ I3 q3) λw' s4 ⟨z', H4, I4, r4, q4⟩ => ho' pins s4 σ H4 y z' u w' Q I4 r2 r4 q4))
theorem ais {op op' : CmpOp} {r r' : R2} (ho : OpR X (compareOp op) r) (ho' : OpR X (compareOp op') r') (ha : PE X a ta) (hb : PE X b tb) (hc : PE X c tc)
  (hm : lastMarks [op, op'] [b, c] = false := by with_unfolding_all rfl) : PT X (.Compare a [op, op'] [b, c] pos) (anx (air r r' ta tb tc)) := by
 intro pins s σ H Q I h
 refine isTrue_chain (thn (ha pins s σ H _ I h) λv s1 ⟨x, H1, I1, r1, q1⟩ => test_link (thn (hb pins s1 σ H1 _ I1 q1) λu s2 ⟨y, H2, I2, r2, q2⟩ =>
  thn (ho pins s2 σ H2 x y v u _ I2 r1 r2 q2) λd s3 ⟨z, H3, I3, r3, k, e, q3⟩ => ?_)) hm
 subst e
 cases r3
 refine wpAny_truthy_bool ?_
 cases k with
 | false =>
  obtain ⟨k', e', q'⟩ := q3
  cases e'
  exact ite_ff ⟨H3, I3, q'⟩
 | true =>
  refine ite_tt (test_last (thn (hc pins s3 σ H3 _ I3 q3) λw' s4 ⟨z', H4, I4, r4, q4⟩ => thn (ho' pins s4 σ H4 y z' u w' _ I4 r2 r4 q4) λd' s5 ⟨z2, H5, I5, r5, k2, e2, q5⟩ => ?_))
  subst e2
  cases r5
  exact wpAny_truthy_bool ⟨H5, I5, q5⟩
noncomputable def aps (K : PySem.W.Frag) (x : V) (H : Hp) (k : Bool) : Prop :=
 match x with
 | .non => k = false
 | .bl b => k = b
 | .int i => k = (i != 0)
 | .str y => y.length <= sizeLine /\ k = ((y.length : Int) != 0)
 | .byt y => y.size <= sizeLine /\ k = ((y.size : Int) != 0)
 | .ref p => (∃ xs, SqL K H p xs /\ k = !xs.isEmpty) \/ (∃ xs, SqT K H p xs /\ k = !xs.isEmpty) \/ ∃ kvs, H p = some (.dK kvs) /\ k = !kvs.isEmpty
 | _ => False
theorem ai3 {κ : Type} {kvs : List (κ × V)} {vs : List (κ × Value)} (r : KV kvs vs) : (!vs.isEmpty) = !kvs.isEmpty := by
 cases r <;> rfl
theorem afu {xs : List V} {its : List Value} (r : Vals xs its) : (!its.toArray.isEmpty) = !xs.isEmpty := by
 cases r <;> simp
theorem aeX : (sizeLine : Nat) < 2 ^ 63 := by rw [sizeLine_eq]; decide
theorem apt : auT X (λx H Q => ∃ k, aps X.K x H k /\ Q k H) := by
 intro pins s σ H x v Q I rx h
 obtain ⟨k, e, q⟩ := h
 have hl := aeX
 have hs : sizeLine = 16777216 := sizeLine_eq
 cases x with
 | non =>
  cases rx
  have e' : k = false := e
  subst e'
  exact truthy_none ⟨H, I, q⟩
 | bl b =>
  cases rx
  have e' : k = b := e
  subst e'
  exact wpAny_truthy_bool ⟨H, I, q⟩
 | int i =>
  obtain ⟨t, rfl⟩ := rx
  have e' : k = (i != 0) := e
  subst e'
  exact PySem.P.truthy_int ⟨H, I, q⟩
 | str y =>
  obtain ⟨t, rfl⟩ := rx
  obtain ⟨hy, e'⟩ : y.length <= sizeLine /\ k = ((y.length : Int) != 0) := e
  subst e'
  exact PySem.P.truthy_str (by omega) ⟨H, I.tok _, q⟩
 | byt y =>
  obtain ⟨t, rfl⟩ := rx
  obtain ⟨hy, e'⟩ : y.size <= sizeLine /\ k = ((y.size : Int) != 0) := e
  subst e'
  exact PySem.W.truthy_bytes (by omega) ⟨H, I.tok _, q⟩
 | ref p =>
  cases rx
  have e' : (∃ xs, SqL X.K H p xs /\ k = !xs.isEmpty) \/ (∃ xs, SqT X.K H p xs /\ k = !xs.isEmpty) \/ ∃ kvs, H p = some (.dK kvs) /\ k = !kvs.isEmpty := e
  rcases e' with ⟨xs, hx, e'⟩ | ⟨xs, hx, e'⟩ | ⟨kvs, hx, e'⟩
  ·subst e'
   obtain ⟨its, r, pl, hz⟩ := I.list hx
   have hlen := r.length
   exact wpAny_truthy_list pl.isList (by simp only [List.size_toArray]; omega) ⟨H, I.tok _, by rw [afu r]; exact q⟩
  ·subst e'
   obtain ⟨its, r, pl, hz⟩ := I.tuple hx
   have hlen := r.length
   exact truthy_tuple pl (by simp only [List.size_toArray]; omega) ⟨H, I.tok _, by rw [afu r]; exact q⟩
  ·subst e'
   obtain ⟨hz, hS, vs, r, m⟩ : kvs.length <= sizeLine /\ (p == sysModules) = false /\ ∃ vs, KV kvs vs /\ s.heap.DictOf (ahn X.prog X.w) p vs := I.hok p _ hx
   have hlen : kvs.length = vs.length := Paired.length r
   exact wpAny_truthy_dict hS m (by omega) ⟨H, I.tok _, by rw [ai3 r]; exact q⟩
 | _ => exact (show False from e).elim
theorem abm (ha : PE X a ta) (he : ∀ whole, isTrue a X.env whole = (do let v <-whole; standAt a.pos; holding [v] (truthy v))) :
  PT X a (λσ H Q => ta σ H λx H' => ∃ k, aps X.K x H' k /\ Q k H') := by
 intro pins s σ H Q I h
 exact isTrue_plain (thn (ha pins s σ H _ I h) λv s1 ⟨x, H1, I1, r1, q1⟩ => apt pins s1 σ H1 x v Q I1 r1 q1) (he _)
theorem ai4 : OpR X (binaryOp .Add) (λx y H Q => ∃ i j, x = .str i /\ y = .str j /\ i.length + j.length <= sizeLine /\ Q (.str (i ++ j)) H) := by
 intro pins s σ H x y v u Q I rx ry h
 obtain ⟨i, j, rfl, rfl, hz, q⟩ := h
 obtain ⟨t, rfl⟩ := rx
 obtain ⟨t', rfl⟩ := ry
 exact add_str (λt' tk => ⟨.str (i ++ j), H, I.tok _, ⟨_, rfl⟩, q⟩) hz
theorem vals1 {x : V} {us : List Value} (r : Vals [x] us) : ∃ u, us = [u] /\ RelV x u := by
 cases r with
 | cons r1 r2 => cases r2; exact ⟨_, rfl, r1⟩
theorem vals2 {x y : V} {us : List Value} (r : Vals [x, y] us) : ∃ u w', us = [u, w'] /\ RelV x u /\ RelV y w' := by
 cases r with
 | cons r1 r2 =>
  cases r2 with
  | cons r3 r4 => cases r4; exact ⟨_, _, rfl, r1, r3⟩
theorem alz : ab6 X (.builtin "abs") (λxs H Q => ∃ i, xs = [.int i] /\ Q (.int (if i < 0 then -i else i)) H) := by
 intro pins s σ H xs us Q I r h
 obtain ⟨i, rfl, q⟩ := h
 obtain ⟨u, rfl, t, rfl⟩ := vals1 r
 exact call_abs_int λu tk => ⟨.int (if i < 0 then -i else i), H, I.tok _, ⟨_, rfl⟩, q⟩
theorem aj4 (hc : X.calm = true) : ab6 X (.builtin "min") (λxs H Q => ∃ i j, xs = [.int i, .int j] /\ Q (.int (if j < i then j else i)) H) := by
 intro pins s σ H xs us Q I r h
 obtain ⟨i, j, rfl, q⟩ := h
 obtain ⟨u, w', rfl, ⟨t, rfl⟩, ⟨t', rfl⟩⟩ := vals2 r
 refine min_two_ints (I.ok.hd hc) λh' tk k => ⟨_, H, I.kept k, ?_, q⟩
 by_cases hj : j < i
 ·rw [if_pos hj, if_pos hj]; exact ⟨_, rfl⟩
 ·rw [if_neg hj, if_neg hj]; exact ⟨_, rfl⟩
theorem aj5 : ab6 X (.type "int") (λxs H Q => (∃ i, xs = [.int i] /\ Q (.int i) H) \/ ∃ k, xs = [.bl k] /\ Q (.int (if k then 1 else 0)) H) := by
 intro pins s σ H xs us Q I r h
 rcases h with ⟨i, rfl, q⟩ | ⟨k, rfl, q⟩
 ·obtain ⟨u, rfl, t, rfl⟩ := vals1 r
  exact call_int_int ⟨.int i, H, I, ⟨_, rfl⟩, q⟩
 ·obtain ⟨u, rfl, r1⟩ := vals1 r
  cases r1
  exact call_int_bool ⟨.int (if k then 1 else 0), H, I.tok _, ⟨_, rfl⟩, q⟩
end
end L2
namespace L2
open PySem PySem.Spec PyProof.Rows
section
variable {prog : Program} {w : World} {A : Around} {E : Value -> Shared -> Prop} {s : Shared} {K : PySem.W.Frag} {x dx C f : Addr} {mA : Str -> Option Value} {name : Str} {v : Value}
end
section
variable {P : Program} {w : World} {H H' : Hp} {h h' : Heap} {a C dx : Addr} {fs fs' : List (Str × V)}
end
section
variable {X : Cx} {pins : List (Addr × Obj)} {σ : St} {H : Hp} {s : Shared} {a C dx : Addr} {fs : List (Str × V)} {f : Str} {v : V} {A : Around} {E : Value -> Shared -> Prop}
end
section
variable {X : Cx} {o e value : Expr} {f : Str} {pos pos' tpos : Pos} {ta tv : TE}
end
section
variable {X : Cx} {pins : List (Addr × Obj)} {σ : St} {H : Hp} {s : Shared} {A : Around} {E : Value -> Shared -> Prop} {Q : Value -> Shared -> Prop} {c : Value} {b : Bool}
end
end L2
namespace L2
open PySem PySem.Spec PyProof.Rows
structure aeC (k : Nat) (A : Around) : Prop where
 hd : A.handled = none
 dp : A.depth + 3 * k + 5 < recursionLimit
 un : A.units + 16 * k + 200 < cLine
 gd : A.guards = some [] := by rfl
theorem aeC.mono {j k : Nat} {A : Around} (r : aeC k A) (h : j <= k) : aeC j A := ⟨r.hd, by have := r.dp; omega, by have := r.un; omega, r.gd⟩
theorem aeC.deeper {k : Nat} {A : Around} (r : aeC (k + 1) A) (env : Env) : aeC k (A.deeper env) :=
 ⟨r.hd, by have := r.dp; show A.depth + 1 + 3 * k + 5 < _; omega, by have := r.un; show A.units + 3 + 16 * k + 200 < _; omega, r.gd⟩
theorem aeC.depth {k : Nat} {A : Around} (r : aeC k A) : A.depth < recursionLimit := by have := r.dp; omega
theorem aeC.units {k : Nat} {A : Around} (r : aeC k A) : A.units + 64 < cLine := by have := r.un; omega
noncomputable def aj6 : TA := λ_ H Q => Q [] H
noncomputable def acF (ta : TE) (tr : TA) : TA := λσ H Q => ta σ H λx H1 => tr σ H1 λxs H2 => Q (x :: xs) H2
section
variable {X : Cx} {e : Expr} {es : List Expr} {te : TE} {t : TA} {pos : Pos}
theorem aaj : PA X [] aj6 := λ_ _ _ _ H Q I h => Calls.spliced_nil ⟨[], H, I, .nil, h⟩
theorem abQ (ha : PE X e te) (hr : PA X es t) (hs : starEach (e :: es) X.env = (false, eval e X.env) :: starEach es X.env := by rfl) : PA X (e :: es) (acF te t) := by
 intro pos pins s σ H Q I h
 rw [hs]
 show wpAny _ _ (spliced ((false, eval e X.env) :: backTo pos (starEach es X.env))) _ _ s
 refine Calls.spliced_cons (thn (ha pins s σ H _ I h) λu s1 ⟨x, H1, I1, r1, q1⟩ => ?_)
 exact thn (hr pos pins s1 σ H1 _ I1 q1) λus s2 ⟨xs, H2, I2, r2, q2⟩ => ⟨x :: xs, H2, I2, .cons r1 r2, q2⟩
noncomputable def aud (t : TA) : TE := λσ H Q => t σ H λxs H1 => xs.length <= sizeLine /\ ∀ p, H1 p = none -> Q (.ref p) (upd H1 p (.tup xs))
noncomputable def aue (t : TA) : TE := λσ H Q => t σ H λxs H1 => xs.length <= sizeLine /\ ∀ p, H1 p = none -> Q (.ref p) (upd H1 p (.lst xs))
theorem ait {x1} (h : PA X es t) : PE X (.Tuple es x1 pos) (aud t) := by
 intro pins s σ H Q I hq
 refine wpAny_Tuple_spliced (thn (h pos pins s σ H _ I hq) λus s1 ⟨xs, H1, I1, r, z, q⟩ => ⟨by rw [<-r.length]; exact z, ?_⟩)
 have hf : H1 s1.heap.objs.size = none := I1.hok.fresh (Nat.le_refl _)
 refine ⟨.ref s1.heap.objs.size, upd H1 s1.heap.objs.size (.tup xs), I1.laid (t' := s1.toks) (λb u e => Heap.get?_push_of_some _ e) (Nat.le_refl _) ?_, rfl, q _ hf⟩
 exact ⟨z, us, r, ⟨_, Heap.get?_push_size _ rfl, rfl, _, rfl⟩⟩
theorem abw (h : PA X es t) : PE X (.List es pos) (aue t) := by
 intro pins s σ H Q I hq
 refine wpAny_List_spliced (thn (h pos pins s σ H _ I hq) λus s1 ⟨xs, H1, I1, r, z, q⟩ => ⟨by rw [<-r.length]; exact z, ?_⟩)
 have hf : H1 s1.heap.objs.size = none := I1.hok.fresh (Nat.le_refl _)
 refine ⟨.ref s1.heap.objs.size, upd H1 s1.heap.objs.size (.lst xs), I1.laid (t' := s1.toks) (λb u e => Heap.get?_push_of_some _ e) (Nat.le_refl _) ?_, rfl, q _ hf⟩
 exact ⟨z, us, 0, r, Heap.get?_push_size _ rfl⟩
end
noncomputable abbrev Sp := List V -> Hp -> VK -> XK -> Prop
noncomputable abbrev CXT := List Env -> Hp -> Shared -> XK -> Value -> Shared -> Prop
structure arD (P : Program) (w : World) (K : PySem.W.Frag) (mg : Str -> Option Value) (base : Heap) (A : Around) (outer : List Env) (s : Shared) (H : Hp) : Prop where
 frames : A.frames = some outer
 mod : Mod K mg base
 bs : ∀ b o, base.get? b = some o -> s.heap.get? b = some o /\ H b = none
 bsz : base.objs.size <= s.heap.objs.size
 aiZ : s.heap.FunFrames base outer
 frf : ∀ b ∈ frs outer, H b = none
 hok : HOk P w H s.heap
 bare : AllBare s.gens
noncomputable def CE (outer : List Env) (P : Program) (w : World) (H : Hp) (s : Shared) (Q : VK) (u : Value) (s' : Shared) : Prop :=
 ∃ v H', s'.os = s.os /\ AllBare s'.gens /\ Un (frs outer) [] H H' s.heap s'.heap /\ HOk P w H' s'.heap /\ RelV v u /\ Q v H'
noncomputable def CR (CX : CXT) (outer : List Env) (P : Program) (w : World) (H : Hp) (s : Shared) (Q : VK) (E : XK) (r : Result) (s' : Shared) : Prop :=
 match r with
 | .ok (.ret u) => CE outer P w H s Q u s'
 | .ok _ => False
 | .error e => CX outer H s E e s'
structure aiu (P : Program) (w : World) (K : PySem.W.Frag) (mg : Str -> Option Value) (base : Heap) (CX : CXT) (k : Nat) (f : Addr) (fd : FuncData) (ps : List Str) (sp : Sp) : Prop where
 len : ∀ vs H Q E, sp vs H Q E -> vs.length = ps.length
 run : ∀ (A : Around) (outer : List Env) (s : Shared) (H : Hp) (args : Args) (us : List Value) (vs : List V) (Q : VK) (E : XK), aeC k A -> arD P w K mg base A outer s H -> BindsTo s fd args (ps.zip us) -> Vals vs us -> sp vs H Q E ->
  codeAny (model P w) A (.call (.ref f) args) (CR CX outer P w H s Q E) s
theorem aiu.mono {P : Program} {w : World} {K : PySem.W.Frag} {mg : Str -> Option Value} {base : Heap} {CX : CXT} {j k : Nat} {f : Addr} {fd : FuncData} {ps : List Str} {sp : Sp} (F : aiu P w K mg base CX j f fd ps sp) (h : j <= k) :
  aiu P w K mg base CX k f fd ps sp := ⟨F.len, λA outer s H args us vs Q E hr => F.run A outer s H args us vs Q E (hr.mono h)⟩
theorem aiu.imp {P : Program} {w : World} {K : PySem.W.Frag} {mg : Str -> Option Value} {base : Heap} {CX : CXT} {k : Nat} {f : Addr} {fd : FuncData} {ps : List Str} {sp sp' : Sp} (F : aiu P w K mg base CX k f fd ps sp)
  (h : ∀ vs H Q E, sp' vs H Q E -> sp vs H Q E) : aiu P w K mg base CX k f fd ps sp' :=
 ⟨λvs H Q E q => F.len vs H Q E (h _ _ _ _ q), λA outer s H args us vs Q E hr he hb hv hs => F.run A outer s H args us vs Q E hr he hb hv (h _ _ _ _ hs)⟩
section
variable {X : Cx} {pins : List (Addr × Obj)} {σ : St} {H : Hp} {s s' : Shared}
theorem Inv.env0 (I : Inv X pins σ H s) : arD X.prog X.w X.K X.mg X.base X.A X.stack s H :=
 ⟨I.ok.frames, I.ok.mod, I.bs, Nat.le_trans I.ok.bsz I.sz, I.stack, I.aeV, I.hok, I.bare⟩
theorem Inv.after {Q : VK} {u : Value} (I : Inv X pins σ H s) (h : CE X.stack X.prog X.w H s Q u s') : EP X pins σ Q u s' := by
 obtain ⟨v, H', os, bare, un, hok, r, q⟩ := h
 obtain ⟨hh, g, d, t, os'⟩ := s'
 obtain rfl : os' = s.os := os
 exact ⟨v, H', I.call (h' := hh) (g' := g) (d' := d) (t' := t) (ch := []) un hok bare (λb z => absurd z (by simp)), r, q⟩
end
noncomputable def agC (sp : Sp) (dvs : List V) (E : XK) (t : TA) : TE := λσ H Q => t σ H λvs H1 => sp (vs ++ dvs) H1 Q E
noncomputable def Binds (K : PySem.W.Frag) (fd : FuncData) (ps : List Str) (ds : List Value) : Prop :=
 ∀ (s : Shared) (us : List Value), K.In s.heap -> (us ++ ds).length = ps.length -> BindsTo s fd ⟨us, []⟩ (ps.zip (us ++ ds))
theorem Binds.all {K : PySem.W.Frag} {fd : FuncData} {ps : List Str} (h : ∀ us : List Value, us.length = ps.length -> bindArgs fd ⟨us, []⟩ = pure (ps.zip us)) : Binds K fd ps [] := λs us _ hl => by
 rw [List.append_nil] at hl ⊢
 exact .of_eq (h us hl)
noncomputable def Passes (CX : CXT) (X : Cx) (E : XK) : Prop := ∀ (pins : List (Addr × Obj)) (σ : St) (H : Hp) (s : Shared) (e : Value) (s' : Shared), Inv X pins σ H s -> CX X.stack H s E e s' -> X.xe e s'
section
variable {X : Cx} {CX : CXT} {k : Nat} {f C : Addr} {fd : FuncData} {ps : List Str} {sp : Sp} {dvs : List V} {ds : List Value} {E : XK} {x m : Str} {p pos apos : Pos} {e o : Expr} {es : List Expr} {ta : TE} {t : TA}
theorem apu {pins : List (Addr × Obj)} {σ : St} {H : Hp} {s : Shared} {Q : VK} {us : List Value} {vs : List V} (F : aiu X.prog X.w X.K X.mg X.base CX k f fd ps sp) (hr : aeC k X.A) (hb : Binds X.K fd ps ds) (hd : Vals dvs ds) (hx : Passes CX X E)
  (I : Inv X pins σ H s) (r : Vals vs us) (h : sp (vs ++ dvs) H Q E) : wpAny (model X.prog X.w) X.A (call (.ref f) us) (EP X pins σ Q) X.xe s := by
 have r2 : Vals (vs ++ dvs) (us ++ ds) := r.append hd
 have hl : (us ++ ds).length = ps.length := by rw [<-r2.length]; exact F.len _ _ _ _ h
 refine wpAny_call (codeAny_mono (F.run X.A X.stack s H ⟨us, []⟩ (us ++ ds) (vs ++ dvs) Q E hr I.env0 (hb s us I.kIn hl) r2 h) λr s' hq => ?_)
 cases r with
 | error e => exact hx pins σ H s e s' I hq
 | ok fl =>
  cases fl with
  | ret u => exact I.after hq
  | next => exact False.elim hq
  | brk => exact False.elim hq
  | cont => exact False.elim hq
theorem anz (F : aiu X.prog X.w X.K X.mg X.base CX k f fd ps sp) (hr : aeC k X.A) (hg : Gl X x) (hm : X.mg x = some (.ref f)) (hk : PySem.W.keepIn X.K (.ref f) = true) (hb : Binds X.K fd ps ds) (hd : Vals dvs ds) (hx : Passes CX X E)
  (ha : PA X (e :: es) t) (hdb : (x == ("__debug__" : Str)) = false := by decide) (he : starEach (e :: es) X.env = (false, eval e X.env) :: starEach es X.env := by rfl) (hpl : (backTo pos (starEach es X.env)).any (·.1) = false := by rfl) :
  PE X (.Call (.Name x p) (e :: es) [] pos) (agC sp dvs E t) := by
 intro pins s σ H Q I h
 refine wpAny_Call_Name_kw (aeW I hg hm ?_ hdb)
 refine PySem.W.callWith_K (h₀ := X.base) I.ok.mod.kin hk (thn (ha pos pins s σ H _ I h) λus s1 ⟨vs, H1, I1, r, q⟩ => ⟨I1.kIn, ?_⟩) he hpl
 exact apu F hr hb hd hx I1 r q
end
section
variable {X : Cx} {CX : CXT} {k : Nat} {f C : Addr} {fd : FuncData} {ps ks : List Str} {sp : Sp} {E : XK} {x m : Str} {p pos apos kpos : Pos} {e o : Expr} {es : List Expr} {kws : List Keyword} {te ta : TE} {t tk : TA} {nm : Option Str}
variable {g : List Value -> List Value -> List Value} {gV : List V -> List V -> List V}
end
structure aaL (N P : List Str) (sc : Scope) : Prop where
 kind : sc.kind = .function
 co : sc.isCoroutine = false
 gen : sc.isGenerator = false
 nd : N.Nodup
 pre : N.take P.length = P
 par : ∀ x ∈ P, sc.names.lookup x = some .local \/ sc.names.lookup x = some .cell
 apv : ∀ y ∈ sc.names, y.2 ≠ .free
theorem agD {kindOf : Str -> Option NameKind} {x : Str} : ∀ {binds : List (Str × Value)} {m : Str -> Option Value}, (∀ v, (x, v) ∉ binds) -> bindL kindOf binds m x = m x
 | [], _, _ => rfl
 | (n, v) :: r, m, h => by
  unfold bindL
  rw [agD λw hw => h w (List.mem_cons_of_mem _ hw)]
  split
  ·have : x ≠ n := by rintro rfl; exact h v List.mem_cons_self
   simp [this]
  ·rfl
theorem agE {kindOf : Str -> Option NameKind} {x : Str} : ∀ {binds : List (Str × Value)} {m : Str -> Option Value}, (∀ v, (x, v) ∉ binds) -> bindC kindOf binds m x = m x
 | [], _, _ => rfl
 | (n, v) :: r, m, h => by
  unfold bindC
  rw [agE λw hw => h w (List.mem_cons_of_mem _ hw)]
  split
  ·rfl
  ·have : x ≠ n := by rintro rfl; exact h v List.mem_cons_self
   simp [this]
theorem agF {kindOf : Str -> Option NameKind} {x : Str} {v : Value} : ∀ {P : List Str} {vs : List Value} {i : Nat} {m : Str -> Option Value}, P.Nodup -> P[i]? = some x -> vs[i]? = some v -> kindOf x = some .local ->
  bindL kindOf (P.zip vs) m x = some v
 | [], _, _, _, _, h, _, _ => by simp at h
 | _ :: _, [], _, _, _, _, h, _ => by simp at h
 | p :: P, w :: vs, 0, m, nd, h1, h2, hk => by
  simp at h1 h2; subst h1; subst h2
  show bindL kindOf ((p, w) :: P.zip vs) m p = _
  unfold bindL
  rw [agD λv hv => (List.nodup_cons.mp nd).1 (List.of_mem_zip hv).1, if_pos hk]
  simp
 | p :: P, w :: vs, i + 1, m, nd, h1, h2, hk => by
  show bindL kindOf ((p, w) :: P.zip vs) m x = _
  unfold bindL
  exact agF (i := i) (List.nodup_cons.mp nd).2 (by simpa using h1) (by simpa using h2) hk
theorem agG {kindOf : Str -> Option NameKind} {x : Str} {v : Value} : ∀ {P : List Str} {vs : List Value} {i : Nat} {m : Str -> Option Value}, P.Nodup -> P[i]? = some x -> vs[i]? = some v -> kindOf x ≠ some .local ->
  bindC kindOf (P.zip vs) m x = some v
 | [], _, _, _, _, h, _, _ => by simp at h
 | _ :: _, [], _, _, _, _, h, _ => by simp at h
 | p :: P, w :: vs, 0, m, nd, h1, h2, hk => by
  simp at h1 h2; subst h1; subst h2
  show bindC kindOf ((p, w) :: P.zip vs) m p = _
  unfold bindC
  rw [agE λv hv => (List.nodup_cons.mp nd).1 (List.of_mem_zip hv).1, if_neg hk]
  simp
 | p :: P, w :: vs, i + 1, m, nd, h1, h2, hk => by
  show bindC kindOf ((p, w) :: P.zip vs) m x = _
  unfold bindC
  exact agG (i := i) (List.nodup_cons.mp nd).2 (by simpa using h1) (by simpa using h2) hk
noncomputable def start (N : List Str) (vs : List V) : St := vs.map some ++ List.replicate (N.length - vs.length) none
noncomputable def ajN (CX : CXT) (P : Program) (w : World) (K : PySem.W.Frag) (mg : Str -> Option Value) (base : Heap) (N : List Str) (qual : Str) (scope : Scope) (f : Addr) (cd : Value) (A : Around) (outer : List Env) (s : Shared) (H : Hp) (E : XK) : Cx where
 prog := P
 w := w
 K := K
 mg := mg
 base := base
 A := A.deeper (envOfC qual scope s.heap.objs.size f cd)
 N := N
 s₀ := s
 H₀ := H
 env := envOfC qual scope s.heap.objs.size f cd
 outer := outer
 stack := envOfC qual scope s.heap.objs.size f cd :: outer
 ex := []
 calm := true
 fn := λ_ => true
 pn := []
 xe := λe s' => wpAny (model P w) (A.deeper (envOfC qual scope s.heap.objs.size f cd)) (leaving (envOfC qual scope s.heap.objs.size f cd) e) (λ_ s'' => CX outer H s E e s'') (λe' s'' => CX outer H s E e' s'') s'
theorem aiv {sc : Scope} {n : Nat} {x : Str} (h : sc.names.lookup x = some .cell) : ∃ c, (cellsFrom n sc.names []).lookup x = some c := by
 have q := PySem.W.cellsFrom_some sc.names n [] (.inl h)
 exact Option.isSome_iff_exists.mp q
theorem aj7 {CX : CXT} {P : Program} {w : World} {K : PySem.W.Frag} {mg : Str -> Option Value} {base : Heap} {N ps : List Str} {qual : Str} {scope : Scope} {f : Addr} {cd : Value} {A : Around} {outer : List Env} {s s1 : Shared} {H : Hp} {E : XK} {us : List Value} {vs : List V}
  (S : aaL N ps scope) (hd : A.handled = none) (e0 : arD P w K mg base A outer s H) (hl : vs.length = ps.length) (r : Vals vs us)
  (x : InCallC s s.heap.objs.size (bindL (envOfC qual scope s.heap.objs.size f cd).kindOf (ps.zip us) λ_ => none) (cellsFrom (s.heap.objs.size + 1) scope.names []) (bindC (envOfC qual scope s.heap.objs.size f cd).kindOf (ps.zip us) λ_ => none) s1) :
  Inv (ajN CX P w K mg base N qual scope f cd A outer s H E) [] (start N vs) H s1 := by
 have hpl : ps.length <= N.length := by have := congrArg List.length S.pre; rw [List.length_take] at this; omega
 obtain ⟨h1, tk, rfl, hk⟩ := x.done
 have noA : ∀ b : Addr, b ∉ (ajN CX P w K mg base N qual scope f cd A outer s H E).ex := λb z => absurd (show b ∈ ([] : List Addr) from z) (by simp)
 refine ⟨⟨e0.mod, S.kind, rfl, rfl, Nat.le_refl _, λy z c h1 h2 => ?_, λy hy => ?_, λy c _ h => ?_, λ_ => hd, Around.frames_deeper e0.frames, .inr ⟨rfl, rfl⟩, λb z => absurd z (noA b), e0.bs, e0.bsz, λb _ _ => noA b, λb z => absurd z (noA b), e0.aiZ, e0.frf⟩,
  rfl, e0.bare, Un.kept hk, ⟨_, x.toInCall.ns, λi y v h1 h2 h3 => ?_⟩, λy c h => ⟨_, x.cell y c h⟩, e0.hok.fresh (Nat.le_refl _), λy c h => ?_, λp hp => absurd (show p ∈ ([] : List (Addr × Obj)) from hp) (by simp), e0.hok.kept hk, ?_⟩
 ·exact name_of_addr x.apart (PySem.mem_of_lookup h1) (PySem.mem_of_lookup h2)
 ·have hy : scope.names.lookup y = some .cell \/ scope.names.lookup y = some .free := hy
  rcases hy with hy | hy
  ·exact aiv hy
  ·exact absurd rfl (S.apv _ (PySem.mem_of_lookup hy))
 ·exact Nat.le_of_lt (x.above y c (PySem.mem_of_lookup h))
 ·have hi : i < vs.length := by
   unfold start at h2
   by_cases hi : i < vs.length
   ·exact hi
   ·rw [List.getElem?_append_right (by simpa using hi)] at h2
    rw [List.getElem?_replicate] at h2
    split at h2 <;> cases h2
  have ha : vs[i]? = some v := by
   unfold start at h2
   rw [List.getElem?_append_left (by simpa using hi), List.getElem?_map] at h2
   cases e : vs[i]? with
   | none => rw [e] at h2; cases h2
   | some a => rw [e] at h2; cases h2; rfl
  obtain ⟨u, hu, rv⟩ := r.get ha
  have hp : ps[i]? = some y := by
   rw [<-S.pre, List.getElem?_take_of_lt (by omega)]; exact h1
  have ndP : ps.Nodup := by rw [<-S.pre]; exact S.nd.sublist (List.take_sublist _ _)
  refine ⟨u, rv, ?_⟩
  rcases S.par y (List.mem_of_getElem? hp) with k | k
  ·exact .inl ⟨k, agF ndP hp hu k⟩
  ·obtain ⟨c, e⟩ := aiv (n := s.heap.objs.size + 1) k
   refine .inr ⟨.inl k, c, e, ?_⟩
   have q := x.cell y c e
   rw [agG ndP hp hu (by show scope.names.lookup y ≠ _; rw [k]; decide)] at q
   exact q
 ·exact e0.hok.fresh (Nat.le_of_lt (x.above y c (PySem.mem_of_lookup h)))
 ·unfold start
  show _ = N.length
  rw [List.length_append, List.length_map, List.length_replicate]
  omega
theorem arY {CX : CXT} {P : Program} {w : World} {K : PySem.W.Frag} {mg : Str -> Option Value} {base : Heap} {k : Nat} {f : Addr} {name qual : Str} {params : Arguments} {body : List Stmt} {scope : Scope} {dV kV doc pm cdv ct oc : Value} {an od : Option Addr}
  {osl : Array (Option Value)} {N ps : List Str} {sp : Sp} (lk : K.lookup f = some ⟨oc, od, .func (PySem.W.fnOf name qual params body scope dV kV doc pm an cdv ct), osl⟩) (hcd : PySem.W.codeIn K cdv qual = true) (S : aaL N ps scope)
  (len : ∀ vs H Q E, sp vs H Q E -> vs.length = ps.length)
  (hbody : ∀ (A : Around) (outer : List Env) (s : Shared) (H : Hp) (vs : List V) (Q : VK) (E : XK), aeC k (A.deeper (envOfC qual scope s.heap.objs.size f cdv)) -> sp vs H Q E ->
   ∃ t, PSs (ajN CX P w K mg base N qual scope f cdv A outer s H E) body t /\ t { nx := λ_ H' => Q .non H', rt := Q } (start N vs) H) :
  aiu P w K mg base CX (k + 1) f (PySem.W.fnOf name qual params body scope dV kV doc pm an cdv ct) ps sp := by
 refine ⟨len, λA outer s H args us vs Q E hr e0 hb r hsp => ?_⟩
 have hl := len _ _ _ _ hsp
 have KX : K.In s.heap := e0.mod.kin.keeps λb o e => (e0.bs b o e).1
 have lim : s.heap.NoLimit := e0.mod.nolimit.keeps λb o e => (e0.bs b o e).1
 have hkind : ∀ y ∈ ps.zip us, scope.names.lookup y.1 = some .local \/ (scope.names.lookup y.1 = some .cell /\ ((cellsFrom (s.heap.objs.size + 1) scope.names []).lookup y.1).isSome = true) := λ⟨n, v⟩ hy => by
  rcases S.par n (List.of_mem_zip hy).1 with q | q
  ·exact .inl q
  ·exact .inr ⟨q, PySem.W.cellsFrom_some _ _ _ (.inl q)⟩
 refine codeAny_call_function hr.depth (KX _ _ lk) rfl S.co S.gen rfl (PySem.W.codeRec_of KX hcd) (hb _ _ _ _ ?_)
 refine wpAny_newFunctionEnv_cells S.kind hkind λenv he s1 x => ?_
 subst he
 refine ⟨lim.keeps x.toInCall.keep, codeAny_func ?_⟩
 obtain ⟨t, ht, hq⟩ := hbody A outer s H vs Q E (hr.deeper _) hsp
 have I : Inv (ajN CX P w K mg base N qual scope f cdv A outer s H E) [] (start N vs) H s1 := aj7 S hr.hd e0 hl r x
 refine wpAny_mono (ht [] s1 (start N vs) H _ I hq) (λfl s' hs => ?_) λe s' hs => hs
 have fin : ∀ {σ' : St} {H' : Hp} {v : V} {u : Value}, Inv (ajN CX P w K mg base N qual scope f cdv A outer s H E) [] σ' H' s' -> RelV v u -> Q v H' -> CE outer P w H s Q u s' :=
  λ{σ' H' v u} J rv q => ⟨v, H', J.os, J.bare, J.base, J.hok, rv, q⟩
 cases fl with
 | ret u =>
  obtain ⟨v, σ', H', J, rv, q⟩ := hs
  exact fin J rv q
 | next =>
  obtain ⟨σ', H', J, q⟩ := hs
  exact fin (v := V.non) (u := Value.none) J rfl q
 | brk =>
  obtain ⟨_, _, _, q⟩ := hs
  exact False.elim q
 | cont =>
  obtain ⟨_, _, _, q⟩ := hs
  exact False.elim q
end L2
namespace L2
open PySem PySem.Spec PyProof.Rows
section
variable {X : Cx} {x : Str} {p pos : Pos} {e : Expr} {es : List Expr} {t : TA} {id T : String} {r : List V -> Hp -> VK -> Prop}
noncomputable def tCB (r : List V -> Hp -> VK -> Prop) (t : TA) : TE := λσ H Q => t σ H λvs H1 => r vs H1 Q
theorem aeM (hc : ab6 X (.builtin id) r) (hg : Gl X x) (hm : X.mg x = none) (hv : bootBuiltins x = some (.builtin id)) (ha : PA X (e :: es) t) (hn : x ≠ "__name__" := by decide) (hdb : (x == ("__debug__" : Str)) = false := by decide)
  (he : starEach (e :: es) X.env = (false, eval e X.env) :: starEach es X.env := by rfl) (hpl : (backTo pos (starEach es X.env)).any (·.1) = false := by rfl) : PE X (.Call (.Name x p) (e :: es) [] pos) (tCB r t) := by
 intro pins s σ H Q I h
 refine wpAny_Call_Name_kw (aft I hg hm hv ?_ hn hdb)
 exact PyProof.Rows.callWith_builtin1 (thn (ha pos pins s σ H _ I h) λus s1 ⟨vs, H1, I1, r1, q1⟩ => hc pins s1 σ H1 vs us Q I1 r1 q1) he hpl
theorem aj8 (hc : ab6 X (.type T) r) (hg : Gl X x) (hm : X.mg x = none) (hv : bootBuiltins x = some (.type T)) (ha : PA X (e :: es) t) (hn : x ≠ "__name__" := by decide) (hdb : (x == ("__debug__" : Str)) = false := by decide)
  (he : starEach (e :: es) X.env = (false, eval e X.env) :: starEach es X.env := by rfl) (hpl : (backTo pos (starEach es X.env)).any (·.1) = false := by rfl) : PE X (.Call (.Name x p) (e :: es) [] pos) (tCB r t) := by
 intro pins s σ H Q I h
 refine wpAny_Call_Name_kw (aft I hg hm hv ?_ hn hdb)
 exact PyProof.Rows.callWith_type1 (thn (ha pos pins s σ H _ I h) λus s1 ⟨vs, H1, I1, r1, q1⟩ => hc pins s1 σ H1 vs us Q I1 r1 q1) he hpl
end
end L2
namespace HT
open PySem PyProof.Rows
noncomputable def lexLt : List Int -> List Int -> Bool
 | [], [] => false
 | [], _ :: _ => true
 | _ :: _, [] => false
 | x :: xs, y :: ys => if x = y then lexLt xs ys else decide (x < y)
theorem ai5 (x y : Int) (xs ys : List Int) : lexLt (x :: xs) (y :: ys) = if x = y then lexLt xs ys else decide (x < y) := rfl
theorem afO : lexLt [] [] = false := rfl
theorem afn (y : Int) (ys : List Int) : lexLt [] (y :: ys) = true := rfl
theorem afo (x : Int) (xs : List Int) : lexLt (x :: xs) [] = false := rfl
theorem alA (A : Around) (s : Shared) (a : Int) (t : Tok) (c : Int) (u : Tok) : ∃ e, SeqAt.EqAt A s (.int a t) (.int c u) e /\ (e = true ↔ a = c) :=
 ⟨(a == c), SeqAt.EqAt.int_int a t c u, by simp⟩
theorem alB (A : Around) (s : Shared) (a : Int) (t : Tok) (c : Int) (u : Tok) (prog : Program) (w : World) (E : Value -> Shared -> Prop) (Q : Value -> Shared -> Prop) (h : Q (.bool (decide (a < c))) s) :
  wpAny (model prog w) A (richCompare .Lt (.int a t) (.int c u)) Q E s :=
 (PyProof.Rows.lt_int h : wpAny (model prog w) A (compareOp .Lt (.int a t) (.int c u)) Q E s)
section
open PySem.SeqAt
open PySem.AutoSeq1 (wpAny_loadPart')
open PySem.MeetsSeq PySem.MeetsSeq2 PySem.MeetsSeq3
theorem afP (l b : Addr) (items items2 : Array Value) (n n2 : Nat) (dd dd2 : Option Addr) (sl sl2 : Array (Option Value)) (ns ms : List Int) (hi : IntsAre items.toList ns) (hj : IntsAre items2.toList ms) :
  Meets (Builtin.«tuple.__lt__» ⟨[.ref l, .ref b], []⟩)
   (λ_ R s => s.heap.get? l = some { cls := .type "tuple", dict := dd, data := .seq items n, slots := sl } ∧ s.heap.get? b = some { cls := .type "tuple", dict := dd2, data := .seq items2 n2, slots := sl2 } ∧
    R (.ok (.ret (.bool (lexLt ns ms)))) s) :=
 .of_wp λprog w A R s h => by
  obtain ⟨hp, g, d, tk, os⟩ := s; obtain ⟨hl, hb, h⟩ := h
  have f2 := AutoSeq1.sub_tuple_tuple
  have z1 : items.size = ns.length := by rw [<-hi.length]; simp
  have z2 : items2.size = ms.length := by rw [<-hj.length]; simp
  wp_walk using wpAny_loadPart' hl, wpAny_loadPart' hb, wpAny_forIn_list _ (λrest b s' => b.1 = none /\ s' = ⟨hp, g, d, tk, os⟩ /\ ∃ (vs ws : List Value) (ns' ms' : List Int), rest = vs.zip ws /\
   IntsAre vs ns' /\ IntsAre ws ms' /\ ns'.length + items2.size = ms'.length + items.size /\ R (.ok (.ret (.bool (lexLt ns' ms')))) ⟨hp, g, d, tk, os⟩) _
  case turn =>
   rintro ⟨y, x⟩ rest b s' ⟨hb', rfl, vs, ws, ns', ms', hz, hvi, hwi, hlen, hR⟩
   cases hvi with
   | nil => rw [List.zip_nil_left] at hz; cases hz
   | cons a t auU =>
    cases hwi with
    | nil => rw [List.zip_nil_right] at hz; cases hz
    | cons c u auV =>
     rw [List.zip_cons_cons] at hz
     injection hz with hyx hrest
     injection hyx with hy hx
     subst hy hx
     rw [ai5] at hR
     simp only [List.length_cons] at hlen
     obtain ⟨e, he, hiff⟩ := alA A.in1 ⟨hp, g, d, tk, os⟩ a t c u
     refine wpAny_bind (he prog w _ _ ?_)
     cases e with
     | true =>
      rw [if_pos (hiff.mp rfl)] at hR
      wp_walk
      exact ⟨rfl, rfl, _, _, _, _, hrest, auU, auV, by omega, hR⟩
     | false =>
      rw [if_neg (λq => absurd (hiff.mpr q) Bool.false_ne_true)] at hR
      have hri := alB A.in1 ⟨hp, g, d, tk, os⟩ a t c u prog w
      wp_walk using hri
      exact ⟨_, rfl, by simpa using hR⟩
  case fin =>
   rintro ⟨b1, b2⟩ s' ⟨hb', rfl, vs, ws, ns', ms', hz, hvi, hwi, hlen, hR⟩
   simp only at hb'
   subst hb'
   have hv : lexLt ns' ms' = decide (items.size < items2.size) := by
    cases hvi with
    | nil =>
     cases hwi with
     | nil =>
      simp only [List.length_nil] at hlen
      rw [afO]
      exact (decide_eq_false (by omega)).symm
     | cons c u hw =>
      simp only [List.length_nil, List.length_cons] at hlen
      rw [afn]
      exact (decide_eq_true (by omega)).symm
    | cons a t hv =>
     cases hwi with
     | nil =>
      simp only [List.length_nil, List.length_cons] at hlen
      rw [afo]
      exact (decide_eq_false (by omega)).symm
     | cons c u hw =>
      rw [List.zip_cons_cons] at hz
      cases hz
   rw [hv] at hR
   wp_walk
   exact ⟨_, rfl, by simpa [Builtin.Tuple.tupleCompareSizes] using hR⟩
  case h =>
   exact ⟨rfl, rfl, items.toList, items2.toList, ns, ms, rfl, hi, hj, by omega, h⟩
end
section
variable {prog : Program} {w : World} {A : Around} {E : Value -> Shared -> Prop} {s : Shared}
theorem ai6 {l b : Addr} {items items2 : Array Value} {ns ms : List Int} {Q : Value -> Shared -> Prop} (hl : IsTup s.heap l items) (hb : IsTup s.heap b items2) (hi : IntsAre items.toList ns) (hj : IntsAre items2.toList ms)
  (hu : A.units < cLine) (h : Q (.bool (lexLt ns ms)) s) : wpAny (model prog w) A (compareOp .Lt (.ref l) (.ref b)) Q E s := by
 obtain ⟨⟨cls, dd, data, sl⟩, ho, hc, n, hd⟩ := id hl
 obtain ⟨⟨cls2, dd2, data2, sl2⟩, ho2, hc2, n2, hd2⟩ := id hb
 simp only at hc hd hc2 hd2
 subst hc hd hc2 hd2
 exact richCompare_meets_room (op := .Lt) ⟨_, ho, rfl⟩ ⟨_, ho2, rfl⟩ PySem.F.slot_tuple_lt PySem.F.entry_tuple_lt (PySem.F.args_tuple_lt_2 _ _) (afP l b items items2 n n2 dd dd2 sl sl2 ns ms hi hj)
  ⟨ho, ho2, show Value.bool (lexLt ns ms) ≠ Value.notImplemented /\ Q (.bool (lexLt ns ms)) s from ⟨(λx => nomatch x), h⟩⟩ hu
theorem anA {t b : Addr} {vs ws : List Value} {Q : Value -> Shared -> Prop} (ht : IsTup s.heap t vs.toArray) (hb : IsTup s.heap b ws.toArray) (hv : vs ≠ [])
  (h1 : ws = [] -> Q (.ref t) s) (h2 : ws ≠ [] -> Q (.ref s.heap.objs.size) { s with heap := s.heap.push { cls := .type "tuple", data := .seq (vs ++ ws).toArray } })
  (hsz : vs.length + ws.length <= sizeLine) : wpAny (model prog w) A (binaryOp .Add (.ref t) (.ref b)) Q E s := by
 obtain ⟨⟨cls, dd, data, sl⟩, ho, hc, n, hd⟩ := id ht
 obtain ⟨⟨cls2, dd2, data2, sl2⟩, ho2, hc2, n2, hd2⟩ := id hb
 simp only at hc hd hc2 hd2
 subst hc hd hc2 hd2
 have e : vs.toArray ++ ws.toArray = (vs ++ ws).toArray := by simp
 by_cases hw : ws = []
 ·exact concat_meets ⟨_, ho, rfl⟩ ⟨_, ho2, rfl⟩ noFill_tuple_add seq_tuple_add PySem.F.slot_tuple_add PySem.F.entry_tuple_add (PySem.F.args_tuple_add_2 _ _)
   (tuple_addW1 t b vs.toArray ws.toArray n n2 dd dd2 sl sl2 (by simpa using hv) (by simp [hw])) ⟨ho, ho2, h1 hw⟩
 ·refine concat_meets ⟨_, ho, rfl⟩ ⟨_, ho2, rfl⟩ noFill_tuple_add seq_tuple_add PySem.F.slot_tuple_add PySem.F.entry_tuple_add (PySem.F.args_tuple_add_2 _ _)
   (tuple_addW2 t b vs.toArray ws.toArray n n2 dd dd2 sl sl2 (by simpa using hv) (by simpa using hw) (by rw [List.size_toArray, List.size_toArray]; exact hsz)) ⟨ho, ho2, ?_⟩
  rw [e]
  exact h2 hw
noncomputable def sIx (n d : Nat) : Option Int -> Nat
 | none => d
 | some v => if v < 0 then (v + (n : Int)).toNat else min v.toNat n
theorem apw (n d : Nat) (hd : d <= n) (o : Option Int) : sIx n d o <= n := by
 cases o with
 | none => exact hd
 | some v =>
  show (if v < 0 then (v + (n : Int)).toNat else min v.toNat n) <= n
  by_cases hv : v < 0
  ·rw [if_pos hv]; omega
  ·rw [if_neg hv]; exact Nat.min_le_right _ _
theorem aj9 (v : Int) (n d : Nat) : (if v < 0 then max (v + (n : Int)) 0 else min v (n : Int)) = ((sIx n d (some v) : Nat) : Int) := by
 show (if v < 0 then max (v + (n : Int)) 0 else min v (n : Int)) = (((if v < 0 then (v + (n : Int)).toNat else min v.toNat n) : Nat) : Int)
 by_cases hv : v < 0
 ·simp only [if_pos hv]; omega
 ·simp only [if_neg hv]; omega
theorem ai7 (lo hi : Option Int) (n : Nat) : Builtin.Slice.sliceAdjust lo hi 1 (n : Int) = (((sIx n 0 lo : Nat) : Int), ((sIx n n hi : Nat) : Int)) := by
 have h1 : ¬ ((1 : Int) < 0) := by omega
 unfold Builtin.Slice.sliceAdjust
 simp only [h1, if_false]
 refine Prod.ext ?_ ?_
 ·cases lo with
  | none => rfl
  | some v => exact aj9 v n 0
 ·cases hi with
  | none => rfl
  | some v => exact aj9 v n n
theorem ai8 (i j : Nat) : Builtin.Slice.slicePlaces (i : Int) (j : Int) 1 = j - i := by
 unfold Builtin.Slice.slicePlaces
 have h1 : (1 : Int) > 0 := by omega
 simp only [h1, if_true, Int.ediv_one]
 split <;> omega
theorem afv {v : Value} {o : Option Int} {Q : Option Int -> Shared -> Prop} (p : IsPart v o) (h : Q o s) : wpAny (model prog w) A (Builtin.Slice.slicePartIndex v) Q E s := by
 cases p with
 | none => exact slicePart_none h
 | int i t => exact slicePart_int h
theorem aeD {sl : Addr} {vl vu : Value} {lo hi : Option Int} {n : Nat} {Q : Int × Int × Nat -> Shared -> Prop} (hs : s.heap.IsSliceOf sl vl vu .none) (pl : IsPart vl lo) (pu : IsPart vu hi)
  (h : Q (((sIx n 0 lo : Nat) : Int), 1, sIx n n hi - sIx n 0 lo) s) : wpAny (model prog w) A (Builtin.Slice.sliceApplied (.ref sl) (pure (n : Int))) Q E s := by
 obtain ⟨os, hos, hcs, hds⟩ := id hs
 unfold Builtin.Slice.sliceApplied Builtin.Slice.sliceFields
 refine wpAny_bind (wpAny_bind (wpAny_field hos hds (x := vl) rfl (wpAny_bind (wpAny_field hos hds (x := vu) rfl (wpAny_bind (wpAny_field hos hds (x := .none) rfl (wpAny_pure ?_)))))))
 refine wpAny_bind (slicePart_none ?_)
 show wpAny _ _ (if ((1 : Int) == 0) = true then _ else _) _ _ s
 rw [if_neg (by decide)]
 refine wpAny_bind (afv pl (wpAny_bind (afv pu (wpAny_bind (wpAny_pure ?_)))))
 show wpAny _ _ (match Builtin.Slice.sliceAdjust lo hi 1 (n : Int) with | (lo, hi) => pure (lo, (1 : Int), Builtin.Slice.slicePlaces lo hi 1)) _ _ s
 rw [ai7 lo hi n]
 show wpAny _ _ (pure (((sIx n 0 lo : Nat) : Int), (1 : Int), Builtin.Slice.slicePlaces ((sIx n 0 lo : Nat) : Int) ((sIx n n hi : Nat) : Int) 1)) _ _ s
 rw [ai8]
 exact wpAny_pure h
theorem alC (xs : Array Value) (i k : Nat) : ((List.range k).filterMap λ(m : Nat) => xs[((i : Int) + (m : Int) * 1).toNat]?).toArray = ((xs.toList.drop i).take k).toArray := by
 have e : (λ(m : Nat) => xs[((i : Int) + (m : Int) * 1).toNat]?) = λm => xs[i + m]? := by
  funext m
  have : ((i : Int) + (m : Int) * 1).toNat = i + m := by omega
  rw [this]
 rw [e]
 have := pick_run xs i k
 rw [List.filterMap_map] at this
 have e2 : ((λx => xs[x]?) ∘ λx => i + x) = λm => xs[i + m]? := rfl
 rw [e2] at this
 rw [this]
theorem ad6 {t sl : Addr} {items : Array Value} {vl vu : Value} {lo hi : Option Int} {Q : Value -> Shared -> Prop} (ht : IsTup s.heap t items) (hs : s.heap.IsSliceOf sl vl vu .none) (pl : IsPart vl lo) (pu : IsPart vu hi)
  (hw : ¬ (sIx items.size 0 lo = 0 /\ sIx items.size items.size hi = items.size))
  (h : Q (.ref s.heap.objs.size) { s with heap := s.heap.push { cls := .type "tuple", data := .seq ((items.toList.drop (sIx items.size 0 lo)).take (sIx items.size items.size hi - sIx items.size 0 lo)).toArray } })
  (hsz : items.size <= sizeLine) : wpAny (model prog w) A (getItem (.ref t) (.ref sl)) Q E s := by
 have alD : sizeOk (.seq ((items.toList.drop (sIx items.size 0 lo)).take (sIx items.size items.size hi - sIx items.size 0 lo)).toArray) := by
  show ((items.toList.drop (sIx items.size 0 lo)).take (sIx items.size items.size hi - sIx items.size 0 lo)).toArray.size <= sizeLine
  rw [List.size_toArray, List.length_take, List.length_drop, Array.length_toList]
  omega
 have hj : sIx items.size items.size hi <= items.size := apw _ _ (Nat.le_refl _) hi
 obtain ⟨os, hos, hcs, hds⟩ := id hs
 have hTs : s.TypeIs (.ref sl) "slice" := ⟨os, hos, hcs⟩
 unfold getItem
 try with_reducible refine wpAny_holding ?_
 first | refine wpAny_bind (wpAny_pure ?_) | skip
 refine wpAny_bind (wpAny_sequenceKey ht.typeIs (by decide) ?_)
 refine wpAny_bind (wpAny_callSpecial?_slot (name := Str.ofString "__getitem__") ht.typeIs PyProof.Rows.slot_tuple_getitem
  (wpAny_call_entry PyProof.Rows.slot_tuple_getitem ht.typeIs entry_tuple_getitem ?_ (args_tuple_getitem _ _)))
 show wpAny _ _ (Builtin.Tuple.tupleItemsOf (.ref t) >>= _) _ _ s
 refine wpAny_bind (tupleItemsOf_ ht ?_)
 refine wpAny_bind (wpAny_typeOf hTs ?_)
 rw [if_pos (by decide)]
 refine wpAny_bind (aeD hs pl pu ?_)
 have hno : ¬ ((((sIx items.size 0 lo : Nat) : Int) == 0 && (1 : Int) == 1 && (sIx items.size items.size hi - sIx items.size 0 lo) == items.size) = true) := by
  intro q
  rw [Bool.and_eq_true, Bool.and_eq_true] at q
  have q1 : ((sIx items.size 0 lo : Nat) : Int) = 0 := eq_of_beq q.1.1
  have q2 : sIx items.size items.size hi - sIx items.size 0 lo = items.size := eq_of_beq q.2
  exact hw ⟨by omega, by omega⟩
 show wpAny _ _ (if (((sIx items.size 0 lo : Nat) : Int) == 0 && (1 : Int) == 1 && (sIx items.size items.size hi - sIx items.size 0 lo) == items.size) = true then _ else _) _ _ s
 rw [if_neg hno, alC]
 first
  | exact wpAny_bind (m := Builtin.Tuple.tupleExact _) (wpAny_newObj_type (wpAny_pure ⟨_, rfl, wpAny_pure h⟩) alD)
  | exact wpAny_bind (m := Builtin.Tuple.tupleExact _) (wpAny_newObj_type (wpAny_bind (wpAny_pure (wpAny_pure ⟨_, rfl, wpAny_pure h⟩))) alD)
  | exact wpAny_bind (wpAny_bind (m := Builtin.Tuple.tupleExact _) (wpAny_newObj_type (wpAny_pure (wpAny_pure ⟨_, rfl, wpAny_pure h⟩)) alD))
  | exact wpAny_bind (wpAny_bind (m := Builtin.Tuple.tupleExact _) (wpAny_newObj_type (wpAny_pure ⟨_, rfl, wpAny_pure h⟩) alD))
end
end HT
namespace L2
open PySem PySem.Spec PyProof.Rows
noncomputable abbrev TO := St -> Hp -> (Option Int -> Hp -> Prop) -> Prop
noncomputable def PO (X : Cx) (e : Option Expr) (t : TO) : Prop :=
 ∀ (pins : List (Addr × Obj)) (s : Shared) (σ : St) (H : Hp) (Q : Option Int -> Hp -> Prop), Inv X pins σ H s -> t σ H Q ->
  wpAny (model X.prog X.w) X.A (evalPart e X.env) (λu s' => ∃ o H', Inv X pins σ H' s' /\ IsPart u o /\ Q o H') X.xe s
noncomputable def akb : TO := λ_ H Q => Q none H
noncomputable def apx (t : TE) : TO := λσ H Q => t σ H λx H1 => ∃ i, x = .int i /\ Q (some i) H1
theorem intsAre_of {ns : List Int} : ∀ {us : List Value}, Vals (ns.map V.int) us -> IntsAre us ns := by
 induction ns with
 | nil => intro us r; rw [List.map_nil] at r; cases r; exact .nil
 | cons n ns ih =>
  intro us r
  rw [List.map_cons] at r
  cases r with
  | cons r1 r2 =>
   obtain ⟨t, e⟩ := r1
   subst e
   exact .cons n t (ih r2)
section
variable {X : Cx} {e : Expr} {te : TE} {lo hi : Option Expr} {tl th : TO} {pos p2 : Pos}
theorem acG : PO X none akb := by
 intro pins s σ H Q I h
 rw [evalPart_none]
 exact wpAny_pure ⟨none, H, I, .none, h⟩
theorem acH (h : PE X e te) : PO X (some e) (apx te) := by
 intro pins s σ H Q I hw
 rw [evalPart_some]
 refine thn (h pins s σ H _ I hw) λu s1 ⟨x, H1, I1, r1, q1⟩ => ?_
 obtain ⟨i, rfl, q⟩ := q1
 obtain ⟨t, rfl⟩ := r1
 exact ⟨some i, H1, I1, .int i t, q⟩
noncomputable def SlR (X : Cx) (r : V -> Option Int -> Option Int -> Hp -> VK -> Prop) : Prop :=
 ∀ (pins : List (Addr × Obj)) (s : Shared) (σ : St) (H : Hp) (x : V) (v vl vu : Value) (lo hi : Option Int) (sl : Addr) (Q : VK), Inv X pins σ H s -> RelV x v -> s.heap.IsSliceOf sl vl vu .none -> IsPart vl lo -> IsPart vu hi -> r x lo hi H Q ->
  ∃ T id, typeLookup (.type T) "__getitem__" = pure (some (.builtin id)) /\ s.TypeIs v T /\ wpAny (model X.prog X.w) X.A (getItem v (.ref sl)) (EP X pins σ Q) X.xe s
theorem SlR.or {r r' : V -> Option Int -> Option Int -> Hp -> VK -> Prop} (h : SlR X r) (h' : SlR X r') : SlR X (λx lo hi H Q => r x lo hi H Q \/ r' x lo hi H Q) := by
 intro pins s σ H x v vl vu lo hi sl Q I rx hs pl pu q
 rcases q with q | q
 ·exact h pins s σ H x v vl vu lo hi sl Q I rx hs pl pu q
 ·exact h' pins s σ H x v vl vu lo hi sl Q I rx hs pl pu q
noncomputable def tSl (r : V -> Option Int -> Option Int -> Hp -> VK -> Prop) (te : TE) (tl th : TO) : TE := λσ H Q => te σ H λx H1 => tl σ H1 λl H2 => th σ H2 λu H3 => r x l u H3 Q
theorem ab0 {r : V -> Option Int -> Option Int -> Hp -> VK -> Prop} (hr : SlR X r) (he : PE X e te) (hl : PO X lo tl) (hu : PO X hi th) : PE X (.Subscript e (.Slice lo hi none p2) pos) (tSl r te tl th) := by
 intro pins s σ H Q I h
 refine Subscript_ (thn (he pins s σ H _ I h) λv s1 ⟨x, H1, I1, r1, q1⟩ => ?_)
 refine wpAny_Slice (thn (hl pins s1 σ H1 _ I1 q1) λvl s2 ⟨l, H2, I2, pl, q2⟩ => thn (hu pins s2 σ H2 _ I2 q2) λvu s3 ⟨u, H3, I3, pu, q3⟩ => ?_)
 rw [evalPart_none]
 refine wpAny_pure ?_
 have I4 : Inv X pins σ H3 { s3 with heap := s3.heap.push { cls := .type "slice", data := .fields #[vl, vu, .none] } } := I3.kept (t' := s3.toks) λb ob q => Heap.get?_push_of_some _ q
 obtain ⟨T, id, hT, ht, hg⟩ := hr pins { s3 with heap := s3.heap.push { cls := .type "slice", data := .fields #[vl, vu, .none] } } σ H3 x v vl vu l u s3.heap.objs.size Q I4 r1 (Heap.IsSliceOf.new ..) pl pu q3
 show wpAny (model X.prog X.w) X.A (subscriptTail e (.Slice lo hi none p2) v (.ref s3.heap.objs.size)) (EP X pins σ Q) X.xe { s3 with heap := s3.heap.push { cls := .type "slice", data := .fields #[vl, vu, .none] } }
 exact tail_any (ops := [.ref s3.heap.objs.size, v]) ht hT hg (by with_unfolding_all rfl)
noncomputable def amV (xs : List V) (lo hi : Option Int) : List V := (xs.drop (HT.sIx xs.length 0 lo)).take (HT.sIx xs.length xs.length hi - HT.sIx xs.length 0 lo)
theorem aeY (xs : List V) (lo hi : Option Int) : (amV xs lo hi).length <= xs.length := by
 unfold amV
 rw [List.length_take, List.length_drop]
 omega
noncomputable def auf (K : PySem.W.Frag) : V -> Option Int -> Option Int -> Hp -> VK -> Prop := λx lo hi H Q => ∃ a xs, x = .ref a /\ SqT K H a xs /\
 ¬ (HT.sIx xs.length 0 lo = 0 /\ HT.sIx xs.length xs.length hi = xs.length) /\ ∀ p, H p = none -> Q (.ref p) (upd H p (.tup (amV xs lo hi)))
theorem apy : SlR X (auf X.K) := by
 intro pins s σ H x v vl vu lo hi sl Q I rx hs pl pu h
 obtain ⟨a, xs, rfl, hx, hw, q⟩ := h
 cases rx
 obtain ⟨its, r, ht, hz⟩ := I.tuple hx
 have hlen : its.toArray.size = xs.length := by rw [List.size_toArray]; exact r.length.symm
 refine ⟨"tuple", _, PyProof.Rows.slot_tuple_getitem.lookup, ht.typeIs, ?_⟩
 refine HT.ad6 ht hs pl pu (by rw [hlen]; exact hw) ?_ (by rw [hlen]; exact hz)
 rw [hlen]
 refine ⟨.ref s.heap.objs.size, _, I.laid (t' := s.toks) (o := .tup (amV xs lo hi)) (λb ob q => Heap.get?_push_of_some _ q) (Nat.le_refl _) ?_, rfl, q _ (I.hok.fresh (Nat.le_refl _))⟩
 exact ⟨Nat.le_trans (aeY xs lo hi) hz, _, (r.drop (HT.sIx xs.length 0 lo)).take (HT.sIx xs.length xs.length hi - HT.sIx xs.length 0 lo), IsTup.new _ _⟩
noncomputable def auh (K : PySem.W.Frag) : R2 := λx y H Q => ∃ a b ns ms, x = .ref a /\ y = .ref b /\ SqT K H a (ns.map V.int) /\ SqT K H b (ms.map V.int) /\ Q (.bl (HT.lexLt ns ms)) H
theorem apz (hu : X.A.units < cLine) : OpR X (compareOp .Lt) (auh X.K) := by
 intro pins s σ H x y v u Q I rx ry h
 obtain ⟨a, b, ns, ms, rfl, rfl, ha, hb, q⟩ := h
 cases rx
 cases ry
 obtain ⟨its, r1, p1, _⟩ := I.tuple ha
 obtain ⟨its2, r2, p2, _⟩ := I.tuple hb
 have i1 : IntsAre its.toArray.toList ns := intsAre_of r1
 have i2 : IntsAre its2.toArray.toList ms := intsAre_of r2
 exact HT.ai6 p1 p2 i1 i2 hu ⟨.bl (HT.lexLt ns ms), H, I, rfl, q⟩
noncomputable def apA (K : PySem.W.Frag) : R2 := λx y H Q => ∃ a b xs ys, x = .ref a /\ y = .ref b /\ SqT K H a xs /\ SqT K H b ys /\ xs ≠ [] /\ xs.length + ys.length <= sizeLine /\
 (ys = [] -> Q (.ref a) H) /\ (ys ≠ [] -> ∀ p, H p = none -> Q (.ref p) (upd H p (.tup (xs ++ ys))))
theorem Vals.ahp {xs : List V} {us : List Value} (r : Vals xs us) : us = [] ↔ xs = [] := by
 cases r with
 | nil => simp
 | cons _ _ => simp
theorem anB : OpR X (binaryOp .Add) (apA X.K) := by
 intro pins s σ H x y v u Q I rx ry h
 obtain ⟨a, b, xs, ys, rfl, rfl, ha, hb, hx, hz, q1, q2⟩ := h
 cases rx
 cases ry
 obtain ⟨its, r1, p1, _⟩ := I.tuple ha
 obtain ⟨its2, r2, p2, _⟩ := I.tuple hb
 refine HT.anA p1 p2 (λz => hx (r1.ahp.mp z)) (λz => ⟨.ref a, H, I, rfl, q1 (r2.ahp.mp z)⟩) (λz => ?_) (by rw [<-r1.length, <-r2.length]; exact hz)
 refine ⟨.ref s.heap.objs.size, _, I.laid (t' := s.toks) (o := .tup (xs ++ ys)) (λb ob q => Heap.get?_push_of_some _ q) (Nat.le_refl _) ?_, rfl, q2 (λw => z (r2.ahp.mpr w)) _ (I.hok.fresh (Nat.le_refl _))⟩
 exact ⟨by rw [List.length_append]; exact hz, _, r1.append r2, IsTup.new _ _⟩
end
end L2
namespace L2
open PySem PySem.Spec PyProof.Rows
noncomputable def ixN (n : Nat) (i : Int) : Option Nat := if 0 <= i then (if i < n then some i.toNat else none) else if -(n : Int) <= i then some (i + n).toNat else none
noncomputable def atI {α : Type} (xs : List α) (i : Int) : Option α := (ixN xs.length i).bind λj => xs[j]?
theorem akc {n : Nat} {i : Int} {j : Nat} (h : ixN n i = some j) : seqIndex? i n = some j /\ j < n /\ -(n : Int) <= i /\ i < n := by
 unfold ixN at h
 by_cases h0 : 0 <= i
 ·rw [if_pos h0] at h
  by_cases h1 : i < n
  ·rw [if_pos h1] at h
   have e : i.toNat = j := Option.some.inj h
   exact ⟨by rw [seqIndex_of h0 h1, e], by omega, by omega, h1⟩
  ·rw [if_neg h1] at h; cases h
 ·rw [if_neg h0] at h
  by_cases h1 : -(n : Int) <= i
  ·rw [if_pos h1] at h
   have e : (i + n).toNat = j := Option.some.inj h
   exact ⟨by rw [seqIndex_neg (by omega) h1, e], by omega, h1, by omega⟩
  ·rw [if_neg h1] at h; cases h
theorem ahq {α : Type} {xs : List α} {i : Int} {v : α} (h : atI xs i = some v) : ∃ j, seqIndex? i xs.length = some j /\ xs[j]? = some v /\ j < xs.length /\ -(xs.length : Int) <= i /\ i < xs.length := by
 unfold atI at h
 cases e : ixN xs.length i with
 | none => rw [e] at h; cases h
 | some j =>
  rw [e] at h
  obtain ⟨h1, h2, h3, h4⟩ := akc e
  exact ⟨j, h1, h, h2, h3, h4⟩
noncomputable def anC (b : Expr) : Prop := ∀ o i, subscripted b false o i = operate [o, i] (getItem o i)
noncomputable def IxR (X : Cx) (r : R2) : Prop :=
 ∀ (value slice : Expr) (pins : List (Addr × Obj)) (s : Shared) (σ : St) (H : Hp) (x y : V) (v u : Value) (Q : VK), Inv X pins σ H s -> RelV x v -> RelV y u -> r x y H Q ->
  subscripted slice false v u = operate [v, u] (getItem v u) -> wpAny (model X.prog X.w) X.A (subscriptTail value slice v u) (EP X pins σ Q) X.xe s
noncomputable def MtR (X : Cx) (id : String) (r : V -> List V -> Hp -> VK -> Prop) : Prop :=
 ∀ (pins : List (Addr × Obj)) (s : Shared) (σ : St) (H : Hp) (x : V) (xs : List V) (v : Value) (us : List Value) (Q : VK), Inv X pins σ H s -> RelV x v -> Vals xs us -> r x xs H Q ->
  wpAny (model X.prog X.w) X.A (call (.builtin id) (v :: us)) (EP X pins σ Q) X.xe s
section
variable {X : Cx} {a b : Expr} {ta tb : TE} {pos : Pos}
theorem IxR.or {r r' : R2} (h : IxR X r) (h' : IxR X r') : IxR X (λx y H Q => r x y H Q \/ r' x y H Q) := by
 intro value slice pins s σ H x y v u Q I rx ry q hs
 rcases q with q | q
 ·exact h value slice pins s σ H x y v u Q I rx ry q hs
 ·exact h' value slice pins s σ H x y v u Q I rx ry q hs
theorem abJ {r : R2} (hr : IxR X r) (ha : PE X a ta) (hb : PE X b tb) (hs : anC b) : PE X (.Subscript a b pos) (tOp r ta tb) := by
 intro pins s σ H Q I h
 exact Subscript_ (arV ha hb I h λv u s2 x y H2 I2 rx ry q => hr a b pins s2 σ H2 x y v u Q I2 rx ry q (hs _ _))
noncomputable def aui (K : PySem.W.Frag) : R2 := λx y H Q => ∃ p xs i v, x = .ref p /\ y = .int i /\ SqL K H p xs /\ atI xs i = some v /\ Q v H
noncomputable def auj (K : PySem.W.Frag) : R2 := λx y H Q => ∃ p xs i v, x = .ref p /\ y = .int i /\ SqT K H p xs /\ atI xs i = some v /\ Q v H
noncomputable def auk : R2 := λx y H Q => ∃ z i c, x = .str z /\ y = .int i /\ z.length <= sizeLine /\ atI z.cps.toList i = some c /\ Q (.str ⟨#[c]⟩) H
theorem anD : IxR X (aui X.K) := by
 intro value slice pins s σ H x y v u Q I rx ry h hs
 obtain ⟨p, xs, i, z, rfl, rfl, hq, he, q⟩ := h
 cases rx
 obtain ⟨t, rfl⟩ := ry
 obtain ⟨its, r, pl, hz⟩ := I.list hq
 obtain ⟨j, h1, h2, h3, h4, h5⟩ := ahq he
 obtain ⟨w, ew, rw'⟩ := r.get h2
 have hl := r.length
 have hn := aeX
 have fin : EP X pins σ Q w s := ⟨z, H, I, rw', q⟩
 by_cases h0 : 0 <= i
 ·have hj : i.toNat = j := by
   rw [seqIndex_of h0 h5] at h1
   exact Option.some.inj h1
  exact item_listR pl.isList h0 (by omega) (by rw [hj]; simpa using ew) fin hs
 ·have hj : (i + (its.toArray.size : Int)).toNat = j := by
   rw [seqIndex_neg (by omega) h4] at h1
   rw [List.size_toArray, <-hl]
   exact Option.some.inj h1
  exact subscriptTail_builtinR (x := w) pl.isList.typeIs slot_list_getitem.lookup
   (wpAny_getItem_list_neg (Q := λr s' => r = w /\ EP X pins σ Q r s') pl.isList (by omega) (by rw [List.size_toArray] <;> omega) (by omega) (by rw [hj]; simpa using ew) ⟨rfl, fin⟩) hs
theorem apB : IxR X (auj X.K) := by
 intro value slice pins s σ H x y v u Q I rx ry h hs
 obtain ⟨p, xs, i, z, rfl, rfl, hq, he, q⟩ := h
 cases rx
 obtain ⟨t, rfl⟩ := ry
 obtain ⟨its, r, pl, hz⟩ := I.tuple hq
 obtain ⟨j, h1, h2, h3, h4, h5⟩ := ahq he
 obtain ⟨w, ew, rw'⟩ := r.get h2
 have hl := r.length
 have hn := aeX
 have fin : EP X pins σ Q w s := ⟨z, H, I, rw', q⟩
 exact subscriptTail_builtinR (x := w) pl.typeIs slot_tuple_getitem.lookup
  (getItem_tuple (j := j) (Q := λr s' => r = w /\ EP X pins σ Q r s') pl (by omega) (by omega) (by rw [List.size_toArray, <-hl]; exact h1) (by simpa using ew) ⟨rfl, fin⟩) hs
theorem apC : IxR X auk := by
 intro value slice pins s σ H x y v u Q I rx ry h hs
 obtain ⟨z, i, c, rfl, rfl, hz, he, q⟩ := h
 obtain ⟨t, rfl⟩ := rx
 obtain ⟨t', rfl⟩ := ry
 obtain ⟨j, h1, h2, h3, h4, h5⟩ := ahq he
 have hl : z.cps.toList.length = z.length := by simp [Str.length]
 rw [hl] at h1 h4 h5
 have hn := aeX
 exact tail_any (typeIs_str s z t) slot_str_getitem.lookup (getItem_str (c := c) (by
  have e1 : decide (i < -(2 ^ 63 : Int)) = false := decide_eq_false (by omega)
  have e2 : decide (i >= 2 ^ 63) = false := decide_eq_false (by omega)
  rw [e1, e2, Bool.or_false]) (by rw [h1]; simpa using h2) ⟨.str ⟨#[c]⟩, H, I.tok _, ⟨_, rfl⟩, q⟩) hs
noncomputable def rIx (K : PySem.W.Frag) : R2 := λx y H Q => aui K x y H Q \/ auj K x y H Q \/ auk x y H Q
theorem aa3 : IxR X (rIx X.K) := anD.or (apB.or apC)
theorem ai9 (its : List Value) (n j : Nat) (u : Value) : Obj.mapSeq (·.setIfInBounds j u) { cls := .type "list", data := .seq its.toArray n } = { cls := .type "list", data := .seq (its.set j u).toArray n } := by
 simp [Obj.mapSeq]
theorem Inv.lst {pins : List (Addr × Obj)} {σ : St} {H : Hp} {s : Shared} {p : Addr} {xs : List V} (I : Inv X pins σ H s) (h : H p = some (.lst xs)) :
  ∃ (its : List Value) (n : Nat), Vals xs its /\ s.heap.get? p = some { cls := .type "list", data := .seq its.toArray n } /\ xs.length <= sizeLine := by
 obtain ⟨z, its, n, r, e⟩ := I.hok p _ h
 exact ⟨its, n, r, e, z⟩
theorem Inv.apD {pins : List (Addr × Obj)} {σ : St} {H : Hp} {s : Shared} {p : Addr} {xs ys : List V} {its its' : List Value} {n n' : Nat} {f : Obj -> Obj} (I : Inv X pins σ H s) (h : H p = some (.lst xs))
  (ho : s.heap.get? p = some { cls := .type "list", data := .seq its.toArray n }) (hf : f { cls := .type "list", data := .seq its.toArray n } = { cls := .type "list", data := .seq its'.toArray n' }) (r : Vals ys its') (hz : ys.length <= sizeLine) (t : Nat) :
  Inv X pins σ (upd H p (.lst ys)) { s with heap := s.heap.update p f, toks := t } := by
 have e : (s.heap.update p f).get? p = some { cls := .type "list", data := .seq its'.toArray n' } := by
  rw [Heap.get?_update_self f ho (by rw [hf] <;> rfl), hf]
 refine I.write (x := p) (e := p) (by rw [h]; trivial) (.inl rfl) (λb u hb q => (Heap.get?_update_other _ _ (Ne.symm hb)).trans q) ⟨_, e⟩ ?_
 exact ⟨hz, its', n', r, e⟩
noncomputable def apE : V -> V -> V -> Hp -> (Hp -> Prop) -> Prop := λo i v H Q => ∃ p xs k j, o = .ref p /\ i = .int k /\ H p = some (.lst xs) /\ ixN xs.length k = some j /\ Q (upd H p (.lst (xs.set j v)))
theorem set_list : at5 X apE := by
 intro pins s σ H o i v ov iv u Q I ro ri rv h
 obtain ⟨p, xs, k, j, rfl, rfl, hp, hj, q⟩ := h
 cases ro
 obtain ⟨t, rfl⟩ := ri
 obtain ⟨its, n, r, ho, hz⟩ := I.lst hp
 obtain ⟨h1, h2, h3, h4⟩ := akc hj
 have hl := r.length
 have hn := aeX
 have I' : Inv X pins σ (upd H p (.lst (xs.set j v))) { s with heap := s.heap.update p (Obj.mapSeq (·.setIfInBounds j u)) } :=
  I.apD hp ho (ai9 its n j u) (r.set rv j) (by rw [List.length_set]; exact hz) s.toks
 by_cases h0 : 0 <= k
 ·have hk : k.toNat = j := by
   rw [seqIndex_of h0 h4] at h1
   exact Option.some.inj h1
  exact PySem.W.ki_setAt ho h0 (by omega) (by rw [List.size_toArray, <-hl]; exact h4) (by rw [hk]; exact ⟨_, I', q⟩)
 ·have hk : (k + (its.toArray.size : Int)).toNat = j := by
   rw [seqIndex_neg (by omega) h3] at h1
   rw [List.size_toArray, <-hl]
   exact Option.some.inj h1
  exact PySem.W.ki_setBack ho (by omega) (by rw [List.size_toArray, <-hl]; exact h3) (by omega) (by rw [hk]; exact ⟨_, I', q⟩)
theorem agH (lo hi : Option Int) (n : Nat) : (sliceBounds lo hi none n).1 = ((HT.sIx n 0 lo : Nat) : Int) /\ (sliceBounds lo hi none n).2.1 = ((HT.sIx n n hi : Nat) : Int) /\ (sliceBounds lo hi none n).2.2 = 1 := by
 refine ⟨?_, ?_, rfl⟩
 ·cases lo with
  | none => simp [sliceBounds, HT.sIx]
  | some i =>
   simp only [sliceBounds, HT.sIx, Option.getD_none, show (1 : Int) > 0 by decide, if_true]
   by_cases h : i < 0
   ·simp only [h, if_true] <;> omega
   ·simp only [h, if_false] <;> omega
 ·cases hi with
  | none => simp [sliceBounds, HT.sIx]
  | some i =>
   simp only [sliceBounds, HT.sIx, Option.getD_none, show (1 : Int) > 0 by decide, if_true]
   by_cases h : i < 0
   ·simp only [h, if_true] <;> omega
   ·simp only [h, if_false] <;> omega
theorem afQ (its : List Value) (lo hi : Option Int) : slicePick its.toArray lo hi none = ((its.drop (HT.sIx its.length 0 lo)).take (HT.sIx its.length its.length hi - HT.sIx its.length 0 lo)).toArray := by
 obtain ⟨h1, h2, h3⟩ := agH lo hi its.toArray.size
 unfold slicePick
 rw [h1, h2, h3]
 simp only [sliceRange_one, pick_run, List.size_toArray] <;> rfl
noncomputable def aul (K : PySem.W.Frag) : V -> Option Int -> Option Int -> Hp -> VK -> Prop := λx lo hi H Q => ∃ a xs, x = .ref a /\ SqL K H a xs /\ ∀ p, H p = none -> Q (.ref p) (upd H p (.lst (amV xs lo hi)))
theorem anE : SlR X (aul X.K) := by
 intro pins s σ H x v vl vu lo hi sl Q I rx hs pl pu h
 obtain ⟨a, xs, rfl, hx, q⟩ := h
 cases rx
 obtain ⟨its, r, ht, hz⟩ := I.list hx
 have hlen := r.length
 refine ⟨"list", _, slot_list_getitem.lookup, ht.isList.typeIs, ?_⟩
 refine wpAny_getItem_list_slice ht.isList hs pl pu .none (by simp) ?_ (by rw [List.size_toArray] <;> omega)
 rw [afQ, <-hlen]
 refine ⟨.ref s.heap.objs.size, _, I.laid (t' := s.toks) (o := .lst (amV xs lo hi)) (λb ob q => Heap.get?_push_of_some _ q) (Nat.le_refl _) ?_, rfl, q _ (I.hok.fresh (Nat.le_refl _))⟩
 exact ⟨Nat.le_trans (aeY xs lo hi) hz, _, 0, (r.drop (HT.sIx xs.length 0 lo)).take (HT.sIx xs.length xs.length hi - HT.sIx xs.length 0 lo), Heap.get?_push_size _ rfl⟩
theorem agI : ab6 X (.builtin "len") (λxs H Q => ∃ p ys, xs = [.ref p] /\ (SqL X.K H p ys \/ SqT X.K H p ys) /\ Q (.int ys.length) H) := by
 intro pins s σ H xs us Q I r h
 obtain ⟨p, ys, rfl, hq, q⟩ := h
 obtain ⟨u, rfl, rx⟩ := vals1 r
 cases rx
 have hn := aeX
 rcases hq with hq | hq
 ·obtain ⟨its, r', pl, hz⟩ := I.list hq
  have hlen := r'.length
  exact Calls.call_len_list pl.isList (by simp only [List.size_toArray] <;> omega) ⟨.int ys.length, H, I.tok _, ⟨s.toks + 1, by rw [List.size_toArray, hlen]⟩, q⟩
 ·obtain ⟨its, r', pl, hz⟩ := I.tuple hq
  have hlen := r'.length
  exact len_tuple pl (by simp only [List.size_toArray] <;> omega) ⟨.int ys.length, H, I.tok _, ⟨s.toks + 1, by rw [List.size_toArray, hlen]⟩, q⟩
theorem agJ : ab6 X (.builtin "len") (λxs H Q => ∃ z, xs = [.str z] /\ z.length <= sizeLine /\ Q (.int z.length) H) := by
 intro pins s σ H xs us Q I r h
 obtain ⟨z, rfl, hz, q⟩ := h
 obtain ⟨u, rfl, t, rfl⟩ := vals1 r
 have hn := aeX
 exact len_str (by omega) ⟨.int z.length, H, I.tok _, ⟨_, rfl⟩, q⟩
theorem ab6.or {f : Value} {r r' : List V -> Hp -> VK -> Prop} (h : ab6 X f r) (h' : ab6 X f r') : ab6 X f (λxs H Q => r xs H Q \/ r' xs H Q) := by
 intro pins s σ H xs us Q I rs q
 rcases q with q | q
 ·exact h pins s σ H xs us Q I rs q
 ·exact h' pins s σ H xs us Q I rs q
theorem adL : ab6 X (.type "tuple") (λxs H Q => ∃ p ys, xs = [.ref p] /\ ((SqL X.K H p ys /\ ∀ l, H l = none -> Q (.ref l) (upd H l (.tup ys))) \/ (SqT X.K H p ys /\ Q (.ref p) H))) := by
 intro pins s σ H xs us Q I r h
 obtain ⟨p, ys, rfl, h⟩ := h
 obtain ⟨u, rfl, rx⟩ := vals1 r
 cases rx
 rcases h with ⟨hq, q⟩ | ⟨hq, q⟩
 ·obtain ⟨its, r', pl, hz⟩ := I.list hq
  have hlen := r'.length
  refine call_tuple_list pl.isList (λh' kp => ?_) (by simp only [List.size_toArray] <;> omega)
  have I1 : Inv X pins σ H { s with heap := h' } := I.kept (t' := s.toks) kp
  have I2 : Inv X pins σ (upd H h'.objs.size (.tup ys)) { s with heap := h'.push { cls := .type "tuple", data := .seq its.toArray } } :=
   I1.laid (t' := s.toks) (λb o e => Heap.get?_push_of_some _ e) (Nat.le_refl _) (show adv X.prog X.w _ _ _ (.tup ys) from ⟨hz, its, r', IsTup.new _ _⟩)
  exact ⟨.ref h'.objs.size, _, I2, rfl, q _ (I1.hok.fresh (Nat.le_refl _))⟩
 ·obtain ⟨its, r', pl, hz⟩ := I.tuple hq
  exact call_tuple_same pl ⟨.ref p, H, I, rfl, q⟩
noncomputable def tyV (K : PySem.W.Frag) (T : String) (x : V) (H : Hp) : Prop := match x with
 | .str _ => T = "str"
 | .int _ => T = "int"
 | .ref p => (T = "list" ∧ ∃ xs, SqL K H p xs) ∨ (T = "tuple" ∧ ∃ o, K.lookup p = some o ∧ o.cls = .type "tuple" ∧ o.dict = none) ∨
   (T = "dict" ∧ ((∃ kvs, H p = some (.dK kvs)) ∨ ∃ kvs, H p = some (.dT kvs))) ∨ (T = "set" ∧ ∃ S n, H p = some (.set S n))
 | _ => False
theorem apF {pins : List (Addr × Obj)} {σ : St} {H : Hp} {s : Shared} {T : String} {x : V} {v : Value} (I : Inv X pins σ H s) (r : RelV x v) (ty : tyV X.K T x H) :
  s.TypeIs v T /\ ∀ a, v = .ref a -> ∃ ob, s.heap.get? a = some ob /\ ob.dict = none := by
 cases x with
 | str z =>
  obtain ⟨t, rfl⟩ := r
  cases (show T = "str" from ty)
  exact ⟨typeIs_str s z t, λ_ e => nomatch e⟩
 | int i =>
  obtain ⟨t, rfl⟩ := r
  cases (show T = "int" from ty)
  exact ⟨typeIs_int s i t, λ_ e => nomatch e⟩
 | ref p =>
  cases r
  rcases ty with ⟨rfl, xs, hq⟩ | ⟨rfl, o, hk, hc, hd⟩ | ⟨rfl, hk⟩ | ⟨rfl, S, n, hk⟩
  ·obtain ⟨its, _, pl, _⟩ := I.list hq
   refine ⟨pl.isList.typeIs, λa e => ?_⟩
   cases e
   obtain ⟨o, n, e, c, hd, _⟩ := pl
   exact ⟨o, e, hd⟩
  ·refine ⟨⟨o, I.kIn p o hk, hc⟩, λa e => ?_⟩
   cases e
   exact ⟨o, I.kIn _ o hk, hd⟩
  ·have z : ∃ o, s.heap.get? p = some o /\ o.ExactDict := by
    rcases hk with ⟨kvs, hk⟩ | ⟨kvs, hk⟩
    ·obtain ⟨_, _, _, _, o, _, _, e, ex, _⟩ := I.hok p _ hk
     exact ⟨o, e, ex⟩
    ·obtain ⟨_, _, _, _, o, _, _, e, ex, _⟩ := I.hok p _ hk
     exact ⟨o, e, ex⟩
   obtain ⟨o, e, ex⟩ := z
   refine ⟨⟨o, e, ex.1⟩, λa e2 => ?_⟩
   cases e2
   exact ⟨o, e, ex.2.1⟩
  ·obtain ⟨o, _, _, _, e, ex, _⟩ := I.hok p _ hk
   refine ⟨⟨o, e, ex.1⟩, λa e2 => ?_⟩
   cases e2
   exact ⟨o, e, ex.2.1⟩
 | _ => exact False.elim ty
noncomputable def tBM (K : PySem.W.Frag) (T : String) (r : V -> List V -> Hp -> VK -> Prop) (to : TE) (t : TA) : TE := λσ H Q => to σ H λx H1 => tyV K T x H1 /\ t σ H1 λxs H2 => r x xs H2 Q
variable {o e : Expr} {es : List Expr} {to : TE} {t : TA} {name : Str} {apos cpos : Pos} {T id : String} {r : V -> List V -> Hp -> VK -> Prop}
theorem alE (pa : PlainAttrs T) (slot : Slot T name id) (hty : typeOf (.builtin id) = pure (.type "method_descriptor")) (hm : MtR X id r) (ho : PE X o to) (ha : PA X (e :: es) t)
  (hbase : attributeBase o name X.env (eval o X.env) = eval o X.env := by rfl)
  (hfew : ((backTo cpos (starEach (e :: es) X.env)).all (λx => !x.1) && (backToKw cpos (keywordEach [] X.env)).all (λx => x.1.isSome)
   && decide ((e :: es).length + ([] : List Keyword).length + (if ([] : List Keyword).isEmpty then 0 else 1) < 30)) = true := by rfl)
  (hline : (apos.endLine == cpos.line) = true := by rfl) (hs : starEach (e :: es) X.env = (false, eval e X.env) :: starEach es X.env := by rfl) (hplain : (backTo cpos (starEach es X.env)).any (·.1) = false := by rfl) :
  PE X (.Call (.Attribute o name apos) (e :: es) [] cpos) (tBM X.K T r to t) := by
 intro pins s σ H Q I h
 refine wpAny_Call_method_late hbase hfew hline rfl (thn (ho pins s σ H _ I h) λv s1 ⟨x, H1, I1, r1, ty, q1⟩ => ?_)
 obtain ⟨h1, h2⟩ := apF I1 r1 ty
 refine ⟨T, id, pa, slot, hty, h1, h2, ?_⟩
 have hA := ha cpos pins s1 σ H1 _ I1 q1
 rw [hs] at hA ⊢
 refine Calls.callWith_builtin (by show (false || (backTo cpos (starEach es X.env)).any (·.1)) = false; rw [hplain] <;> rfl) (Calls.evalArgs_plain ?_)
 exact thn hA λus s2 ⟨vs, H2, I2, r2, q2⟩ => hm pins s2 σ H2 x vs v us Q I2 r1 r2 q2
end
end L2
namespace L2
open PySem PySem.Spec PyProof.Rows
noncomputable def MtM (X : Cx) (id : String) (r : V -> List V -> Hp -> VK -> Prop) : Prop :=
 ∀ (pins : List (Addr × Obj)) (s : Shared) (σ : St) (H : Hp) (x : V) (xs : List V) (v : Value) (us : List Value) (Q : VK), Inv X pins σ H s -> RelV x v -> Vals xs us -> r x xs H Q ->
  wpAny (model X.prog X.w) X.A (call (.builtin id) (v :: us)) (EP X pins σ Q) X.xe s
theorem Vals.one : ∀ {x : V} {us : List Value}, Vals [x] us -> ∃ u, us = [u] /\ RelV x u
 | _, _, .cons r .nil => ⟨_, rfl, r⟩
theorem Vals.rep {xs : List V} {us : List Value} (h : Vals xs us) : ∀ k : Nat, Vals (List.replicate k xs).flatten (List.replicate k us).flatten
 | 0 => .nil
 | k + 1 => by
  rw [List.replicate_succ, List.replicate_succ, List.flatten_cons, List.flatten_cons]
  exact Vals.append h (Vals.rep h k)
theorem foldl_rep (its : List Value) : ∀ (k : Nat) (acc : List Value),
  List.foldl (λx1 x2 => x1 ++ x2) acc.toArray (List.replicate k its.toArray) = (acc ++ (List.replicate k its).flatten).toArray
 | 0, acc => by simp
 | k + 1, acc => by
  have e : acc.toArray ++ its.toArray = (acc ++ its).toArray := by simp
  have e2 : (acc ++ its) ++ (List.replicate k its).flatten = acc ++ (List.replicate (k + 1) its).flatten := by
   rw [List.replicate_succ, List.flatten_cons, List.append_assoc]
  rw [<-e2, <-foldl_rep its k (acc ++ its), <-e, List.replicate_succ, List.foldl_cons]
section
variable {X : Cx} {pins : List (Addr × Obj)} {σ : St} {H : Hp} {s : Shared} {l b : Addr} {xs ys zs : List V}
theorem Inv.auW {its its' : List Value} {n : Nat} {f : Array Value -> Array Value} {t' : Nat} (I : Inv X pins σ H s) (hH : H l = some (.lst xs))
  (e : s.heap.get? l = some { cls := .type "list", data := .seq its.toArray n }) (hf : f its.toArray = its'.toArray) (hv : Vals ys its') (hz : ys.length <= sizeLine) :
  Inv X pins σ (upd H l (.lst ys)) { s with heap := s.heap.update l (Obj.mapSeq f), toks := t' } := by
 have q := PySem.IsL.update e f
 rw [hf] at q
 refine I.write (x := l) (e := l) (by rw [hH]; exact trivial) (.inl rfl) (λb' u hb hu => (Heap.get?_update_other s.heap (Obj.mapSeq f) (Ne.symm hb)).trans hu) ⟨_, q⟩ ?_
 exact ⟨hz, its', _, hv, q⟩
theorem Inv.arE {its : List Value} {t' : Nat} (I : Inv X pins σ H s) (hv : Vals ys its) (hz : ys.length <= sizeLine) :
  Inv X pins σ (upd H s.heap.objs.size (.lst ys)) { s with heap := s.heap.push { cls := .type "list", data := .seq its.toArray }, toks := t' } :=
 I.laid (λ_ _ q => Heap.get?_push_of_some _ q) (Nat.le_refl _) ⟨hz, its, 0, hv, Heap.get?_push_size _ rfl⟩
theorem Inv.fresh (I : Inv X pins σ H s) : H s.heap.objs.size = none := I.hok.fresh (Nat.le_refl _)
theorem Inv.auX (I : Inv X pins σ H s) (hH : H l = some (.lst xs)) : xs.length <= sizeLine /\ ∃ (its : List Value) (n : Nat), Vals xs its /\ xs.length = its.length /\ s.heap.get? l = some { cls := .type "list", data := .seq its.toArray n } := by
 obtain ⟨z, its, n, r, e⟩ := I.hok l _ hH
 exact ⟨z, its, n, r, r.length, e⟩
theorem alF {n : Nat} (h : n <= sizeLine) : Builtin.List.listTooLong n = false := by
 unfold Builtin.List.listTooLong
 exact decide_eq_false (by omega)
end
section
variable {X : Cx}
noncomputable def ahr : V -> List V -> Hp -> VK -> Prop := λx vs H Q => ∃ l xs y, x = .ref l /\ vs = [y] /\ H l = some (.lst xs) /\ xs.length < sizeLine /\ Q .non (upd H l (.lst (xs ++ [y])))
theorem acA : MtM X "list.append" ahr := by
 intro pins s σ H x vs v us Q I rx rv h
 obtain ⟨l, xs, y, rfl, rfl, hH, hz, q⟩ := h
 cases rx
 obtain ⟨u, rfl, ru⟩ := rv.one
 obtain ⟨z, its, n, r, hl, e⟩ := I.auX hH
 refine call_meets F.slot_list_append ⟨_, e, rfl⟩ F.entry_list_append (F.args_list_append_2 _ _) (PySem.list_append l its.toArray n u (by rw [List.size_toArray]; omega)) ⟨e, ?_⟩
 refine ⟨.non, _, I.auW (its' := its ++ [u]) hH e (by simp) (r.append (.cons ru .nil)) ?_, rfl, q⟩
 rw [List.length_append, List.length_singleton]
 omega
theorem len_rep {α : Type} (xs : List α) (k : Nat) : (List.replicate k xs).flatten.length = k * xs.length := by
 induction k with
 | zero => simp
 | succ k ih => rw [List.replicate_succ, List.flatten_cons, List.length_append, ih, Nat.succ_mul, Nat.add_comm]
end
section
variable {prog : Program} {w : World} {A : Around} {E : Value -> Shared -> Prop} {s : Shared}
end
section
variable {X : Cx}
end
end L2
namespace Att
open PySem PySem.W PySem.Calls PyProof.Rows
theorem aeZ {P : Params} {h : Heap} : ∀ (ns : List Int) (vs : List Value), WellAll P h vs (ns.map WData.int) -> IntsAre vs ns := by
 intro ns
 induction ns with
 | nil =>
  intro vs w
  rw [List.map_nil] at w
  cases w
  exact .nil
 | cons n ns ih =>
  intro vs w
  rw [List.map_cons] at w
  cases w with
  | cons a b =>
   cases a
   exact .cons _ _ (ih _ b)
theorem akd {l : OpenLaw} {n : Nat} (hn : l.most = some n) {P : Params} {h : Heap} {args : List WData} {vals : List Value}
  (hpre : l.row.toRowW.claim.pre args = true) (hwl : WellAll P h vals args) :
  ∃ a vs ns, vals = [Value.ref a] /\ args = [WData.list (ns.map WData.int)] /\ h.get? a = some { cls := .type "list", data := .seq vs.toArray } /\ IntsAre vs ns /\ ns.length <= n := by
 have hsh : WShape.hasAll [] args [.list .int] = true := (pre_splitW hpre).1
 have hc : l.pre.holds [] { args := args } = true := (pre_splitW hpre).2
 obtain ⟨d, r, rfl, h1, h2⟩ := hasAllW_cons hsh
 obtain rfl := hasAllW_nil h2
 obtain ⟨xs, rfl, h3⟩ := hasW_list h1
 obtain ⟨ns, rfl⟩ := items_int h3
 have hlen : ns.length <= n := by
  unfold OpenLaw.pre at hc
  have h4 : (WTm.not (.lt (.lit (.int (n : Int))) (.len (.arg 0)))).holds [] { args := [.list (ns.map .int)] } = true := by
   have h4 := (holds_andW hc).1
   rw [hn] at h4
   exact h4
  have h5 := condW_of h4 (w_not (w_lt w_lit (w_len_list (w_arg rfl))))
  rw [List.length_map] at h5
  refine Nat.le_of_not_lt λq => ?_
  have q' : (n : Int) < ((ns.length : Nat) : Int) := by omega
  first
   | (rw [decide_eq_true q'] at h5; exact absurd h5 (by decide))
   | (simp at h5; omega)
 cases hwl with
 | cons w1 w2 =>
  cases w2
  cases w1 with
  | list ho hall => exact ⟨_, _, ns, rfl, rfl, ho, aeZ ns _ hall, hlen⟩
theorem ake (l : OpenLaw) (args : List WData) : l.row.toRowW.claim.post args (.bool true) args = true :=
 postW_of (r := l.row.toRowW) (X := (true == true))
  (show WShape.has [] (.bool true) .bool = true by first | rfl | decide | simp [WShape.has, WShape.arms, WShape.armsAll])
  (show (WTm.eq .res (.lit (.bool true))).value [] { args := args, res := some (.bool true), after := args } = some (.bool (true == true)) from w_eq_bool (w_res rfl) w_lit) rfl
theorem ahs {l : OpenLaw} {n : Nat} {q : Program} {loose : List Str} {XP : (Str -> Option Value) -> Heap -> Prop} {YP : World -> Heap -> Prop} {d : DefRec}
  (hn : l.most = some n) (hdf : d.params.defaults = [])
  (call : ∀ (w : World) (s₀ s₁ : Shared) (mg mb : Str -> Option Value) (fa : Addr) (o : Obj) (pm cd doc : Value) (a : Addr) (vs : List Value) (ns : List Int),
   Ground q loose [] XP w s₀ mg mb s₁.heap -> YP w s₁.heap ->
   s₁.heap.get? fa = some o -> o.data = .func (docDef d.name d.params d.body d.scope pm cd doc) -> s₁.heap.CodeRec cd d.name -> mg d.name = some (.ref fa) ->
   s₁.heap.get? a = some { cls := .type "list", data := .seq vs.toArray } -> IntsAre vs ns -> ns.length <= n -> s₁.gens = #[] ->
   codeAny (model l.prog w) callerA (.call (.ref fa) ⟨[.ref a], []⟩) (λr s' => r = .ok (.ret (.bool true)) /\ OldK s₁.heap s'.heap /\ s'.os = s₁.os /\ AllBare s'.gens) s₁) :
  WalkO q loose XP YP l.row.toRowW d [] (λf vs => PySem.call f vs) := by
 intro w s₀ s₁ mg mb G Y fa o pm cd doc dV kV ho hd hcd hD hmg hg args vals as hpre hlay hrd hwl hlo
 obtain rfl : dV = .none := Dflts.none hD hdf
 obtain rfl : kV = .none := Dflts.noKw hD
 obtain ⟨a, vs, ns, rfl, rfl, hobj, hints, hlen⟩ := akd hn hpre hwl
 refine enter_call (codeAny_mono (call w s₀ s₁ mg mb fa o pm cd doc a vs ns G Y ho (fd_plain hd) hcd hmg hobj hints hlen hg) λr s' hq => ?_)
 obtain ⟨rfl, h2, h3, h4⟩ := hq
 exact ⟨.inl ⟨.bool true, .bool true, [], rfl, λ_ => rfl, .bool true, ake l _, λ_ => ⟨List.Pairwise.nil, λ_ hm => (nomatch hm)⟩⟩, h2, h3, h4⟩
section
variable {prog : Program} {w : World} {A : Around} {E : Value -> Shared -> Prop} {s : Shared} {K : Frag}
end
end Att
namespace L2
open PySem PySem.Spec PyProof.Rows
theorem agK : ∀ {vs : List Value} {ns : List Int}, IntsAre vs ns -> Vals (ns.map V.int) vs
 | _, _, .nil => .nil
 | _, _, .cons n t h => .cons ⟨t, rfl⟩ (agK h)
end L2
namespace L2
open PySem PySem.Spec PyProof.Rows
end L2
namespace L2
open PySem PySem.Spec PyProof.Rows
noncomputable def ac5 (s : Stmt) : Arguments := match s with
 | .FunctionDef _ a _ _ _ _ _ _ _ _ => a
 | _ => { posonlyargs := [], args := [], vararg := none, kwonlyargs := [], kw_defaults := [], kwarg := none, defaults := [] }
noncomputable def abW (s : Stmt) : List Stmt := match s with
 | .FunctionDef _ _ b _ _ _ _ _ _ _ => b
 | _ => []
noncomputable def aal (s : Stmt) : Scope := match s with
 | .FunctionDef _ _ _ _ _ _ sc _ _ _ => sc
 | _ => { kind := .function, names := [], isGenerator := false, isCoroutine := false }
noncomputable abbrev E0 : XK := λ_ _ _ => False
structure Fun (K : PySem.W.Frag) (x qual : Str) (st : Stmt) (f : Addr) (fd : FuncData) : Prop where
 ex : ∃ (oc : Value) (od : Option Addr) (kV doc pm : Value) (an : Option Addr) (cdv ct : Value) (osl : Array (Option Value)),
  fd = PySem.W.fnOf x qual (ac5 st) (abW st) (aal st) .none kV doc pm an cdv ct /\ K.lookup f = some ⟨oc, od, .func fd, osl⟩ /\ PySem.W.codeIn K cdv qual = true
 kp : PySem.W.keepIn K (.ref f) = true
section
variable {P : Program} {w : World} {K : PySem.W.Frag} {mg : Str -> Option Value} {base : Heap}
theorem Fun.binds {x qual : Str} {st : Stmt} {f : Addr} {fd : FuncData} {ps : List Str} (F : Fun K x qual st f fd)
  (h : ∀ (kV doc pm : Value) (an : Option Addr) (cdv ct : Value) (us : List Value), us.length = ps.length -> bindArgs (PySem.W.fnOf x qual (ac5 st) (abW st) (aal st) .none kV doc pm an cdv ct) ⟨us, []⟩ = pure (ps.zip us)) : Binds K fd ps [] := by
 obtain ⟨oc, od, kV, doc, pm, an, cdv, ct, osl, rfl, lk, hcd⟩ := F.ex
 exact .all (h kV doc pm an cdv ct)
theorem apG {x qual : Str} {st : Stmt} {f : Addr} {oc : Value} {od an : Option Addr} {osl : Array (Option Value)} {kV doc pm cdv ct : Value} (l : K.lookup f = some ⟨oc, od, .func (PySem.W.fnOf x qual (ac5 st) (abW st) (aal st) .none kV doc pm an cdv ct), osl⟩)
  (c : PySem.W.codeIn K cdv qual = true) (k : PySem.W.keepIn K (.ref f) = true) : Fun K x qual st f (PySem.W.fnOf x qual (ac5 st) (abW st) (aal st) .none kV doc pm an cdv ct) := ⟨⟨oc, od, kV, doc, pm, an, cdv, ct, osl, rfl, l, c⟩, k⟩
end
theorem agL {n : Nat} (h : n <= 1000) : n < sizeLine := Nat.lt_of_le_of_lt h (by decide)
section
variable {X : Cx}
end
noncomputable def Same (H H' : Hp) : Prop := ∀ b o, H b = some o -> H' b = some o
theorem Same.refl (H : Hp) : Same H H := λ_ _ h => h
theorem Same.trans {H H1 H2 : Hp} (a : Same H H1) (b : Same H1 H2) : Same H H2 := λc o h => b c o (a c o h)
theorem Same.free {H H' : Hp} (e : Same H H') {l : Addr} (h : H' l = Option.none) : H l = Option.none := by
 cases q : H l with
 | none => rfl
 | some o =>
  rw [e l o q] at h
  cases h
theorem Same.seq {K : PySem.W.Frag} {H H' : Hp} {a : Addr} {xs : List V} (e : Same H H') (h : SqL K H a xs) : SqL K H' a xs := by
 rcases h with (h | ⟨o, h⟩) | h
 ·exact .inl (.inl (e _ _ h))
 ·exact .inl (.inr ⟨o, e _ _ h⟩)
 ·exact .inr h
end L2
end
section
namespace L2
open PySem PySem.Spec PyProof.Rows
section
variable {prog : Program} {w : World} {A : Around} {R : Result -> Shared -> Prop} {s : Shared}
theorem aht {elt target iter : Expr} {scope : Scope} {pos : Pos} {it acc : Value} {env : Env} (I : Nat -> Shared -> Prop)
  (turn : ∀ n s, I n s -> wpAny (model prog w) A (pyNext it) (λr s₁ => match r with
   | none => R (.ok .next) s₁
   | some v => wpAny (model prog w) A (letOwnedTupleGo target it v) (λ_ s₁' => wpAny (model prog w) A (assign target env v) (λ_ s₂ => wpAny (model prog w) A (eval elt env) (λx s₃ =>
     wpAny (model prog w) A (call (.builtin "list.append") [acc, x]) (λ_ s₄ => ∃ m, m < n /\ I m s₄) (λ_ _ => False) s₃) (λ_ _ => False) s₂) (λ_ _ => False) s₁') (λ_ _ => False) s₁) (λ_ _ => False) s)
  (n : Nat) (h : I n s) :
  codeAny (model prog w) A (.compLoop (.ListComp elt [⟨target, iter, [], 0⟩] scope pos) 0 it acc env) R s := by
 refine codeAny_loop rfl I (λn s hI => ?_) n h
 show wpAny _ _ ((compTurn (.ListComp elt [⟨target, iter, [], 0⟩] scope pos) 0 it acc env).onRaise (λx => do noteFrame x env; theTreesLotGoes x)) _ _ s
 refine wpAny_noted (wpAny_noRaise ?_)
 rw [compTurn_list1]
 refine wpAny_bind (wpAny_standAt (wpAny_bind (wpAny_mono (turn n s hI) (λr s₁ h₁ => ?_) λ_ _ h' => h')))
 cases r with
 | none => exact wpAny_pure h₁
 | some v =>
  refine wpAny_bind (wpAny_mono h₁ (λ_ s₁' h₁' => ?_) λ_ _ h' => h')
  exact wpAny_bind (wpAny_mono h₁' (λ_ s₂ h₂ => wpAny_bind (wpAny_bind (wpAny_mono h₂ (λx s₃ h₃ => wpAny_bind (wpAny_mono h₃
   (λ_ s₄ h₄ => wpAny_pure (wpAny_pure ⟨rfl, h₄⟩)) λ_ _ h' => h')) λ_ _ h' => h'))) λ_ _ h' => h')
end
noncomputable def aax (cells : List (Str × Addr)) : List (Str × NameKind) -> List (Str × Addr) -> List (Str × Addr)
 | [], acc => acc
 | (n, k) :: r, acc => if k = .free then (match cells.lookup n with | some a => aax cells r ((n, a) :: acc) | none => aax cells r acc) else aax cells r acc
theorem abe {cells : List (Str × Addr)} {x : Str} {c : Addr} : ∀ {names : List (Str × NameKind)} {acc : List (Str × Addr)}, (aax cells names acc).lookup x = some c -> acc.lookup x = some c \/ cells.lookup x = some c
 | [], acc, h => .inl h
 | (n, k) :: r, acc, h => by
  unfold aax at h
  split at h
  ·split at h
   ·rename_i a ha
    rcases abe h with q | q
    ·by_cases e : x = n
     ·subst e
      rw [List.lookup_cons, beq_self_eq_true] at q
      cases q
      exact .inr ha
     ·rw [List.lookup_cons, beq_false_of_ne e] at q
      exact .inl q
    ·exact .inr q
   ·exact abe h
  ·exact abe h
theorem abx {cells : List (Str × Addr)} {x : Str} : ∀ {names : List (Str × NameKind)} {acc : List (Str × Addr)}, ((acc.lookup x).isSome = true \/ ((x, NameKind.free) ∈ names /\ (cells.lookup x).isSome = true)) -> ((aax cells names acc).lookup x).isSome = true
 | [], acc, h => by
  rcases h with h | ⟨h, _⟩
  ·exact h
  ·cases h
 | (n, k) :: r, acc, h => by
  have up : ∀ a, (acc.lookup x).isSome = true -> (List.lookup x ((n, a) :: acc)).isSome = true := λa q => by
   rw [List.lookup_cons]
   split
   ·rfl
   ·exact q
  unfold aax
  split
  ·rename_i hk
   split
   ·rename_i a ha
    refine abx ?_
    rcases h with h | ⟨h, hc⟩
    ·exact .inl (up a h)
    ·rcases List.mem_cons.mp h with e | e
     ·cases e
      refine .inl ?_
      rw [List.lookup_cons, beq_self_eq_true]
      rfl
     ·exact .inr ⟨e, hc⟩
   ·rename_i hn
    refine abx ?_
    rcases h with h | ⟨h, hc⟩
    ·exact .inl h
    ·rcases List.mem_cons.mp h with e | e
     ·cases e
      rw [hn] at hc; cases hc
     ·exact .inr ⟨e, hc⟩
  ·rename_i hk
   refine abx ?_
   rcases h with h | ⟨h, hc⟩
   ·exact .inl h
   ·rcases List.mem_cons.mp h with e | e
    ·cases e; exact absurd rfl hk
    ·exact .inr ⟨e, hc⟩
theorem ad7 {scope : Scope} {env : Env} (h : ∀ y ∈ scope.names, y.2 = .free -> (env.cells.lookup y.1).isSome = true) : closureFor scope env = pure (aax env.cells scope.names []) := by
 unfold closureFor
 suffices q : ∀ (names : List (Str × NameKind)) (acc : List (Str × Addr)), (∀ y ∈ names, y.2 = .free -> (env.cells.lookup y.1).isSome = true) ->
   (forIn names acc λx r => do
    match x with
    | (name, kind) => if (kind == NameKind.free) = true then do let a <-cellOf env name; pure (ForInStep.yield ((name, a) :: r)) else pure (ForInStep.yield r) : Sem _) = pure (aax env.cells names acc) by
  have z := q scope.names [] h
  exact (congrArg (λm => m >>= λcs => pure cs) z)
 intro names
 induction names with
 | nil => intro acc _; rfl
 | cons y r ih =>
  intro acc hy
  obtain ⟨n, k⟩ := y
  rw [List.forIn_cons]
  unfold aax
  by_cases hk : k = .free
  ·subst hk
   rw [if_pos rfl]
   have q := hy (n, .free) List.mem_cons_self rfl
   cases e : env.cells.lookup n with
   | none => rw [e] at q; cases q
   | some a =>
    have ec : cellOf env n = pure a := by unfold cellOf; rw [e]
    simp only [ec]
    exact ih _ λz hz => hy z (List.mem_cons_of_mem _ hz)
  ·rw [if_neg hk]
   have hb : (k == NameKind.free) = false := by simpa using hk
   simp only [hb]
   exact ih _ λz hz => hy z (List.mem_cons_of_mem _ hz)
noncomputable def alG (scope sc : Scope) : Scope :=
 { scope with names := scope.names.map λ(n, k) => if (k == .free && sc.kind == .function && sc.names.lookup n == some .cell) then (n, .cell) else (n, k) }
theorem ab7 {env : Env} : ∀ {names : List (Str × NameKind)} {x : Str}, names.lookup x = some .free ->
  (names.map λ(n, k) => if (k == NameKind.free && env.scope.kind == .function && env.kindOf n == some .cell) then (n, NameKind.cell) else (n, k)).lookup x = some .cell \/
  (names.map λ(n, k) => if (k == NameKind.free && env.scope.kind == .function && env.kindOf n == some .cell) then (n, NameKind.cell) else (n, k)).lookup x = some .free
 | [], _, h => by simp at h
 | (n, k) :: r, x, h => by
  have ih := @ab7 env r x
  rw [List.map_cons]
  dsimp only
  cases hx : x == n with
  | true =>
   simp only [List.lookup_cons, hx] at h
   cases h
   by_cases hc : (NameKind.free == NameKind.free && env.scope.kind == .function && env.kindOf n == some .cell) = true
   ·rw [if_pos hc]; simp [List.lookup_cons, hx]
   ·rw [if_neg hc]; simp [List.lookup_cons, hx]
  | false =>
   simp only [List.lookup_cons, hx] at h
   by_cases hc : (k == NameKind.free && env.scope.kind == .function && env.kindOf n == some .cell) = true
   ·rw [if_pos hc]; simp only [List.lookup_cons, hx]; exact ih h
   ·rw [if_neg hc]; simp only [List.lookup_cons, hx]; exact ih h
theorem aep {env : Env} : ∀ {names : List (Str × NameKind)} {x : Str},
  ((names.map λ(n, k) => if (k == NameKind.free && env.scope.kind == .function && env.kindOf n == some .cell) then (n, NameKind.cell) else (n, k)).lookup x = some .cell \/
  (names.map λ(n, k) => if (k == NameKind.free && env.scope.kind == .function && env.kindOf n == some .cell) then (n, NameKind.cell) else (n, k)).lookup x = some .free) -> names.lookup x = some .cell \/ names.lookup x = some .free
 | [], _, h => by simp at h
 | (n, k) :: r, x, h => by
  have ih := @aep env r x
  rw [List.map_cons] at h
  dsimp only at h
  cases hx : x == n with
  | true =>
   by_cases hcc : (k == NameKind.free && env.scope.kind == .function && env.kindOf n == some .cell) = true
   ·have hk : k = .free := by
     simp only [Bool.and_eq_true, beq_iff_eq] at hcc
     exact hcc.1.1
    subst hk
    exact .inr (by simp only [List.lookup_cons, hx])
   ·rw [if_neg hcc] at h
    simp only [List.lookup_cons, hx] at h ⊢
    exact h
  | false =>
   have q := ih (by
    by_cases hcc : (k == NameKind.free && env.scope.kind == .function && env.kindOf n == some .cell) = true
    ·rw [if_pos hcc] at h; simp only [List.lookup_cons, hx] at h; exact h
    ·rw [if_neg hcc] at h; simp only [List.lookup_cons, hx] at h; exact h)
   simp only [List.lookup_cons, hx]
   exact q
theorem aaW : ∀ (names : List (Str × NameKind)) (n : Nat) (acc : List (Str × Addr)), cellsFrom n names acc = cellsFrom n names [] ++ acc
 | [], _, _ => rfl
 | (x, k) :: r, n, acc => by
  unfold cellsFrom
  split
  ·rw [aaW r (n + 1) ((x, n) :: acc), aaW r (n + 1) [(x, n)], List.append_assoc]
   rfl
  ·exact aaW r n acc
theorem acs : ∀ (names : List (Str × NameKind)) (n : Nat) {x : Str} {c : Addr}, (x, c) ∈ cellsFrom n names [] -> (x, NameKind.cell) ∈ names
 | [], _, _, _, h => by cases h
 | (y, k) :: r, n, x, c, h => by
  unfold cellsFrom at h
  split at h
  ·rename_i hk
   have hk : k = .cell := by simpa using hk
   rw [aaW] at h
   rcases List.mem_append.mp h with z | z
   ·exact List.mem_cons_of_mem _ (acs r _ z)
   ·have z := List.mem_singleton.mp z
    cases z
    rw [hk]
    exact List.mem_cons_self
  ·exact List.mem_cons_of_mem _ (acs r _ h)
theorem ab4 (x : Str) : ∀ (a b : List (Str × Addr)), (a ++ b).lookup x = (match a.lookup x with | some c => some c | none => b.lookup x)
 | [], _ => rfl
 | (y, c) :: r, b => by
  have ih := ab4 x r b
  rw [List.cons_append, List.lookup_cons, List.lookup_cons]
  cases h : x == y with
  | true => rfl
  | false => exact ih
theorem acX {M : Model} {A : Around} {E : Value -> Shared -> Prop} {s : Shared} {scope : Scope} {globals : Addr} {cl : List (Str × Addr)} {qual : Str} {env : Env} {Q : Env -> Shared -> Prop}
  (hQ : ∀ h', h'.Ns s.heap.objs.size (λ_ => none) -> (∀ b o, s.heap.get? b = some o -> h'.get? b = some o) -> CellsOk h' (s.heap.objs.size + 1) (cellsFrom (s.heap.objs.size + 1) scope.names []) ->
   Q { scope := scope, locals := s.heap.objs.size, globals := globals, cells := cellsFrom (s.heap.objs.size + 1) scope.names cl, qual := qual, func := none, code := env.code, frame := env.frame, builtins := env.builtins } { s with heap := h', toks := s.toks + ([] : List (Str × Value)).length }) :
  wpAny M A (newFunctionEnv scope globals cl [] qual none .none (some env)) Q E s := by
 simp only [newFunctionEnv, Option.isSome_some, if_true]
 refine wpAny_bind (wpAny_alloc ?_)
 refine wpAny_bind (wpAny_layCells _ (λname kind cells => by cases hkc : kind == NameKind.cell <;> simp [hkc]) _ _ _ _ ?_)
 have ok := cellsFrom_ok scope.names (s.heap.push { cls := .type "dict", data := .dict #[] }) (s.heap.objs.size + 1) [] ⟨λ_ _ hm => (nomatch hm), List.Pairwise.nil⟩ (by rw [Heap.size_push]; exact Nat.le_refl _)
 rw [Heap.size_push] at ok
 rw [show ({ s with heap := s.heap.push { cls := .type "dict", data := .dict #[] } } : Shared).heap.objs.size = s.heap.objs.size + 1 from Heap.size_push ..]
 rw [List.forIn_nil]
 exact wpAny_bind (wpAny_pure (wpAny_pure (hQ _ ((Heap.Ns.new s.heap (.type "dict")).keeps (pushCells_keeps _ _)) (λb o e => pushCells_keeps _ _ b o (Heap.get?_push_of_some _ e)) ok)))
structure afw (sc : Scope) (No N : List Str) (src : List (Option Nat)) (scope : Scope) : Prop where
 kind : scope.kind = .function
 cells : ∀ y ∈ scope.names, y.2 = .cell -> scope.names.lookup y.1 = some .cell
 names : ∀ y ∈ scope.names, y.2 = .local -> scope.names.lookup y.1 = some .local
 free : ∀ y ∈ scope.names, y.2 = .free -> sc.names.lookup y.1 = some .cell \/ sc.names.lookup y.1 = some .free
 len : src.length = N.length
 up : ∀ p ∈ N.zip src, ∀ j ∈ p.2, No[j]? = some p.1 /\ scope.names.lookup p.1 = some .free
noncomputable def afR (src : List (Option Nat)) (σ : St) : St := src.map λo => o.bind λj => (σ[j]?).join
noncomputable def aa9 (X : Cx) (N : List Str) (scope : Scope) (C : Addr) (s : Shared) (H : Hp) (ex : List Addr) : Cx where
 prog := X.prog
 w := X.w
 K := X.K
 mg := X.mg
 base := X.base
 A := X.A
 N := N
 s₀ := s
 H₀ := H
 env := compEnvC scope (cellsFrom (C + 1) scope.names (aax X.env.cells scope.names [])) C X.env
 outer := X.stack
 stack := X.stack
 ex := ex
 fn := λx => scope.names.lookup x == some .cell
 calm := X.calm
 pn := []
 xe := λ_ _ => False
noncomputable def QAt (Q : VK) (D : Addr) (H : Hp) : Prop := Q (.ref D) H
noncomputable def akf (wi : TI) (g : TG) (src : List (Option Nat)) (te : TE) : TE := λσ H Q => wi σ H λJ H1 => ∀ D, H1 D = none ->
 ∃ W : Nat -> Nat -> St -> Hp -> Prop, (∃ m, W 0 m (afR src σ) (upd H1 D (.lst []))) /\ ∀ i m σ' H', W i m σ' H' ->
  (J.stop i H' /\ QAt Q D H') \/ (J.go i H' /\ ∀ x H'', J.yld i H' x H'' -> g x σ' H'' λσ2 H2 => te σ2 H2 λv H3 => ∃ xs, H3 D = some (.lst xs) /\ xs.length < sizeLine /\ ∃ m', m' < m /\ W (i + 1) m' σ2 (upd H3 D (.lst (xs ++ [v]))))
section
variable {X : Cx} {elt tg iter : Expr} {scope sc : Scope} {pos : Pos} {No N : List Str} {src : List (Option Nat)} {wi : TI} {g : TG} {te : TE}
theorem afx {pins : List (Addr × Obj)} {σ : St} {H : Hp} {s : Shared} {h₁ : Heap} {fp : List Addr} {tk : Nat} (hsc : X.env.scope = sc) (hNo : X.N = No) (S : afw sc No N src scope) (I : Inv X pins σ H s)
  (hf : ∀ b ∈ fp, aj0 X pins H b) (hlt : ∀ b ∈ fp, b < s.heap.objs.size)
  (hns : h₁.Ns s.heap.objs.size (λ_ => none)) (old : ∀ b o, s.heap.get? b = some o -> h₁.get? b = some o) (ck : CellsOk h₁ (s.heap.objs.size + 1) (cellsFrom (s.heap.objs.size + 1) scope.names [])) :
  Inv (aa9 X N scope s.heap.objs.size s H fp) [] (afR src σ) H { s with heap := h₁, toks := tk } := by
 subst hsc
 subst hNo
 have ad8 : ∀ x c, (cellsFrom (s.heap.objs.size + 1) scope.names (aax X.env.cells scope.names [])).lookup x = some c -> (cellsFrom (s.heap.objs.size + 1) scope.names []).lookup x = some c \/ X.env.cells.lookup x = some c := λx c h => by
  rw [aaW, ab4] at h
  split at h
  ·rename_i e
   exact .inl (e.trans h)
  ·rcases abe h with q | q
   ·simp at q
   ·exact .inr q
 have big : ∀ x c, (cellsFrom (s.heap.objs.size + 1) scope.names []).lookup x = some c -> s.heap.objs.size + 1 <= c := λx c h => (ck.empty x c (PySem.mem_of_lookup h)).2
 have ltc : ∀ x c, X.env.cells.lookup x = some c -> c < s.heap.objs.size := λx c e => by
  obtain ⟨v, q⟩ := I.cell x c e
  exact q.lt
 have awr : ∀ b ∈ frs X.stack, b < s.heap.objs.size := λb hb => by
  obtain ⟨_, o, ho, _⟩ := I.stack.mem hb
  exact Heap.lt_size ho
 refine ⟨⟨I.ok.mod, S.kind, I.ok.glob, I.ok.blt, Nat.le_refl _, λx y c h1 h2 => ?_, λx hx => ?_, λx c hfn h => ?_, I.ok.hd, I.ok.frames, .inl rfl, λb hb => ⟨Nat.ne_of_lt (hlt b hb), λx c e => ?_⟩,
   I.bs, Nat.le_trans I.ok.bsz I.sz, λb o e hb => ?_, λb hb hb' => ?_, I.stack, I.aeV⟩,
  rfl, I.bare, Un.kept old, ⟨_, hns, λi x v h1 h2 h3 => ?_⟩, λx c e => ?_, I.hok.fresh (Nat.le_refl _), λx c e => ?_, λp hp => absurd (show p ∈ ([] : List (Addr × Obj)) from hp) (by simp), I.hok.kept old, ?_⟩
 ·rcases ad8 _ _ h1 with z1 | z1
  ·rcases ad8 _ _ h2 with z2 | z2
   ·exact name_of_addr ck.apart (PySem.mem_of_lookup z1) (PySem.mem_of_lookup z2)
   ·exact absurd (Nat.le_trans (big _ _ z1) (Nat.le_of_lt (ltc _ _ z2))) (Nat.not_succ_le_self _)
  ·rcases ad8 _ _ h2 with z2 | z2
   ·exact absurd (Nat.le_trans (big _ _ z2) (Nat.le_of_lt (ltc _ _ z1))) (Nat.not_succ_le_self _)
   ·exact I.ok.inj x y c z1 z2
 ·-- every cell or free name has its cell
  rcases aep hx with m | m
  ·exact Option.isSome_iff_exists.mp (PySem.W.cellsFrom_some _ _ _ (.inl m))
  ·have m := PySem.mem_of_lookup m
   have q := abx (cells := X.env.cells) (acc := []) (.inr ⟨m, by
    obtain ⟨c, e⟩ := I.ok.has x (S.free _ m rfl)
    rw [e]; rfl⟩)
   exact Option.isSome_iff_exists.mp (PySem.W.cellsFrom_some _ _ _ (.inr q))
 ·have hfn : scope.names.lookup x = some .cell := by
   have z : (scope.names.lookup x == some .cell) = true := hfn
   simpa using z
  obtain ⟨c', e'⟩ := Option.isSome_iff_exists.mp (PySem.W.cellsFrom_some _ (s.heap.objs.size + 1) [] (.inl hfn))
  have h : (cellsFrom (s.heap.objs.size + 1) scope.names (aax X.env.cells scope.names [])).lookup x = some c := h
  rw [aaW, ab4, e'] at h
  cases h
  exact Nat.le_of_succ_le (big _ _ e')
 ·rcases ad8 _ _ e with z | z
  ·exact λy => absurd (Nat.le_trans (big _ _ z) (y ▸ Nat.le_of_lt (hlt b hb))) (Nat.not_succ_le_self _)
  ·exact (hf b hb).2.2.2.2.1 x c z
 ·obtain ⟨f0, f1, f2, f3, f4, f5⟩ := hf b hb
  rcases f3 with z | z
  ·exact I.ok.aho b o e z
  ·have q := Heap.lt_size (I.ok.bs b o e).1
   exact absurd q (Nat.not_lt.mpr z)
 ·obtain ⟨f0, f1, f2, _⟩ := hf b hb
  rcases List.mem_cons.mp (I.agx b hb') with z | z
  ·exact f1 z
  ·exact f2 z
 ·have hi : i < src.length := by
   unfold afR at h2
   have := (List.getElem?_eq_some_iff.mp h2).1
   simpa using this
  have h2' : ((src[i]).bind λj => (σ[j]?).join) = some v := by
   unfold afR at h2
   rw [List.getElem?_map, List.getElem?_eq_getElem hi] at h2
   exact Option.some.inj h2
  cases es : src[i] with
  | none => rw [es] at h2'; cases h2'
  | some j =>
   rw [es] at h2'
   have hj : σ[j]? = some (some v) := by
    have z : (σ[j]?).join = some v := h2'
    cases q : σ[j]? with
    | none => rw [q] at z; cases z
    | some o => rw [q] at z; have z' : o = some v := z; rw [z']
   have hz : (x, some j) ∈ N.zip src := by
    refine List.mem_of_getElem? (i := i) ?_
    rw [List.getElem?_zip_eq_some]
    exact ⟨h1, by rw [List.getElem?_eq_getElem hi, es]⟩
   obtain ⟨u1, u2⟩ := S.up _ hz j rfl
   have m : (x, NameKind.free) ∈ scope.names := PySem.mem_of_lookup u2
   have kx := S.free _ m rfl
   obtain ⟨m0, hn0, hl0⟩ := id I.loc
   obtain ⟨u, r, lk⟩ := hl0 j x v u1 hj (kx.elim (λz => .inr (.inl z)) λz => .inr (.inr z))
   refine ⟨u, r, ?_⟩
   rcases lk with ⟨k, _⟩ | ⟨_, c, e, ic⟩
   ·have k' : X.env.scope.names.lookup x = some .local := k
    rcases kx with z | z
    ·rw [z] at k'; cases k'
    ·rw [z] at k'; cases k'
   ·refine .inr ⟨ab7 u2, c, ?_, ?_⟩
    ·have q := abx (cells := X.env.cells) (acc := []) (.inr ⟨m, by rw [e]; rfl⟩)
     obtain ⟨c', e'⟩ := Option.isSome_iff_exists.mp q
     have e2 : X.env.cells.lookup x = some c' := by
      rcases abe e' with q | q
      ·simp at q
      ·exact q
     rw [e] at e2; cases e2
     show (cellsFrom (s.heap.objs.size + 1) scope.names (aax X.env.cells scope.names [])).lookup x = some c
     rw [aaW, ab4]
     split
     ·rename_i c2 z
      have y := S.cells _ (acs _ _ (PySem.mem_of_lookup z)) rfl
      rw [u2] at y; cases y
     ·exact e'
    ·obtain ⟨o, ho, hd⟩ := ic
     exact ⟨o, old _ _ ho, hd⟩
 ·rcases ad8 _ _ e with z | z
  ·exact ⟨_, (ck.empty x c (PySem.mem_of_lookup z)).1⟩
  ·obtain ⟨v, o, ho, hd⟩ := I.cell x c z
   exact ⟨v, o, old _ _ ho, hd⟩
 ·rcases ad8 _ _ e with z | z
  ·exact I.hok.fresh (Nat.le_of_succ_le (big _ _ z))
  ·exact I.ad5 x c z
 ·unfold afR
  rw [List.length_map]
  exact S.len
theorem alH {pins : List (Addr × Obj)} {σ : St} {H : Hp} {s : Shared} {Q : VK} {RR : Value -> Addr -> Result -> Shared -> Prop} (hsc : X.env.scope = sc) (hNo : X.N = No) (S : afw sc No N src scope) (hc : X.calm = true)
  (hi : PI X tg iter wi) (hg : ∀ C s H ex, PG (aa9 X N scope C s H ex) tg g) (he : ∀ C s H ex, PE (aa9 X N scope C s H ex) elt te) (I : Inv X pins σ H s) (h : akf wi g src te σ H Q)
  (hRR : ∀ D C H' s' m, Inv X pins σ H' s' -> H' C = none -> C ≠ X.env.locals -> X.s₀.heap.objs.size <= C -> (∀ x c, X.env.cells.lookup x = some c -> c ≠ C) -> (∀ p ∈ X.pn ++ pins, p.1 ≠ C) -> s'.heap.Ns C m -> Q (.ref D) H' -> RR (.ref D) C (.ok .next) s') :
  wpAny (model X.prog X.w) X.A (eval iter X.env) (λx s₁ => wpAny (model X.prog X.w) X.A (pyIter x) (λit s₂ => wpAny (model X.prog X.w) X.A (newList []) (λacc s₃ =>
   wpAny (model X.prog X.w) X.A (newFunctionEnv scope X.env.globals (aax X.env.cells scope.names []) [] X.env.qual none .none (some X.env)) (λcenv s₄ =>
    codeAny (model X.prog X.w) X.A (.compStart (.ListComp elt [⟨tg, iter, [], 0⟩] scope pos) 0 it acc { cenv with scope := relabel scope X.env }) (RR acc cenv.locals) s₄) X.xe s₃) X.xe s₂) X.xe s₁) X.xe s := by
 refine thn (hi pins s σ H _ I h) λv s1 h1 => thn h1 λitv s2 h2 => ?_
 obtain ⟨it, fp, tn, J, H2, e, I2, T, st2, f2, hW⟩ := h2
 subst e
 have hD0 : H2 s2.heap.objs.size = none := I2.hok.fresh (Nat.le_refl _)
 obtain ⟨W, ⟨m0, w0⟩, turn⟩ := hW s2.heap.objs.size hD0
 have apH : ∀ b ∈ fp, b < s2.heap.objs.size := λb hb => by
  obtain ⟨o, e, _⟩ := T.obj 0 _ st2 b hb
  exact Heap.lt_size e
 refine wpAny_newObj_type ?_
 have I3 : Inv X pins σ (upd H2 s2.heap.objs.size (.lst [])) { s2 with heap := s2.heap.push { cls := .type "list", dict := none, data := .seq ([] : List Value).toArray } } := I2.arE (t' := s2.toks) (ys := []) .nil (Nat.zero_le _)
 have f3 : ∀ b ∈ fp, aj0 X pins (upd H2 s2.heap.objs.size (.lst [])) b := λb hb => by
  obtain ⟨q, r⟩ := f2 b hb
  exact ⟨by rw [aaC (Nat.ne_of_lt (apH b hb))]; exact q, r⟩
 have st3 : tn 0 (s2.heap.push { cls := .type "list", dict := none, data := .seq ([] : List Value).toArray }) := T.keep _ _ _ st2 λb hb o e => Heap.get?_push_of_some _ e
 have lt3 : ∀ b ∈ fp, b < (s2.heap.push { cls := .type "list", dict := none, data := .seq ([] : List Value).toArray }).objs.size := λb hb => by
  rw [Heap.size_push]; exact Nat.lt_succ_of_lt (apH b hb)
 generalize hD : s2.heap.objs.size = D at *
 generalize hh3 : s2.heap.push { cls := .type "list", dict := none, data := .seq ([] : List Value).toArray } = h3 at *
 generalize hH3 : upd H2 D (.lst []) = H3 at *
 refine acX λh₁ hns old ck => ?_
 dsimp only at hns old ck ⊢
 have I4 : Inv (aa9 X N scope h3.objs.size { s2 with heap := h3 } H3 fp) [] (afR src σ) H3 { s2 with heap := h₁, toks := s2.toks + ([] : List (Str × Value)).length } := afx (s := { s2 with heap := h3 }) hsc hNo S I3 f3 lt3 hns old ck
 have st4 : tn 0 h₁ := T.keep _ _ _ st3 λb hb o e => old b o e
 have loop : codeAny (model X.prog X.w) X.A (.compLoop (.ListComp elt [⟨tg, iter, [], 0⟩] scope pos) 0 (.ref it) (.ref D) (compEnvC scope (cellsFrom (h3.objs.size + 1) scope.names (aax X.env.cells scope.names [])) h3.objs.size X.env)) (RR (.ref D) h3.objs.size) { s2 with heap := h₁, toks := s2.toks + ([] : List (Str × Value)).length } := by
  have stat : ∀ {H' : Hp}, (∀ b ∈ fp, H' b = none) -> ∀ b ∈ fp, aj0 (aa9 X N scope h3.objs.size { s2 with heap := h3 } H3 fp) [] H' b := λhn b hb => by
   obtain ⟨g0, g1, g2, g3, g4, g5⟩ := f3 b hb
   refine ⟨hn b hb, Nat.ne_of_lt (lt3 b hb), λz => ?_, .inl hb, λx c e => ?_, λp hp => absurd (show p ∈ ([] : List (Addr × Obj)) from hp) (by simp)⟩
   ·rcases List.mem_cons.mp (I3.agx b z) with z | z
    ·exact g1 z
    ·exact g2 z
   ·have e : (cellsFrom (h3.objs.size + 1) scope.names (aax X.env.cells scope.names [])).lookup x = some c := e
    rw [aaW, ab4] at e
    split at e
    ·rename_i z
     cases e
     exact λy => absurd (Nat.le_trans (ck.empty x c (PySem.mem_of_lookup z)).2 (y ▸ Nat.le_of_lt (lt3 b hb))) (Nat.not_succ_le_self _)
    ·rcases abe e with q | q
     ·simp at q
     ·exact g4 x c q
  refine aht (λn s' => ∃ i σ' H', Inv (aa9 X N scope h3.objs.size { s2 with heap := h3 } H3 fp) [] σ' H' s' /\ tn i s'.heap /\ (∀ b ∈ fp, H' b = none) /\ W i n σ' H') ?_ m0 ⟨0, afR src σ, H3, I4, st4, λb hb => (f3 b hb).1, w0⟩
  rintro n s5 ⟨i, σ5, H5, I5, st5, fr5, w5⟩
  rcases turn i n σ5 H5 w5 with ⟨stop, qn⟩ | ⟨go, step⟩
  ·refine thn (T.done (aa9 X N scope h3.objs.size { s2 with heap := h3 } H3 fp) rfl rfl rfl hc i [] s5 σ5 H5 (λ_ _ => False) I5 (stat fr5) st5 stop) λr s6 ⟨hr, I6⟩ => ?_
   subst hr
   obtain ⟨mC, hnC, _⟩ := id I6.loc
   have I7 : Inv X pins σ H5 s6 := I3.call' (ch := fp) I6.os I6.base I6.hok I6.bare λb hb => by
    obtain ⟨g0, g1, g2, g3, g4, g5⟩ := f3 b hb
    exact ⟨g3, g1, g4, g5⟩
   refine hRR D h3.objs.size H5 s6 mC I7 I6.free (Nat.ne_of_gt I3.lt) I3.sz (λx c e z => ?_) (λp hp z => ?_) hnC qn
   ·obtain ⟨v, q⟩ := I3.cell x c e
    exact absurd q.lt (by rw [z]; exact Nat.lt_irrefl _)
   ·exact absurd (Heap.lt_size (I3.pin p hp).1) (by rw [z]; exact Nat.lt_irrefl _)
  ·refine thn (T.item (aa9 X N scope h3.objs.size { s2 with heap := h3 } H3 fp) rfl rfl rfl hc i [] s5 σ5 H5 (λ_ _ => False) I5 (stat fr5) st5 go) λr s6 ⟨u, hr, h6⟩ => ?_
   subst hr
   refine thn h6 λ_ s7 ⟨x, H7, I7, r7, y7, st7, fr7⟩ => ?_
   have I7' := I7.pinned (stat fr7) (T.obj _ _ st7)
   refine thn (hg _ _ _ _ _ s7 σ5 H7 x u _ I7' r7 (step x H7 y7)) λ_ s8 ⟨σ8, H8, I8, q8⟩ => ?_
   refine thn (he _ _ _ _ _ s8 σ8 H8 _ I8 q8) λyv s9 ⟨y, H9, I9, r9, q9⟩ => ?_
   obtain ⟨xs, e9, l9, m', hm, w9⟩ := q9
   refine thn (acA (X := aa9 X N scope h3.objs.size { s2 with heap := h3 } H3 fp) _ s9 σ8 H9 (.ref D) [y] (.ref D) [yv] (λ_ H' => W (i + 1) m' σ8 H') I9 rfl (.cons r9 .nil) ⟨D, xs, y, rfl, rfl, e9, l9, w9⟩) λ_ s10 ⟨_, H10, I10, _, q10⟩ => ?_
   refine ⟨m', hm, i + 1, σ8, H10, I10.adn (pins := []), T.keep _ _ _ st7 λb hb o e => (I10.pin (b, o) (List.mem_append_right _ (List.mem_append_right _ (abF hb e)))).1, λb hb => ?_, q10⟩
   obtain ⟨o, e, d⟩ := T.obj _ _ st7 b hb
   exact (I10.pin (b, o) (List.mem_append_right _ (List.mem_append_right _ (abF hb e)))).2.1
 exact codeAny_compStart_list loop (T.self _ _ _ _ _ st4 loop)
theorem acI (hsc : X.env.scope = sc) (hNo : X.N = No) (S : afw sc No N src scope) (hc : X.calm = true)
  (hi : PI X tg iter wi) (hg : ∀ C s H ex, PG (aa9 X N scope C s H ex) tg g) (he : ∀ C s H ex, PE (aa9 X N scope C s H ex) elt te)
  (hs : ∀ x, foldedSetIterable iter X.env x = pure x := by intro _; rfl) : PE X (.ListComp elt [⟨tg, iter, [], 0⟩] scope pos) (akf wi g src te) := by
 intro pins s σ H Q I h
 rw [eval_ListComp]
 have hcl : closureFor scope X.env = pure (aax X.env.cells scope.names []) := ad7 λy hy e => by
  have k := S.free y hy e
  rw [<-hsc] at k
  obtain ⟨c, q⟩ := I.ok.has y.1 k
  rw [q]; rfl
 refine wpAny_comprehension_free (use := none) rfl hs hcl S.kind S.names (alH (RR := λacc C => compPost (model X.prog X.w) X.A X.xe none (EP X pins σ Q) acc C) hsc hNo S hc hi hg he I h ?_)
 intro D C H' s' m I' n1 n2 n3 n4 n5 hn q
 refine ⟨m, hn, λh' hs' => ⟨.ref D, H', ?_, rfl, q⟩⟩
 exact I'.turned (t' := s'.toks) (λb o hb e => (hs'.2 b hb).trans e) n1 (Ne.symm (Ne.symm n2)) (.inr n3) n4 n5
end
section
variable {K : PySem.W.Frag} {g : TG} {te : TE} {Q : VK}
end
end L2
end
section
namespace L2
open PySem PySem.Spec PyProof.Rows
noncomputable def arF (e C : Addr) (h : Heap) : Prop := ∃ o vs, h.get? e = some o /\ o.cls = .ref C /\ o.data = .fields vs
noncomputable def exO (e C : Addr) : HO := .ext (arF e C)
noncomputable def abz : List Str := ["NoBottom", "NoBook", "NoList", "NoRule", "NoCount", "NoLooks", "NoThings", "NotSure", "NoSlack", "NoThing", "NoWorth", "TooMany", "NoText", "NoLine"]
inductive Tr where
 | non | bl (b : Bool) | int (i : Int) | str (x : Str) | tup (ts : List Tr) | lst (ts : List Tr) | exn (c : Str)
mutual
inductive Rep (K : PySem.W.Frag) (H : Hp) : V -> Tr -> Prop
 | non : Rep K H .non .non
 | bl (b : Bool) : Rep K H (.bl b) (.bl b)
 | int (i : Int) : Rep K H (.int i) (.int i)
 | str (x : Str) : Rep K H (.str x) (.str x)
 | tup {a : Addr} {xs : List V} {ts : List Tr} (h : SqT K H a xs) (r : aaK K H xs ts) : Rep K H (.ref a) (.tup ts)
 | lst {a : Addr} {xs : List V} {ts : List Tr} (h : SqL K H a xs) (r : aaK K H xs ts) : Rep K H (.ref a) (.lst ts)
 | exn {a C : Addr} {c : Str} (h : H a = some (exO a C)) (m : c ∈ abz) (n : PySem.W.nsIn K mainGlobals c = some (some (.ref C))) : Rep K H (.ref a) (.exn c)
inductive aaK (K : PySem.W.Frag) (H : Hp) : List V -> List Tr -> Prop
 | nil : aaK K H [] []
 | cons {x : V} {t : Tr} {xs : List V} {ts : List Tr} (h : Rep K H x t) (r : aaK K H xs ts) : aaK K H (x :: xs) (t :: ts)
end
theorem Same.aoW {K : PySem.W.Frag} {H H' : Hp} {a : Addr} {xs : List V} (e : Same H H') (h : SqT K H a xs) : SqT K H' a xs := by
 rcases h with (h | ⟨o, h⟩) | h
 ·exact .inl (.inl (e _ _ h))
 ·exact .inl (.inr ⟨o, e _ _ h⟩)
 ·exact .inr h
mutual
theorem Rep.mono {K : PySem.W.Frag} {H H' : Hp} (e : Same H H') : ∀ {v : V} {t : Tr}, Rep K H v t -> Rep K H' v t
 | _, _, .non => .non
 | _, _, .bl b => .bl b
 | _, _, .int i => .int i
 | _, _, .str x => .str x
 | _, _, .tup h r => .tup (e.aoW h) (aaK.mono e r)
 | _, _, .lst h r => .lst (e.seq h) (aaK.mono e r)
 | _, _, .exn h m n => .exn (e _ _ h) m n
theorem aaK.mono {K : PySem.W.Frag} {H H' : Hp} (e : Same H H') : ∀ {v : List V} {t : List Tr}, aaK K H v t -> aaK K H' v t
 | _, _, .nil => .nil
 | _, _, .cons h r => .cons (Rep.mono e h) (aaK.mono e r)
end
theorem aaK.length {K : PySem.W.Frag} {H : Hp} : ∀ {v : List V} {t : List Tr}, aaK K H v t -> v.length = t.length
 | _, _, .nil => rfl
 | _, _, .cons _ r => by rw [List.length_cons, List.length_cons, aaK.length r]
theorem aaK.get {K : PySem.W.Frag} {H : Hp} : ∀ {v : List V} {t : List Tr} {i : Nat} {x : V}, aaK K H v t -> v[i]? = some x -> ∃ u, t[i]? = some u /\ Rep K H x u
 | _, _, _, _, .nil, e => by simp at e
 | _, _, 0, _, .cons h _, e => by
  simp at e
  subst e
  exact ⟨_, rfl, h⟩
 | _, _, i + 1, x, .cons _ r, e => by
  obtain ⟨u, h1, h2⟩ := aaK.get (i := i) (x := x) r (by simpa using e)
  exact ⟨u, by simpa using h1, h2⟩
theorem aaK.app {K : PySem.W.Frag} {H : Hp} : ∀ {v w : List V} {t u : List Tr}, aaK K H v t -> aaK K H w u -> aaK K H (v ++ w) (t ++ u)
 | _, _, _, _, .nil, s => s
 | _, _, _, _, .cons h r, s => .cons h (aaK.app r s)
theorem aaK.take {K : PySem.W.Frag} {H : Hp} : ∀ {v : List V} {t : List Tr} (n : Nat), aaK K H v t -> aaK K H (v.take n) (t.take n)
 | _, _, 0, _ => by rw [List.take_zero, List.take_zero]; exact .nil
 | _, _, n + 1, .nil => by simpa using aaK.nil
 | _, _, n + 1, .cons h r => by
  rw [List.take_succ_cons, List.take_succ_cons]
  exact .cons h (aaK.take n r)
theorem aaK.drop {K : PySem.W.Frag} {H : Hp} : ∀ {v : List V} {t : List Tr} (n : Nat), aaK K H v t -> aaK K H (v.drop n) (t.drop n)
 | _, _, 0, r => by rw [List.drop_zero, List.drop_zero]; exact r
 | _, _, n + 1, .nil => by simpa using aaK.nil
 | _, _, n + 1, .cons h r => by
  rw [List.drop_succ_cons, List.drop_succ_cons]
  exact aaK.drop n r
mutual
noncomputable def dep : Tr -> Nat
 | .tup ts => deps ts + 1
 | .lst ts => deps ts + 1
 | .exn _ => 100
 | _ => 0
noncomputable def deps : List Tr -> Nat
 | [] => 0
 | t :: r => max (dep t) (deps r)
end
mutual
noncomputable def eqT : Tr -> Tr -> Bool
 | .non, .non => true
 | .bl a, .bl b => a == b
 | .bl a, .int b => (if a then 1 else 0) == b
 | .int a, .bl b => a == (if b then 1 else 0)
 | .int a, .int b => a == b
 | .str a, .str b => a == b
 | .tup a, .tup b => als a b
 | .lst a, .lst b => als a b
 | .exn a, .exn b => a == b
 | _, _ => false
noncomputable def als : List Tr -> List Tr -> Bool
 | [], [] => true
 | a :: x, b :: y => eqT a b && als x y
 | _, _ => false
end
mutual
theorem aiw : ∀ t : Tr, eqT t t = true
 | .non => rfl
 | .bl b => by unfold eqT; exact beq_self_eq_true b
 | .int i => by unfold eqT; exact beq_self_eq_true i
 | .str x => by unfold eqT; exact beq_self_eq_true x
 | .tup ts => by unfold eqT; exact ae0 ts
 | .lst ts => by unfold eqT; exact ae0 ts
 | .exn c => by unfold eqT; exact beq_self_eq_true c
theorem ae0 : ∀ ts : List Tr, als ts ts = true
 | [] => rfl
 | t :: r => by unfold als; rw [aiw t, ae0 r]; rfl
end
theorem adM : ∀ {a b : List Tr}, a.length ≠ b.length -> als a b = false
 | [], [], h => absurd rfl h
 | [], _ :: _, _ => rfl
 | _ :: _, [], _ => rfl
 | x :: a, y :: b, h => by
  unfold als
  rw [adM (a := a) (b := b) (by simpa using h), Bool.and_false]
noncomputable def atE (a b : List Tr) (j : Nat) : Bool := match a[j]?, b[j]? with
 | some x, some y => eqT x y
 | _, _ => true
theorem ae1 : ∀ {a b : List Tr}, a.length = b.length -> (List.range a.length).all (atE a b) = als a b
 | [], [], _ => rfl
 | [], _ :: _, h => by cases h
 | _ :: _, [], h => by cases h
 | x :: a, y :: b, h => by
  have ih := ae1 (a := a) (b := b) (by simpa using h)
  rw [List.length_cons, List.range_succ_eq_map, List.all_cons, List.all_map]
  unfold als
  rw [<-ih]
  rfl
section
variable {X : Cx} {pins : List (Addr × Obj)} {σ : St} {H : Hp} {s : Shared}
theorem Inv.anF (I : Inv X pins σ H s) {a C : Addr} {its : Array Value} (h : H a = some (exO a C)) (p : IsTup s.heap a its) : False := by
 obtain ⟨o, _, e1, e2, _⟩ := (I.hok a _ h).1
 obtain ⟨o', e1', e2', _⟩ := p
 rw [e1] at e1'
 cases e1'
 rw [e2] at e2'
 cases e2'
theorem Inv.anG (I : Inv X pins σ H s) {a C : Addr} {its : Array Value} (h : H a = some (exO a C)) (p : PlainL s.heap a its) : False := by
 obtain ⟨o, _, e1, e2, _⟩ := (I.hok a _ h).1
 obtain ⟨o', _, e1', e2', _⟩ := p
 rw [e1] at e1'
 cases e1'
 rw [e2] at e2'
 cases e2'
mutual
theorem Rep.inj (I : Inv X pins σ H s) : ∀ {v : V} {t u : Tr}, dep t <= 99 -> Rep X.K H v t -> Rep X.K H v u -> t = u
 | _, _, _, _, .non, .non => rfl
 | _, _, _, _, .bl _, .bl _ => rfl
 | _, _, _, _, .int _, .int _ => rfl
 | _, _, _, _, .str _, .str _ => rfl
 | _, _, _, d, .tup h r, .tup h' r' => by
  have e := I.agA h h'
  subst e
  rw [aaK.inj I (by unfold dep at d; omega) r r']
 | _, _, _, d, .lst h r, .lst h' r' => by
  have e := I.ain h h'
  subst e
  rw [aaK.inj I (by unfold dep at d; omega) r r']
 | _, _, _, _, .tup h r, .lst h' r' => by
  obtain ⟨_, _, p, _⟩ := I.tuple h
  obtain ⟨_, _, p', _⟩ := I.list h'
  exact absurd rfl (SeqAt.ne_of_list_tuple p'.isList p)
 | _, _, _, _, .lst h r, .tup h' r' => by
  obtain ⟨_, _, p, _⟩ := I.tuple h'
  obtain ⟨_, _, p', _⟩ := I.list h
  exact absurd rfl (SeqAt.ne_of_list_tuple p'.isList p)
 | _, _, _, d, .exn h _ n, _ => by unfold dep at d; omega
 | _, _, _, _, .tup h r, .exn h' _ _ => by
  obtain ⟨_, _, p, _⟩ := I.tuple h
  exact (I.anF h' p).elim
 | _, _, _, _, .lst h r, .exn h' _ _ => by
  obtain ⟨_, _, p, _⟩ := I.list h
  exact (I.anG h' p).elim
theorem aaK.inj (I : Inv X pins σ H s) : ∀ {v : List V} {t u : List Tr}, deps t <= 99 -> aaK X.K H v t -> aaK X.K H v u -> t = u
 | _, _, _, _, .nil, .nil => rfl
 | _, _, _, d, .cons h r, .cons h' r' => by
  unfold deps at d
  rw [Rep.inj I (by omega) h h', aaK.inj I (by omega) r r']
end
theorem in1_units (A : Around) : A.in1.units <= A.units + 1 := by
 show A.units + 1 <= _
 omega
theorem aeN {xs : List V} {its : List Value} {j : Nat} (r : Vals xs its) (h : j < its.toArray.size) : ∃ x, xs[j]? = some x /\ RelV x its.toArray[j] := by
 have h' : j < its.length := by simpa using h
 have hx : j < xs.length := by rw [r.length]; exact h'
 obtain ⟨u, h1, h2⟩ := r.get (List.getElem?_eq_getElem hx)
 refine ⟨xs[j], List.getElem?_eq_getElem hx, ?_⟩
 have e : u = its.toArray[j] := by
  rw [List.getElem?_eq_getElem h'] at h1
  have := Option.some.inj h1
  simpa using this.symm
 rw [<-e]; exact h2
theorem aix {a b : List Tr} {j : Nat} {x y : Tr} (h1 : a[j]? = some x) (h2 : b[j]? = some y) : atE a b j = eqT x y := by
 unfold atE
 rw [h1, h2]
theorem ac6 : ∀ {ts : List Tr} {j : Nat} {t : Tr}, ts[j]? = some t -> dep t <= deps ts
 | [], _, _, h => by simp at h
 | x :: r, 0, t, h => by
  simp at h
  subst h
  unfold deps
  exact Nat.le_max_left _ _
 | x :: r, j + 1, t, h => by
  have := ac6 (ts := r) (j := j) (t := t) (by simpa using h)
  unfold deps
  exact Nat.le_trans this (Nat.le_max_right _ _)
theorem ae2 (I : Inv X pins σ H s) (A : Around) (t u : Tr) (x y : V) (xv yv : Value) (hu : A.units + 0 < cLine) (hd : dep t <= 0) (du : dep u <= 99) (rx : Rep X.K H x t) (ry : Rep X.K H y u) (vx : RelV x xv) (vy : RelV y yv) :
  SeqAt.RcAt A s xv yv (eqT t u) /\ SeqAt.EqAt A s xv yv (eqT t u) := by
 have hu0 : A.units < cLine := by omega
 cases rx with
 | tup h r => unfold dep at hd; omega
 | lst h r => unfold dep at hd; omega
 | exn h m n => unfold dep at hd; omega
 | non =>
  cases vx
  cases ry with
  | non => cases vy; unfold eqT; exact ⟨SeqAt.RcAt.none_none, .same _⟩
  | bl b2 => cases vy; unfold eqT; exact ⟨SeqAt.RcAt.none_bool _, SeqAt.EqAt.none_bool _⟩
  | int i2 => obtain ⟨_, rfl⟩ := vy; unfold eqT; exact ⟨SeqAt.RcAt.none_int _ _, SeqAt.EqAt.none_int _ _⟩
  | str z2 => obtain ⟨_, rfl⟩ := vy; unfold eqT; exact ⟨SeqAt.RcAt.none_str _ _, SeqAt.EqAt.none_str _ _⟩
  | tup h r => cases vy; obtain ⟨_, _, p, _⟩ := I.tuple h; unfold eqT; exact ⟨SeqAt.RcAt.none_tuple p hu0, SeqAt.EqAt.none_tuple p hu0⟩
  | lst h r => cases vy; obtain ⟨_, _, p, _⟩ := I.list h; unfold eqT; exact ⟨SeqAt.RcAt.none_list p.isList hu0, SeqAt.EqAt.none_list p.isList hu0⟩
  | exn h m n => unfold dep at du; omega
 | bl b =>
  cases vx
  cases ry with
  | non => cases vy; unfold eqT; exact ⟨SeqAt.RcAt.bool_none _, SeqAt.EqAt.bool_none _⟩
  | bl b2 => cases vy; unfold eqT; exact ⟨SeqAt.RcAt.bool_bool _ _, SeqAt.EqAt.bool_bool _ _⟩
  | int i2 => obtain ⟨_, rfl⟩ := vy; unfold eqT; exact ⟨SeqAt.RcAt.bool_int _ _ _, SeqAt.EqAt.bool_int _ _ _⟩
  | str z2 => obtain ⟨_, rfl⟩ := vy; unfold eqT; exact ⟨SeqAt.RcAt.bool_str _ _ _, SeqAt.EqAt.bool_str _ _ _⟩
  | tup h r => cases vy; obtain ⟨_, _, p, _⟩ := I.tuple h; unfold eqT; exact ⟨SeqAt.RcAt.bool_tuple _ p hu0, SeqAt.EqAt.bool_tuple _ p hu0⟩
  | lst h r => cases vy; obtain ⟨_, _, p, _⟩ := I.list h; unfold eqT; exact ⟨SeqAt.RcAt.bool_list _ p.isList hu0, SeqAt.EqAt.bool_list _ p.isList hu0⟩
  | exn h m n => unfold dep at du; omega
 | int i =>
  obtain ⟨_, rfl⟩ := vx
  cases ry with
  | non => cases vy; unfold eqT; exact ⟨SeqAt.RcAt.int_none _ _, SeqAt.EqAt.int_none _ _⟩
  | bl b2 => cases vy; unfold eqT; exact ⟨SeqAt.RcAt.int_bool _ _ _, SeqAt.EqAt.int_bool _ _ _⟩
  | int i2 => obtain ⟨_, rfl⟩ := vy; unfold eqT; exact ⟨SeqAt.RcAt.int_int _ _ _ _, SeqAt.EqAt.int_int _ _ _ _⟩
  | str z2 => obtain ⟨_, rfl⟩ := vy; unfold eqT; exact ⟨SeqAt.RcAt.int_str _ _ _ _, SeqAt.EqAt.int_str _ _ _ _⟩
  | tup h r => cases vy; obtain ⟨_, _, p, _⟩ := I.tuple h; unfold eqT; exact ⟨SeqAt.RcAt.int_tuple _ _ p hu0, SeqAt.EqAt.int_tuple _ _ p hu0⟩
  | lst h r => cases vy; obtain ⟨_, _, p, _⟩ := I.list h; unfold eqT; exact ⟨SeqAt.RcAt.int_list _ _ p.isList hu0, SeqAt.EqAt.int_list _ _ p.isList hu0⟩
  | exn h m n => unfold dep at du; omega
 | str z =>
  obtain ⟨_, rfl⟩ := vx
  cases ry with
  | non => cases vy; unfold eqT; exact ⟨SeqAt.RcAt.str_none _ _, SeqAt.EqAt.str_none _ _⟩
  | bl b2 => cases vy; unfold eqT; exact ⟨SeqAt.RcAt.str_bool _ _ _, SeqAt.EqAt.str_bool _ _ _⟩
  | int i2 => obtain ⟨_, rfl⟩ := vy; unfold eqT; exact ⟨SeqAt.RcAt.str_int _ _ _ _, SeqAt.EqAt.str_int _ _ _ _⟩
  | str z2 => obtain ⟨_, rfl⟩ := vy; unfold eqT; exact ⟨SeqAt.RcAt.str_str _ _ _ _, SeqAt.EqAt.str_str _ _ _ _⟩
  | tup h r => cases vy; obtain ⟨_, _, p, _⟩ := I.tuple h; unfold eqT; exact ⟨SeqAt.RcAt.str_tuple _ _ p hu0, SeqAt.EqAt.str_tuple _ _ p hu0⟩
  | lst h r => cases vy; obtain ⟨_, _, p, _⟩ := I.list h; unfold eqT; exact ⟨SeqAt.RcAt.str_list _ _ p.isList hu0, SeqAt.EqAt.str_list _ _ p.isList hu0⟩
  | exn h m n => unfold dep at du; omega
theorem ahu (I : Inv X pins σ H s) : ∀ (n : Nat) (A : Around) (t u : Tr) (x y : V) (xv yv : Value), A.units + n < cLine -> dep t <= n -> dep t <= 99 -> dep u <= 99 -> Rep X.K H x t -> Rep X.K H y u -> RelV x xv -> RelV y yv ->
  SeqAt.RcAt A s xv yv (eqT t u) /\ SeqAt.EqAt A s xv yv (eqT t u) := by
 intro n
 induction n with
 | zero => exact λA t u x y xv yv hu hd _ du rx ry vx vy => ae2 I A t u x y xv yv hu hd du rx ry vx vy
 | succ n ih =>
  intro A t u x y xv yv hu hd dt9 du rx ry vx vy
  have hu0 : A.units < cLine := by omega
  have hu1 : A.in1.units + n < cLine := by
   have := in1_units A
   omega
  have he : ∀ {xs ys : List V} {ts us : List Tr} {its its2 : List Value}, Vals xs its -> Vals ys its2 -> aaK X.K H xs ts -> aaK X.K H ys us -> deps ts <= n -> deps ts <= 99 -> deps us <= 99 -> ∀ j (h1 : j < its.toArray.size) (h2 : j < its2.toArray.size), SeqAt.EqAt A.in1 s its.toArray[j] its2.toArray[j] (atE ts us j) := by
   intro xs ys ts us its its2 r1 r2 q1 q2 hde hd9 hu9 j h1 h2
   obtain ⟨a, ea, ra⟩ := aeN r1 h1
   obtain ⟨b, eb, rb⟩ := aeN r2 h2
   obtain ⟨ta, eta, qa⟩ := q1.get ea
   obtain ⟨tb, etb, qb⟩ := q2.get eb
   rw [aix eta etb]
   exact (ih A.in1 ta tb a b _ _ hu1 (Nat.le_trans (ac6 eta) hde) (Nat.le_trans (ac6 eta) hd9) (Nat.le_trans (ac6 etb) hu9) qa qb ra rb).2
  have dt : ∀ {ts : List Tr}, dep (.tup ts) <= n + 1 -> deps ts <= n := λ{ts} h => by unfold dep at h; omega
  have dl : ∀ {ts : List Tr}, dep (.lst ts) <= n + 1 -> deps ts <= n := λ{ts} h => by unfold dep at h; omega
  have nt : ∀ {ts : List Tr}, dep (.tup ts) <= 99 -> deps ts <= 99 := λ{ts} h => by unfold dep at h; omega
  have nl : ∀ {ts : List Tr}, dep (.lst ts) <= 99 -> deps ts <= 99 := λ{ts} h => by unfold dep at h; omega
  have refs : ∀ {a b : Addr} {t u : Tr} {k : Bool}, dep t <= 99 -> Rep X.K H (.ref a) t -> Rep X.K H (.ref b) u -> k = eqT t u -> SeqAt.RcAt A s (.ref a) (.ref b) k -> SeqAt.EqAt A s (.ref a) (.ref b) k := λ{a b t u k} d9 r1 r2 ek h => by
   by_cases e : a = b
   ·subst e
    have := Rep.inj I d9 r1 r2
    subst this
    rw [ek, aiw]
    exact .same _
   ·exact .of_refs e h
  cases rx with
  | @tup a1 xs1 ts h r =>
   cases vx
   obtain ⟨its, rv, p, _⟩ := I.tuple h
   cases ry with
   | @tup a2 xs2 us h' r' =>
    cases vy
    obtain ⟨its2, rv2, p2, _⟩ := I.tuple h'
    have R := SeqAt.RcAt.tuples p p2 hu0 (he rv rv2 r r' (dt hd) (nt dt9) (nt du))
    have el : its.toArray.size = ts.length := by simpa using (rv.length.symm.trans r.length)
    have el2 : its2.toArray.size = us.length := by simpa using (rv2.length.symm.trans r'.length)
    rw [el, el2] at R
    have eb : ((List.range (min ts.length us.length)).all (atE ts us) && ts.length == us.length) = eqT (.tup ts) (.tup us) := by
     unfold eqT
     by_cases e : ts.length = us.length
     ·rw [e, Nat.min_self, <-e, ae1 e, beq_self_eq_true, Bool.and_true]
     ·rw [beq_false_of_ne e, Bool.and_false, adM e]
    rw [eb] at R
    exact ⟨R, refs dt9 (.tup h r) (.tup h' r') rfl R⟩
   | lst h' r' =>
    cases vy
    obtain ⟨_, _, p2, _⟩ := I.list h'
    unfold eqT
    exact ⟨SeqAt.RcAt.tuple_list p p2.isList hu0, .tuple_list p p2.isList hu0⟩
   | exn h' m n => unfold dep at du; omega
   | non => cases vy; unfold eqT; exact ⟨SeqAt.RcAt.tuple_none p hu0, .tuple_none p hu0⟩
   | bl b => cases vy; unfold eqT; exact ⟨SeqAt.RcAt.tuple_bool _ p hu0, .tuple_bool _ p hu0⟩
   | int i => obtain ⟨_, rfl⟩ := vy; unfold eqT; exact ⟨SeqAt.RcAt.tuple_int _ _ p hu0, .tuple_int _ _ p hu0⟩
   | str z => obtain ⟨_, rfl⟩ := vy; unfold eqT; exact ⟨SeqAt.RcAt.tuple_str _ _ p hu0, .tuple_str _ _ p hu0⟩
  | @lst a1 xs1 ts h r =>
   cases vx
   obtain ⟨its, rv, p, _⟩ := I.list h
   cases ry with
   | @lst a2 xs2 us h' r' =>
    cases vy
    obtain ⟨its2, rv2, p2, _⟩ := I.list h'
    have el : its.toArray.size = ts.length := by simpa using (rv.length.symm.trans r.length)
    have el2 : its2.toArray.size = us.length := by simpa using (rv2.length.symm.trans r'.length)
    by_cases e : ts.length = us.length
    ·have R := SeqAt.RcAt.lists p.isList p2.isList (by rw [el, el2, e]) hu0 (he rv rv2 r r' (dl hd) (nl dt9) (nl du))
     rw [el, ae1 e] at R
     have eb : als ts us = eqT (.lst ts) (.lst us) := by unfold eqT; rfl
     rw [eb] at R
     exact ⟨R, refs dt9 (.lst h r) (.lst h' r') rfl R⟩
    ·have R : SeqAt.RcAt A s _ _ false := SeqAt.RcAt.lists_lengths p.isList p2.isList (by rw [el, el2]; simpa using e) hu0
     have eb : false = eqT (.lst ts) (.lst us) := by unfold eqT; rw [adM e]
     rw [eb] at R
     exact ⟨R, refs dt9 (.lst h r) (.lst h' r') rfl R⟩
   | tup h' r' =>
    cases vy
    obtain ⟨_, _, p2, _⟩ := I.tuple h'
    unfold eqT
    exact ⟨SeqAt.RcAt.list_tuple p.isList p2 hu0, .list_tuple p.isList p2 hu0⟩
   | exn h' m n => unfold dep at du; omega
   | non => cases vy; unfold eqT; exact ⟨SeqAt.RcAt.list_none p.isList hu0, .list_none p.isList hu0⟩
   | bl b => cases vy; unfold eqT; exact ⟨SeqAt.RcAt.list_bool _ p.isList hu0, .list_bool _ p.isList hu0⟩
   | int i => obtain ⟨_, rfl⟩ := vy; unfold eqT; exact ⟨SeqAt.RcAt.list_int _ _ p.isList hu0, .list_int _ _ p.isList hu0⟩
   | str z => obtain ⟨_, rfl⟩ := vy; unfold eqT; exact ⟨SeqAt.RcAt.list_str _ _ p.isList hu0, .list_str _ _ p.isList hu0⟩
  | exn h m n => unfold dep at dt9; omega
  | non => exact ae2 I A _ _ _ _ _ _ (by omega) (by unfold dep; omega) du .non ry vx vy
  | bl b => exact ae2 I A _ _ _ _ _ _ (by omega) (by unfold dep; omega) du (.bl b) ry vx vy
  | int i => exact ae2 I A _ _ _ _ _ _ (by omega) (by unfold dep; omega) du (.int i) ry vx vy
  | str z => exact ae2 I A _ _ _ _ _ _ (by omega) (by unfold dep; omega) du (.str z) ry vx vy
end
end L2
end
section
namespace L2
open PySem PySem.Spec PyProof.Rows
section
variable {X : Cx} {a b : Expr} {ta tb : TE} {pos : Pos}
noncomputable def arZ (K : PySem.W.Frag) : R2 := λx y H Q => ∃ t u, Rep K H x t /\ Rep K H y u /\ dep t <= 40 /\ dep u <= 40 /\ Q (.bl (eqT t u)) H
theorem aer (hu : X.A.units + 64 < cLine) : OpR X (compareOp .Eq) (arZ X.K) := by
 intro pins s σ H x y v u Q I rx ry h
 obtain ⟨t, t', q1, q2, hd, hd2, q⟩ := h
 exact (ahu I 40 X.A t t' x y v u (by omega) hd (by omega) (by omega) q1 q2 rx ry).1 _ _ _ _ ⟨.bl _, H, I, rfl, q⟩
noncomputable def aoX (t : Tr) (ts : List Tr) : Bool := ts.any λu => eqT u t
theorem agM {xs : List V} {its : List Value} {ts : List Tr} {K : PySem.W.Frag} {H : Hp} (f : Tr -> Bool) (e : Value -> Bool) (r : Vals xs its) (q : aaK K H xs ts) (h : ∀ x v t, x ∈ xs -> RelV x v -> Rep K H x t -> t ∈ ts -> e v = f t) : its.any e = ts.any f := by
 induction r generalizing ts with
 | nil => cases q; rfl
 | cons r1 r2 ih =>
  cases q with
  | cons q1 q2 =>
   rw [List.any_cons, List.any_cons, h _ _ _ List.mem_cons_self r1 q1 List.mem_cons_self, ih q2 λx v t hx hr hq ht => h x v t (List.mem_cons_of_mem _ hx) hr hq (List.mem_cons_of_mem _ ht)]
theorem akg : ∀ {ts : List Tr} {t : Tr}, t ∈ ts -> dep t <= deps ts := λ{ts t} h => by
 obtain ⟨i, hi, e⟩ := List.mem_iff_getElem.mp h
 exact ac6 (j := i) (by rw [List.getElem?_eq_getElem hi, e])
inductive Ty where | int | bool | str | tuple | list
noncomputable def Ty.name : Ty -> String
 | .int => "int" | .bool => "bool" | .str => "str" | .tuple => "tuple" | .list => "list"
noncomputable def ac7 : Tr -> Ty -> Bool
 | .bl _, .bool => true | .bl _, .int => true | .int _, .int => true | .str _, .str => true | .tup _, .tuple => true | .lst _, .list => true
 | _, _ => false
noncomputable def arG (K : PySem.W.Frag) : List V -> Hp -> VK -> Prop := λxs H Q => ∃ v t c, xs = [v, .ty (Ty.name c)] /\ Rep K H v t /\ Q (.bl (ac7 t c)) H
noncomputable def XOk (K : PySem.W.Frag) : Prop := ∀ c ∈ abz, ∀ C, PySem.W.nsIn K mainGlobals c = some (some (.ref C)) -> (∀ a, PySem.W.KitX K (.ref a) (.ref C) (arF a C)) /\ ∀ y : Ty, PySem.W.kitOne K (.ref C) (.type y.name) = some false
theorem alI (hX : XOk X.K) : ab6 X (.builtin "isinstance") (arG X.K) := by
 intro pins s σ H xs us Q I r h
 obtain ⟨v, t, c, rfl, q1, q⟩ := h
 obtain ⟨u, w', rfl, ru, rw'⟩ := vals2 r
 obtain rfl : w' = Value.type (Ty.name c) := rw'
 have fin : ∀ tk, EP X pins σ Q (.bool (ac7 t c)) { s with toks := tk } := λtk => ⟨.bl _, H, I.tok tk, rfl, q⟩
 cases q1 with
 | non => cases ru; cases c <;> exact PySem.W.kia_one PySem.W.kitx_none I.kIn True.intro (by kernel_rfl) (λz => nomatch z) fin
 | bl y => cases ru; cases c <;> exact PySem.W.kia_one PySem.W.kitx_bool I.kIn True.intro (by kernel_rfl) (λz => nomatch z) fin
 | int i => obtain ⟨_, rfl⟩ := ru; cases c <;> exact PySem.W.kia_one PySem.W.kitx_int I.kIn True.intro (by kernel_rfl) (λz => nomatch z) fin
 | str y => obtain ⟨_, rfl⟩ := ru; cases c <;> exact PySem.W.kia_one PySem.W.kitx_str I.kIn True.intro (by kernel_rfl) (λz => nomatch z) fin
 | tup h r =>
  cases ru
  obtain ⟨_, _, ⟨o, h1, h2, _⟩, _⟩ := I.tuple h
  cases c <;> exact PySem.W.kia_one PySem.W.kitx_tuple I.kIn ⟨o, h1, h2⟩ (by kernel_rfl) (λz => nomatch z) fin
 | lst h r =>
  cases ru
  obtain ⟨_, _, p, _⟩ := I.list h
  obtain ⟨o, h1, h2, _⟩ := p.isList
  cases c <;> exact PySem.W.kia_one PySem.W.kitx_list I.kIn ⟨o, h1, h2⟩ (by kernel_rfl) (λz => nomatch z) fin
 | exn h m n =>
  cases ru
  obtain ⟨z1, z2⟩ := hX _ m _ n
  exact PySem.W.kia_one (z1 _) I.kIn (I.hok _ _ h).1 (z2 c) (λz => nomatch z) fin
noncomputable def ar0 (K : PySem.W.Frag) : List V -> Hp -> VK -> Prop := λxs H Q => ∃ (p : Addr) (bs : List Bool), xs = [.ref p] /\ SqL K H p (bs.map V.bl) /\ Q (.bl (bs.all id)) H
theorem afS (hc : X.calm = true) : ab6 X (.builtin "all") (ar0 X.K) := by
 intro pins s σ H xs us Q I r h
 obtain ⟨p, bs, rfl, hq, q⟩ := h
 obtain ⟨u, rfl, ru⟩ := vals1 r
 cases ru
 obtain ⟨its, rv, pl, hz⟩ := I.list hq
 refine call_all_walk (wpAny_pyIter_list pl.isList ?_)
 obtain ⟨ol, hol, hol'⟩ := id pl.isList
 have hlt : p < s.heap.objs.size := Heap.lt_size hol
 have hlen : its.toArray.size = bs.length := by simpa using rv.length.symm
 have at_ : ∀ (i : Nat) (v : Value), its.toArray[i]? = some v -> ∃ k, bs[i]? = some k /\ v = Value.bool k := λi v e => by
  have e' : its[i]? = some v := by simpa using e
  have hi : i < its.length := (List.getElem?_eq_some_iff.mp e').1
  have hb : i < (bs.map V.bl).length := by rw [rv.length]; exact hi
  obtain ⟨u', h1, h2⟩ := rv.get (List.getElem?_eq_getElem hb)
  rw [e'] at h1
  cases h1
  have hb' : i < bs.length := by simpa using hb
  refine ⟨bs[i], List.getElem?_eq_getElem hb', ?_⟩
  rw [List.getElem_map] at h2
  exact h2
 refine ⟨s.heap.objs.size, _, _, _, _, _, λi => bs.getD i true, rfl, Walks.list (A := X.A.in1) (I.ok.hd hc) s.heap.objs.size p (Nat.ne_of_lt hlt) its.toArray, ⟨⟨_, Heap.get?_push_size _ rfl, rfl, rfl⟩, ⟨ol, Heap.get?_push_of_some _ hol, hol'⟩⟩, ?_, ?_⟩
 ·intro i v s' Q' E' hP hQ'
  obtain ⟨k, h1, rfl⟩ := at_ i v hP
  have : bs.getD i true = k := by rw [List.getD_eq_getElem?_getD, h1]; rfl
  dsimp only at hQ'
  rw [this] at hQ'
  exact wpAny_truthy_bool hQ'
 ·intro h' tk hk
  have I1 : Inv X pins σ H { s with heap := h', toks := tk } := I.kept λb o e => hk b o (by
   have := Heap.lt_size e
   simp
   exact Nat.ne_of_lt this) (Heap.get?_push_of_some _ e)
  refine ⟨.bl _, H, I1, rfl, ?_⟩
  have eq : (List.range its.toArray.size).all (λi => bs.getD i true) = bs.all id := by
   rw [hlen]
   clear q hq rv at_ hlen hz
   induction bs with
   | nil => rfl
   | cons b r ih =>
    rw [List.length_cons, List.range_succ_eq_map, List.all_cons, List.all_map, List.all_cons]
    exact congrArg (b && ·) ih
  rw [eq]
  exact q
end
end L2
end
section
namespace L2
open PySem PySem.Spec PyProof.Rows
noncomputable def At (K : PySem.W.Frag) (mg : Str -> Option Value) (x : Str) (st : Stmt) : Prop := ∃ f fd, Fun K x x st f fd /\ mg x = some (.ref f)
section
variable {X : Cx} {k : Nat} {x : Str} {ps : List Str} {sp : Sp} {p q pos : Pos} {e : Expr} {es : List Expr} {te : TE} {t : TA}
theorem apI (hX : XOk X.K) (c : Ty) (he : PE X e te) (h1 : X.mg "isinstance" = none) (h2 : X.mg x = none) (hb : bootBuiltins x = some (.type c.name) := by decide +kernel) (hg1 : Gl X "isinstance" := by rfl) (hg2 : Gl X x := by rfl) (hn : x ≠ "__name__" := by decide) (hd : (x == ("__debug__" : Str)) = false := by decide)
  (hs : starEach (e :: [.Name x q]) X.env = (false, eval e X.env) :: starEach [.Name x q] X.env := by rfl) : PE X (.Call (.Name "isinstance" p) [e, .Name x q] [] pos) (tCB (arG X.K) (acF te (acF (tC (.ty c.name)) aj6))) :=
 aeM (alI hX) hg1 h1 PyProof.Rows.boot_isinstance (abQ he (abQ (ajU hg2 h2 hb rfl hn hd) aaj) hs) (he := hs)
end
end L2
end
section
namespace L2
open PySem PySem.Spec PyProof.Rows
noncomputable def off (a : Addr) (H : Hp) : Hp := λb => if b = a then none else H b
theorem off_ne {a b : Addr} {H : Hp} (h : b ≠ a) : off a H b = H b := if_neg h
theorem ado {a b : Addr} {H : Hp} {o : HO} (h : off a H b = some o) : b ≠ a /\ H b = some o := by
 unfold off at h
 split at h
 ·cases h
 ·rename_i e; exact ⟨e, h⟩
structure Pj (Pr : Hp -> Hp) (H0 : Hp) : Prop where
 mono : ∀ {H H' : Hp}, Same H H' -> Same (Pr H) (Pr H')
 sub : ∀ H, Same (Pr H) H
 new : ∀ {H : Hp} {r : Addr} {o : HO}, Same H0 H -> H r = none -> Pr (upd H r o) r = some o
theorem Pj.id (H0 : Hp) : Pj (λH => H) H0 := ⟨λs => s, λH => Same.refl H, λ_ _ => aa8⟩
theorem Pj.le {Pr : Hp -> Hp} {H0 H1 : Hp} (p : Pj Pr H0) (s : Same H0 H1) : Pj Pr H1 := ⟨p.mono, p.sub, λs' h => p.new (s.trans s') h⟩
theorem aaz {H : Hp} {p : Addr} (h : H p = none) (o : HO) : Same H (upd H p o) := λb u q => by rw [aaC (abh q h)]; exact q
section
variable (K : PySem.W.Frag) (Pr : Hp -> Hp) (σ : St) (H0 : Hp)
end
section
variable {K : PySem.W.Frag} {Pr : Hp -> Hp} {σ : St} {H0 : Hp} {te tb : TE} {ta : TA} {T : Tr} {Ts Us : List Tr}
end
end L2
end
section
namespace L2
open PySem PySem.Spec PyProof.Rows
noncomputable def notStar : Expr -> Bool
 | .Starred _ _ => false
 | _ => true
theorem ab8 {e : Expr} {es : List Expr} {env : Env} (h : notStar e = true) : starEach (e :: es) env = (false, eval e env) :: starEach es env := by
 cases e <;> first | rfl | (unfold notStar at h; cases h)
noncomputable def tEv (K : PySem.W.Frag) (T : Tr) : TE := λ_ H Q => ∀ v H', Same H H' -> (∀ Pr, Pj Pr H -> Rep K (Pr H') v T) -> Q v H'
noncomputable def aoY (K : PySem.W.Frag) (Ts : List Tr) : TA := λ_ H Q => ∀ vs H', Same H H' -> (∀ Pr, Pj Pr H -> aaK K (Pr H') vs Ts) -> Q vs H'
noncomputable def arH (K : PySem.W.Frag) (Ts : List Tr) : TE := λ_ H Q => ∀ a xs H1, Same H H1 -> H1 a = none -> (∀ Pr, Pj Pr H -> aaK K (Pr H1) xs Ts) -> xs.length = Ts.length -> Q (.ref a) (upd H1 a (.lst xs))
theorem PE.imp {X : Cx} {e : Expr} {t u : TE} (h : PE X e t) (i : ∀ σ H Q, u σ H Q -> t σ H Q) : PE X e u := λpins s σ H Q I q => h pins s σ H Q I (i σ H Q q)
theorem PA.imp {X : Cx} {e : List Expr} {t u : TA} (h : PA X e t) (i : ∀ σ H Q, u σ H Q -> t σ H Q) : PA X e u := λpos pins s σ H Q I q => h pos pins s σ H Q I (i σ H Q q)
section
variable {X : Cx} {e : Expr} {es : List Expr} {T : Tr} {Ts : List Tr} {pos : Pos} {k : Nat}
end
end L2
end
section
namespace L2
open PySem PySem.Spec PyProof.Rows
mutual
noncomputable def pd : Tr -> PyData
 | .non => .none
 | .bl b => .bool b
 | .int i => .int i
 | .str x => .str x
 | .tup ts => .tuple (pds ts)
 | .lst ts => .list (pds ts)
 | .exn _ => .none
noncomputable def pds : List Tr -> List PyData
 | [] => []
 | t :: r => pd t :: pds r
end
section
variable {X : Cx} {pins : List (Addr × Obj)} {σ : St} {H : Hp} {s : Shared}
end
end L2
end
section
namespace L2
open PySem PySem.Spec PyProof.Rows
noncomputable def aum : V -> Option Int -> Option Int -> Hp -> VK -> Prop := λx lo hi H Q => ∃ z, x = .str z /\ z.length <= sizeLine /\ Q (.str (Txt.slice z lo hi)) H
theorem apJ {X : Cx} : SlR X aum := by
 intro pins s σ H x v vl vu lo hi sl Q I rx hs pl pu h
 obtain ⟨z, rfl, hz, q⟩ := h
 obtain ⟨t, rfl⟩ := rx
 obtain ⟨o, h1, h2, h3⟩ := hs
 have fin : ∀ (t' : Tok) (k : Nat), EP X pins σ Q (.str (Txt.slice z lo hi) t') { s with toks := k } := λt' k => ⟨.str _, H, I.tok k, ⟨_, rfl⟩, q⟩
 have hl := Nat.le_trans (Txt.slice_le z lo hi) hz
 refine ⟨"str", _, F.slot_str_getitem.lookup, typeIs_str _ _ _, ?_⟩
 cases pl with
 | none =>
  cases pu with
  | none => exact wpAny_getItem_str_slice (l := none) (u := none) (st := none) ⟨o, h1, h2, h3⟩ rfl (post_val_or_str ⟨hl, λt' k => fin t' k⟩)
  | int j uj => exact wpAny_getItem_str_slice (l := none) (u := some (j, uj)) (st := none) ⟨o, h1, h2, h3⟩ rfl (post_val_or_str ⟨hl, λt' k => fin t' k⟩)
 | int i ui =>
  cases pu with
  | none => exact wpAny_getItem_str_slice (l := some (i, ui)) (u := none) (st := none) ⟨o, h1, h2, h3⟩ rfl (post_val_or_str ⟨hl, λt' k => fin t' k⟩)
  | int j uj => exact wpAny_getItem_str_slice (l := some (i, ui)) (u := some (j, uj)) (st := none) ⟨o, h1, h2, h3⟩ rfl (post_val_or_str ⟨hl, λt' k => fin t' k⟩)
noncomputable def nw (H H' : Hp) : Hp := λb => match H b with
 | none => H' b
 | some _ => none
end L2
end
section
namespace L2
open PySem PySem.Spec PyProof.Rows
noncomputable def CXF (P : Program) (w : World) : CXT := λouter H s E e s' => ∃ ea cls a0 H' B, e = .ref ea /\ E cls none H' /\ s'.os = s.os /\ AllBare s'.gens /\ Un (frs outer) [] H H' s.heap s'.heap /\ HOk P w H' B /\
 Heap.FlyingW B outer ea cls a0 s'.heap /\ ∀ b o, s.heap.get? b = some o -> b ∉ frs outer -> ∃ o', B.get? b = some o'
theorem alJ {env : Env} {outer : List Env} {L b : Addr} (hf : env.frame = some L) (h : b ∈ frs (env :: outer)) : b = L \/ b ∈ frs outer := by
 unfold frs at h
 rw [List.filterMap_cons_some hf] at h
 exact List.mem_cons.mp h
theorem anH {env : Env} {outer : List Env} {b : Addr} (h : b ∈ frs outer) : b ∈ frs (env :: outer) := by
 obtain ⟨e, he, q⟩ := List.mem_filterMap.mp h
 exact List.mem_filterMap.mpr ⟨e, List.mem_cons_of_mem _ he, q⟩
theorem alK {P : Program} {w : World} {H : Hp} {h : Heap} {l : List Addr} (x : HOk P w H h) (fr : ∀ b ∈ l, H b = none) : HOk P w H (PySem.W.hideAll h l) := λa o e =>
 (x a o e).stay (λb u hb q => PySem.W.hideAll_get _ q λhm => by
  rcases hb with rfl | hb
  ·rw [fr _ hm] at e; cases e
  ·rw [fr _ hm] at hb; cases hb) (λ_ q => q) λ_ _ q => q
section
variable {P : Program} {w : World} {K : PySem.W.Frag} {mg : Str -> Option Value} {base : Heap} {N : List Str} {qual : Str} {scope : Scope} {f : Addr} {cd : Value} {A : Around} {outer : List Env} {s : Shared} {H : Hp} {E : XK} {CX : CXT}
theorem Un.left {pins : List (Addr × Obj)} {σ : St} {H1 H2 : Hp} {s1 : Shared} {h2 h3 B : Heap} (I : Inv (ajN CX P w K mg base N qual scope f cd A outer s H E) pins σ H1 s1)
  (u : Un (frs (envOfC qual scope s.heap.objs.size f cd :: outer)) [] H1 H2 s1.heap h2) (st : B.StaysIn h2) (kb : ∀ b o, s1.heap.get? b = some o -> b ∉ frs (envOfC qual scope s.heap.objs.size f cd :: outer) -> ∃ o', B.get? b = some o')
  (fl : B.StaysIn h3) (sl : h2.UpToSlots h3) : Un (frs outer) [] H H2 s.heap h3 /\ ∀ b o, s.heap.get? b = some o -> b ∉ frs outer -> ∃ o', B.get? b = some o' := by
 have ub := I.base
 have hf : (envOfC qual scope s.heap.objs.size f cd).frame = some s.heap.objs.size := by
  rcases I.ok.stk with z | z
  ·exact absurd (congrArg List.length z) (by show outer.length + 1 ≠ outer.length; omega)
  ·exact z.2
 have no : ∀ b o, s.heap.get? b = some o -> b ∉ frs outer -> b ∉ frs (envOfC qual scope s.heap.objs.size f cd :: outer) := λb o e n z => by
  rcases alJ hf z with rfl | z
  ·exact absurd (Heap.lt_size e) (Nat.lt_irrefl _)
  ·exact n z
 have nx : ∀ b : Addr, b ∉ ([] : List Addr) := λb z => nomatch z
 have inB : ∀ b o, s.heap.get? b = some o -> b ∉ frs outer -> ∃ o', B.get? b = some o' := λb o e n => by
  obtain ⟨o1, e1⟩ := ub.there b o e (nx b)
  exact kb b o1 e1 (no b o e n)
 have slots : ∀ b o, s.heap.get? b = some o -> H b = none -> b ∈ frs outer -> ∃ sl, h3.get? b = some { o with slots := sl } := λb o e n z => by
  obtain ⟨sl1, e1⟩ := ub.slot b o e n z (nx b)
  obtain ⟨sl2, e2⟩ := u.slot b _ e1 (ub.free b o e n (nx b)) (anH z) (nx b)
  obtain ⟨_, o', e', nf⟩ := I.ok.aiZ.mem z
  have e'' : s.heap.get? b = some o' := e'
  rw [e] at e''
  cases e''
  obtain ⟨sl3, e3⟩ := sl b _ e2 nf
  exact ⟨sl3, e3⟩
 refine ⟨⟨λb o e n z _ => ?_, λb o e n z _ => slots b o e n z, λb o e n _ => ?_, λb o e _ => ?_, λb xs q => u.tups b xs (ub.tups b xs q), λb o q z => u.aif b o q (ub.aif b o q z), λb ps q => ?_⟩, inB⟩
 ·have e1 := ub.keep b o e n z (nx b)
  have e2 := u.keep b o e1 (ub.free b o e n (nx b)) (no b o e z) (nx b)
  obtain ⟨o', e3⟩ := inB b o e z
  have e4 := st b o' e3
  rw [e2] at e4
  cases e4
  exact fl b o e3
 ·obtain ⟨o1, e1⟩ := ub.there b o e (nx b)
  exact u.free b o1 e1 (ub.free b o e n (nx b)) (nx b)
 ·by_cases z : b ∈ frs outer
  ·obtain ⟨sl, e1⟩ := slots b o e (I.ok.frf b z) z
   exact ⟨_, e1⟩
  ·obtain ⟨o', e1⟩ := inB b o e z
   exact ⟨o', fl b o' e1⟩
 ·obtain ⟨m1, e1⟩ := ub.aii b ps q
  obtain ⟨m2, e2⟩ := u.aii b _ e1
  exact ⟨m1 ++ m2, by rw [e2, Array.append_assoc]⟩
end
noncomputable def Raises (X : Cx) (E : XK) : Prop := ∀ (pins : List (Addr × Obj)) (σ : St) (H : Hp) (s : Shared) (h' : Heap) (e C : Addr) (us : List Value), Inv X pins σ H s -> Heap.MadeExcOf s.heap h' e (.ref C) us -> E (.ref C) none H -> X.xe (.ref e) { s with heap := h' }
theorem akh {P : Program} {w : World} {K : PySem.W.Frag} {mg : Str -> Option Value} {base : Heap} {N : List Str} {qual : Str} {scope : Scope} {f : Addr} {cd : Value} {A : Around} {outer : List Env} {s : Shared} {H : Hp} {E : XK} :
  Raises (ajN (CXF P w) P w K mg base N qual scope f cd A outer s H E) E := by
 intro pins σ H1 s1 h' e C us I hx q
 have hs := I.stack
 have hf : (envOfC qual scope s.heap.objs.size f cd).frame = some s.heap.objs.size := by
  rcases I.ok.stk with z | z
  ·exact absurd (congrArg List.length z) (by show outer.length + 1 ≠ outer.length; omega)
  ·exact z.2
 have hin : ∀ env ∈ (envOfC qual scope s.heap.objs.size f cd :: outer), ∀ a, env.frame = some a -> a ∈ frs (envOfC qual scope s.heap.objs.size f cd :: outer) := λenv he b hb => List.mem_filterMap.mpr ⟨env, he, hb⟩
 have stB : (PySem.W.hideAll s1.heap (frs (envOfC qual scope s.heap.objs.size f cd :: outer))).StaysIn s1.heap := λb o z => PySem.W.of_hideAll _ z
 have stH : (PySem.W.hideAll s1.heap (frs (envOfC qual scope s.heap.objs.size f cd :: outer))).StaysIn h' := λb o z => hx.keeps b o (stB b o z)
 refine wpAny_leaves_madeW (base := PySem.W.hideAll s1.heap (frs (envOfC qual scope s.heap.objs.size f cd :: outer))) (h := s1.heap) I.ok.frames hf stB (PySem.W.funFrames_hide hs hin) hx λh'' t fl _ _ sl => ?_
 obtain ⟨un, ib⟩ := Un.left (B := PySem.W.hideAll s1.heap (frs (envOfC qual scope s.heap.objs.size f cd :: outer))) I (Un.kept (h' := h') hx.keeps) stH (λb o z n => ⟨o, PySem.W.hideAll_get _ z n⟩) fl.1 sl
 exact ⟨e, .ref C, .ref t, H1, _, rfl, q, I.os, I.bare, un, alK I.hok I.aeV, fl, ib⟩
theorem aay {P : Program} {w : World} {K : PySem.W.Frag} {mg : Str -> Option Value} {base : Heap} {N : List Str} {qual : Str} {scope : Scope} {f : Addr} {cd : Value} {A : Around} {outer : List Env} {s : Shared} {H : Hp} {E : XK} :
  Passes (CXF P w) (ajN (CXF P w) P w K mg base N qual scope f cd A outer s H E) E := by
 intro pins σ H1 s1 e s' I h
 obtain ⟨ea, cls, a0, H2, B, rfl, q, os, bare, un, hok, fl, kb⟩ := h
 have hf : (envOfC qual scope s.heap.objs.size f cd).frame = some s.heap.objs.size := by
  rcases I.ok.stk with z | z
  ·exact absurd (congrArg List.length z) (by show outer.length + 1 ≠ outer.length; omega)
  ·exact z.2
 refine wpAny_leaves_onW (base := B) I.ok.frames hf fl λh'' fl' sl => ?_
 obtain ⟨un', ib⟩ := Un.left (B := B) I un fl.1 kb fl'.1 sl
 exact ⟨ea, cls, a0, H2, B, rfl, q, os.trans I.os, bare, un', hok, fl', ib⟩
noncomputable def amW (E : XK) (C : Addr) (te : TE) : TS := λ_ σ H => te σ H λv H1 => [v].length = 1 /\ E (.ref C) none H1
theorem alL {X : Cx} {E : XK} {x : Str} {C : Addr} {B newId initId : String} {bm : List Value} {np cpos pos : Pos} {e : Expr} {te : TE} (R : Raises X E) (O : OwnCls x C bm newId X.mg X.base) (FB : ExcBaseFacts B newId initId bm) (hc : X.calm = true) (ha : PE X e te)
  (hg : Gl X x := by rfl) (hd : (x == ("__debug__" : Str)) = false := by decide) (hs : starEach [e] X.env = [(false, eval e X.env)] := by rfl) :
  PS X (.Raise (some (.Call (.Name x np) [e] [] cpos)) none pos) (amW E C te) := by
 intro pins s σ H D I h
 obtain ⟨tl, N, nm, q, bs, hdct, sn, sub, ab, col, dd, k0, k1, k2, k3, k5, mN, hC, hN, hni, T⟩ := O.obj
 refine wpAny_Raise_call_subT (C := C) (nm := nm) (q := q) (N := N) (bs := bs) (bm := tl) (hdct := hdct) (sn := sn) (sub := sub) (ab := ab) (col := col) (dd := dd) (k0 := k0) (k1 := k1) (k2 := k2) (k3 := k3) (k5 := k5)
  FB (mN := mN) (T.hasType FB.hasBase) (I.ok.hd hc) (by rw [hs]; rfl) hni (aeW I hg O.bound ⟨rfl, ?_⟩ hd)
 have ga : PA X [e] (acF te aj6) := abQ ha aaj (by rw [hs]; rfl)
 have z := ga cpos pins s σ H (λvs H1 => vs.length = 1 /\ E (.ref C) none H1) I (by
  show te σ H λv H1 => _
  exact h)
 rw [hs] at z ⊢
 refine Calls.evalArgs_plain (wpAny_mono z (λus s₂ h₂ => ?_) λ_ _ y => y)
 obtain ⟨vs, H2, I2, rv, hl, hE⟩ := h₂
 refine ⟨rfl, ?_, I2.bk _ _ hC, hN.keeps I2.bk, T.keeps I2.bk, λh' e' hm => R pins σ H2 s₂ h' e' C us I2 hm hE⟩
 rw [<-rv.length, hl]
 decide
end L2
end
section
namespace L2
open PySem PySem.Spec PyProof.Rows
noncomputable def XP (X : Cx) (pins : List (Addr × Obj)) (EX : St -> XK) (e : Value) (s' : Shared) : Prop := ∃ σ H s, Inv X pins σ H s /\ CXF X.prog X.w X.stack H s (EX σ) e s'
noncomputable abbrev TX := Ends -> (St -> XK) -> St -> Hp -> Prop
noncomputable abbrev TEX := (St -> XK) -> TE
noncomputable def PX (X : Cx) (st : Stmt) (t : TX) : Prop :=
 ∀ (pins : List (Addr × Obj)) (s : Shared) (σ : St) (H : Hp) (D : Ends) (EX : St -> XK), Inv X pins σ H s -> t D EX σ H -> wpAny (model X.prog X.w) X.A (exec st X.env) (SP X pins D) (XP X pins EX) s
noncomputable def PXs (X : Cx) (st : List Stmt) (t : TX) : Prop :=
 ∀ (pins : List (Addr × Obj)) (s : Shared) (σ : St) (H : Hp) (D : Ends) (EX : St -> XK), Inv X pins σ H s -> t D EX σ H -> wpAny (model X.prog X.w) X.A (execs st X.env) (SP X pins D) (XP X pins EX) s
noncomputable def PEX (X : Cx) (e : Expr) (t : TEX) : Prop :=
 ∀ (pins : List (Addr × Obj)) (s : Shared) (σ : St) (H : Hp) (Q : VK) (EX : St -> XK), Inv X pins σ H s -> t EX σ H Q -> wpAny (model X.prog X.w) X.A (eval e X.env) (EP X pins σ Q) (XP X pins EX) s
section
variable {X : Cx} {k : Nat} {f : Addr} {fd : FuncData} {x : Str} {ps : List Str} {sp : Sp} {p pos : Pos} {e : Expr} {es : List Expr} {te : TEX} {t : TA} {st : Stmt} {rest : List Stmt} {a b : TX}
theorem ahv (h1 : PX X st a) : PXs X [st] a := by
 intro pins s σ H D EX I h
 refine wpAny_execs_cons (wpAny_mono (h1 pins s σ H D EX I h) (λf s1 q => ?_) λ_ _ z => z)
 cases f with
 | next => exact wpAny_execs_nil q
 | ret u => exact q
 | brk => exact q
 | cont => exact q
theorem ar3 {c : Expr} {l r : List Stmt} {tc : TT} (hc : PT X.nox c tc) (ha : PXs X l a) (hb : PXs X r b) : PX X (.If c l r pos) (λD EX σ H => tc σ H λd H1 => if d = true then a D EX σ H1 else b D EX σ H1) := by
 intro pins s σ H D EX I h
 refine wpAny_If (wpAny_mono (hc pins s σ H _ (I.wish _) h) (λd s1 ⟨H1, I1, q1⟩ => ?_) λ_ _ z => False.elim z)
 cases d with
 | true => exact ha pins s1 σ H1 D EX I1.ac3 (by simpa using q1)
 | false => exact hb pins s1 σ H1 D EX I1.ac3 (by simpa using q1)
noncomputable def aki (sp : Sp) (t : TA) : TEX := λEX σ H Q => t σ H λvs H1 => sp vs H1 Q (EX σ)
theorem alM (F : aiu X.prog X.w X.K X.mg X.base (CXF X.prog X.w) k f fd ps sp) (hr : aeC k X.A) (hm : X.mg x = some (.ref f)) (hk : PySem.W.keepIn X.K (.ref f) = true) (hb : Binds X.K fd ps []) (ha : PA X.nox (e :: es) t) (hg : Gl X x := by rfl)
  (hdb : (x == ("__debug__" : Str)) = false := by decide) (he : starEach (e :: es) X.env = (false, eval e X.env) :: starEach es X.env := by rfl) (hpl : (backTo pos (starEach es X.env)).any (·.1) = false := by rfl) :
  PEX X (.Call (.Name x p) (e :: es) [] pos) (aki sp t) := by
 intro pins s σ H Q EX I h
 refine wpAny_Call_Name_kw (aeW I hg hm ?_ hdb)
 refine PySem.W.callWith_K (h₀ := X.base) I.ok.mod.kin hk (wpAny_mono (ha pos pins s σ H _ (I.wish _) h) (λus s1 ⟨vs, H1, I1', r, q⟩ => ?_) λ_ _ z => False.elim z) he hpl
 have I1 := I1'.ac3
 refine ⟨I1.kIn, ?_⟩
 have hl : (us ++ []).length = ps.length := by rw [List.append_nil, <-r.length]; exact F.len _ _ _ _ q
 have hb' := hb s1 us I1.kIn hl
 rw [List.append_nil] at hb'
 refine wpAny_call (codeAny_mono (F.run X.A X.stack s1 H1 ⟨us, []⟩ us vs Q (EX σ) hr I1.env0 hb' r q) λr s' hq => ?_)
 cases r with
 | error e => exact ⟨σ, H1, s1, I1, hq⟩
 | ok fl =>
  cases fl with
  | ret u => exact I1.after hq
  | next => exact False.elim hq
  | brk => exact False.elim hq
  | cont => exact False.elim hq
end
end L2
end
section
namespace L2
open PySem PySem.Spec PyProof.Rows
theorem adv.here {P : Program} {w : World} {H : Hp} {h : Heap} {a : Addr} {o : HO} (x : adv P w H h a o) : ∃ u, h.get? a = some u := by
 cases o with
 | lst xs => obtain ⟨_, _, _, _, e⟩ := x; exact ⟨_, e⟩
 | tup xs => obtain ⟨_, _, _, _, e, _⟩ := x; exact ⟨_, e⟩
 | dK kvs => obtain ⟨_, _, _, _, o, _, _, e, _⟩ := x; exact ⟨_, e⟩
 | dT kvs => obtain ⟨_, _, _, _, o, _, _, e, _⟩ := x; exact ⟨_, e⟩
 | set S n => obtain ⟨o, _, _, _, e, _⟩ := x; exact ⟨_, e⟩
 | ins C dx fs => obtain ⟨_, _, _, e, _⟩ := x; exact ⟨_, e⟩
 | own y => exact x
 | xd fs => obtain ⟨_, ⟨_, _, _, e, _⟩, _⟩ := x; exact ⟨_, e⟩
 | rng lo hi => obtain ⟨_, _, _, e⟩ := x; exact ⟨_, e⟩
 | frz ob u => obtain ⟨e, _⟩ := x; exact ⟨_, e⟩
 | tbl ps => exact ⟨_, (show h.get? a = some _ from x)⟩
 | met f y => exact ⟨_, (show h.get? a = some _ from x)⟩
 | ext φ => exact x.2.1
theorem Un.flown {fs : List Addr} {H1 H2 : Hp} {h0 h1 h6 B : Heap} (un : Un fs [] H1 H2 h0 h1) (kb : ∀ b o, h0.get? b = some o -> b ∉ fs -> ∃ o', B.get? b = some o') (st1 : B.StaysIn h1) (st6 : B.StaysIn h6) (sl : h1.UpToSlots h6)
  (nf : ∀ b ∈ fs, ∀ o, h0.get? b = some o -> ∀ vs, o.data ≠ .fields vs) (fr : ∀ b ∈ fs, H1 b = none) : Un fs [] H1 H2 h0 h6 := by
 have slots : ∀ b o, h0.get? b = some o -> H1 b = none -> b ∈ fs -> ∃ sl, h6.get? b = some { o with slots := sl } := λb o e n z => by
  obtain ⟨s1, e1⟩ := un.slot b o e n z (λz => nomatch z)
  obtain ⟨s2, e2⟩ := sl b _ e1 (nf b z o e)
  exact ⟨s2, e2⟩
 refine ⟨λb o e n z _ => ?_, λb o e n z _ => slots b o e n z, un.free, λb o e _ => ?_, un.tups, un.aif, un.aii⟩
 ·have e1 := un.keep b o e n z (λz => nomatch z)
  obtain ⟨o', e2⟩ := kb b o e z
  have e3 := st1 b o' e2
  rw [e1] at e3
  cases e3
  exact st6 b o e2
 ·by_cases z : b ∈ fs
  ·obtain ⟨s1, e1⟩ := slots b o e (fr b z) z
   exact ⟨_, e1⟩
  ·obtain ⟨o', e1⟩ := kb b o e z
   exact ⟨o', st6 b o' e1⟩
section
variable {X : Cx} {pins : List (Addr × Obj)} {σ : St} {H1 H2 : Hp} {s0 s1 : Shared} {B h6 : Heap} {ea : Addr} {cls a0 : Value}
theorem Inv.flown (I : Inv X pins σ H1 s0) (un : Un (frs X.stack) [] H1 H2 s0.heap s1.heap) (os : s1.os = s0.os) (bare : AllBare s1.gens) (hok : HOk X.prog X.w H2 B) (fl : Heap.FlyingW B X.stack ea cls a0 s1.heap)
  (kb : ∀ b o, s0.heap.get? b = some o -> b ∉ frs X.stack -> ∃ o', B.get? b = some o') (fl6 : Heap.FlyingW B X.stack ea cls a0 h6) (sl : s1.heap.UpToSlots h6) :
  H2 ea = none /\ Inv X pins σ H2 { s1 with heap := h6 } /\ ∀ C, cls = .ref C -> Inv X pins σ (upd H2 ea (exO ea C)) { s1 with heap := h6 } := by
 have nf : ∀ b ∈ frs X.stack, ∀ o, s0.heap.get? b = some o -> ∀ vs, o.data ≠ .fields vs := λb hb o e => by
  obtain ⟨_, o', e', q⟩ := I.stack.mem hb
  rw [e] at e'
  cases e'
  exact q
 have u6 := un.flown kb fl.1 fl6.1 sl nf I.aeV
 have k6 : HOk X.prog X.w H2 h6 := hok.kept fl6.1
 have fe : H2 ea = none := by
  cases q : H2 ea with
  | none => rfl
  | some u =>
   obtain ⟨o, e⟩ := (hok ea u q).here
   rw [fl.2.1] at e
   cases e
 have ne0 : s0.heap.get? ea = none := by
  cases q : s0.heap.get? ea with
  | none => rfl
  | some o =>
   by_cases z : ea ∈ frs X.stack
   ·obtain ⟨sl1, e1⟩ := un.slot ea o q (I.aeV ea z) z (λz => nomatch z)
    obtain ⟨oe, vs, e2, _, d, _⟩ := fl.first
    rw [e1] at e2
    cases e2
    exact absurd d (nf ea z o q vs)
   ·obtain ⟨o', e1⟩ := kb ea o q z
    rw [fl.2.1] at e1
    cases e1
 refine ⟨fe, I.call' (s' := { s1 with heap := h6 }) (ch := []) os u6 k6 bare (λb z => nomatch z), λC hC => ?_⟩
 obtain ⟨oe, vs, e2, c2, d2, _⟩ := fl6.first
 have nee : ∀ b o, s0.heap.get? b = some o -> b ≠ ea := λb o e z => by rw [z, ne0] at e; cases e
 have neH : ∀ b o, H2 b = some o -> b ≠ ea := λb o e z => by rw [z, fe] at e; cases e
 refine I.call' (s' := { s1 with heap := h6 }) (H' := upd H2 ea (exO ea C)) (ch := []) os ⟨u6.keep, u6.slot, λb o e n hx => ?_, u6.there, λb xs e => ?_, λb o u e => ?_, λb ps e => ?_⟩ (λb u e => ?_) bare (λb z => nomatch z)
 ·rw [aaC (nee b o e)]
  exact u6.free b o e n hx
 ·have := u6.tups b xs e
  rw [aaC (neH b _ this)]
  exact this
 ·have := u6.aif b o u e
  rw [aaC (neH b _ this)]
  exact this
 ·obtain ⟨m, q⟩ := u6.aii b ps e
  exact ⟨m, by rw [aaC (neH b _ q)]; exact q⟩
 ·by_cases z : b = ea
  ·subst z
   rw [aa8] at e
   cases e
   exact ⟨⟨oe, vs, e2, c2.trans hC, d2⟩, ⟨oe, e2⟩, λh1 h2 ⟨o, ws, q1, q2, q3⟩ k => ⟨o, ws, k o q1, q2, q3⟩⟩
  ·rw [aaC z] at e
   exact (k6 b u e).stay (λ_ _ _ q => q) (λc q => by rw [aaC (neH c _ q)]; exact q) λc xs q => by rw [aaC (neH c _ q)]; exact q
end
theorem aiy {X : Cx} {pins : List (Addr × Obj)} {σ : St} {H : Hp} {s : Shared} {M : Model} {A : Around} {E : Value -> Shared -> Prop} {j : Nat} {n : Str} {pos : Pos} {Q : Unit -> Shared -> Prop} (I : Inv X pins σ H s) (hN : X.N.Nodup) (hj : X.N[j]? = some n) (hl : X.env.kindOf n = some .local)
  (h : ∀ s', Inv X pins (σ.set j none) H s' -> Q () s') : wpAny M A (do bindName X.env n .none; unbindBehindTheSuite X.env n pos) Q E s := by
 obtain ⟨m, hn, hv⟩ := id I.loc
 refine wpAny_nameGoes_keeps hl hn (by rw [I.ok.kind]; rfl) λh' v hn' hs => ?_
 have neL : ∀ b o, X.s₀.heap.get? b = some o -> b ≠ X.env.locals := λb o e => Nat.ne_of_lt (Nat.lt_of_lt_of_le (Heap.lt_size e) I.ok.above)
 refine h _ ⟨I.ok, I.os, I.bare, ⟨λb o e n hb hx => (hs.2 b (neL b o e)).trans (I.base.keep b o e n hb hx), λb o e n hb hx => ?_, I.base.free, λb o e hx => ?_, I.base.tups, I.base.aif, I.base.aii⟩,
  ⟨_, hn', λi y v' e1 e2 e3 => ?_⟩, λy c e => ?_, I.free, I.ad5, λp hp => ?_, λb o e => ?_, by rw [List.length_set]; exact I.len⟩
 ·obtain ⟨sl, e1⟩ := I.base.slot b o e n hb hx
  exact ⟨sl, (hs.2 b (neL b o e)).trans e1⟩
 ·obtain ⟨o', e1⟩ := I.base.there b o e hx
  exact ⟨o', (hs.2 b (neL b o e)).trans e1⟩
 ·by_cases hi : i = j
  ·subst hi
   rw [List.getElem?_set] at e2
   split at e2
   ·split at e2 <;> cases e2
   ·rename_i z; exact absurd rfl z
  ·rw [List.getElem?_set_ne (Ne.symm hi)] at e2
   obtain ⟨u', r', q⟩ := hv i y v' e1 e2 e3
   refine ⟨u', r', ?_⟩
   rcases q with ⟨k, e⟩ | ⟨k, c, e, z⟩
   ·refine .inl ⟨k, ?_⟩
    have : y ≠ n := λe => hi (afL hN e1 (e ▸ hj))
    simp [this, e]
   ·exact .inr ⟨k, c, e, z.sameBut hs (I.cne y c e)⟩
 ·obtain ⟨w', z⟩ := I.cell y c e
  exact ⟨w', z.sameBut hs (I.cne y c e)⟩
 ·obtain ⟨e, n, ne, nf, d⟩ := I.pin p hp
  exact ⟨(hs.2 p.1 ne).trans e, n, ne, nf, d⟩
 ·refine (I.hok b o e).stay (λc u hc q => (hs.2 c ?_).trans q) (λ_ q => q) λ_ _ q => q
  rintro rfl
  rcases hc with rfl | hc
  ·rw [I.free] at e; cases e
  ·rw [I.free] at hc; cases hc
end L2
end
section
namespace L2
open PySem PySem.Spec PyProof.Rows
noncomputable abbrev Cx.caught (X : Cx) (e : Value) : Cx := { X with A := X.A.mark (some e), calm := false, xe := λ_ _ => False }
section
variable {X : Cx} {pins : List (Addr × Obj)} {σ : St} {H : Hp} {s : Shared} {e : Value}
theorem Inv.caught (I : Inv X pins σ H s) (e : Value) : Inv (X.caught e) pins σ H s :=
 ⟨⟨I.ok.mod, I.ok.kind, I.ok.glob, I.ok.blt, I.ok.above, I.ok.inj, I.ok.has, I.ok.cab, (λz => nomatch z), I.ok.frames, I.ok.stk, I.ok.exf, I.ok.bs, I.ok.bsz, I.ok.aho, I.ok.apc, I.ok.aiZ, I.ok.frf⟩, I.os, I.bare, I.base, I.loc, I.cell, I.free, I.ad5, I.pin, I.hok, I.len⟩
theorem Inv.uncaught (ok : X.Ok) (I : Inv (X.caught e) pins σ H s) : Inv X pins σ H s := ⟨ok, I.os, I.bare, I.base, I.loc, I.cell, I.free, I.ad5, I.pin, I.hok, I.len⟩
theorem SP.uncaught {D : Ends} {f : Flow} {s' : Shared} (ok : X.Ok) (h : SP (X.caught e) pins D f s') : SP X pins D f s' := by
 cases f with
 | next => obtain ⟨σ', H', I, q⟩ := h; exact ⟨σ', H', I.uncaught ok, q⟩
 | brk => obtain ⟨σ', H', I, q⟩ := h; exact ⟨σ', H', I.uncaught ok, q⟩
 | cont => obtain ⟨σ', H', I, q⟩ := h; exact ⟨σ', H', I.uncaught ok, q⟩
 | ret u => obtain ⟨v, σ', H', I, r, q⟩ := h; exact ⟨v, σ', H', I.uncaught ok, r, q⟩
end
noncomputable def goes (j : Nat) (D : Ends) : Ends where
 nx := λσ H => D.nx (σ.set j none) H
 rt := D.rt
 bk := λσ H => D.bk (σ.set j none) H
 ct := λσ H => D.ct (σ.set j none) H
noncomputable def exK (K : PySem.W.Frag) (cH : Addr) (j : Nat) (ts : TS) (D : Ends) : St -> XK := λσ cls _ H => ∃ C, cls = .ref C /\ PySem.W.exmOne K (.ref C) (.ref cH) = some true /\ ∀ ea, H ea = none -> ts (goes j D) (σ.set j (some (.ref ea))) (upd H ea (exO ea C))
noncomputable def aun (K : PySem.W.Frag) (cH : Addr) (j : Nat) (tb : TX) (ts : TS) : TS := λD σ H => tb D (exK K cH j ts D) σ H
theorem apK {X : Cx} {body : List Stmt} {tb : TX} {hn n : Str} {hp hpos pos : Pos} {b₀ : Stmt} {suite : List Stmt} {ts : TS} {cH : Addr} {j : Nat} (hst : X.stack = X.env :: X.outer) (hN : X.N.Nodup) (hj : X.N[j]? = some n) (hloc : X.env.kindOf n = some .local)
  (hb : PXs X body tb) (hm : X.mg hn = some (.ref cH)) (hsu : ∀ e, PSs (X.caught e) (b₀ :: suite) ts) (hg : Gl X hn := by rfl) (hd : (hn == ("__debug__" : Str)) = false := by decide) :
  PS X (.Try body [.ExceptHandler (some (.Name hn hp)) (some n) (b₀ :: suite) hpos] [] [] pos) (aun X.K cH j tb ts) := by
 intro pins s σ H D I h
 refine wpAny_Try_except (wpAny_mono (hb pins s σ H D (exK X.K cH j ts D) I h) (λf s1 q => ?_) λe s1 hx => ?_)
 ·cases f with
  | next => exact wpAny_execs_nil q
  | ret u => exact q
  | brk => exact q
  | cont => exact q
 obtain ⟨σ1, H1, s0, I1, ea, cls, a0, H2, B, rfl, ⟨C, rfl, hit, q⟩, os, bare, un, hok, fl, kb⟩ := hx
 have hf : X.env.frame = some X.env.locals := by
  rcases I1.ok.stk with z | z
  ·rw [hst] at z
   exact absurd (congrArg List.length z) (by simp)
  ·exact z.2
 have hfr : X.A.frames = some (X.env :: X.outer) := by rw [<-hst]; exact I1.ok.frames
 rw [hst] at fl
 refine wpAny_looks_onW (base := B) hfr hf fl λh4 held sl4 => ?_
 refine wpAny_landsW held λh5 fl5 sl5 => ?_
 have fl' := fl
 rw [<-hst] at fl'
 have auo := fl5
 rw [<-hst] at auo
 obtain ⟨fe, I5, _⟩ := I1.flown un os bare hok fl' kb auo (sl4.trans sl5)
 refine wpAny_handleBy_cons (codeAny_handlers_test (A := X.A.mark (some (.ref ea))) ?_) (by intro z; cases z)
 refine aeW (X := X.caught (.ref ea)) (I5.caught (.ref ea)) hg hm ?_ hd
 have lt : PySem.W.Looks (model X.prog X.w) h5 (typeOf (.ref ea)) (.ref C) := by
  obtain ⟨ob, hob, hc⟩ := fl5.there
  rw [<-hc]
  exact (PySem.W.Looks.ld hob).andThen .now
 refine PySem.W.exm_one I5.kIn lt hit _ _ _ _ (λb o z => z) ?_
 refine codeAny_handlers_suite_as ?_
 refine lands_againW fl5 λh6 fl6 sl6 => ?_
 have aup := fl6
 rw [<-hst] at aup
 obtain ⟨_, _, I6⟩ := I1.flown un os bare hok fl' kb aup ((sl4.trans sl5).trans sl6)
 refine adK (X := X.caught (.ref ea)) (i := j) (v := .ref ea) ((I6 C rfl).caught (.ref ea)) hN hj (.inl hloc) rfl (λs7 I7 => ?_) (.inr hloc)
 refine wpAny_mono (hsu (.ref ea) pins s7 _ _ (goes j D) I7 (q ea fe)) (λf s8 h8 => ?_) λ_ _ z => False.elim z
 have h8' := h8.uncaught I1.ok
 cases f with
 | next =>
  obtain ⟨σ', H', I', q'⟩ := h8'
  exact aiy I' hN hj hloc λs9 I9 => ⟨_, _, I9, q'⟩
 | brk =>
  obtain ⟨σ', H', I', q'⟩ := h8'
  exact aiy I' hN hj hloc λs9 I9 => ⟨_, _, I9, q'⟩
 | cont =>
  obtain ⟨σ', H', I', q'⟩ := h8'
  exact aiy I' hN hj hloc λs9 I9 => ⟨_, _, I9, q'⟩
 | ret u =>
  obtain ⟨v, σ', H', I', r, q'⟩ := h8'
  exact aiy I' hN hj hloc λs9 I9 => ⟨v, _, _, I9, r, q'⟩
end L2
end
section
namespace L2
open PySem PySem.Spec PyProof.Rows PySem.W PySem.Builtin PySem.Builtin.ObjectAttr PySem.Builtin.Getset_descriptor
structure akj (K : Frag) (C : Addr) : Prop where
 ga : findIn K (.ref C) "__getattribute__" = some (some (.builtin "BaseException.__getattribute__"))
 gn : findIn K (.ref C) "__getattr__" = some none
 cl : findIn K (.ref C) "__class__" = some (some (.builtin "object.__class__"))
 ob : mroIn K C (.type "object") = some true
 be : mroIn K C (.type "BaseException") = some true
 is : (clsIn K C).isSome = true
section
variable {prog : Program} {w : World} {A : Around} {E : Value -> Shared -> Prop} {h : Heap} {g : Array GenState} {d : Drawn} {t : Nat} {os : OsState} {a C : Addr} {o : Obj} {K : Frag}
theorem anI {R : Result -> Shared -> Prop} (X : K.In h) (Z : akj K C) (hx : h.get? a = some o) (hc : o.cls = .ref C) (hq : R (.ok (.ret (.ref C))) ⟨h, g, d, t, os⟩) :
  codeAny (model prog w) A (.call (.builtin "getset_descriptor.__get__") ⟨[.builtin "object.__class__", .ref a, .ref C], []⟩) R ⟨h, g, d, t, os⟩ := by
 have ty : Looks (model prog w) h (typeOf (.ref a)) (.ref C) := hc ▸ (Looks.ld hx).andThen .now
 have ms := looks_mroIn (M := model prog w) X Z.ob
 refine codeAny_call_builtin KF.slot_gs.plain KF.entry_gs (KF.slot_gs.check _ _ _ _ _ _ _ _ KF.type_class (KF.args_gs _ _ _) ?_)
 unfold Builtin.«getset_descriptor.__get__»
 unfold Builtin.Getset_descriptor.descrGet
 rw [dga_obj]
 refine wpAny_bind (wpAny_pure ?_)
 unfold Builtin.Getset_descriptor.descrGetter
 unfold Builtin.Getset_descriptor.descrCheckInstance
 unfold Builtin.Getset_descriptor.descrNameAndClass
 unfold isInstance
 simp only [KF.owner_class]
 repeat lk
 refine ⟨Code.quiet_builtin _ (by decide +kernel), codeAny_builtin KF.entry_class ?_⟩
 unfold Builtin.«object.__class__»
 unfold shownTypeOf
 repeat lk
 all_goals first | exact hq | assumption
theorem akk {tk : Tok} {Q : Fin -> Shared -> Prop} (X : K.In h) (Z : akj K C) (hx : h.get? a = some o) (hc : o.cls = .ref C) (hq : Q (.done (.ret (.ref C))) ⟨h, g, d, t, os⟩) :
  wpAny (model prog w) A (Builtin.«object.__getattribute__» ⟨[.ref a, .str "__class__" tk], []⟩) Q E ⟨h, g, d, t, os⟩ := by
 have hT5 : (⟨h, g, d, t, os⟩ : Shared).TypeIs (.builtin "object.__class__") "getset_descriptor" := KF.type_class
 have f6 := F.slot_gs_get.lookup
 have f7 := F.slot_gs_set.lookup
 have lc := λA (Q : Option Value -> Shared -> Prop) E (q : Q (some (.builtin "object.__class__")) ⟨h, g, d, t, os⟩) => looks_findIn (M := model prog w) X Z.cl A Q E ⟨h, g, d, t, os⟩ (λ_ _ z => z) q
 repeat (any_goals (first | assumption | (with_reducible refine wpAny_loadPart_at hx ?_; rw [hc]) | with_reducible refine lc _ _ _ ?_ | wp_step))
 refine anI X Z hx hc ?_
 repeat (any_goals (first | assumption | wp_step))
theorem akl {nameV : Value} {Q : Unit -> Shared -> Prop} (X : K.In h) (Z : akj K C) (hx : h.get? a = some o) (hc : o.cls = .ref C) (hq : Q () ⟨h, g, d, t, os⟩) :
  wpAny (model prog w) A (checkBuiltinCall "BaseException.__getattribute__" ⟨[.ref a, nameV], []⟩) Q E ⟨h, g, d, t, os⟩ := by
 have b1 : builtinKind "BaseException.__getattribute__" = some .slot := by decide +kernel
 have b2 : splitId "BaseException.__getattribute__" = some ("BaseException", "__getattribute__") := by decide +kernel
 have ha := F.args_bexc_ga (.ref a) nameV
 have lc := λA (Q : Bool -> Shared -> Prop) E (q : Q true ⟨h, g, d, t, os⟩) => looks_mroIn (M := model prog w) X Z.be A Q E ⟨h, g, d, t, os⟩ (λ_ _ z => z) q
 simp only [checkBuiltinCall, b1, b2]
 refine wpAny_bind ?_
 unfold isInstance
 repeat (first | (with_reducible refine wpAny_loadPart_at hx ?_; rw [hc]) | with_reducible refine lc _ _ _ ?_ | wp_step)
 exact hq
theorem alN {tk : Tok} {R : Result -> Shared -> Prop} (X : K.In h) (Z : akj K C) (hx : h.get? a = some o) (hc : o.cls = .ref C) (hq : R (.ok (.ret (.ref C))) ⟨h, g, d, t, os⟩) :
  codeAny (model prog w) A (.call (.builtin "BaseException.__getattribute__") ⟨[.ref a, .str "__class__" tk], []⟩) R ⟨h, g, d, t, os⟩ :=
 codeAny_call_builtin PySem.F.attr_ValueError.ga.plain F.entry_bexc_ga (akl X Z hx hc (akk X Z hx hc hq))
theorem apL {tk : Tok} {Q : Value -> Shared -> Prop} (X : K.In h) (Z : akj K C) (hx : h.get? a = some o) (hc : o.cls = .ref C) (hq : Q (.ref C) ⟨h, g, d, t, os⟩) :
  wpAny (model prog w) A (getAttrBy (.ref a) (.str "__class__" tk) false) Q E ⟨h, g, d, t, os⟩ := by
 have f3 := PySem.F.attr_ValueError.ga.bind (.ref a)
 have hx2 : (Value.builtin "BaseException.__getattribute__" == Value.builtin "object.__getattribute__") = false := by decide +kernel
 have hx1 : (onTheHeap (Value.ref C) && Value.builtin "BaseException.__getattribute__" == Value.builtin "object.__getattribute__") = false := by rw [hx2]; rfl
 have l1 := λA (Q : Option Value -> Shared -> Prop) E (q : Q (some (.builtin "BaseException.__getattribute__")) ⟨h, g, d, t, os⟩) => looks_findIn (M := model prog w) X Z.ga A Q E ⟨h, g, d, t, os⟩ (λ_ _ z => z) q
 have l2 := λA (Q : Option Value -> Shared -> Prop) E (q : Q none ⟨h, g, d, t, os⟩) => looks_findIn (M := model prog w) X Z.gn A Q E ⟨h, g, d, t, os⟩ (λ_ _ z => z) q
 repeat (any_goals (first | assumption | (with_reducible refine wpAny_loadPart_at hx ?_; rw [hc]) | with_reducible refine l1 _ _ _ ?_ | with_reducible refine l2 _ _ _ ?_ | wp_step))
 refine alN X Z hx hc ?_
 repeat (any_goals (first | assumption | wp_step))
theorem alO {Q : Option Value -> Shared -> Prop} (X : K.In h) (Z : akj K C) (hx : h.get? a = some o) (hc : o.cls = .ref C) (hq : Q (some (.ref C)) ⟨h, g, d, t + 1, os⟩) :
  wpAny (model prog w) A (getAttr? (.ref a) "__class__") Q E ⟨h, g, d, t, os⟩ := by
 unfold getAttr? getAttrBy?
 repeat (any_goals (first | assumption | with_reducible apply apL X Z hx hc | wp_step))
theorem aiz (Z : akj K C) : KitX K (.ref a) (.ref C) (arF a C) where
 ty := λ_ _ _ ⟨o, _, h1, h2, _⟩ => h2 ▸ (Looks.ld h1).andThen .now
 it := λ_ _ X _ => by
  obtain ⟨cd, e⟩ := Option.isSome_iff_exists.mp Z.is
  unfold clsIn at e
  split at e
  ·rename_i ho
   intro A' Q' E' s' k q
   unfold isType loadHead
   exact wpAny_bind (wpAny_loadPart (k _ _ (X _ _ ho)) (wpAny_pure q))
  ·cases e
 ne := λh tp dd its n sl X htp => by
  obtain ⟨cd, e⟩ := Option.isSome_iff_exists.mp Z.is
  refine Bool.eq_false_iff.mpr λq => ?_
  have q' : C = tp := Value.ref.inj (beq_iff_eq.mp q)
  subst q'
  unfold clsIn at e
  split at e
  ·rename_i ho
   have z := (X _ _ ho).symm.trans htp
   cases z
  ·cases e
 ca := λ{_ _ _ _ _ s} X p k => by
  obtain ⟨h, g, d, t, os⟩ := s
  obtain ⟨o, _, h1, h2, _⟩ := p
  exact alO X Z h1 h2 k
end
section
variable {X : Cx}
noncomputable def auY (K : Frag) : List V -> Hp -> VK -> Prop := λxs H Q => ∃ (ea C : Addr) (d : Value) (dv : V) (b : Bool), xs = [.ref ea, dv] /\ H ea = some (exO ea C) /\ akj K C /\ (∀ u, RelV dv u -> u = d) /\ kitOne K (.ref C) d = some b /\ Q (.bl b) H
theorem aiA : ab6 X (.builtin "isinstance") (auY X.K) := by
 intro pins s σ H xs us Q I r h
 obtain ⟨ea, C, d, dv, b, rfl, he, Z, hd, hk, q⟩ := h
 obtain ⟨u, w', rfl, ru, rw'⟩ := vals2 r
 cases ru
 cases hd w' rw'
 have p : arF ea C s.heap := (I.hok ea _ he).1
 exact kia_one (aiz Z) I.kIn p hk (λz => nomatch z) λtk => ⟨.bl b, H, I.tok tk, rfl, q⟩
noncomputable def auZ (K : Frag) : List V -> Hp -> VK -> Prop := λxs H Q => ∃ (d : Value) (dv : V) (b : Bool), xs = [.non, dv] /\ (∀ u, RelV dv u -> u = d) /\ kitOne K (.type "NoneType") d = some b /\ Q (.bl b) H
theorem aiB : ab6 X (.builtin "isinstance") (auZ X.K) := by
 intro pins s σ H xs us Q I r h
 obtain ⟨d, dv, b, rfl, hd, hk, q⟩ := h
 obtain ⟨u, w', rfl, ru, rw'⟩ := vals2 r
 cases ru
 cases hd w' rw'
 exact kia_one kitx_none I.kIn True.intro hk (λz => nomatch z) λtk => ⟨.bl b, H, I.tok tk, rfl, q⟩
end
end L2
end
section
namespace L2
open PySem
theorem akm (a b : Int) : a = b * a.fdiv b + a.fmod b := by
 have := Int.mul_fdiv_add_fmod a b
 omega
theorem aja (a b : Int) (h : b ≠ 0) : (a.fmod b).natAbs < b.natAbs := by
 have h1 := Int.emod_nonneg a h
 have h2 := Int.emod_lt a h
 rw [Int.fmod_eq_emod]
 split
 ·omega
 ·rename_i hn
  have hb : ¬ 0 <= b := λz => hn (.inl z)
  have hd : ¬ b ∣ a := λz => hn (.inr z)
  have h3 : a % b ≠ 0 := λz => hd (Int.dvd_of_emod_eq_zero z)
  omega
theorem aiC (a b : Int) : Int.gcd b (a.fmod b) = Int.gcd a b := by
 have e := akm a b
 apply Nat.dvd_antisymm
 ·refine Int.dvd_gcd ?_ ?_
  ·have h1 : (Int.gcd b (a.fmod b) : Int) ∣ b := Int.gcd_dvd_left ..
   have h2 : (Int.gcd b (a.fmod b) : Int) ∣ a.fmod b := Int.gcd_dvd_right ..
   have h3 := Int.dvd_add (Int.dvd_mul_of_dvd_left (c := a.fdiv b) h1) h2
   rw [<-e] at h3
   exact h3
  ·exact Int.gcd_dvd_left ..
 ·refine Int.dvd_gcd ?_ ?_
  ·exact Int.gcd_dvd_right ..
  ·have h1 : (Int.gcd a b : Int) ∣ a := Int.gcd_dvd_left ..
   have h2 : (Int.gcd a b : Int) ∣ b := Int.gcd_dvd_right ..
   have e2 : a.fmod b = a - b * a.fdiv b := by omega
   rw [e2]
   exact Int.dvd_sub h1 (Int.dvd_mul_of_dvd_left h2)
theorem anJ (a : Int) : (if a < 0 then -a else a) = ((Int.gcd a 0 : Nat) : Int) := by
 rw [Int.gcd_zero_right]
 split <;> omega
theorem akn {a b : Int} (hb : 0 < b) : 0 < ((Int.gcd a b : Nat) : Int) /\ ((Int.gcd a b : Nat) : Int) <= b /\ 1 <= b / (Int.gcd a b : Nat) /\ Int.gcd (a / (Int.gcd a b : Nat)) (b / (Int.gcd a b : Nat)) = 1 /\ (0 <= a -> 0 <= a / (Int.gcd a b : Nat)) /\
  a = (a / (Int.gcd a b : Nat)) * (Int.gcd a b : Nat) /\ b = (b / (Int.gcd a b : Nat)) * (Int.gcd a b : Nat) := by
 have hg : 0 < Int.gcd a b := Int.gcd_pos_of_ne_zero_right a (by omega)
 have hgi : 0 < ((Int.gcd a b : Nat) : Int) := by omega
 have d1 : (Int.gcd a b : Int) ∣ a := Int.gcd_dvd_left ..
 have d2 : (Int.gcd a b : Int) ∣ b := Int.gcd_dvd_right ..
 have e1 := Int.ediv_mul_cancel d1
 have e2 := Int.ediv_mul_cancel d2
 refine ⟨hgi, Int.le_of_dvd hb d2, ?_, Int.gcd_ediv_gcd_ediv_gcd hg, λh => Int.ediv_nonneg h (by omega), e1.symm, e2.symm⟩
 have : 0 < b / (Int.gcd a b : Nat) := Int.ediv_pos_of_pos_of_dvd hb (by omega) d2
 omega
end L2
end
section
namespace L2
open PySem PySem.Spec PyProof.Rows
section
variable {X : Cx}
end
end L2
end
section
namespace L2
open PySem PySem.Spec PyProof.Rows PySem.W
theorem apM {K : Frag} {h : Heap} {mg : Str -> Option Value} {x : Str} {C : Addr} {bmB : List Value} {newId : String} (X : K.In h) (G : h.Ns mainGlobals mg) (e : nsIn K mainGlobals x = some (some (.ref C))) (q : excIn K C bmB newId = true) : OwnCls x C bmB newId mg h := by
 constructor
 ·exact mg_of X G e
 unfold excIn at q
 split at q
 case h_2 => cases q
 rename_i dd cd sl lk
 split at q
 case h_2 => cases q
 rename_i c0 bm y0 y1 y2 y3 nid y5 hm hl
 rw [Bool.and_eq_true, Bool.and_eq_true, Bool.and_eq_true, Bool.and_eq_true, Bool.and_eq_true] at q
 obtain ⟨⟨⟨⟨⟨q1, q2⟩, q3⟩, q4⟩, q5⟩, q6⟩ := q
 have r1 := beq_iff_eq.mp q1
 have r2 := beq_iff_eq.mp q2
 have r6 := beq_iff_eq.mp q6
 have r3 : cd.hasDel = false := by simpa using q3
 subst r1 r2
 have hsl : sl = #[y0, y1, y2, y3, some (.builtin nid), y5] := by
  cases sl with
  | mk l => exact congrArg Array.mk hl
 subst hsl
 cases cd with
 | mk nm bs mro ns qn hd sn sub ab col del =>
  dsimp only at hm r3 q5 r6
  subst hm r3
  exact ⟨bm, ns, nm, qn, bs, hd, sn, sub, ab, col, dd, y0, y1, y2, y3, y5, _, X _ _ lk, .of_isNs (isNs_of_in X q5), nsMap_none_of_in X q5 r6, tail_of_in X q4⟩
section
variable {P : Program} {w : World} {K : Frag} {mg : Str -> Option Value} {base : Heap}
theorem Fun.okX {x qual : Str} {st : Stmt} {f : Addr} {fd : FuncData} {N ps : List Str} {k : Nat} {sp : Sp} (F : Fun K x qual st f fd) (S : aaL N ps (aal st)) (len : ∀ vs H Q E, sp vs H Q E -> vs.length = ps.length)
  (hbody : ∀ (cdv : Value) (A : Around) (outer : List Env) (s : Shared) (H : Hp) (vs : List V) (Q : VK) (E : XK), aeC k (A.deeper (envOfC qual (aal st) s.heap.objs.size f cdv)) -> sp vs H Q E ->
   ∃ t, PSs (ajN (CXF P w) P w K mg base N qual (aal st) f cdv A outer s H E) (abW st) t /\ t { nx := λ_ H' => Q .non H', rt := Q } (start N vs) H) : aiu P w K mg base (CXF P w) (k + 1) f fd ps sp := by
 obtain ⟨oc, od, kV, doc, pm, an, cdv, ct, osl, rfl, lk, hcd⟩ := F.ex
 exact arY lk hcd S len λA outer s H vs Q E hr h => hbody cdv A outer s H vs Q E hr h
noncomputable def DfX (P : Program) (w : World) (K : Frag) (mg : Str -> Option Value) (base : Heap) (k : Nat) (x : Str) (ps : List Str) (sp : Sp) : Prop :=
 ∃ f fd, aiu P w K mg base (CXF P w) k f fd ps sp /\ Binds K fd ps [] /\ keepIn K (.ref f) = true /\ mg x = some (.ref f)
theorem DfX.mono {j k : Nat} {x : Str} {ps : List Str} {sp : Sp} (D : DfX P w K mg base j x ps sp) (h : j <= k) : DfX P w K mg base k x ps sp := by
 obtain ⟨f, fd, h1, h2⟩ := D
 exact ⟨f, fd, h1.mono h, h2⟩
theorem At.dfx {k : Nat} {x : Str} {st : Stmt} {N ps : List Str} {sp : Sp} (a : At K mg x st) (S : aaL N ps (aal st))
  (hb : ∀ (kV doc pm : Value) (an : Option Addr) (cdv ct : Value) (us : List Value), us.length = ps.length -> bindArgs (fnOf x x (ac5 st) (abW st) (aal st) .none kV doc pm an cdv ct) ⟨us, []⟩ = pure (ps.zip us))
  (len : ∀ vs H Q E, sp vs H Q E -> vs.length = ps.length)
  (hbody : ∀ (f : Addr) (cdv : Value) (A : Around) (outer : List Env) (s : Shared) (H : Hp) (vs : List V) (Q : VK) (E : XK), aeC k (A.deeper (envOfC x (aal st) s.heap.objs.size f cdv)) -> sp vs H Q E ->
   ∃ t, PSs (ajN (CXF P w) P w K mg base N x (aal st) f cdv A outer s H E) (abW st) t /\ t { nx := λ_ H' => Q .non H', rt := Q } (start N vs) H) : DfX P w K mg base (k + 1) x ps sp := by
 obtain ⟨f, fd, F, m⟩ := a
 exact ⟨f, fd, F.okX S len λcdv A outer s H vs Q E hr h => hbody f cdv A outer s H vs Q E hr h, F.binds hb, F.kp, m⟩
end
section
variable {X : Cx} {k : Nat} {x : Str} {ps : List Str} {sp : Sp} {p pos : Pos} {e : Expr} {es : List Expr} {t : TA}
theorem aeE {P : Program} {w : World} : Passes (CXF P w) X E0 := λ_ _ _ _ _ _ _ h => by
 obtain ⟨_, _, _, _, _, _, q, _⟩ := h
 exact q.elim
theorem agN (D : DfX X.prog X.w X.K X.mg X.base k x ps sp) (hr : aeC k X.A) (ha : PA X.nox (e :: es) t) (hg : Gl X x := by rfl) (hdb : (x == ("__debug__" : Str)) = false := by decide)
  (he : starEach (e :: es) X.env = (false, eval e X.env) :: starEach es X.env := by rfl) (hpl : (backTo pos (starEach es X.env)).any (·.1) = false := by rfl) : PEX X (.Call (.Name x p) (e :: es) [] pos) (aki sp t) := by
 obtain ⟨f, fd, h1, h2, h3, h4⟩ := D
 exact alM h1 hr h4 h3 h2 ha hg hdb he hpl
end
end L2
end
section
namespace L2
open PySem PySem.Spec PyProof.Rows
section
variable {P : Program} {w : World} {K : PySem.W.Frag}
end
section
variable {X : Cx}
end
end L2
end
section
namespace L2
open PySem
end L2
end
section
namespace L2
open PySem PySem.Spec PyProof.Rows
section
variable {X : Cx} {e : Expr} {te : TE} {th : TO} {pos p2 : Pos}
end
end L2
end
section
namespace L2
open PySem PySem.Spec PyProof.Rows
section
variable {X : Cx}
noncomputable def ahw (K : PySem.W.Frag) : R2 := λx y H Q => ∃ t ts p xs, Rep K H x t /\ y = .ref p /\ (SqL K H p xs \/ SqT K H p xs) /\ aaK K H xs ts /\ deps ts <= 40 /\ dep t <= 40 /\ Q (.bl (!aoX t ts)) H
open Classical in
theorem ako (hu : X.A.units + 64 < cLine) : OpR X (compareOp .NotIn) (ahw X.K) := by
 intro pins s σ H x y v u Q I rx ry h
 obtain ⟨t, ts, p, xs, q1, rfl, hq, qs, hd, hd2, q⟩ := h
 cases ry
 have hu1 : X.A.in1.units + 40 < cLine := by
  have := in1_units X.A
  omega
 -- what == tells of an item, by the item itself
 let e : Value -> Bool := λw' => if h : ∃ z tz, z ∈ xs /\ RelV z w' /\ Rep X.K H z tz /\ tz ∈ ts then eqT (Classical.choose (Classical.choose_spec h)) t else false
 have ee : ∀ z w' tz, z ∈ xs -> RelV z w' -> Rep X.K H z tz -> tz ∈ ts -> e w' = eqT tz t := λz w' tz h1 h2 h3 h4 => by
  have hx : ∃ z tz, z ∈ xs /\ RelV z w' /\ Rep X.K H z tz /\ tz ∈ ts := ⟨z, tz, h1, h2, h3, h4⟩
  show (if h : _ then _ else _) = _
  rw [dif_pos hx]
  have sp := Classical.choose_spec (Classical.choose_spec hx)
  have key : ∀ z z' t1 t2, RelV z w' -> RelV z' w' -> dep t1 <= 99 -> Rep X.K H z t1 -> Rep X.K H z' t2 -> t1 = t2 := λz z' t1 t2 a1 a2 d9 a3 a4 => by
   obtain rfl := RelV.inj a1 a2
   exact Rep.inj I d9 a3 a4
  rw [key _ _ _ _ sp.2.1 h2 (by have := akg sp.2.2.2; omega) sp.2.2.1 h3]
 have mem : ∀ {its : List Value}, Vals xs its -> ∀ w' ∈ its, SeqAt.EqAt X.A.in1 s w' v (e w') := by
  intro its r w' hw
  obtain ⟨j, hj, ej⟩ := List.mem_iff_getElem.mp hw
  have hjx : j < xs.length := by rw [r.length]; exact hj
  obtain ⟨u', h1, h2⟩ := r.get (List.getElem?_eq_getElem hjx)
  rw [List.getElem?_eq_getElem hj, ej] at h1
  cases h1
  obtain ⟨tz, h3, h4⟩ := qs.get (List.getElem?_eq_getElem hjx)
  have hm := List.mem_of_getElem? h3
  rw [ee _ _ tz (List.getElem_mem hjx) h2 h4 hm]
  exact (ahu I 40 X.A.in1 tz t _ x _ v hu1 (Nat.le_trans (akg hm) hd) (by have := akg hm; omega) (by omega) h4 q1 h2 rx).2
 rcases hq with hq | hq
 ·obtain ⟨its, r, pl, hz⟩ := I.list hq
  refine SeqAt.notIn_listAt e pl.isList (λw hw => mem r w (by simpa using hw)) ⟨.bl _, H, I, rfl, ?_⟩
  rw [show its.toArray.any e = its.any e by simp, agM (λz => eqT z t) e r qs λz w' tz h1 h2 h3 h4 => ee z w' tz h1 h2 h3 h4]
  exact q
 ·obtain ⟨its, r, pl, hz⟩ := I.tuple hq
  refine SeqAt.notIn_tupleAt e pl (λw hw => mem r w (by simpa using hw)) ⟨.bl _, H, I, rfl, ?_⟩
  rw [show its.toArray.any e = its.any e by simp, agM (λz => eqT z t) e r qs λz w' tz h1 h2 h3 h4 => ee z w' tz h1 h2 h3 h4]
  exact q
end
section
variable {X : Cx} {tg : Expr}
end
end L2
end
section
namespace L2
open PySem PySem.Spec PyProof.Rows
section
variable {X : Cx}
end
end L2
end
section
namespace L2
open PySem PySem.Spec PyProof.Rows
inductive Rs (α : Type) where
 | bad | ex (c : Str) | ok (a : α)
noncomputable def Rs.bind {α β : Type} : Rs α -> (α -> Rs β) -> Rs β
 | .bad, _ => .bad
 | .ex c, _ => .ex c
 | .ok a, f => f a
noncomputable instance : Monad Rs where
 pure := .ok
 bind := Rs.bind
noncomputable def Rs.post {α : Type} (r : Rs α) (EX : Str -> Prop) (P : α -> Prop) : Prop := match r with
 | .bad => False
 | .ex c => EX c
 | .ok a => P a
theorem Rs.aac {α β : Type} {r : Rs α} {f : α -> Rs β} {EX : Str -> Prop} {P : β -> Prop} (h : (r.bind f).post EX P) : r.post EX λa => (f a).post EX P := by
 cases r <;> exact h
theorem Rs.aag {α : Type} {r : Rs α} {EX : Str -> Prop} {P P' : α -> Prop} (h : r.post EX P) (i : ∀ a, P a -> P' a) : r.post EX P' := by
 cases r with
 | bad => exact h
 | ex c => exact h
 | ok a => exact i a h
open Classical in
noncomputable def aaQ (W : Addr -> Prop) (H : Hp) : Hp := λb => if W b then none else H b
theorem afT {W : Addr -> Prop} {H : Hp} {b : Addr} (h : W b) : aaQ W H b = none := if_pos h
theorem aaB {W : Addr -> Prop} {H : Hp} {b : Addr} (h : ¬ W b) : aaQ W H b = H b := if_neg h
theorem aa4 {W : Addr -> Prop} {H : Hp} {b : Addr} {o : HO} (h : aaQ W H b = some o) : ¬ W b /\ H b = some o := by
 by_cases w : W b
 ·rw [afT w] at h; cases h
 ·rw [aaB w] at h; exact ⟨w, h⟩
theorem abr (W : Addr -> Prop) (H : Hp) : Same (aaQ W H) H := λ_ _ h => (aa4 h).2
theorem abK {W W' : Addr -> Prop} {H H' : Hp} (hw : ∀ b o, H b = some o -> W' b -> W b) (s : ∀ b o, ¬ W b -> H b = some o -> H' b = some o) : Same (aaQ W H) (aaQ W' H') := λb o h => by
 obtain ⟨n, e⟩ := aa4 h
 rw [aaB λw => n (hw b o e w)]
 exact s b o n e
theorem acg {W : Addr -> Prop} {H : Hp} {a : Addr} {o : HO} (h : W a) : aaQ W (upd H a o) = aaQ W H := by
 funext b
 by_cases w : W b
 ·rw [afT w, afT w]
 ·rw [aaB w, aaB w]
  exact aaC λe => w (e ▸ h)
inductive Sl where
 | un | sh (t : Tr) | ow (ts : List Tr) | rf (ts : List Tr) | dp (ts : List Tr)
noncomputable abbrev En := List Sl
inductive Rv where
 | v (T : Tr) (fr : Bool) | s (i : Nat)
noncomputable abbrev EF := En -> Rs (Rv × En)
structure Tx where
 K : PySem.W.Frag
 Z : Addr -> Prop
 R : Addr -> Prop
 H0 : Hp
 B : Hp
 EX : Str -> Prop
noncomputable def Mu (ρ : En) (i : Nat) : Prop := ∃ ts, ρ[i]? = some (Sl.ow ts) \/ ρ[i]? = some (Sl.rf ts)
noncomputable def ar4 : Tr -> Bool
 | .lst _ => true
 | _ => false
inductive DR (K : PySem.W.Frag) (G H : Hp) : List V -> List Tr -> List Addr -> Prop
 | nil : DR K G H [] [] []
 | cl {x : V} {u : Tr} {xs : List V} {ts : List Tr} {bs : List Addr} (n : ar4 u = false) (h : Rep K G x u) (r : DR K G H xs ts bs) : DR K G H (x :: xs) (u :: ts) bs
 | rw {b : Addr} {ys : List V} {us : List Tr} {xs : List V} {ts : List Tr} {bs : List Addr} (h : H b = some (.lst ys)) (q : aaK K G ys us) (r : DR K G H xs ts bs) : DR K G H (.ref b :: xs) (.lst us :: ts) (b :: bs)
noncomputable def amX (t : Tx) (W : Addr -> Prop) (H : Hp) (a : Addr) (xs : List V) (ts : List Tr) (fp : List Addr) : Prop :=
 ∃ bs, fp = a :: bs /\ fp.Nodup /\ (∀ b ∈ fp, W b /\ t.H0 b = none) /\ H a = some (.lst xs) /\ DR t.K (aaQ W H) H xs ts bs
theorem DR.move {K : PySem.W.Frag} {G G' H H' : Hp} (m : Same G G') : ∀ {xs : List V} {ts : List Tr} {bs : List Addr}, DR K G H xs ts bs -> (∀ b o, b ∈ bs -> H b = some o -> H' b = some o) -> DR K G' H' xs ts bs
 | _, _, _, .nil, _ => .nil
 | _, _, _, .cl n h r, k => .cl n (h.mono m) (DR.move m r k)
 | _, _, _, .rw h q r, k => .rw (k _ _ (List.mem_cons_self ..) h) (q.mono m) (DR.move m r λb o hb => k b o (List.mem_cons_of_mem _ hb))
theorem amX.move {t t' : Tx} {W W' : Addr -> Prop} {H H' : Hp} {a : Addr} {xs : List V} {ts : List Tr} {fp : List Addr} (d : amX t W H a xs ts fp) (hK : t'.K = t.K) (h0 : t'.H0 = t.H0) (m : Same (aaQ W H) (aaQ W' H')) (w : ∀ b ∈ fp, W' b) (k : ∀ b o, b ∈ fp -> H b = some o -> H' b = some o) : amX t' W' H' a xs ts fp := by
 obtain ⟨bs, e, nd, ww, ha, r⟩ := d
 refine ⟨bs, e, nd, λb hb => ⟨w b hb, by rw [h0]; exact (ww b hb).2⟩, k a _ (by rw [e]; exact List.mem_cons_self ..) ha, ?_⟩
 rw [hK]
 exact r.move m λb o hb => k b o (by rw [e]; exact List.mem_cons_of_mem _ hb)
noncomputable def Lt (H : Hp) (b : Addr) : Prop := (∃ xs, H b = some (.lst xs)) \/ ∃ ps, H b = some (.tbl ps)
theorem Lt.ne {H : Hp} {b : Addr} (h : Lt H b) : H b ≠ none := by
 rcases h with ⟨_, h⟩ | ⟨_, h⟩ <;> (rw [h]; intro z; cases z)
theorem Lt.grow {H H' : Hp} {b : Addr} (h : Lt H b) (s : ∀ b o, H b = some o -> H' b = some o) : Lt H' b := by
 rcases h with ⟨_, h⟩ | ⟨_, h⟩
 ·exact .inl ⟨_, s _ _ h⟩
 ·exact .inr ⟨_, s _ _ h⟩
noncomputable def ab1 : List Str := ["falling_places", "order_of_bounds"]
noncomputable def Tb (K : PySem.W.Frag) (b : Addr) : Prop := ∃ x ∈ ab1, ∃ c, PySem.W.tabIn K x = some (c, b)
noncomputable def apO (o : Obj) (q : Str) : Prop := ∃ vs t, o.data = .fields vs /\ vs[1]? = some (.str q t)
noncomputable def anK (x : Str) : Str := x ++ (".<locals>." : Str) ++ ("<lambda>" : Str)
noncomputable def au0 (H : Hp) (q : Str) (ps : Array Value) : Prop := TriplesOk ps.toList /\ ∀ pos v, codeAmong pos ps.toList = some v -> ∃ c o, v = .ref c /\ H c = some (.frz o (.own 0)) /\ apO o q
noncomputable def TbS (K : PySem.W.Frag) (H : Hp) : Prop := ∀ x ∈ ab1, ∀ c b, PySem.W.tabIn K x = some (c, b) -> ∃ ps, H b = some (.tbl ps) /\ au0 H (anK x) ps
theorem TbS.tbl {K : PySem.W.Frag} {H : Hp} (h : TbS K H) {b : Addr} (t : Tb K b) : ∃ ps, H b = some (.tbl ps) := by
 obtain ⟨x, hx, c, e⟩ := t
 obtain ⟨ps, q, _⟩ := h x hx c b e
 exact ⟨ps, q⟩
theorem TbS.ne {K : PySem.W.Frag} {H : Hp} (h : TbS K H) {a b : Addr} {xs : List V} (t : Tb K b) (e : H a = some (.lst xs)) : b ≠ a := λz => by
 obtain ⟨ps, q⟩ := h.tbl t
 rw [z, e] at q
 cases q
theorem TbS.fr {K : PySem.W.Frag} {H H' : Hp} (h : TbS K H) (s : ∀ b o, (∀ xs, o ≠ .lst xs) -> H b = some o -> H' b = some o) : TbS K H' := λx hx c b e => by
 obtain ⟨ps, q, t1, t2⟩ := h x hx c b e
 refine ⟨ps, s _ _ (λ_ z => by cases z) q, t1, λpos v k => ?_⟩
 obtain ⟨c, o, e1, e2, e3⟩ := t2 pos v k
 exact ⟨c, o, e1, s _ _ (λ_ z => by cases z) e2, e3⟩
theorem TbS.same {K : PySem.W.Frag} {H H' : Hp} (h : TbS K H) (s : Same H H') : TbS K H' := h.fr λb o _ => s b o
theorem TbS.upd {K : PySem.W.Frag} {H : Hp} (h : TbS K H) {a : Addr} {xs : List V} {o : HO} (e : H a = some (.lst xs)) : TbS K (L2.upd H a o) := h.fr λb u n q => by
 rw [aaC]
 ·exact q
 ·rintro rfl
  rw [e] at q
  cases q
  exact n _ rfl
structure akp (t : Tx) (W : Addr -> Prop) (H : Hp) : Prop where
 ok : TbS t.K H
 w : ∀ b, Tb t.K b -> W b
 r : ∀ b, Tb t.K b -> t.R b
 B : ∀ b, Tb t.K b -> t.B b = none
theorem akp.same {t : Tx} {W : Addr -> Prop} {H H' : Hp} (f : akp t W H) (s : Same H H') : akp t W H' := ⟨f.ok.same s, f.w, f.r, f.B⟩
theorem akp.wid {t : Tx} {W W' : Addr -> Prop} {H : Hp} (f : akp t W H) (h : ∀ b, W b -> W' b) : akp t W' H := ⟨f.ok, λb z => h b (f.w b z), f.r, f.B⟩
theorem akp.cut {t : Tx} {W : Addr -> Prop} {H : Hp} (f : akp t W H) {D : Addr -> Prop} (h : ∀ b, D b -> ∃ xs, H b = some (.lst xs)) : akp t (λb => W b /\ ¬ D b) H := ⟨f.ok, λb z => ⟨f.w b z, λd => by
 obtain ⟨xs, e⟩ := h b d
 exact f.ok.ne z e rfl⟩, f.r, f.B⟩
structure EOF (t : Tx) (W : Addr -> Prop) (ρ : En) (σ : St) (H : Hp) (F : Nat -> List Addr) : Prop where
 len : ρ.length = σ.length
 zw : ∀ b, t.Z b -> W b
 z0 : ∀ b, t.Z b -> t.H0 b ≠ none
 wl : ∀ b, W b -> Lt H b
 f0 : ∀ b o, t.H0 b = some o -> ¬ t.R b -> H b = some o
 n0 : ∀ b, H b = none -> t.H0 b = none
 sh : ∀ (i : Nat) (u : Tr), ρ[i]? = some (.sh u) -> ∃ v, σ[i]? = some (some v) /\ Rep t.K (aaQ W H) v u
 ow : ∀ (i : Nat) (ts : List Tr), ρ[i]? = some (Sl.ow ts) -> ∃ a xs, σ[i]? = some (some (V.ref a)) /\ W a /\ t.H0 a = none /\ H a = some (.lst xs) /\ aaK t.K (aaQ W H) xs ts
 rf : ∀ (i : Nat) (ts : List Tr), ρ[i]? = some (Sl.rf ts) -> ∃ a xs, σ[i]? = some (some (V.ref a)) /\ W a /\ t.R a /\ H a = some (.lst xs) /\ aaK t.K (aaQ W H) xs ts
 dis : ∀ (i j : Nat) (a : Addr), Mu ρ i -> Mu ρ j -> σ[i]? = some (some (V.ref a)) -> σ[j]? = some (some (V.ref a)) -> i = j
 pn : ∀ b o, t.B b = some o -> H b = some o
 pd : ∀ (i : Nat) (a : Addr), Mu ρ i -> σ[i]? = some (some (V.ref a)) -> t.B a = none
 dp : ∀ (i : Nat) (ts : List Tr), ρ[i]? = some (Sl.dp ts) -> ∃ a xs, σ[i]? = some (some (V.ref a)) /\ amX t W H a xs ts (F i)
 dd : ∀ (i j : Nat) (ts us : List Tr), i ≠ j -> ρ[i]? = some (Sl.dp ts) -> ρ[j]? = some (Sl.dp us) -> ∀ b ∈ F i, b ∉ F j
 dm : ∀ (i j : Nat) (ts : List Tr) (c : Addr), ρ[i]? = some (Sl.dp ts) -> Mu ρ j -> σ[j]? = some (some (V.ref c)) -> c ∉ F i
 db : ∀ (i : Nat) (ts : List Tr), ρ[i]? = some (Sl.dp ts) -> ∀ b ∈ F i, t.B b = none
 tab : akp t W H
noncomputable def EOk (t : Tx) (W : Addr -> Prop) (ρ : En) (σ : St) (H : Hp) : Prop := ∃ F, EOF t W ρ σ H F
noncomputable def EOh (t : Tx) (W : Addr -> Prop) (a : Addr) (ρ : En) (σ : St) (H : Hp) : Prop := ∃ F, EOF t (λb => W b \/ b = a) ρ σ H F /\ ∀ (i : Nat) (ts : List Tr), ρ[i]? = some (Sl.dp ts) -> a ∉ F i
theorem EOh.ok {t : Tx} {W : Addr -> Prop} {a : Addr} {ρ : En} {σ : St} {H : Hp} (e : EOh t W a ρ σ H) : EOk t (λb => W b \/ b = a) ρ σ H := e.elim λF e => ⟨F, e.1⟩
section
variable {t : Tx} {W : Addr -> Prop} {ρ : En} {σ : St} {H : Hp}
theorem EOk.len (e : EOk t W ρ σ H) : ρ.length = σ.length := e.elim λ_ e => e.len
theorem EOk.zw (e : EOk t W ρ σ H) : ∀ b, t.Z b -> W b := e.elim λ_ e => e.zw
theorem EOk.z0 (e : EOk t W ρ σ H) : ∀ b, t.Z b -> t.H0 b ≠ none := e.elim λ_ e => e.z0
theorem EOk.wl (e : EOk t W ρ σ H) : ∀ b, W b -> Lt H b := e.elim λ_ e => e.wl
theorem EOk.tab (e : EOk t W ρ σ H) : akp t W H := e.elim λ_ e => e.tab
theorem EOk.f0 (e : EOk t W ρ σ H) : ∀ b o, t.H0 b = some o -> ¬ t.R b -> H b = some o := e.elim λ_ e => e.f0
theorem EOk.n0 (e : EOk t W ρ σ H) : ∀ b, H b = none -> t.H0 b = none := e.elim λ_ e => e.n0
theorem EOk.sh (e : EOk t W ρ σ H) : ∀ (i : Nat) (u : Tr), ρ[i]? = some (.sh u) -> ∃ v, σ[i]? = some (some v) /\ Rep t.K (aaQ W H) v u := e.elim λ_ e => e.sh
theorem EOk.ow (e : EOk t W ρ σ H) : ∀ (i : Nat) (ts : List Tr), ρ[i]? = some (Sl.ow ts) -> ∃ a xs, σ[i]? = some (some (V.ref a)) /\ W a /\ t.H0 a = none /\ H a = some (.lst xs) /\ aaK t.K (aaQ W H) xs ts := e.elim λ_ e => e.ow
theorem EOk.rf (e : EOk t W ρ σ H) : ∀ (i : Nat) (ts : List Tr), ρ[i]? = some (Sl.rf ts) -> ∃ a xs, σ[i]? = some (some (V.ref a)) /\ W a /\ t.R a /\ H a = some (.lst xs) /\ aaK t.K (aaQ W H) xs ts := e.elim λ_ e => e.rf
theorem EOk.dis (e : EOk t W ρ σ H) : ∀ (i j : Nat) (a : Addr), Mu ρ i -> Mu ρ j -> σ[i]? = some (some (V.ref a)) -> σ[j]? = some (some (V.ref a)) -> i = j := e.elim λ_ e => e.dis
theorem EOk.pn (e : EOk t W ρ σ H) : ∀ b o, t.B b = some o -> H b = some o := e.elim λ_ e => e.pn
theorem EOk.pd (e : EOk t W ρ σ H) : ∀ (i : Nat) (a : Addr), Mu ρ i -> σ[i]? = some (some (V.ref a)) -> t.B a = none := e.elim λ_ e => e.pd
end
structure Stp (W : Addr -> Prop) (H H' : Hp) : Prop where
 keep : ∀ b o, ¬ W b -> H b = some o -> H' b = some o
 dom : ∀ b, H' b = none -> H b = none
theorem Stp.refl (W : Addr -> Prop) (H : Hp) : Stp W H H := ⟨λ_ _ _ h => h, λ_ h => h⟩
theorem Stp.trans {W : Addr -> Prop} {H H1 H2 : Hp} (a : Stp W H H1) (b : Stp W H1 H2) : Stp W H H2 := ⟨λc o n h => b.keep c o n (a.keep c o n h), λc h => a.dom c (b.dom c h)⟩
theorem Stp.of {W : Addr -> Prop} {H H' : Hp} (s : Same H H') : Stp W H H' := ⟨λb o _ h => s b o h, λ_ h => s.free h⟩
theorem Stp.off {W : Addr -> Prop} {H H' : Hp} (s : Stp W H H') : Same (aaQ W H) (aaQ W H') := abK (λ_ _ _ h => h) s.keep
theorem EOk.grow {t : Tx} {W : Addr -> Prop} {ρ : En} {σ : St} {H H' : Hp} (e : EOk t W ρ σ H) (s : Same H H') : EOk t W ρ σ H' := by
 have m : Same (aaQ W H) (aaQ W H') := (Stp.of s).off
 obtain ⟨F, e⟩ := e
 refine ⟨F, e.len, e.zw, e.z0, λb w => ?_, λb o h n => s b o (e.f0 b o h n), λb h => e.n0 b (s.free h), λi u h => ?_, λi ts h => ?_, λi ts h => ?_, e.dis, λb o h => s b o (e.pn b o h), e.pd, λi ts h => ?_, e.dd, e.dm, e.db, e.tab.same s⟩
 ·exact (e.wl b w).grow s
 ·obtain ⟨v, h1, h2⟩ := e.sh i u h
  exact ⟨v, h1, h2.mono m⟩
 ·obtain ⟨a, xs, h1, h2, h3, h4, h5⟩ := e.ow i ts h
  exact ⟨a, xs, h1, h2, h3, s _ _ h4, h5.mono m⟩
 ·obtain ⟨a, xs, h1, h2, h3, h4, h5⟩ := e.rf i ts h
  exact ⟨a, xs, h1, h2, h3, s _ _ h4, h5.mono m⟩
 ·obtain ⟨a, xs, h1, d⟩ := e.dp i ts h
  exact ⟨a, xs, h1, d.move rfl rfl m (λb hb => by obtain ⟨_, _, _, ww, _⟩ := d; exact (ww b hb).1) λb o _ q => s b o q⟩
noncomputable def VOk (K : PySem.W.Frag) (W : Addr -> Prop) (σ : St) (H H' : Hp) (v : V) : Rv -> Prop
 | .v T false => Rep K (aaQ W H') v T
 | .v T true => ∃ a xs ts, v = .ref a /\ T = .lst ts /\ H a = none /\ H' a = some (.lst xs) /\ aaK K (off a (aaQ W H')) xs ts
 | .s i => σ[i]? = some (some v)
theorem akq (a : Addr) (H : Hp) : Same (off a H) H := λ_ _ h => (ado h).2
theorem VOk.step {K : PySem.W.Frag} {W : Addr -> Prop} {σ : St} {H H' H'' : Hp} {v : V} {r : Rv} (hw : ∀ b, W b -> H b ≠ none) (h : VOk K W σ H H' v r) (s : Stp W H' H'') : VOk K W σ H H'' v r := by
 cases r with
 | s i => exact h
 | v T fr =>
  cases fr with
  | false => exact Rep.mono s.off h
  | true =>
   obtain ⟨a, xs, ts, rfl, rfl, e1, e2, r⟩ := h
   refine ⟨a, xs, ts, rfl, rfl, e1, s.keep a _ (λw => hw a w e1) e2, r.mono λb o q => ?_⟩
   obtain ⟨n, q⟩ := ado q
   rw [off_ne n]
   exact s.off b o q
theorem VOk.back {K : PySem.W.Frag} {W : Addr -> Prop} {σ : St} {G H H' : Hp} {v : V} {r : Rv} (h : VOk K W σ H H' v r) (d : ∀ b, H b = none -> G b = none) : VOk K W σ G H' v r := by
 cases r with
 | s i => exact h
 | v T fr =>
  cases fr with
  | false => exact h
  | true =>
   obtain ⟨a, xs, ts, e0, e1, e2, r⟩ := h
   exact ⟨a, xs, ts, e0, e1, d _ e2, r⟩
theorem VOk.rep {K : PySem.W.Frag} {W : Addr -> Prop} {σ : St} {H H' : Hp} {v : V} {T : Tr} {fr : Bool} (hw : ∀ b, W b -> H b ≠ none) (h : VOk K W σ H H' v (.v T fr)) : Rep K (aaQ W H') v T := by
 cases fr with
 | false => exact h
 | true =>
  obtain ⟨a, xs, ts, rfl, rfl, e1, e2, r⟩ := h
  refine .lst (SqL.of ?_) (r.mono (akq _ _))
  rw [aaB λw => hw a w e1]
  exact e2
noncomputable def Rp (K : PySem.W.Frag) (W : Addr -> Prop) (H : Hp) (v : V) (T : Tr) : Prop :=
 Rep K (aaQ W H) v T \/ ∃ a xs ts, v = .ref a /\ T = .lst ts /\ H a = some (.lst xs) /\ aaK K (aaQ W H) xs ts
theorem Rp.rep {K : PySem.W.Frag} {W : Addr -> Prop} {H : Hp} {v : V} {T : Tr} (h : Rp K W H v T) : Rep K H v T := by
 rcases h with h | ⟨a, xs, ts, rfl, rfl, e, r⟩
 ·exact h.mono (abr _ _)
 ·exact .lst (SqL.of e) (r.mono (abr _ _))
theorem Rp.lst {K : PySem.W.Frag} {W : Addr -> Prop} {H : Hp} {v : V} {ts : List Tr} (h : Rp K W H v (.lst ts)) : ∃ a xs, v = .ref a /\ SqL K H a xs /\ aaK K (aaQ W H) xs ts := by
 rcases h with h | ⟨a, xs, us, rfl, e0, e, r⟩
 ·cases h with
  | lst h r => exact ⟨_, _, rfl, (abr _ _).seq h, r⟩
 ·cases e0
  exact ⟨a, xs, rfl, SqL.of e, r⟩
theorem Rp.tup {K : PySem.W.Frag} {W : Addr -> Prop} {H : Hp} {v : V} {ts : List Tr} (h : Rp K W H v (.tup ts)) : ∃ a xs, v = .ref a /\ SqT K H a xs /\ aaK K (aaQ W H) xs ts := by
 rcases h with h | ⟨a, xs, us, rfl, e0, e, r⟩
 ·cases h with
  | tup h r => exact ⟨_, _, rfl, (abr _ _).aoW h, r⟩
 ·cases e0
theorem Rp.int {K : PySem.W.Frag} {W : Addr -> Prop} {H : Hp} {v : V} {i : Int} (h : Rp K W H v (.int i)) : v = .int i := by
 cases h.rep; rfl
theorem Rp.bl {K : PySem.W.Frag} {W : Addr -> Prop} {H : Hp} {v : V} {i : Bool} (h : Rp K W H v (.bl i)) : v = .bl i := by
 cases h.rep; rfl
theorem Rp.str {K : PySem.W.Frag} {W : Addr -> Prop} {H : Hp} {v : V} {i : Str} (h : Rp K W H v (.str i)) : v = .str i := by
 cases h.rep; rfl
theorem Rp.non {K : PySem.W.Frag} {W : Addr -> Prop} {H : Hp} {v : V} (h : Rp K W H v .non) : v = .non := by
 cases h.rep; rfl
noncomputable def dr (ρ : En) : Rv -> Rs Tr
 | .v T _ => .ok T
 | .s i => match ρ[i]? with
  | some (Sl.ow ts) => .ok (.lst ts)
  | some (Sl.rf ts) => .ok (.lst ts)
  | _ => .bad
theorem adw {t : Tx} {W : Addr -> Prop} {ρ : En} {σ : St} {H H' : Hp} {v : V} {r : Rv} {T : Tr} (e : EOk t W ρ σ H') (hw : ∀ b, W b -> H b ≠ none) (h : VOk t.K W σ H H' v r) (q : dr ρ r = .ok T) : Rp t.K W H' v T := by
 cases r with
 | v U fr =>
  cases q
  exact .inl (h.rep hw)
 | s i =>
  have h : σ[i]? = some (some v) := h
  dsimp only [dr] at q
  split at q
  ·rename_i ts e1
   cases q
   obtain ⟨a, xs, h1, h2, h3, h4, h5⟩ := e.ow i ts e1
   rw [h] at h1
   cases h1
   exact .inr ⟨a, xs, ts, rfl, rfl, h4, h5⟩
  ·rename_i ts e1
   cases q
   obtain ⟨a, xs, h1, h2, h3, h4, h5⟩ := e.rf i ts e1
   rw [h] at h1
   cases h1
   exact .inr ⟨a, xs, ts, rfl, rfl, h4, h5⟩
  ·cases q
theorem EOk.wn {t : Tx} {W : Addr -> Prop} {ρ : En} {σ : St} {H : Hp} (e : EOk t W ρ σ H) : ∀ b, W b -> H b ≠ none := λb w => by
 exact (e.wl b w).ne
theorem EOk.hide {t : Tx} {W : Addr -> Prop} {ρ : En} {σ : St} {H H' : Hp} {a : Addr} {xs : List V} (e : EOk t W ρ σ H) (s : Same H H') (n : H a = none) (q : H' a = some (.lst xs)) : EOh t W a ρ σ H' := by
 have m : Same (aaQ W H) (aaQ (λb => W b \/ b = a) H') := λb o h => by
  obtain ⟨w, h⟩ := aa4 h
  rw [aaB]
  ·exact s b o h
  ·rintro (z | rfl)
   ·exact w z
   ·rw [n] at h; cases h
 have na : ∀ b, W b -> b ≠ a := λb w z => by subst z; exact e.wn b w n
 obtain ⟨F, e⟩ := e
 refine ⟨F, ⟨e.len, λb z => .inl (e.zw b z), e.z0, λb w => ?_, λb o h nr => s b o (e.f0 b o h nr), λb h => e.n0 b (s.free h), λi u h => ?_, λi ts h => ?_, λi ts h => ?_, e.dis, λb o h => s b o (e.pn b o h), e.pd, λi ts h => ?_, e.dd, e.dm, e.db, (e.tab.same s).wid λb w => .inl w⟩, λi ts h z => ?_⟩
 ·rcases w with w | rfl
  ·exact (e.wl b w).grow s
  ·exact .inl ⟨xs, q⟩
 ·obtain ⟨v, h1, h2⟩ := e.sh i u h
  exact ⟨v, h1, h2.mono m⟩
 ·obtain ⟨c, ys, h1, h2, h3, h4, h5⟩ := e.ow i ts h
  exact ⟨c, ys, h1, .inl h2, h3, s _ _ h4, h5.mono m⟩
 ·obtain ⟨c, ys, h1, h2, h3, h4, h5⟩ := e.rf i ts h
  exact ⟨c, ys, h1, .inl h2, h3, s _ _ h4, h5.mono m⟩
 ·obtain ⟨c, ys, h1, d⟩ := e.dp i ts h
  exact ⟨c, ys, h1, d.move rfl rfl m (λb hb => by obtain ⟨_, _, _, ww, _⟩ := d; exact .inl (ww b hb).1) λb o _ q => s b o q⟩
 ·obtain ⟨c, ys, h1, bs, _, _, ww, _⟩ := e.dp i ts h
  exact na a (ww a z).1 rfl
noncomputable def VOE (t : Tx) (W : Addr -> Prop) (ρ : En) (σ : St) (H H' : Hp) (v : V) (r : Rv) : Prop := VOk t.K W σ H H' v r /\ ∀ T a, r = .v T true -> v = .ref a -> EOh t W a ρ σ H'
theorem VOE.of {t : Tx} {W : Addr -> Prop} {ρ : En} {σ σ' : St} {H H' : Hp} {v : V} {T : Tr} {fr : Bool} (e : EOk t W ρ σ H) (s : Same H H') (h : VOk t.K W σ' H H' v (.v T fr)) : VOE t W ρ σ H H' v (.v T fr) := by
 refine ⟨by cases fr <;> exact h, λU a z ev => ?_⟩
 cases z
 obtain ⟨b, xs, ts, rfl, _, n, q, _⟩ := h
 cases ev
 exact e.hide s n q
theorem VOE.low {t : Tx} {W : Addr -> Prop} {ρ : En} {σ : St} {H H' : Hp} {v : V} {T : Tr} (h : Rep t.K (aaQ W H') v T) : VOE t W ρ σ H H' v (.v T false) := ⟨h, λ_ _ z => by cases z⟩
theorem VOE.back {t : Tx} {W : Addr -> Prop} {ρ : En} {σ : St} {G H H' : Hp} {v : V} {r : Rv} (h : VOE t W ρ σ H H' v r) (d : ∀ b, H b = none -> G b = none) : VOE t W ρ σ G H' v r := ⟨h.1.back d, h.2⟩
noncomputable def SE (t : Tx) (te : TE) (f : EF) : Prop := ∀ W ρ σ H Q, EOk t W ρ σ H -> (f ρ).post t.EX (λp => ∀ v H', EOk t W p.2 σ H' -> Stp W H H' -> VOE t W p.2 σ H H' v p.1 -> Q v H') -> te σ H Q
noncomputable abbrev BF := En -> Rs (Bool × En)
noncomputable def ST (t : Tx) (te : TT) (f : BF) : Prop := ∀ W ρ σ H Q, EOk t W ρ σ H -> (f ρ).post t.EX (λp => ∀ H', EOk t W p.2 σ H' -> Stp W H H' -> Q p.1 H') -> te σ H Q
noncomputable abbrev AF := En -> Rs (List Rv × En)
inductive ae3 (K : PySem.W.Frag) (W : Addr -> Prop) (σ : St) (H H' : Hp) : List V -> List Rv -> Prop
 | nil : ae3 K W σ H H' [] []
 | cons {v : V} {r : Rv} {vs : List V} {rs : List Rv} (h : VOk K W σ H H' v r) (q : ae3 K W σ H H' vs rs) : ae3 K W σ H H' (v :: vs) (r :: rs)
noncomputable def SA (t : Tx) (te : TA) (f : AF) : Prop := ∀ W ρ σ H Q, EOk t W ρ σ H -> (f ρ).post t.EX (λp => ∀ vs H', EOk t W p.2 σ H' -> Stp W H H' -> ae3 t.K W σ H H' vs p.1 -> Q vs H') -> te σ H Q
section
variable {t : Tx}
noncomputable def aah (i : Nat) : EF := λρ => match ρ[i]? with
 | some (.sh T) => .ok (.v T false, ρ)
 | some (.ow _) => .ok (.s i, ρ)
 | some (.rf _) => .ok (.s i, ρ)
 | _ => .bad
theorem aad (i : Nat) : SE t (anp i) (aah i) := λW ρ σ H Q e h => by
 unfold aah at h
 split at h
 ·rename_i T q
  obtain ⟨v, h1, h2⟩ := e.sh i T q
  exact ⟨v, h1, h v H e (Stp.refl _ _) (.low h2)⟩
 ·rename_i ts q
  obtain ⟨a, xs, h1, _⟩ := e.ow i ts q
  exact ⟨_, h1, h _ H e (Stp.refl _ _) ⟨h1, λ_ _ z => by cases z⟩⟩
 ·rename_i ts q
  obtain ⟨a, xs, h1, _⟩ := e.rf i ts q
  exact ⟨_, h1, h _ H e (Stp.refl _ _) ⟨h1, λ_ _ z => by cases z⟩⟩
 ·exact h.elim
noncomputable def eC (T : Tr) : EF := λρ => .ok (.v T false, ρ)
theorem apP {v : V} {T : Tr} (h : ∀ H, Rep t.K H v T) : SE t (tC v) (eC T) := λW ρ σ H Q e q => q v H e (Stp.refl _ _) (.low (h _))
theorem aao (i : Int) : SE t (tC (.int i)) (eC (.int i)) := apP λ_ => .int i
theorem agO (i : Bool) : SE t (tC (.bl i)) (eC (.bl i)) := apP λ_ => .bl i
theorem amY (i : Str) : SE t (tC (.str i)) (eC (.str i)) := apP λ_ => .str i
theorem akr : SE t (tC .non) (eC .non) := apP λ_ => .non
noncomputable abbrev G2 := Tr -> Tr -> Rs (Tr × Bool)
noncomputable def OpT (K : PySem.W.Frag) (r : R2) (g : G2) : Prop := ∀ W x y a b H Q, (∀ b, W b -> Lt H b) -> Rp K W H x a -> Rp K W H y b ->
 (g a b).post (λ_ => False) (λp => ∀ v H', Same H H' -> VOk K W [] H H' v (.v p.1 p.2) -> Q v H') -> r x y H Q
noncomputable def eOp (g : G2) (fa fb : EF) : EF := λρ => (fa ρ).bind λp => (fb p.2).bind λq => (dr q.2 p.1).bind λa => (dr q.2 q.1).bind λb => (g a b).bind λz => .ok (.v z.1 z.2, q.2)
theorem aho {α : Type} {r : Rs α} {EX : Str -> Prop} {P : α -> Prop} (h : r.post EX P) (n : ∀ c, r ≠ .ex c) : r.post (λ_ => False) P := by
 cases r with
 | bad => exact h
 | ex c => exact (n c rfl).elim
 | ok a => exact h
theorem abL (ρ : En) (r : Rv) (c : Str) : dr ρ r ≠ .ex c := by
 cases r with
 | v T fr => intro z; cases z
 | s i =>
  dsimp only [dr]
  split <;> (intro z; cases z)
theorem adN {r : R2} {g : G2} {ta tb : TE} {fa fb : EF} (o : OpT t.K r g) (ng : ∀ a b c, g a b ≠ .ex c) (ha : SE t ta fa) (hb : SE t tb fb) : SE t (tOp r ta tb) (eOp g fa fb) := λW ρ σ H Q e h => by
 refine ha W ρ σ H _ e (Rs.aag (Rs.aac h) λp h x H1 e1 s1 v1 => ?_)
 refine hb W p.2 σ H1 _ e1 (Rs.aag (Rs.aac h) λq h y H2 e2 s2 v2 => ?_)
 have h := Rs.aac h
 cases k1 : dr q.2 p.1 with
 | bad => rw [k1] at h; exact h.elim
 | ex c => exact (abL _ _ _ k1).elim
 | ok a =>
  rw [k1] at h
  have h : ((dr q.2 q.1).bind _).post _ _ := h
  have h := Rs.aac h
  cases k2 : dr q.2 q.1 with
  | bad => rw [k2] at h; exact h.elim
  | ex c => exact (abL _ _ _ k2).elim
  | ok b =>
   rw [k2] at h
   have h : ((g a b).bind _).post _ _ := h
   have r1 := adw e2 e.wn (v1.1.step e.wn s2) k1
   have r2 := adw e2 e1.wn v2.1 k2
   refine o W x y a b H2 Q e2.wl r1 r2 (Rs.aag (aho (Rs.aac h) (ng a b)) λz h v H3 s3 v3 => ?_)
   have st : Stp W H H3 := (s1.trans s2).trans (Stp.of s3)
   exact h v H3 (e2.grow s3) st ((VOE.of e2 s3 v3).back λb q => (s1.trans s2).dom b q)
inductive Atm : V -> Tr -> Prop
 | non : Atm .non .non
 | bl (b : Bool) : Atm (.bl b) (.bl b)
 | int (b : Int) : Atm (.int b) (.int b)
 | str (b : Str) : Atm (.str b) (.str b)
theorem Atm.rep {K : PySem.W.Frag} {H : Hp} {v : V} {T : Tr} (h : Atm v T) : Rep K H v T := by
 cases h <;> constructor
end
end L2
end
section
namespace L2
open PySem PySem.Spec PyProof.Rows
section
variable {X : Cx}
noncomputable def ar5 (K : PySem.W.Frag) : R2 := λx y H Q => ∃ t u, Rep K H x t /\ Rep K H y u /\ dep t <= 40 /\ dep u <= 40 /\ Q (.bl (!eqT t u)) H
theorem amZ (hu : X.A.units + 64 < cLine) : OpR X (compareOp .NotEq) (ar5 X.K) := by
 intro pins s σ H x y v u Q I vx vy h
 obtain ⟨t, t', rx, ry, hd, du, q⟩ := h
 have hu0 : X.A.units < cLine := by omega
 have hu1 : X.A.in1.units + 40 < cLine := by
  have := in1_units X.A
  omega
 have fin : SeqAt.RcNeAt X.A s v u (!eqT t t') -> wpAny (model X.prog X.w) X.A (compareOp .NotEq v u) (EP X pins σ Q) X.xe s := λh => h _ _ _ _ ⟨.bl _, H, I, rfl, q⟩
 have items : ∀ {xs ys : List V} {ts us : List Tr} {its its2 : List Value}, Vals xs its -> Vals ys its2 -> aaK X.K H xs ts -> aaK X.K H ys us -> deps ts <= 40 -> deps us <= 40 -> ∀ j (h1 : j < its.toArray.size) (h2 : j < its2.toArray.size), SeqAt.EqAt X.A.in1 s its.toArray[j] its2.toArray[j] (atE ts us j) := by
  intro xs ys ts us its its2 r1 r2 q1 q2 hde hu9 j h1 h2
  obtain ⟨a, ea, ra⟩ := aeN r1 h1
  obtain ⟨b, eb, rb⟩ := aeN r2 h2
  obtain ⟨ta, eta, qa⟩ := q1.get ea
  obtain ⟨tb, etb, qb⟩ := q2.get eb
  rw [aix eta etb]
  exact (ahu I 40 X.A.in1 ta tb a b _ _ hu1 (Nat.le_trans (ac6 eta) hde) (by have := ac6 eta; omega) (by have := ac6 etb; omega) qa qb ra rb).2
 cases rx with
 | exn h m n => unfold dep at hd; omega
 | non =>
  cases vx
  cases ry with
  | non => cases vy; unfold eqT at fin; exact fin .none_none
  | bl b2 => cases vy; unfold eqT at fin; exact fin (.none_bool _)
  | int i2 => obtain ⟨_, rfl⟩ := vy; unfold eqT at fin; exact fin (.none_int _ _)
  | str z2 => obtain ⟨_, rfl⟩ := vy; unfold eqT at fin; exact fin (.none_str _ _)
  | tup h r => cases vy; obtain ⟨_, _, p, _⟩ := I.tuple h; unfold eqT at fin; exact fin (.none_tuple p hu0)
  | lst h r => cases vy; obtain ⟨_, _, p, _⟩ := I.list h; unfold eqT at fin; exact fin (.none_list p.isList hu0)
  | exn h m n => unfold dep at du; omega
 | bl b =>
  cases vx
  cases ry with
  | non => cases vy; unfold eqT at fin; exact fin (.bool_none _)
  | bl b2 => cases vy; unfold eqT at fin; exact fin (.bool_bool _ _)
  | int i2 => obtain ⟨_, rfl⟩ := vy; unfold eqT at fin; exact fin (.bool_int _ _ _)
  | str z2 => obtain ⟨_, rfl⟩ := vy; unfold eqT at fin; exact fin (.bool_str _ _ _)
  | tup h r => cases vy; obtain ⟨_, _, p, _⟩ := I.tuple h; unfold eqT at fin; exact fin (.bool_tuple _ p hu0)
  | lst h r => cases vy; obtain ⟨_, _, p, _⟩ := I.list h; unfold eqT at fin; exact fin (.bool_list _ p.isList hu0)
  | exn h m n => unfold dep at du; omega
 | int i =>
  obtain ⟨_, rfl⟩ := vx
  cases ry with
  | non => cases vy; unfold eqT at fin; exact fin (.int_none _ _)
  | bl b2 => cases vy; unfold eqT at fin; exact fin (.int_bool _ _ _)
  | int i2 => obtain ⟨_, rfl⟩ := vy; unfold eqT at fin; exact fin (.int_int _ _ _ _)
  | str z2 => obtain ⟨_, rfl⟩ := vy; unfold eqT at fin; exact fin (.int_str _ _ _ _)
  | tup h r => cases vy; obtain ⟨_, _, p, _⟩ := I.tuple h; unfold eqT at fin; exact fin (.int_tuple _ _ p hu0)
  | lst h r => cases vy; obtain ⟨_, _, p, _⟩ := I.list h; unfold eqT at fin; exact fin (.int_list _ _ p.isList hu0)
  | exn h m n => unfold dep at du; omega
 | str z =>
  obtain ⟨_, rfl⟩ := vx
  cases ry with
  | non => cases vy; unfold eqT at fin; exact fin (.str_none _ _)
  | bl b2 => cases vy; unfold eqT at fin; exact fin (.str_bool _ _ _)
  | int i2 => obtain ⟨_, rfl⟩ := vy; unfold eqT at fin; exact fin (.str_int _ _ _ _)
  | str z2 => obtain ⟨_, rfl⟩ := vy; unfold eqT at fin; exact fin (.str_str _ _ _ _)
  | tup h r => cases vy; obtain ⟨_, _, p, _⟩ := I.tuple h; unfold eqT at fin; exact fin (.str_tuple _ _ p hu0)
  | lst h r => cases vy; obtain ⟨_, _, p, _⟩ := I.list h; unfold eqT at fin; exact fin (.str_list _ _ p.isList hu0)
  | exn h m n => unfold dep at du; omega
 | @tup a1 xs1 ts h1 r1 =>
  cases vx
  obtain ⟨its, rv, p, _⟩ := I.tuple h1
  have hd' : deps ts <= 40 := by unfold dep at hd; omega
  cases ry with
  | non => cases vy; unfold eqT at fin; exact fin (.tuple_none p hu0)
  | bl b2 => cases vy; unfold eqT at fin; exact fin (.tuple_bool _ p hu0)
  | int i2 => obtain ⟨_, rfl⟩ := vy; unfold eqT at fin; exact fin (.tuple_int _ _ p hu0)
  | str z2 => obtain ⟨_, rfl⟩ := vy; unfold eqT at fin; exact fin (.tuple_str _ _ p hu0)
  | lst h r => cases vy; obtain ⟨_, _, p2, _⟩ := I.list h; unfold eqT at fin; exact fin (.tuple_list p p2.isList hu0)
  | exn h m n => unfold dep at du; omega
  | @tup a2 xs2 us h2 r2 =>
   cases vy
   obtain ⟨its2, rv2, p2, _⟩ := I.tuple h2
   have R := SeqAt.RcNeAt.tuples (A := X.A) (e := atE ts us) p p2 (by omega) λj k1 k2 => items rv rv2 r1 r2 hd' (by unfold dep at du; omega) j k1 k2
   have el : its.toArray.size = ts.length := by simpa using (rv.length.symm.trans r1.length)
   have el2 : its2.toArray.size = us.length := by simpa using (rv2.length.symm.trans r2.length)
   rw [el, el2] at R
   have eb : ((List.range (min ts.length us.length)).all (atE ts us) && ts.length == us.length) = eqT (.tup ts) (.tup us) := by
    unfold eqT
    by_cases e : ts.length = us.length
    ·rw [e, Nat.min_self, <-e, ae1 e, beq_self_eq_true, Bool.and_true]
    ·rw [beq_false_of_ne e, Bool.and_false, adM e]
   rw [eb] at R
   exact fin R
 | @lst a1 xs1 ts h1 r1 =>
  cases vx
  obtain ⟨its, rv, p, _⟩ := I.list h1
  have hd' : deps ts <= 40 := by unfold dep at hd; omega
  cases ry with
  | non => cases vy; unfold eqT at fin; exact fin (.list_none p.isList hu0)
  | bl b2 => cases vy; unfold eqT at fin; exact fin (.list_bool _ p.isList hu0)
  | int i2 => obtain ⟨_, rfl⟩ := vy; unfold eqT at fin; exact fin (.list_int _ _ p.isList hu0)
  | str z2 => obtain ⟨_, rfl⟩ := vy; unfold eqT at fin; exact fin (.list_str _ _ p.isList hu0)
  | exn h m n => unfold dep at du; omega
  | tup h r => cases vy; obtain ⟨_, _, p2, _⟩ := I.tuple h; unfold eqT at fin; exact fin (.list_tuple p.isList p2 hu0)
  | @lst a2 xs2 us h2 r2 =>
   cases vy
   obtain ⟨its2, rv2, p2, _⟩ := I.list h2
   have el : its.toArray.size = ts.length := by simpa using (rv.length.symm.trans r1.length)
   have el2 : its2.toArray.size = us.length := by simpa using (rv2.length.symm.trans r2.length)
   by_cases e : ts.length = us.length
   ·have R := SeqAt.RcNeAt.lists (A := X.A) (e := atE ts us) p.isList p2.isList (by omega) (by omega) λj k1 k2 => items rv rv2 r1 r2 hd' (by unfold dep at du; omega) j k1 k2
    rw [el] at R
    rw [ae1 e] at R
    unfold eqT at fin
    exact fin R
   ·have R := SeqAt.RcNeAt.lists_lengths (A := X.A) p.isList p2.isList (by rw [el, el2]; simpa using e) (by omega)
    unfold eqT at fin
    rw [adM e] at fin
    exact fin R
end
open Classical in
noncomputable def noL (o : Obj) : Obj := if o.cls = .type "list" ∧ ¬ (∃ its n, o = { cls := .type "list", data := .seq its n }) then { cls := .none, data := .fields #[] } else o
noncomputable def nlK (K : PySem.W.Frag) : PySem.W.Frag := K.map λp => (p.1, noL p.2)
theorem abt : ∀ (K : PySem.W.Frag) (a : Addr), (nlK K).lookup a = (K.lookup a).map noL
 | [], a => rfl
 | (c, q) :: r, a => by
  show ((c, noL q) :: nlK r).lookup a = _
  rw [List.lookup_cons, List.lookup_cons]
  cases a == c with
  | true => rfl
  | false => exact abt r a
theorem anL {K : PySem.W.Frag} {a : Addr} {o : Obj} (h : (nlK K).lookup a = some o) (c : o.cls = .type "tuple") : K.lookup a = some o := by
 rw [abt] at h
 cases e : K.lookup a with
 | none => rw [e] at h; cases h
 | some q =>
  rw [e] at h
  have h : noL q = o := Option.some.inj h
  unfold noL at h
  split at h
  ·subst h; cases c
  ·rw [h]
theorem anM {K : PySem.W.Frag} {a : Addr} {o : Obj} (h : (nlK K).lookup a = some o) (c : o.cls = .type "list") : K.lookup a = some o ∧ ∃ its n, o = { cls := .type "list", data := .seq its n } := by
 rw [abt] at h
 cases e : K.lookup a with
 | none => rw [e] at h; cases h
 | some q =>
  rw [e] at h
  have h : noL q = o := Option.some.inj h
  unfold noL at h
  split at h
  ·subst h; cases c
  ·rename_i n
   subst h
   refine ⟨rfl, ?_⟩
   by_cases z : ∃ its n, q = { cls := .type "list", data := .seq its n }
   ·exact z
   ·exact (n ⟨c, z⟩).elim
theorem SqT.toK {K : PySem.W.Frag} {H : Hp} {a : Addr} {xs : List V} (h : SqT (nlK K) H a xs) : SqT K H a xs := by
 rcases h with h | ⟨o, its, n, e, c, r⟩
 ·exact .inl h
 ·exact .inr ⟨o, its, n, anL e c, c, r⟩
noncomputable def SqX (K : PySem.W.Frag) (H : Hp) (a : Addr) (xs : List V) : Prop := Rd H a (.lst xs) \/ ∃ (its : Array Value) (n : Nat), K.lookup a = some { cls := .type "list", data := .seq its n } /\ its.size <= sizeLine /\ Vals xs its.toList
theorem SqL.rdX {K : PySem.W.Frag} {H : Hp} {a : Addr} {xs : List V} (h : SqL (nlK K) H a xs) : SqX K H a xs := by
 rcases h with h | ⟨o, its, n, e, c, _, d, r⟩
 ·exact .inl h
 ·obtain ⟨e2, its', n', rfl⟩ := anM e c
  have d : Data.seq its' n' = .seq its n := d
  injection d with d1 d2
  subst d1 d2
  exact .inr ⟨its', n', e2, r⟩
theorem SqX.toK {K : PySem.W.Frag} {H : Hp} {a : Addr} {xs : List V} (h : SqX K H a xs) : SqL K H a xs := by
 rcases h with h | ⟨its, n, e, r⟩
 ·exact .inl h
 ·exact .inr ⟨_, its, n, e, rfl, rfl, rfl, r⟩
theorem SqX.toN {K : PySem.W.Frag} {H : Hp} {a : Addr} {xs : List V} (h : SqX K H a xs) : SqL (nlK K) H a xs := by
 rcases h with h | ⟨its, n, e, r⟩
 ·exact .inl h
 ·refine .inr ⟨{ cls := .type "list", data := .seq its n }, its, n, ?_, rfl, rfl, rfl, r⟩
  rw [abt, e]
  show some (noL _) = _
  unfold noL
  rw [if_neg λz => z.2 ⟨its, n, rfl⟩]
theorem SqL.toK {K : PySem.W.Frag} {H : Hp} {a : Addr} {xs : List V} (h : SqL (nlK K) H a xs) : SqL K H a xs := h.rdX.toK
theorem alP {K : PySem.W.Frag} {N : Addr} {c : Str} {v : Value} (h : PySem.W.nsIn (nlK K) N c = some (some v)) : PySem.W.nsIn K N c = some (some v) := by
 unfold PySem.W.nsIn at h ⊢
 rw [abt] at h
 cases e : K.lookup N with
 | none => rw [e] at h; cases h
 | some q =>
  rw [e] at h
  by_cases z : q.cls = .type "list" ∧ ¬ (∃ its n, q = { cls := .type "list", data := .seq its n })
  ·have : noL q = { cls := .none, data := .fields #[] } := by unfold noL; rw [if_pos z]
   rw [show (some q).map noL = some (noL q) from rfl, this] at h
   cases h
  ·have : noL q = q := by unfold noL; rw [if_neg z]
   rw [show (some q).map noL = some (noL q) from rfl, this] at h
   exact h
theorem anN {K : PySem.W.Frag} {N : Addr} {c : Str} {v : Value} (m : ∀ o, K.lookup N = some o -> o.cls ≠ .type "list") (h : PySem.W.nsIn K N c = some (some v)) : PySem.W.nsIn (nlK K) N c = some (some v) := by
 unfold PySem.W.nsIn at h ⊢
 rw [abt]
 cases e : K.lookup N with
 | none => rw [e] at h; cases h
 | some q =>
  rw [e] at h
  have : noL q = q := by unfold noL; rw [if_neg λz => m q e z.1]
  rw [show (some q).map noL = some (noL q) from rfl, this]
  exact h
mutual
theorem Rep.toK {K : PySem.W.Frag} {H : Hp} : ∀ {v : V} {t : Tr}, Rep (nlK K) H v t -> Rep K H v t
 | _, _, .non => .non
 | _, _, .bl b => .bl b
 | _, _, .int i => .int i
 | _, _, .str x => .str x
 | _, _, .tup h r => .tup h.toK (aaK.toK r)
 | _, _, .lst h r => .lst h.toK (aaK.toK r)
 | _, _, .exn h m n => .exn h m (alP n)
theorem aaK.toK {K : PySem.W.Frag} {H : Hp} : ∀ {v : List V} {t : List Tr}, aaK (nlK K) H v t -> aaK K H v t
 | _, _, .nil => .nil
 | _, _, .cons h r => .cons (Rep.toK h) (aaK.toK r)
end
section
variable {X : Cx}
theorem Inv.rdL {pins : List (Addr × Obj)} {σ : St} {H : Hp} {s : Shared} {l : Addr} {xs : List V} (I : Inv X pins σ H s) (hH : SqX X.K H l xs) : xs.length <= sizeLine /\ ∃ (its : List Value) (n : Nat), Vals xs its /\ xs.length = its.length /\ s.heap.get? l = some { cls := .type "list", data := .seq its.toArray n } := by
 rcases hH with hH | ⟨its, n, e, z, r⟩
 ·obtain ⟨z, its, n, r, e⟩ := hH.ok I.hok
  exact ⟨z, its, n, r, r.length, e⟩
 ·have l' : xs.length = its.size := r.length.trans Array.length_toList
  exact ⟨by rw [l']; exact z, its.toList, n, r, r.length, I.kIn _ _ e⟩
noncomputable def apQ (K : PySem.W.Frag) : R2 := λx y H Q => ∃ l b xs zs, x = .ref l /\ y = .ref b /\ SqX K H l xs /\ SqX K H b zs /\ xs.length + zs.length <= sizeLine /\ ∀ p, H p = none -> Q (.ref p) (upd H p (.lst (xs ++ zs)))
theorem anO : OpR X (binaryOp .Add) (apQ X.K) := by
 intro pins s σ H x y v u Q I rx ry h
 obtain ⟨l, b, xs, zs, rfl, rfl, hH, hB, hz, q⟩ := h
 cases rx
 cases ry
 obtain ⟨z, its, n, r, hl, e⟩ := I.rdL hH
 obtain ⟨z2, its2, n2, r2, hl2, e2⟩ := I.rdL hB
 refine PySem.P.add_list e e2 ?_ (by rw [List.size_toArray, List.size_toArray]; omega)
 have ea : its.toArray ++ its2.toArray = (its ++ its2).toArray := by simp
 rw [ea]
 exact ⟨.ref _, _, I.arE (t' := s.toks) (r.append r2) (by rw [List.length_append]; omega), rfl, q _ I.fresh⟩
end
end L2
end
section
namespace L2
open PySem PySem.Spec PyProof.Rows
noncomputable def apR (K : PySem.W.Frag) : R2 := λx y H Q => ∃ l k xs, x = .ref l /\ y = .int k /\ SqX K H l xs /\ -(2 ^ 63) <= k /\ k < 2 ^ 63 /\ xs.length * k.toNat <= sizeLine /\ ∀ p, H p = none -> Q (.ref p) (upd H p (.lst (List.replicate k.toNat xs).flatten))
theorem anP {X : Cx} : OpR X (binaryOp .Mult) (apR X.K) := by
 intro pins s σ H x y v u Q I rx ry h
 obtain ⟨l, k, xs, rfl, rfl, hH, h1, h2, hz, q⟩ := h
 cases rx
 obtain ⟨t, rfl⟩ := ry
 obtain ⟨z, its, n, r, hl, e⟩ := I.rdL hH
 have hlen : its.toArray.size * k.toNat <= sizeLine := by rw [List.size_toArray, <-hl]; exact hz
 have hcap : ¬ its.toArray.size * k.toNat > (2 ^ 63 - 1) / 8 := by
  have : (sizeLine : Nat) <= (2 ^ 63 - 1) / 8 := by decide
  omega
 have hfit : ¬ (!Builtin.List.listFitsIndex k) = true := by
  rw [fitsIndex_both h1 h2]
  exact Bool.false_ne_true
 have ar6 : ¬ Builtin.List.listTooLong (its.toArray.size * k.toNat) = true := by
  rw [alF hlen]
  exact Bool.false_ne_true
 have hnew : List.foldl (λx1 x2 => x1 ++ x2) #[] (List.replicate (if its.toArray.isEmpty = true then 0 else k.toNat) its.toArray) = (List.replicate k.toNat its).flatten.toArray := by
  have f0 : ∀ m : Nat, List.foldl (λx1 x2 => x1 ++ x2) #[] (List.replicate m its.toArray) = (List.replicate m its).flatten.toArray := λm => by
   have := foldl_rep its m []
   rw [List.nil_append] at this
   exact this
  rw [f0]
  cases its with
  | nil => simp
  | cons a r' => rw [if_neg (by simp)]
 refine wpAny_binaryOp_repeat_ref (T := "list") (U := "int") (by decide) ⟨_, e, rfl⟩ (λs' => typeIs_int s' k t) noFill_list_mul F.fills_int_mul F.slot_int_rmul repeat_list F.slot_int_index.lookup
  (call_meets F.slot_int_rmul (typeIs_int s k t) F.entry_int_rmul (F.args_int_rmul_2 _ _) (int___rmul___int_list k t l its.toArray n)
   ⟨e, rfl, ⟨_, e, rfl⟩, call_meets F.slot_list_mul ⟨_, e, rfl⟩ F.entry_list_mul (F.args_list_mul_2 _ _) (AutoListH.list___mul___list_int_3 l its.toArray n k t hfit hcap ar6) ⟨e, ?_⟩⟩)
 rw [hnew]
 exact ⟨.ref _, _, I.arE (t' := s.toks) (r.rep k.toNat) (by rw [len_rep, Nat.mul_comm]; exact hz), rfl, q _ I.fresh⟩
end L2
end
section
namespace L2
open PySem PySem.Spec PyProof.Rows
section
variable {K : PySem.W.Frag} {W : Addr -> Prop} {σ : St} {H : Hp} {p : Addr} {xs : List V} {ts : List Tr}
theorem aiD {o : HO} (hp : H p = none) : Same (aaQ W H) (off p (aaQ W (upd H p o))) := λb u q => by
 obtain ⟨n, e⟩ := aa4 q
 have ne : b ≠ p := abh e hp
 rw [off_ne ne, aaB n, aaC ne]
 exact e
theorem VOk.new (hp : H p = none) (r : aaK K (aaQ W H) xs ts) : VOk K W σ H (upd H p (.lst xs)) (.ref p) (.v (.lst ts) true) :=
 ⟨p, xs, ts, rfl, rfl, hp, aa8, r.mono (aiD hp)⟩
theorem VOk.newT (hw : ∀ b, W b -> Lt H b) (hp : H p = none) (r : aaK K (aaQ W H) xs ts) : VOk K W σ H (upd H p (.tup xs)) (.ref p) (.v (.tup ts) false) := by
 have nw : ¬ W p := λw => by
  exact (hw p w).ne hp
 refine .tup (SqT.of ?_) (r.mono λb u q => (ado (aiD (o := .tup xs) hp b u q)).2)
 rw [aaB nw]
 exact aa8
theorem VOk.atm {H' : Hp} {v : V} {T : Tr} (h : Atm v T) : VOk K W σ H H' v (.v T false) := h.rep
theorem aaK.apS {H : Hp} : ∀ {v : List V} {t : List Tr} {i : Nat} {u : Tr}, aaK K H v t -> t[i]? = some u -> ∃ x, v[i]? = some x /\ Rep K H x u
 | _, _, _, _, .nil, e => by simp at e
 | _, _, 0, _, .cons h _, e => by
  simp at e
  subst e
  exact ⟨_, rfl, h⟩
 | _, _, i + 1, x, .cons _ r, e => by
  obtain ⟨u, h1, h2⟩ := aaK.apS (i := i) (u := x) r (by simpa using e)
  exact ⟨u, by simpa using h1, h2⟩
theorem aaK.atI (r : aaK K H xs ts) {i : Int} {t : Tr} (h : atI ts i = some t) : ∃ x, L2.atI xs i = some x /\ Rep K H x t := by
 unfold L2.atI at h ⊢
 rw [r.length]
 cases e : ixN ts.length i with
 | none => rw [e] at h; cases h
 | some j =>
  rw [e] at h
  exact r.apS h
theorem Rp.auq {v : V} (h : Rp K W H v (.tup ts)) : Rep K (aaQ W H) v (.tup ts) := by
 rcases h with h | ⟨a, xs, us, rfl, e0, e, r⟩
 ·exact h
 ·cases e0
theorem big {n : Nat} (h : n <= 100000) : n <= sizeLine := Nat.le_trans h (by decide)
end
section
variable {K : PySem.W.Frag}
noncomputable def gI (p : Int -> Int -> Int) : G2
 | .int i, .int j => .ok (.int (p i j), false)
 | _, _ => .bad
theorem au1 {p : Int -> Int -> Int} : OpT K (rI0 λi j => .int (p i j)) (gI p) := λW x y a b H Q hw rx ry h => by
 cases a <;> try exact h.elim
 cases b <;> try exact h.elim
 rw [rx.int, ry.int]
 exact ⟨_, _, rfl, rfl, h _ H (Same.refl _) (.atm (.int _))⟩
noncomputable def gIC (c : Int -> Int -> Bool) (p : Int -> Int -> Int) : G2
 | .int i, .int j => if c i j = true then .ok (.int (p i j), false) else .bad
 | _, _ => .bad
theorem anQ {C : Int -> Int -> Prop} {c : Int -> Int -> Bool} {p : Int -> Int -> Int} (hc : ∀ i j, c i j = true -> C i j) : OpT K (rI C λi j => .int (p i j)) (gIC c p) := λW x y a b H Q hw rx ry h => by
 cases a <;> try exact h.elim
 cases b <;> try exact h.elim
 rw [rx.int, ry.int]
 dsimp only [gIC] at h
 split at h
 ·rename_i e
  exact ⟨_, _, rfl, rfl, hc _ _ e, h _ H (Same.refl _) (.atm (.int _))⟩
 ·exact h.elim
noncomputable def gB (p : Int -> Int -> Bool) : G2
 | .int i, .int j => .ok (.bl (p i j), false)
 | _, _ => .bad
theorem ar7 {p : Int -> Int -> Bool} : OpT K (rI0 λi j => .bl (p i j)) (gB p) := λW x y a b H Q hw rx ry h => by
 cases a <;> try exact h.elim
 cases b <;> try exact h.elim
 rw [rx.int, ry.int]
 exact ⟨_, _, rfl, rfl, h _ H (Same.refl _) (.atm (.bl _))⟩
noncomputable def gEq : G2 := λt u => if dep t <= 40 /\ dep u <= 40 then .ok (.bl (eqT t u), false) else .bad
theorem ar8 : OpT (nlK K) (arZ K) gEq := λW x y a b H Q hw rx ry h => by
 unfold gEq at h
 split at h
 ·rename_i e
  exact ⟨a, b, rx.rep.toK, ry.rep.toK, e.1, e.2, h _ H (Same.refl _) (.atm (.bl _))⟩
 ·exact h.elim
noncomputable def gNe : G2 := λt u => if dep t <= 40 /\ dep u <= 40 then .ok (.bl (!eqT t u), false) else .bad
theorem ar9 : OpT (nlK K) (ar5 K) gNe := λW x y a b H Q hw rx ry h => by
 unfold gNe at h
 split at h
 ·rename_i e
  exact ⟨a, b, rx.rep.toK, ry.rep.toK, e.1, e.2, h _ H (Same.refl _) (.atm (.bl _))⟩
 ·exact h.elim
noncomputable def gIn (f : Bool -> Bool) : G2 := λt u => match u with
 | .lst us => if deps us <= 40 /\ dep t <= 40 then .ok (.bl (f (aoX t us)), false) else .bad
 | .tup us => if deps us <= 40 /\ dep t <= 40 then .ok (.bl (f (aoX t us)), false) else .bad
 | _ => .bad
theorem alQ : OpT (nlK K) (ahw K) (gIn not) := λW x y a b H Q hw rx ry h => by
 cases b <;> try exact h.elim
 ·rename_i us
  dsimp only [gIn] at h
  split at h
  ·rename_i e
   obtain ⟨p, xs, rfl, q, r⟩ := ry.tup
   exact ⟨a, us, p, xs, rx.rep.toK, rfl, .inr q.toK, (r.mono (abr _ _)).toK, e.1, e.2, h _ H (Same.refl _) (.atm (.bl _))⟩
  ·exact h.elim
 ·rename_i us
  dsimp only [gIn] at h
  split at h
  ·rename_i e
   obtain ⟨p, xs, rfl, q, r⟩ := ry.lst
   exact ⟨a, us, p, xs, rx.rep.toK, rfl, .inl q.toK, (r.mono (abr _ _)).toK, e.1, e.2, h _ H (Same.refl _) (.atm (.bl _))⟩
  ·exact h.elim
noncomputable def isN : Tr -> Bool
 | .non => true
 | _ => false
noncomputable def gIs (f : Bool -> Bool) : G2 := λt u => match u with
 | .non => .ok (.bl (f (isN t)), false)
 | _ => .bad
theorem apT {H : Hp} {x : V} {t : Tr} (h : Rep K H x t) : decide (x = .non) = isN t := by
 cases h <;> rfl
theorem anR : OpT K (λx y H Q => y = .non /\ Q (.bl (!decide (x = .non))) H) (gIs not) := λW x y a b H Q hw rx ry h => by
 cases b <;> try exact h.elim
 rw [ry.non, apT rx.rep]
 exact ⟨rfl, h _ H (Same.refl _) (.atm (.bl _))⟩
noncomputable def anS (K : PySem.W.Frag) : R2 := λx y H Q => (rI0 λi j => .int (i + j)) x y H Q \/ apQ K x y H Q \/ (∃ i j, x = .str i /\ y = .str j /\ i.length + j.length <= sizeLine /\ Q (.str (i ++ j)) H) \/ apA K x y H Q
theorem aaR {X : Cx} : OpR X (binaryOp .Add) (anS X.K) := OpR.or amT (OpR.or anO (OpR.or ai4 anB))
noncomputable def aaV : G2
 | .int i, .int j => .ok (.int (i + j), false)
 | .lst a, .lst b => if a.length + b.length <= 100000 then .ok (.lst (a ++ b), true) else .bad
 | .str a, .str b => if a.length + b.length <= 100000 then .ok (.str (a ++ b), false) else .bad
 | .tup a, .tup b => if 0 < a.length /\ a.length + b.length <= 100000 then .ok (.tup (a ++ b), false) else .bad
 | _, _ => .bad
theorem apU : OpT (nlK K) (anS K) aaV := λW x y a b H Q hw rx ry h => by
 cases a <;> cases b <;> try exact h.elim
 ·rw [rx.int, ry.int]
  exact .inl ⟨_, _, rfl, rfl, h _ H (Same.refl _) (.atm (.int _))⟩
 ·rename_i i j
  rw [rx.str, ry.str]
  dsimp only [aaV] at h
  split at h
  ·rename_i e
   exact .inr (.inr (.inl ⟨i, j, rfl, rfl, big e, h _ H (Same.refl _) (.atm (.str _))⟩))
  ·exact h.elim
 ·rename_i us ws
  dsimp only [aaV] at h
  split at h
  ·rename_i e
   have rt := rx.auq
   obtain ⟨p, xs, rfl, q, r⟩ := rx.tup
   obtain ⟨p', ys, rfl, q', r'⟩ := ry.tup
   have l1 := r.length
   have l2 := r'.length
   refine .inr (.inr (.inr ⟨p, p', xs, ys, rfl, rfl, q.toK, q'.toK, ?_, by rw [l1, l2]; exact big e.2, λz => h _ H (Same.refl _) ?_, λ_ z hz => h _ _ (aaz hz _) (.newT hw hz (r.app r'))⟩))
   ·rintro rfl
    have e1 := e.1
    rw [<-l1] at e1
    cases e1
   ·subst z
    cases r'
    rw [List.append_nil]
    exact rt
  ·exact h.elim
 ·rename_i us ws
  dsimp only [aaV] at h
  split at h
  ·rename_i e
   obtain ⟨p, xs, rfl, q, r⟩ := rx.lst
   obtain ⟨p', ys, rfl, q', r'⟩ := ry.lst
   refine .inr (.inl ⟨p, p', xs, ys, rfl, rfl, q.rdX, q'.rdX, by rw [r.length, r'.length]; exact big e, λz hz => h _ _ (aaz hz _) (.new hz (r.app r'))⟩)
  ·exact h.elim
end
end L2
end
section
namespace L2
open PySem PySem.Spec PyProof.Rows
noncomputable def fit (i : Int) : Bool := decide (i.natAbs.log2 < 1048575)
theorem aiE {i : Int} (h : fit i = true) : Builtin.Int.intBits i <= 2 ^ 20 := by
 have h := of_decide_eq_true h
 unfold Builtin.Int.intBits
 have e : (2 : Nat) ^ 20 = 1048576 := by decide
 split
 ·decide
 ·omega
noncomputable def tiny (i : Int) : Bool := decide (-18446744073709551616 < i) && decide (i < 18446744073709551616)
noncomputable def ahk (i j : Int) : Bool := (fit i && fit j) || tiny i || tiny j
noncomputable def alR (i j : Int) : Prop := ahk i j = true
theorem alR.ok {i j : Int} (h : alR i j) : IntMulOk i j := by
 unfold alR ahk at h
 rw [Bool.or_eq_true, Bool.or_eq_true, Bool.and_eq_true] at h
 have e : (2 : Int) ^ 64 = 18446744073709551616 := by decide
 have tn : ∀ {k : Int}, tiny k = true -> -(2 ^ 64) < k /\ k < 2 ^ 64 := λ{k} h => by
  unfold tiny at h
  rw [Bool.and_eq_true] at h
  have h1 := of_decide_eq_true h.1
  have h2 := of_decide_eq_true h.2
  omega
 rcases h with (⟨h1, h2⟩ | h) | h
 ·exact .of_bits (aiE h1) (aiE h2)
 ·exact .of_left (intBits_le_64 (tn h).1 (tn h).2)
 ·exact .of_right (intBits_le_64 (tn h).1 (tn h).2)
noncomputable def anT (K : PySem.W.Frag) : R2 := λx y H Q => (rI alR λi j => .int (i * j)) x y H Q \/ apR K x y H Q
theorem acJ {X : Cx} : OpR X (binaryOp .Mult) (anT X.K) := OpR.or (opI λ_ _ _ _ _ _ _ hc q => mul_int q hc.ok) anP
noncomputable def abP : G2
 | .int i, .int j => if ahk i j = true then .ok (.int (i * j), false) else .bad
 | .lst a, .int k => if (-1000 <= k /\ k <= 1000) /\ a.length <= 100 then .ok (.lst (List.replicate k.toNat a).flatten, true) else .bad
 | _, _ => .bad
noncomputable def am0 (_ j : Int) : Bool := decide (j ≠ 0) && decide (j.natAbs.log2 < 9000)
noncomputable def alS (i j : Int) : Prop := am0 i j = true
theorem afU {X : Cx} : OpR X (binaryOp .FloorDiv) (rI alS λi j => .int (i.fdiv j)) := opI λi j _ _ _ _ _ hc q => by
 unfold alS am0 at hc
 rw [Bool.and_eq_true] at hc
 exact floordiv_int (of_decide_eq_true hc.1) q (.inl (PyProof.noPylong_of_log2 (of_decide_eq_true hc.2)))
noncomputable def acK : G2 := gIC am0 Int.fdiv
noncomputable def ab5 : G2 := gIC (λ_ j => decide (j ≠ 0)) Int.fmod
noncomputable def apV (i j : Int) : Bool := decide (0 <= j) && decide (j <= 1000) && tiny i
noncomputable def acu : G2 := gIC apV λi j => i ^ j.toNat
noncomputable def ach : G2 := gI λi j => i - j
section
variable {K : PySem.W.Frag}
theorem aaK.rep {H : Hp} {xs : List V} {ts : List Tr} (r : aaK K H xs ts) : ∀ n, aaK K H (List.replicate n xs).flatten (List.replicate n ts).flatten
 | 0 => .nil
 | n + 1 => by
  rw [List.replicate_succ, List.replicate_succ, List.flatten_cons, List.flatten_cons]
  exact r.app (aaK.rep r n)
theorem apW : OpT (nlK K) (anT K) abP := λW x y a b H Q hw rx ry h => by
 cases a <;> cases b <;> try exact h.elim
 ·rw [rx.int, ry.int]
  dsimp only [abP] at h
  split at h
  ·rename_i e
   exact .inl ⟨_, _, rfl, rfl, e, h _ H (Same.refl _) (.atm (.int _))⟩
  ·exact h.elim
 ·rename_i us k
  rw [ry.int]
  dsimp only [abP] at h
  split at h
  ·rename_i e
   obtain ⟨p, xs, rfl, q, r⟩ := rx.lst
   by_cases k0 : 0 <= k
   ·refine .inr ⟨p, k, xs, rfl, rfl, q.rdX, by omega, by omega, ?_, λz hz => h _ _ (aaz hz _) (.new hz (r.rep _))⟩
    rw [r.length]
    refine Nat.le_trans (Nat.mul_le_mul e.2 (show k.toNat <= 1000 by omega)) (by decide)
   ·have e0 : k.toNat = 0 := by omega
    by_cases k1 : -(2 ^ 63) <= k
    ·refine .inr ⟨p, k, xs, rfl, rfl, q.rdX, k1, by omega, ?_, λz hz => h _ _ (aaz hz _) (.new hz (r.rep _))⟩
     rw [e0, Nat.mul_zero]
     exact Nat.zero_le _
    ·omega
  ·exact h.elim
theorem apY : OpT K (rI alS λi j => .int (i.fdiv j)) acK := anQ λ_ _ h => h
theorem apZ : OpT K (rI (λ_ j => j ≠ 0) λi j => .int (i.fmod j)) ab5 := anQ λ_ _ h => of_decide_eq_true h
theorem ap0 : OpT K (rI arW λi j => .int (i ^ j.toNat)) acu := anQ λi j h => by
 unfold apV tiny at h
 rw [Bool.and_eq_true, Bool.and_eq_true, Bool.and_eq_true] at h
 have h1 := of_decide_eq_true h.1.1
 have h2 := of_decide_eq_true h.1.2
 have h3 := of_decide_eq_true h.2.1
 have h4 := of_decide_eq_true h.2.2
 have e : (2 : Nat) ^ 64 = 18446744073709551616 := by decide
 exact ⟨h1, by omega, by omega⟩
theorem ap1 : OpT K (rI0 λi j => .int (i - j)) ach := au1
noncomputable def gGt : G2 := gB λi j => decide (j < i)
noncomputable def gLe : G2 := gB λi j => decide (i <= j)
noncomputable def gGe : G2 := gB λi j => decide (j <= i)
theorem asa : OpT K (rI0 λi j => .bl (decide (j < i))) gGt := ar7
theorem ajb : OpT K (rI0 λi j => .bl (decide (i <= j))) gLe := ar7
theorem asb : OpT K (rI0 λi j => .bl (decide (j <= i))) gGe := ar7
noncomputable def intsOf : List Tr -> Option (List Int)
 | [] => some []
 | .int i :: r => (intsOf r).map (i :: ·)
 | _ :: _ => none
theorem ints_of {H : Hp} : ∀ {ts : List Tr} {ns : List Int} {xs : List V}, intsOf ts = some ns -> aaK K H xs ts -> xs = ns.map V.int
 | [], ns, xs, h, r => by cases h; cases r; rfl
 | .int i :: q, ns, xs, h, r => by
  unfold intsOf at h
  cases e : intsOf q with
  | none => rw [e] at h; cases h
  | some ms =>
   rw [e] at h
   cases h
   cases r with
   | cons h1 r1 =>
    cases h1
    rw [ints_of e r1]
    rfl
 | .non :: q, ns, xs, h, r => by cases h
 | .bl _ :: q, ns, xs, h, r => by cases h
 | .str _ :: q, ns, xs, h, r => by cases h
 | .tup _ :: q, ns, xs, h, r => by cases h
 | .lst _ :: q, ns, xs, h, r => by cases h
noncomputable def asd (K : PySem.W.Frag) : R2 := λx y H Q => (rI0 λi j => .bl (decide (i < j))) x y H Q \/ auh K x y H Q
theorem aiF {X : Cx} (hu : X.A.units + 64 < cLine) : OpR X (compareOp .Lt) (asd X.K) := OpR.or arX (apz (by omega))
noncomputable def gLt : G2
 | .int i, .int j => .ok (.bl (decide (i < j)), false)
 | .tup a, .tup b => match intsOf a, intsOf b with
  | some ns, some ms => .ok (.bl (HT.lexLt ns ms), false)
  | _, _ => .bad
 | _, _ => .bad
theorem ase : OpT (nlK K) (asd K) gLt := λW x y a b H Q hw rx ry h => by
 cases a <;> cases b <;> try exact h.elim
 ·rw [rx.int, ry.int]
  exact .inl ⟨_, _, rfl, rfl, h _ H (Same.refl _) (.atm (.bl _))⟩
 ·rename_i us ws
  dsimp only [gLt] at h
  split at h
  ·rename_i ns ms e1 e2
   obtain ⟨p, xs, rfl, q, r⟩ := rx.tup
   obtain ⟨p', ys, rfl, q', r'⟩ := ry.tup
   have z1 := ints_of e1 r
   have z2 := ints_of e2 r'
   subst z1 z2
   exact .inr ⟨p, p', ns, ms, rfl, rfl, q.toK, q'.toK, h _ H (Same.refl _) (.atm (.bl _))⟩
  ·exact h.elim
noncomputable def gIx : G2
 | .lst ts, .int i => match atI ts i with
  | some t => .ok (t, false)
  | none => .bad
 | .tup ts, .int i => match atI ts i with
  | some t => .ok (t, false)
  | none => .bad
 | .str z, .int i => if z.length <= 100000 then (match atI z.cps.toList i with
  | some c => .ok (.str ⟨#[c]⟩, false)
  | none => .bad) else .bad
 | _, _ => .bad
theorem asf : OpT (nlK K) (rIx K) gIx := λW x y a b H Q hw rx ry h => by
 cases a <;> cases b <;> try exact h.elim
 ·rename_i z i
  rw [rx.str, ry.int]
  dsimp only [gIx] at h
  split at h
  ·rename_i e
   split at h
   ·rename_i c ec
    exact .inr (.inr ⟨z, i, c, rfl, rfl, big e, ec, h _ H (Same.refl _) (.atm (.str _))⟩)
   ·exact h.elim
  ·exact h.elim
 ·rename_i ts i
  rw [ry.int]
  dsimp only [gIx] at h
  split at h
  ·rename_i t et
   obtain ⟨p, xs, rfl, q, r⟩ := rx.tup
   obtain ⟨v, ev, rv⟩ := r.atI et
   exact .inr (.inl ⟨p, xs, i, v, rfl, rfl, q.toK, ev, h _ H (Same.refl _) rv⟩)
  ·exact h.elim
 ·rename_i ts i
  rw [ry.int]
  dsimp only [gIx] at h
  split at h
  ·rename_i t et
   obtain ⟨p, xs, rfl, q, r⟩ := rx.lst
   obtain ⟨v, ev, rv⟩ := r.atI et
   exact .inl ⟨p, xs, i, v, rfl, rfl, q.toK, ev, h _ H (Same.refl _) rv⟩
  ·exact h.elim
end
end L2
end
section
namespace L2
open PySem PySem.Spec PyProof.Rows
section
variable {K : PySem.W.Frag} {W : Addr -> Prop} {σ : St}
theorem ae3.step {H H' H'' : Hp} (hw : ∀ b, W b -> H b ≠ none) (s : Stp W H' H'') : ∀ {vs : List V} {rs : List Rv}, ae3 K W σ H H' vs rs -> ae3 K W σ H H'' vs rs
 | _, _, .nil => .nil
 | _, _, .cons h q => .cons (h.step hw s) (ae3.step hw s q)
theorem ae3.back {G H H' : Hp} (d : ∀ b, H b = none -> G b = none) : ∀ {vs : List V} {rs : List Rv}, ae3 K W σ H H' vs rs -> ae3 K W σ G H' vs rs
 | _, _, .nil => .nil
 | _, _, .cons h q => .cons (h.back d) (ae3.back d q)
inductive Rps (K : PySem.W.Frag) (W : Addr -> Prop) (H : Hp) : List V -> List Tr -> Prop
 | nil : Rps K W H [] []
 | cons {v : V} {t : Tr} {vs : List V} {ts : List Tr} (h : Rp K W H v t) (q : Rps K W H vs ts) : Rps K W H (v :: vs) (t :: ts)
noncomputable def drs (ρ : En) : List Rv -> Rs (List Tr)
 | [] => .ok []
 | r :: rs => (dr ρ r).bind λt => (drs ρ rs).bind λts => .ok (t :: ts)
theorem ad9 (ρ : En) : ∀ (rs : List Rv) (c : Str), drs ρ rs ≠ .ex c
 | [], c => by intro z; cases z
 | r :: rs, c => by
  unfold drs
  cases e : dr ρ r with
  | bad => intro z; cases z
  | ex d => exact (abL _ _ _ e).elim
  | ok t =>
   show (drs ρ rs).bind _ ≠ _
   cases e2 : drs ρ rs with
   | bad => intro z; cases z
   | ex d => exact (ad9 ρ rs d e2).elim
   | ok ts => intro z; cases z
theorem aa2 {α β : Type} {r : Rs α} {f : α -> Rs β} {b : β} (h : r.bind f = .ok b) : ∃ a, r = .ok a /\ f a = .ok b := by
 cases r with
 | bad => cases h
 | ex c => cases h
 | ok a => exact ⟨a, rfl, h⟩
theorem agP {t : Tx} {ρ : En} {H H' : Hp} (e : EOk t W ρ σ H') (hw : ∀ b, W b -> H b ≠ none) : ∀ {vs : List V} {rs : List Rv} {ts : List Tr}, ae3 t.K W σ H H' vs rs -> drs ρ rs = .ok ts -> Rps t.K W H' vs ts
 | _, _, _, .nil, q => by cases q; exact .nil
 | _, _, _, .cons h r, q => by
  unfold drs at q
  obtain ⟨a, q1, q⟩ := aa2 q
  obtain ⟨as, q2, q⟩ := aa2 q
  cases q
  exact .cons (adw e hw h q1) (agP e hw r q2)
noncomputable def cls : List Rv -> Rs (List Tr)
 | [] => .ok []
 | .v t _ :: rs => (cls rs).bind λts => .ok (t :: ts)
 | .s _ :: _ => .bad
theorem aea : ∀ (rs : List Rv) (c : Str), cls rs ≠ .ex c
 | [], c => by intro z; cases z
 | .v t fr :: rs, c => by
  unfold cls
  cases e2 : cls rs with
  | bad => intro z; cases z
  | ex d => exact (aea rs d e2).elim
  | ok ts => intro z; cases z
 | .s i :: rs, c => by intro z; cases z
theorem afy {H H' : Hp} (hw : ∀ b, W b -> H b ≠ none) : ∀ {vs : List V} {rs : List Rv} {ts : List Tr}, ae3 K W σ H H' vs rs -> cls rs = .ok ts -> aaK K (aaQ W H') vs ts
 | _, _, _, .nil, q => by cases q; exact .nil
 | _, .v t fr :: _, _, .cons h r, q => by
  unfold cls at q
  obtain ⟨as, q2, q⟩ := aa2 q
  cases q
  exact .cons (h.rep hw) (afy hw r q2)
 | _, .s i :: _, _, .cons h r, q => by cases q
end
section
variable {t : Tx}
noncomputable def aar : AF := λρ => .ok ([], ρ)
noncomputable def aaf (f : EF) (g : AF) : AF := λρ => (f ρ).bind λp => (g p.2).bind λq => .ok (p.1 :: q.1, q.2)
theorem aak : SA t aj6 aar := λW ρ σ H Q e h => h [] H e (Stp.refl _ _) .nil
theorem aae {te : TE} {ta : TA} {f : EF} {g : AF} (h1 : SE t te f) (h2 : SA t ta g) : SA t (acF te ta) (aaf f g) := λW ρ σ H Q e h => by
 refine h1 W ρ σ H _ e (Rs.aag (Rs.aac h) λp h v H1 e1 s1 v1 => ?_)
 refine h2 W p.2 σ H1 _ e1 (Rs.aag (Rs.aac h) λq h vs H2 e2 s2 v2 => ?_)
 exact h (v :: vs) H2 e2 (s1.trans s2) (.cons (v1.1.step e.wn s2) (ae3.back s1.dom v2))
noncomputable def acY (g : AF) : EF := λρ => (g ρ).bind λp => (cls p.1).bind λts => if ts.length <= 1000 then .ok (.v (.lst ts) true, p.2) else .bad
noncomputable def am1 (g : AF) : EF := λρ => (g ρ).bind λp => (cls p.1).bind λts => if ts.length <= 1000 then .ok (.v (.tup ts) false, p.2) else .bad
theorem abl {α : Type} {r : Rs α} {EX : Str -> Prop} {P : α -> Prop} (h : r.post EX P) (n : ∀ c, r ≠ .ex c) : ∃ a, r = .ok a /\ P a := by
 cases r with
 | bad => exact h.elim
 | ex c => exact (n c rfl).elim
 | ok a => exact ⟨a, rfl, h⟩
theorem abG {ta : TA} {g : AF} (h1 : SA t ta g) : SE t (aue ta) (acY g) := λW ρ σ H Q e h => by
 refine h1 W ρ σ H _ e (Rs.aag (Rs.aac h) λp h vs H1 e1 s1 v1 => ?_)
 obtain ⟨ts, q, h⟩ := abl (Rs.aac h) (aea _)
 have r := afy e.wn v1 q
 split at h
 ·rename_i hl
  refine ⟨by rw [r.length]; exact Nat.le_trans hl (by decide), λz hz => h _ _ (e1.grow (aaz hz _)) (s1.trans (Stp.of (aaz hz _))) ?_⟩
  exact (VOE.of (σ' := σ) e1 (aaz hz _) (VOk.new hz r)).back s1.dom
 ·exact h.elim
theorem aks {ta : TA} {g : AF} (h1 : SA t ta g) : SE t (aud ta) (am1 g) := λW ρ σ H Q e h => by
 refine h1 W ρ σ H _ e (Rs.aag (Rs.aac h) λp h vs H1 e1 s1 v1 => ?_)
 obtain ⟨ts, q, h⟩ := abl (Rs.aac h) (aea _)
 have r := afy e.wn v1 q
 split at h
 ·rename_i hl
  refine ⟨by rw [r.length]; exact Nat.le_trans hl (by decide), λz hz => h _ _ (e1.grow (aaz hz _)) (s1.trans (Stp.of (aaz hz _))) ?_⟩
  exact .low ((VOk.newT (σ := σ) (W := W) e1.wl hz r))
 ·exact h.elim
noncomputable abbrev G1 := Tr -> Rs (Tr × Bool)
noncomputable def UnT (K : PySem.W.Frag) (r : V -> Hp -> VK -> Prop) (g : G1) : Prop := ∀ W x a H Q, (∀ b, W b -> Lt H b) -> Rp K W H x a -> (g a).post (λ_ => False) (λp => ∀ v H', Same H H' -> VOk K W [] H H' v (.v p.1 p.2) -> Q v H') -> r x H Q
noncomputable def eUn (g : G1) (fa : EF) : EF := λρ => (fa ρ).bind λp => (dr p.2 p.1).bind λa => (g a).bind λz => .ok (.v z.1 z.2, p.2)
theorem ash {r : V -> Hp -> VK -> Prop} {g : G1} {ta : TE} {fa : EF} (o : UnT t.K r g) (ng : ∀ a c, g a ≠ .ex c) (ha : SE t ta fa) : SE t (tUn r ta) (eUn g fa) := λW ρ σ H Q e h => by
 refine ha W ρ σ H _ e (Rs.aag (Rs.aac h) λp h x H1 e1 s1 v1 => ?_)
 obtain ⟨a, k1, h⟩ := abl (Rs.aac h) (abL _ _)
 refine o W x a H1 Q e1.wl (adw e1 e.wn v1.1 k1) (Rs.aag (aho (Rs.aac h) (ng a)) λz h v H2 s2 v2 => ?_)
 exact h v H2 (e1.grow s2) (s1.trans (Stp.of s2)) ((VOE.of e1 s2 v2).back s1.dom)
noncomputable def aoZ : G1
 | .int i => .ok (.int (-i), false)
 | _ => .bad
theorem ap2 {K : PySem.W.Frag} : UnT K (rU λi => .int (-i)) aoZ := λW x a H Q hw rx h => by
 cases a <;> try exact h.elim
 rw [rx.int]
 exact ⟨_, rfl, h _ H (Same.refl _) (.atm (.int _))⟩
noncomputable def bOf : Tr -> Rs Bool
 | .bl b => .ok b
 | _ => .bad
theorem ahx (a : Tr) (c : Str) : bOf a ≠ .ex c := by cases a <;> (intro z; cases z)
noncomputable def abn (fa : EF) : BF := λρ => (fa ρ).bind λp => (dr p.2 p.1).bind λa => (bOf a).bind λb => .ok (b, p.2)
theorem ap3 {K : PySem.W.Frag} {W : Addr -> Prop} {H : Hp} {v : V} {a : Tr} {b : Bool} (h : Rp K W H v a) (q : bOf a = .ok b) : v = .bl b := by
 cases a <;> cases q
 exact h.bl
theorem abv {ta : TE} {fa : EF} (ha : SE t ta fa) : ST t (anx ta) (abn fa) := λW ρ σ H Q e h => by
 refine ha W ρ σ H _ e (Rs.aag (Rs.aac h) λp h x H1 e1 s1 v1 => ?_)
 obtain ⟨a, k1, h⟩ := abl (Rs.aac h) (abL _ _)
 obtain ⟨b, k2, h⟩ := abl (Rs.aac h) (ahx _)
 exact ⟨b, ap3 (adw e1 e.wn v1.1 k1) k2, h H1 e1 s1⟩
noncomputable def tru : Tr -> Rs Bool
 | .non => .ok false
 | .bl b => .ok b
 | .int i => .ok (i != 0)
 | .lst ts => .ok (!ts.isEmpty)
 | .tup ts => .ok (!ts.isEmpty)
 | .str x => if x.length <= 100000 then .ok ((x.length : Int) != 0) else .bad
 | .exn _ => .bad
theorem anU (a : Tr) (c : Str) : tru a ≠ .ex c := by
 cases a <;> try (intro z; cases z; done)
 dsimp only [tru]
 split <;> (intro z; cases z)
theorem ae4 {α β : Type} {a : List α} {b : List β} (h : a.length = b.length) : a.isEmpty = b.isEmpty := by
 cases a <;> cases b <;> first | rfl | cases h
theorem ap4 {K : PySem.W.Frag} {W : Addr -> Prop} {H : Hp} {v : V} {a : Tr} {b : Bool} (h : Rp (nlK K) W H v a) (q : tru a = .ok b) : aps K v H b := by
 cases a with
 | non => cases q; rw [h.non]; rfl
 | bl i => cases q; rw [h.bl]; rfl
 | int i => cases q; rw [h.int]; rfl
 | str i =>
  dsimp only [tru] at q
  split at q
  ·rename_i e
   cases q
   rw [h.str]
   exact ⟨big e, rfl⟩
  ·cases q
 | tup ts =>
  cases q
  obtain ⟨p, xs, rfl, q, r⟩ := h.tup
  exact .inr (.inl ⟨xs, q.toK, by rw [ae4 r.length]⟩)
 | lst ts =>
  cases q
  obtain ⟨p, xs, rfl, q, r⟩ := h.lst
  exact .inl ⟨xs, q.toK, by rw [ae4 r.length]⟩
 | exn c => cases q
noncomputable def aes (fa : EF) : BF := λρ => (fa ρ).bind λp => (dr p.2 p.1).bind λa => (tru a).bind λb => .ok (b, p.2)
noncomputable def au2 (K : PySem.W.Frag) (ta : TE) : TT := λσ H Q => ta σ H λx H' => ∃ k, aps K x H' k /\ Q k H'
theorem aci {K : PySem.W.Frag} (hK : t.K = nlK K) {ta : TE} {fa : EF} (ha : SE t ta fa) : ST t (au2 K ta) (aes fa) := λW ρ σ H Q e h => by
 refine ha W ρ σ H _ e (Rs.aag (Rs.aac h) λp h x H1 e1 s1 v1 => ?_)
 obtain ⟨a, k1, h⟩ := abl (Rs.aac h) (abL _ _)
 obtain ⟨b, k2, h⟩ := abl (Rs.aac h) (anU _)
 have r := adw e1 e.wn v1.1 k1
 rw [hK] at r
 exact ⟨b, ap4 r k2, h H1 e1 s1⟩
noncomputable def ao0 (f g : BF) : BF := λρ => (f ρ).bind λp => if p.1 = true then g p.2 else .ok (false, p.2)
noncomputable def bOr (f g : BF) : BF := λρ => (f ρ).bind λp => if p.1 = true then .ok (true, p.2) else g p.2
noncomputable def agQ (f : BF) : BF := λρ => (f ρ).bind λp => .ok (!p.1, p.2)
theorem am2 {ta tb : TT} {f g : BF} (ha : ST t ta f) (hb : ST t tb g) : ST t (atX ta tb) (ao0 f g) := λW ρ σ H Q e h => by
 refine ha W ρ σ H _ e (Rs.aag (Rs.aac h) λp h H1 e1 s1 => ?_)
 split at h
 ·rename_i c
  refine if_pos c ▸ hb W p.2 σ H1 _ e1 (Rs.aag h λq h H2 e2 s2 => h H2 e2 (s1.trans s2))
 ·rename_i c
  exact if_neg c ▸ h H1 e1 s1
theorem akt {ta tb : TT} {f g : BF} (ha : ST t ta f) (hb : ST t tb g) : ST t (tOr ta tb) (bOr f g) := λW ρ σ H Q e h => by
 refine ha W ρ σ H _ e (Rs.aag (Rs.aac h) λp h H1 e1 s1 => ?_)
 split at h
 ·rename_i c
  exact if_pos c ▸ h H1 e1 s1
 ·rename_i c
  refine if_neg c ▸ hb W p.2 σ H1 _ e1 (Rs.aag h λq h H2 e2 s2 => h H2 e2 (s1.trans s2))
theorem acZ {ta : TT} {f : BF} (ha : ST t ta f) : ST t (atY ta) (agQ f) := λW ρ σ H Q e h =>
 ha W ρ σ H _ e (Rs.aag (Rs.aac h) λp h H1 e1 s1 => h H1 e1 s1)
noncomputable def eB (b : Bool) : Rv := .v (.bl b) false
noncomputable def ao1 (f g : EF) : EF := λρ => (abn f ρ).bind λp => if p.1 = true then g p.2 else .ok (eB false, p.2)
noncomputable def eOr (f g : EF) : EF := λρ => (abn f ρ).bind λp => if p.1 = true then .ok (eB true, p.2) else g p.2
noncomputable def asi (f : EF) : EF := λρ => (abn f ρ).bind λp => .ok (eB (!p.1), p.2)
theorem aiG {ta tb : TE} {f g : EF} (ha : SE t ta f) (hb : SE t tb g) : SE t (ape ta tb) (ao1 f g) := λW ρ σ H Q e h => by
 refine abv ha W ρ σ H _ e (Rs.aag (Rs.aac h) λp h H1 e1 s1 => ?_)
 split at h
 ·rename_i c
  refine if_pos c ▸ hb W p.2 σ H1 _ e1 (Rs.aag h λq h v H2 e2 s2 v2 => h v H2 e2 (s1.trans s2) (v2.back s1.dom))
 ·rename_i c
  exact if_neg c ▸ h _ H1 e1 s1 (.low (.bl false))
theorem ap5 {ta : TE} {f : EF} (ha : SE t ta f) : SE t (apf ta) (asi f) := λW ρ σ H Q e h =>
 abv ha W ρ σ H _ e (Rs.aag (Rs.aac h) λp h H1 e1 s1 => h _ H1 e1 s1 (.low (.bl _)))
noncomputable def eIf (c : BF) (f g : EF) : EF := λρ => (c ρ).bind λp => if p.1 = true then f p.2 else g p.2
end
end L2
end
section
namespace L2
open PySem PySem.Spec PyProof.Rows
section
variable {t : Tx}
noncomputable def afz (g g' : G2) (fa fb fc : EF) : EF := λρ => (fa ρ).bind λp => (fb p.2).bind λq => (dr q.2 p.1).bind λa => (dr q.2 q.1).bind λb => (g a b).bind λz => (bOf z.1).bind λk =>
 if k = true then (fc q.2).bind λs => (dr s.2 q.1).bind λb => (dr s.2 s.1).bind λc => (g' b c).bind λz => .ok (.v z.1 z.2, s.2) else .ok (eB false, q.2)
theorem alT {r r' : R2} {g g' : G2} {ta tb tc : TE} {fa fb fc : EF} (o : OpT t.K r g) (o' : OpT t.K r' g') (ng : ∀ a b c, g a b ≠ .ex c) (ng' : ∀ a b c, g' a b ≠ .ex c) (ha : SE t ta fa) (hb : SE t tb fb) (hc : SE t tc fc) : SE t (air r r' ta tb tc) (afz g g' fa fb fc) := λW ρ σ H Q e h => by
 refine ha W ρ σ H _ e (Rs.aag (Rs.aac h) λp h x H1 e1 s1 v1 => ?_)
 refine hb W p.2 σ H1 _ e1 (Rs.aag (Rs.aac h) λq h y H2 e2 s2 v2 => ?_)
 obtain ⟨a, k1, h⟩ := abl (Rs.aac h) (abL _ _)
 obtain ⟨b, k2, h⟩ := abl (Rs.aac h) (abL _ _)
 refine o W x y a b H2 _ e2.wl (adw e2 e.wn (v1.1.step e.wn s2) k1) (adw e2 e1.wn v2.1 k2) (Rs.aag (aho (Rs.aac h) (ng a b)) λz h v H3 s3 v3 => ?_)
 obtain ⟨k, k3, h⟩ := abl (Rs.aac h) (ahx _)
 have e3 := e2.grow s3
 have b3 : v = .bl k := ap3 (.inl (VOk.rep (σ := []) e2.wn v3)) k3
 refine ⟨k, b3, ?_⟩
 split at h
 ·rename_i c
  rw [if_pos c]
  refine hc W q.2 σ H3 _ e3 (Rs.aag (Rs.aac h) λu h w H4 e4 s4 v4 => ?_)
  obtain ⟨b', k4, h⟩ := abl (Rs.aac h) (abL _ _)
  obtain ⟨c', k5, h⟩ := abl (Rs.aac h) (abL _ _)
  refine o' W y w b' c' H4 _ e4.wl (adw e4 e1.wn ((v2.1.step e1.wn (Stp.of s3)).step e1.wn s4) k4) (adw e4 e3.wn v4.1 k5) (Rs.aag (aho (Rs.aac h) (ng' b' c')) λz h v H5 s5 v5 => ?_)
  have st : Stp W H H4 := (s1.trans (s2.trans (Stp.of s3))).trans s4
  exact h v H5 (e4.grow s5) (st.trans (Stp.of s5)) ((VOE.of e4 s5 v5).back st.dom)
 ·rename_i c
  rw [if_neg c]
  exact h _ H3 e3 ((s1.trans s2).trans (Stp.of s3)) (.low (.bl false))
noncomputable abbrev OF := En -> Rs (Option Int × En)
noncomputable def SO (t : Tx) (te : TO) (f : OF) : Prop := ∀ W ρ σ H Q, EOk t W ρ σ H -> (f ρ).post t.EX (λp => ∀ H', EOk t W p.2 σ H' -> Stp W H H' -> Q p.1 H') -> te σ H Q
noncomputable def oNo : OF := λρ => .ok (none, ρ)
theorem afV : SO t akb oNo := λW ρ σ H Q e h => h H e (Stp.refl _ _)
noncomputable def iOf : Tr -> Rs Int
 | .int i => .ok i
 | _ => .bad
theorem aku (a : Tr) (c : Str) : iOf a ≠ .ex c := by cases a <;> (intro z; cases z)
theorem am3 {K : PySem.W.Frag} {W : Addr -> Prop} {H : Hp} {v : V} {a : Tr} {b : Int} (h : Rp K W H v a) (q : iOf a = .ok b) : v = .int b := by
 cases a <;> cases q
 exact h.int
noncomputable def acv (fa : EF) : OF := λρ => (fa ρ).bind λp => (dr p.2 p.1).bind λa => (iOf a).bind λb => .ok (some b, p.2)
theorem acL {ta : TE} {fa : EF} (ha : SE t ta fa) : SO t (apx ta) (acv fa) := λW ρ σ H Q e h => by
 refine ha W ρ σ H _ e (Rs.aag (Rs.aac h) λp h x H1 e1 s1 v1 => ?_)
 obtain ⟨a, k1, h⟩ := abl (Rs.aac h) (abL _ _)
 obtain ⟨b, k2, h⟩ := abl (Rs.aac h) (aku _)
 exact ⟨b, am3 (adw e1 e.wn v1.1 k1) k2, h H1 e1 s1⟩
noncomputable def cut {α : Type} (xs : List α) (lo hi : Option Int) : List α := (xs.drop (HT.sIx xs.length 0 lo)).take (HT.sIx xs.length xs.length hi - HT.sIx xs.length 0 lo)
theorem aaK.cut {K : PySem.W.Frag} {H : Hp} {xs : List V} {ts : List Tr} (r : aaK K H xs ts) (lo hi : Option Int) : aaK K H (amV xs lo hi) (L2.cut ts lo hi) := by
 unfold amV L2.cut
 rw [r.length]
 exact (r.drop _).take _
noncomputable def aur (K : PySem.W.Frag) : V -> Option Int -> Option Int -> Hp -> VK -> Prop := λx lo hi H Q => aul K x lo hi H Q \/ auf K x lo hi H Q \/ aum x lo hi H Q
theorem alU {X : Cx} : SlR X (aur X.K) := SlR.or anE (SlR.or apy apJ)
noncomputable def gSl (lo hi : Option Int) : G1
 | .lst ts => .ok (.lst (cut ts lo hi), true)
 | .tup ts => if ¬ (HT.sIx ts.length 0 lo = 0 /\ HT.sIx ts.length ts.length hi = ts.length) then .ok (.tup (cut ts lo hi), false) else .bad
 | .str z => if z.length <= 100000 then .ok (.str (Txt.slice z lo hi), false) else .bad
 | _ => .bad
theorem anV (lo hi : Option Int) (a : Tr) (c : Str) : gSl lo hi a ≠ .ex c := by
 cases a <;> dsimp only [gSl] <;> (try split) <;> (intro z; cases z)
noncomputable def eSl (fa : EF) (fl fh : OF) : EF := λρ => (fa ρ).bind λp => (fl p.2).bind λl => (fh l.2).bind λh => (dr h.2 p.1).bind λa => (gSl l.1 h.1 a).bind λz => .ok (.v z.1 z.2, h.2)
theorem afW {K : PySem.W.Frag} (hK : t.K = nlK K) {ta : TE} {tl th : TO} {fa : EF} {fl fh : OF} (ha : SE t ta fa) (hl : SO t tl fl) (hh : SO t th fh) : SE t (tSl (aur K) ta tl th) (eSl fa fl fh) := λW ρ σ H Q e h => by
 refine ha W ρ σ H _ e (Rs.aag (Rs.aac h) λp h x H1 e1 s1 v1 => ?_)
 refine hl W p.2 σ H1 _ e1 (Rs.aag (Rs.aac h) λl h H2 e2 s2 => ?_)
 refine hh W l.2 σ H2 _ e2 (Rs.aag (Rs.aac h) λu h H3 e3 s3 => ?_)
 obtain ⟨a, k1, h⟩ := abl (Rs.aac h) (abL _ _)
 obtain ⟨z, k2, h⟩ := abl (Rs.aac h) (anV _ _ _)
 have st : Stp W H H3 := s1.trans (s2.trans s3)
 have rx := adw e3 e.wn (v1.1.step e.wn (s2.trans s3)) k1
 rw [hK] at rx
 cases a with
 | exn c => cases k2
 | lst ts =>
  cases k2
  obtain ⟨b, xs, rfl, q, r⟩ := rx.lst
  refine .inl ⟨b, xs, rfl, q.toK, λy hy => h _ _ (e3.grow (aaz hy _)) (st.trans (Stp.of (aaz hy _))) ?_⟩
  rw [<-hK] at r
  exact (VOE.of (σ' := σ) e3 (aaz hy _) (VOk.new hy (r.cut _ _))).back st.dom
 | tup ts =>
  dsimp only [gSl] at k2
  split at k2
  ·rename_i c
   cases k2
   obtain ⟨b, xs, rfl, q, r⟩ := rx.tup
   refine .inr (.inl ⟨b, xs, rfl, q.toK, by rw [r.length]; exact c, λy hy => h _ _ (e3.grow (aaz hy _)) (st.trans (Stp.of (aaz hy _))) ?_⟩)
   rw [<-hK] at r
   exact .low (VOk.newT (σ := σ) (W := W) e3.wl hy (r.cut _ _))
  ·cases k2
 | str i =>
  dsimp only [gSl] at k2
  split at k2
  ·rename_i c
   cases k2
   rw [rx.str]
   exact .inr (.inr ⟨i, rfl, big c, h _ H3 e3 st (.low (.str _))⟩)
  ·cases k2
 | non => cases k2
 | bl i => cases k2
 | int i => cases k2
noncomputable abbrev GN := List Tr -> Rs (Tr × Bool)
noncomputable def CbT (K : PySem.W.Frag) (r : List V -> Hp -> VK -> Prop) (g : GN) : Prop := ∀ W xs as H Q, (∀ b, W b -> Lt H b) -> Rps K W H xs as -> (g as).post (λ_ => False) (λp => ∀ v H', Same H H' -> VOk K W [] H H' v (.v p.1 p.2) -> Q v H') -> r xs H Q
noncomputable def eCB (g : GN) (fa : AF) : EF := λρ => (fa ρ).bind λp => (drs p.2 p.1).bind λas => (g as).bind λz => .ok (.v z.1 z.2, p.2)
theorem ahy {r : List V -> Hp -> VK -> Prop} {g : GN} {ta : TA} {fa : AF} (o : CbT t.K r g) (ng : ∀ as c, g as ≠ .ex c) (ha : SA t ta fa) : SE t (tCB r ta) (eCB g fa) := λW ρ σ H Q e h => by
 refine ha W ρ σ H _ e (Rs.aag (Rs.aac h) λp h xs H1 e1 s1 v1 => ?_)
 obtain ⟨as, k1, h⟩ := abl (Rs.aac h) (ad9 _ _)
 refine o W xs as H1 Q e1.wl (agP e1 e.wn v1 k1) (Rs.aag (aho (Rs.aac h) (ng as)) λz h v H2 s2 v2 => ?_)
 exact h v H2 (e1.grow s2) (s1.trans (Stp.of s2)) ((VOE.of e1 s2 v2).back s1.dom)
noncomputable def g1 (g : G1) : GN
 | [a] => g a
 | _ => .bad
theorem afA {g : G1} (h : ∀ a c, g a ≠ .ex c) (as : List Tr) (c : Str) : g1 g as ≠ .ex c := by
 match as with
 | [] => intro z; cases z
 | [a] => exact h a c
 | _ :: _ :: _ => intro z; cases z
theorem ao2 {K : PySem.W.Frag} {r : List V -> Hp -> VK -> Prop} {g : G1} (h : UnT K (λx => r [x]) g) : CbT K r (g1 g) := λW xs as H Q hw rs q => by
 cases rs with
 | nil => exact q.elim
 | cons h1 r1 =>
  cases r1 with
  | nil => exact h W _ _ H Q hw h1 q
  | cons _ _ => exact q.elim
noncomputable def g2 (g : G2) : GN
 | [a, b] => g a b
 | _ => .bad
theorem ap6 {g : G2} (h : ∀ a b c, g a b ≠ .ex c) (as : List Tr) (c : Str) : g2 g as ≠ .ex c := by
 match as with
 | [] => intro z; cases z
 | [a] => intro z; cases z
 | [a, b] => exact h a b c
 | _ :: _ :: _ :: _ => intro z; cases z
theorem au3 {K : PySem.W.Frag} {r : List V -> Hp -> VK -> Prop} {g : G2} (h : OpT K (λx y => r [x, y]) g) : CbT K r (g2 g) := λW xs as H Q hw rs q => by
 cases rs with
 | nil => exact q.elim
 | cons h1 r1 =>
  cases r1 with
  | nil => exact q.elim
  | cons h2 r2 =>
   cases r2 with
   | nil => exact h W _ _ _ _ H Q hw h1 h2 q
   | cons _ _ => exact q.elim
end
section
variable {K : PySem.W.Frag}
noncomputable def anW (K : PySem.W.Frag) : List V -> Hp -> VK -> Prop := λxs H Q => (∃ p ys, xs = [.ref p] /\ (SqL K H p ys \/ SqT K H p ys) /\ Q (.int ys.length) H) \/ (∃ z, xs = [.str z] /\ z.length <= sizeLine /\ Q (.int z.length) H)
theorem abg {X : Cx} : ab6 X (.builtin "len") (anW X.K) := ab6.or agI agJ
noncomputable def aby : G1
 | .lst ts => .ok (.int ts.length, false)
 | .tup ts => .ok (.int ts.length, false)
 | .str z => if z.length <= 100000 then .ok (.int z.length, false) else .bad
 | _ => .bad
theorem ap7 : UnT (nlK K) (λx => anW K [x]) aby := λW x a H Q hw rx h => by
 cases a <;> try exact h.elim
 ·rename_i z
  dsimp only [aby] at h
  split at h
  ·rename_i e
   rw [rx.str]
   exact .inr ⟨z, rfl, big e, h _ H (Same.refl _) (.atm (.int _))⟩
  ·exact h.elim
 ·obtain ⟨p, xs, rfl, q, r⟩ := rx.tup
  refine .inl ⟨p, xs, rfl, .inr q.toK, ?_⟩
  rw [r.length]
  exact h _ H (Same.refl _) (.atm (.int _))
 ·obtain ⟨p, xs, rfl, q, r⟩ := rx.lst
  refine .inl ⟨p, xs, rfl, .inl q.toK, ?_⟩
  rw [r.length]
  exact h _ H (Same.refl _) (.atm (.int _))
noncomputable def ac2 : G1
 | .int i => .ok (.int (if i < 0 then -i else i), false)
 | _ => .bad
theorem ap8 : UnT K (λx H Q => ∃ i, [x] = [V.int i] /\ Q (.int (if i < 0 then -i else i)) H) ac2 := λW x a H Q hw rx h => by
 cases a <;> try exact h.elim
 rw [rx.int]
 exact ⟨_, rfl, h _ H (Same.refl _) (.atm (.int _))⟩
noncomputable def ao3 : G1
 | .int i => .ok (.int i, false)
 | .bl b => .ok (.int (if b then 1 else 0), false)
 | _ => .bad
theorem ap9 : UnT K (λx H Q => (∃ i, [x] = [V.int i] /\ Q (.int i) H) \/ ∃ k, [x] = [V.bl k] /\ Q (.int (if k then 1 else 0)) H) ao3 := λW x a H Q hw rx h => by
 cases a <;> try exact h.elim
 ·rw [rx.bl]
  exact .inr ⟨_, rfl, h _ H (Same.refl _) (.atm (.int _))⟩
 ·rw [rx.int]
  exact .inl ⟨_, rfl, h _ H (Same.refl _) (.atm (.int _))⟩
noncomputable def abD : G1
 | .lst ts => .ok (.lst ts, true)
 | .tup ts => .ok (.lst ts, true)
 | _ => .bad
noncomputable def aaI : G1
 | .lst ts => .ok (.tup ts, false)
 | .tup ts => .ok (.tup ts, false)
 | _ => .bad
theorem alV : UnT (nlK K) (λx H Q => ∃ p ys, [x] = [V.ref p] /\ ((SqL K H p ys /\ ∀ l, H l = none -> Q (.ref l) (upd H l (.tup ys))) \/ (SqT K H p ys /\ Q (.ref p) H))) aaI := λW x a H Q hw rx h => by
 cases a <;> try exact h.elim
 ·have rt := rx.auq
  obtain ⟨p, xs, rfl, q, r⟩ := rx.tup
  exact ⟨p, xs, rfl, .inr ⟨q.toK, h _ H (Same.refl _) rt⟩⟩
 ·obtain ⟨p, xs, rfl, q, r⟩ := rx.lst
  exact ⟨p, xs, rfl, .inl ⟨q.toK, λz hz => h _ _ (aaz hz _) (.newT hw hz r)⟩⟩
noncomputable def ac0 : G2
 | .int i, .int j => .ok (.int (if j < i then j else i), false)
 | _, _ => .bad
noncomputable def adA : G2
 | .int i, .int j => .ok (.int (if j > i then j else i), false)
 | _, _ => .bad
theorem aqa : OpT K (λx y H Q => ∃ i j, [x, y] = [V.int i, V.int j] /\ Q (.int (if j < i then j else i)) H) ac0 := λW x y a b H Q hw rx ry h => by
 cases a <;> cases b <;> try exact h.elim
 rw [rx.int, ry.int]
 exact ⟨_, _, rfl, h _ H (Same.refl _) (.atm (.int _))⟩
noncomputable def afp : List Tr -> Option (List Bool)
 | [] => some []
 | .bl i :: r => (afp r).map (i :: ·)
 | _ :: _ => none
theorem akv {H : Hp} : ∀ {ts : List Tr} {ns : List Bool} {xs : List V}, afp ts = some ns -> aaK K H xs ts -> xs = ns.map V.bl
 | [], ns, xs, h, r => by cases h; cases r; rfl
 | .bl i :: q, ns, xs, h, r => by
  unfold afp at h
  cases e : afp q with
  | none => rw [e] at h; cases h
  | some ms =>
   rw [e] at h
   cases h
   cases r with
   | cons h1 r1 =>
    cases h1
    rw [akv e r1]
    rfl
 | .non :: q, ns, xs, h, r => by cases h
 | .int _ :: q, ns, xs, h, r => by cases h
 | .str _ :: q, ns, xs, h, r => by cases h
 | .tup _ :: q, ns, xs, h, r => by cases h
 | .lst _ :: q, ns, xs, h, r => by cases h
noncomputable def acj : G1
 | .lst ts => match afp ts with
  | some bs => .ok (.bl (bs.all id), false)
  | none => .bad
 | _ => .bad
theorem aqb : UnT (nlK K) (λx => ar0 K [x]) acj := λW x a H Q hw rx h => by
 cases a <;> try exact h.elim
 dsimp only [acj] at h
 split at h
 ·rename_i bs e
  obtain ⟨p, xs, rfl, q, r⟩ := rx.lst
  have z := akv e r
  subst z
  exact ⟨p, bs, rfl, q.toK, h _ H (Same.refl _) (.atm (.bl _))⟩
 ·exact h.elim
noncomputable def anY (c : Ty) (fa : EF) : EF := λρ => (fa ρ).bind λp => (dr p.2 p.1).bind λa => .ok (eB (ac7 a c), p.2)
theorem agR {t : Tx} (hK : t.K = nlK K) (c : Ty) {ta : TE} {fa : EF} (ha : SE t ta fa) : SE t (tCB (arG K) (acF ta (acF (tC (.ty c.name)) aj6))) (anY c fa) := λW ρ σ H Q e h => by
 refine ha W ρ σ H _ e (Rs.aag (Rs.aac h) λp h x H1 e1 s1 v1 => ?_)
 obtain ⟨a, k1, h⟩ := abl (Rs.aac h) (abL _ _)
 have r := adw e1 e.wn v1.1 k1
 rw [hK] at r
 exact ⟨x, a, c, rfl, r.rep.toK, h _ H1 e1 s1 (.low (.bl _))⟩
end
end L2
end
section
namespace L2
open PySem PySem.Spec PyProof.Rows
inductive Fl where
 | nx | rt (T : Tr) (fr : Bool) | bk | ct
noncomputable abbrev SF := En -> Rs (Fl × En)
noncomputable def Nxt (W : Addr -> Prop) (H : Hp) (W' : Addr -> Prop) (H' : Hp) : Prop := ∀ b o, ¬ W b -> H b = some o -> ¬ W' b /\ H' b = some o
theorem Nxt.refl (W : Addr -> Prop) (H : Hp) : Nxt W H W H := λ_ _ n h => ⟨n, h⟩
theorem Nxt.trans {W W1 W2 : Addr -> Prop} {H H1 H2 : Hp} (a : Nxt W H W1 H1) (b : Nxt W1 H1 W2 H2) : Nxt W H W2 H2 := λc o n h => by
 obtain ⟨n1, h1⟩ := a c o n h
 exact b c o n1 h1
theorem Stp.nxt {W : Addr -> Prop} {H H' : Hp} (s : Stp W H H') : Nxt W H W H' := λb o n h => ⟨n, s.keep b o n h⟩
theorem Nxt.same {W W' : Addr -> Prop} {H H' : Hp} (a : Nxt W H W' H') : Same (aaQ W H) (aaQ W' H') := λb o h => by
 obtain ⟨n, h⟩ := aa4 h
 obtain ⟨n', h'⟩ := a b o n h
 rw [aaB n']
 exact h'
noncomputable def VR (t : Tx) (H' : Hp) (v : V) (T : Tr) : Bool -> Prop
 | false => Rep t.K (aaQ t.Z H') v T
 | true => ∃ a xs ts, v = .ref a /\ T = .lst ts /\ t.H0 a = none /\ H' a = some (.lst xs) /\ aaK t.K (off a (aaQ t.Z H')) xs ts
noncomputable def aeb (t : Tx) (W : Addr -> Prop) (H : Hp) (D : Ends) (p : Fl × En) : Prop := match p.1 with
 | .nx => ∀ W' σ' H', EOk t W' p.2 σ' H' -> Nxt W H W' H' -> D.nx σ' H'
 | .rt T fr => ∀ v W' σ' H', EOk t W' p.2 σ' H' -> VR t H' v T fr -> D.rt v H'
 | .bk => ∀ W' σ' H', EOk t W' p.2 σ' H' -> Nxt W H W' H' -> D.bk σ' H'
 | .ct => ∀ W' σ' H', EOk t W' p.2 σ' H' -> Nxt W H W' H' -> D.ct σ' H'
noncomputable def SS (t : Tx) (ts : TS) (f : SF) : Prop := ∀ W ρ σ H D, EOk t W ρ σ H -> (f ρ).post t.EX (aeb t W H D) -> ts D σ H
theorem aeb.back {t : Tx} {W W' : Addr -> Prop} {H H' : Hp} {D : Ends} {p : Fl × En} (h : aeb t W H D p) (n : Nxt W H W' H') : aeb t W' H' D p := by
 obtain ⟨fl, ρ⟩ := p
 cases fl with
 | nx => exact λW2 σ2 H2 e m => h W2 σ2 H2 e (n.trans m)
 | rt T fr => exact h
 | bk => exact λW2 σ2 H2 e m => h W2 σ2 H2 e (n.trans m)
 | ct => exact λW2 σ2 H2 e m => h W2 σ2 H2 e (n.trans m)
section
variable {t : Tx}
noncomputable def aeu : SF := λρ => .ok (.nx, ρ)
theorem ab9 : SS t aph aeu := λW ρ σ H D e h => h W σ H e (Nxt.refl _ _)
noncomputable def aaN (f g : SF) : SF := λρ => (f ρ).bind λp => match p.1 with
 | .nx => g p.2
 | fl => .ok (fl, p.2)
theorem aau {ta tb : TS} {f g : SF} (h1 : SS t ta f) (h2 : SS t tb g) : SS t (atZ ta tb) (aaN f g) := λW ρ σ H D e h => by
 refine h1 W ρ σ H _ e (Rs.aag (Rs.aac h) λp h => ?_)
 obtain ⟨fl, ρ1⟩ := p
 cases fl with
 | nx => exact λW1 σ1 H1 e1 n1 => h2 W1 ρ1 σ1 H1 D e1 (Rs.aag h λq h => h.back n1)
 | rt T fr => exact h
 | bk => exact h
 | ct => exact h
theorem get_set {α : Type} {l : List α} {i j : Nat} {a b : α} (h : (l.set i a)[j]? = some b) : (j = i /\ b = a /\ i < l.length) \/ (j ≠ i /\ l[j]? = some b) := by
 by_cases e : i = j
 ·subst e
  rw [List.getElem?_set_self'] at h
  cases q : l[i]? with
  | none => rw [q] at h; cases h
  | some c =>
   rw [q] at h
   cases h
   exact .inl ⟨rfl, rfl, (List.getElem?_eq_some_iff.mp q).1⟩
 ·rw [List.getElem?_set_ne e] at h
  exact .inr ⟨Ne.symm e, h⟩
theorem aec {α : Type} {l : List α} {i : Nat} {a : α} (h : i < l.length) : (l.set i a)[i]? = some a := by
 rw [List.getElem?_set_self' , List.getElem?_eq_getElem h]
 rfl
theorem EOk.aiH {W : Addr -> Prop} {ρ : En} {σ : St} {H : Hp} {i : Nat} {v : V} {T : Tr} (e : EOk t W ρ σ H) (r : Rep t.K (aaQ W H) v T) : EOk t W (ρ.set i (.sh T)) (σ.set i (some v)) H := by
 have mu : ∀ j, Mu (ρ.set i (.sh T)) j -> j ≠ i /\ Mu ρ j := λj h => by
  obtain ⟨ts, h | h⟩ := h <;> rcases get_set h with ⟨rfl, z, _⟩ | ⟨ne, h⟩
  ·cases z
  ·exact ⟨ne, ts, .inl h⟩
  ·cases z
  ·exact ⟨ne, ts, .inr h⟩
 have dpo : ∀ j us, (ρ.set i (.sh T))[j]? = some (.dp us) -> j ≠ i /\ ρ[j]? = some (.dp us) := λj us h => by
  rcases get_set h with ⟨rfl, z, _⟩ | ⟨ne, h⟩
  ·cases z
  ·exact ⟨ne, h⟩
 obtain ⟨F, e⟩ := e
 refine ⟨F, by rw [List.length_set, List.length_set]; exact e.len, e.zw, e.z0, e.wl, e.f0, e.n0, λj u h => ?_, λj ts h => ?_, λj ts h => ?_, λj k a h1 h2 q1 q2 => ?_, e.pn, λj a m q => e.pd j a (mu j m).2 (by rw [List.getElem?_set_ne (Ne.symm (mu j m).1)] at q; exact q),
  λj us h => ?_, λj k us ws n h1 h2 => e.dd j k us ws n (dpo j us h1).2 (dpo k ws h2).2, λj k us c h1 m q => e.dm j k us c (dpo j us h1).2 (mu k m).2 (by rw [List.getElem?_set_ne (Ne.symm (mu k m).1)] at q; exact q), λj us h => e.db j us (dpo j us h).2, e.tab⟩
 ·rcases get_set h with ⟨rfl, z, l⟩ | ⟨ne, h⟩
  ·cases z
   exact ⟨v, aec (by rw [<-e.len]; exact l), r⟩
  ·obtain ⟨w, h1, h2⟩ := e.sh j u h
   exact ⟨w, by rw [List.getElem?_set_ne (Ne.symm ne)]; exact h1, h2⟩
 ·rcases get_set h with ⟨rfl, z, l⟩ | ⟨ne, h⟩
  ·cases z
  ·obtain ⟨a, xs, h1, h2⟩ := e.ow j ts h
   exact ⟨a, xs, by rw [List.getElem?_set_ne (Ne.symm ne)]; exact h1, h2⟩
 ·rcases get_set h with ⟨rfl, z, l⟩ | ⟨ne, h⟩
  ·cases z
  ·obtain ⟨a, xs, h1, h2⟩ := e.rf j ts h
   exact ⟨a, xs, by rw [List.getElem?_set_ne (Ne.symm ne)]; exact h1, h2⟩
 ·obtain ⟨n1, m1⟩ := mu j h1
  obtain ⟨n2, m2⟩ := mu k h2
  rw [List.getElem?_set_ne (Ne.symm n1)] at q1
  rw [List.getElem?_set_ne (Ne.symm n2)] at q2
  exact e.dis j k a m1 m2 q1 q2
 ·obtain ⟨ne, h⟩ := dpo j us h
  obtain ⟨c, ys, h1, d⟩ := e.dp j us h
  exact ⟨c, ys, by rw [List.getElem?_set_ne (Ne.symm ne)]; exact h1, d⟩
theorem EOk.addr {W : Addr -> Prop} {ρ : En} {σ : St} {H : Hp} {i : Nat} {a : Addr} (e : EOk t W ρ σ H) (m : Mu ρ i) (q : σ[i]? = some (some (.ref a))) : W a := by
 obtain ⟨ts, h | h⟩ := m
 ·obtain ⟨b, xs, h1, h2, _⟩ := e.ow i ts h
  rw [q] at h1
  cases h1
  exact h2
 ·obtain ⟨b, xs, h1, h2, _⟩ := e.rf i ts h
  rw [q] at h1
  cases h1
  exact h2
theorem EOk.aqc {W : Addr -> Prop} {ρ : En} {σ : St} {H : Hp} {i : Nat} {a : Addr} {xs : List V} {ts : List Tr} (e0 : EOk t W ρ σ H) (nw : ¬ W a) (e : EOh t W a ρ σ H) (h0 : t.H0 a = none) (hB : t.B a = none) (ha : H a = some (.lst xs)) (r : aaK t.K (off a (aaQ W H)) xs ts) :
  EOk t (λb => W b \/ b = a) (ρ.set i (.ow ts)) (σ.set i (some (.ref a))) H := by
 have mu : ∀ j, Mu (ρ.set i (.ow ts)) j -> j = i \/ (j ≠ i /\ Mu ρ j) := λj h => by
  obtain ⟨ts, h | h⟩ := h <;> rcases get_set h with ⟨rfl, z, _⟩ | ⟨ne, h⟩
  ·exact .inl rfl
  ·exact .inr ⟨ne, ts, .inl h⟩
  ·exact .inl rfl
  ·exact .inr ⟨ne, ts, .inr h⟩
 have m : Same (off a (aaQ W H)) (aaQ (λb => W b \/ b = a) H) := λb o q => by
  obtain ⟨ne, q⟩ := ado q
  obtain ⟨n, q⟩ := aa4 q
  rw [aaB]
  ·exact q
  ·rintro (z | z)
   ·exact n z
   ·exact ne z
 have dpo : ∀ j us, (ρ.set i (.ow ts))[j]? = some (.dp us) -> j ≠ i /\ ρ[j]? = some (.dp us) := λj us h => by
  rcases get_set h with ⟨rfl, z, _⟩ | ⟨ne, h⟩
  ·cases z
  ·exact ⟨ne, h⟩
 obtain ⟨F, e, na⟩ := e
 refine ⟨F, by rw [List.length_set, List.length_set]; exact e.len, e.zw, e.z0, e.wl, e.f0, e.n0, λj u h => ?_, λj us h => ?_, λj us h => ?_, λj k c h1 h2 q1 q2 => ?_, e.pn, λj c m q => ?_,
  λj us h => ?_, λj k us ws n h1 h2 => e.dd j k us ws n (dpo j us h1).2 (dpo k ws h2).2, λj k us c h1 m q => ?_, λj us h => e.db j us (dpo j us h).2, e.tab⟩
 ·rcases get_set h with ⟨rfl, z, l⟩ | ⟨ne, h⟩
  ·cases z
  ·obtain ⟨w, h1, h2⟩ := e.sh j u h
   exact ⟨w, by rw [List.getElem?_set_ne (Ne.symm ne)]; exact h1, h2⟩
 ·rcases get_set h with ⟨rfl, z, l⟩ | ⟨ne, h⟩
  ·cases z
   exact ⟨a, xs, aec (by rw [<-e.len]; exact l), .inr rfl, h0, ha, r.mono m⟩
  ·obtain ⟨c, ys, h1, h2⟩ := e.ow j us h
   exact ⟨c, ys, by rw [List.getElem?_set_ne (Ne.symm ne)]; exact h1, h2⟩
 ·rcases get_set h with ⟨rfl, z, l⟩ | ⟨ne, h⟩
  ·cases z
  ·obtain ⟨c, ys, h1, h2⟩ := e.rf j us h
   exact ⟨c, ys, by rw [List.getElem?_set_ne (Ne.symm ne)]; exact h1, h2⟩
 ·have old : ∀ j, j ≠ i -> Mu ρ j -> (σ.set i (some (.ref a)))[j]? ≠ some (some (.ref a)) := λj ne m q => by
   rw [List.getElem?_set_ne (Ne.symm ne)] at q
   exact nw (e0.addr m q)
  have self : ∀ c, (σ.set i (some (V.ref a)))[i]? = some (some (.ref c)) -> c = a := λc q => by
   rcases get_set q with ⟨_, z, _⟩ | ⟨ne, _⟩
   ·cases z; rfl
   ·exact absurd rfl ne
  rcases mu j h1 with rfl | ⟨n1, m1⟩ <;> rcases mu k h2 with rfl | ⟨n2, m2⟩
  ·rfl
  ·have := self c q1
   subst this
   exact (old k n2 m2 q2).elim
  ·have := self c q2
   subst this
   exact (old j n1 m1 q1).elim
  ·rw [List.getElem?_set_ne (Ne.symm n1)] at q1
   rw [List.getElem?_set_ne (Ne.symm n2)] at q2
   exact e.dis j k c m1 m2 q1 q2
 ·rcases mu j m with rfl | ⟨n1, m1⟩
  ·rcases get_set q with ⟨_, z, _⟩ | ⟨ne, _⟩
   ·cases z; exact hB
   ·exact absurd rfl ne
  ·rw [List.getElem?_set_ne (Ne.symm n1)] at q
   exact e.pd j c m1 q
 ·obtain ⟨ne, h⟩ := dpo j us h
  obtain ⟨c, ys, h1, d⟩ := e.dp j us h
  exact ⟨c, ys, by rw [List.getElem?_set_ne (Ne.symm ne)]; exact h1, d⟩
 ·obtain ⟨nj, hj⟩ := dpo j us h1
  rcases mu k m with rfl | ⟨n2, m2⟩
  ·rcases get_set q with ⟨_, z, _⟩ | ⟨nk, _⟩
   ·cases z
    exact na j us hj
   ·exact absurd rfl nk
  ·rw [List.getElem?_set_ne (Ne.symm n2)] at q
   exact e.dm j k us c hj m2 q
theorem EOk.noB {W : Addr -> Prop} {ρ : En} {σ : St} {H : Hp} {a : Addr} (e : EOk t W ρ σ H) (n : H a = none) : t.B a = none := by
 cases q : t.B a with
 | none => rfl
 | some o => rw [e.pn a o q] at n; cases n
noncomputable abbrev GF := Tr -> En -> Rs En
noncomputable def SG (t : Tx) (g : TG) (f : GF) (js : List Nat) : Prop := ∀ W ρ σ H v T Q, EOk t W ρ σ H -> Rep t.K (aaQ W H) v T -> (f T ρ).post (λ_ => False) (λρ' => ∀ σ', EOk t W ρ' σ' H -> (∀ k, k ∉ js -> σ'[k]? = σ[k]?) -> Q σ' H) -> g v σ H Q
noncomputable def gN (i : Nat) : GF := λT ρ => .ok (ρ.set i (.sh T))
theorem aap (i : Nat) : SG t (acz i) (gN i) [i] := λW ρ σ H v T Q e r h => h _ (e.aiH r) λk n => List.getElem?_set_ne (λz => n (by rw [z]; exact List.mem_singleton.mpr rfl))
noncomputable abbrev GFs := List Tr -> En -> Rs En
noncomputable def SGs (t : Tx) (g : TGs) (f : GFs) (js : List Nat) : Prop := ∀ W ρ σ H vs Ts Q, EOk t W ρ σ H -> aaK t.K (aaQ W H) vs Ts -> (f Ts ρ).post (λ_ => False) (λρ' => ∀ σ', EOk t W ρ' σ' H -> (∀ k, k ∉ js -> σ'[k]? = σ[k]?) -> Q σ' H) -> g vs σ H Q
noncomputable def ajc : GFs := λTs ρ => match Ts with
 | [] => .ok ρ
 | _ => .bad
noncomputable def adO (f : GF) (g : GFs) : GFs := λTs ρ => match Ts with
 | T :: r => (f T ρ).bind λρ' => g r ρ'
 | [] => .bad
theorem akx : SGs t at6 ajc [] := λW ρ σ H vs Ts Q e r h => by
 cases r with
 | nil => exact ⟨rfl, h σ e λ_ _ => rfl⟩
 | cons _ _ => exact h.elim
theorem aeO {g : TG} {u : TGs} {f : GF} {fs : GFs} {js ks : List Nat} (h1 : SG t g f js) (h2 : SGs t u fs ks) : SGs t (apj g u) (adO f fs) (js ++ ks) := λW ρ σ H vs Ts Q e r h => by
 cases r with
 | nil => exact h.elim
 | @cons x T xs Ts r1 r2 =>
  refine ⟨x, xs, rfl, h1 W ρ σ H x T _ e r1 (Rs.aag (Rs.aac h) λρ' h σ' e' n1 => ?_)⟩
  refine h2 W ρ' σ' H xs Ts _ e' r2 (Rs.aag h λρ2 h σ2 e2 n2 => h σ2 e2 λk n => ?_)
  rw [List.mem_append, not_or] at n
  rw [n2 k n.2, n1 k n.1]
noncomputable def gT (n : Nat) (f : GFs) : GF := λT ρ => match T with
 | .tup Ts => if Ts.length = n then f Ts ρ else .bad
 | _ => .bad
theorem am4 {K : PySem.W.Frag} (hK : t.K = nlK K) {n : Nat} {u : TGs} {fs : GFs} {js : List Nat} (h2 : SGs t u fs js) : SG t (at7 K n u) (gT n fs) js := λW ρ σ H v T Q e r h => by
 cases T <;> try exact h.elim
 rename_i Ts
 dsimp only [gT] at h
 split at h
 ·rename_i c
  cases r with
  | @tup a xs _ q r =>
   have q' := (abr W H).aoW q
   rw [hK] at q'
   exact ⟨a, xs, rfl, q'.toK, by rw [r.length]; exact c, h2 W ρ σ H xs Ts Q e r h⟩
 ·exact h.elim
noncomputable def abA (f : EF) (g : GF) : SF := λρ => (f ρ).bind λp => match p.1 with
 | .v T _ => (g T p.2).bind λρ' => .ok (.nx, ρ')
 | .s _ => .bad
theorem aaT {te : TE} {g : TG} {f : EF} {gf : GF} {js : List Nat} (h1 : SE t te f) (h2 : SG t g gf js) (ng : ∀ T ρ c, gf T ρ ≠ .ex c) : SS t (amP te g) (abA f gf) := λW ρ σ H D e h => by
 refine h1 W ρ σ H _ e (Rs.aag (Rs.aac h) λp h v H1 e1 s1 v1 => ?_)
 obtain ⟨r, ρ1⟩ := p
 cases r with
 | s i => exact h.elim
 | v T fr => exact h2 W ρ1 σ H1 v T _ e1 (v1.1.rep e.wn) (Rs.aag (aho (Rs.aac h) (ng T ρ1)) λρ' h σ' e' _ => h W σ' H1 e' s1.nxt)
noncomputable def ajO (i : Nat) (f : EF) : SF := λρ => (f ρ).bind λp => match p.1 with
 | .v (.lst ts) true => .ok (.nx, p.2.set i (.ow ts))
 | _ => .bad
theorem agS {te : TE} {f : EF} (i : Nat) (h1 : SE t te f) : SS t (amP te (acz i)) (ajO i f) := λW ρ σ H D e h => by
 refine h1 W ρ σ H _ e (Rs.aag (Rs.aac h) λp h v H1 e1 s1 v1 => ?_)
 obtain ⟨r, ρ1⟩ := p
 dsimp only at h
 split at h
 ·rename_i ts
  obtain ⟨⟨a, xs, us, rfl, z, n, q, rr⟩, he⟩ := v1
  cases z
  have nw : ¬ W a := λw => e.wn a w n
  refine h _ _ H1 (e1.aqc nw (he _ a rfl rfl) (e.n0 a n) (e.noB n) q rr) λb o nb hb => ⟨?_, s1.keep b o nb hb⟩
  rintro (z | rfl)
  ·exact nb z
  ·rw [n] at hb; cases hb
 ·exact h.elim
noncomputable def ac1 (f : EF) : SF := λρ => (f ρ).bind λp => .ok (.nx, p.2)
theorem aed {te : TE} {f : EF} (h1 : SE t te f) : SS t (anq te) (ac1 f) := λW ρ σ H D e h =>
 h1 W ρ σ H _ e (Rs.aag (Rs.aac h) λp h v H1 e1 s1 v1 => h W σ H1 e1 s1.nxt)
noncomputable def abR (f : EF) : SF := λρ => (f ρ).bind λp => match p.1 with
 | .v T fr => .ok (.rt T fr, p.2)
 | .s i => match p.2[i]? with
  | some (.ow ts) => .ok (.rt (.lst ts) true, p.2)
  | _ => .bad
theorem aiI {W : Addr -> Prop} {ρ : En} {σ : St} {H : Hp} (e : EOk t W ρ σ H) : Same (aaQ W H) (aaQ t.Z H) := abK (λb _ _ z => e.zw b z) λ_ _ _ h => h
theorem aaU {te : TE} {f : EF} (h1 : SE t te f) : SS t (at3 te) (abR f) := λW ρ σ H D e h => by
 refine h1 W ρ σ H _ e (Rs.aag (Rs.aac h) λp h v H1 e1 s1 v1 => ?_)
 obtain ⟨r, ρ1⟩ := p
 cases r with
 | v T fr =>
  refine h v W σ H1 e1 ?_
  cases fr with
  | false => exact Rep.mono (aiI e1) v1.1
  | true =>
   obtain ⟨a, xs, us, rfl, z, n, q, rr⟩ := v1.1
   refine ⟨a, xs, us, rfl, z, e.n0 a n, q, rr.mono λb o q => ?_⟩
   obtain ⟨ne, q⟩ := ado q
   rw [off_ne ne]
   exact aiI e1 b o q
 | s i =>
  dsimp only at h
  split at h
  ·rename_i ts q
   obtain ⟨a, xs, h1, h2, h3, h4, h5⟩ := e1.ow i ts q
   have ev : σ[i]? = some (some v) := v1.1
   rw [ev] at h1
   cases h1
   refine h _ W σ H1 e1 ⟨a, xs, ts, rfl, rfl, h3, h4, h5.mono λb o q => ?_⟩
   have ne : b ≠ a := λz => by subst z; rw [afT h2] at q; cases q
   rw [off_ne ne]
   exact aiI e1 b o q
  ·exact h.elim
noncomputable def sIf (c : BF) (f g : SF) : SF := λρ => (c ρ).bind λp => if p.1 = true then f p.2 else g p.2
theorem adB {tc : TT} {ta tb : TS} {c : BF} {f g : SF} (hc : ST t tc c) (ha : SS t ta f) (hb : SS t tb g) : SS t (at4 tc ta tb) (sIf c f g) := λW ρ σ H D e h => by
 refine hc W ρ σ H _ e (Rs.aag (Rs.aac h) λp h H1 e1 s1 => ?_)
 split at h
 ·rename_i d
  refine if_pos d ▸ ha W p.2 σ H1 D e1 (Rs.aag h λq h => h.back s1.nxt)
 ·rename_i d
  refine if_neg d ▸ hb W p.2 σ H1 D e1 (Rs.aag h λq h => h.back s1.nxt)
noncomputable def frz (i : Nat) (ρ : En) : En := match ρ[i]? with
 | some (.ow ts) => ρ.set i (.sh (.lst ts))
 | _ => ρ
end
end L2
end
section
namespace L2
open PySem PySem.Spec PyProof.Rows
section
variable {t : Tx}
theorem EOk.frz {W : Addr -> Prop} {ρ : En} {σ : St} {H : Hp} (e : EOk t W ρ σ H) (i : Nat) : ∃ W', EOk t W' (L2.frz i ρ) σ H /\ Nxt W H W' H := by
 unfold L2.frz
 split
 ·rename_i ts q
  obtain ⟨a, xs, h1, h2, h3, h4, h5⟩ := e.ow i ts q
  have m : Same (aaQ W H) (aaQ (λb => W b /\ b ≠ a) H) := abK (λ_ _ _ z => z.1) λ_ _ _ h => h
  have mi : Mu ρ i := ⟨ts, .inl q⟩
  have mu : ∀ j, Mu (ρ.set i (.sh (.lst ts))) j -> j ≠ i /\ Mu ρ j := λj h => by
   obtain ⟨us, h | h⟩ := h <;> rcases get_set h with ⟨rfl, z, _⟩ | ⟨ne, h⟩
   ·cases z
   ·exact ⟨ne, us, .inl h⟩
   ·cases z
   ·exact ⟨ne, us, .inr h⟩
  have nea : ∀ j c, j ≠ i -> Mu ρ j -> σ[j]? = some (some (.ref c)) -> c ≠ a := λj c ne mj qj z => by
   subst z
   exact ne (e.dis j i c mj mi qj h1)
  have dpo : ∀ (j : Nat) (us : List Tr), (ρ.set i (.sh (.lst ts)))[j]? = some (Sl.dp us) -> ρ[j]? = some (Sl.dp us) := λj us h => by
   rcases get_set h with ⟨rfl, z, _⟩ | ⟨ne, h⟩
   ·cases z
   ·exact h
  obtain ⟨F, e⟩ := e
  refine ⟨λb => W b /\ b ≠ a, ⟨F, by rw [List.length_set]; exact e.len, λb z => ⟨e.zw b z, λy => ?_⟩, e.z0, λb w => e.wl b w.1, e.f0, e.n0, λj u h => ?_, λj us h => ?_, λj us h => ?_, λj k c m1 m2 q1 q2 => e.dis j k c (mu j m1).2 (mu k m2).2 q1 q2, e.pn, λj c m q => e.pd j c (mu j m).2 q, λj us h => ?_, λj k us ws n h1 h2 => e.dd j k us ws n (dpo j us h1) (dpo k ws h2), λj k us c h1 m q => e.dm j k us c (dpo j us h1) (mu k m).2 q, λj us h => e.db j us (dpo j us h), e.tab.cut (D := λb => b = a) (λb z => ⟨xs, by rw [z]; exact h4⟩)⟩, λb o n h => ⟨λz => n z.1, h⟩⟩
  ·subst y
   exact e.z0 b z h3
  ·rcases get_set h with ⟨rfl, z, l⟩ | ⟨ne, h⟩
   ·cases z
    refine ⟨.ref a, h1, .lst (SqL.of ?_) (h5.mono m)⟩
    rw [aaB λz => z.2 rfl]
    exact h4
   ·obtain ⟨w, q1, q2⟩ := e.sh j u h
    exact ⟨w, q1, q2.mono m⟩
  ·rcases get_set h with ⟨rfl, z, l⟩ | ⟨ne, h⟩
   ·cases z
   ·obtain ⟨c, ys, q1, q2, q3, q4, q5⟩ := e.ow j us h
    exact ⟨c, ys, q1, ⟨q2, nea j c ne ⟨us, .inl h⟩ q1⟩, q3, q4, q5.mono m⟩
  ·rcases get_set h with ⟨rfl, z, l⟩ | ⟨ne, h⟩
   ·cases z
   ·obtain ⟨c, ys, q1, q2, q3, q4, q5⟩ := e.rf j us h
    exact ⟨c, ys, q1, ⟨q2, nea j c ne ⟨us, .inr h⟩ q1⟩, q3, q4, q5.mono m⟩
  ·obtain ⟨c, ys, q1, d⟩ := e.dp j us (dpo j us h)
   exact ⟨c, ys, q1, d.move rfl rfl m (λb hb => ⟨by obtain ⟨_, _, _, ww, _⟩ := d; exact (ww b hb).1, λz => by subst z; exact e.dm j i us b (dpo j us h) mi h1 hb⟩) λ_ _ _ q => q⟩
 ·exact ⟨W, e, Nxt.refl _ _⟩
noncomputable def arI (i : Nat) (f : SF) : SF := λρ => f (frz i ρ)
theorem aqd {ts : TS} {f : SF} (i : Nat) (h : SS t ts f) : SS t ts (arI i f) := λW ρ σ H D e q => by
 obtain ⟨W', e', n⟩ := e.frz i
 exact h W' _ σ H D e' (Rs.aag q λp q => q.back n)
noncomputable def ac8 (c : BF) (b : SF) : Nat -> SF
 | 0 => λ_ => .bad
 | n + 1 => λρ => (c ρ).bind λp => if p.1 = true then (b p.2).bind λq => (match q.1 with
  | .nx => ac8 c b n q.2
  | .ct => ac8 c b n q.2
  | .bk => .ok (.nx, q.2)
  | .rt T fr => .ok (.rt T fr, q.2)) else .ok (.nx, p.2)
noncomputable def acB (fu : En -> Nat) (c : BF) (b : SF) : SF := λρ => ac8 c b (fu ρ) ρ
theorem afX {tc : TT} {tb : TS} {c : BF} {b : SF} (fu : En -> Nat) (hc : ST t tc c) (hb : SS t tb b) : SS t (amS tc tb) (acB fu c b) := λW ρ σ H D e h => by
 refine ⟨λm σ' H' => ∃ ρ' W', EOk t W' ρ' σ' H' /\ (ac8 c b m ρ').post t.EX (aeb t W' H' D), ⟨fu ρ, ρ, W, e, h⟩, ?_⟩
 rintro m σ1 H1 ⟨ρ1, W1, e1, h1⟩
 cases m with
 | zero => exact h1.elim
 | succ n =>
  refine hc W1 ρ1 σ1 H1 _ e1 (Rs.aag (Rs.aac h1) λp h H2 e2 s2 => ?_)
  split at h
  ·rename_i d
   rw [if_pos d]
   refine ⟨λσ' H' => ∃ ρ' W', EOk t W' ρ' σ' H' /\ (ac8 c b n ρ').post t.EX (aeb t W' H' D), λσ' H' q => ⟨n, Nat.lt_succ_self n, q⟩, ?_⟩
   refine hb W1 p.2 σ1 H2 _ e2 (Rs.aag (Rs.aac h) λq h => ?_)
   obtain ⟨fl, ρ3⟩ := q
   cases fl with
   | nx => exact λW3 σ3 H3 e3 n3 => ⟨ρ3, W3, e3, Rs.aag h λr h => h.back (s2.nxt.trans n3)⟩
   | ct => exact λW3 σ3 H3 e3 n3 => ⟨ρ3, W3, e3, Rs.aag h λr h => h.back (s2.nxt.trans n3)⟩
   | bk => exact λW3 σ3 H3 e3 n3 => h W3 σ3 H3 e3 (s2.nxt.trans n3)
   | rt T fr => exact h
  ·rename_i d
   rw [if_neg d]
   exact h W1 σ1 H2 e2 s2.nxt
noncomputable def aqe (K : PySem.W.Frag) (W : Addr -> Prop) (H : Hp) (J : It) (us : List Tr) : Prop := ∀ W' H', Same (aaQ W H) (aaQ W' H') -> (∀ b, W' b -> Lt H' b) -> ∀ i, (i = us.length -> J.stop i H') /\ ∀ u, us[i]? = some u -> J.go i H' /\ ∀ x H'', J.yld i H' x H'' -> Same H' H'' /\ Rep K (aaQ W' H'') x u
noncomputable abbrev IF := En -> Rs (List Tr × En)
noncomputable def SI (t : Tx) (wi : TI) (f : IF) : Prop := ∀ W ρ σ H R, EOk t W ρ σ H -> (f ρ).post t.EX (λp => ∀ J H', EOk t W p.2 σ H' -> Stp W H H' -> aqe t.K W H' J p.1 -> R J H') -> wi σ H R
noncomputable def acM (g : GF) (b : SF) : List Tr -> SF
 | [] => λρ => .ok (.nx, ρ)
 | u :: us => λρ => (g u ρ).bind λρ1 => (b ρ1).bind λq => (match q.1 with
  | .nx => acM g b us q.2
  | .ct => acM g b us q.2
  | .bk => .ok (.nx, q.2)
  | .rt T fr => .ok (.rt T fr, q.2))
noncomputable def agT (fi : IF) (g : GF) (b : SF) : SF := λρ => (fi ρ).bind λp => acM g b p.1 p.2
theorem agU {wi : TI} {g : TG} {tb : TS} {fi : IF} {gf : GF} {b : SF} {js : List Nat} (hi : SI t wi fi) (hg : SG t g gf js) (ng : ∀ T ρ c, gf T ρ ≠ .ex c) (hb : SS t tb b) : SS t (aub wi g tb) (agT fi gf b) := λW ρ σ H D e h => by
 refine hi W ρ σ H _ e (Rs.aag (Rs.aac h) λp h J H1 e1 s1 it => ?_)
 obtain ⟨us, ρ1⟩ := p
 dsimp only at h it e1
 refine ⟨λi m σ' H' => m = us.length - i /\ i <= us.length /\ ∃ ρ' W', EOk t W' ρ' σ' H' /\ Nxt W H1 W' H' /\ (acM gf b (us.drop i) ρ').post t.EX (aeb t W' H' D), ⟨us.length, by simp, Nat.zero_le _, ρ1, W, e1, Nxt.refl _ _, by rw [List.drop_zero]; exact Rs.aag h λr h => h.back s1.nxt⟩, ?_⟩
 rintro i m σ2 H2 ⟨rfl, hi, ρ2, W2, e2, n2, h2⟩
 have q := it W2 H2 n2.same e2.wl i
 by_cases hlt : i < us.length
 ·rw [List.drop_eq_getElem_cons hlt] at h2
  obtain ⟨go, y⟩ := q.2 us[i] (by simp [hlt])
  refine .inr ⟨go, λσ' H' => ∃ ρ' W', EOk t W' ρ' σ' H' /\ Nxt W H1 W' H' /\ (acM gf b (us.drop (i + 1)) ρ').post t.EX (aeb t W' H' D), λσ' H' z => ⟨us.length - (i + 1), by omega, rfl, hlt, z⟩, λx H3 yl => ?_⟩
  obtain ⟨s3, r3⟩ := y x H3 yl
  have e3 := e2.grow s3
  have n3 : Nxt W H1 W2 H3 := n2.trans (Stp.of s3).nxt
  refine hg W2 ρ2 σ2 H3 x us[i] _ e3 r3 (Rs.aag (aho (Rs.aac h2) (ng _ _)) λρ4 h σ4 e4 _ => ?_)
  refine hb W2 ρ4 σ4 H3 _ e4 (Rs.aag (Rs.aac h) λr h => ?_)
  obtain ⟨fl, ρ5⟩ := r
  cases fl with
  | nx => exact λW5 σ5 H5 e5 n5 => ⟨ρ5, W5, e5, n3.trans n5, Rs.aag h λr h => h.back ((Stp.of s3).nxt.trans n5)⟩
  | ct => exact λW5 σ5 H5 e5 n5 => ⟨ρ5, W5, e5, n3.trans n5, Rs.aag h λr h => h.back ((Stp.of s3).nxt.trans n5)⟩
  | bk => exact λW5 σ5 H5 e5 n5 => h W5 σ5 H5 e5 ((Stp.of s3).nxt.trans n5)
  | rt T fr => exact h
 ·have z : i = us.length := by omega
  subst z
  rw [List.drop_length] at h2
  exact .inl ⟨q.1 rfl, h2 W2 σ2 H2 e2 (Nxt.refl _ _)⟩
noncomputable def iSq (K : PySem.W.Frag) (tl : TE) : TI := λσ H R => apl K tl σ H R \/ aua K tl σ H R
theorem ac9 {X : Cx} {tg l : Expr} {tl : TE} (hl : PE X l tl) : PI X tg l (iSq X.K tl) := λpins s σ H R I h => by
 rcases h with h | h
 ·exact anu hl pins s σ H R I h
 ·exact apm hl pins s σ H R I h
noncomputable def acN : Rv -> Rs (List Tr × Bool)
 | .v (.lst ts) _ => .ok (ts, true)
 | .v (.tup ts) _ => .ok (ts, false)
 | _ => .bad
noncomputable def fSq (f : EF) : IF := λρ => (f ρ).bind λp => (acN p.1).bind λz => .ok (z.1, p.2)
theorem anZ {K : PySem.W.Frag} {W : Addr -> Prop} {H : Hp} {a : Addr} {xs : List V} {us : List Tr} (q : SqL (nlK K) (aaQ W H) a xs) (r : aaK (nlK K) (aaQ W H) xs us) : aqe (nlK K) W H (Itl K a) us := λW' H' m hw i => by
 have q' : SqL K H' a xs := ((abr W' H').seq (m.seq q)).toK
 refine ⟨λz => ⟨xs, q', by rw [r.length]; omega⟩, λu hu => ?_⟩
 obtain ⟨x, hx, rx⟩ := r.apS hu
 refine ⟨⟨xs, x, q', hx⟩, λy H'' yl => ?_⟩
 obtain ⟨rfl, z⟩ := yl
 have := z xs q'
 rw [hx] at this
 cases this
 exact ⟨Same.refl _, rx.mono m⟩
theorem aqf {K : PySem.W.Frag} {W : Addr -> Prop} {H : Hp} {a : Addr} {xs : List V} {us : List Tr} (q : SqT (nlK K) (aaQ W H) a xs) (r : aaK (nlK K) (aaQ W H) xs us) : aqe (nlK K) W H (Itt K a) us := λW' H' m hw i => by
 have q' : SqT K H' a xs := ((abr W' H').aoW (m.aoW q)).toK
 refine ⟨λz => ⟨xs, q', by rw [r.length]; omega⟩, λu hu => ?_⟩
 obtain ⟨x, hx, rx⟩ := r.apS hu
 refine ⟨⟨xs, x, q', hx⟩, λy H'' yl => ?_⟩
 obtain ⟨rfl, z⟩ := yl
 have := z xs q'
 rw [hx] at this
 cases this
 exact ⟨Same.refl _, rx.mono m⟩
theorem ada {K : PySem.W.Frag} (hK : t.K = nlK K) {tl : TE} {f : EF} (h1 : SE t tl f) : SI t (iSq K tl) (fSq f) := λW ρ σ H R e h => by
 have h := Rs.aac h
 have key : ∀ b : Bool, (f ρ).post t.EX (λp => ∃ us, acN p.1 = .ok (us, b) /\ ∀ J H', EOk t W p.2 σ H' -> Stp W H H' -> aqe t.K W H' J us -> R J H') -> iSq K tl σ H R := λb h => by
  cases b with
  | true =>
   refine .inl (h1 W ρ σ H _ e (Rs.aag h λp h v H1 e1 s1 v1 => ?_))
   obtain ⟨us, q, h⟩ := h
   obtain ⟨r, ρ1⟩ := p
   cases r with
   | s i => cases q
   | v T fr =>
    cases T <;> cases q
    have rr := v1.1.rep e.wn
    cases rr with
    | @lst a xs _ q r =>
     refine ⟨a, rfl, ⟨xs, ?_⟩, h _ H1 e1 s1 ?_⟩
     ·rw [hK] at q
      exact ((abr _ _).seq q).toK
     ·rw [hK] at q r ⊢
      exact anZ q r
  | false =>
   refine .inr (h1 W ρ σ H _ e (Rs.aag h λp h v H1 e1 s1 v1 => ?_))
   obtain ⟨us, q, h⟩ := h
   obtain ⟨r, ρ1⟩ := p
   cases r with
   | s i => cases q
   | v T fr =>
    cases T <;> cases q
    have rr := v1.1.rep e.wn
    cases rr with
    | @tup a xs _ q r =>
     refine ⟨a, rfl, ⟨xs, ?_⟩, h _ H1 e1 s1 ?_⟩
     ·rw [hK] at q
      exact ((abr _ _).aoW q).toK
     ·rw [hK] at q r ⊢
      exact aqf q r
 cases k : f ρ with
 | bad => rw [k] at h; exact h.elim
 | ex c =>
  refine key true ?_
  rw [k] at h ⊢
  exact h
 | ok p =>
  rw [k] at h
  have h : ((acN p.1).bind _).post _ _ := h
  cases k2 : acN p.1 with
  | bad => rw [k2] at h; exact h.elim
  | ex c =>
   exfalso
   revert k2
   unfold acN
   split <;> (intro z; cases z)
  | ok z =>
   rw [k2] at h
   refine key z.2 ?_
   rw [k]
   exact ⟨z.1, k2, h⟩
noncomputable def upTo (lo : Int) : Nat -> List Tr
 | 0 => []
 | n + 1 => .int lo :: upTo (lo + 1) n
theorem alW (lo : Int) : ∀ n, (upTo lo n).length = n := λn => by
 induction n generalizing lo with
 | zero => rfl
 | succ n ih => rw [upTo, List.length_cons, ih]
theorem alX {lo : Int} {n i : Nat} {u : Tr} (h : (upTo lo n)[i]? = some u) : i < n /\ u = .int (lo + i) := by
 induction n generalizing lo i with
 | zero => simp [upTo] at h
 | succ n ih =>
  rw [upTo] at h
  cases i with
  | zero =>
   simp at h
   subst h
   exact ⟨Nat.zero_lt_succ _, by simp⟩
  | succ i =>
   obtain ⟨h1, h2⟩ := ih (lo := lo + 1) (i := i) (by simpa using h)
   refine ⟨Nat.succ_lt_succ h1, h2.trans ?_⟩
   congr 1
   omega
theorem alY {K : PySem.W.Frag} {W : Addr -> Prop} {H : Hp} (lo : Int) (n : Nat) : aqe K W H (Itr lo n) (upTo lo n) := λW' H' m hw i => by
 refine ⟨λz => ?_, λu hu => ?_⟩
 ·rw [alW] at z
  exact Nat.le_of_eq z.symm
 ·obtain ⟨h1, rfl⟩ := alX hu
  refine ⟨h1, λx H'' yl => ?_⟩
  obtain ⟨rfl, rfl⟩ := yl
  exact ⟨Same.refl _, .int _⟩
noncomputable def okR (i : Int) : Bool := decide (-1000000 <= i) && decide (i <= 1000000)
noncomputable def ahz (fa : AF) : IF := λρ => (fa ρ).bind λp => (drs p.2 p.1).bind λas => match as with
 | [.int j] => if okR j = true then .ok (upTo 0 j.toNat, p.2) else .bad
 | _ => .bad
theorem agV {ta : TA} {fa : AF} (ha : SA t ta fa) : SI t (anv ta) (ahz fa) := λW ρ σ H R e h => by
 refine ha W ρ σ H _ e (Rs.aag (Rs.aac h) λp h vs H1 e1 s1 v1 => ?_)
 obtain ⟨as, k1, h⟩ := abl (Rs.aac h) (ad9 _ _)
 have r := agP e1 e.wn v1 k1
 split at h
 ·rename_i j
  split at h
  ·rename_i c
   unfold okR at c
   rw [Bool.and_eq_true] at c
   have c1 := of_decide_eq_true c.1
   have c2 := of_decide_eq_true c.2
   cases r with
   | cons h1 r1 =>
    cases r1
    rw [h1.int]
    exact ⟨j, rfl, by omega, by omega, h _ H1 e1 s1 (alY 0 _)⟩
  ·exact h.elim
 ·exact h.elim
noncomputable def asj (fa : AF) : IF := λρ => (fa ρ).bind λp => (drs p.2 p.1).bind λas => match as with
 | [.int i, .int j] => if okR i = true /\ okR j = true then .ok (upTo i (j - i).toNat, p.2) else .bad
 | _ => .bad
noncomputable def con (ρ : En) (i : Nat) : Rs (List Tr) := match ρ[i]? with
 | some (.ow ts) => .ok ts
 | some (.rf ts) => .ok ts
 | _ => .bad
theorem ae5 (ρ : En) (i : Nat) (c : Str) : con ρ i ≠ .ex c := by
 unfold con
 split <;> (intro z; cases z)
noncomputable def abf (i : Nat) (us : List Tr) (ρ : En) : En := match ρ[i]? with
 | some (.ow _) => ρ.set i (.ow us)
 | some (.rf _) => ρ.set i (.rf us)
 | _ => ρ
theorem EOk.con {W : Addr -> Prop} {ρ : En} {σ : St} {H : Hp} {i : Nat} {ts : List Tr} (e : EOk t W ρ σ H) (q : con ρ i = .ok ts) : Mu ρ i /\ ∃ a xs, σ[i]? = some (some (.ref a)) /\ W a /\ H a = some (.lst xs) /\ aaK t.K (aaQ W H) xs ts /\ (∀ o, t.H0 a = some o -> t.R a) := by
 unfold L2.con at q
 split at q
 ·rename_i us h
  cases q
  obtain ⟨a, xs, h1, h2, h3, h4, h5⟩ := e.ow i ts h
  exact ⟨⟨ts, .inl h⟩, a, xs, h1, h2, h4, h5, λo z => by rw [h3] at z; cases z⟩
 ·rename_i us h
  cases q
  obtain ⟨a, xs, h1, h2, h3, h4, h5⟩ := e.rf i ts h
  exact ⟨⟨ts, .inr h⟩, a, xs, h1, h2, h4, h5, λo z => h3⟩
 ·cases q
theorem aee {ρ : En} {i j : Nat} {us : List Tr} (h : Mu (abf i us ρ) j) : Mu ρ j := by
 unfold abf at h
 split at h
 ·rename_i ws q
  obtain ⟨ts, h | h⟩ := h <;> rcases get_set h with ⟨rfl, z, _⟩ | ⟨ne, h⟩
  ·exact ⟨_, .inl q⟩
  ·exact ⟨_, .inl h⟩
  ·exact ⟨_, .inl q⟩
  ·exact ⟨_, .inr h⟩
 ·rename_i ws q
  obtain ⟨ts, h | h⟩ := h <;> rcases get_set h with ⟨rfl, z, _⟩ | ⟨ne, h⟩
  ·exact ⟨_, .inr q⟩
  ·exact ⟨_, .inl h⟩
  ·exact ⟨_, .inr q⟩
  ·exact ⟨_, .inr h⟩
 ·exact h
theorem afY {ρ : En} {i : Nat} {us : List Tr} : (abf i us ρ).length = ρ.length := by
 unfold abf
 split
 ·rw [List.length_set]
 ·rw [List.length_set]
 ·rfl
theorem acO {ρ : En} {i j : Nat} {us : List Tr} {s : Sl} (h : (abf i us ρ)[j]? = some s) : (j ≠ i /\ ρ[j]? = some s) \/ (j = i /\ ((∃ ts, ρ[i]? = some (.ow ts) /\ s = .ow us) \/ (∃ ts, ρ[i]? = some (.rf ts) /\ s = .rf us) \/ (¬ Mu ρ i /\ ρ[i]? = some s))) := by
 unfold abf at h
 split at h
 ·rename_i ws q
  rcases get_set h with ⟨rfl, z, _⟩ | ⟨ne, h⟩
  ·exact .inr ⟨rfl, .inl ⟨ws, q, z⟩⟩
  ·exact .inl ⟨ne, h⟩
 ·rename_i ws q
  rcases get_set h with ⟨rfl, z, _⟩ | ⟨ne, h⟩
  ·exact .inr ⟨rfl, .inr (.inl ⟨ws, q, z⟩)⟩
  ·exact .inl ⟨ne, h⟩
 ·rename_i n1 n2
  by_cases e : j = i
  ·subst e
   refine .inr ⟨rfl, .inr (.inr ⟨?_, h⟩)⟩
   rintro ⟨ts, z | z⟩
   ·exact n1 ts z
   ·exact n2 ts z
  ·exact .inl ⟨e, h⟩
theorem adb {ρ : En} {i j : Nat} {us ws : List Tr} (h : (abf i us ρ)[j]? = some (.dp ws)) : ρ[j]? = some (.dp ws) := by
 rcases acO h with ⟨_, h⟩ | ⟨rfl, ⟨_, _, z⟩ | ⟨_, _, z⟩ | ⟨_, h⟩⟩
 ·exact h
 ·cases z
 ·cases z
 ·exact h
theorem DR.lst {K : PySem.W.Frag} {G H : Hp} : ∀ {xs : List V} {ts : List Tr} {bs : List Addr}, DR K G H xs ts bs -> ∀ b ∈ bs, ∃ ys, H b = some (.lst ys)
 | _, _, _, .nil, _, h => by cases h
 | _, _, _, .cl _ _ r, b, h => DR.lst r b h
 | _, _, _, .rw q _ r, b, h => by
  rcases List.mem_cons.mp h with rfl | h
  ·exact ⟨_, q⟩
  ·exact DR.lst r b h
theorem amX.lst {t : Tx} {W : Addr -> Prop} {H : Hp} {a : Addr} {xs : List V} {ts : List Tr} {fp : List Addr} (d : amX t W H a xs ts fp) : ∀ b ∈ fp, ∃ ys, H b = some (.lst ys) := λb hb => by
 obtain ⟨bs, e, _, _, ha, r⟩ := d
 rw [e] at hb
 rcases List.mem_cons.mp hb with rfl | hb
 ·exact ⟨_, ha⟩
 ·exact r.lst b hb
theorem amX.nt {t : Tx} {K : PySem.W.Frag} {W : Addr -> Prop} {H : Hp} {a : Addr} {xs : List V} {ts : List Tr} {fp : List Addr} (d : amX t W H a xs ts fp) (tb : TbS K H) {b : Addr} (z : Tb K b) (hb : b ∈ fp) : False := by
 obtain ⟨ys, e⟩ := d.lst b hb
 exact tb.ne z e rfl
theorem EOk.aqg {W : Addr -> Prop} {ρ : En} {σ : St} {H : Hp} {i : Nat} {a : Addr} (e : EOk t W ρ σ H) (m : Mu ρ i) (q : σ[i]? = some (some (.ref a))) : ∃ xs, H a = some (.lst xs) := by
 obtain ⟨ts, h | h⟩ := m
 ·obtain ⟨b, xs, h1, _, _, h4, _⟩ := e.ow i ts h
  rw [q] at h1
  cases h1
  exact ⟨xs, h4⟩
 ·obtain ⟨b, xs, h1, _, _, h4, _⟩ := e.rf i ts h
  rw [q] at h1
  cases h1
  exact ⟨xs, h4⟩
theorem EOF.move {W W' : Addr -> Prop} {ρ : En} {σ : St} {H H' : Hp} {i : Nat} {a : Addr} {xs : List V} {us : List Tr} {F : Nat -> List Addr} (e : EOF t W ρ σ H F) (mi : Mu ρ i) (hi : σ[i]? = some (some (.ref a))) (m : Same (aaQ W H) (aaQ W' H')) (sub : ∀ b, W b -> W' b) (wl : ∀ b, W' b -> Lt H' b)
  (tb : TbS t.K H') (fr : ∀ b o, H b = some o -> b ≠ a -> ¬ Tb t.K b -> H' b = some o) (dom : ∀ b, H' b = none -> H b = none) (h0 : ∀ o, t.H0 a = some o -> t.R a) (ha : H' a = some (.lst xs)) (r : aaK t.K (aaQ W' H') xs us) : EOF t W' (abf i us ρ) σ H' F := by
 have ne : ∀ j c, j ≠ i -> Mu ρ j -> σ[j]? = some (some (.ref c)) -> c ≠ a := λj c n mj q z => by
  subst z
  exact n (e.dis j i c mj mi q hi)
 have nt : ∀ {c : Addr} {ys : List V}, H c = some (.lst ys) -> ¬ Tb t.K c := λq z => e.tab.ok.ne z q rfl
 refine ⟨by rw [afY]; exact e.len, λb z => sub b (e.zw b z), e.z0, wl, λb o h n => ?_, λb h => e.n0 b (dom b h), λj u h => ?_, λj ts h => ?_, λj ts h => ?_, λj k c h1 h2 => e.dis j k c (aee h1) (aee h2), λb o h => fr b o (e.pn b o h) (λz => by subst z; rw [e.pd i b mi hi] at h; cases h) (λz => by rw [e.tab.B b z] at h; cases h), λj c m q => e.pd j c (aee m) q, λj ws h => ?_, λj k ws zs n h1 h2 => e.dd j k ws zs n (adb h1) (adb h2), λj k ws c h1 m q => e.dm j k ws c (adb h1) (aee m) q, λj ws h => e.db j ws (adb h), ⟨tb, λb z => sub b (e.tab.w b z), e.tab.r, e.tab.B⟩⟩
 ·refine fr b o (e.f0 b o h n) (λz => ?_) λz => n (e.tab.r b z)
  subst z
  exact n (h0 o h)
 ·rcases acO h with ⟨n, h⟩ | ⟨rfl, ⟨ts, q, z⟩ | ⟨ts, q, z⟩ | ⟨nm, h⟩⟩
  ·obtain ⟨w, h1, h2⟩ := e.sh j u h
   exact ⟨w, h1, h2.mono m⟩
  ·cases z
  ·cases z
  ·exact (nm mi).elim
 ·rcases acO h with ⟨n, h⟩ | ⟨rfl, ⟨ts', q, z⟩ | ⟨ts', q, z⟩ | ⟨nm, h⟩⟩
  ·obtain ⟨c, ys, h1, h2, h3, h4, h5⟩ := e.ow j ts h
   exact ⟨c, ys, h1, sub c h2, h3, fr c _ h4 (ne j c n ⟨ts, .inl h⟩ h1) (nt h4), h5.mono m⟩
  ·cases z
   obtain ⟨c, ys, h1, h2, h3, h4, h5⟩ := e.ow j ts' q
   rw [hi] at h1
   cases h1
   exact ⟨a, xs, hi, sub a h2, h3, ha, r⟩
  ·cases z
  ·exact (nm mi).elim
 ·rcases acO h with ⟨n, h⟩ | ⟨rfl, ⟨ts', q, z⟩ | ⟨ts', q, z⟩ | ⟨nm, h⟩⟩
  ·obtain ⟨c, ys, h1, h2, h3, h4, h5⟩ := e.rf j ts h
   exact ⟨c, ys, h1, sub c h2, h3, fr c _ h4 (ne j c n ⟨ts, .inr h⟩ h1) (nt h4), h5.mono m⟩
  ·cases z
  ·cases z
   obtain ⟨c, ys, h1, h2, h3, h4, h5⟩ := e.rf j ts' q
   rw [hi] at h1
   cases h1
   exact ⟨a, xs, hi, sub a h2, h3, ha, r⟩
  ·exact (nm mi).elim
 ·obtain ⟨c, ys, h1, d⟩ := e.dp j ws (adb h)
  exact ⟨c, ys, h1, d.move rfl rfl m (λb hb => sub b (by obtain ⟨_, _, _, ww, _⟩ := d; exact (ww b hb).1)) λb o hb q => fr b o q (λz => by subst z; exact e.dm j i ws b (adb h) mi hi hb) λz => d.nt e.tab.ok z hb⟩
theorem EOk.move {W W' : Addr -> Prop} {ρ : En} {σ : St} {H H' : Hp} {i : Nat} {a : Addr} {xs : List V} {us : List Tr} (e : EOk t W ρ σ H) (mi : Mu ρ i) (hi : σ[i]? = some (some (.ref a))) (m : Same (aaQ W H) (aaQ W' H')) (sub : ∀ b, W b -> W' b) (wl : ∀ b, W' b -> Lt H' b)
  (tb : TbS t.K H') (fr : ∀ b o, H b = some o -> b ≠ a -> ¬ Tb t.K b -> H' b = some o) (dom : ∀ b, H' b = none -> H b = none) (h0 : ∀ o, t.H0 a = some o -> t.R a) (ha : H' a = some (.lst xs)) (r : aaK t.K (aaQ W' H') xs us) : EOk t W' (abf i us ρ) σ H' := by
 obtain ⟨F, e⟩ := e
 exact ⟨F, e.move mi hi m sub wl tb fr dom h0 ha r⟩
theorem EOk.put {W : Addr -> Prop} {ρ : En} {σ : St} {H : Hp} {i : Nat} {a : Addr} {xs : List V} {us : List Tr} (e : EOk t W ρ σ H) (mi : Mu ρ i) (hi : σ[i]? = some (some (.ref a))) (h0 : ∀ o, t.H0 a = some o -> t.R a) (r : aaK t.K (aaQ W H) xs us) : EOk t W (abf i us ρ) σ (upd H a (.lst xs)) /\ Stp W H (upd H a (.lst xs)) := by
 have w := e.addr mi hi
 obtain ⟨zs, hz⟩ := e.aqg mi hi
 refine ⟨e.move mi hi (by rw [acg w]; exact Same.refl _) (λ_ h => h) (λb z => ?_) (e.tab.ok.upd hz) (λb o h n _ => by rw [aaC n]; exact h) (λb h => ?_) h0 aa8 (by rw [acg w]; exact r), ⟨λb o n h => ?_, λb h => ?_⟩⟩
 ·by_cases q : b = a
  ·subst q; exact .inl ⟨xs, aa8⟩
  ·unfold Lt; rw [aaC q]; exact e.wl b z
 ·by_cases q : b = a
  ·subst q; rw [aa8] at h; cases h
  ·rw [aaC q] at h; exact h
 ·rw [aaC (λz => n (by rw [z]; exact w))]; exact h
 ·by_cases q : b = a
  ·subst q; rw [aa8] at h; cases h
  ·rw [aaC q] at h; exact h
noncomputable abbrev GM := List Tr -> List Tr -> Rs (List Tr × Tr)
noncomputable def MtT (r : V -> List V -> Hp -> VK -> Prop) (m : GM) : Prop := ∀ (K : PySem.W.Frag) (G : Hp) a xs ts vs as H Q ts' T, H a = some (.lst xs) -> aaK K G xs ts -> aaK K G vs as -> m ts as = .ok (ts', T) -> (∀ xs' v, aaK K G xs' ts' -> Rep K G v T -> Q v (upd H a (.lst xs'))) -> r (.ref a) vs H Q
noncomputable def eMt (i : Nat) (m : GM) (fa : AF) : EF := λρ => (con ρ i).bind λ_ => (fa ρ).bind λp => (cls p.1).bind λas => (con p.2 i).bind λts => (m ts as).bind λz => .ok (.v z.2 false, abf i z.1 p.2)
theorem asl {K : PySem.W.Frag} {r : V -> List V -> Hp -> VK -> Prop} {m : GM} {ta : TA} {fa : AF} (i : Nat) (hm : MtT r m) (ng : ∀ ts as c, m ts as ≠ .ex c) (ha : SA t ta fa) : SE t (tBM K "list" r (anp i) ta) (eMt i m fa) := λW ρ σ H Q e h => by
 obtain ⟨us, k0, h⟩ := abl (Rs.aac h) (ae5 _ _)
 obtain ⟨_, a, xs, hi, _, hx, _⟩ := e.con k0
 refine ⟨_, hi, .inl ⟨rfl, xs, SqL.of hx⟩, ?_⟩
 refine ha W ρ σ H _ e (Rs.aag (Rs.aac h) λp h vs H1 e1 s1 v1 => ?_)
 obtain ⟨as, k1, h⟩ := abl (Rs.aac h) (aea _)
 obtain ⟨ts, k2, h⟩ := abl (Rs.aac h) (ae5 _ _)
 obtain ⟨⟨ts', T⟩, k3, h⟩ := abl (Rs.aac h) (ng _ _)
 obtain ⟨mi, a', ys, hi', w, hy, ry, h0⟩ := e1.con k2
 rw [hi] at hi'
 cases hi'
 refine hm t.K (aaQ W H1) a ys ts vs as H1 Q ts' T hy ry (afy e.wn v1 k1) k3 λxs' v r' rv => ?_
 obtain ⟨e2, s2⟩ := e1.put mi hi h0 r'
 refine h v _ e2 (s1.trans s2) (.low ?_)
 rw [acg w]
 exact rv
noncomputable def au4 (i : Nat) (m : GM) : EF := λρ => (con ρ i).bind λts => (m ts []).bind λz => .ok (.v z.2 false, abf i z.1 ρ)
noncomputable def ahA : GM := λts as => match as with
 | [T] => if ts.length <= 100000 then .ok (ts ++ [T], .non) else .bad
 | _ => .bad
theorem aqh : MtT ahr ahA := λK G a xs ts vs as H Q ts' T hx r ra q h => by
 unfold ahA at q
 split at q
 ·rename_i U
  split at q
  ·rename_i c
   cases q
   cases ra with
   | cons h1 r1 =>
    cases r1
    exact ⟨a, xs, _, rfl, rfl, hx, Nat.lt_of_le_of_lt (by rw [r.length]; exact c) (by decide), h _ _ (r.app (.cons h1 .nil)) .non⟩
  ·cases q
 ·cases q
theorem an0 (ts as : List Tr) (c : Str) : ahA ts as ≠ .ex c := by
 unfold ahA
 split <;> (try split) <;> (intro z; cases z)
theorem aaK.set {K : PySem.W.Frag} {H : Hp} {v : V} {T : Tr} (h : Rep K H v T) : ∀ {xs : List V} {ts : List Tr} (j : Nat), aaK K H xs ts -> aaK K H (xs.set j v) (ts.set j T)
 | _, _, _, .nil => .nil
 | _, _, 0, .cons _ r => .cons h r
 | _, _, j + 1, .cons h1 r => .cons h1 (aaK.set h j r)
noncomputable def an1 (i : Nat) (fk fe : EF) : SF := λρ => (fe ρ).bind λp => (cls [p.1]).bind λTs => (con p.2 i).bind λ_ => (fk p.2).bind λq => (dr q.2 q.1).bind λkT => (iOf kT).bind λk => (con q.2 i).bind λts => match Ts, ixN ts.length k with
 | [T], some j => .ok (.nx, abf i (ts.set j T) q.2)
 | _, _ => .bad
theorem an2 {te ti : TE} {fk fe : EF} (i : Nat) (he : SE t te fe) (hk : SE t ti fk) : SS t (amP te (at8 (anp i) ti apE)) (an1 i fk fe) := λW ρ σ H D e h => by
 refine he W ρ σ H _ e (Rs.aag (Rs.aac h) λp h v H1 e1 s1 v1 => ?_)
 obtain ⟨Ts, k1, h⟩ := abl (Rs.aac h) (aea _)
 obtain ⟨us, k2, h⟩ := abl (Rs.aac h) (ae5 _ _)
 obtain ⟨_, a, xs, hi, _, hx, _⟩ := e1.con k2
 refine ⟨_, hi, hk W p.2 σ H1 _ e1 (Rs.aag (Rs.aac h) λq h w H2 e2 s2 v2 => ?_)⟩
 obtain ⟨kT, k3, h⟩ := abl (Rs.aac h) (abL _ _)
 obtain ⟨k, k4, h⟩ := abl (Rs.aac h) (aku _)
 obtain ⟨ts, k5, h⟩ := abl (Rs.aac h) (ae5 _ _)
 obtain ⟨mi, a', ys, hi', wa, hy, ry, h0⟩ := e2.con k5
 rw [hi] at hi'
 cases hi'
 have kk : ∃ T j, Ts = [T] /\ ixN ts.length k = some j /\ aeb t W H D (.nx, abf i (ts.set j T) q.2) := by
  cases Ts with
  | nil => exact h.elim
  | cons T r =>
   cases r with
   | cons _ _ => exact h.elim
   | nil =>
    cases kj : ixN ts.length k with
    | none => rw [kj] at h; exact h.elim
    | some j => rw [kj] at h; exact ⟨T, j, rfl, rfl, h⟩
 obtain ⟨T, j, rfl, k6, h⟩ := kk
 ·have rv : Rep t.K (aaQ W H2) v T := by
   have r1 := afy (vs := [v]) e.wn (.cons v1.1 .nil) k1
   cases r1 with
   | cons r1 _ => exact r1.mono s2.off
  obtain ⟨e3, s3⟩ := e2.put mi hi h0 (ry.set rv j)
  refine ⟨a, ys, k, j, rfl, am3 (adw e2 e1.wn v2.1 k3) k4, hy, by rw [ry.length]; exact k6, h W σ _ e3 ?_⟩
  exact ((s1.trans s2).trans s3).nxt
noncomputable def au5 (i : Nat) (p : Int -> Int -> Int) (f : EF) : SF := λρ => match ρ[i]? with
 | some (.sh (.int x)) => (f ρ).bind λq => (dr q.2 q.1).bind λyT => (iOf yT).bind λy => .ok (.nx, q.2.set i (.sh (.int (p x y))))
 | _ => .bad
noncomputable def ao4 (i j : Nat) (fa : AF) : SF := λρ => (fa ρ).bind λp => (cls p.1).bind λTs => match Ts with
 | [T, U] => .ok (.nx, (p.2.set i (.sh T)).set j (.sh U))
 | _ => .bad
theorem am5 {ta : TA} {fa : AF} (i j : Nat) (ha : SA t ta fa) : SS t (at9 i j ta) (ao4 i j fa) := λW ρ σ H D e h => by
 refine ha W ρ σ H _ e (Rs.aag (Rs.aac h) λp h vs H1 e1 s1 v1 => ?_)
 obtain ⟨Ts, k1, h⟩ := abl (Rs.aac h) (aea _)
 have r := afy e.wn v1 k1
 split at h
 ·cases r with
  | cons h1 r1 =>
   cases r1 with
   | cons h2 r2 =>
    cases r2
    exact ⟨_, _, rfl, h W _ H1 ((e1.aiH h1).aiH h2) s1.nxt⟩
 ·exact h.elim
noncomputable def aky (c : Str) (f : EF) : SF := λρ => (f ρ).bind λ_ => .ex c
noncomputable def F0 (t : Tx) (H' : Hp) : Prop := (∀ b o, t.H0 b = some o -> ¬ t.R b -> H' b = some o) /\ TbS t.K H'
theorem alZ {E : XK} {C : Addr} {te : TE} {f : EF} {c : Str} (hx : ∀ H', F0 t H' -> t.EX c -> E (.ref C) none H') (he : SE t te f) : SS t (amW E C te) (aky c f) := λW ρ σ H D e h =>
 he W ρ σ H _ e (Rs.aag (Rs.aac h) λp h v H1 e1 s1 v1 => ⟨rfl, hx H1 ⟨e1.f0, e1.tab.ok⟩ h⟩)
end
end L2
end
section
namespace L2
open PySem PySem.Spec PyProof.Rows
mutual
noncomputable def aiJ : Tr -> Bool
 | .tup ts => adC ts
 | .lst _ => false
 | _ => true
noncomputable def adC : List Tr -> Bool
 | [] => true
 | t :: r => aiJ t && adC r
end
noncomputable def al0 (G G' : Hp) : Prop := (∀ b xs, (G b = some (.tup xs) -> G' b = some (.tup xs)) /\ ∀ o, G b = some (.frz o (.tup xs)) -> G' b = some (.frz o (.tup xs))) /\ ∀ b C, G b = some (exO b C) -> G' b = some (exO b C)
mutual
theorem Rep.flat {K : PySem.W.Frag} {G G' : Hp} (m : al0 G G') : ∀ {v : V} {T : Tr}, Rep K G v T -> aiJ T = true -> Rep K G' v T
 | _, _, .non, _ => .non
 | _, _, .bl b, _ => .bl b
 | _, _, .int i, _ => .int i
 | _, _, .str x, _ => .str x
 | _, _, .tup h r, n => by
  refine .tup ?_ (aaK.flat m r (by unfold aiJ at n; exact n))
  rcases h with (h | ⟨o, h⟩) | h
  ·exact .inl (.inl ((m.1 _ _).1 h))
  ·exact .inl (.inr ⟨o, (m.1 _ _).2 o h⟩)
  ·exact .inr h
 | _, _, .lst h r, n => by unfold aiJ at n; cases n
 | _, _, .exn h k n, _ => .exn (m.2 _ _ h) k n
theorem aaK.flat {K : PySem.W.Frag} {G G' : Hp} (m : al0 G G') : ∀ {v : List V} {T : List Tr}, aaK K G v T -> adC T = true -> aaK K G' v T
 | _, _, .nil, _ => .nil
 | _, _, .cons h r, n => by
  unfold adC at n
  rw [Bool.and_eq_true] at n
  exact .cons (Rep.flat m h n.1) (aaK.flat m r n.2)
end
theorem ae6 {W W' : Addr -> Prop} {H : Hp} (wl : ∀ b, W' b -> Lt H b) : al0 (aaQ W H) (aaQ W' H) := by
 have key : ∀ b o, aaQ W H b = some o -> (∀ ys, o ≠ .lst ys) -> (∀ ys, o ≠ .tbl ys) -> aaQ W' H b = some o := λb o h n n' => by
  obtain ⟨_, h⟩ := aa4 h
  rw [aaB]
  ·exact h
  ·intro w
   rcases wl b w with ⟨ys, e⟩ | ⟨ys, e⟩ <;> (rw [h] at e; cases e)
   ·exact n ys rfl
   ·exact n' ys rfl
 exact ⟨λb xs => ⟨λh => key _ _ h (λys z => by cases z) (λys z => by cases z), λo h => key _ _ h (λys z => by cases z) (λys z => by cases z)⟩, λb C h => key _ _ h (λys z => by cases z) (λys z => by cases z)⟩
theorem ajd {a : Addr} {W : Addr -> Prop} {H : Hp} {xs : List V} (wl : ∀ b, W b -> Lt H b) (ha : H a = some (.lst xs)) (G : Hp) (hG : ∀ b o, G b = some o -> H b = some o) : al0 G (off a (aaQ W H)) := by
 have key : ∀ b o, G b = some o -> (∀ ys, o ≠ .lst ys) -> (∀ ys, o ≠ .tbl ys) -> off a (aaQ W H) b = some o := λb o h n n' => by
  have h := hG b o h
  rw [off_ne, aaB]
  ·exact h
  ·intro w
   rcases wl b w with ⟨ys, e⟩ | ⟨ys, e⟩ <;> (rw [h] at e; cases e)
   ·exact n ys rfl
   ·exact n' ys rfl
  ·rintro rfl
   rw [h] at ha
   cases ha
   exact n _ rfl
 exact ⟨λb xs => ⟨λh => key _ _ h (λys z => by cases z) (λys z => by cases z), λo h => key _ _ h (λys z => by cases z) (λys z => by cases z)⟩, λb C h => key _ _ h (λys z => by cases z) (λys z => by cases z)⟩
noncomputable def VRt (K : PySem.W.Frag) (Z : Addr -> Prop) (H H' : Hp) (v : V) (T : Tr) : Bool -> Prop
 | false => Rep K (aaQ Z H') v T
 | true => ∃ a xs ts, v = .ref a /\ T = .lst ts /\ H a = none /\ H' a = some (.lst xs) /\ aaK K (off a (aaQ Z H')) xs ts
noncomputable def SmT (K : PySem.W.Frag) (H H' : Hp) : Prop := (∀ b o, H b = some o -> ¬ Tb K b -> H' b = some o) /\ TbS K H'
theorem SmT.dom {K : PySem.W.Frag} {H H' : Hp} (s : SmT K H H') : ∀ b, H' b = none -> H b = none := λb h => by
 cases q : H b with
 | none => rfl
 | some o =>
  by_cases z : Tb K b
  ·obtain ⟨ps, e⟩ := s.2.tbl z
   rw [h] at e
   cases e
  ·rw [s.1 b o q z] at h
   cases h
noncomputable def al1 (G G' : Hp) : Prop := ∀ b o, (∀ ps, o ≠ .tbl ps) -> G b = some o -> G' b = some o
theorem Rd.ae7 {G G' : Hp} (m : al1 G G') {a : Addr} {u : HO} (n : ∀ ps, u ≠ .tbl ps) (h : Rd G a u) : Rd G' a u := by
 rcases h with h | ⟨o, h⟩
 ·exact .inl (m _ _ n h)
 ·exact .inr ⟨o, m _ _ (λ_ z => by cases z) h⟩
mutual
theorem Rep.ae7 {K : PySem.W.Frag} {G G' : Hp} (m : al1 G G') : ∀ {v : V} {T : Tr}, Rep K G v T -> Rep K G' v T
 | _, _, .non => .non
 | _, _, .bl b => .bl b
 | _, _, .int i => .int i
 | _, _, .str x => .str x
 | _, _, .tup h r => by
  refine .tup ?_ (aaK.ae7 m r)
  rcases h with h | h
  ·exact .inl (Rd.ae7 m (λ_ z => by cases z) h)
  ·exact .inr h
 | _, _, .lst h r => by
  refine .lst ?_ (aaK.ae7 m r)
  rcases h with h | h
  ·exact .inl (Rd.ae7 m (λ_ z => by cases z) h)
  ·exact .inr h
 | _, _, .exn h k n => .exn (m _ _ (λ_ z => by cases z) h) k n
theorem aaK.ae7 {K : PySem.W.Frag} {G G' : Hp} (m : al1 G G') : ∀ {v : List V} {T : List Tr}, aaK K G v T -> aaK K G' v T
 | _, _, .nil => .nil
 | _, _, .cons h r => .cons (Rep.ae7 m h) (aaK.ae7 m r)
end
theorem afZ {K : PySem.W.Frag} {Z : Addr -> Prop} {H : Hp} (tb : TbS K H) : al1 (aaQ Z H) (aaQ (λb => Z b \/ Tb K b) H) := λb o n h => by
 obtain ⟨nz, h⟩ := aa4 h
 rw [aaB]
 ·exact h
 ·rintro (z | z)
  ·exact nz z
  ·obtain ⟨ps, e⟩ := tb.tbl z
   rw [h] at e
   cases e
   exact n _ rfl
theorem EOk.al2 {t : Tx} {W : Addr -> Prop} {ρ : En} {σ : St} {H H' : Hp} (e : EOk t W ρ σ H) (s : SmT t.K H H') : EOk t W ρ σ H' /\ Stp W H H' := by
 have st : Stp W H H' := ⟨λb o n q => s.1 b o q λz => n (e.tab.w b z), s.dom⟩
 refine ⟨?_, st⟩
 have m := st.off
 obtain ⟨F, e⟩ := e
 have ls : ∀ {a : Addr} {xs : List V}, H a = some (.lst xs) -> H' a = some (.lst xs) := λq => s.1 _ _ q λz => e.tab.ok.ne z q rfl
 refine ⟨F, e.len, e.zw, e.z0, λb w => ?_, λb o h n => s.1 b o (e.f0 b o h n) λz => n (e.tab.r b z), λb h => e.n0 b (s.dom b h), λi u h => ?_, λi ts h => ?_, λi ts h => ?_, e.dis, λb o h => s.1 b o (e.pn b o h) λz => (by rw [e.tab.B b z] at h; cases h), e.pd, λi ts h => ?_, e.dd, e.dm, e.db, ⟨s.2, e.tab.w, e.tab.r, e.tab.B⟩⟩
 ·rcases e.wl b w with ⟨xs, q⟩ | ⟨ps, q⟩
  ·exact .inl ⟨xs, ls q⟩
  ·by_cases z : Tb t.K b
   ·exact .inr (s.2.tbl z)
   ·exact .inr ⟨ps, s.1 b _ q z⟩
 ·obtain ⟨v, h1, h2⟩ := e.sh i u h
  exact ⟨v, h1, h2.mono m⟩
 ·obtain ⟨a, xs, h1, h2, h3, h4, h5⟩ := e.ow i ts h
  exact ⟨a, xs, h1, h2, h3, ls h4, h5.mono m⟩
 ·obtain ⟨a, xs, h1, h2, h3, h4, h5⟩ := e.rf i ts h
  exact ⟨a, xs, h1, h2, h3, ls h4, h5.mono m⟩
 ·obtain ⟨a, xs, h1, d⟩ := e.dp i ts h
  exact ⟨a, xs, h1, d.move rfl rfl m (λb hb => by obtain ⟨_, _, _, ww, _⟩ := d; exact (ww b hb).1) λb o hb q => s.1 b o q λz => d.nt e.tab.ok z hb⟩
theorem EOk.aqi {t : Tx} {W : Addr -> Prop} {ρ : En} {σ : St} {H H' : Hp} {a : Addr} {xs : List V} (e : EOk t W ρ σ H) (s : SmT t.K H H') (n : H a = none) (q : H' a = some (.lst xs)) : EOh t W a ρ σ H' := by
 have na : ∀ b, W b -> b ≠ a := λb w z => by subst z; exact e.wn b w n
 obtain ⟨e', st⟩ := e.al2 s
 have m : Same (aaQ W H') (aaQ (λb => W b \/ b = a) H') -> True := λ_ => trivial
 have mm : ∀ {v : V} {T : Tr}, Rep t.K (aaQ W H) v T -> Rep t.K (aaQ (λb => W b \/ b = a) H') v T := λr => r.mono λb o h => by
  obtain ⟨w, h⟩ := aa4 h
  rw [aaB]
  ·exact st.keep b o w h
  ·rintro (z | rfl)
   ·exact w z
   ·rw [n] at h; cases h
 have mms : Same (aaQ W H) (aaQ (λb => W b \/ b = a) H') := λb o h => by
  obtain ⟨w, h⟩ := aa4 h
  rw [aaB]
  ·exact st.keep b o w h
  ·rintro (z | rfl)
   ·exact w z
   ·rw [n] at h; cases h
 obtain ⟨F, e⟩ := e
 have ls : ∀ {a : Addr} {xs : List V}, H a = some (.lst xs) -> H' a = some (.lst xs) := λq => s.1 _ _ q λz => e.tab.ok.ne z q rfl
 refine ⟨F, ⟨e.len, λb z => .inl (e.zw b z), e.z0, λb w => ?_, e'.f0, e'.n0, λi u h => ?_, λi ts h => ?_, λi ts h => ?_, e.dis, e'.pn, e.pd, λi ts h => ?_, e.dd, e.dm, e.db, e'.tab.wid λb w => .inl w⟩, λi ts h z => ?_⟩
 ·rcases w with w | rfl
  ·exact e'.wl b w
  ·exact .inl ⟨xs, q⟩
 ·obtain ⟨v, h1, h2⟩ := e.sh i u h
  exact ⟨v, h1, mm h2⟩
 ·obtain ⟨c, ys, h1, h2, h3, h4, h5⟩ := e.ow i ts h
  exact ⟨c, ys, h1, .inl h2, h3, ls h4, h5.mono mms⟩
 ·obtain ⟨c, ys, h1, h2, h3, h4, h5⟩ := e.rf i ts h
  exact ⟨c, ys, h1, .inl h2, h3, ls h4, h5.mono mms⟩
 ·obtain ⟨c, ys, h1, d⟩ := e.dp i ts h
  exact ⟨c, ys, h1, d.move rfl rfl mms (λb hb => by obtain ⟨_, _, _, ww, _⟩ := d; exact .inl (ww b hb).1) λb o hb q => s.1 b o q λz => d.nt e.tab.ok z hb⟩
 ·obtain ⟨c, ys, h1, bs, _, _, ww, _⟩ := e.dp i ts h
  exact na a (ww a z).1 rfl
noncomputable abbrev FP := List Tr -> Rs (Tr × Bool)
noncomputable def spP (K : PySem.W.Frag) (cl : Str -> Addr) (n : Nat) (F : FP) : Sp := λvs H Q E => ∃ Z ts, vs.length = n /\ aaK (nlK K) (aaQ Z H) vs ts /\ (∀ b, Z b -> Lt H b) /\ TbS (nlK K) H /\
 (F ts).post (λc => ∀ H', SmT (nlK K) H H' -> E (.ref (cl c)) none H') (λp => ∀ v H', SmT (nlK K) H H' -> VRt (nlK K) Z H H' v p.1 p.2 -> Q v H')
noncomputable def aaH (nl : Nat) (ts : List Tr) : En := ts.map Sl.sh ++ List.replicate (nl - ts.length) Sl.un
noncomputable def fnP (nl : Nat) (b : SF) : FP := λts => (b (aaH nl ts)).bind λq => match q.1 with
 | .rt T fr => .ok (T, fr)
 | .nx => .ok (.non, false)
 | _ => .bad
theorem abM {nl : Nat} {ts : List Tr} {i : Nat} {s : Sl} (h : (aaH nl ts)[i]? = some s) : (∃ u, ts[i]? = some u /\ s = .sh u) \/ s = .un := by
 unfold aaH at h
 by_cases l : i < ts.length
 ·rw [List.getElem?_append_left (by simpa using l), List.getElem?_map] at h
  rw [List.getElem?_eq_getElem l] at h ⊢
  cases h
  exact .inl ⟨_, rfl, rfl⟩
 ·rw [List.getElem?_append_right (by simpa using Nat.le_of_not_lt l)] at h
  rw [List.getElem?_replicate] at h
  split at h
  ·cases h; exact .inr rfl
  ·cases h
theorem ae8 {N : List Str} {vs : List V} {i : Nat} {v : V} (h : vs[i]? = some v) : (start N vs)[i]? = some (some v) := by
 unfold start
 have l : i < vs.length := (List.getElem?_eq_some_iff.mp h).1
 rw [List.getElem?_append_left (by simpa using l), List.getElem?_map, h]
 rfl
section
variable {P : Program} {w : World} {K : PySem.W.Frag} {mg : Str -> Option Value} {base : Heap}
theorem At.dfP {k : Nat} {x : Str} {st : Stmt} {N ps : List Str} {cl : Str -> Addr} {b : SF} (a : At K mg x st) (S : aaL N ps (aal st)) (hn : ps.length <= N.length)
  (hb : ∀ (kV doc pm : Value) (an : Option Addr) (cdv ct : Value) (us : List Value), us.length = ps.length -> bindArgs (PySem.W.fnOf x x (ac5 st) (abW st) (aal st) .none kV doc pm an cdv ct) ⟨us, []⟩ = pure (ps.zip us))
  (hbody : ∀ (f : Addr) (cdv : Value) (A : Around) (outer : List Env) (s : Shared) (H : Hp) (E : XK), aeC k (A.deeper (envOfC x (aal st) s.heap.objs.size f cdv)) ->
   ∃ ts, PSs (ajN (CXF P w) P w K mg base N x (aal st) f cdv A outer s H E) (abW st) ts /\ ∀ t : Tx, t.K = nlK K -> (∀ c H', F0 t H' -> t.EX c -> E (.ref (cl c)) none H') -> SS t ts b) :
  DfX P w K mg base (k + 1) x ps (spP K cl ps.length (fnP N.length b)) := by
 refine a.dfx S hb (λvs H Q E h => ?_) (λf cdv A outer s H vs Q E hr h => ?_)
 ·obtain ⟨_, _, h, _⟩ := h; exact h
 obtain ⟨Z, as, hl, r, zl, tb, h⟩ := h
 obtain ⟨ts, h1, h2⟩ := hbody f cdv A outer s H E hr
 refine ⟨ts, h1, ?_⟩
 have sm : ∀ (b : Addr) (W : Addr -> Prop) ρ σ H', EOk ⟨nlK K, Z, Tb (nlK K), H, λ_ => none, λc => ∀ H', SmT (nlK K) H H' -> E (.ref (cl c)) none H'⟩ W ρ σ H' -> SmT (nlK K) H H' := λ_ W ρ σ H' e => ⟨λb o q n => e.f0 b o q n, e.tab.ok⟩
 have r := r.ae7 (afZ tb)
 refine h2 ⟨nlK K, Z, Tb (nlK K), H, λ_ => none, λc => ∀ H', SmT (nlK K) H H' -> E (.ref (cl c)) none H'⟩ rfl (λc H' f0 q => q H' ⟨λb o z n => f0.1 b o z n, f0.2⟩) (λb => Z b \/ Tb (nlK K) b) (aaH N.length as) (start N vs) H _ ?_ (Rs.aag (Rs.aac h) λq h => ?_)
 ·have la := r.length
  have al3 : ∀ (i : Nat) (us : List Tr), (aaH N.length as)[i]? = some (.dp us) -> False := λi us q => by
   rcases abM q with ⟨u', q1, z⟩ | z <;> cases z
  refine ⟨λ_ => [], ?_, λ_ z => .inl z, λb z => ?_, λb z => z.elim (zl b) (λz => .inr (tb.tbl z)), λb o q _ => q, λb q => q, λi u q => ?_, λi us q => ?_, λi us q => ?_, λi j c m1 m2 => ?_, λb o z => (by cases z), λ_ _ _ _ => rfl, λi us q => (al3 i us q).elim, λi _ us _ _ q => (al3 i us q).elim, λi _ us _ q => (al3 i us q).elim, λi us q => (al3 i us q).elim, ⟨tb, λ_ z => .inr z, λ_ z => z, λ_ _ => rfl⟩⟩
  ·unfold aaH start
   simp only [List.length_append, List.length_map, List.length_replicate]
   omega
  ·exact (zl b z).ne
  ·rcases abM q with ⟨u', q1, z⟩ | z
   ·cases z
    obtain ⟨v, e1, e2⟩ := r.apS q1
    exact ⟨v, ae8 e1, e2⟩
   ·cases z
  ·rcases abM q with ⟨u', q1, z⟩ | z <;> cases z
  ·rcases abM q with ⟨u', q1, z⟩ | z <;> cases z
  ·obtain ⟨us, q | q⟩ := m1 <;> rcases abM q with ⟨u', q1, z⟩ | z <;> cases z
 ·obtain ⟨fl, ρ'⟩ := q
  cases fl with
  | nx => exact λW' σ' H' e n => h .non H' (sm 0 W' ρ' σ' H' e) .non
  | rt T fr =>
   refine λv W' σ' H' e n => h v H' (sm 0 W' ρ' σ' H' e) ?_
   cases fr <;> exact n
  | bk => exact h.elim
  | ct => exact h.elim
end
section
variable {X : Cx} {k : Nat} {x : Str} {ps : List Str} {sp : Sp} {p pos : Pos} {e : Expr} {es : List Expr} {ta : TA} {E : XK}
theorem al4 (D : DfX X.prog X.w X.K X.mg X.base k x ps sp) (hr : aeC k X.A) (hx : Passes (CXF X.prog X.w) X E) (ha : PA X (e :: es) ta) (hg : Gl X x := by rfl) (hdb : (x == ("__debug__" : Str)) = false := by decide)
  (he : starEach (e :: es) X.env = (false, eval e X.env) :: starEach es X.env := by rfl) (hpl : (backTo pos (starEach es X.env)).any (·.1) = false := by rfl) : PE X (.Call (.Name x p) (e :: es) [] pos) (agC sp [] E ta) := by
 obtain ⟨f, fd, h1, h2, h3, h4⟩ := D
 exact anz h1 hr hg h4 h3 h2 .nil hx ha hdb he hpl
end
section
variable {t : Tx} {K : PySem.W.Frag}
noncomputable def isS : Rv -> Bool
 | .s _ => true
 | _ => false
noncomputable def acw (z : Tr × Bool) : Bool := aiJ z.1 || (z.2 && (match z.1 with
 | .lst us => adC us
 | _ => false))
theorem VRt.voe {W W0 : Addr -> Prop} {ρ : En} {σ : St} {H H' : Hp} {v : V} {z : Tr × Bool} {Z : Addr -> Prop} (wn : ∀ b, W b -> H b ≠ none) (wl : ∀ b, W b -> Lt H' b) (zs : (∀ b, W b -> Z b) \/ acw z = true) (h : VRt t.K Z H H' v z.1 z.2)
  (ex : ∀ a xs, H a = none -> H' a = some (.lst xs) -> EOh t W a ρ σ H') : VOE t W ρ σ H H' v (.v z.1 z.2) := by
 obtain ⟨T, fr⟩ := z
 cases fr with
 | false =>
  refine .low ?_
  rcases zs with zs | zs
  ·exact Rep.mono (abK (λb _ _ z => zs b z) λ_ _ _ h => h) h
  ·unfold acw at zs
   simp only [Bool.false_and, Bool.or_false] at zs
   exact Rep.flat (ae6 wl) h zs
 | true =>
  obtain ⟨a, xs, ts, rfl, e1, n, q, r⟩ := h
  have e1 : T = .lst ts := e1
  subst e1
  refine ⟨⟨a, xs, ts, rfl, rfl, n, q, ?_⟩, λU b z eb => ?_⟩
  ·rcases zs with zs | zs
   ·refine r.mono λb o q => ?_
    obtain ⟨ne, q⟩ := ado q
    rw [off_ne ne]
    exact abK (λb _ _ z => zs b z) (λ_ _ _ h => h) b o q
   ·unfold acw at zs
    have zs : adC ts = true := by
     rw [Bool.or_eq_true] at zs
     rcases zs with zs | zs
     ·unfold aiJ at zs; cases zs
     ·exact zs
    exact r.flat (ajd wl q _ λb o h => abr _ _ b o (akq _ _ b o h)) zs
  ·cases eb
   exact ex a xs n q
theorem ae3.length {W : Addr -> Prop} {σ : St} {H H' : Hp} : ∀ {vs : List V} {rs : List Rv}, ae3 K W σ H H' vs rs -> vs.length = rs.length
 | _, _, .nil => rfl
 | _, _, .cons _ r => by rw [List.length_cons, List.length_cons, ae3.length r]
theorem post_eq {α : Type} {r : Rs α} {a : α} {EX : Str -> Prop} {P : α -> Prop} (h : r = .ok a) (q : P a) : r.post EX P := by
 rw [h]
 exact q
noncomputable def aaA (F : FP) (fa : AF) : EF := λρ => (fa ρ).bind λp => (drs p.2 p.1).bind λas => (F as).bind λz => if p.1.any isS = true /\ acw z = false then .bad else .ok (.v z.1 z.2, p.2)
theorem af0 {W : Addr -> Prop} {σ : St} {ρ : En} {H H' : Hp} (wn : ∀ b, W b -> H b ≠ none) : ∀ {vs : List V} {rs : List Rv} {as : List Tr}, ae3 t.K W σ H H' vs rs -> drs ρ rs = .ok as -> rs.any isS = false -> aaK t.K (aaQ W H') vs as
 | _, _, _, .nil, q, _ => by cases q; exact .nil
 | _, .v T fr :: _, _, .cons h r, q, n => by
  unfold drs at q
  obtain ⟨a, q1, q⟩ := aa2 q
  obtain ⟨as, q2, q⟩ := aa2 q
  cases q
  cases q1
  exact .cons (h.rep wn) (af0 wn r q2 (by simpa [List.any_cons, isS] using n))
 | _, .s i :: _, _, .cons h r, q, n => by simp [isS] at n
theorem Rps.reps {W : Addr -> Prop} {H : Hp} : ∀ {vs : List V} {as : List Tr}, Rps K W H vs as -> aaK K (aaQ (λ_ => False) H) vs as
 | _, _, .nil => .nil
 | _, _, .cons h r => .cons (h.rep.mono λb o q => by rw [aaB id]; exact q) (Rps.reps r)
theorem aiK (hK : t.K = nlK K) {cl : Str -> Addr} {n : Nat} {F : FP} {E : XK} {ta : TA} {fa : AF} (hx : ∀ c H', F0 t H' -> t.EX c -> E (.ref (cl c)) none H') (hn : ∀ ρ p, fa ρ = .ok p -> p.1.length = n) (ha : SA t ta fa) : SE t (agC (spP K cl n F) [] E ta) (aaA F fa) := λW ρ σ H Q e h => by
 have h := Rs.aac h
 cases ek : fa ρ with
 | bad => rw [ek] at h; exact h.elim
 | ex c => exact ha W ρ σ H _ e (by rw [ek] at h ⊢; exact h)
 | ok p =>
 have hl := hn ρ p ek
 rw [ek] at h
 refine ha W ρ σ H _ e (post_eq ek ?_)
 intro vs H1 e1 s1 v1
 have h : ((drs p.2 p.1).bind _).post _ _ := h
 obtain ⟨as, k1, h⟩ := abl (Rs.aac h) (ad9 _ _)
 have r := agP e1 e.wn v1 k1
 have lv : vs.length = n := v1.length.trans hl
 have fin : ∀ Z : Addr -> Prop, (∀ b, Z b -> W b) -> (∀ z, F as = .ok z -> ¬ (p.1.any isS = true /\ acw z = false) -> (∀ b, W b -> Z b) \/ acw z = true) -> aaK (nlK K) (aaQ Z H1) vs as -> spP K cl n F (vs ++ []) H1 Q E := λZ zw zs rr => by
  rw [List.append_nil]
  refine ⟨Z, as, lv, rr, λb z => e1.wl b (zw b z), by rw [<-hK]; exact e1.tab.ok, ?_⟩
  have h := Rs.aac h
  cases ef : F as with
  | bad => rw [ef] at h; exact h.elim
  | ex c =>
   rw [ef] at h
   exact λH' sm => hx c H' ⟨λb o q nr => sm.1 b o (e1.f0 b o q nr) λz => nr (e1.tab.r b (by rw [hK]; exact z)), by rw [hK]; exact sm.2⟩ h
  | ok z =>
   rw [ef] at h
   have h : (if p.1.any isS = true /\ acw z = false then Rs.bad else .ok (.v z.1 z.2, p.2) : Rs (Rv × En)).post _ _ := h
   split at h
   ·exact h.elim
   ·rename_i c
    intro v H' sm vr
    rw [<-hK] at vr sm
    obtain ⟨eg, sg⟩ := e1.al2 sm
    refine h v H' eg (s1.trans sg) (VOE.back (H := H1) ?_ s1.dom)
    exact VRt.voe (W0 := W) e1.wn eg.wl (zs z ef c) vr λa xs na qa => e1.aqi sm na qa
 by_cases an : p.1.any isS = true
 ·refine fin (λ_ => False) (λ_ z => z.elim) (λz ez c => .inr ?_) ?_
  ·cases fz : acw z with
   | true => rfl
   | false => exact (c ⟨an, fz⟩).elim
  ·rw [<-hK]
   exact r.reps
 ·refine fin W (λ_ z => z) (λz ez c => .inl λ_ z => z) ?_
  rw [<-hK]
  exact af0 e.wn v1 k1 (by simpa using an)
end
end L2
end
section
namespace L2
open PySem PySem.Spec PyProof.Rows
noncomputable abbrev FR := List Tr -> Rs ((Tr × Bool) × List Tr)
noncomputable def spR (K : PySem.W.Frag) (n r : Nat) (F : FR) : Sp := λvs H Q E => ∃ (Z : Addr -> Prop) (ts : List Tr) (a : Addr) (xs : List V) (us : List Tr), vs.length = n /\ ts.length = n /\ vs[r]? = some (.ref a) /\ ts[r]? = some (.lst us) /\ Z a /\ H a = some (.lst xs) /\ aaK (nlK K) (aaQ Z H) xs us /\
 (∀ j v u, j ≠ r -> vs[j]? = some v -> ts[j]? = some u -> Rep (nlK K) (aaQ Z H) v u) /\ (∀ b, Z b -> Lt H b) /\ TbS (nlK K) H /\
 (F ts).post (λ_ => False) (λp => ∀ v H' ys, (∀ b o, H b = some o -> b ≠ a -> ¬ Tb (nlK K) b -> H' b = some o) -> TbS (nlK K) H' -> (∀ b, H' b = none -> H b = none) -> H' a = some (.lst ys) -> aaK (nlK K) (aaQ Z H') ys p.2 -> adC p.2 = true -> VRt (nlK K) Z H H' v p.1.1 p.1.2 -> Q v H')
noncomputable def abH {α : Type} : Rs α -> Rs α
 | .bad => .bad
 | .ex _ => .bad
 | .ok a => .ok a
theorem adP {α : Type} {r : Rs α} {EX : Str -> Prop} {P : α -> Prop} (h : (abH r).post EX P) : r.post (λ_ => False) P := by
 cases r <;> exact h
theorem al5 {α : Type} (r : Rs α) (c : Str) : abH r ≠ .ex c := by
 cases r <;> (intro z; cases z)
theorem aiL {α β : Type} {r : Rs α} {f : α -> Rs β} (h1 : ∀ c, r ≠ .ex c) (h2 : ∀ a c, f a ≠ .ex c) (c : Str) : r.bind f ≠ .ex c := by
 cases r with
 | bad => intro z; cases z
 | ex d => exact (h1 d rfl).elim
 | ok a => exact h2 a c
noncomputable def fnR (nl r : Nat) (b : SF) : FR := λts => match ts[r]? with
 | some (.lst us) => (abH (b ((aaH nl ts).set r (.rf us)))).bind λq => (match q.2[r]? with
  | some (.rf ws) => if adC ws = true then (match q.1 with
   | .rt T fr => .ok ((T, fr), ws)
   | .nx => .ok ((.non, false), ws)
   | _ => .bad) else .bad
  | _ => .bad)
 | _ => .bad
theorem an3 (nl r : Nat) (b : SF) (as : List Tr) (c : Str) : fnR nl r b as ≠ .ex c := by
 unfold fnR
 split
 ·refine aiL (al5 _) (λq c => ?_) c
  split
  ·split
   ·split <;> (intro z; cases z)
   ·intro z; cases z
  ·intro z; cases z
 ·intro z; cases z
section
variable {P : Program} {w : World} {K : PySem.W.Frag} {mg : Str -> Option Value} {base : Heap}
theorem At.dfR {k : Nat} {x : Str} {st : Stmt} {N ps : List Str} {cl : Str -> Addr} {b : SF} (r : Nat) (a : At K mg x st) (S : aaL N ps (aal st)) (hn : ps.length <= N.length)
  (hb : ∀ (kV doc pm : Value) (an : Option Addr) (cdv ct : Value) (us : List Value), us.length = ps.length -> bindArgs (PySem.W.fnOf x x (ac5 st) (abW st) (aal st) .none kV doc pm an cdv ct) ⟨us, []⟩ = pure (ps.zip us))
  (hbody : ∀ (f : Addr) (cdv : Value) (A : Around) (outer : List Env) (s : Shared) (H : Hp) (E : XK), aeC k (A.deeper (envOfC x (aal st) s.heap.objs.size f cdv)) ->
   ∃ ts, PSs (ajN (CXF P w) P w K mg base N x (aal st) f cdv A outer s H E) (abW st) ts /\ ∀ t : Tx, t.K = nlK K -> (∀ c H', F0 t H' -> t.EX c -> E (.ref (cl c)) none H') -> SS t ts b) :
  DfX P w K mg base (k + 1) x ps (spR K ps.length r (fnR N.length r b)) := by
 refine a.dfx S hb (λvs H Q E h => ?_) (λf cdv A outer s H vs Q E hr h => ?_)
 ·obtain ⟨_, _, _, _, _, h, _⟩ := h; exact h
 obtain ⟨Z, as, ad, xs, us, hl, hl2, hv, ht, hz, hx, rx, ra, zl, tb, h⟩ := h
 have rx := rx.ae7 (afZ tb)
 have ra : ∀ j v u, j ≠ r -> vs[j]? = some v -> as[j]? = some u -> Rep (nlK K) (aaQ (λb => Z b \/ Tb (nlK K) b) H) v u := λj v u n q1 q2 => (ra j v u n q1 q2).ae7 (afZ tb)
 obtain ⟨ts, h1, h2⟩ := hbody f cdv A outer s H E hr
 refine ⟨ts, h1, ?_⟩
 unfold fnR at h
 rw [ht] at h
 have h : ((abH (b ((aaH N.length as).set r (.rf us)))).bind _).post _ _ := h
 refine h2 ⟨nlK K, Z, λb => b = ad \/ Tb (nlK K) b, H, λ_ => none, λ_ => False⟩ rfl (λc H' f0 q => q.elim) (λb => Z b \/ Tb (nlK K) b) ((aaH N.length as).set r (.rf us)) (start N vs) H _ ?_ (Rs.aag (adP (Rs.aac h)) λq h => ?_)
 ·have lr : r < as.length := (List.getElem?_eq_some_iff.mp ht).1
  have mu : ∀ j, Mu ((aaH N.length as).set r (.rf us)) j -> j = r := λj m => by
   obtain ⟨ws, q | q⟩ := m <;> rcases get_set q with ⟨rfl, _, _⟩ | ⟨ne, q⟩
   ·rfl
   ·rcases abM q with ⟨u', q1, z⟩ | z <;> cases z
   ·rfl
   ·rcases abM q with ⟨u', q1, z⟩ | z <;> cases z
  have al3 : ∀ (i : Nat) (ws : List Tr), ((aaH N.length as).set r (.rf us))[i]? = some (.dp ws) -> False := λi ws q => by
   rcases get_set q with ⟨rfl, z, _⟩ | ⟨ne, q⟩
   ·cases z
   ·rcases abM q with ⟨u', q1, z⟩ | z <;> cases z
  refine ⟨λ_ => [], ?_, λ_ z => .inl z, λb z => ?_, λb z => z.elim (zl b) (λz => .inr (tb.tbl z)), λb o q _ => q, λb q => q, λi u q => ?_, λi ws q => ?_, λi ws q => ?_, λi j c m1 m2 _ _ => (mu i m1).trans (mu j m2).symm, λb o z => (by cases z), λ_ _ _ _ => rfl, λi us q => (al3 i us q).elim, λi _ us _ _ q => (al3 i us q).elim, λi _ us _ q => (al3 i us q).elim, λi us q => (al3 i us q).elim, ⟨tb, λ_ z => .inr z, λ_ z => .inr z, λ_ _ => rfl⟩⟩
  ·unfold aaH start
   simp only [List.length_append, List.length_map, List.length_replicate, List.length_set]
   omega
  ·exact (zl b z).ne
  ·rcases get_set q with ⟨rfl, z, _⟩ | ⟨ne, q⟩
   ·cases z
   ·rcases abM q with ⟨u', q1, z⟩ | z
    ·cases z
     have lj : i < vs.length := by
      rw [hl, <-hl2]
      exact (List.getElem?_eq_some_iff.mp q1).1
     exact ⟨vs[i], ae8 (List.getElem?_eq_getElem lj), ra i _ _ ne (List.getElem?_eq_getElem lj) q1⟩
    ·cases z
  ·rcases get_set q with ⟨rfl, z, _⟩ | ⟨ne, q⟩
   ·cases z
   ·rcases abM q with ⟨u', q1, z⟩ | z <;> cases z
  ·rcases get_set q with ⟨rfl, z, _⟩ | ⟨ne, q⟩
   ·cases z
    exact ⟨ad, xs, ae8 hv, .inl hz, .inl rfl, hx, rx⟩
   ·rcases abM q with ⟨u', q1, z⟩ | z <;> cases z
 ·obtain ⟨fl, ρ'⟩ := q
  dsimp only at h
  split at h
  ·rename_i ws q
   split at h
   ·rename_i fl'
    have key : ∀ W' σ' H', EOk ⟨nlK K, Z, λb => b = ad \/ Tb (nlK K) b, H, λ_ => none, λ_ => False⟩ W' ρ' σ' H' -> (∀ b o, H b = some o -> b ≠ ad -> ¬ Tb (nlK K) b -> H' b = some o) /\ TbS (nlK K) H' /\ (∀ b, H' b = none -> H b = none) /\ ∃ ys, H' ad = some (.lst ys) /\ aaK (nlK K) (aaQ Z H') ys ws := λW' σ' H' e => by
     obtain ⟨c, ys, q1, q2, q3, q4, q5⟩ := e.rf r ws q
     have q3 : c = ad := q3.elim id λz => (e.tab.ok.ne z q4 rfl).elim
     subst q3
     exact ⟨λb o z n n' => e.f0 b o z λy => y.elim n n', e.tab.ok, e.n0, ys, q4, q5.mono (aiI e)⟩
    cases fl with
    | nx =>
     intro W' σ' H' e n
     obtain ⟨k1, k1b, k2, ys, k3, k4⟩ := key W' σ' H' e
     exact h .non H' ys k1 k1b k2 k3 k4 fl' .non
    | rt T fr =>
     intro v W' σ' H' e n
     obtain ⟨k1, k1b, k2, ys, k3, k4⟩ := key W' σ' H' e
     refine h v H' ys k1 k1b k2 k3 k4 fl' ?_
     cases fr <;> exact n
    | bk => exact h.elim
    | ct => exact h.elim
   ·exact h.elim
  ·exact h.elim
end
section
variable {t : Tx} {K : PySem.W.Frag}
theorem ae3.get {W : Addr -> Prop} {σ : St} {H H' : Hp} : ∀ {vs : List V} {rs : List Rv} {j : Nat} {v : V} {r : Rv}, ae3 K W σ H H' vs rs -> vs[j]? = some v -> rs[j]? = some r -> VOk K W σ H H' v r
 | _, _, _, _, _, .nil, e, _ => by simp at e
 | _, _, 0, _, _, .cons h _, e, q => by simp at e q; subst e q; exact h
 | _, _, j + 1, _, _, .cons _ t, e, q => ae3.get (j := j) t (by simpa using e) (by simpa using q)
theorem ahB {ρ : En} : ∀ {rs : List Rv} {as : List Tr} {j : Nat} {u : Tr}, drs ρ rs = .ok as -> as[j]? = some u -> ∃ r, rs[j]? = some r /\ dr ρ r = .ok u
 | [], _, _, _, h, e => by cases h; simp at e
 | r :: rs, as, j, u, h, e => by
  unfold drs at h
  obtain ⟨a, q1, h⟩ := aa2 h
  obtain ⟨bs, q2, h⟩ := aa2 h
  cases h
  cases j with
  | zero => simp at e; subst e; exact ⟨r, rfl, q1⟩
  | succ j =>
   obtain ⟨r', k1, k2⟩ := ahB (j := j) q2 (by simpa using e)
   exact ⟨r', by simpa using k1, k2⟩
theorem akz {ρ : En} : ∀ {rs : List Rv} {as : List Tr}, drs ρ rs = .ok as -> as.length = rs.length
 | [], _, h => by cases h; rfl
 | r :: rs, as, h => by
  unfold drs at h
  obtain ⟨a, q1, h⟩ := aa2 h
  obtain ⟨bs, q2, h⟩ := aa2 h
  cases h
  rw [List.length_cons, List.length_cons, akz q2]
theorem am6 {ρ : En} : ∀ {rs : List Rv} {as : List Tr} {j : Nat} {r : Rv}, drs ρ rs = .ok as -> rs[j]? = some r -> ∃ u, as[j]? = some u /\ dr ρ r = .ok u
 | [], _, _, _, h, e => by simp at e
 | r :: rs, as, j, u, h, e => by
  unfold drs at h
  obtain ⟨a, q1, h⟩ := aa2 h
  obtain ⟨bs, q2, h⟩ := aa2 h
  cases h
  cases j with
  | zero => simp at e; subst e; exact ⟨a, rfl, q1⟩
  | succ j =>
   obtain ⟨r', k1, k2⟩ := am6 (j := j) q2 (by simpa using e)
   exact ⟨r', by simpa using k1, k2⟩
noncomputable def others (r i : Nat) (rs : List Rv) : Bool := (rs.eraseIdx r).all λx => match x with
 | .s j => j != i
 | _ => true
noncomputable def aaY (r : Nat) (F : FR) (fa : AF) : EF := λρ => (fa ρ).bind λp => match p.1[r]? with
 | some (.s i) => if others r i p.1 = true then ((con p.2 i).bind λ_ => (drs p.2 p.1).bind λas => (F as).bind λz => if (p.1.eraseIdx r).any isS = true /\ acw z.1 = false then .bad else .ok (.v z.1.1 z.1.2, abf i z.2 p.2)) else .bad
 | _ => .bad
theorem agW {α : Type} {l : List α} {r j : Nat} {x : α} (n : j ≠ r) (h : l[j]? = some x) : x ∈ l.eraseIdx r := by
 rw [List.mem_eraseIdx_iff_getElem?]
 exact ⟨j, n, h⟩
theorem al6 (hK : t.K = nlK K) {n r : Nat} {F : FR} {E : XK} {ta : TA} {fa : AF} (nF : ∀ as c, F as ≠ .ex c) (hn : ∀ ρ p, fa ρ = .ok p -> p.1.length = n) (ha : SA t ta fa) : SE t (agC (spR K n r F) [] E ta) (aaY r F fa) := λW ρ σ H Q e h => by
 have h := Rs.aac h
 cases ek : fa ρ with
 | bad => rw [ek] at h; exact h.elim
 | ex c => exact ha W ρ σ H _ e (by rw [ek] at h ⊢; exact h)
 | ok p =>
 have hl := hn ρ p ek
 rw [ek] at h
 refine ha W ρ σ H _ e (post_eq ek ?_)
 intro vs H1 e1 s1 v1
 have h : (match p.1[r]? with
  | some (.s i) => if others r i p.1 = true then ((con p.2 i).bind λ_ => (drs p.2 p.1).bind λas => (F as).bind λz => if (p.1.eraseIdx r).any isS = true /\ acw z.1 = false then .bad else .ok (.v z.1.1 z.1.2, abf i z.2 p.2)) else .bad
  | _ => .bad : Rs (Rv × En)).post _ _ := h
 split at h
 ·rename_i i er
  split at h
  ·rename_i ho
   obtain ⟨us, k0, h⟩ := abl (Rs.aac h) (ae5 _ _)
   obtain ⟨as, k1, h⟩ := abl (Rs.aac h) (ad9 _ _)
   obtain ⟨z, k2, h⟩ := abl (Rs.aac h) (nF _)
   obtain ⟨mi, a, xs, hi, wa, hx, rx, h0⟩ := e1.con k0
   have lr : r < vs.length := by rw [v1.length]; exact (List.getElem?_eq_some_iff.mp er).1
   have hvr : vs[r]? = some (.ref a) := by
    have q := v1.get (List.getElem?_eq_getElem lr) er
    have q : σ[i]? = some (some vs[r]) := q
    rw [hi] at q
    rw [List.getElem?_eq_getElem lr, Option.some.inj (Option.some.inj q)]
   have hur : as[r]? = some (.lst us) := by
    obtain ⟨u, q1, q2⟩ := am6 k1 er
    rw [q1]
    unfold L2.con at k0
    dsimp only [dr] at q2
    split at k0 <;> rename_i q3
    ·rw [q3] at q2; cases q2; cases k0; rfl
    ·rw [q3] at q2; cases q2; cases k0; rfl
    ·cases k0
   split at h
   ·exact h.elim
   ·rename_i c
    have fin : ∀ Z : Addr -> Prop, Z a -> (∀ b, Z b -> W b) -> ((∀ b, W b -> Z b) \/ acw z.1 = true) -> (∀ j v u, j ≠ r -> vs[j]? = some v -> as[j]? = some u -> Rep (nlK K) (aaQ Z H1) v u) -> spR K n r F (vs ++ []) H1 Q E := λZ za zw zs rr => by
     rw [List.append_nil]
     refine ⟨Z, as, a, xs, us, v1.length.trans hl, (akz k1).trans hl, hvr, hur, za, hx, ?_, rr, λb z => e1.wl b (zw b z), by rw [<-hK]; exact e1.tab.ok, ?_⟩
     ·rw [<-hK]
      exact rx.mono (abK (λb _ _ z => zw b z) λ_ _ _ h => h)
     rw [k2]
     intro v H' ys fr tb dm hy ry fl vr
     rw [<-hK] at ry vr fr tb
     have kp : ∀ b o, ¬ W b -> H1 b = some o -> H' b = some o := λb o nw q => fr b o q (λz => by subst z; exact nw wa) λz => nw (e1.tab.w b z)
     have wl' : ∀ b, W b -> Lt H' b := λb wb => by
      by_cases q : b = a
      ·subst q; exact .inl ⟨ys, hy⟩
      ·by_cases z : Tb t.K b
       ·exact .inr (tb.tbl z)
       ·rcases e1.wl b wb with ⟨zs, q2⟩ | ⟨zs, q2⟩
        ·exact .inl ⟨zs, fr b _ q2 q z⟩
        ·exact .inr ⟨zs, fr b _ q2 q z⟩
     have st : Stp W H1 H' := ⟨kp, dm⟩
     have e2 : EOk t W (abf i z.2 p.2) σ H' := e1.move mi hi st.off (λ_ h => h) wl' tb fr dm h0 hy (ry.flat (ae6 wl') fl)
     refine h v H' e2 (s1.trans st) (VOE.back (H := H1) ?_ s1.dom)
     refine VRt.voe (W0 := W) (z := z.1) e1.wn wl' zs vr λb zs nb qb => ?_
     have wl2 : ∀ c, (W c \/ c = b) -> Lt H' c := λc wc => by
      rcases wc with wc | rfl
      ·exact wl' c wc
      ·exact .inl ⟨zs, qb⟩
     obtain ⟨F, e1F⟩ := id e1
     refine ⟨F, e1F.move mi hi (λc o q => ?_) (λ_ h => .inl h) wl2 tb fr dm h0 hy (ry.flat (ae6 wl2) fl), λj us hj zj => ?_⟩
     rotate_left
     ·obtain ⟨c, ys, h1, bs, _, _, ww, _⟩ := e1F.dp j us (adb hj)
      exact e1.wn b (ww b zj).1 nb
     obtain ⟨nc, q⟩ := aa4 q
     rw [aaB]
     ·exact kp c o nc q
     ·rintro (z | rfl)
      ·exact nc z
      ·rw [nb] at q; cases q
    by_cases an : (p.1.eraseIdx r).any isS = true
    ·refine fin (λb => b = a) rfl (λb z => by subst z; exact wa) (.inr ?_) λj v u nj qv qu => ?_
     ·cases fz : acw z.1 with
      | true => rfl
      | false => exact (c ⟨an, fz⟩).elim
     ·obtain ⟨x, q1, q2⟩ := ahB k1 qu
      have ok := v1.get qv q1
      rw [<-hK]
      cases x with
      | v T fr =>
       cases q2
       exact (ok.rep e.wn).mono (abK (λb _ _ z => by subst z; exact wa) λ_ _ _ h => h)
      | s j' =>
       have nj' : j' ≠ i := by
        have := List.all_eq_true.mp ho _ (agW nj q1)
        simpa using this
       have ok : σ[j']? = some (some v) := ok
       have q2 : dr p.2 (.s j') = .ok u := q2
       have q3 : ∃ ws, L2.con p.2 j' = .ok ws /\ u = .lst ws := by
        dsimp only [dr] at q2
        unfold L2.con
        split at q2 <;> rename_i q3
        ·cases q2; (try rw [q3]); exact ⟨_, rfl, rfl⟩
        ·cases q2; (try rw [q3]); exact ⟨_, rfl, rfl⟩
        ·cases q2
       obtain ⟨ws, q3, rfl⟩ := q3
       obtain ⟨mj, a', zs, hj, wj, hz, rz, _⟩ := e1.con q3
       rw [ok] at hj
       cases hj
       have na : a' ≠ a := λy => by
        subst y
        exact nj' (e1.dis j' i a' mj mi ok hi)
       refine .lst (SqL.of ?_) (rz.mono (abK (λb _ _ z => by subst z; exact wa) λ_ _ _ h => h))
       rw [aaB (W := λb => b = a) na]
       exact hz
    ·refine fin W wa (λ_ z => z) (.inl λ_ z => z) λj v u nj qv qu => ?_
     obtain ⟨x, q1, q2⟩ := ahB k1 qu
     have ok := v1.get qv q1
     rw [<-hK]
     cases x with
     | v T fr => cases q2; exact ok.rep e.wn
     | s j' =>
      refine (an ?_).elim
      exact List.any_eq_true.mpr ⟨_, agW nj q1, rfl⟩
  ·exact h.elim
 ·exact h.elim
end
end L2
end
section
namespace L2
open PySem PySem.Spec PyProof.Rows
section
variable {prog : Program} {w : World} {A : Around} {R : Result -> Shared -> Prop} {s : Shared}
theorem agX {elt target iter c : Expr} {scope : Scope} {pos : Pos} {it acc : Value} {env : Env} (I : Nat -> Shared -> Prop)
  (turn : ∀ n s, I n s -> wpAny (model prog w) A (pyNext it) (λr s₁ => match r with
   | none => R (.ok .next) s₁
   | some v => wpAny (model prog w) A (letOwnedTupleGo target it v) (λ_ s₁' => wpAny (model prog w) A (assign target env v) (λ_ s₂ => wpAny (model prog w) A (isTrue c env (eval c env)) (λb s₂' => if b = true then wpAny (model prog w) A (eval elt env) (λx s₃ =>
     wpAny (model prog w) A (call (.builtin "list.append") [acc, x]) (λ_ s₄ => ∃ m, m < n /\ I m s₄) (λ_ _ => False) s₃) (λ_ _ => False) s₂' else ∃ m, m < n /\ I m s₂') (λ_ _ => False) s₂) (λ_ _ => False) s₁') (λ_ _ => False) s₁) (λ_ _ => False) s)
  (n : Nat) (h : I n s) :
  codeAny (model prog w) A (.compLoop (.ListComp elt [⟨target, iter, [c], 0⟩] scope pos) 0 it acc env) R s := by
 refine codeAny_loop rfl I (λn s hI => ?_) n h
 show wpAny _ _ ((compTurn (.ListComp elt [⟨target, iter, [c], 0⟩] scope pos) 0 it acc env).onRaise (λx => do noteFrame x env; theTreesLotGoes x)) _ _ s
 refine wpAny_noted (wpAny_noRaise ?_)
 rw [compTurn_list]
 refine wpAny_bind (wpAny_standAt (wpAny_bind (wpAny_mono (turn n s hI) (λr s₁ h₁ => ?_) λ_ _ h' => h')))
 cases r with
 | none => exact wpAny_pure h₁
 | some v =>
  refine wpAny_bind (wpAny_mono h₁ (λ_ s₁' h₁' => ?_) λ_ _ h' => h')
  refine wpAny_bind (wpAny_mono h₁' (λ_ s₂ h₂ => wpAny_bind (wpAny_tests_one (wpAny_mono h₂ (λok s₃ h₃ => ?_) λ_ _ h' => h'))) λ_ _ h' => h')
  cases ok with
  | false => exact wpAny_pure ⟨rfl, h₃⟩
  | true =>
   exact wpAny_bind (wpAny_bind (wpAny_mono h₃ (λx s₄ h₄ => wpAny_bind (wpAny_mono h₄ (λ_ s₅ h₅ => wpAny_pure (wpAny_pure ⟨rfl, h₅⟩)) λ_ _ h' => h')) λ_ _ h' => h'))
end
noncomputable def afB (wi : TI) (g : TG) (src : List (Option Nat)) (tc : TT) (te : TE) : TE := λσ H Q => wi σ H λJ H1 => ∀ D, H1 D = none ->
 ∃ W : Nat -> Nat -> St -> Hp -> Prop, (∃ m, W 0 m (afR src σ) (upd H1 D (.lst []))) /\ ∀ i m σ' H', W i m σ' H' ->
  (J.stop i H' /\ QAt Q D H') \/ (J.go i H' /\ ∀ x H'', J.yld i H' x H'' -> g x σ' H'' λσ2 H2 => tc σ2 H2 λb H2' => if b = true then te σ2 H2' λv H3 => ∃ xs, H3 D = some (.lst xs) /\ xs.length < sizeLine /\ ∃ m', m' < m /\ W (i + 1) m' σ2 (upd H3 D (.lst (xs ++ [v]))) else ∃ m', m' < m /\ W (i + 1) m' σ2 H2')
section
variable {X : Cx} {elt tg iter cnd : Expr} {scope sc : Scope} {pos : Pos} {No N : List Str} {src : List (Option Nat)} {wi : TI} {g : TG} {te : TE} {tc : TT}
theorem agY {pins : List (Addr × Obj)} {σ : St} {H : Hp} {s : Shared} {Q : VK} {RR : Value -> Addr -> Result -> Shared -> Prop} (hsc : X.env.scope = sc) (hNo : X.N = No) (S : afw sc No N src scope) (hc : X.calm = true)
  (hi : PI X tg iter wi) (hg : ∀ C s H ex, PG (aa9 X N scope C s H ex) tg g) (hq : ∀ C s H ex, PT (aa9 X N scope C s H ex) cnd tc) (he : ∀ C s H ex, PE (aa9 X N scope C s H ex) elt te) (I : Inv X pins σ H s) (h : afB wi g src tc te σ H Q)
  (hRR : ∀ D C H' s' m, Inv X pins σ H' s' -> H' C = none -> C ≠ X.env.locals -> X.s₀.heap.objs.size <= C -> (∀ x c, X.env.cells.lookup x = some c -> c ≠ C) -> (∀ p ∈ X.pn ++ pins, p.1 ≠ C) -> s'.heap.Ns C m -> Q (.ref D) H' -> RR (.ref D) C (.ok .next) s') :
  wpAny (model X.prog X.w) X.A (eval iter X.env) (λx s₁ => wpAny (model X.prog X.w) X.A (pyIter x) (λit s₂ => wpAny (model X.prog X.w) X.A (newList []) (λacc s₃ =>
   wpAny (model X.prog X.w) X.A (newFunctionEnv scope X.env.globals (aax X.env.cells scope.names []) [] X.env.qual none .none (some X.env)) (λcenv s₄ =>
    codeAny (model X.prog X.w) X.A (.compStart (.ListComp elt [⟨tg, iter, [cnd], 0⟩] scope pos) 0 it acc { cenv with scope := relabel scope X.env }) (RR acc cenv.locals) s₄) X.xe s₃) X.xe s₂) X.xe s₁) X.xe s := by
 refine thn (hi pins s σ H _ I h) λv s1 h1 => thn h1 λitv s2 h2 => ?_
 obtain ⟨it, fp, tn, J, H2, e, I2, T, st2, f2, hW⟩ := h2
 subst e
 have hD0 : H2 s2.heap.objs.size = none := I2.hok.fresh (Nat.le_refl _)
 obtain ⟨W, ⟨m0, w0⟩, turn⟩ := hW s2.heap.objs.size hD0
 have apH : ∀ b ∈ fp, b < s2.heap.objs.size := λb hb => by
  obtain ⟨o, e, _⟩ := T.obj 0 _ st2 b hb
  exact Heap.lt_size e
 refine wpAny_newObj_type ?_
 have I3 : Inv X pins σ (upd H2 s2.heap.objs.size (.lst [])) { s2 with heap := s2.heap.push { cls := .type "list", dict := none, data := .seq ([] : List Value).toArray } } := I2.arE (t' := s2.toks) (ys := []) .nil (Nat.zero_le _)
 have f3 : ∀ b ∈ fp, aj0 X pins (upd H2 s2.heap.objs.size (.lst [])) b := λb hb => by
  obtain ⟨q, r⟩ := f2 b hb
  exact ⟨by rw [aaC (Nat.ne_of_lt (apH b hb))]; exact q, r⟩
 have st3 : tn 0 (s2.heap.push { cls := .type "list", dict := none, data := .seq ([] : List Value).toArray }) := T.keep _ _ _ st2 λb hb o e => Heap.get?_push_of_some _ e
 have lt3 : ∀ b ∈ fp, b < (s2.heap.push { cls := .type "list", dict := none, data := .seq ([] : List Value).toArray }).objs.size := λb hb => by
  rw [Heap.size_push]; exact Nat.lt_succ_of_lt (apH b hb)
 generalize hD : s2.heap.objs.size = D at *
 generalize hh3 : s2.heap.push { cls := .type "list", dict := none, data := .seq ([] : List Value).toArray } = h3 at *
 generalize hH3 : upd H2 D (.lst []) = H3 at *
 refine acX λh₁ hns old ck => ?_
 dsimp only at hns old ck ⊢
 have I4 : Inv (aa9 X N scope h3.objs.size { s2 with heap := h3 } H3 fp) [] (afR src σ) H3 { s2 with heap := h₁, toks := s2.toks + ([] : List (Str × Value)).length } := afx (s := { s2 with heap := h3 }) hsc hNo S I3 f3 lt3 hns old ck
 have st4 : tn 0 h₁ := T.keep _ _ _ st3 λb hb o e => old b o e
 have loop : codeAny (model X.prog X.w) X.A (.compLoop (.ListComp elt [⟨tg, iter, [cnd], 0⟩] scope pos) 0 (.ref it) (.ref D) (compEnvC scope (cellsFrom (h3.objs.size + 1) scope.names (aax X.env.cells scope.names [])) h3.objs.size X.env)) (RR (.ref D) h3.objs.size) { s2 with heap := h₁, toks := s2.toks + ([] : List (Str × Value)).length } := by
  have stat : ∀ {H' : Hp}, (∀ b ∈ fp, H' b = none) -> ∀ b ∈ fp, aj0 (aa9 X N scope h3.objs.size { s2 with heap := h3 } H3 fp) [] H' b := λhn b hb => by
   obtain ⟨g0, g1, g2, g3, g4, g5⟩ := f3 b hb
   refine ⟨hn b hb, Nat.ne_of_lt (lt3 b hb), λz => ?_, .inl hb, λx c e => ?_, λp hp => absurd (show p ∈ ([] : List (Addr × Obj)) from hp) (by simp)⟩
   ·rcases List.mem_cons.mp (I3.agx b z) with z | z
    ·exact g1 z
    ·exact g2 z
   ·have e : (cellsFrom (h3.objs.size + 1) scope.names (aax X.env.cells scope.names [])).lookup x = some c := e
    rw [aaW, ab4] at e
    split at e
    ·rename_i z
     cases e
     exact λy => absurd (Nat.le_trans (ck.empty x c (PySem.mem_of_lookup z)).2 (y ▸ Nat.le_of_lt (lt3 b hb))) (Nat.not_succ_le_self _)
    ·rcases abe e with q | q
     ·simp at q
     ·exact g4 x c q
  refine agX (λn s' => ∃ i σ' H', Inv (aa9 X N scope h3.objs.size { s2 with heap := h3 } H3 fp) [] σ' H' s' /\ tn i s'.heap /\ (∀ b ∈ fp, H' b = none) /\ W i n σ' H') ?_ m0 ⟨0, afR src σ, H3, I4, st4, λb hb => (f3 b hb).1, w0⟩
  rintro n s5 ⟨i, σ5, H5, I5, st5, fr5, w5⟩
  rcases turn i n σ5 H5 w5 with ⟨stop, qn⟩ | ⟨go, step⟩
  ·refine thn (T.done (aa9 X N scope h3.objs.size { s2 with heap := h3 } H3 fp) rfl rfl rfl hc i [] s5 σ5 H5 (λ_ _ => False) I5 (stat fr5) st5 stop) λr s6 ⟨hr, I6⟩ => ?_
   subst hr
   obtain ⟨mC, hnC, _⟩ := id I6.loc
   have I7 : Inv X pins σ H5 s6 := I3.call' (ch := fp) I6.os I6.base I6.hok I6.bare λb hb => by
    obtain ⟨g0, g1, g2, g3, g4, g5⟩ := f3 b hb
    exact ⟨g3, g1, g4, g5⟩
   refine hRR D h3.objs.size H5 s6 mC I7 I6.free (Nat.ne_of_gt I3.lt) I3.sz (λx c e z => ?_) (λp hp z => ?_) hnC qn
   ·obtain ⟨v, q⟩ := I3.cell x c e
    exact absurd q.lt (by rw [z]; exact Nat.lt_irrefl _)
   ·exact absurd (Heap.lt_size (I3.pin p hp).1) (by rw [z]; exact Nat.lt_irrefl _)
  ·refine thn (T.item (aa9 X N scope h3.objs.size { s2 with heap := h3 } H3 fp) rfl rfl rfl hc i [] s5 σ5 H5 (λ_ _ => False) I5 (stat fr5) st5 go) λr s6 ⟨u, hr, h6⟩ => ?_
   subst hr
   refine thn h6 λ_ s7 ⟨x, H7, I7, r7, y7, st7, fr7⟩ => ?_
   have I7' := I7.pinned (stat fr7) (T.obj _ _ st7)
   refine thn (hg _ _ _ _ _ s7 σ5 H7 x u _ I7' r7 (step x H7 y7)) λ_ s8 ⟨σ8, H8, I8, q8⟩ => ?_
   refine thn (hq _ _ _ _ _ s8 σ8 H8 _ I8 q8) λbb s8' ⟨H8', I8', q8'⟩ => ?_
   cases bb with
   | false =>
    rw [if_neg (by decide)] at q8' ⊢
    obtain ⟨m', hm, w9⟩ := q8'
    refine ⟨m', hm, i + 1, σ8, H8', I8'.adn (pins := []), T.keep _ _ _ st7 λb hb o e => (I8'.pin (b, o) (List.mem_append_right _ (List.mem_append_right _ (abF hb e)))).1, λb hb => ?_, w9⟩
    obtain ⟨o, e, d⟩ := T.obj _ _ st7 b hb
    exact (I8'.pin (b, o) (List.mem_append_right _ (List.mem_append_right _ (abF hb e)))).2.1
   | true =>
   rw [if_pos rfl] at q8' ⊢
   refine thn (he _ _ _ _ _ s8' σ8 H8' _ I8' q8') λyv s9 ⟨y, H9, I9, r9, q9⟩ => ?_
   obtain ⟨xs, e9, l9, m', hm, w9⟩ := q9
   refine thn (acA (X := aa9 X N scope h3.objs.size { s2 with heap := h3 } H3 fp) _ s9 σ8 H9 (.ref D) [y] (.ref D) [yv] (λ_ H' => W (i + 1) m' σ8 H') I9 rfl (.cons r9 .nil) ⟨D, xs, y, rfl, rfl, e9, l9, w9⟩) λ_ s10 ⟨_, H10, I10, _, q10⟩ => ?_
   refine ⟨m', hm, i + 1, σ8, H10, I10.adn (pins := []), T.keep _ _ _ st7 λb hb o e => (I10.pin (b, o) (List.mem_append_right _ (List.mem_append_right _ (abF hb e)))).1, λb hb => ?_, q10⟩
   obtain ⟨o, e, d⟩ := T.obj _ _ st7 b hb
   exact (I10.pin (b, o) (List.mem_append_right _ (List.mem_append_right _ (abF hb e)))).2.1
 exact codeAny_compStart_list loop (T.self _ _ _ _ _ st4 loop)
theorem al7 (hsc : X.env.scope = sc) (hNo : X.N = No) (S : afw sc No N src scope) (hc : X.calm = true)
  (hi : PI X tg iter wi) (hg : ∀ C s H ex, PG (aa9 X N scope C s H ex) tg g) (hq : ∀ C s H ex, PT (aa9 X N scope C s H ex) cnd tc) (he : ∀ C s H ex, PE (aa9 X N scope C s H ex) elt te)
  (hs : ∀ x, foldedSetIterable iter X.env x = pure x := by intro _; rfl) : PE X (.ListComp elt [⟨tg, iter, [cnd], 0⟩] scope pos) (afB wi g src tc te) := by
 intro pins s σ H Q I h
 rw [eval_ListComp]
 have hcl : closureFor scope X.env = pure (aax X.env.cells scope.names []) := ad7 λy hy e => by
  have k := S.free y hy e
  rw [<-hsc] at k
  obtain ⟨c, q⟩ := I.ok.has y.1 k
  rw [q]; rfl
 refine wpAny_comprehension_free (use := none) rfl hs hcl S.kind S.names (agY (RR := λacc C => compPost (model X.prog X.w) X.A X.xe none (EP X pins σ Q) acc C) hsc hNo S hc hi hg hq he I h ?_)
 intro D C H' s' m I' n1 n2 n3 n4 n5 hn q
 refine ⟨m, hn, λh' hs' => ⟨.ref D, H', ?_, rfl, q⟩⟩
 exact I'.turned (t' := s'.toks) (λb o hb e => (hs'.2 b hb).trans e) n1 (Ne.symm (Ne.symm n2)) (.inr n3) n4 n5
theorem ahC {i : Nat} {y : Str} {py spos : Pos} (hN : X.N.Nodup) (hyi : X.N[i]? = some y) (hy : Loc X.env.scope y) (hsc : X.env.scope = sc) (hNo : X.N = No) (S : afw sc No N src scope) (hc : X.calm = true)
  (hi : PI X tg iter wi) (hg : ∀ C s H ex, PG (aa9 X N scope C s H ex) tg g) (hq : ∀ C s H ex, PT (aa9 X N scope C s H ex) cnd tc) (he : ∀ C s H ex, PE (aa9 X N scope C s H ex) elt te)
  (hsw : swapsWith (.ListComp elt [⟨tg, iter, [cnd], 0⟩] scope pos) (some (.Name y py)) spos.line X.env = pure true := by rfl) (hs : ∀ x, foldedSetIterable iter X.env x = pure x := by intro _; rfl)
  (hf : X.fn y = true \/ X.env.scope.names.lookup y = some .local := by first | exact .inl rfl | exact .inr rfl | assumption) :
  PS X (.Assign [.Name y py] (.ListComp elt [⟨tg, iter, [cnd], 0⟩] scope pos) spos) (amP (afB wi g src tc te) (acz i)) := by
 intro pins s σ H D I h
 rw [exec_Assign_Name_used _ _ _ _ hsw]
 have hcl : closureFor scope X.env = pure (aax X.env.cells scope.names []) := ad7 λy hy e => by
  have k := S.free y hy e
  rw [<-hsc] at k
  obtain ⟨c, q⟩ := I.ok.has y.1 k
  rw [q]; rfl
 refine wpAny_bind (wpAny_standAt (wpAny_bind ?_))
 show wpAny _ X.A (do let _ <-comprehension (.ListComp elt [⟨tg, iter, [cnd], 0⟩] scope pos) scope X.env _ (newList []) false (eval iter X.env) (some (assign (.Name y py) X.env))) _ _ s
 refine wpAny_bind (wpAny_mono (wpAny_comprehension_free (use := some (assign (.Name y py) X.env)) (Q := λ_ s' => SP X pins D .next s') rfl hs hcl S.kind S.names
  (agY (Q := λv H' => D.nx (σ.set i (some v)) H') (RR := λacc C => compPost (model X.prog X.w) X.A X.xe (some (assign (.Name y py) X.env)) (λ_ s' => SP X pins D .next s') acc C) hsc hNo S hc hi hg hq he I h ?_)) (λ_ s' hq => wpAny_pure (wpAny_pure hq)) λ_ _ e => e)
 intro Da C H' s' m I' n1 n2 n3 n4 n5 hn q
 show wpAny _ X.A (assign (.Name y py) X.env (.ref Da)) _ _ _
 refine wpAny_assign_Name (agy I' hN hyi hy (v := .ref Da) rfl (λs2 I2 hsame => ?_) hf)
 obtain ⟨a, hsb, ha⟩ := hsame
 have hCa : C ≠ a := by
  rcases ha with z | z
  ·rw [z]; exact n2
  ·exact λe => n4 y a z e.symm
 refine ⟨m, hn.sameBut hsb hCa, λh' hs' => ⟨σ.set i (some (.ref Da)), H', ?_, q⟩⟩
 exact I2.turned (t' := s2.toks) (λb o hb e => (hs'.2 b hb).trans e) n1 n2 (.inr n3) n4 n5
end
end L2
end
section
namespace L2
open PySem PySem.Spec PyProof.Rows
noncomputable def acP : Sl -> Sl
 | .dp _ => .un
 | s => s
noncomputable def abS (src : List (Option Nat)) (ρ : En) : En := src.map λo => match o with
 | some j => acP ((ρ[j]?).getD .un)
 | none => .un
noncomputable def abq : List (Option Nat) -> En -> En -> En
 | some j :: src, .ow ts :: ρi, ρ => abq src ρi (abf j ts ρ)
 | some j :: src, .rf ts :: ρi, ρ => abq src ρi (abf j ts ρ)
 | _ :: src, _ :: ρi, ρ => abq src ρi ρ
 | _, _, ρ => ρ
noncomputable def acE : Option Sl -> Bool
 | some (.ow _) => true
 | some (.rf _) => true
 | _ => false
noncomputable def abZ : List (Option Nat) -> En -> En -> Bool
 | some j :: src, s :: ρi, ρ => (!acE ρ[j]? || acE (some s)) && abZ src ρi ρ
 | none :: src, _ :: ρi, ρ => abZ src ρi ρ
 | [], _, _ => true
 | _, [], _ => false
theorem aiM {ρ : En} {i : Nat} : acE ρ[i]? = true ↔ Mu ρ i := by
 constructor
 ·intro h
  unfold acE at h
  split at h <;> rename_i q
  ·exact ⟨_, .inl q⟩
  ·exact ⟨_, .inr q⟩
  ·cases h
 ·rintro ⟨ts, h | h⟩ <;> rw [h] <;> rfl
theorem af2 : ∀ {src : List (Option Nat)} {ρi ρ : En} {k j : Nat}, abZ src ρi ρ = true -> src[k]? = some (some j) -> Mu ρ j -> Mu ρi k
 | [], _, _, _, _, _, h, _ => by simp at h
 | some j' :: src, s :: ρi, ρ, k, j, h, hk, m => by
  unfold abZ at h
  rw [Bool.and_eq_true] at h
  cases k with
  | zero =>
   simp at hk
   subst hk
   have h1 := h.1
   rw [aiM.mpr m] at h1
   have h1 : acE (some s) = true := by simpa using h1
   cases s with
   | un => cases h1
   | sh _ => cases h1
   | dp _ => cases h1
   | ow ts => exact ⟨ts, .inl rfl⟩
   | rf ts => exact ⟨ts, .inr rfl⟩
  | succ k =>
   obtain ⟨ts, q⟩ := af2 (k := k) h.2 (by simpa using hk) m
   exact ⟨ts, by simpa using q⟩
 | none :: src, s :: ρi, ρ, k, j, h, hk, m => by
  unfold abZ at h
  cases k with
  | zero => simp at hk
  | succ k =>
   obtain ⟨ts, q⟩ := af2 (k := k) h (by simpa using hk) m
   exact ⟨ts, by simpa using q⟩
 | some j' :: src, [], ρ, k, j, h, hk, m => by unfold abZ at h; cases h
 | none :: src, [], ρ, k, j, h, hk, m => by unfold abZ at h; cases h
noncomputable def Inj (src : List (Option Nat)) : Prop := ∀ (k k' j : Nat), src[k]? = some (some j) -> src[k']? = some (some j) -> k = k'
theorem ade {src : List (Option Nat)} (h : (src.filterMap id).Nodup) : Inj src := by
 induction src with
 | nil => intro k k' j h1; simp at h1
 | cons o src ih =>
  have tail : Inj src := by
   cases o with
   | none => exact ih (by simpa using h)
   | some j => exact ih (by simpa using (List.nodup_cons.mp (by simpa using h)).2)
  intro k k' j h1 h2
  have no : ∀ {m : Nat}, o = some j -> src[m]? = some (some j) -> False := λ{m} e q => by
   subst e
   have n := (List.nodup_cons.mp (show (j :: src.filterMap id).Nodup by simpa using h)).1
   exact n (List.mem_filterMap.mpr ⟨some j, List.mem_of_getElem? q, rfl⟩)
  cases k with
  | zero =>
   have e1 : o = some j := by simpa using h1
   cases k' with
   | zero => rfl
   | succ k' => exact (no e1 (by simpa using h2)).elim
  | succ k =>
   cases k' with
   | zero => exact (no (by simpa using h2) (by simpa using h1)).elim
   | succ k' => rw [tail k k' j (by simpa using h1) (by simpa using h2)]
theorem akA {ρ : En} {i j : Nat} {ts : List Tr} (h : j ≠ i) : (abf i ts ρ)[j]? = ρ[j]? := by
 unfold abf
 split
 ·exact List.getElem?_set_ne (Ne.symm h)
 ·exact List.getElem?_set_ne (Ne.symm h)
 ·rfl
theorem an4 {ρ ρ' : En} {i : Nat} {ts : List Tr} (h : ρ[i]? = ρ'[i]?) : (abf i ts ρ)[i]? = (abf i ts ρ')[i]? := by
 unfold abf
 rw [h]
 cases q : ρ'[i]? with
 | none => dsimp only; rw [h, q]
 | some s =>
  have l' : i < ρ'.length := (List.getElem?_eq_some_iff.mp q).1
  have l : i < ρ.length := (List.getElem?_eq_some_iff.mp (h.trans q)).1
  cases s with
  | un => dsimp only; rw [h, q]
  | sh _ => dsimp only; rw [h, q]
  | dp _ => dsimp only; rw [h, q]
  | ow _ => dsimp only; rw [aec l, aec l']
  | rf _ => dsimp only; rw [aec l, aec l']
theorem ae9 : ∀ (src : List (Option Nat)) (ρi ρ : En), (abq src ρi ρ).length = ρ.length
 | [], ρi, ρ => by unfold abq; rfl
 | o :: src, [], ρ => by cases o <;> (unfold abq; rfl)
 | none :: src, s :: ρi, ρ => by unfold abq; exact ae9 src ρi ρ
 | some j :: src, .un :: ρi, ρ => by unfold abq; exact ae9 src ρi ρ
 | some j :: src, .sh _ :: ρi, ρ => by unfold abq; exact ae9 src ρi ρ
 | some j :: src, .dp _ :: ρi, ρ => by unfold abq; exact ae9 src ρi ρ
 | some j :: src, .ow ts :: ρi, ρ => by unfold abq; rw [ae9 src ρi, afY]
 | some j :: src, .rf ts :: ρi, ρ => by unfold abq; rw [ae9 src ρi, afY]
theorem afa : ∀ {src : List (Option Nat)} {ρi ρ : En} {j : Nat} {s : Sl}, Inj src -> (abq src ρi ρ)[j]? = some s ->
  (∃ (k : Nat) (ts : List Tr), src[k]? = some (some j) /\ (ρi[k]? = some (.ow ts) \/ ρi[k]? = some (.rf ts)) /\ (abf j ts ρ)[j]? = some s) \/ ((∀ k : Nat, src[k]? = some (some j) -> ¬ Mu ρi k) /\ ρ[j]? = some s)
 | [], ρi, ρ, j, s, _, h => by
  unfold abq at h
  exact .inr ⟨λk q => by simp at q, h⟩
 | o :: src, [], ρ, j, s, _, h => by
  have h : ρ[j]? = some s := by cases o <;> (unfold abq at h; exact h)
  refine .inr ⟨λk _ m => ?_, h⟩
  obtain ⟨_, q | q⟩ := m <;> simp at q
 | o :: src, x :: ρi, ρ, j, s, I, h => by
  have It : Inj src := λk k' j h1 h2 => by
   have := I (k + 1) (k' + 1) j (by simpa using h1) (by simpa using h2)
   omega
  have keep : (o = none \/ acE (some x) = false) -> (abq src ρi ρ)[j]? = some s -> (∃ (k : Nat) (ts : List Tr), (o :: src)[k]? = some (some j) /\ ((x :: ρi)[k]? = some (.ow ts) \/ (x :: ρi)[k]? = some (.rf ts)) /\ (abf j ts ρ)[j]? = some s) \/ ((∀ k : Nat, (o :: src)[k]? = some (some j) -> ¬ Mu (x :: ρi) k) /\ ρ[j]? = some s) := λc h => by
   rcases afa It h with ⟨k, ts, q1, q2, q3⟩ | ⟨n, q⟩
   ·exact .inl ⟨k + 1, ts, by simpa using q1, by simpa using q2, q3⟩
   ·refine .inr ⟨λk qk m => ?_, q⟩
    cases k with
    | zero =>
     rcases c with c | c
     ·subst c; simp at qk
     ·rw [<-aiM] at m
      have m : acE (some x) = true := m
      rw [c] at m
      cases m
    | succ k =>
     obtain ⟨ts, m⟩ := m
     exact n k (by simpa using qk) ⟨ts, by simpa using m⟩
  have put : ∀ (i : Nat) (ts : List Tr), o = some i -> (x = .ow ts \/ x = .rf ts) -> (abq src ρi (abf i ts ρ))[j]? = some s -> (∃ (k : Nat) (ts : List Tr), (o :: src)[k]? = some (some j) /\ ((x :: ρi)[k]? = some (.ow ts) \/ (x :: ρi)[k]? = some (.rf ts)) /\ (abf j ts ρ)[j]? = some s) \/ ((∀ k : Nat, (o :: src)[k]? = some (some j) -> ¬ Mu (x :: ρi) k) /\ ρ[j]? = some s) := λi ts eo ex h => by
   rcases afa It h with ⟨k, us, q1, q2, q3⟩ | ⟨n, q⟩
   ·have ne : j ≠ i := λz => by
     subst z
     have := I 0 (k + 1) j (by simpa using eo) (by simpa using q1)
     omega
    refine .inl ⟨k + 1, us, by simpa using q1, by simpa using q2, ?_⟩
    rw [<-an4 (akA ne)]
    exact q3
   ·by_cases e : j = i
    ·subst e
     refine .inl ⟨0, ts, by simpa using eo, ?_, q⟩
     rcases ex with rfl | rfl
     ·exact .inl rfl
     ·exact .inr rfl
    ·rw [akA e] at q
     refine .inr ⟨λk qk m => ?_, q⟩
     cases k with
     | zero =>
      rw [eo] at qk
      simp at qk
      exact e qk.symm
     | succ k =>
      obtain ⟨ts, m⟩ := m
      exact n k (by simpa using qk) ⟨ts, by simpa using m⟩
  cases o with
  | none => unfold abq at h; exact keep (.inl rfl) h
  | some i =>
   cases x with
   | un => unfold abq at h; exact keep (.inr rfl) h
   | sh _ => unfold abq at h; exact keep (.inr rfl) h
   | dp _ => unfold abq at h; exact keep (.inr rfl) h
   | ow ts => unfold abq at h; exact put i ts rfl (.inl rfl) h
   | rf ts => unfold abq at h; exact put i ts rfl (.inr rfl) h
theorem agZ {src : List (Option Nat)} {ρ : En} {k : Nat} {s : Sl} (h : (abS src ρ)[k]? = some s) (n : s ≠ .un) : ∃ j, src[k]? = some (some j) /\ ρ[j]? = some s := by
 unfold abS at h
 rw [List.getElem?_map] at h
 cases q : src[k]? with
 | none => rw [q] at h; cases h
 | some o =>
  rw [q] at h
  cases o with
  | none => cases h; exact (n rfl).elim
  | some j =>
   refine ⟨j, rfl, ?_⟩
   have h : acP ((ρ[j]?).getD .un) = s := Option.some.inj h
   cases z : ρ[j]? with
   | none => rw [z] at h; exact (n h.symm).elim
   | some s' =>
    rw [z] at h
    have h : acP s' = s := h
    cases s' <;> first | exact congrArg some h | exact (n h.symm).elim
theorem al8 {src : List (Option Nat)} {ρ : En} {k : Nat} {ts : List Tr} (h : (abS src ρ)[k]? = some (.dp ts)) : False := by
 unfold abS at h
 rw [List.getElem?_map] at h
 cases q : src[k]? with
 | none => rw [q] at h; cases h
 | some o =>
  rw [q] at h
  cases o with
  | none => cases h
  | some j =>
   have h : acP ((ρ[j]?).getD .un) = .dp ts := Option.some.inj h
   cases z : (ρ[j]?).getD Sl.un <;> rw [z] at h <;> cases h
theorem aje {src : List (Option Nat)} {ρi ρ : En} {j : Nat} {ts : List Tr} (I : Inj src) (h : (abq src ρi ρ)[j]? = some (.dp ts)) : ρ[j]? = some (.dp ts) := by
 rcases afa I h with ⟨k, us, _, _, q⟩ | ⟨_, q⟩
 ·exact adb q
 ·exact q
theorem aiN {src : List (Option Nat)} {σ : St} {k j : Nat} (h : src[k]? = some (some j)) : (afR src σ)[k]? = some ((σ[j]?).join) := by
 unfold afR
 rw [List.getElem?_map, h]
 rfl
end L2
end
section
namespace L2
open PySem PySem.Spec PyProof.Rows
noncomputable def OU (src : List (Option Nat)) (ρ : En) (σ : St) (F : Nat -> List Addr) (b : Addr) : Prop := (∃ j : Nat, Mu ρ j /\ σ[j]? = some (some (.ref b)) /\ ∀ k : Nat, src[k]? ≠ some (some j)) \/ ∃ (j : Nat) (ts : List Tr), ρ[j]? = some (.dp ts) /\ b ∈ F j
open Classical in
noncomputable def tB' (t : Tx) (src : List (Option Nat)) (ρ : En) (σ : St) (F : Nat -> List Addr) (H1 : Hp) (D : Addr) (xs : List V) : Tx := ⟨t.K, t.Z, t.R, t.H0, λb => if b = D then some (.lst xs) else if OU src ρ σ F b then H1 b else t.B b, λ_ => False⟩
section
variable {t : Tx} {src : List (Option Nat)} {ρ1 : En} {σ : St} {F : Nat -> List Addr} {H1 : Hp} {D : Addr} {W : Addr -> Prop}
theorem B_D {xs : List V} : (tB' t src ρ1 σ F H1 D xs).B D = some (.lst xs) := if_pos rfl
theorem am7 {xs : List V} {b : Addr} (h1 : b ≠ D) (h2 : ¬ OU src ρ1 σ F b) : (tB' t src ρ1 σ F H1 D xs).B b = t.B b := by
 unfold tB'
 dsimp only
 rw [if_neg h1, if_neg h2]
theorem an5 {xs : List V} {b : Addr} (h1 : b ≠ D) (h2 : OU src ρ1 σ F b) : (tB' t src ρ1 σ F H1 D xs).B b = H1 b := by
 unfold tB'
 dsimp only
 rw [if_neg h1, if_pos h2]
theorem an6 {k : Nat} (h : Mu (abS src ρ1) k) : ∃ j, src[k]? = some (some j) /\ Mu ρ1 j := by
 obtain ⟨ts, q | q⟩ := h
 ·obtain ⟨j, h1, h2⟩ := agZ q (by intro z; cases z)
  exact ⟨j, h1, ts, .inl h2⟩
 ·obtain ⟨j, h1, h2⟩ := agZ q (by intro z; cases z)
  exact ⟨j, h1, ts, .inr h2⟩
theorem af3 {k j : Nat} {v : V} (h : src[k]? = some (some j)) (q : (afR src σ)[k]? = some (some v)) : σ[j]? = some (some v) := by
 rw [aiN h] at q
 have q := Option.some.inj q
 cases z : σ[j]? with
 | none => rw [z] at q; cases q
 | some o =>
  rw [z] at q
  have q : o = some v := q
  rw [q]
theorem aeP {k j : Nat} {v : V} (h : src[k]? = some (some j)) (q : σ[j]? = some (some v)) : (afR src σ)[k]? = some (some v) := by
 rw [aiN h, q]
 rfl
theorem OU.tab {b : Addr} (e1F : EOF t W ρ1 σ H1 F) (z : Tb t.K b) : ¬ OU src ρ1 σ F b := by
 rintro (⟨j, m, q, _⟩ | ⟨j, ts, d', y⟩)
 ·obtain ⟨xs, h⟩ := EOk.aqg ⟨F, e1F⟩ m q
  exact e1F.tab.ok.ne z h rfl
 ·obtain ⟨a, xs, _, d⟩ := e1F.dp j ts d'
  exact d.nt e1F.tab.ok z y
theorem asn {xs : List V} {b : Addr} (e1F : EOF t W ρ1 σ H1 F) (hD : H1 D = none) (z : Tb t.K b) : (tB' t src ρ1 σ F H1 D xs).B b = none := by
 have nD : b ≠ D := λy => by
  obtain ⟨ps, h⟩ := e1F.tab.ok.tbl z
  rw [y, hD] at h
  cases h
 rw [am7 nD (OU.tab e1F z)]
 exact e1F.tab.B b z
theorem EOF.enter (I : Inj src) (e1F : EOF t W ρ1 σ H1 F) (hD : H1 D = none) : EOk (tB' t src ρ1 σ F H1 D []) (λb => W b \/ b = D) (abS src ρ1) (afR src σ) (upd H1 D (.lst [])) := by
 have e1 : EOk t W ρ1 σ H1 := ⟨F, e1F⟩
 have e2 := (e1.hide (aaz hD (.lst [])) hD aa8).ok
 have tf := e2.tab
 refine ⟨λ_ => [], ?_, e2.zw, e2.z0, e2.wl, e2.f0, e2.n0, λk u h => ?_, λk ts h => ?_, λk ts h => ?_, λk k' a m1 m2 q1 q2 => ?_, λb o h => ?_, λk a m q => ?_, λk ts h => (al8 h).elim, λk _ ts _ _ h => (al8 h).elim, λk _ ts _ h => (al8 h).elim, λk ts h => (al8 h).elim, ⟨tf.ok, tf.w, tf.r, λb z => asn e1F hD z⟩⟩
 ·unfold abS afR
  rw [List.length_map, List.length_map]
 ·obtain ⟨j, h1, h2⟩ := agZ h (by intro z; cases z)
  obtain ⟨v, q1, q2⟩ := e2.sh j u h2
  exact ⟨v, aeP h1 q1, q2⟩
 ·obtain ⟨j, h1, h2⟩ := agZ h (by intro z; cases z)
  obtain ⟨a, xs, q1, q2⟩ := e2.ow j ts h2
  exact ⟨a, xs, aeP h1 q1, q2⟩
 ·obtain ⟨j, h1, h2⟩ := agZ h (by intro z; cases z)
  obtain ⟨a, xs, q1, q2⟩ := e2.rf j ts h2
  exact ⟨a, xs, aeP h1 q1, q2⟩
 ·obtain ⟨j, h1, n1⟩ := an6 m1
  obtain ⟨j', h2, n2⟩ := an6 m2
  have := e2.dis j j' a n1 n2 (af3 h1 q1) (af3 h2 q2)
  subst this
  exact I k k' j h1 h2
 ·by_cases h1 : b = D
  ·subst h1
   rw [B_D] at h
   rw [aa8]
   exact h
  ·by_cases h2 : OU src ρ1 σ F b
   ·rw [an5 h1 h2] at h
    rw [aaC h1]
    exact h
   ·rw [am7 h1 h2] at h
    exact e2.pn b o h
 ·obtain ⟨j, h1, n1⟩ := an6 m
  have q := af3 h1 q
  have wa := e1.addr n1 q
  have nD : a ≠ D := λz => by subst z; exact e1.wn a wa hD
  have nO : ¬ OU src ρ1 σ F a := by
   rintro (⟨j', m', q', u'⟩ | ⟨j', ts, d', z⟩)
   ·have := e1.dis j j' a n1 m' q q'
    subst this
    exact u' k h1
   ·exact e1F.dm j' j ts a d' n1 q z
  rw [am7 nD nO]
  exact e1.pd j a n1 q
theorem EOk.aso {xs ys : List V} {ρ : En} {τ : St} {H : Hp} {W' : Addr -> Prop} (e : EOk (tB' t src ρ1 σ F H1 D xs) W' ρ τ H) (w : W' D) (h0 : t.H0 D = none) : EOk (tB' t src ρ1 σ F H1 D ys) W' ρ τ (upd H D (.lst ys)) := by
 have ne : ∀ i a, Mu ρ i -> τ[i]? = some (some (.ref a)) -> a ≠ D := λi a m q z => by
  subst z
  have := e.pd i a m q
  rw [B_D] at this
  cases this
 obtain ⟨F', e⟩ := e
 have neD : ∀ i ts, ρ[i]? = some (Sl.dp ts) -> ∀ b ∈ F' i, b ≠ D := λi ts h b hb z => by
  subst z
  have := e.db i ts h b hb
  rw [B_D] at this
  cases this
 refine ⟨F', e.len, e.zw, e.z0, λb z => ?_, λb o h n => ?_, λb h => ?_, λi u h => ?_, λi ts h => ?_, λi ts h => ?_, e.dis, λb o h => ?_, λi a m q => ?_, λi ts h => ?_, e.dd, e.dm, λi ts h b hb => ?_, ⟨e.tab.ok.upd (e.pn D _ B_D), e.tab.w, e.tab.r, λb z => ?_⟩⟩
 ·by_cases q : b = D
  ·subst q; exact .inl ⟨ys, aa8⟩
  ·unfold Lt; rw [aaC q]; exact e.wl b z
 ·rw [aaC]
  ·exact e.f0 b o h n
  ·rintro rfl
   have h : t.H0 b = some o := h
   rw [h0] at h
   cases h
 ·by_cases q : b = D
  ·subst q; exact h0
  ·rw [aaC q] at h; exact e.n0 b h
 ·rw [acg w]
  exact e.sh i u h
 ·obtain ⟨a, zs, q1, q2, q3, q4, q5⟩ := e.ow i ts h
  rw [acg w]
  exact ⟨a, zs, q1, q2, q3, by rw [aaC (ne i a ⟨ts, .inl h⟩ q1)]; exact q4, q5⟩
 ·obtain ⟨a, zs, q1, q2, q3, q4, q5⟩ := e.rf i ts h
  rw [acg w]
  exact ⟨a, zs, q1, q2, q3, by rw [aaC (ne i a ⟨ts, .inr h⟩ q1)]; exact q4, q5⟩
 ·by_cases h1 : b = D
  ·subst h1
   rw [B_D] at h
   rw [aa8]
   exact h
  ·rw [aaC h1]
   refine e.pn b o ?_
   by_cases h2 : OU src ρ1 σ F b
   ·rw [an5 h1 h2] at h ⊢; exact h
   ·rw [am7 h1 h2] at h ⊢; exact h
 ·have nD := ne i a m q
  have z := e.pd i a m q
  by_cases h2 : OU src ρ1 σ F a
  ·rw [an5 nD h2] at z ⊢; exact z
  ·rw [am7 nD h2] at z ⊢; exact z
 ·obtain ⟨a, zs, q1, d⟩ := e.dp i ts h
  exact ⟨a, zs, q1, d.move rfl rfl (by rw [acg w]; exact Same.refl _) (λb hb => by obtain ⟨_, _, _, ww, _⟩ := d; exact (ww b hb).1) λb o hb q => by rw [aaC (neD i ts h b hb)]; exact q⟩
 ·have nD := neD i ts h b hb
  have z := e.db i ts h b hb
  by_cases h2 : OU src ρ1 σ F b
  ·rw [an5 nD h2] at z ⊢; exact z
  ·rw [am7 nD h2] at z ⊢; exact z
 ·have y := e.tab.B b z
  have nD : b ≠ D := λq => by
   subst q
   rw [B_D] at y
   cases y
  by_cases h2 : OU src ρ1 σ F b
  ·rw [an5 nD h2] at y ⊢; exact y
  ·rw [am7 nD h2] at y ⊢; exact y
theorem EOF.leave {xs : List V} {ρ : En} {τ : St} {H : Hp} {Wx : Addr -> Prop} {js : List Nat} (I : Inj src) (e1F : EOF t W ρ1 σ H1 F) (hD : H1 D = none) (e : EOk (tB' t src ρ1 σ F H1 D xs) (λb => W b \/ b = D) ρ τ H) (nx : ∀ b o, ¬ W b -> H1 b = some o -> H b = some o)
  (hj : ∀ k j : Nat, src[k]? = some (some j) -> k ∉ js) (ag : ∀ k, k ∉ js -> τ[k]? = (afR src σ)[k]?) (so : abZ src ρ ρ1 = true) (w1 : ∀ b, W b -> Wx b) (w2 : ∀ b, Wx b -> W b \/ b = D) : EOF t Wx (abq src ρ ρ1) σ H F := by
 have e1 : EOk t W ρ1 σ H1 := ⟨F, e1F⟩
 have m1 : Same (aaQ W H1) (aaQ Wx H) := λb o h => by
  obtain ⟨n, h⟩ := aa4 h
  rw [aaB]
  ·exact nx b o n h
  ·intro z
   rcases w2 b z with z | rfl
   ·exact n z
   ·rw [hD] at h; cases h
 have m2 : Same (aaQ (λb => W b \/ b = D) H) (aaQ Wx H) := abK (λb _ _ z => w2 b z) λ_ _ _ h => h
 have muo : ∀ j, Mu (abq src ρ ρ1) j -> Mu ρ1 j := λj m => by
  obtain ⟨ts, m | m⟩ := m <;> rcases afa I m with ⟨k, us, q1, q2, q3⟩ | ⟨n, q⟩
  ·exact aee ⟨ts, .inl q3⟩
  ·exact ⟨ts, .inl q⟩
  ·exact aee ⟨ts, .inr q3⟩
  ·exact ⟨ts, .inr q⟩
 have inner : ∀ (k j : Nat) (ts : List Tr) (a : Addr), src[k]? = some (some j) -> (ρ[k]? = some (.ow ts) \/ ρ[k]? = some (.rf ts)) -> σ[j]? = some (some (.ref a)) -> ∃ ys, H a = some (.lst ys) /\ aaK t.K (aaQ Wx H) ys ts := λk j ts a q1 q2 q3 => by
  have z := ag k (hj k j q1)
  rw [aeP q1 q3] at z
  rcases q2 with q2 | q2
  ·obtain ⟨c, ys, h1, h2, h3, h4, h5⟩ := e.ow k ts q2
   rw [z] at h1
   cases h1
   exact ⟨ys, h4, h5.mono m2⟩
  ·obtain ⟨c, ys, h1, h2, h3, h4, h5⟩ := e.rf k ts q2
   rw [z] at h1
   cases h1
   exact ⟨ys, h4, h5.mono m2⟩
 have outer : ∀ (j : Nat) (a : Addr) (ys : List V), Mu ρ1 j -> (∀ k, src[k]? = some (some j) -> ¬ Mu ρ k) -> σ[j]? = some (some (.ref a)) -> H1 a = some (.lst ys) -> H a = some (.lst ys) := λj a ys m n q h => by
  have wa := e1.addr m q
  have nD : a ≠ D := λz => by subst z; exact e1.wn a wa hD
  refine e.pn a _ ?_
  rw [an5 nD (.inl ⟨j, m, q, λk z => n k z (af2 so z m)⟩)]
  exact h
 refine ⟨by rw [ae9]; exact e1.len, λb z => w1 b (e1.zw b z), e1.z0, λb z => e.wl b (w2 b z), e.f0, e.n0, λj u h => ?_, λj ts h => ?_, λj ts h => ?_, λj k a n1 n2 => e1.dis j k a (muo j n1) (muo k n2), λb o h => ?_, λj a m => e1.pd j a (muo j m), λj ts h => ?_, λj k ts us n h1 h2 => e1F.dd j k ts us n (aje I h1) (aje I h2), λj k ts c h1 m q => e1F.dm j k ts c (aje I h1) (muo k m) q, λj ts h => e1F.db j ts (aje I h), ⟨e.tab.ok, λb z => w1 b (e1.tab.w b z), e1.tab.r, e1.tab.B⟩⟩
 ·have h' : ρ1[j]? = some (.sh u) := by
   rcases afa I h with ⟨k, us, q1, q2, q3⟩ | ⟨n, q⟩
   ·rcases acO q3 with ⟨ne, _⟩ | ⟨_, ⟨_, _, z⟩ | ⟨_, _, z⟩ | ⟨_, q⟩⟩
    ·exact (ne rfl).elim
    ·cases z
    ·cases z
    ·exact q
   ·exact q
  obtain ⟨v, q1, q2⟩ := e1.sh j u h'
  exact ⟨v, q1, q2.mono m1⟩
 ·rcases afa I h with ⟨k, us, q1, q2, q3⟩ | ⟨n, q⟩
  ·rcases acO q3 with ⟨ne, _⟩ | ⟨_, ⟨ts0, q0, z⟩ | ⟨_, _, z⟩ | ⟨nm, q⟩⟩
   ·exact (ne rfl).elim
   ·cases z
    obtain ⟨a, ys, h1, h2, h3, h4, h5⟩ := e1.ow j ts0 q0
    obtain ⟨zs, k1, k2⟩ := inner k j ts a q1 q2 h1
    exact ⟨a, zs, h1, w1 a h2, h3, k1, k2⟩
   ·cases z
   ·exact (nm ⟨ts, .inl q⟩).elim
  ·obtain ⟨a, ys, h1, h2, h3, h4, h5⟩ := e1.ow j ts q
   exact ⟨a, ys, h1, w1 a h2, h3, outer j a ys ⟨ts, .inl q⟩ n h1 h4, h5.mono m1⟩
 ·rcases afa I h with ⟨k, us, q1, q2, q3⟩ | ⟨n, q⟩
  ·rcases acO q3 with ⟨ne, _⟩ | ⟨_, ⟨_, _, z⟩ | ⟨ts0, q0, z⟩ | ⟨nm, q⟩⟩
   ·exact (ne rfl).elim
   ·cases z
   ·cases z
    obtain ⟨a, ys, h1, h2, h3, h4, h5⟩ := e1.rf j ts0 q0
    obtain ⟨zs, k1, k2⟩ := inner k j ts a q1 q2 h1
    exact ⟨a, zs, h1, w1 a h2, h3, k1, k2⟩
   ·exact (nm ⟨ts, .inr q⟩).elim
  ·obtain ⟨a, ys, h1, h2, h3, h4, h5⟩ := e1.rf j ts q
   exact ⟨a, ys, h1, w1 a h2, h3, outer j a ys ⟨ts, .inr q⟩ n h1 h4, h5.mono m1⟩
 ·have nD : b ≠ D := λz => by
   subst z
   rw [e1.noB hD] at h
   cases h
  have nO : ¬ OU src ρ1 σ F b := by
   rintro (⟨j, m, q, _⟩ | ⟨j, ts, d', z⟩)
   ·rw [e1.pd j b m q] at h
    cases h
   ·rw [e1F.db j ts d' b z] at h
    cases h
  refine e.pn b o ?_
  rw [am7 nD nO]
  exact h
 ·have hd := aje I h
  obtain ⟨a, ys, q1, d⟩ := e1F.dp j ts hd
  have ww : ∀ b ∈ F j, W b := λb hb => by obtain ⟨_, _, _, ww, _⟩ := d; exact (ww b hb).1
  refine ⟨a, ys, q1, d.move rfl rfl m1 (λb hb => w1 b (ww b hb)) λb o hb q => ?_⟩
  have nD : b ≠ D := λz => by subst z; exact e1.wn b (ww b hb) hD
  refine e.pn b o ?_
  rw [an5 nD (.inr ⟨j, ts, hd, hb⟩)]
  exact q
end
noncomputable def clV : Rv -> Rs Tr
 | .v T _ => .ok T
 | .s _ => .bad
theorem an7 (r : Rv) (c : Str) : clV r ≠ .ex c := by cases r <;> (intro z; cases z)
noncomputable def afb (g : GF) (c : BF) (f : EF) : List Tr -> En -> Rs (List Tr × En)
 | [], ρ => .ok ([], ρ)
 | u :: us, ρ => (g u ρ).bind λρ1 => (c ρ1).bind λb => if b.1 = true then (f b.2).bind λp => (clV p.1).bind λT => (afb g c f us p.2).bind λz => .ok (T :: z.1, z.2) else afb g c f us b.2
noncomputable def abo (src : List (Option Nat)) (fi : IF) (g : GF) (c : BF) (f : EF) : EF := λρ => (fi ρ).bind λp => if p.1.length <= 100000 then (abH (afb g c f p.1 (abS src p.2))).bind λz => if abZ src z.2 p.2 = true then .ok (.v (.lst z.1) true, abq src z.2 p.2) else .bad else .bad
theorem af4 {t : Tx} {wi : TI} {g : TG} {src : List (Option Nat)} {tc : TT} {te : TE} {fi : IF} {gf : GF} {c : BF} {f : EF} {js : List Nat} (hi : SI t wi fi) (I : Inj src) (hj : ∀ k j : Nat, src[k]? = some (some j) -> k ∉ js) (ng : ∀ T ρ c, gf T ρ ≠ .ex c)
  (hg : ∀ t' : Tx, t'.K = t.K -> (∀ c, ¬ t'.EX c) -> SG t' g gf js) (hc : ∀ t' : Tx, t'.K = t.K -> (∀ c, ¬ t'.EX c) -> ST t' tc c) (he : ∀ t' : Tx, t'.K = t.K -> (∀ c, ¬ t'.EX c) -> SE t' te f) : SE t (afB wi g src tc te) (abo src fi gf c f) := λW ρ σ H Q e h => by
 refine hi W ρ σ H _ e (Rs.aag (Rs.aac h) λp h J H1 e1 s1 it => ?_)
 obtain ⟨us, ρ1⟩ := p
 dsimp only at h it e1
 split at h
 case isFalse => exact h.elim
 rename_i hlen
 intro D hD
 have h := adP (Rs.aac h)
 obtain ⟨F, e1F⟩ := id e1
 have wD : ∀ b, W b -> b ≠ D := λb w z => by subst z; exact e1.wn b w hD
 have h0D : t.H0 D = none := e1.n0 D hD
 refine ⟨λi m τ H' => m = us.length - i /\ i <= us.length /\ ∃ ρ' xs acc, EOk (tB' t src ρ1 σ F H1 D xs) (λb => W b \/ b = D) ρ' τ H' /\ aaK t.K (aaQ (λb => W b \/ b = D) H') xs acc /\ xs.length <= i /\ (∀ b o, ¬ W b -> H1 b = some o -> H' b = some o) /\ (∀ k, k ∉ js -> τ[k]? = (afR src σ)[k]?) /\
   (afb gf c f (us.drop i) ρ').post (λ_ => False) (λz => (if abZ src z.2 ρ1 = true then .ok (.v (.lst (acc ++ z.1)) true, abq src z.2 ρ1) else .bad : Rs (Rv × En)).post t.EX (λp => ∀ v H', EOk t W p.2 σ H' -> Stp W H H' -> VOE t W p.2 σ H H' v p.1 -> Q v H')), ?_, ?_⟩
 ·refine ⟨us.length, by simp, Nat.zero_le _, abS src ρ1, [], [], e1F.enter I hD, .nil, Nat.le_refl _, λb o _ q => ?_, λ_ _ => rfl, ?_⟩
  ·rw [aaC (abh q hD)]; exact q
  ·rw [List.drop_zero]; exact h
 ·rintro i m τ H2 ⟨rfl, hi, ρ2, xs, acc, e2, r2, l2, n2, a2, h2⟩
  have sm : Same (aaQ W H1) (aaQ (λb => W b \/ b = D) H2) := λb o q => by
   obtain ⟨nw, q⟩ := aa4 q
   rw [aaB]
   ·exact n2 b o nw q
   ·rintro (z | rfl)
    ·exact nw z
    ·rw [hD] at q; cases q
  have q := it _ H2 sm e2.wl i
  by_cases hlt : i < us.length
  ·rw [List.drop_eq_getElem_cons hlt] at h2
   obtain ⟨go, y⟩ := q.2 us[i] (by simp [hlt])
   refine .inr ⟨go, λx H3 yl => ?_⟩
   obtain ⟨s3, r3⟩ := y x H3 yl
   have e3 := e2.grow s3
   refine hg (tB' t src ρ1 σ F H1 D xs) rfl (λ_ => id) _ ρ2 τ H3 x us[i] _ e3 r3 (Rs.aag (aho (Rs.aac h2) (ng _ _)) λρ4 h σ4 e4 a4 => ?_)
   refine hc (tB' t src ρ1 σ F H1 D xs) rfl (λ_ => id) _ ρ4 σ4 H3 _ e4 (Rs.aag (Rs.aac h) λb h H5 e5 s5 => ?_)
   have st5 : Stp (λb => W b \/ b = D) H2 H5 := (Stp.of s3).trans s5
   have n5 : ∀ b o, ¬ W b -> H1 b = some o -> H5 b = some o := λb o nw qb => by
    have nD : b ≠ D := abh qb hD
    refine st5.keep b o ?_ (n2 b o nw qb)
    rintro (z | z)
    ·exact nw z
    ·exact nD z
   have a5 : ∀ k, k ∉ js -> σ4[k]? = (afR src σ)[k]? := λk nk => (a4 k nk).trans (a2 k nk)
   split at h
   ·rename_i cb
    rw [if_pos cb]
    refine he (tB' t src ρ1 σ F H1 D xs) rfl (λ_ => id) _ b.2 σ4 H5 _ e5 (Rs.aag (Rs.aac h) λp h v H6 e6 s6 v6 => ?_)
    obtain ⟨T, kT, h⟩ := abl (Rs.aac h) (an7 _)
    have rv : Rep t.K (aaQ (λb => W b \/ b = D) H6) v T := by
     obtain ⟨r, ρ7⟩ := p
     cases r with
     | s i => cases kT
     | v U fr =>
      cases kT
      exact VOk.rep (K := t.K) e5.wn v6.1
    refine ⟨xs, e6.pn D _ B_D, Nat.lt_of_le_of_lt (show xs.length <= 100000 by omega) (by decide), us.length - (i + 1), by omega, rfl, hlt, p.2, xs ++ [v], acc ++ [T], e6.aso (.inr rfl) h0D, ?_, by rw [List.length_append]; simp; omega, λb o nw q => ?_, a5, ?_⟩
    ·rw [acg (.inr rfl)]
     exact (r2.mono (st5.trans s6).off).app (.cons rv .nil)
    ·have nD : b ≠ D := abh q hD
     rw [aaC nD]
     refine s6.keep b o ?_ (n5 b o nw q)
     rintro (z | z)
     ·exact nw z
     ·exact nD z
    ·refine Rs.aag (Rs.aac h) λz h => ?_
     rw [List.append_assoc]
     exact h
   ·rename_i cb
    rw [if_neg cb]
    exact ⟨us.length - (i + 1), by omega, rfl, hlt, b.2, xs, acc, e5, r2.mono st5.off, by omega, n5, a5, h⟩
  ·have z : i = us.length := by omega
   subst z
   rw [List.drop_length] at h2
   have h2 : (if abZ src ρ2 ρ1 = true then .ok (.v (.lst (acc ++ [])) true, abq src ρ2 ρ1) else .bad : Rs (Rv × En)).post t.EX _ := h2
   refine .inl ⟨q.1 rfl, ?_⟩
   split at h2
   ·rename_i so
    rw [List.append_nil] at h2
    have hxs : H2 D = some (.lst xs) := e2.pn D _ B_D
    have eW : EOk t W (abq src ρ2 ρ1) σ H2 := ⟨F, e1F.leave (Wx := W) I hD e2 n2 hj a2 so (λ_ w => w) λ_ w => .inl w⟩
    have eD : EOh t W D (abq src ρ2 ρ1) σ H2 := ⟨F, e1F.leave (Wx := λb => W b \/ b = D) I hD e2 n2 hj a2 so (λ_ w => .inl w) λ_ w => w, λi ts hi z => by
     obtain ⟨c, ys, _, bs, _, _, ww, _⟩ := e1F.dp i ts (aje I hi)
     exact wD D (ww D z).1 rfl⟩
    have st : Stp W H1 H2 := ⟨n2, λb q => by
     cases z : H1 b with
     | none => rfl
     | some o =>
      by_cases w : W b
      ·exact ((e2.wl b (.inl w)).ne q).elim
      ·rw [n2 b o w z] at q
       cases q⟩
    refine h2 (.ref D) H2 eW (s1.trans st) ⟨⟨D, xs, acc, rfl, rfl, s1.dom D hD, hxs, r2.mono λb o q => ?_⟩, λU a _ ea => ?_⟩
    ·obtain ⟨nb, q⟩ := aa4 q
     rw [off_ne λz => nb (.inr z), aaB λz => nb (.inl z)]
     exact q
    ·cases ea
     exact eD
   ·exact h2.elim
noncomputable def aeF : BF := λρ => .ok (true, ρ)
theorem al9 {wi : TI} {g : TG} {src : List (Option Nat)} {te : TE} : akf wi g src te = afB wi g src (λ_ H Q => Q true H) te := by
 funext σ H Q
 simp only [akf, afB, if_true]
theorem acQ {t : Tx} {wi : TI} {g : TG} {src : List (Option Nat)} {te : TE} {fi : IF} {gf : GF} {f : EF} {js : List Nat} (hi : SI t wi fi) (I : Inj src) (hj : ∀ k j : Nat, src[k]? = some (some j) -> k ∉ js) (ng : ∀ T ρ c, gf T ρ ≠ .ex c)
  (hg : ∀ t' : Tx, t'.K = t.K -> (∀ c, ¬ t'.EX c) -> SG t' g gf js) (he : ∀ t' : Tx, t'.K = t.K -> (∀ c, ¬ t'.EX c) -> SE t' te f) : SE t (akf wi g src te) (abo src fi gf aeF f) := by
 rw [al9]
 exact af4 hi I hj ng hg (λt' _ _ W ρ σ H Q e h => h H e (Stp.refl _ _)) he
end L2
end
section
namespace L2
open PySem PySem.Spec PyProof.Rows
theorem PS.nox {X : Cx} {st : Stmt} {t : TS} (h : PS X.nox st t) : PS X st t := λpins s σ H D I hw =>
 wpAny_mono (h pins s σ H D (I.wish _) hw) (λ_ _ q => q.ac3) λ_ _ z => False.elim z
theorem EOk.ex {t : Tx} {EX : Str -> Prop} {W : Addr -> Prop} {ρ : En} {σ : St} {H : Hp} (e : EOk t W ρ σ H) : EOk { t with EX := EX } W ρ σ H := e.elim λF e => ⟨F, e.len, e.zw, e.z0, e.wl, e.f0, e.n0, e.sh, e.ow, e.rf, e.dis, e.pn, e.pd, e.dp, e.dd, e.dm, e.db, ⟨e.tab.ok, e.tab.w, e.tab.r, e.tab.B⟩⟩
theorem EOk.arJ {t : Tx} {EX : Str -> Prop} {W : Addr -> Prop} {ρ : En} {σ : St} {H : Hp} (e : EOk { t with EX := EX } W ρ σ H) : EOk t W ρ σ H := e.elim λF e => ⟨F, e.len, e.zw, e.z0, e.wl, e.f0, e.n0, e.sh, e.ow, e.rf, e.dis, e.pn, e.pd, e.dp, e.dd, e.dm, e.db, ⟨e.tab.ok, e.tab.w, e.tab.r, e.tab.B⟩⟩
noncomputable def aev (f : SF) : SF := λρ => abH (f ρ)
theorem afC {t : Tx} {ts : TS} {f : SF} (h : ∀ t' : Tx, t'.K = t.K -> (∀ c, ¬ t'.EX c) -> SS t' ts f) : SS t ts (aev f) := λW ρ σ H D e q => by
 refine h { t with EX := λ_ => False } rfl (λ_ => id) W ρ σ H D e.ex (Rs.aag (adP q) λp q => ?_)
 obtain ⟨fl, ρ'⟩ := p
 cases fl with
 | nx => exact λW' σ' H' e' n => q W' σ' H' e'.arJ n
 | rt T fr =>
  refine λv W' σ' H' e' n => q v W' σ' H' e'.arJ ?_
  cases fr <;> exact n
 | bk => exact λW' σ' H' e' n => q W' σ' H' e'.arJ n
 | ct => exact λW' σ' H' e' n => q W' σ' H' e'.arJ n
theorem au6 {p : Int -> Int -> Int} (a b : Tr) (c : Str) : gI p a b ≠ .ex c := by
 cases a <;> cases b <;> (intro z; cases z)
theorem an8 {q : Int -> Int -> Bool} {p : Int -> Int -> Int} (a b : Tr) (c : Str) : gIC q p a b ≠ .ex c := by
 cases a <;> cases b <;> first | (intro z; cases z; done) | (dsimp only [gIC]; split <;> (intro z; cases z))
theorem asp {p : Int -> Int -> Bool} (a b : Tr) (c : Str) : gB p a b ≠ .ex c := by
 cases a <;> cases b <;> (intro z; cases z)
theorem aqj (a b : Tr) (c : Str) : gEq a b ≠ .ex c := by unfold gEq; split <;> (intro z; cases z)
theorem asq (a b : Tr) (c : Str) : gNe a b ≠ .ex c := by unfold gNe; split <;> (intro z; cases z)
theorem asr {f : Bool -> Bool} (a b : Tr) (c : Str) : gIn f a b ≠ .ex c := by
 cases b <;> first | (intro z; cases z; done) | (dsimp only [gIn]; split <;> (intro z; cases z))
theorem asu {f : Bool -> Bool} (a b : Tr) (c : Str) : gIs f a b ≠ .ex c := by
 cases b <;> (intro z; cases z)
theorem aqk (a b : Tr) (c : Str) : aaV a b ≠ .ex c := by
 cases a <;> cases b <;> first | (intro z; cases z; done) | (dsimp only [aaV]; split <;> (intro z; cases z))
theorem aql (a b : Tr) (c : Str) : abP a b ≠ .ex c := by
 cases a <;> cases b <;> first | (intro z; cases z; done) | (dsimp only [abP]; split <;> (intro z; cases z))
theorem aqm (a b : Tr) (c : Str) : acK a b ≠ .ex c := an8 a b c
theorem aqn (a b : Tr) (c : Str) : ab5 a b ≠ .ex c := an8 a b c
theorem aqo (a b : Tr) (c : Str) : acu a b ≠ .ex c := an8 a b c
theorem aqp (a b : Tr) (c : Str) : ach a b ≠ .ex c := au6 a b c
theorem asv (a b : Tr) (c : Str) : gGt a b ≠ .ex c := asp a b c
theorem ajf (a b : Tr) (c : Str) : gLe a b ≠ .ex c := asp a b c
theorem asw (a b : Tr) (c : Str) : gGe a b ≠ .ex c := asp a b c
theorem asx (a b : Tr) (c : Str) : gLt a b ≠ .ex c := by
 cases a <;> cases b <;> first | (intro z; cases z; done) | (dsimp only [gLt]; split <;> (intro z; cases z))
theorem asy (a b : Tr) (c : Str) : gIx a b ≠ .ex c := by
 cases a <;> cases b <;> first | (intro z; cases z; done) | (dsimp only [gIx]; split <;> first | (intro z; cases z; done) | (split <;> (intro z; cases z)))
theorem aqq (a : Tr) (c : Str) : aoZ a ≠ .ex c := by cases a <;> (intro z; cases z)
theorem aqr (a : Tr) (c : Str) : aby a ≠ .ex c := by
 cases a <;> first | (intro z; cases z; done) | (dsimp only [aby]; split <;> (intro z; cases z))
theorem aqs (a : Tr) (c : Str) : ac2 a ≠ .ex c := by cases a <;> (intro z; cases z)
theorem aqt (a : Tr) (c : Str) : ao3 a ≠ .ex c := by cases a <;> (intro z; cases z)
theorem ama (a : Tr) (c : Str) : aaI a ≠ .ex c := by cases a <;> (intro z; cases z)
theorem aqu (a b : Tr) (c : Str) : ac0 a b ≠ .ex c := by cases a <;> cases b <;> (intro z; cases z)
theorem aqv (a : Tr) (c : Str) : acj a ≠ .ex c := by
 cases a <;> first | (intro z; cases z; done) | (dsimp only [acj]; split <;> (intro z; cases z))
theorem abU {i : Nat} (T : Tr) (ρ : En) (c : Str) : gN i T ρ ≠ .ex c := by intro z; cases z
theorem am8 (Ts : List Tr) (ρ : En) (c : Str) : ajc Ts ρ ≠ .ex c := by cases Ts <;> (intro z; cases z)
theorem amb {f : GF} {g : GFs} (h1 : ∀ T ρ c, f T ρ ≠ .ex c) (h2 : ∀ T ρ c, g T ρ ≠ .ex c) (Ts : List Tr) (ρ : En) (c : Str) : adO f g Ts ρ ≠ .ex c := by
 cases Ts with
 | nil => intro z; cases z
 | cons T r => exact aiL (h1 T ρ) (λρ' => h2 r ρ') c
theorem aus {n : Nat} {f : GFs} (h : ∀ T ρ c, f T ρ ≠ .ex c) (T : Tr) (ρ : En) (c : Str) : gT n f T ρ ≠ .ex c := by
 cases T <;> first | (intro z; cases z; done) | (dsimp only [gT]; split <;> first | exact h _ _ _ | (intro z; cases z))
noncomputable def ao5 (f : AF) (n : Nat) : Prop := ∀ ρ p, f ρ = .ok p -> p.1.length = n
theorem aaM : ao5 aar 0 := λρ p h => by cases h; rfl
theorem aam {f : EF} {g : AF} {n : Nat} (h : ao5 g n) : ao5 (aaf f g) (n + 1) := λρ p q => by
 unfold aaf at q
 obtain ⟨a, q1, q⟩ := aa2 q
 obtain ⟨b, q2, q⟩ := aa2 q
 cases q
 rw [List.length_cons, h _ _ q2]
noncomputable def Gk (K : PySem.W.Frag) (mg : Str -> Option Value) (x : Str) (v : V) (T : Tr) : Prop := ∃ u, mg x = some u /\ RelV v u /\ ∀ H, Rep (nlK K) H v T
theorem asz {X : Cx} {x : Str} {v : V} {T : Tr} {pos : Pos} (h : Gk X.K X.mg x v T) (hg : Gl X x := by rfl) (hd : (x == ("__debug__" : Str)) = false := by decide) : PE X (.Name x pos) (tC v) := by
 obtain ⟨u, h1, h2, _⟩ := h
 exact ajT hg h1 h2 hd
theorem aqw {t : Tx} {K : PySem.W.Frag} {mg : Str -> Option Value} {x : Str} {v : V} {T : Tr} (hK : t.K = nlK K) (h : Gk K mg x v T) : SE t (tC v) (eC T) := by
 obtain ⟨u, _, _, h⟩ := h
 exact apP λH => by rw [hK]; exact h H
end L2
end
section
namespace L2
open PySem PySem.Spec PyProof.Rows
section
variable {t : Tx} {K : PySem.W.Frag} {ta tb tc : TE} {fa fb fc : EF}
theorem abT (hK : t.K = nlK K) (ha : SE t ta fa) (hb : SE t tb fb) : SE t (tOp (anS K) ta tb) (eOp aaV fa fb) := adN (by rw [hK]; exact apU) aqk ha hb
theorem an9 (hK : t.K = nlK K) (ha : SE t ta fa) (hb : SE t tb fb) : SE t (tOp (rI0 λi j => .int (i - j)) ta tb) (eOp ach fa fb) := adN (by rw [hK]; exact ap1) aqp ha hb
theorem af5 (hK : t.K = nlK K) (ha : SE t ta fa) (hb : SE t tb fb) : SE t (tOp (anT K) ta tb) (eOp abP fa fb) := adN (by rw [hK]; exact apW (K := K)) aql ha hb
theorem aoa (hK : t.K = nlK K) (ha : SE t ta fa) (hb : SE t tb fb) : SE t (tOp (rI alS λi j => .int (i.fdiv j)) ta tb) (eOp acK fa fb) := adN (by rw [hK]; exact apY) aqm ha hb
theorem ahD (hK : t.K = nlK K) (ha : SE t ta fa) (hb : SE t tb fb) : SE t (tOp (rI (λ_ j => j ≠ 0) λi j => .int (i.fmod j)) ta tb) (eOp ab5 fa fb) := adN (by rw [hK]; exact apZ) aqn ha hb
theorem aob (hK : t.K = nlK K) (ha : SE t ta fa) (hb : SE t tb fb) : SE t (tOp (rI arW λi j => .int (i ^ j.toNat)) ta tb) (eOp acu fa fb) := adN (by rw [hK]; exact ap0) aqo ha hb
theorem x_eq (hK : t.K = nlK K) (ha : SE t ta fa) (hb : SE t tb fb) : SE t (tOp (arZ K) ta tb) (eOp gEq fa fb) := adN (by rw [hK]; exact ar8) aqj ha hb
theorem aut (hK : t.K = nlK K) (ha : SE t ta fa) (hb : SE t tb fb) : SE t (tOp (ar5 K) ta tb) (eOp gNe fa fb) := adN (by rw [hK]; exact ar9) asq ha hb
theorem aoc (hK : t.K = nlK K) (ha : SE t ta fa) (hb : SE t tb fb) : SE t (tOp (ahw K) ta tb) (eOp (gIn not) fa fb) := adN (by rw [hK]; exact alQ) asr ha hb
theorem aod (hK : t.K = nlK K) (ha : SE t ta fa) (hb : SE t tb fb) : SE t (tOp (λx y H Q => y = .non /\ Q (.bl (!decide (x = .non))) H) ta tb) (eOp (gIs not) fa fb) := adN (by rw [hK]; exact anR) asu ha hb
theorem x_lt (hK : t.K = nlK K) (ha : SE t ta fa) (hb : SE t tb fb) : SE t (tOp (asd K) ta tb) (eOp gLt fa fb) := adN (by rw [hK]; exact ase) asx ha hb
theorem auu (hK : t.K = nlK K) (ha : SE t ta fa) (hb : SE t tb fb) : SE t (tOp (rI0 λi j => .bl (decide (j < i))) ta tb) (eOp gGt fa fb) := adN (by rw [hK]; exact asa) asv ha hb
theorem x_ge (hK : t.K = nlK K) (ha : SE t ta fa) (hb : SE t tb fb) : SE t (tOp (rI0 λi j => .bl (decide (j <= i))) ta tb) (eOp gGe fa fb) := adN (by rw [hK]; exact asb) asw ha hb
theorem adQ (hK : t.K = nlK K) (ha : SE t ta fa) (hb : SE t tb fb) : SE t (tOp (rIx K) ta tb) (eOp gIx fa fb) := adN (by rw [hK]; exact asf) asy ha hb
theorem ahE (hK : t.K = nlK K) {r r' : R2} {g g' : G2} (o : OpT (nlK K) r g) (o' : OpT (nlK K) r' g') (n : ∀ a b c, g a b ≠ .ex c) (n' : ∀ a b c, g' a b ≠ .ex c) (ha : SE t ta fa) (hb : SE t tb fb) (hc : SE t tc fc) : SE t (air r r' ta tb tc) (afz g g' fa fb fc) := alT (by rw [hK]; exact o) (by rw [hK]; exact o') n n' ha hb hc
theorem asA (ha : SE t ta fa) : SE t (tUn (rU λi => .int (-i)) ta) (eUn aoZ fa) := ash ap2 aqq ha
variable {tl : TA} {fl : AF}
theorem x_len (hK : t.K = nlK K) (ha : SA t tl fl) : SE t (tCB (anW K) tl) (eCB (g1 aby) fl) := ahy (by rw [hK]; exact ao2 ap7) (afA aqr) ha
theorem asB (hK : t.K = nlK K) (ha : SA t tl fl) : SE t (tCB (λxs H Q => ∃ i, xs = [.int i] /\ Q (.int (if i < 0 then -i else i)) H) tl) (eCB (g1 ac2) fl) := ahy (by rw [hK]; exact ao2 ap8) (afA aqs) ha
theorem asC (hK : t.K = nlK K) (ha : SA t tl fl) : SE t (tCB (λxs H Q => (∃ i, xs = [.int i] /\ Q (.int i) H) \/ ∃ k, xs = [.bl k] /\ Q (.int (if k then 1 else 0)) H) tl) (eCB (g1 ao3) fl) := ahy (by rw [hK]; exact ao2 ap9) (afA aqt) ha
theorem akB (hK : t.K = nlK K) (ha : SA t tl fl) : SE t (tCB (λxs H Q => ∃ p ys, xs = [.ref p] /\ ((SqL K H p ys /\ ∀ l, H l = none -> Q (.ref l) (upd H l (.tup ys))) \/ (SqT K H p ys /\ Q (.ref p) H))) tl) (eCB (g1 aaI) fl) := ahy (by rw [hK]; exact ao2 alV) (afA ama) ha
theorem aoe (hK : t.K = nlK K) (ha : SA t tl fl) : SE t (tCB (ar0 K) tl) (eCB (g1 acj) fl) := ahy (by rw [hK]; exact ao2 aqb) (afA aqv) ha
theorem asD (hK : t.K = nlK K) (ha : SA t tl fl) : SE t (tCB (λxs H Q => ∃ i j, xs = [.int i, .int j] /\ Q (.int (if j < i then j else i)) H) tl) (eCB (g2 ac0) fl) := ahy (by rw [hK]; exact au3 aqa) (ap6 aqu) ha
theorem abX (hK : t.K = nlK K) {cl : Str -> Addr} {n : Nat} {F : FP} {E : XK} (hx : ∀ c H', F0 t H' -> t.EX c -> E (.ref (cl c)) none H') (hn : ao5 fl n) (ha : SA t tl fl) : SE t (agC (spP K cl n F) [] E tl) (aaA F fl) := aiK hK hx hn ha
theorem acn (hK : t.K = nlK K) {cl : Str -> Addr} {n : Nat} {F : FP} {E : XK} (hx : ∀ c, ¬ t.EX c) (hn : ao5 fl n) (ha : SA t tl fl) : SE t (agC (spP K cl n F) [] E tl) (aaA F fl) := aiK hK (λc H' _ q => (hx c q).elim) hn ha
theorem abE (hK : t.K = nlK K) {n r nl : Nat} {b : SF} {E : XK} (hn : ao5 fl n) (ha : SA t tl fl) : SE t (agC (spR K n r (fnR nl r b)) [] E tl) (aaY r (fnR nl r b) fl) := al6 hK (an3 nl r b) hn ha
theorem amc {te : TE} {f : EF} (i : Nat) (h : SE t te f) : SE t (tBM K "list" ahr (anp i) (acF te aj6)) (eMt i ahA (aaf f aar)) := asl i aqh an0 (aae h aak)
end
end L2
end
section
namespace L2
open PySem PySem.Spec PyProof.Rows
noncomputable def fuI (i : Nat) (ρ : En) : Nat := match ρ[i]? with
 | some (.sh (.int n)) => n.natAbs + 1
 | _ => 0
theorem adf {src : List (Option Nat)} {js : List Nat} (h : js.all (λk => (src[k]?).join.isNone) = true) : ∀ k j : Nat, src[k]? = some (some j) -> k ∉ js := λk j q m => by
 have := List.all_eq_true.mp h k m
 rw [q] at this
 cases this
abbrev bmV : List Value := [.type "ValueError", .type "Exception", .type "BaseException", .type "object"]
noncomputable def auv : G1
 | .lst ts => .ok (.lst ts.reverse, true)
 | _ => .bad
noncomputable def au7 (fa : EF) : EF := λρ => (fa ρ).bind λp => (dr p.2 p.1).bind λa => (auv a).bind λz => .ok (.v z.1 z.2, p.2)
end L2
end
section
namespace L2
open PySem PySem.Spec PyProof.Rows
noncomputable def aof (i : Int) : TE := λ_ H Q => Q (.int i) H
noncomputable def kI : Const -> Option Int
 | .int i => some i
 | _ => none
noncomputable def bI (o : Operator) (i j : Int) : Option Int := match o with
 | .Sub => some (i - j)
 | .Add => some (i + j)
 | .Pow => if 0 <= j /\ j <= 100 /\ i.natAbs <= 1000 then some (i ^ j.toNat) else none
 | _ => none
noncomputable def uI (o : UnaryOp) (i : Int) : Option Int := match o with
 | .USub => some (-i)
 | _ => none
noncomputable def cI : Expr -> Option Int
 | .Constant c _ _ => kI c
 | .UnaryOp o e _ => (cI e).bind (uI o)
 | .BinOp a o b _ => (cI a).bind λi => (cI b).bind λj => bI o i j
 | _ => none
theorem asF {X : Cx} {c : Const} {k : Nat} {p : Pos} {i : Int} (h : kI c = some i) : PE X (.Constant c k p) (aof i) := by
 cases c <;> first | (cases h; exact aan) | cases h
theorem asG {X : Cx} {o : UnaryOp} {e : Expr} {p : Pos} {i k : Int} (h : uI o i = some k) (he : PE X e (aof i)) : PE X (.UnaryOp o e p) (aof k) := by
 cases o <;> first | (cases h; exact (apn amU he).imp λσ H Q q => ⟨i, rfl, q⟩) | cases h
theorem asH {X : Cx} {o : Operator} {a b : Expr} {p : Pos} {i j k : Int} (h : bI o i j = some k) (ha : PE X a (aof i)) (hb : PE X b (aof j)) : PE X (.BinOp a o b p) (aof k) := by
 cases o <;> try cases h
 ·exact (aaP amT ha hb).imp λσ H Q q => ⟨i, j, rfl, rfl, q⟩
 ·exact (aaP aip ha hb).imp λσ H Q q => ⟨i, j, rfl, rfl, q⟩
 ·dsimp only [bI] at h
  split at h
  ·rename_i c
   cases h
   have z : (2 : Nat) ^ 64 = 18446744073709551616 := by decide
   exact (aaP aiq ha hb).imp λσ H Q q => ⟨i, j, rfl, rfl, ⟨c.1, by omega, by omega⟩, q⟩
  ·cases h
theorem amd {X : Cx} (e : Expr) (k : Int) (h : cI e = some k) : PE X e (aof k) := by
 cases e with
 | Constant c _ _ => exact asF h
 | UnaryOp o a _ =>
  have h : (cI a).bind (uI o) = some k := h
  cases e1 : cI a with
  | none => rw [e1] at h; cases h
  | some i => rw [e1] at h; exact asG h (amd a i e1)
 | BinOp a o b _ =>
  have h : ((cI a).bind λi => (cI b).bind λj => bI o i j) = some k := h
  cases e1 : cI a with
  | none => rw [e1] at h; cases h
  | some i =>
   cases e2 : cI b with
   | none => rw [e1, e2] at h; cases h
   | some j => rw [e1, e2] at h; exact asH h (amd a i e1) (amd b j e2)
 | _ => cases h
noncomputable def kT : Const -> Option Tr
 | .none => some .non
 | .bool b => some (.bl b)
 | .str x => some (.str x)
 | .int i => some (.int i)
 | _ => none
mutual
noncomputable def cT : Expr -> Option Tr
 | .Constant c _ _ => kT c
 | .Tuple es _ _ => (cTs es).map .tup
 | .List es _ => (cTs es).map .lst
 | .UnaryOp o a p => (cI (.UnaryOp o a p)).map .int
 | .BinOp a o b p => (cI (.BinOp a o b p)).map .int
 | _ => none
noncomputable def cTs : List Expr -> Option (List Tr)
 | [] => some []
 | e :: r => match cT e, cTs r with
  | some T, some Ts => if Ts.length < 1000 then some (T :: Ts) else none
  | _, _ => none
end
theorem ahF : ∀ {es : List Expr} {Ts : List Tr}, cTs es = some Ts -> Ts.length <= 1000
 | [], Ts, h => by
  unfold cTs at h
  cases h
  decide
 | e :: r, Ts, h => by
  unfold cTs at h
  split at h
  ·split at h
   ·cases h
    rename_i h1
    rw [List.length_cons]
    omega
   ·cases h
  ·cases h
section
variable {X : Cx} {e : Expr} {es : List Expr} {T : Tr} {Ts : List Tr} {pos : Pos} {k : Nat} {G : PySem.W.Frag}
theorem ame : PA X [] (aoY G []) := aaj.imp λσ H Q q => q [] H (Same.refl _) λ_ _ => .nil
theorem akC (h : PE X e (tEv G T)) (r : PA X es (aoY G Ts)) (hs : starEach (e :: es) X.env = (false, eval e X.env) :: starEach es X.env) : PA X (e :: es) (aoY G (T :: Ts)) :=
 (abQ h r hs).imp λσ H Q q v H1 s1 rv vs H2 s2 rs => q (v :: vs) H2 (s1.trans s2) λPr p => .cons ((rv Pr p).mono (p.mono s2)) (rs Pr (p.le s1))
theorem amf (h : PA X es (aoY G Ts)) (hl : Ts.length <= 1000) : PE X (.Tuple es k pos) (tEv G (.tup Ts)) :=
 (ait h).imp λσ H Q q vs H1 s1 rs => by
  by_cases hv : vs.length <= sizeLine
  ·exact ⟨hv, λa ha => q (.ref a) _ (s1.trans (aaz ha _)) λPr p => .tup (SqT.of ((p.le s1).new (Same.refl _) ha)) ((rs Pr p).mono (p.mono (aaz ha _)))⟩
  ·exact absurd (Nat.le_of_lt (agL (by rw [(rs _ (Pj.id H)).length]; exact hl))) hv
theorem ag0 (h : PA X es (aoY G Ts)) (hl : Ts.length <= 1000) : PE X (.List es pos) (arH G Ts) :=
 (abw h).imp λσ H Q q vs H1 s1 rs => by
  have e := (rs _ (Pj.id H)).length
  exact ⟨Nat.le_of_lt (agL (by rw [e]; exact hl)), λa ha => q a vs H1 s1 ha rs e⟩
theorem amg (h : PE X e (arH G Ts)) : PE X e (tEv G (.lst Ts)) :=
 h.imp λσ H Q q a xs H1 s1 ha rs _ => q (.ref a) _ (s1.trans (aaz ha _)) λPr p => .lst (SqL.of ((p.le s1).new (Same.refl _) ha)) ((rs Pr p).mono (p.mono (aaz ha _)))
theorem am9 (h : (cI e).map Tr.int = some T) : PE X e (tEv G T) := by
 cases e1 : cI e with
 | none => rw [e1] at h; cases h
 | some i =>
  rw [e1] at h; cases h
  exact (amd e i e1).imp λσ H Q q => q _ H (Same.refl _) λ_ _ => .int i
end
theorem aog {e : Expr} {es : List Expr} {env : Env} {T : Tr} (h : cT e = some T) : starEach (e :: es) env = (false, eval e env) :: starEach es env := by
 cases e <;> first | rfl | (unfold cT at h; cases h)
theorem asI {X : Cx} {G : PySem.W.Frag} {c : Const} {k : Nat} {p : Pos} {T : Tr} (h : kT c = some T) : PE X (.Constant c k p) (tEv G T) := by
 cases c <;> try cases h
 ·exact aij.imp λσ H Q q => q _ H (Same.refl _) λ_ _ => .non
 ·exact afM.imp λσ H Q q => q _ H (Same.refl _) λ_ _ => .bl _
 ·exact aan.imp λσ H Q q => q _ H (Same.refl _) λ_ _ => .int _
 ·exact ajS.imp λσ H Q q => q _ H (Same.refl _) λ_ _ => .str _
mutual
theorem asJ {X : Cx} {G : PySem.W.Frag} (e : Expr) (T : Tr) (h : cT e = some T) : PE X e (tEv G T) := by
 cases e with
 | Constant c _ _ => exact asI (by unfold cT at h; exact h)
 | Tuple es _ _ =>
  unfold cT at h
  cases e : cTs es with
  | none => rw [e] at h; cases h
  | some Ts =>
   rw [e] at h
   cases h
   exact amf (amh es Ts e) (ahF e)
 | List es _ =>
  unfold cT at h
  cases e : cTs es with
  | none => rw [e] at h; cases h
  | some Ts =>
   rw [e] at h
   cases h
   exact amg (ag0 (amh es Ts e) (ahF e))
 | UnaryOp o a p => exact am9 (by unfold cT at h; exact h)
 | BinOp a o b p => exact am9 (by unfold cT at h; exact h)
 | _ => unfold cT at h; cases h
theorem amh {X : Cx} {G : PySem.W.Frag} : ∀ (es : List Expr) (Ts : List Tr), cTs es = some Ts -> PA X es (aoY G Ts)
 | [], Ts, h => by
  unfold cTs at h; cases h
  exact ame
 | e :: r, Ts, h => by
  unfold cTs at h
  cases e1 : cT e with
  | none => rw [e1] at h; cases h
  | some T =>
   cases e2 : cTs r with
   | none => rw [e1, e2] at h; cases h
   | some Us =>
    rw [e1, e2] at h
    dsimp only at h
    split at h
    ·cases h
     exact akC (asJ e T e1) (amh r Us e2) (aog e1)
    ·cases h
end
theorem ami {X : Cx} {G : PySem.W.Frag} {es : List Expr} {pos : Pos} {Ts : List Tr} (h : cTs es = some Ts) : PE X (.List es pos) (arH G Ts) := ag0 (amh es Ts h) (ahF h)
end L2
end
section
namespace L2
open PySem PySem.Spec PyProof.Rows
theorem Pj.aaQ {W : Addr -> Prop} {H : Hp} (hw : ∀ b, W b -> H b ≠ none) : Pj (L2.aaQ W) H where
 mono := λs => (Stp.of s).off
 sub := λH => abr W H
 new := λ{H' r o} s h => by
  rw [aaB λw => hw r w (s.free h)]
  exact aa8
noncomputable def eCL (Ts : List Tr) : EF := λρ => .ok (.v (.lst Ts) true, ρ)
theorem amj {t : Tx} {K : PySem.W.Frag} (hK : t.K = nlK K) {Ts : List Tr} : SE t (arH (nlK K) Ts) (eCL Ts) := λW ρ σ H Q e h => λa xs H1 s ha r _ => by
 rw [<-hK] at r
 have e1 := e.grow s
 exact h _ _ (e1.grow (aaz ha _)) ((Stp.of s).trans (Stp.of (aaz ha _))) ((VOE.of (σ' := σ) e1 (aaz ha _) (VOk.new ha (r _ (Pj.aaQ e.wn)))).back λb q => s.free q)
end L2
end
section
namespace L2
open PySem PySem.Spec PyProof.Rows
noncomputable def afc : Expr -> Bool
 | .ListComp .. => false
 | .SetComp .. => false
 | .DictComp .. => false
 | _ => true
theorem af6 {e : Expr} {t : Option Expr} {l : Nat} {env : Env} (h : afc e = true) : swapsWith e t l env = pure false := by
 cases e <;> first | rfl | (unfold afc at h; cases h)
section
variable {X : Cx} {x : Str} {e : Expr} {es : List Expr} {te : TE} {ta : TA} {pos pos' p : Pos} {k : Nat} {ps : List Str} {sp : Sp} {E : XK}
theorem pvL (i : Nat) (hN : X.N[i]? = some x := by kernel_rfl) (hv : X.env.scope.names.lookup x = some .local := by kernel_rfl) (hd : (x == ("__debug__" : Str)) = false := by kernel_rfl) (hc : (x == ("__classdict__" : Str)) = false := by kernel_rfl) : PE X (.Name x pos) (anp i) := amM hN (.inl hv) hd hc
theorem pvC (i : Nat) (hN : X.N[i]? = some x := by kernel_rfl) (hv : X.env.scope.names.lookup x = some .cell := by kernel_rfl) (hd : (x == ("__debug__" : Str)) = false := by kernel_rfl) (hc : (x == ("__classdict__" : Str)) = false := by kernel_rfl) : PE X (.Name x pos) (anp i) := amM hN (.inr (.inl hv)) hd hc
theorem psL (i : Nat) (hN : X.N.Nodup) (he : PE X e te) (hi : X.N[i]? = some x := by kernel_rfl) (hx : X.env.scope.names.lookup x = some .local := by kernel_rfl) (h : afc e = true := by kernel_rfl) : PS X (.Assign [.Name x pos'] e pos) (amP te (acz i)) := amQ hN hi (.inl hx) he (af6 h) (.inr hx)
theorem psC (i : Nat) (hN : X.N.Nodup) (hf : X.fn x = true) (he : PE X e te) (hi : X.N[i]? = some x := by kernel_rfl) (hx : X.env.scope.names.lookup x = some .cell := by kernel_rfl) (h : afc e = true := by kernel_rfl) : PS X (.Assign [.Name x pos'] e pos) (amP te (acz i)) := amQ hN hi (.inr hx) he (af6 h) (.inl hf)
theorem akD {K : PySem.W.Frag} (ha : PE X e te) (hK : X.K = K) (he : ∀ whole, isTrue e X.env whole = (do let v <-whole; standAt e.pos; holding [v] (truthy v))) : PT X e (λσ H Q => te σ H λx H' => ∃ k, aps K x H' k /\ Q k H') := hK ▸ abm ha he
theorem psE (he : PE X e te) (h : afc e = true := by kernel_rfl) : PS X (.Expr e pos) (anq te) := anr he (af6 h)
theorem pgL (i : Nat) (hN : X.N.Nodup) (hi : X.N[i]? = some x := by kernel_rfl) (hx : X.env.scope.names.lookup x = some .local := by kernel_rfl) : PG X (.Name x pos) (acz i) := ajX hN hi (.inl hx) (.inr hx)
theorem pgC (i : Nat) (hN : X.N.Nodup) (hf : X.fn x = true) (hi : X.N[i]? = some x := by kernel_rfl) (hx : X.env.scope.names.lookup x = some .cell := by kernel_rfl) : PG X (.Name x pos) (acz i) := ajX hN hi (.inr hx) (.inl hf)
theorem pcF (D : DfX X.prog X.w X.K X.mg X.base k x ps sp) (hr : aeC k X.A) (hx : Passes (CXF X.prog X.w) X E) (ha : PA X (e :: es) ta) (hg : X.env.kindOf x = some .globalImplicit := by kernel_rfl) (hdb : (x == ("__debug__" : Str)) = false := by kernel_rfl)
  (he : notStar e = true := by kernel_rfl) (hpl : (backTo pos (starEach es X.env)).any (·.1) = false := by kernel_rfl) : PE X (.Call (.Name x p) (e :: es) [] pos) (agC sp [] E ta) := al4 D hr hx ha hg hdb (ab8 he) hpl
theorem pcB {r : List V -> Hp -> VK -> Prop} {id : String} (hc : ab6 X (.builtin id) r) (hm : X.mg x = none) (ha : PA X (e :: es) ta) (hv : bootBuiltins x = some (.builtin id) := by decide +kernel) (hg : X.env.kindOf x = some .globalImplicit := by kernel_rfl) (hn : x ≠ "__name__" := by decide +kernel) (hdb : (x == ("__debug__" : Str)) = false := by kernel_rfl)
  (he : notStar e = true := by kernel_rfl) (hpl : (backTo pos (starEach es X.env)).any (·.1) = false := by kernel_rfl) : PE X (.Call (.Name x p) (e :: es) [] pos) (tCB r ta) := aeM hc hg hm hv ha hn hdb (ab8 he) hpl
theorem asK {r : List V -> Hp -> VK -> Prop} {T : String} (hc : ab6 X (.type T) r) (hm : X.mg x = none) (ha : PA X (e :: es) ta) (hv : bootBuiltins x = some (.type T) := by decide +kernel) (hg : X.env.kindOf x = some .globalImplicit := by kernel_rfl) (hn : x ≠ "__name__" := by decide +kernel) (hdb : (x == ("__debug__" : Str)) = false := by kernel_rfl)
  (he : notStar e = true := by kernel_rfl) (hpl : (backTo pos (starEach es X.env)).any (·.1) = false := by kernel_rfl) : PE X (.Call (.Name x p) (e :: es) [] pos) (tCB r ta) := aj8 hc hg hm hv ha hn hdb (ab8 he) hpl
theorem pcI (hX : XOk X.K) (c : Ty) {q : Pos} (he : PE X e te) (h1 : X.mg "isinstance" = none) (h2 : X.mg x = none) (hb : bootBuiltins x = some (.type c.name) := by decide +kernel) (hg1 : X.env.kindOf "isinstance" = some .globalImplicit := by kernel_rfl) (hg2 : X.env.kindOf x = some .globalImplicit := by kernel_rfl) (hn : x ≠ "__name__" := by decide +kernel) (hd : (x == ("__debug__" : Str)) = false := by kernel_rfl)
  (hs : notStar e = true := by kernel_rfl) : PE X (.Call (.Name "isinstance" p) [e, .Name x q] [] pos) (tCB (arG X.K) (acF te (acF (tC (.ty c.name)) aj6))) := apI hX c he h1 h2 hb hg1 hg2 hn hd (ab8 hs)
theorem paK {t : TA} (ha : PE X e te) (hr : PA X es t) (h : notStar e = true := by kernel_rfl) : PA X (e :: es) (acF te t) := abQ ha hr (ab8 h)
theorem pGk {v : V} {T : Tr} (h : Gk X.K X.mg x v T) (hg : X.env.kindOf x = some .globalImplicit := by kernel_rfl) (hd : (x == ("__debug__" : Str)) = false := by kernel_rfl) : PE X (.Name x pos) (tC v) := asz h hg hd
theorem piR {a tg : Expr} (hm : X.mg "range" = none) (ha : PA X [a] ta) (hg : X.env.kindOf "range" = some .globalImplicit := by kernel_rfl) (hs : notStar a = true := by kernel_rfl) : PI X tg (.Call (.Name "range" p) [a] [] pos) (anv ta) := aj2 hg hm ha (ab8 hs)
end
end L2
end
section
namespace L2
open PySem PySem.Spec PyProof.Rows
section
variable {t : Tx} {W : Addr -> Prop} {ρ : En} {σ : St} {H : Hp}
noncomputable def acR (ρ : En) (i : Nat) : Rs (List Tr) := match ρ[i]? with
 | some (.dp ts) => .ok ts
 | _ => .bad
end
end L2
end
section
namespace L2
open PySem PySem.Spec PyProof.Rows
noncomputable abbrev QF := En -> Rs Tr
section
variable {t : Tx} {K : PySem.W.Frag}
noncomputable def au8 (i : Nat) : QF := λρ => match ρ[i]? with
 | some (.sh T) => .ok T
 | _ => .bad
noncomputable def qC (T : Tr) : QF := λ_ => .ok T
noncomputable def ixT (ts : List Tr) (k : Tr) : Rs (Nat × Tr) := match k with
 | .int i => (match ixN ts.length i with
  | some j => (match ts[j]? with
   | some u => .ok (j, u)
   | none => .bad)
  | none => .bad)
 | _ => .bad
noncomputable def au9 (i : Nat) (fk fj : QF) : QF := λρ => (acR ρ i).bind λts => (fk ρ).bind λk => (ixT ts k).bind λz => match z.2 with
 | .lst us => (fj ρ).bind λj => (ixT us j).bind λy => .ok y.2
 | _ => .bad
noncomputable def ava (i : Nat) (fk : QF) (m : GM) (fa : QF) : SF := λρ => (acR ρ i).bind λts => (abH (fk ρ)).bind λk => (ixT ts k).bind λz => match z.2 with
 | .lst us => (abH (fa ρ)).bind λT => (m us [T]).bind λy => .ok (.nx, ρ.set i (.dp (ts.set z.1 (.lst y.1))))
 | _ => .bad
noncomputable def asL (i : Nat) (fk fj : QF) (fe : EF) : SF := λρ => (fe ρ).bind λp => (clV p.1).bind λT => (acR p.2 i).bind λts => (abH (fk p.2)).bind λk => (ixT ts k).bind λz => match z.2 with
 | .lst us => (abH (fj p.2)).bind λj => (ixT us j).bind λy => .ok (.nx, p.2.set i (.dp (ts.set z.1 (.lst (us.set y.1 T)))))
 | _ => .bad
noncomputable def dow (i : Nat) (ρ : En) : En := match ρ[i]? with
 | some (.dp ts) => ρ.set i (.ow ts)
 | _ => ρ
noncomputable def avb (i : Nat) (f : SF) : SF := λρ => f (dow i ρ)
end
end L2
end
section
namespace L2
open PySem PySem.Spec PyProof.Rows
section
variable {t : Tx} {src : List (Option Nat)} {ρ1 : En} {σ : St} {F : Nat -> List Addr} {H1 P : Hp} {D : Addr} {W : Addr -> Prop}
end
end L2
end
section
namespace L2
open PySem PySem.Spec PyProof.Rows
noncomputable def adp : Rv -> Rs Tr
 | .v (.lst us) true => .ok (.lst us)
 | _ => .bad
noncomputable def amk (g : GF) (c : BF) (f : EF) : List Tr -> En -> Rs (List Tr × En)
 | [], ρ => .ok ([], ρ)
 | u :: us, ρ => (g u ρ).bind λρ1 => (c ρ1).bind λb => if b.1 = true then (f b.2).bind λp => (adp p.1).bind λT => (amk g c f us p.2).bind λz => .ok (T :: z.1, z.2) else amk g c f us b.2
noncomputable def aqx (i : Nat) (src : List (Option Nat)) (fi : IF) (g : GF) (c : BF) (f : EF) : SF := λρ => (fi ρ).bind λp => if p.1.length <= 100000 then (abH (amk g c f p.1 (abS src p.2))).bind λz => if abZ src z.2 p.2 = true then .ok (.nx, (abq src z.2 p.2).set i (.dp z.1)) else .bad else .bad
end L2
end
section
namespace L2
open PySem PySem.Spec PyProof.Rows
variable {t : Tx}
noncomputable def auw (us vs : List Tr) : List Tr := (us.zip vs).map λp => .tup [p.1, p.2]
noncomputable def avc (fa : AF) : IF := λρ => (fa ρ).bind λp => match p.1 with
 | [.v (.lst us) _, .v (.lst vs) _] => .ok (auw us vs, p.2)
 | _ => .bad
end L2
end
section
namespace L2
open PySem PySem.Spec PyProof.Rows
noncomputable def asM (K : PySem.W.Frag) : List V -> Hp -> VK -> Prop := λxs H Q => ∃ (p : Addr) (bs : List Bool), xs = [.ref p] /\ SqL K H p (bs.map V.bl) /\ Q (.bl (bs.any id)) H
theorem af7 {X : Cx} (hc : X.calm = true) : ab6 X (.builtin "any") (asM X.K) := by
 intro pins s σ H xs us Q I r h
 obtain ⟨p, bs, rfl, hq, q⟩ := h
 obtain ⟨u, rfl, ru⟩ := vals1 r
 cases ru
 obtain ⟨its, rv, pl, hz⟩ := I.list hq
 refine call_any_walk (wpAny_pyIter_list pl.isList ?_)
 obtain ⟨ol, hol, hol'⟩ := id pl.isList
 have hlt : p < s.heap.objs.size := Heap.lt_size hol
 have hlen : its.toArray.size = bs.length := by simpa using rv.length.symm
 have at_ : ∀ (i : Nat) (v : Value), its.toArray[i]? = some v -> ∃ k, bs[i]? = some k /\ v = Value.bool k := λi v e => by
  have e' : its[i]? = some v := by simpa using e
  have hi : i < its.length := (List.getElem?_eq_some_iff.mp e').1
  have hb : i < (bs.map V.bl).length := by rw [rv.length]; exact hi
  obtain ⟨u', h1, h2⟩ := rv.get (List.getElem?_eq_getElem hb)
  rw [e'] at h1
  cases h1
  have hb' : i < bs.length := by simpa using hb
  refine ⟨bs[i], List.getElem?_eq_getElem hb', ?_⟩
  rw [List.getElem_map] at h2
  exact h2
 refine ⟨s.heap.objs.size, _, _, _, _, _, λi => bs.getD i false, rfl, Walks.list (A := X.A.in1) (I.ok.hd hc) s.heap.objs.size p (Nat.ne_of_lt hlt) its.toArray, ⟨⟨_, Heap.get?_push_size _ rfl, rfl, rfl⟩, ⟨ol, Heap.get?_push_of_some _ hol, hol'⟩⟩, ?_, ?_⟩
 ·intro i v s' Q' E' hP hQ'
  obtain ⟨k, h1, rfl⟩ := at_ i v hP
  have : bs.getD i false = k := by rw [List.getD_eq_getElem?_getD, h1]; rfl
  dsimp only at hQ'
  rw [this] at hQ'
  exact wpAny_truthy_bool hQ'
 ·intro h' tk hk
  have I1 : Inv X pins σ H { s with heap := h', toks := tk } := I.kept λb o e => hk b o (by
   have := Heap.lt_size e
   simp
   exact Nat.ne_of_lt this) (Heap.get?_push_of_some _ e)
  refine ⟨.bl _, H, I1, rfl, ?_⟩
  have eq : (List.range its.toArray.size).any (λi => bs.getD i false) = bs.any id := by
   rw [hlen]
   clear q hq rv at_ hlen hz
   induction bs with
   | nil => rfl
   | cons b r ih =>
    rw [List.length_cons, List.range_succ_eq_map, List.any_cons, List.any_map, List.any_cons]
    exact congrArg (b || ·) ih
  rw [eq]
  exact q
section
variable {K : PySem.W.Frag}
noncomputable def ag1 : G1
 | .lst ts => match afp ts with
  | some bs => .ok (.bl (bs.any id), false)
  | none => .bad
 | _ => .bad
theorem aqy : UnT (nlK K) (λx => asM K [x]) ag1 := λW x a H Q hw rx h => by
 cases a <;> try exact h.elim
 dsimp only [ag1] at h
 split at h
 ·rename_i bs e
  obtain ⟨p, xs, rfl, q, r⟩ := rx.lst
  have z := akv e r
  subst z
  exact ⟨p, bs, rfl, q.toK, h _ H (Same.refl _) (.atm (.bl _))⟩
 ·exact h.elim
end
theorem aqz (a : Tr) (c : Str) : ag1 a ≠ .ex c := by
 cases a <;> first | (intro z; cases z; done) | (dsimp only [ag1]; split <;> (intro z; cases z))
theorem aoh {t : Tx} {K : PySem.W.Frag} {tl : TA} {fl : AF} (hK : t.K = nlK K) (ha : SA t tl fl) : SE t (tCB (asM K) tl) (eCB (g1 ag1) fl) := ahy (by rw [hK]; exact ao2 aqy) (afA aqz) ha
end L2
end
section
namespace L2
open PySem PySem.Spec PyProof.Rows
section
variable {kf : Value -> Int × Int}
noncomputable def q1 (kf : Value -> Int × Int) (xs : Array Keyed) (i : Nat) : Int := match xs[i]? with | some p => (kf p.1).1 | none => 0
noncomputable def q2 (kf : Value -> Int × Int) (xs : Array Keyed) (i : Nat) : Int := match xs[i]? with | some p => (kf p.1).2 | none => 0
noncomputable def Kl (kf : Value -> Int × Int) (xs : Array Keyed) (i j : Nat) : Prop := q1 kf xs i < q1 kf xs j \/ (q1 kf xs i = q1 kf xs j /\ q2 kf xs i < q2 kf xs j)
noncomputable instance {kf : Value -> Int × Int} {xs : Array Keyed} {i j : Nat} : Decidable (Kl kf xs i j) := by unfold Kl; infer_instance
end
section
variable {prog : Program} {w : World} {A : Around} {E : Value -> Shared -> Prop} {s : Shared} {N : Nat} {kd : SortKind} {kf : Value -> Int × Int}
structure SB (a₀ : Array Keyed) (kd : SortKind) (st : SortSt) : Prop where
 pm : (arrOf st).Perm a₀
 kn : kindOf st = kd
 fl : failedOf st = none
 pd : pendingOf st = #[]
noncomputable def Asks (prog : Program) (w : World) (A : Around) (E : Value -> Shared -> Prop) (s : Shared) (a₀ : Array Keyed) (kd : SortKind) (kf : Value -> Int × Int) : Prop :=
 ∀ (st : SortSt) (i j : Nat) (Q : Option Bool -> SortSt -> Prop), SB a₀ kd st -> i < a₀.size -> j < a₀.size -> Q (some (decide (Kl kf (arrOf st) i j))) st -> wpS (model prog w) A E s (ltAt' i j) Q st
variable {a₀ : Array Keyed} (ask : Asks prog w A E s a₀ kd kf)
include ask
end
end L2
end
section
namespace L2
open PySem PySem.Spec PyProof.Rows PySem.W
section
variable {X : Cx} {pins : List (Addr × Obj)} {σ : St} {H : Hp} {s : Shared}
end
section
variable {X : Cx}
end
section
variable {X : Cx} {pins : List (Addr × Obj)} {σ : St} {H : Hp} {s : Shared} {Kv : Hp -> Value -> Int × Int -> Prop} {kd : SortKind} {a kS : Addr} {n : Nat} {kz : Nat -> Int × Int} {vs : List Value}
end
end L2
end
section
namespace L2
open PySem PySem.Spec PyProof.Rows PySem.W
section
variable {X : Cx} {pins : List (Addr × Obj)} {σ : St} {H : Hp} {s : Shared} {Kv : Hp -> Value -> Int × Int -> Prop} {kd : SortKind} {n : Nat} {kz : Nat -> Int × Int} {vs : List Value} {f : Value}
end
end L2
end
section
namespace L2
open PySem PySem.Spec PyProof.Rows PySem.W
section
variable {X : Cx} {pins : List (Addr × Obj)} {σ : St} {H : Hp} {s : Shared} {sc scope : Scope} {No Ns : List Str} {src : List (Option Nat)} {x qual : Str}
end
end L2
end
section
namespace L2
open PySem PySem.Spec PyProof.Rows PySem.W
noncomputable def aqA (mg : Str → Option Value) (base : Heap) : Prop := ∃ bm ob, mg "__builtins__" = some (.ref bm) ∧ bm ≠ builtinsNs ∧ bm ≠ mainGlobals ∧ base.get? bm = some ob ∧ ob.cls = .type "module" ∧ ob.dict = some builtinsNs ∧ ob.data = .plain
section
variable {X : Cx} {pins : List (Addr × Obj)} {σ : St} {H : Hp} {s : Shared} {sc scope : Scope} {No Ns : List Str} {src : List (Option Nat)} {x : Str}
end
end L2
end
section
namespace L2
open PySem PySem.Spec PyProof.Rows PySem.W
noncomputable abbrev KW := Hp -> V -> Int × Int -> Prop
section
variable {X : Cx} {sc scope : Scope} {No Ns : List Str} {src : List (Option Nat)} {x : Str} {Kw : KW} {kd : SortKind}
end
end L2
end
section
namespace L2
open PySem PySem.Spec PyProof.Rows PySem.W
noncomputable def bfr (kz : Nat -> Int × Int) (i j : Nat) : Prop := ((kz i).1 < (kz j).1 \/ ((kz i).1 = (kz j).1 /\ (kz i).2 < (kz j).2)) \/ (((kz i).1 = (kz j).1 /\ (kz i).2 = (kz j).2) /\ i < j)
noncomputable instance {kz : Nat -> Int × Int} {i j : Nat} : Decidable (bfr kz i j) := by unfold bfr; infer_instance
noncomputable def arK (kz : Nat -> Int × Int) (i : Nat) : List Nat -> List Nat
 | [] => [i]
 | j :: r => if bfr kz i j then i :: j :: r else j :: arK kz i r
noncomputable def aqB (n : Nat) (kz : Nat -> Int × Int) : List Nat := (List.range n).foldr (arK kz) []
theorem akE (kz : Nat -> Int × Int) (i : Nat) : ∀ l, (arK kz i l).Perm (i :: l)
 | [] => .refl _
 | j :: r => by
  unfold arK
  split
  ·exact .refl _
  ·exact ((akE kz i r).cons j).trans (.swap i j r)
noncomputable abbrev RF := List (Option Tr) -> Rs Tr
section
variable {K : PySem.W.Frag} {ta tb : TE} {fa fb : RF}
end
noncomputable def slT (ρ : En) (j : Nat) : Option Tr := match ρ[j]? with
 | some (.sh T) => some T
 | some (.ow ts) => some (.lst ts)
 | some (.rf ts) => some (.lst ts)
 | _ => none
noncomputable def aqC (src : List (Option Nat)) (ρ : En) : List (Option Tr) := src.map λo => o.bind (slT ρ)
noncomputable def aoi (kt : Tr -> Option (Int × Int)) (fb : RF) (ts : List (Option Tr)) : List Nat -> Rs (List (Int × Int))
 | [] => .ok []
 | i :: r => (fb (some (Tr.int i) :: ts)).bind λT => match kt T with
  | some k => (aoi kt fb ts r).bind λks => .ok (k :: ks)
  | none => .bad
noncomputable def aqD (kt : Tr -> Option (Int × Int)) (src : List (Option Nat)) (fa : AF) (fb : RF) : EF := λρ => (fa ρ).bind λp => match p.1 with
 | [.v (.int n) _] => if 0 <= n /\ n < 64 then (abH (aoi kt fb (aqC src p.2) (List.range n.toNat))).bind λks => .ok (.v (.lst ((aqB n.toNat λi => ks.getD i (0, 0)).map λi : Nat => Tr.int i)) true, p.2) else .bad
 | _ => .bad
theorem aiO {K : PySem.W.Frag} {H : Hp} : ∀ l : List Nat, aaK K H (l.map λi : Nat => V.int i) (l.map λi : Nat => Tr.int i)
 | [] => .nil
 | n :: l => .cons (.int n) (aiO l)
end L2
end
section
namespace L2
open PySem PySem.Spec PyProof.Rows PySem.W
section
variable {P : Program} {w : World} {K : PySem.W.Frag} {mg : Str -> Option Value} {base : Heap}
end
theorem akF {o : Obj} {d : Data} (h : (noL o).data = d) (n : d ≠ .fields #[]) : noL o = o := by
 unfold noL at h ⊢
 split at h
 ·exact (n h.symm).elim
 ·rename_i q
  rw [if_neg q]
theorem aml {K : PySem.W.Frag} {x : Str} {z : Addr × Addr} (h : tabIn (nlK K) x = some z) : tabIn K x = some z := by
 unfold tabIn at h
 split at h
 ·rename_i f hf
  have g1 : nsIn K mainGlobals x = some (some (.ref f)) := by
   unfold nsIn at hf
   rw [abt] at hf
   cases e : K.lookup mainGlobals with
   | none => rw [e] at hf; cases hf
   | some o =>
    rw [e] at hf
    unfold nsIn
    rw [e]
    have q : noL o = o := by
     dsimp only [Option.map] at hf
     split at hf
     ·rename_i a b es ep c eq
      have eq : noL o = ⟨a, b, .dict es ep, c⟩ := Option.some.inj eq
      exact akF (d := .dict es ep) (by rw [eq]) (by intro z; cases z)
     ·cases hf
    dsimp only [Option.map] at hf
    rw [q] at hf
    exact hf
  split at h
  ·rename_i a b fd osl hfo
   have g2 : K.lookup f = some ⟨a, b, .func fd, osl⟩ := by
    rw [abt] at hfo
    cases e : K.lookup f with
    | none => rw [e] at hfo; cases hfo
    | some o =>
     rw [e] at hfo
     have eq : noL o = ⟨a, b, .func fd, osl⟩ := Option.some.inj hfo
     rw [akF (d := .func fd) (by rw [eq]) (by intro z; cases z)] at eq
     rw [eq]
   split at h
   ·rename_i c hc
    split at h
    ·rename_i a' b' vs auy hco
     split at h
     ·rename_i Pp hv
      cases h
      have g3 : K.lookup c = some ⟨a', b', .fields vs, auy⟩ := by
       rw [abt] at hco
       cases e : K.lookup c with
       | none => rw [e] at hco; cases hco
       | some o =>
        rw [e] at hco
        have eq : noL o = ⟨a', b', .fields vs, auy⟩ := Option.some.inj hco
        rw [akF (d := .fields vs) (by rw [eq]) (by intro z; injection z with z; subst z; simp at hv)] at eq
        rw [eq]
      unfold tabIn
      rw [g1]
      dsimp only
      rw [g2]
      dsimp only
      rw [hc]
      dsimp only
      rw [g3]
      dsimp only
      rw [hv]
     ·cases h
    ·cases h
   ·cases h
  ·cases h
 ·cases h
theorem amm {K : PySem.W.Frag} {x : Str} (a : nsIn K mainGlobals x = some none) : tabIn K x = none := by
 unfold tabIn
 rw [a]
end L2
end
section
namespace L2
open PySem PySem.Spec PyProof.Rows PySem.W
section
variable {X : Cx}
noncomputable def tLR (ta : TA) : TE := λσ H Q => ta σ H λvs H1 => ∃ n : Nat, vs = [.int n] /\ n <= 1000 /\ ∀ D, H1 D = none -> Q (.ref D) (upd H1 D (.lst ((List.range n).map λi : Nat => V.int i)))
theorem aiP {k : Nat} {e : Expr} {p p2 pos pos2 : Pos} {ta : TA} (hr : aeC k X.A) (h1 : X.mg "list" = none) (h2 : X.mg "range" = none) (ha : PA X [e] ta)
  (hg : X.env.kindOf "list" = some .globalImplicit := by kernel_rfl) (hg2 : X.env.kindOf "range" = some .globalImplicit := by kernel_rfl) (hs : notStar e = true := by kernel_rfl) :
  PE X (.Call (.Name "list" p) [.Call (.Name "range" p2) [e] [] pos2] [] pos) (tLR ta) := by
 intro pins s σ H Q I h
 refine wpAny_Call_Name_kw (aft I hg h1 (by decide +kernel : bootBuiltins "list" = some (.type "list")) ?_ (by decide +kernel) (by kernel_rfl))
 refine PyProof.Rows.callWith_type1 (Calls.spliced_cons (wpAny_Call_Name_kw (aft I hg2 h2 boot_range (PyProof.Rows.callWith_type1 (thn (ha pos2 pins s σ H _ I h) λus s1 ⟨vs, H1, I1, r1, q1⟩ => ?_) (ab8 hs) rfl) (by decide +kernel) (by kernel_rfl)))) rfl rfl
 obtain ⟨n, rfl, hn, q⟩ := q1
 obtain ⟨u1, rfl, t1, rfl⟩ := vals1 r1
 refine call_range_1 ?_
 have I2 : Inv X pins σ H1 { s1 with heap := s1.heap.push { cls := .type "range", data := .fields #[.int 0 s1.toks, .int n t1, .int 1 (s1.toks + 1)] }, toks := s1.toks + 1 + 1 } := I1.kept λb o e => Heap.get?_push_of_some _ e
 refine Calls.spliced_nil ?_
 have sz1 : Builtin.Range.rangeSize 0 (n : Int) 1 = n := by rw [rangeSize_one]; split <;> omega
 refine call_list_range hr.hd (Heap.get?_push_size _ rfl) (small_one (by omega) (by omega) (by omega) (by omega)) sz1 (by omega) λh' tk acc c keep hS hi => ?_
 have va : Vals ((List.range n).map λi : Nat => V.int i) acc.toList := by
  have go : ∀ (l : List Value) (m : Nat), (∀ (j : Nat) v, l[j]? = some v -> ∃ t, v = Value.int ((m + j : Nat) : Int) t) -> Vals ((List.range' m l.length).map λi : Nat => V.int i) l := λl => by
   induction l with
   | nil => intro m _; exact .nil
   | cons v r ih =>
    intro m hv
    refine .cons ?_ (ih (m + 1) λj w hw => ?_)
    ·obtain ⟨t, z⟩ := hv 0 v (by simp)
     exact ⟨t, by simpa using z⟩
    ·obtain ⟨t, z⟩ := hv (j + 1) w (by simpa using hw)
     exact ⟨t, by rw [z]; congr 1; omega⟩
  have := go acc.toList 0 λj v hv => by
   obtain ⟨t, z⟩ := hi.2 j v (by rw [<-Array.getElem?_toList]; exact hv)
   exact ⟨t, by rw [z]; simp⟩
  rw [Array.length_toList, hi.1, <-List.range_eq_range'] at this
  exact this
 refine ⟨.ref _, _, I2.laid (t' := tk) keep (Nat.le_refl _) (show adv X.prog X.w _ _ _ (.lst ((List.range n).map λi : Nat => V.int i)) from ⟨by rw [List.length_map, List.length_range, sizeLine_eq]; omega, acc.toList, c, va, by rw [Array.toArray_toList]; exact hS⟩), rfl, q _ (I2.hok.fresh (Nat.le_refl _))⟩
end
noncomputable def eLR (fa : AF) : EF := λρ => (fa ρ).bind λp => match p.1 with
 | [.v (.int n) _] => if 0 <= n /\ n <= 1000 then .ok (.v (.lst ((List.range n.toNat).map λi : Nat => Tr.int i)) true, p.2) else .bad
 | _ => .bad
theorem aoj {K : PySem.W.Frag} {W : Addr -> Prop} {σ : St} {H H' : Hp} {vs : List V} {n : Int} {fr : Bool} (h : ae3 K W σ H H' vs [.v (.int n) fr]) : vs = [.int n] := by
 cases h with
 | cons h1 r1 =>
  cases r1
  cases fr with
  | false =>
   have h1 : Rep _ _ _ (Tr.int n) := h1
   cases h1
   rfl
  | true =>
   obtain ⟨_, _, _, _, z, _⟩ := h1
   cases z
theorem aqE {t : Tx} {ta : TA} {fa : AF} (ha : SA t ta fa) : SE t (tLR ta) (eLR fa) := λW ρ σ H Q e h => by
 refine ha W ρ σ H _ e (Rs.aag (Rs.aac h) λp h vs H1 e1 s1 v1 => ?_)
 obtain ⟨rs, ρ1⟩ := p
 dsimp only at h e1 v1
 split at h
 case h_2 => exact h.elim
 rename_i n fr
 split at h
 case isFalse => exact h.elim
 rename_i hn
 have nn : ((n.toNat : Nat) : Int) = n := by omega
 refine ⟨n.toNat, by rw [aoj v1, nn], by omega, λD nD => ?_⟩
 exact h (.ref D) _ (e1.grow (aaz nD _)) (s1.trans (Stp.of (aaz nD _))) (VOE.back (H := H1) (VOE.of (σ' := σ) e1 (aaz nD _) (VOk.new nD (aiO _))) λb q => s1.dom b q)
end L2
end
section
namespace L2
open PySem PySem.Spec PyProof.Rows
section
variable {t : Tx} {K : PySem.W.Frag}
noncomputable def aok (F : FR) (fa : EF) : EF := λρ => (fa ρ).bind λp => match p.1 with
 | .v (.lst us) true => (F [.lst us]).bind λz => .ok (.v z.1.1 z.1.2, p.2)
 | _ => .bad
end
end L2
end
section
namespace L2
open PySem PySem.Spec PyProof.Rows
section
variable {X : Cx}
end
noncomputable def fuL (i : Nat) (ρ : En) : Nat := match ρ[i]? with
 | some (.sh (.lst ts)) => ts.length + 1
 | some (.ow ts) => ts.length + 1
 | some (.rf ts) => ts.length + 1
 | _ => 0
end L2
end
section
namespace L2
open PySem PySem.Spec PyProof.Rows
section
variable {P : Program} {w : World} {K : PySem.W.Frag}
end
section
variable {X : Cx}
end
section
variable {t : Tx}
end
section
variable {X : Cx}
end
section
variable {K : PySem.W.Frag}
end
end L2
end
section
namespace L2
open PySem PySem.Spec PyProof.Rows
end L2
end
section
namespace L2
open PySem PySem.Spec PyProof.Rows PySem.W
noncomputable def afD : List Str := "HeadError" :: abz
noncomputable def isub (c d : Str) : Bool := c == d || d == ("HeadError" : Str)
noncomputable def aqF : List Ty := [.int, .bool, .str, .tuple, .list]
noncomputable def amn (K : Frag) (cs : List Str) (p : Str -> Addr -> Bool) : Bool := cs.all λc => match nsIn K mainGlobals c with
 | some (some (.ref C)) => p c C
 | _ => true
theorem af8 {K : Frag} {cs : List Str} {p : Str -> Addr -> Bool} (h : amn K cs p = true) {c : Str} (m : c ∈ cs) {C : Addr} (n : nsIn K mainGlobals c = some (some (.ref C))) : p c C = true := by
 have := List.all_eq_true.mp h c m
 rw [n] at this
 exact this
noncomputable def asN (K : Frag) (C : Addr) : Bool := findIn K (.ref C) "__getattribute__" == some (some (.builtin "BaseException.__getattribute__")) && findIn K (.ref C) "__getattr__" == some none && findIn K (.ref C) "__class__" == some (some (.builtin "object.__class__")) && mroIn K C (.type "object") == some true && mroIn K C (.type "BaseException") == some true && (clsIn K C).isSome
theorem aol {K : Frag} {C : Addr} (h : asN K C = true) : akj K C := by
 unfold asN at h
 simp only [Bool.and_eq_true] at h
 obtain ⟨⟨⟨⟨⟨h1, h2⟩, h3⟩, h4⟩, h5⟩, h6⟩ := h
 exact ⟨beq_iff_eq.mp h1, beq_iff_eq.mp h2, beq_iff_eq.mp h3, beq_iff_eq.mp h4, beq_iff_eq.mp h5, h6⟩
noncomputable def aqG (K : Frag) : Bool :=
 amn K abz (λ_ C => asN K C && aqF.all (λy => kitOne K (.ref C) (.type y.name) == some false) && kitOne K (.ref C) (.type "ValueError") == some true) &&
 amn K afD (λd D => kitOne K (.type "NoneType") (.ref D) == some false && amn K abz (λc C => kitOne K (.ref C) (.ref D) == some (isub c d) && (!(d == ("HeadError" : Str)) || exmOne K (.ref C) (.ref D) == some true))) &&
 kitOne K (.type "NoneType") (.type "ValueError") == some false && (match K.lookup mainGlobals with
  | some o => o.cls != .type "list"
  | none => true)
structure ahG (K : Frag) : Prop where
 o : XOk K
 n : ∀ d ∈ afD, ∀ D, nsIn K mainGlobals d = some (some (.ref D)) -> kitOne K (.type "NoneType") (.ref D) = some false
 k : ∀ d ∈ afD, ∀ D, nsIn K mainGlobals d = some (some (.ref D)) -> ∀ c ∈ abz, ∀ C, nsIn K mainGlobals c = some (some (.ref C)) -> kitOne K (.ref C) (.ref D) = some (isub c d)
 v : ∀ c ∈ abz, ∀ C, nsIn K mainGlobals c = some (some (.ref C)) -> kitOne K (.ref C) (.type "ValueError") = some true
 vn : kitOne K (.type "NoneType") (.type "ValueError") = some false
 h : ∀ D, nsIn K mainGlobals "HeadError" = some (some (.ref D)) -> ∀ c ∈ abz, ∀ C, nsIn K mainGlobals c = some (some (.ref C)) -> exmOne K (.ref C) (.ref D) = some true
 x : ∀ c ∈ abz, ∀ C, nsIn K mainGlobals c = some (some (.ref C)) -> akj K C
 mc : ∀ o, K.lookup mainGlobals = some o -> o.cls ≠ .type "list"
theorem ahG.of {K : Frag} (h : aqG K = true) : ahG K := by
 unfold aqG at h
 simp only [Bool.and_eq_true] at h
 obtain ⟨⟨⟨h1, h2⟩, h3⟩, h4⟩ := h
 have a1 : ∀ c ∈ abz, ∀ C, nsIn K mainGlobals c = some (some (.ref C)) -> akj K C /\ (∀ y : Ty, kitOne K (.ref C) (.type y.name) = some false) /\ kitOne K (.ref C) (.type "ValueError") = some true := λc m C n => by
  have := af8 h1 m n
  simp only [Bool.and_eq_true] at this
  obtain ⟨⟨x1, x2⟩, x3⟩ := this
  refine ⟨aol x1, λy => ?_, beq_iff_eq.mp x3⟩
  have := List.all_eq_true.mp x2 y (by cases y <;> simp [aqF])
  exact beq_iff_eq.mp this
 have a2 : ∀ d ∈ afD, ∀ D, nsIn K mainGlobals d = some (some (.ref D)) → kitOne K (.type "NoneType") (.ref D) = some false ∧ ∀ c ∈ abz, ∀ C, nsIn K mainGlobals c = some (some (.ref C)) → kitOne K (.ref C) (.ref D) = some (isub c d) ∧ (d = "HeadError" → exmOne K (.ref C) (.ref D) = some true) := λd m D n => by
  have := af8 h2 m n
  rw [Bool.and_eq_true] at this
  refine ⟨beq_iff_eq.mp this.1, λc mc C nc => ?_⟩
  have := af8 this.2 mc nc
  rw [Bool.and_eq_true] at this
  refine ⟨beq_iff_eq.mp this.1, λe => ?_⟩
  have z := this.2
  rw [Bool.or_eq_true] at z
  rcases z with z | z
  ·rw [e] at z; cases z
  ·exact beq_iff_eq.mp z
 refine ⟨λc m C n => ⟨λa => aiz (a1 c m C n).1, (a1 c m C n).2.1⟩, λd m D n => (a2 d m D n).1, λd m D n c mc C nc => ((a2 d m D n).2 c mc C nc).1, λc m C n => (a1 c m C n).2.2, beq_iff_eq.mp h3, λD n c mc C nc => ((a2 "HeadError" (List.mem_cons_self ..) D n).2 c mc C nc).2 rfl, λc m C n => (a1 c m C n).1, λo e => ?_⟩
 rw [e] at h4
 simpa using h4
noncomputable def isc : Tr -> Str -> Option Bool
 | .exn c, d => some (isub c d)
 | .non, _ => some false
 | _, _ => none
noncomputable def isv : Tr -> Option Bool
 | .exn _ => some true
 | .non => some false
 | _ => none
noncomputable def asO (K : Frag) (d : Str) (D : Addr) : List V -> Hp -> VK -> Prop := λxs H Q => ∃ v T b, xs = [v, .ref D] /\ Rep K H v T /\ isc T d = some b /\ Q (.bl b) H
noncomputable def asQ (K : Frag) : List V -> Hp -> VK -> Prop := λxs H Q => ∃ v T b, xs = [v, .ty "ValueError"] /\ Rep K H v T /\ isv T = some b /\ Q (.bl b) H
section
variable {X : Cx}
theorem amo (hX : ahG X.K) {d : Str} {D : Addr} (hd : d ∈ afD) (hn : nsIn X.K mainGlobals d = some (some (.ref D))) : ab6 X (.builtin "isinstance") (asO X.K d D) := by
 intro pins s σ H xs us Q I r h
 obtain ⟨v, T, b, rfl, q1, hb, q⟩ := h
 cases q1 with
 | exn h m n =>
  cases hb
  exact aiA pins s σ H _ us Q I r ⟨_, _, .ref D, _, _, rfl, h, hX.x _ m _ n, λu h => h, hX.k d hd D hn _ m _ n, q⟩
 | non =>
  cases hb
  exact aiB pins s σ H _ us Q I r ⟨.ref D, _, _, rfl, λu h => h, hX.n d hd D hn, q⟩
 | bl y => cases hb
 | int i => cases hb
 | str y => cases hb
 | tup h r => cases hb
 | lst h r => cases hb
theorem amq (hX : ahG X.K) : ab6 X (.builtin "isinstance") (asQ X.K) := by
 intro pins s σ H xs us Q I r h
 obtain ⟨v, T, b, rfl, q1, hb, q⟩ := h
 cases q1 with
 | exn h m n =>
  cases hb
  exact aiA pins s σ H _ us Q I r ⟨_, _, .type "ValueError", _, _, rfl, h, hX.x _ m _ n, λu h => h, hX.v _ m _ n, q⟩
 | non =>
  cases hb
  exact aiB pins s σ H _ us Q I r ⟨.type "ValueError", _, _, rfl, λu h => h, hX.vn, q⟩
 | bl y => cases hb
 | int i => cases hb
 | str y => cases hb
 | tup h r => cases hb
 | lst h r => cases hb
variable {e : Expr} {te : TE} {x : Str} {p q pos : Pos}
theorem pcX (hX : ahG X.K) {D : Addr} (hd : x ∈ afD) (hn : nsIn X.K mainGlobals x = some (some (.ref D))) (hm : X.mg x = some (.ref D)) (he : PE X e te) (h1 : X.mg "isinstance" = none) (hg1 : X.env.kindOf "isinstance" = some .globalImplicit := by kernel_rfl) (hg2 : X.env.kindOf x = some .globalImplicit := by kernel_rfl) (hdb : (x == ("__debug__" : Str)) = false := by kernel_rfl)
  (hs : notStar e = true := by kernel_rfl) : PE X (.Call (.Name "isinstance" p) [e, .Name x q] [] pos) (tCB (asO X.K x D) (acF te (acF (tC (.ref D)) aj6))) :=
 aeM (amo hX hd hn) hg1 h1 PyProof.Rows.boot_isinstance (abQ he (abQ (ajT (v := .ref D) hg2 hm rfl hdb) aaj) (ab8 hs)) (by decide +kernel) (by kernel_rfl) (ab8 hs)
theorem pcV (hX : ahG X.K) (he : PE X e te) (h1 : X.mg "isinstance" = none) (h2 : X.mg "ValueError" = none) (hg1 : X.env.kindOf "isinstance" = some .globalImplicit := by kernel_rfl) (hg2 : X.env.kindOf "ValueError" = some .globalImplicit := by kernel_rfl)
  (hs : notStar e = true := by kernel_rfl) : PE X (.Call (.Name "isinstance" p) [e, .Name "ValueError" q] [] pos) (tCB (asQ X.K) (acF te (acF (tC (.ty "ValueError")) aj6))) :=
 aeM (amq hX) hg1 h1 PyProof.Rows.boot_isinstance (abQ he (abQ (ajU (v := .ty "ValueError") hg2 h2 (by decide +kernel) rfl (by decide +kernel) (by kernel_rfl)) aaj) (ab8 hs)) (by decide +kernel) (by kernel_rfl) (ab8 hs)
end
section
variable {t : Tx} {K : Frag}
noncomputable def ahl (d : Str) (fa : EF) : EF := λρ => (fa ρ).bind λp => (dr p.2 p.1).bind λa => match isc a d with
 | some b => .ok (eB b, p.2)
 | none => .bad
noncomputable def asR (fa : EF) : EF := λρ => (fa ρ).bind λp => (dr p.2 p.1).bind λa => match isv a with
 | some b => .ok (eB b, p.2)
 | none => .bad
theorem aco (hK : t.K = nlK K) {d : Str} {D : Addr} {ta : TE} {fa : EF} (ha : SE t ta fa) : SE t (tCB (asO K d D) (acF ta (acF (tC (.ref D)) aj6))) (ahl d fa) := λW ρ σ H Q e h => by
 refine ha W ρ σ H _ e (Rs.aag (Rs.aac h) λp h x H1 e1 s1 v1 => ?_)
 obtain ⟨a, k1, h⟩ := abl (Rs.aac h) (abL _ _)
 have r := adw e1 e.wn v1.1 k1
 rw [hK] at r
 cases z : isc a d with
 | none => rw [z] at h; exact h.elim
 | some b =>
  rw [z] at h
  exact ⟨x, a, b, rfl, r.rep.toK, z, h _ H1 e1 s1 (.low (.bl _))⟩
theorem aqH (hK : t.K = nlK K) {ta : TE} {fa : EF} (ha : SE t ta fa) : SE t (tCB (asQ K) (acF ta (acF (tC (.ty "ValueError")) aj6))) (asR fa) := λW ρ σ H Q e h => by
 refine ha W ρ σ H _ e (Rs.aag (Rs.aac h) λp h x H1 e1 s1 v1 => ?_)
 obtain ⟨a, k1, h⟩ := abl (Rs.aac h) (abL _ _)
 have r := adw e1 e.wn v1.1 k1
 rw [hK] at r
 cases z : isv a with
 | none => rw [z] at h; exact h.elim
 | some b =>
  rw [z] at h
  exact ⟨x, a, b, rfl, r.rep.toK, z, h _ H1 e1 s1 (.low (.bl _))⟩
noncomputable def Pr {α : Type} (f : En -> Rs (α × En)) : Prop := ∀ ρ, (∀ p, f ρ = .ok p -> p.2 = ρ) /\ ∀ c, f ρ ≠ .ex c
theorem akG (i : Nat) : Pr (aah i) := λρ => by
 unfold aah
 refine ⟨λp h => ?_, λc h => ?_⟩ <;> (split at h <;> cases h)
 all_goals rfl
theorem ana : Pr aar := λρ => ⟨λp h => by cases h; rfl, λc h => by cases h⟩
theorem akH {f : EF} {g : AF} (h1 : Pr f) (h2 : Pr g) : Pr (aaf f g) := λρ => by
 unfold aaf
 cases e1 : f ρ with
 | bad => exact ⟨λp h => (by cases h), λc h => (by cases h)⟩
 | ex c => exact absurd e1 ((h1 ρ).2 c)
 | ok p =>
  have z := (h1 ρ).1 p e1
  obtain ⟨r, ρ1⟩ := p
  dsimp only at z
  subst z
  show (∀ p, ((g ρ1).bind _) = .ok p -> _) /\ ∀ c, ((g ρ1).bind _) ≠ .ex c
  cases e2 : g ρ1 with
  | bad => exact ⟨λp h => (by cases h), λc h => (by cases h)⟩
  | ex c => exact absurd e2 ((h2 ρ1).2 c)
  | ok q =>
   have z := (h2 ρ1).1 q e2
   exact ⟨λp h => by cases h; exact z, λc h => by cases h⟩
theorem avd (T : Tr) : Pr (eC T) := λρ => ⟨λp h => by cases h; rfl, λc h => by cases h⟩
theorem asS {g : G2} {f h : EF} (ng : ∀ a b c, g a b ≠ .ex c) (h1 : Pr f) (h2 : Pr h) : Pr (eOp g f h) := λρ => by
 unfold eOp
 cases e1 : f ρ with
 | bad => exact ⟨λp h => (by cases h), λc h => (by cases h)⟩
 | ex c => exact absurd e1 ((h1 ρ).2 c)
 | ok p =>
  have z := (h1 ρ).1 p e1
  obtain ⟨r, ρ1⟩ := p
  dsimp only at z
  subst z
  show (∀ p, ((h ρ1).bind _) = .ok p -> _) /\ ∀ c, ((h ρ1).bind _) ≠ .ex c
  cases e2 : h ρ1 with
  | bad => exact ⟨λp h => (by cases h), λc h => (by cases h)⟩
  | ex c => exact absurd e2 ((h2 ρ1).2 c)
  | ok q =>
   have z := (h2 ρ1).1 q e2
   obtain ⟨r2, ρ2⟩ := q
   dsimp only at z
   subst z
   show (∀ p, ((dr ρ2 r).bind _) = .ok p -> _) /\ ∀ c, ((dr ρ2 r).bind _) ≠ .ex c
   cases e3 : dr ρ2 r with
   | bad => exact ⟨λp h => (by cases h), λc h => (by cases h)⟩
   | ex c => exact absurd e3 (abL _ _ c)
   | ok a =>
    show (∀ p, ((dr ρ2 r2).bind _) = .ok p -> _) /\ ∀ c, ((dr ρ2 r2).bind _) ≠ .ex c
    cases e4 : dr ρ2 r2 with
    | bad => exact ⟨λp h => (by cases h), λc h => (by cases h)⟩
    | ex c => exact absurd e4 (abL _ _ c)
    | ok b =>
     show (∀ p, ((g a b).bind _) = .ok p -> _) /\ ∀ c, ((g a b).bind _) ≠ .ex c
     cases e5 : g a b with
     | bad => exact ⟨λp h => (by cases h), λc h => (by cases h)⟩
     | ex c => exact absurd e5 (ng _ _ c)
     | ok z => exact ⟨λp h => (by cases h; rfl), λc h => (by cases h)⟩
theorem aom {f : EF} (h1 : Pr f) : Pr (abn f) := λρ => by
 unfold abn
 cases e1 : f ρ with
 | bad => exact ⟨λp h => (by cases h), λc h => (by cases h)⟩
 | ex c => exact absurd e1 ((h1 ρ).2 c)
 | ok p =>
  have z := (h1 ρ).1 p e1
  obtain ⟨r, ρ1⟩ := p
  dsimp only at z
  subst z
  show (∀ p, ((dr ρ1 r).bind _) = .ok p -> _) /\ ∀ c, ((dr ρ1 r).bind _) ≠ .ex c
  cases e3 : dr ρ1 r with
  | bad => exact ⟨λp h => (by cases h), λc h => (by cases h)⟩
  | ex c => exact absurd e3 (abL _ _ c)
  | ok a =>
   show (∀ p, ((bOf a).bind _) = .ok p -> _) /\ ∀ c, ((bOf a).bind _) ≠ .ex c
   cases e5 : bOf a with
   | bad => exact ⟨λp h => (by cases h), λc h => (by cases h)⟩
   | ex c => exact absurd e5 (ahx _ c)
   | ok z => exact ⟨λp h => (by cases h; rfl), λc h => (by cases h)⟩
noncomputable def SEX (t : Tx) (cl : Str -> Addr) (te : TEX) (f : EF) : Prop := ∀ W ρ σ H Q (EX : St -> XK), EOk t W ρ σ H -> (f ρ).post (λc => ∀ H', EOk t W ρ σ H' -> Stp W H H' -> EX σ (.ref (cl c)) none H') (λp => ∀ v H', EOk t W p.2 σ H' -> Stp W H H' -> VOE t W p.2 σ H H' v p.1 -> Q v H') -> te EX σ H Q
noncomputable def SX (t : Tx) (cl : Str -> Addr) (tb : TX) (f : SF) : Prop := ∀ W ρ σ H D (EX : St -> XK), EOk t W ρ σ H -> (f ρ).post (λc => ∀ H', EOk t W ρ σ H' -> Stp W H H' -> EX σ (.ref (cl c)) none H') (aeb t W H D) -> tb D EX σ H
theorem aiQ (hK : t.K = nlK K) {cl : Str -> Addr} {n : Nat} {F : FP} {ta : TA} {fa : AF} (pr : Pr fa) (hn : ∀ ρ p, fa ρ = .ok p -> p.1.length = n) (ha : SA t ta fa) : SEX t cl (aki (spP K cl n F) ta) (aaA F fa) := λW ρ σ H Q EX e h => by
 have h := Rs.aac h
 cases ek : fa ρ with
 | bad => rw [ek] at h; exact h.elim
 | ex c => exact absurd ek ((pr ρ).2 c)
 | ok p =>
 have hl := hn ρ p ek
 have h2 := (pr ρ).1 p ek
 rw [ek] at h
 refine ha W ρ σ H _ e (post_eq ek ?_)
 intro vs H1 e1 s1 v1
 have h : ((drs p.2 p.1).bind _).post _ _ := h
 obtain ⟨as, k1, h⟩ := abl (Rs.aac h) (ad9 _ _)
 have r := agP e1 e.wn v1 k1
 have lv : vs.length = n := v1.length.trans hl
 have fin : ∀ Z : Addr -> Prop, (∀ b, Z b -> W b) -> (∀ z, F as = .ok z -> ¬ (p.1.any isS = true /\ acw z = false) -> (∀ b, W b -> Z b) \/ acw z = true) -> aaK (nlK K) (aaQ Z H1) vs as -> spP K cl n F vs H1 Q (EX σ) := λZ zw zs rr => by
  refine ⟨Z, as, lv, rr, λb z => e1.wl b (zw b z), by rw [<-hK]; exact e1.tab.ok, ?_⟩
  have h := Rs.aac h
  cases ef : F as with
  | bad => rw [ef] at h; exact h.elim
  | ex c =>
   rw [ef] at h
   intro H' sm
   rw [<-hK] at sm
   obtain ⟨eg, sg⟩ := e1.al2 sm
   exact h H' (h2 ▸ eg) (s1.trans sg)
  | ok z =>
   rw [ef] at h
   have h : (if p.1.any isS = true /\ acw z = false then Rs.bad else .ok (.v z.1 z.2, p.2) : Rs (Rv × En)).post _ _ := h
   split at h
   ·exact h.elim
   ·rename_i c
    intro v H' sm vr
    rw [<-hK] at vr sm
    obtain ⟨eg, sg⟩ := e1.al2 sm
    refine h v H' eg (s1.trans sg) (VOE.back (H := H1) ?_ s1.dom)
    exact VRt.voe (W0 := W) e1.wn eg.wl (zs z ef c) vr λa xs na qa => e1.aqi sm na qa
 by_cases an : p.1.any isS = true
 ·refine fin (λ_ => False) (λ_ z => z.elim) (λz ez c => .inr ?_) ?_
  ·cases fz : acw z with
   | true => rfl
   | false => exact (c ⟨an, fz⟩).elim
  ·rw [<-hK]
   exact r.reps
 ·refine fin W (λ_ z => z) (λz ez c => .inl λ_ z => z) ?_
  rw [<-hK]
  exact af0 e.wn v1 k1 (by simpa using an)
theorem akI {cl : Str -> Addr} {te : TEX} {f : EF} (h1 : SEX t cl te f) : SX t cl (λD EX σ H => te EX σ H λ_ H1 => D.nx σ H1) (ac1 f) := λW ρ σ H D EX e h =>
 h1 W ρ σ H _ EX e (Rs.aag (Rs.aac h) λp h v H1 e1 s1 v1 => h W σ H1 e1 s1.nxt)
theorem asT {cl : Str -> Addr} {tc : TT} {a b : TX} {c : BF} {f g : SF} (hp : Pr c) (hc : ST t tc c) (hf : SX t cl a f) (hg : SX t cl b g) : SX t cl (λD EX σ H => tc σ H λd H1 => if d = true then a D EX σ H1 else b D EX σ H1) (sIf c f g) := λW ρ σ H D EX e h => by
 have h := Rs.aac h
 cases ek : c ρ with
 | bad => rw [ek] at h; exact h.elim
 | ex c => exact absurd ek ((hp ρ).2 c)
 | ok p =>
  have z := (hp ρ).1 p ek
  rw [ek] at h
  refine hc W ρ σ H _ e (post_eq ek ?_)
  intro H1 e1 s1
  obtain ⟨d, ρ1⟩ := p
  dsimp only at z
  subst z
  cases d with
  | true =>
   have h : (f ρ1).post _ _ := h
   refine hf W ρ1 σ H1 D EX e1 ?_
   cases er : f ρ1 with
   | bad => rw [er] at h; exact h
   | ex c => rw [er] at h; exact λH' e' s' => h H' e' (s1.trans s')
   | ok q => rw [er] at h; exact aeb.back h s1.nxt
  | false =>
   have h : (g ρ1).post _ _ := h
   refine hg W ρ1 σ H1 D EX e1 ?_
   cases er : g ρ1 with
   | bad => rw [er] at h; exact h
   | ex c => rw [er] at h; exact λH' e' s' => h H' e' (s1.trans s')
   | ok q => rw [er] at h; exact aeb.back h s1.nxt
theorem EOk.unset {W : Addr -> Prop} {ρ : En} {σ : St} {H : Hp} {i : Nat} (e : EOk t W ρ σ H) : EOk t W (ρ.set i .un) (σ.set i none) H := by
 have mu : ∀ j, Mu (ρ.set i .un) j -> j ≠ i /\ Mu ρ j := λj h => by
  obtain ⟨ts, h | h⟩ := h <;> rcases get_set h with ⟨rfl, z, _⟩ | ⟨ne, h⟩
  ·cases z
  ·exact ⟨ne, ts, .inl h⟩
  ·cases z
  ·exact ⟨ne, ts, .inr h⟩
 have dpo : ∀ j us, (ρ.set i .un)[j]? = some (.dp us) -> j ≠ i /\ ρ[j]? = some (.dp us) := λj us h => by
  rcases get_set h with ⟨rfl, z, _⟩ | ⟨ne, h⟩
  ·cases z
  ·exact ⟨ne, h⟩
 obtain ⟨F, e⟩ := e
 refine ⟨F, by rw [List.length_set, List.length_set]; exact e.len, e.zw, e.z0, e.wl, e.f0, e.n0, λj u h => ?_, λj ts h => ?_, λj ts h => ?_, λj k a h1 h2 q1 q2 => ?_, e.pn, λj a m q => e.pd j a (mu j m).2 (by rw [List.getElem?_set_ne (Ne.symm (mu j m).1)] at q; exact q),
  λj us h => ?_, λj k us ws n h1 h2 => e.dd j k us ws n (dpo j us h1).2 (dpo k ws h2).2, λj k us c h1 m q => e.dm j k us c (dpo j us h1).2 (mu k m).2 (by rw [List.getElem?_set_ne (Ne.symm (mu k m).1)] at q; exact q), λj us h => e.db j us (dpo j us h).2, e.tab⟩
 ·rcases get_set h with ⟨rfl, z, l⟩ | ⟨ne, h⟩
  ·cases z
  ·obtain ⟨w, h1, h2⟩ := e.sh j u h
   exact ⟨w, by rw [List.getElem?_set_ne (Ne.symm ne)]; exact h1, h2⟩
 ·rcases get_set h with ⟨rfl, z, l⟩ | ⟨ne, h⟩
  ·cases z
  ·obtain ⟨a, xs, h1, h2⟩ := e.ow j ts h
   exact ⟨a, xs, by rw [List.getElem?_set_ne (Ne.symm ne)]; exact h1, h2⟩
 ·rcases get_set h with ⟨rfl, z, l⟩ | ⟨ne, h⟩
  ·cases z
  ·obtain ⟨a, xs, h1, h2⟩ := e.rf j ts h
   exact ⟨a, xs, by rw [List.getElem?_set_ne (Ne.symm ne)]; exact h1, h2⟩
 ·obtain ⟨n1, m1⟩ := mu j h1
  obtain ⟨n2, m2⟩ := mu k h2
  rw [List.getElem?_set_ne (Ne.symm n1)] at q1
  rw [List.getElem?_set_ne (Ne.symm n2)] at q2
  exact e.dis j k a m1 m2 q1 q2
 ·obtain ⟨ne, h⟩ := dpo j us h
  obtain ⟨c, ys, h1, d⟩ := e.dp j us h
  exact ⟨c, ys, by rw [List.getElem?_set_ne (Ne.symm ne)]; exact h1, d⟩
noncomputable def Cg (K : Frag) (mg : Str -> Option Value) (x : Str) (k : Addr) : Prop := nsIn K mainGlobals x = some (some (.ref k)) /\ mg x = some (.ref k)
noncomputable def XCl (K : Frag) (cl : Str -> Addr) (cs : List Str) : Prop := ∀ c ∈ cs, c ∈ abz /\ nsIn K mainGlobals c = some (some (.ref (cl c)))
noncomputable def alu (cs : List Str) (j : Nat) (fb fh : SF) : SF := λρ => match fb ρ with
 | .bad => .bad
 | .ok q => .ok q
 | .ex c => if c ∈ cs then (abH (fh (ρ.set j (.sh (.exn c))))).bind λq => .ok (q.1, q.2.set j .un) else .bad
theorem aqI (hK : t.K = nlK K) {cl : Str -> Addr} {cs : List Str} {cH : Addr} {j : Nat} {tb : TX} {ts : TS} {fb fh : SF} (hX : ahG K) (hC : XCl K cl cs) (hn : nsIn K mainGlobals "HeadError" = some (some (.ref cH))) (hb : SX t cl tb fb)
  (hh : ∀ t' : Tx, t'.K = t.K -> (∀ c, ¬ t'.EX c) -> SS t' ts fh) : SS t (aun K cH j tb ts) (alu cs j fb fh) := λW ρ σ H D e h => by
 show tb D (exK K cH j ts D) σ H
 refine hb W ρ σ H D (exK K cH j ts D) e ?_
 unfold alu at h
 cases ek : fb ρ with
 | bad => rw [ek] at h; exact h.elim
 | ok q => rw [ek] at h; exact h
 | ex c =>
  rw [ek] at h
  dsimp only at h
  split at h
  ·rename_i mc
   obtain ⟨me, nc⟩ := hC c mc
   intro H' e' s'
   refine ⟨cl c, rfl, hX.h cH hn c me (cl c) nc, λea fe => ?_⟩
   have sm := aaz fe (exO ea (cl c))
   have e1 := e'.grow sm
   have nw : ¬ W ea := λw => e'.wn ea w fe
   have e2 : EOk t W (ρ.set j (.sh (.exn c))) (σ.set j (some (.ref ea))) (upd H' ea (exO ea (cl c))) := e1.aiH (by
    refine .exn (C := cl c) ?_ me (by rw [hK]; exact anN hX.mc nc)
    rw [aaB nw, aa8])
   refine hh { t with EX := λ_ => False } rfl (λ_ => id) W _ _ _ (goes j D) e2.ex (Rs.aag (adP (Rs.aac h)) λq h => ?_)
   have ex3 : ∀ {W2 : Addr -> Prop} {ρ2 : En} {σ2 : St} {H2 : Hp}, EOk { t with EX := λ_ => False } W2 ρ2 σ2 H2 -> EOk t W2 ρ2 σ2 H2 := λe => EOk.ex (t := { t with EX := λ_ => False }) (EX := t.EX) e
   have st : Stp W H (upd H' ea (exO ea (cl c))) := s'.trans (Stp.of sm)
   obtain ⟨fl, ρ'⟩ := q
   have h : aeb t W H D (fl, ρ'.set j .un) := h
   cases fl with
   | nx => exact λW2 σ2 H2 e3 n3 => h W2 _ H2 (EOk.unset (ex3 e3)) (st.nxt.trans n3)
   | rt T fr => exact λv W2 σ2 H2 e3 r3 => h v W2 _ H2 (EOk.unset (ex3 e3)) (by cases fr <;> exact r3)
   | bk => exact λW2 σ2 H2 e3 n3 => h W2 _ H2 (EOk.unset (ex3 e3)) (st.nxt.trans n3)
   | ct => exact λW2 σ2 H2 e3 n3 => h W2 _ H2 (EOk.unset (ex3 e3)) (st.nxt.trans n3)
  ·exact h.elim
end
section
variable {X : Cx} {e : Expr} {te : TEX} {pos : Pos}
theorem akJ (he : PEX X e te) (hs : swapsWith e none pos.line X.env = pure false := by rfl) : PX X (.Expr e pos) (λD EX σ H => te EX σ H λ_ H1 => D.nx σ H1) := by
 intro pins s σ H D EX I h
 exact wpAny_Expr_any (wpAny_mono (he pins s σ H _ EX I h) (λv s1 ⟨x, H1, I1, r1, q1⟩ => ⟨σ, H1, I1, q1⟩) λ_ _ z => z) I.quiet hs
end
end L2
end
section
namespace BH
open PySem L2
noncomputable def aeG : SF := (aaN (aev (acB (fuI 1) (abn (eOp gNe (aah 1) (eC (.int 0)))) (ao4 0 1 (aaf (aah 1) (aaf (eOp ab5 (aah 0) (aah 1)) aar))))) (abR (eCB (g1 ac2) (aaf (aah 0) aar))))
noncomputable def abB : FP := fnP 2 aeG
noncomputable def aew : SF := (abR (eOp gLt (eOp abP (eOp gIx (aah 0) (eC (.int 0))) (eOp gIx (aah 1) (eC (.int 1)))) (eOp abP (eOp gIx (aah 1) (eC (.int 0))) (eOp gIx (aah 0) (eC (.int 1))))))
noncomputable def abb : FP := fnP 2 aew
noncomputable def ajg : SF := (abR (ao1 (anY .int (aah 0)) (asi (anY .bool (aah 0)))))
noncomputable def acC : FP := fnP 1 ajg
noncomputable def adR : SF := (aaN (sIf (bOr (agQ (aes (anY .tuple (aah 0)))) (abn (eOp gNe (eCB (g1 aby) (aaf (aah 0) aar)) (eC (.int 2))))) (abR (eC (.bl false))) aeu) (aaN (abA (aah 0) (gT 2 (adO (gN 1) (adO (gN 2) ajc)))) (aaN (sIf (bOr (agQ (aes (aaA acC (aaf (aah 1) aar)))) (agQ (aes (aaA acC (aaf (aah 2) aar))))) (abR (eC (.bl false))) aeu) (abR (ao1 (eOp gGe (aah 2) (eC (.int 1))) (eOp gEq (aaA abB (aaf (aah 1) (aaf (aah 2) aar))) (eC (.int 1))))))))
noncomputable def abN : FP := fnP 3 adR
noncomputable def afE : SF := (abR (ao1 (aaA abN (aaf (aah 0) aar)) (afz gLe gLe (eC (.int 0)) (eOp gIx (aah 0) (eC (.int 0))) (eOp gIx (aah 0) (eC (.int 1))))))
noncomputable def abu : FP := fnP 1 afE
noncomputable def aex : SF := (aaN (sIf (bOr (agQ (aes (anY .list (aah 0)))) (agQ (abn (afz gLe gLe (eC (.int 1)) (eCB (g1 aby) (aaf (aah 0) aar)) (aah 1))))) (abR (eC (.bl false))) aeu) (abR (eCB (g1 acj) (aaf (abo [none] (fSq (aah 0)) (gN 0) aeF (aaA abu (aaf (aah 0) aar))) aar))))
noncomputable def abp : FP := fnP 2 aex
noncomputable def ag2 : SF := (aaN (sIf (bOr (agQ (aes (anY .list (aah 0)))) (agQ (abn (afz gLe gLe (eC (.int 1)) (eCB (g1 aby) (aaf (aah 0) aar)) (eC (.int 4)))))) (abR (eC (.bl false))) aeu) (aaN (sIf (agQ (aes (eCB (g1 acj) (aaf (abo [none] (fSq (aah 0)) (gN 0) aeF (aaA abp (aaf (aah 0) (aaf (eC (.int 12)) aar)))) aar)))) (abR (eC (.bl false))) aeu) (abR (eCB (g1 acj) (aaf (abo [none, some 0] (fSq (aah 0)) (gN 0) aeF (eOp gEq (eCB (g1 aby) (aaf (aah 0) aar)) (eCB (g1 aby) (aaf (eOp gIx (aah 1) (eC (.int 0))) aar)))) aar)))))
noncomputable def adg : FP := fnP 1 ag2
noncomputable def adD : SF := (sIf (agQ (aes (aaA adg (aaf (aah 0) aar)))) (aky "NoBook" (eC (.str "this is no book"))) aeu)
noncomputable def aa7 : FP := fnP 1 adD
noncomputable def akK : SF := (aaN (sIf (aes (eCB (g1 ag1) (aaf (abo [none, some 1, some 2] (fSq (aah 0)) (gN 0) aeF (aaA abb (aaf (eOp gIx (aah 0) (aah 1)) (aaf (eOp gIx (aah 0) (aah 2)) aar)))) aar))) (abR (eC (.bl false))) aeu) (abR (eCB (g1 ag1) (aaf (abo [none, some 2, some 1] (fSq (aah 0)) (gN 0) aeF (aaA abb (aaf (eOp gIx (aah 0) (aah 1)) (aaf (eOp gIx (aah 0) (aah 2)) aar)))) aar))))
noncomputable def aef : FP := fnP 3 akK
noncomputable def af9 : SF := (abR (abo [none, some 1, some 0] (fSq (aah 1)) (gN 0) (agQ (aes (eCB (g1 ag1) (aaf (abo [none, some 2, some 0] (fSq (aah 1)) (gN 0) aeF (aaA aef (aaf (aah 1) (aaf (aah 0) (aaf (aah 2) aar))))) aar)))) (aah 0)))
noncomputable def aa5 : FP := fnP 2 af9
noncomputable def aeg : SF := (aaN (ac1 (aaA aa7 (aaf (aah 0) aar))) (abR (aaA aa5 (aaf (aah 0) (aaf (eLR (aaf (eCB (g1 aby) (aaf (eOp gIx (aah 0) (eC (.int 0))) aar)) aar)) aar)))))
noncomputable def abj : FP := fnP 1 aeg
noncomputable def adS : SF := (aaN (ac1 (aaA aa7 (aaf (aah 0) aar))) (aaN (ajO 1 (acY aar)) (aaN (abA (eLR (aaf (eCB (g1 aby) (aaf (eOp gIx (aah 0) (eC (.int 0))) aar)) aar)) (gN 2)) (aaN (aev (acB (fuL 2) (aes (aah 2)) (aaN (abA (aaA aa5 (aaf (aah 0) (aaf (aah 2) aar))) (gN 3)) (aaN (ac1 (eMt 1 ahA (aaf (aah 3) aar))) (abA (abo [none, some 3] (fSq (aah 2)) (gN 0) (abn (eOp (gIn not) (aah 0) (aah 1))) (aah 0)) (gN 2)))))) (abR (aah 1))))))
noncomputable def aaX : FP := fnP 4 adS
end BH
end
section
namespace K51
open PySem L2 BH
noncomputable def top (i : Nat) : Stmt := PySem.Challenge.pw_bestheads_k51_no_book_to_beat_in.main.body.getD i (.Pass ⟨0, 0, 0, 0⟩)
noncomputable abbrev aeh : Stmt := top 17
noncomputable abbrev abY : Stmt := top 18
noncomputable abbrev adh : Stmt := top 19
noncomputable abbrev acS : Stmt := top 20
noncomputable abbrev aei : Stmt := top 24
noncomputable abbrev acp : Stmt := top 25
noncomputable abbrev adi : Stmt := top 26
noncomputable abbrev adE : Stmt := top 27
noncomputable abbrev afd : Stmt := top 29
noncomputable abbrev abO : Stmt := top 30
noncomputable abbrev aej : Stmt := top 31
noncomputable abbrev ab2 : Stmt := top 32
noncomputable abbrev ahH : Stmt := top 34
noncomputable abbrev akL : Stmt := top 35
noncomputable abbrev akM : Stmt := top 36
noncomputable abbrev ahI : Stmt := top 37
noncomputable abbrev ahJ : Stmt := top 38
noncomputable abbrev akN : Stmt := top 39
noncomputable abbrev adk : Stmt := top 40
noncomputable abbrev arL : Stmt := top 41
noncomputable abbrev aga : Stmt := top 42
noncomputable abbrev aon : Stmt := top 43
structure Nm (mg : Str -> Option Value) : Prop where
 ag3 : mg "ValueError" = none
 asU : mg "abs" = none
 aoo : mg "all" = none
 aop : mg "any" = none
 aqJ : mg "bool" = none
 aqK : mg "int" = none
 aas : mg "isinstance" = none
 aeH : mg "len" = none
 aiR : mg "list" = none
 asV : mg "min" = none
 adF : mg "range" = none
 ahK : mg "tuple" = none
noncomputable def akO : SF := (aaN (abA (eOp aaV (eSl (aah 0) oNo (acv (eC (.int 63)))) (acY (aaf (eCB (g1 aby) (aaf (aah 0) aar)) aar))) (gN 1)) (aaN (abA (eC (.int 1)) (gN 2)) (aaN (aev (agT (ahz (aaf (eC (.int 160)) aar)) (gN 3) (aaN (abA (eOp ab5 (eOp aaV (eOp aaV (eOp gIx (aah 1) (eOp ab5 (aah 3) (eCB (g1 aby) (aaf (aah 1) aar)))) (eOp abP (eC (.int 48271)) (aah 3))) (eC (.int 7))) (eC (.int 2147483629))) (gN 4)) (aaN (abA (eOp ab5 (eOp aaV (eOp abP (aah 4) (aah 4)) (eOp abP (eC (.int 69621)) (aah 3))) (eC (.int 2147483587))) (gN 4)) (abA (eOp aaV (eOp abP (aah 2) (eC (.int 2147483587))) (eOp ab5 (eOp abP (aah 4) (aah 4)) (eC (.int 2147483563)))) (gN 2)))))) (aaN (sIf (abn (eOp gGe (eOp gIx (aah 1) (eC (.int 0))) (eOp acu (eC (.int 10)) (eC (.int 18))))) (abR (acY (aaf (eOp ach (eOp gIx (aah 1) (eC (.int 0))) (eOp acu (eC (.int 10)) (eC (.int 18)))) (aaf (aah 2) aar)))) aeu) (abR (acY (aaf (eC (.int 0)) (aaf (aah 2) aar))))))))
noncomputable def aek : FP := fnP 5 akO
noncomputable def akP : SF := (aaN (abA (eCB (g1 ao3) (aaf (eOp gEq (eOp gIx (aah 0) (eC (.int 0))) (eC (.int 0))) aar)) (gN 2)) (aaN (abA (eOp ab5 (eOp gIx (aah 0) (aah 2)) (aah 1)) (gN 3)) (aaN (an1 0 (aah 2) (eOp acK (eOp gIx (aah 0) (aah 2)) (aah 1))) (abR (aah 3)))))
noncomputable def aa6 : FR := fnR 4 0 akP
noncomputable def aqL : SF := (aaN (abA (aah 0) (gN 2)) (aaN (abA (aah 1) (gN 3)) (aaN (aev (acB (fuI 3) (abn (eOp gGt (aah 3) (eC (.int 0)))) (ao4 2 3 (aaf (aah 3) (aaf (eOp ab5 (aah 2) (aah 3)) aar))))) (abR (am1 (aaf (eOp acK (aah 0) (aah 2)) (aaf (eOp acK (aah 1) (aah 2)) aar)))))))
noncomputable def adT : FP := fnP 4 aqL
noncomputable def akQ : SF := (aaN (abA (aaY 0 aa6 (aaf (aah 0) (aaf (eC (.int 8)) aar))) (gN 2)) (aaN (sIf (abn (eOp gLt (aah 2) (eC (.int 2)))) (abR (am1 (aaf (aah 2) (aaf (eC (.int 1)) aar)))) aeu) (aaN (sIf (abn (eOp gLt (aah 2) (eC (.int 5)))) (abR (aaA adT (aaf (aaY 0 aa6 (aaf (aah 0) (aaf (eC (.int 5)) aar))) (aaf (eC (.int 4)) aar)))) aeu) (aaN (sIf (abn (eOp gEq (aah 2) (eC (.int 5)))) (aaN (abA (eOp aaV (eC (.int 1)) (aaY 0 aa6 (aaf (aah 0) (aaf (eOp ach (eOp acu (eC (.int 10)) (eC (.int 12))) (eC (.int 1))) aar)))) (gN 3)) (abR (aaA adT (aaf (aaY 0 aa6 (aaf (aah 0) (aaf (eOp aaV (aah 3) (eC (.int 1))) aar))) (aaf (aah 3) aar))))) aeu) (aaN (abA (eOp gIx (eOp aaV (aah 1) (eCL [.tup [.int 1, .int 2]])) (aaY 0 aa6 (aaf (aah 0) (aaf (eOp aaV (eCB (g1 aby) (aaf (aah 1) aar)) (eC (.int 1))) aar)))) (gT 2 (adO (gN 4) (adO (gN 3) ajc)))) (aaN (sIf (abn (eOp gEq (aah 2) (eC (.int 6)))) (abR (am1 (aaf (aah 4) (aaf (aah 3) aar)))) aeu) (abR (aaA adT (aaf (eCB (g2 ac0) (aaf (eOp aaV (aah 4) (eC (.int 1))) (aaf (aah 3) aar))) (aaf (aah 3) aar))))))))))
noncomputable def adG : FR := fnR 5 0 akQ
noncomputable def aoq : SF := (aaN (ajO 3 (acY aar)) (aaN (ajO 4 (acY aar)) (aaN (aev (agT (ahz (aaf (aah 1) aar)) (gN 5) (aaN (ajO 6 (acY aar)) (aaN (agT (ahz (aaf (aah 2) aar)) (gN 7) (aaN (ac1 (eMt 6 ahA (aaf (aaY 0 adG (aaf (aah 0) (aaf (aah 4) aar))) aar))) (ac1 (eMt 4 ahA (aaf (eOp gIx (aah 6) (eUn aoZ (eC (.int 1)))) aar))))) (arI 6 (ac1 (eMt 3 ahA (aaf (aah 6) aar)))))))) (abR (aah 3)))))
noncomputable def agb : FR := fnR 8 0 aoq
noncomputable def anb : SF := (abR (aaY 0 agb (aaf (aah 0) (aaf (eOp aaV (eC (.int 1)) (aaY 0 aa6 (aaf (aah 0) (aaf (eC (.int 4)) aar)))) (aaf (eOp aaV (eC (.int 1)) (aaY 0 aa6 (aaf (aah 0) (aaf (eC (.int 12)) aar)))) aar)))))
noncomputable def afF : FR := fnR 1 0 anb
noncomputable def ag4 : SF := (aaN (abA (aaY 0 aa6 (aaf (aah 0) (aaf (eC (.int 20)) aar))) (gN 2)) (aaN (abA (acY (aaf (eC .non) (aaf (acY aar) (aaf (eCB (g1 aaI) (aaf (aah 1) aar)) (aaf (eSl (eOp abP (aah 1) (eC (.int 5))) oNo (acv (eC (.int 5)))) (aaf (abo [none] (fSq (aah 1)) (gN 0) aeF (acY aar)) (aaf (abo [none] (fSq (aah 1)) (gN 0) aeF (eSl (eOp abP (aah 0) (eC (.int 13))) oNo (acv (eC (.int 13))))) aar))))))) (gN 3)) (aaN (abA (eOp aaV (aah 3) (acY (aaf (eOp aaV (eSl (aah 1) oNo (acv (eC (.int 3)))) (acY (aaf (eOp aaV (eOp gIx (aah 1) (eC (.int 0))) (eCL [.tup [.int 0, .int 1]])) aar))) (aaf (eOp aaV (acY (aaf (eCB (g1 aaI) (aaf (eOp gIx (aah 1) (eC (.int 0))) aar)) aar)) (eSl (aah 1) (acv (eC (.int 1))) oNo)) (aaf (eOp gIx (aah 1) (eC (.int 0))) (aaf (eC (.str "book")) aar)))))) (gN 3)) (aaN (sIf (abn (eOp gLt (aah 2) (eC (.int 10)))) (abR (eOp gIx (aah 3) (aah 2))) aeu) (aaN (abA (eOp gIx (eCL [.tup [.int 2, .int 4], .tup [.int 3, .int 2], .tup [.int (-1), .int 2], .tup [.int 1, .int 0], .tup [.int 0, .int 2], .lst [.int 1, .int 2], .tup [.bl true, .int 1], .tup [.int 1, .bl true], .tup [.int 1, .int 2, .int 3], .non]) (eOp ach (aah 2) (eC (.int 10)))) (gN 4)) (aaN (abA (aaY 0 aa6 (aaf (aah 0) (aaf (eCB (g1 aby) (aaf (aah 1) aar)) aar))) (gN 5)) (aaN (abA (aaY 0 aa6 (aaf (aah 0) (aaf (eCB (g1 aby) (aaf (eOp gIx (aah 1) (eC (.int 0))) aar)) aar))) (gN 6)) (aaN (abA (eOp aaV (eOp aaV (eSl (eOp gIx (aah 1) (aah 5)) oNo (acv (aah 6))) (acY (aaf (aah 4) aar))) (eSl (eOp gIx (aah 1) (aah 5)) (acv (eOp aaV (aah 6) (eC (.int 1)))) oNo)) (gN 7)) (abR (eOp aaV (eOp aaV (eSl (aah 1) oNo (acv (aah 5))) (acY (aaf (aah 7) aar))) (eSl (aah 1) (acv (eOp aaV (aah 5) (eC (.int 1)))) oNo)))))))))))
noncomputable def acD : FR := fnR 8 0 ag4
noncomputable def ave : SF := (aaN (abA (acY (aaf (ahl "NoBook" (aah 0)) (aaf (ahl "NoRule" (aah 0)) (aaf (ahl "NoCount" (aah 0)) aar)))) (gN 2)) (aaN (abA (eOp aaV (aah 2) (acY (aaf (ahl "TooMany" (aah 0)) (aaf (ahl "NoLine" (aah 0)) (aaf (ahl "NoBottom" (aah 0)) aar))))) (gN 2)) (aaN (abA (eOp aaV (aah 2) (acY (aaf (ahl "NoList" (aah 0)) (aaf (ahl "NoLooks" (aah 0)) (aaf (ahl "NoSlack" (aah 0)) aar))))) (gN 2)) (aaN (abA (eOp aaV (aah 2) (acY (aaf (ahl "NoText" (aah 0)) (aaf (ahl "NoThing" (aah 0)) (aaf (ahl "NoThings" (aah 0)) aar))))) (gN 2)) (aaN (abA (eOp aaV (aah 2) (acY (aaf (ahl "NoWorth" (aah 0)) (aaf (ahl "NotSure" (aah 0)) aar)))) (gN 2)) (abR (ao1 (eOp gEq (aah 2) (abo [none, some 1] (ahz (aaf (eC (.int 14)) aar)) (gN 0) aeF (eOp gEq (aah 0) (aah 1)))) (asR (aah 0)))))))))
noncomputable def aqM : FP := fnP 3 ave
noncomputable def amr : SF := (aaN (abA (eC .non) (gN 2)) (aaN (alu ["NoBook"] 3 (sIf (abn (eOp gEq (aah 0) (eC (.int 0)))) (ac1 (aaA abj (aaf (aah 1) aar))) (ac1 (aaA aaX (aaf (aah 1) aar)))) (abA (aah 3) (gN 2))) (abR (aah 2))))
noncomputable def adU : FP := fnP 4 amr
noncomputable def aqN : SF := (aaN (ajO 1 (aaA aek (aaf (aah 0) aar))) (aaN (aev (agT (ahz (aaf (eC (.int 6)) aar)) (gN 2) (aaN (abA (aaY 0 afF (aaf (aah 1) aar)) (gN 3)) (aaN (abA (eOp gGt (aaY 0 aa6 (aaf (aah 1) (aaf (eC (.int 4)) aar))) (eC (.int 0))) (gN 4)) (aaN (sIf (aes (aah 4)) (abA (aaY 0 acD (aaf (aah 1) (aaf (aah 3) aar))) (gN 3)) aeu) (agT (fSq (eCL [.int 0, .int 1, .int 1, .int 0])) (gN 5) (aaN (abA (aaA adU (aaf (aah 5) (aaf (aah 3) aar))) (gN 6)) (sIf (bOr (ao0 (aes (aah 4)) (agQ (aes (aaA aqM (aaf (aah 6) (aaf (eC (.int 0)) aar)))))) (ao0 (agQ (aes (aah 4))) (abn (eOp (gIs not) (aah 6) (eC .non))))) (abR (eC (.bl false))) aeu)))))))) (abR (eC (.bl true)))))
noncomputable def ajh : FP := fnP 7 aqN
end K51
end
section
namespace K51
open PySem L2 BH
section
variable {P : Program} {w : World} {K : PySem.W.Frag} {mg : Str -> Option Value} {base : Heap} {cl : Str -> Addr}
theorem aqO (a : At K mg "_law_book" akN) (M : Nm mg) (aor : DfX P w K mg base 3 "_law_lists" (["_law_purse_here", "_law_lists_here", "_law_many"] : List Str) (spR K 3 0 agb)) (acq : DfX P w K mg base 1 "_law_draw" (["_law_purse_here", "_law_many"] : List Str) (spR K 2 0 aa6)) : DfX P w K mg base 4 "_law_book" (["_law_purse_here"] : List Str) (spR K 1 0 afF) := by
 have S : aaL (["_law_purse_here"] : List Str) (["_law_purse_here"] : List Str) (aal akN) := ⟨rfl, rfl, rfl, by decide +kernel, rfl, by decide +kernel, by decide +kernel⟩
 exact a.dfR 0 S (cl := λ_ => 0) (by decide) (λ_ _ _ _ _ _ us hl => match us, hl with | [_], _ => by kernel_rfl) (λf cdv A outer s H E hr => ⟨_, (aat (aaS (pcF (E := E) (aor.mono (by decide)) hr aay (paK (pvL 0) (paK (aaP aaR aan (pcF (E := E) (acq.mono (by decide)) hr aay (paK (pvL 0) (paK aan aaj)))) (paK (aaP aaR aan (pcF (E := E) (acq.mono (by decide)) hr aay (paK (pvL 0) (paK aan aaj)))) aaj)))))), λt hK hx => (aaU (abE hK (aam (aam (aam aaM))) (aae (aad 0) (aae (abT hK (aao _) (abE hK (aam (aam aaM)) (aae (aad 0) (aae (aao _) aak)))) (aae (abT hK (aao _) (abE hK (aam (aam aaM)) (aae (aad 0) (aae (aao _) aak)))) aak)))))⟩)
theorem ams (a : At K mg "_law_caught" aga) (M : Nm mg) (XT : ahG K) (XC : XCl K cl (["NoBook"] : List Str)) {adH : Addr} (acT : Cg K mg "HeadError" adH) (aji : DfX P w K mg base 7 "unbeaten" (["book"] : List Str) (spP K cl 1 abj)) (agc : DfX P w K mg base 7 "book_layers" (["book"] : List Str) (spP K cl 1 aaX)) : DfX P w K mg base 8 "_law_caught" (["_law_way", "_law_book_here"] : List Str) (spP K cl 2 adU) := by
 have S : aaL (["_law_way", "_law_book_here", "_law_caught_here", "e"] : List Str) (["_law_way", "_law_book_here"] : List Str) (aal aga) := ⟨rfl, rfl, rfl, by decide +kernel, rfl, by decide +kernel, by decide +kernel⟩
 exact a.dfP S (cl := cl) (by decide) (λ_ _ _ _ _ _ us hl => match us, hl with | [_, _], _ => by kernel_rfl) (λf cdv A outer s H E hr => ⟨_, (aai (psL 2 S.nd aij) (aai (apK (j := 3) rfl S.nd rfl rfl (ahv (ar3 (abV (aer hr.units) (pvL 0) aan (abI _)) (ahv (akJ (agN (aji.mono (by decide)) hr (paK (pvL 1) aaj)))) (ahv (akJ (agN (agc.mono (by decide)) hr (paK (pvL 1) aaj)))))) acT.2 (λe => (aat (psL 2 S.nd (pvL 3))))) (aat (aaS (pvL 2))))), λt hK hx => (aau (aaT akr (aap 2) abU) (aau (aqI hK XT XC acT.1 (asT (aom (asS aqj (akG 0) (avd _))) (abv (x_eq hK (aad 0) (aao _))) (akI (aiQ hK (akH (akG 1) ana) (aam aaM) (aae (aad 1) aak))) (akI (aiQ hK (akH (akG 1) ana) (aam aaM) (aae (aad 1) aak)))) (λt1 h1 k1 => (aaT (aad 3) (aap 2) abU))) (aaU (aad 2))))⟩)
theorem aqP (a : At K mg "_law_draw" akL) (M : Nm mg) : DfX P w K mg base 1 "_law_draw" (["_law_purse_here", "_law_many"] : List Str) (spR K 2 0 aa6) := by
 have S : aaL (["_law_purse_here", "_law_many", "_law_at", "_law_found"] : List Str) (["_law_purse_here", "_law_many"] : List Str) (aal akL) := ⟨rfl, rfl, rfl, by decide +kernel, rfl, by decide +kernel, by decide +kernel⟩
 exact a.dfR 0 S (cl := λ_ => 0) (by decide) (λ_ _ _ _ _ _ us hl => match us, hl with | [_, _], _ => by kernel_rfl) (λf cdv A outer s H E hr => ⟨_, (aai (psL 2 S.nd (asK aj5 M.aqK (paK (ac4 (aer hr.units) (abJ aa3 (pvL 0) aan (λ_ _ => rfl)) aan (abI _)) aaj))) (aai (psL 3 S.nd (aaP adz (abJ aa3 (pvL 0) (pvL 2) (λ_ _ => rfl)) (pvL 1))) (aai (ajZ (aaP afU (abJ aa3 (pvL 0) (pvL 2) (λ_ _ => rfl)) (pvL 1)) (apk (pvL 0) (pvL 2) set_list)) (aat (aaS (pvL 3)))))), λt hK hx => (aau (aaT (asC hK (aae (x_eq hK (adQ hK (aad 0) (aao _)) (aao _)) aak)) (aap 2) abU) (aau (aaT (ahD hK (adQ hK (aad 0) (aad 2)) (aad 1)) (aap 3) abU) (aau (an2 0 (aoa hK (adQ hK (aad 0) (aad 2)) (aad 1)) (aad 2)) (aaU (aad 3)))))⟩)
theorem aqQ (a : At K mg "_law_frac" akM) (M : Nm mg) : DfX P w K mg base 1 "_law_frac" (["_law_top", "_law_bottom"] : List Str) (spP K cl 2 adT) := by
 have S : aaL (["_law_top", "_law_bottom", "_law_one", "_law_other"] : List Str) (["_law_top", "_law_bottom"] : List Str) (aal akM) := ⟨rfl, rfl, rfl, by decide +kernel, rfl, by decide +kernel, by decide +kernel⟩
 exact a.dfP S (cl := cl) (by decide) (λ_ _ _ _ _ _ us hl => match us, hl with | [_, _], _ => by kernel_rfl) (λf cdv A outer s H E hr => ⟨_, (aai (psL 2 S.nd (pvL 0)) (aai (psL 3 S.nd (pvL 1)) (aai (PS.nox (afN PassesOwn.never (abV apq (pvL 3) aan (abI _)) (aat (amR (i := 2) (j := 3) rfl S.nd rfl rfl (by decide) rfl rfl (paK (pvL 3) (paK (aaP adz (pvL 2) (pvL 3)) aaj)) rfl)))) (aat (aaS (ait (paK (aaP afU (pvL 0) (pvL 2)) (paK (aaP afU (pvL 1) (pvL 2)) aaj)))))))), λt hK hx => (aau (aaT (aad 0) (aap 2) abU) (aau (aaT (aad 1) (aap 3) abU) (aau (afC (λt1 h1 k1 => (afX (fuI 3) (abv (auu (h1.trans hK) (aad 3) (aao _))) (am5 2 3 (aae (aad 3) (aae (ahD (h1.trans hK) (aad 2) (aad 3)) aak)))))) (aaU (aks (aae (aoa hK (aad 0) (aad 2)) (aae (aoa hK (aad 1) (aad 2)) aak)))))))⟩)
theorem avf (a : At K mg "_law_is" arL) (M : Nm mg) (XT : ahG K) {adq : Addr} (adV : Cg K mg "NoBook" adq) {ael : Addr} (adt : Cg K mg "NoBottom" ael) {afe : Addr} (adW : Cg K mg "NoCount" afe) {agd : Addr} (aeQ : Cg K mg "NoLine" agd) {agf : Addr} (aeR : Cg K mg "NoList" agf) {afg : Addr} (adX : Cg K mg "NoLooks" afg) {agg : Addr} (aeS : Cg K mg "NoRule" agg) {afh : Addr} (adY : Cg K mg "NoSlack" afh) {agh : Addr} (aeT : Cg K mg "NoText" agh) {afi : Addr} (adZ : Cg K mg "NoThing" afi) {aem : Addr} (adu : Cg K mg "NoThings" aem) {afj : Addr} (ad0 : Cg K mg "NoWorth" afj) {afk : Addr} (ad1 : Cg K mg "NotSure" afk) {afl : Addr} (ad2 : Cg K mg "TooMany" afl) : DfX P w K mg base 1 "_law_is" (["_law_error", "_law_place"] : List Str) (spP K cl 2 aqM) := by
 have S : aaL (["_law_error", "_law_place", "_law_told"] : List Str) (["_law_error", "_law_place"] : List Str) (aal arL) := ⟨rfl, rfl, rfl, by decide +kernel, rfl, by decide +kernel, by decide +kernel⟩
 exact a.dfP S (cl := cl) (by decide) (λ_ _ _ _ _ _ us hl => match us, hl with | [_, _], _ => by kernel_rfl) (λf cdv A outer s H E hr => ⟨_, (aai (psL 2 S.nd (abw (paK (pcX XT (by decide +kernel) adV.1 adV.2 (pvL 0) M.aas) (paK (pcX XT (by decide +kernel) aeS.1 aeS.2 (pvL 0) M.aas) (paK (pcX XT (by decide +kernel) adW.1 adW.2 (pvL 0) M.aas) aaj))))) (aai (psL 2 S.nd (aaP aaR (pvL 2) (abw (paK (pcX XT (by decide +kernel) ad2.1 ad2.2 (pvL 0) M.aas) (paK (pcX XT (by decide +kernel) aeQ.1 aeQ.2 (pvL 0) M.aas) (paK (pcX XT (by decide +kernel) adt.1 adt.2 (pvL 0) M.aas) aaj)))))) (aai (psL 2 S.nd (aaP aaR (pvL 2) (abw (paK (pcX XT (by decide +kernel) aeR.1 aeR.2 (pvL 0) M.aas) (paK (pcX XT (by decide +kernel) adX.1 adX.2 (pvL 0) M.aas) (paK (pcX XT (by decide +kernel) adY.1 adY.2 (pvL 0) M.aas) aaj)))))) (aai (psL 2 S.nd (aaP aaR (pvL 2) (abw (paK (pcX XT (by decide +kernel) aeT.1 aeT.2 (pvL 0) M.aas) (paK (pcX XT (by decide +kernel) adZ.1 adZ.2 (pvL 0) M.aas) (paK (pcX XT (by decide +kernel) adu.1 adu.2 (pvL 0) M.aas) aaj)))))) (aai (psL 2 S.nd (aaP aaR (pvL 2) (abw (paK (pcX XT (by decide +kernel) ad0.1 ad0.2 (pvL 0) M.aas) (paK (pcX XT (by decide +kernel) ad1.1 ad1.2 (pvL 0) M.aas) aaj))))) (aat (aaS (ail (ac4 (aer hr.units) (pvL 2) (acI (sc := aal arL) (No := (["_law_error", "_law_place", "_law_told"] : List Str)) (N := (["_law_k", "_law_place"] : List Str)) (src := [none, some 1]) (g := (acz 0)) rfl rfl ⟨by rfl, by decide +kernel, by decide +kernel, by decide +kernel, by rfl, by decide +kernel⟩ rfl (piR M.adF (paK aan aaj)) (λC s H ex => (pgL 0 (show List.Nodup (["_law_k", "_law_place"] : List Str) by decide +kernel))) (λC s H ex => (ac4 (aer hr.units) (pvL 0) (pvC 1) (abI _)))) (abI _)) (aik (pcV XT (pvL 0) M.aas M.ag3)))))))))), λt hK hx => (aau (aaT (abG (aae (aco hK (aad 0)) (aae (aco hK (aad 0)) (aae (aco hK (aad 0)) aak)))) (aap 2) abU) (aau (aaT (abT hK (aad 2) (abG (aae (aco hK (aad 0)) (aae (aco hK (aad 0)) (aae (aco hK (aad 0)) aak))))) (aap 2) abU) (aau (aaT (abT hK (aad 2) (abG (aae (aco hK (aad 0)) (aae (aco hK (aad 0)) (aae (aco hK (aad 0)) aak))))) (aap 2) abU) (aau (aaT (abT hK (aad 2) (abG (aae (aco hK (aad 0)) (aae (aco hK (aad 0)) (aae (aco hK (aad 0)) aak))))) (aap 2) abU) (aau (aaT (abT hK (aad 2) (abG (aae (aco hK (aad 0)) (aae (aco hK (aad 0)) aak)))) (aap 2) abU) (aaU (aiG (x_eq hK (aad 2) (acQ (agV (aae (aao _) aak)) (ade (by decide)) (adf (js := [0]) (by decide)) abU (λt1 h1 k1 => (aap 0)) (λt1 h1 k1 => (x_eq (h1.trans hK) (aad 0) (aad 1))))) (aqH hK (aad 0)))))))))⟩)
theorem aos (a : At K mg "_law_lists" ahJ) (M : Nm mg) (aot : DfX P w K mg base 2 "_law_worth" (["_law_purse_here", "_law_before"] : List Str) (spR K 2 0 adG)) : DfX P w K mg base 3 "_law_lists" (["_law_purse_here", "_law_lists_here", "_law_many"] : List Str) (spR K 3 0 agb) := by
 have S : aaL (["_law_purse_here", "_law_lists_here", "_law_many", "_law_found", "_law_before", "_law_place", "_law_worths", "_law_thing"] : List Str) (["_law_purse_here", "_law_lists_here", "_law_many"] : List Str) (aal ahJ) := ⟨rfl, rfl, rfl, by decide +kernel, rfl, by decide +kernel, by decide +kernel⟩
 exact a.dfR 0 S (cl := λ_ => 0) (by decide) (λ_ _ _ _ _ _ us hl => match us, hl with | [_, _, _], _ => by kernel_rfl) (λf cdv A outer s H E hr => ⟨_, (aai (psL 3 S.nd (abw aaj)) (aai (psL 4 S.nd (abw aaj)) (aai (PS.nox (agB PassesOwn.never rfl (piR M.adF (paK (pvL 1) aaj)) (pgL 5 S.nd) (aai (psL 6 S.nd (abw aaj)) (aai (agB PassesOwn.never rfl (piR M.adF (paK (pvL 2) aaj)) (pgL 7 S.nd) (aai (psE (alE PySem.F.plainAttrs_list PySem.F.slot_list_append PySem.F.type_list_append acA (pvL 6) (abQ (pcF (E := E0) (aot.mono (by decide)) hr aeE (paK (pvL 0) (paK (pvL 4) aaj))) aaj))) (aat (psE (alE PySem.F.plainAttrs_list PySem.F.slot_list_append PySem.F.type_list_append acA (pvL 4) (abQ (abJ aa3 (pvL 6) (apn amU aan) (λ_ _ => rfl)) aaj)))))) (aat (psE (alE PySem.F.plainAttrs_list PySem.F.slot_list_append PySem.F.type_list_append acA (pvL 3) (abQ (pvL 6) aaj)))))))) (aat (aaS (pvL 3)))))), λt hK hx => (aau (agS 3 (abG aak)) (aau (agS 4 (abG aak)) (aau (afC (λt1 h1 k1 => (agU (agV (aae (aad 1) aak)) (aap 5) abU (aau (agS 6 (abG aak)) (aau (agU (agV (aae (aad 2) aak)) (aap 7) abU (aau (aed (amc 6 (abE (h1.trans hK) (aam (aam aaM)) (aae (aad 0) (aae (aad 4) aak))))) (aed (amc 4 (adQ (h1.trans hK) (aad 6) (asA (aao _))))))) (aqd 6 (aed (amc 3 (aad 6))))))))) (aaU (aad 3)))))⟩)
theorem akR (a : At K mg "_law_no_book" adk) (M : Nm mg) (acq : DfX P w K mg base 1 "_law_draw" (["_law_purse_here", "_law_many"] : List Str) (spR K 2 0 aa6)) : DfX P w K mg base 2 "_law_no_book" (["_law_purse_here", "_law_book_here"] : List Str) (spR K 2 0 acD) := by
 have S : aaL (["_law_purse_here", "_law_book_here", "_law_way", "_law_some", "_law_odd", "_law_place", "_law_thing", "_law_worths"] : List Str) (["_law_purse_here", "_law_book_here"] : List Str) (aal adk) := ⟨rfl, rfl, rfl, by decide +kernel, rfl, by decide +kernel, by decide +kernel⟩
 exact a.dfR 0 S (cl := λ_ => 0) (by decide) (λ_ _ _ _ _ _ us hl => match us, hl with | [_, _], _ => by kernel_rfl) (λf cdv A outer s H E hr => ⟨_, (aai (psL 2 S.nd (pcF (E := E) (acq.mono (by decide)) hr aay (paK (pvL 0) (paK aan aaj)))) (aai (psL 3 S.nd (abw (paK aij (paK (abw aaj) (paK (asK adL M.ahK (paK (pvL 1) aaj)) (paK (ab0 alU (aaP acJ (pvL 1) aan) acG (acH aan)) (paK (acI (sc := aal adk) (No := (["_law_purse_here", "_law_book_here", "_law_way", "_law_some", "_law_odd", "_law_place", "_law_thing", "_law_worths"] : List Str)) (N := (["_law_worths"] : List Str)) (src := [none]) (g := (acz 0)) rfl rfl ⟨by rfl, by decide +kernel, by decide +kernel, by decide +kernel, by rfl, by decide +kernel⟩ rfl (ac9 (pvL 1)) (λC s H ex => (pgL 0 (show List.Nodup (["_law_worths"] : List Str) by decide +kernel))) (λC s H ex => (abw aaj))) (paK (acI (sc := aal adk) (No := (["_law_purse_here", "_law_book_here", "_law_way", "_law_some", "_law_odd", "_law_place", "_law_thing", "_law_worths"] : List Str)) (N := (["_law_worths"] : List Str)) (src := [none]) (g := (acz 0)) rfl rfl ⟨by rfl, by decide +kernel, by decide +kernel, by decide +kernel, by rfl, by decide +kernel⟩ rfl (ac9 (pvL 1)) (λC s H ex => (pgL 0 (show List.Nodup (["_law_worths"] : List Str) by decide +kernel))) (λC s H ex => (ab0 alU (aaP acJ (pvL 0) aan) acG (acH aan)))) aaj)))))))) (aai (psL 3 S.nd (aaP aaR (pvL 3) (abw (paK (aaP aaR (ab0 alU (pvL 1) acG (acH aan)) (abw (paK (aaP aaR (abJ aa3 (pvL 1) aan (λ_ _ => rfl)) (ami (G := nlK K) (Ts := [.tup [.int 0, .int 1]]) (by kernel_rfl))) aaj))) (paK (aaP aaR (abw (paK (asK adL M.ahK (paK (abJ aa3 (pvL 1) aan (λ_ _ => rfl)) aaj)) aaj)) (ab0 alU (pvL 1) (acH aan) acG)) (paK (abJ aa3 (pvL 1) aan (λ_ _ => rfl)) (paK ajS aaj))))))) (aai (ady (abV (aiF hr.units) (pvL 2) aan (abI _)) (aat (aaS (abJ aa3 (pvL 3) (pvL 2) (λ_ _ => rfl)))) abC) (aai (psL 4 S.nd (abJ aa3 (ami (G := nlK K) (Ts := [.tup [.int 2, .int 4], .tup [.int 3, .int 2], .tup [.int (-1), .int 2], .tup [.int 1, .int 0], .tup [.int 0, .int 2], .lst [.int 1, .int 2], .tup [.bl true, .int 1], .tup [.int 1, .bl true], .tup [.int 1, .int 2, .int 3], .non]) (by kernel_rfl)) (aaP aip (pvL 2) aan) (λ_ _ => rfl))) (aai (psL 5 S.nd (pcF (E := E) (acq.mono (by decide)) hr aay (paK (pvL 0) (paK (pcB abg M.aeH (paK (pvL 1) aaj)) aaj)))) (aai (psL 6 S.nd (pcF (E := E) (acq.mono (by decide)) hr aay (paK (pvL 0) (paK (pcB abg M.aeH (paK (abJ aa3 (pvL 1) aan (λ_ _ => rfl)) aaj)) aaj)))) (aai (psL 7 S.nd (aaP aaR (aaP aaR (ab0 alU (abJ aa3 (pvL 1) (pvL 5) (λ_ _ => rfl)) acG (acH (pvL 6))) (abw (paK (pvL 4) aaj))) (ab0 alU (abJ aa3 (pvL 1) (pvL 5) (λ_ _ => rfl)) (acH (aaP aaR (pvL 6) aan)) acG))) (aat (aaS (aaP aaR (aaP aaR (ab0 alU (pvL 1) acG (acH (pvL 5))) (abw (paK (pvL 7) aaj))) (ab0 alU (pvL 1) (acH (aaP aaR (pvL 5) aan)) acG)))))))))))), λt hK hx => (aau (aaT (abE hK (aam (aam aaM)) (aae (aad 0) (aae (aao _) aak))) (aap 2) abU) (aau (aaT (abG (aae akr (aae (abG aak) (aae (akB hK (aae (aad 1) aak)) (aae (afW hK (af5 hK (aad 1) (aao _)) afV (acL (aao _))) (aae (acQ (ada hK (aad 1)) (ade (by decide)) (adf (js := [0]) (by decide)) abU (λt1 h1 k1 => (aap 0)) (λt1 h1 k1 => (abG aak))) (aae (acQ (ada hK (aad 1)) (ade (by decide)) (adf (js := [0]) (by decide)) abU (λt2 h2 k2 => (aap 0)) (λt2 h2 k2 => (afW (h2.trans hK) (af5 (h2.trans hK) (aad 0) (aao _)) afV (acL (aao _))))) aak))))))) (aap 3) abU) (aau (aaT (abT hK (aad 3) (abG (aae (abT hK (afW hK (aad 1) afV (acL (aao _))) (abG (aae (abT hK (adQ hK (aad 1) (aao _)) (amj hK)) aak))) (aae (abT hK (abG (aae (akB hK (aae (adQ hK (aad 1) (aao _)) aak)) aak)) (afW hK (aad 1) (acL (aao _)) afV)) (aae (adQ hK (aad 1) (aao _)) (aae (amY _) aak)))))) (aap 3) abU) (aau (adB (abv (x_lt hK (aad 2) (aao _))) (aaU (adQ hK (aad 3) (aad 2))) ab9) (aau (aaT (adQ hK (amj hK) (an9 hK (aad 2) (aao _))) (aap 4) abU) (aau (aaT (abE hK (aam (aam aaM)) (aae (aad 0) (aae (x_len hK (aae (aad 1) aak)) aak))) (aap 5) abU) (aau (aaT (abE hK (aam (aam aaM)) (aae (aad 0) (aae (x_len hK (aae (adQ hK (aad 1) (aao _)) aak)) aak))) (aap 6) abU) (aau (aaT (abT hK (abT hK (afW hK (adQ hK (aad 1) (aad 5)) afV (acL (aad 6))) (abG (aae (aad 4) aak))) (afW hK (adQ hK (aad 1) (aad 5)) (acL (abT hK (aad 6) (aao _))) afV)) (aap 7) abU) (aaU (abT hK (abT hK (afW hK (aad 1) afV (acL (aad 5))) (abG (aae (aad 7) aak))) (afW hK (aad 1) (acL (abT hK (aad 5) (aao _))) afV)))))))))))⟩)
theorem aou (a : At K mg "_law_purse" ahH) (M : Nm mg) : DfX P w K mg base 1 "_law_purse" (["_law_script"] : List Str) (spP K cl 1 aek) := by
 have S : aaL (["_law_script", "_law_cells", "_law_mixed", "_law_k", "_law_number"] : List Str) (["_law_script"] : List Str) (aal ahH) := ⟨rfl, rfl, rfl, by decide +kernel, rfl, by decide +kernel, by decide +kernel⟩
 exact a.dfP S (cl := cl) (by decide) (λ_ _ _ _ _ _ us hl => match us, hl with | [_], _ => by kernel_rfl) (λf cdv A outer s H E hr => ⟨_, (aai (psL 1 S.nd (aaP aaR (ab0 alU (pvL 0) acG (acH aan)) (abw (paK (pcB abg M.aeH (paK (pvL 0) aaj)) aaj)))) (aai (psL 2 S.nd aan) (aai (PS.nox (agB PassesOwn.never rfl (piR M.adF (paK aan aaj)) (pgL 3 S.nd) (aai (psL 4 S.nd (aaP adz (aaP aaR (aaP aaR (abJ aa3 (pvL 1) (aaP adz (pvL 3) (pcB abg M.aeH (paK (pvL 1) aaj))) (λ_ _ => rfl)) (aaP acJ aan (pvL 3))) aan) aan)) (aai (psL 4 S.nd (aaP adz (aaP aaR (aaP acJ (pvL 4) (pvL 4)) (aaP acJ aan (pvL 3))) aan)) (aat (psL 2 S.nd (aaP aaR (aaP acJ (pvL 2) aan) (aaP adz (aaP acJ (pvL 4) (pvL 4)) aan)))))))) (aai (ady (abV apr (abJ aa3 (pvL 1) aan (λ_ _ => rfl)) (aaP aiq aan aan) (abI _)) (aat (aaS (abw (paK (aaP aip (abJ aa3 (pvL 1) aan (λ_ _ => rfl)) (aaP aiq aan aan)) (paK (pvL 2) aaj))))) abC) (aat (aaS (abw (paK aan (paK (pvL 2) aaj))))))))), λt hK hx => (aau (aaT (abT hK (afW hK (aad 0) afV (acL (aao _))) (abG (aae (x_len hK (aae (aad 0) aak)) aak))) (aap 1) abU) (aau (aaT (aao _) (aap 2) abU) (aau (afC (λt1 h1 k1 => (agU (agV (aae (aao _) aak)) (aap 3) abU (aau (aaT (ahD (h1.trans hK) (abT (h1.trans hK) (abT (h1.trans hK) (adQ (h1.trans hK) (aad 1) (ahD (h1.trans hK) (aad 3) (x_len (h1.trans hK) (aae (aad 1) aak)))) (af5 (h1.trans hK) (aao _) (aad 3))) (aao _)) (aao _)) (aap 4) abU) (aau (aaT (ahD (h1.trans hK) (abT (h1.trans hK) (af5 (h1.trans hK) (aad 4) (aad 4)) (af5 (h1.trans hK) (aao _) (aad 3))) (aao _)) (aap 4) abU) (aaT (abT (h1.trans hK) (af5 (h1.trans hK) (aad 2) (aao _)) (ahD (h1.trans hK) (af5 (h1.trans hK) (aad 4) (aad 4)) (aao _))) (aap 2) abU)))))) (aau (adB (abv (x_ge hK (adQ hK (aad 1) (aao _)) (aob hK (aao _) (aao _)))) (aaU (abG (aae (an9 hK (adQ hK (aad 1) (aao _)) (aob hK (aao _) (aao _))) (aae (aad 2) aak)))) ab9) (aaU (abG (aae (aao _) (aae (aad 2) aak))))))))⟩)
theorem aov (a : At K mg "_law_worth" ahI) (M : Nm mg) (acq : DfX P w K mg base 1 "_law_draw" (["_law_purse_here", "_law_many"] : List Str) (spR K 2 0 aa6)) (akS : DfX P w K mg base 1 "_law_frac" (["_law_top", "_law_bottom"] : List Str) (spP K cl 2 adT)) : DfX P w K mg base 2 "_law_worth" (["_law_purse_here", "_law_before"] : List Str) (spR K 2 0 adG) := by
 have S : aaL (["_law_purse_here", "_law_before", "_law_way", "_law_bottom", "_law_top"] : List Str) (["_law_purse_here", "_law_before"] : List Str) (aal ahI) := ⟨rfl, rfl, rfl, by decide +kernel, rfl, by decide +kernel, by decide +kernel⟩
 exact a.dfR 0 S (cl := cl) (by decide) (λ_ _ _ _ _ _ us hl => match us, hl with | [_, _], _ => by kernel_rfl) (λf cdv A outer s H E hr => ⟨_, (aai (psL 2 S.nd (pcF (E := E) (acq.mono (by decide)) hr aay (paK (pvL 0) (paK aan aaj)))) (aai (ady (abV (aiF hr.units) (pvL 2) aan (abI _)) (aat (aaS (ait (paK (pvL 2) (paK aan aaj))))) abC) (aai (ady (abV (aiF hr.units) (pvL 2) aan (abI _)) (aat (aaS (pcF (E := E) (akS.mono (by decide)) hr aay (paK (pcF (E := E) (acq.mono (by decide)) hr aay (paK (pvL 0) (paK aan aaj))) (paK aan aaj))))) abC) (aai (ady (abV (aer hr.units) (pvL 2) aan (abI _)) (aai (psL 3 S.nd (aaP aaR aan (pcF (E := E) (acq.mono (by decide)) hr aay (paK (pvL 0) (paK (aaP aip (aaP aiq aan aan) aan) aaj))))) (aat (aaS (pcF (E := E) (akS.mono (by decide)) hr aay (paK (pcF (E := E) (acq.mono (by decide)) hr aay (paK (pvL 0) (paK (aaP aaR (pvL 3) aan) aaj))) (paK (pvL 3) aaj)))))) abC) (aai (ajZ (abJ aa3 (aaP aaR (pvL 1) (ami (G := nlK K) (Ts := [.tup [.int 1, .int 2]]) (by kernel_rfl))) (pcF (E := E) (acq.mono (by decide)) hr aay (paK (pvL 0) (paK (aaP aaR (pcB abg M.aeH (paK (pvL 1) aaj)) aan) aaj))) (λ_ _ => rfl)) (amO rfl (aeL (pgL 4 S.nd) (aeL (pgL 3 S.nd) ajY)))) (aai (ady (abV (aer hr.units) (pvL 2) aan (abI _)) (aat (aaS (ait (paK (pvL 4) (paK (pvL 3) aaj))))) abC) (aat (aaS (pcF (E := E) (akS.mono (by decide)) hr aay (paK (pcB (aj4 rfl) M.asV (paK (aaP aaR (pvL 4) aan) (paK (pvL 3) aaj))) (paK (pvL 3) aaj))))))))))), λt hK hx => (aau (aaT (abE hK (aam (aam aaM)) (aae (aad 0) (aae (aao _) aak))) (aap 2) abU) (aau (adB (abv (x_lt hK (aad 2) (aao _))) (aaU (aks (aae (aad 2) (aae (aao _) aak)))) ab9) (aau (adB (abv (x_lt hK (aad 2) (aao _))) (aaU (abX hK hx (aam (aam aaM)) (aae (abE hK (aam (aam aaM)) (aae (aad 0) (aae (aao _) aak))) (aae (aao _) aak)))) ab9) (aau (adB (abv (x_eq hK (aad 2) (aao _))) (aau (aaT (abT hK (aao _) (abE hK (aam (aam aaM)) (aae (aad 0) (aae (an9 hK (aob hK (aao _) (aao _)) (aao _)) aak)))) (aap 3) abU) (aaU (abX hK hx (aam (aam aaM)) (aae (abE hK (aam (aam aaM)) (aae (aad 0) (aae (abT hK (aad 3) (aao _)) aak))) (aae (aad 3) aak))))) ab9) (aau (aaT (adQ hK (abT hK (aad 1) (amj hK)) (abE hK (aam (aam aaM)) (aae (aad 0) (aae (abT hK (x_len hK (aae (aad 1) aak)) (aao _)) aak)))) (am4 hK (aeO (aap 4) (aeO (aap 3) akx))) (aus (amb abU (amb abU am8)))) (aau (adB (abv (x_eq hK (aad 2) (aao _))) (aaU (aks (aae (aad 4) (aae (aad 3) aak)))) ab9) (aaU (abX hK hx (aam (aam aaM)) (aae (asD hK (aae (abT hK (aad 4) (aao _)) (aae (aad 3) aak))) (aae (aad 3) aak))))))))))⟩)
theorem agi (a : At K mg "are_worths" acp) (M : Nm mg) (XT : ahG K) (ajj : DfX P w K mg base 3 "is_worth" (["thing"] : List Str) (spP K cl 1 abu)) : DfX P w K mg base 4 "are_worths" (["thing", "most"] : List Str) (spP K cl 2 abp) := by
 have S : aaL (["thing", "most"] : List Str) (["thing", "most"] : List Str) (aal acp) := ⟨rfl, rfl, rfl, by decide +kernel, rfl, by decide +kernel, by decide +kernel⟩
 exact a.dfP S (cl := cl) (by decide) (λ_ _ _ _ _ _ us hl => match us, hl with | [_, _], _ => by kernel_rfl) (λf cdv A outer s H E hr => ⟨_, (aai (ady (PW.pt (ajW (acW (abm (pcI XT.o .list (pvL 0) M.aas M.aiR) (by intro _; rfl))) (agz (acW (ais ai2 ai2 aan (pcB abg M.aeH (paK (pvL 0) aaj)) (pvL 1)))))) (aat (aaS afM)) abC) (aat (aaS (pcB (afS rfl) M.aoo (paK (acI (sc := aal acp) (No := (["thing", "most"] : List Str)) (N := (["part"] : List Str)) (src := [none]) (g := (acz 0)) rfl rfl ⟨by rfl, by decide +kernel, by decide +kernel, by decide +kernel, by rfl, by decide +kernel⟩ rfl (ac9 (pvL 0)) (λC s H ex => (pgL 0 (show List.Nodup (["part"] : List Str) by decide +kernel))) (λC s H ex => (pcF (E := E0) (ajj.mono (by decide)) hr aeE (paK (pvL 0) aaj)))) aaj))))), λt hK hx => (aau (adB (akt (acZ (aci hK (agR hK .list (aad 0)))) (acZ (abv (ahE hK ajb ajb ajf ajf (aao _) (x_len hK (aae (aad 0) aak)) (aad 1))))) (aaU (agO _)) ab9) (aaU (aoe hK (aae (acQ (ada hK (aad 0)) (ade (by decide)) (adf (js := [0]) (by decide)) abU (λt1 h1 k1 => (aap 0)) (λt1 h1 k1 => (acn (h1.trans hK) k1 (aam aaM) (aae (aad 0) aak)))) aak))))⟩)
theorem amt (a : At K mg "beats" afd) (M : Nm mg) (aey : DfX P w K mg base 1 "frac_below" (["one", "other"] : List Str) (spP K cl 2 abb)) : DfX P w K mg base 2 "beats" (["book", "one", "other"] : List Str) (spP K cl 3 aef) := by
 have S : aaL (["book", "one", "other"] : List Str) (["book", "one", "other"] : List Str) (aal afd) := ⟨rfl, rfl, rfl, by decide +kernel, rfl, by decide +kernel, by decide +kernel⟩
 exact a.dfP S (cl := cl) (by decide) (λ_ _ _ _ _ _ us hl => match us, hl with | [_, _, _], _ => by kernel_rfl) (λf cdv A outer s H E hr => ⟨_, (aai (ady (abm (pcB (af7 rfl) M.aop (paK (acI (sc := aal afd) (No := (["book", "one", "other"] : List Str)) (N := (["row", "one", "other"] : List Str)) (src := [none, some 1, some 2]) (g := (acz 0)) rfl rfl ⟨by rfl, by decide +kernel, by decide +kernel, by decide +kernel, by rfl, by decide +kernel⟩ rfl (ac9 (pvL 0)) (λC s H ex => (pgL 0 (show List.Nodup (["row", "one", "other"] : List Str) by decide +kernel))) (λC s H ex => (pcF (E := E0) (aey.mono (by decide)) hr aeE (paK (abJ aa3 (pvL 0) (pvC 1) (λ_ _ => rfl)) (paK (abJ aa3 (pvL 0) (pvC 2) (λ_ _ => rfl)) aaj))))) aaj)) (by intro _; rfl)) (aat (aaS afM)) abC) (aat (aaS (pcB (af7 rfl) M.aop (paK (acI (sc := aal afd) (No := (["book", "one", "other"] : List Str)) (N := (["row", "other", "one"] : List Str)) (src := [none, some 2, some 1]) (g := (acz 0)) rfl rfl ⟨by rfl, by decide +kernel, by decide +kernel, by decide +kernel, by rfl, by decide +kernel⟩ rfl (ac9 (pvL 0)) (λC s H ex => (pgL 0 (show List.Nodup (["row", "other", "one"] : List Str) by decide +kernel))) (λC s H ex => (pcF (E := E0) (aey.mono (by decide)) hr aeE (paK (abJ aa3 (pvL 0) (pvC 1) (λ_ _ => rfl)) (paK (abJ aa3 (pvL 0) (pvC 2) (λ_ _ => rfl)) aaj))))) aaj))))), λt hK hx => (aau (adB (aci hK (aoh hK (aae (acQ (ada hK (aad 0)) (ade (by decide)) (adf (js := [0]) (by decide)) abU (λt1 h1 k1 => (aap 0)) (λt1 h1 k1 => (acn (h1.trans hK) k1 (aam (aam aaM)) (aae (adQ (h1.trans hK) (aad 0) (aad 1)) (aae (adQ (h1.trans hK) (aad 0) (aad 2)) aak))))) aak))) (aaU (agO _)) ab9) (aaU (aoh hK (aae (acQ (ada hK (aad 0)) (ade (by decide)) (adf (js := [0]) (by decide)) abU (λt2 h2 k2 => (aap 0)) (λt2 h2 k2 => (acn (h2.trans hK) k2 (aam (aam aaM)) (aae (adQ (h2.trans hK) (aad 0) (aad 1)) (aae (adQ (h2.trans hK) (aad 0) (aad 2)) aak))))) aak))))⟩)
theorem afq (a : At K mg "book_layers" ab2) (M : Nm mg) (adI : DfX P w K mg base 6 "need_book" (["book"] : List Str) (spP K cl 1 aa7)) (acU : DfX P w K mg base 3 "unbeaten_of" (["book", "things"] : List Str) (spP K cl 2 aa5)) : DfX P w K mg base 7 "book_layers" (["book"] : List Str) (spP K cl 1 aaX) := by
 have S : aaL (["book", "layers", "rest", "layer"] : List Str) (["book"] : List Str) (aal ab2) := ⟨rfl, rfl, rfl, by decide +kernel, rfl, by decide +kernel, by decide +kernel⟩
 exact a.dfP S (cl := cl) (by decide) (λ_ _ _ _ _ _ us hl => match us, hl with | [_], _ => by kernel_rfl) (λf cdv A outer s H E hr => ⟨_, (aai (psE (pcF (E := E) (adI.mono (by decide)) hr aay (paK (pvL 0) aaj))) (aai (psL 1 S.nd (abw aaj)) (aai (psL 2 S.nd (aiP hr M.aiR M.adF (paK (pcB abg M.aeH (paK (abJ aa3 (pvL 0) aan (λ_ _ => rfl)) aaj)) aaj))) (aai (PS.nox (afN PassesOwn.never (abm (pvL 2) (by intro _; rfl)) (aai (psC 3 S.nd rfl (pcF (E := E0) (acU.mono (by decide)) hr aeE (paK (pvL 0) (paK (pvL 2) aaj)))) (aai (psE (alE PySem.F.plainAttrs_list PySem.F.slot_list_append PySem.F.type_list_append acA (pvL 1) (abQ (pvC 3) aaj))) (aat (ahC (i := 2) (sc := aal ab2) (No := (["book", "layers", "rest", "layer"] : List Str)) (N := (["thing", "layer"] : List Str)) (src := [none, some 3]) (g := (acz 0)) S.nd rfl (Or.inl rfl) rfl rfl ⟨by rfl, by decide +kernel, by decide +kernel, by decide +kernel, by rfl, by decide +kernel⟩ rfl (ac9 (pvL 2)) (λC s H ex => (pgL 0 (show List.Nodup (["thing", "layer"] : List Str) by decide +kernel))) (λC s H ex => (abV (ako hr.units) (pvL 0) (pvC 1) (by with_unfolding_all rfl))) (λC s H ex => (pvL 0)))))))) (aat (aaS (pvL 1))))))), λt hK hx => (aau (aed (abX hK hx (aam aaM) (aae (aad 0) aak))) (aau (agS 1 (abG aak)) (aau (aaT (aqE (aae (x_len hK (aae (adQ hK (aad 0) (aao _)) aak)) aak)) (aap 2) abU) (aau (afC (λt1 h1 k1 => (afX (fuL 2) (aci (h1.trans hK) (aad 2)) (aau (aaT (acn (h1.trans hK) k1 (aam (aam aaM)) (aae (aad 0) (aae (aad 2) aak))) (aap 3) abU) (aau (aed (amc 1 (aad 3))) (aaT (af4 (ada (h1.trans hK) (aad 2)) (ade (by decide)) (adf (js := [0]) (by decide)) abU (λt2 h2 k2 => (aap 0)) (λt2 h2 k2 => (abv (aoc (h2.trans (h1.trans hK)) (aad 0) (aad 1)))) (λt2 h2 k2 => (aad 0))) (aap 2) abU)))))) (aaU (aad 1))))))⟩)
theorem aen (a : At K mg "common_divisor" abY) (M : Nm mg) : DfX P w K mg base 1 "common_divisor" (["one", "other"] : List Str) (spP K cl 2 abB) := by
 have S : aaL (["one", "other"] : List Str) (["one", "other"] : List Str) (aal abY) := ⟨rfl, rfl, rfl, by decide +kernel, rfl, by decide +kernel, by decide +kernel⟩
 exact a.dfP S (cl := cl) (by decide) (λ_ _ _ _ _ _ us hl => match us, hl with | [_, _], _ => by kernel_rfl) (λf cdv A outer s H E hr => ⟨_, (aai (PS.nox (afN PassesOwn.never (abV (amZ hr.units) (pvL 1) aan (abI _)) (aat (amR (i := 0) (j := 1) rfl S.nd rfl rfl (by decide) rfl rfl (paK (pvL 1) (paK (aaP adz (pvL 0) (pvL 1)) aaj)) rfl)))) (aat (aaS (pcB alz M.asU (paK (pvL 0) aaj))))), λt hK hx => (aau (afC (λt1 h1 k1 => (afX (fuI 1) (abv (aut (h1.trans hK) (aad 1) (aao _))) (am5 0 1 (aae (aad 1) (aae (ahD (h1.trans hK) (aad 0) (aad 1)) aak)))))) (aaU (asB hK (aae (aad 0) aak))))⟩)
theorem agj (a : At K mg "frac_below" adh) (M : Nm mg) : DfX P w K mg base 1 "frac_below" (["one", "other"] : List Str) (spP K cl 2 abb) := by
 have S : aaL (["one", "other"] : List Str) (["one", "other"] : List Str) (aal adh) := ⟨rfl, rfl, rfl, by decide +kernel, rfl, by decide +kernel, by decide +kernel⟩
 exact a.dfP S (cl := cl) (by decide) (λ_ _ _ _ _ _ us hl => match us, hl with | [_, _], _ => by kernel_rfl) (λf cdv A outer s H E hr => ⟨_, (aat (aaS (ac4 (aiF hr.units) (aaP acJ (abJ aa3 (pvL 0) aan (λ_ _ => rfl)) (abJ aa3 (pvL 1) aan (λ_ _ => rfl))) (aaP acJ (abJ aa3 (pvL 1) aan (λ_ _ => rfl)) (abJ aa3 (pvL 0) aan (λ_ _ => rfl))) (abI _)))), λt hK hx => (aaU (x_lt hK (af5 hK (adQ hK (aad 0) (aao _)) (adQ hK (aad 1) (aao _))) (af5 hK (adQ hK (aad 1) (aao _)) (adQ hK (aad 0) (aao _)))))⟩)
theorem ajk (a : At K mg "is_book" adi) (M : Nm mg) {adl : V} (acr : Gk K mg "MOST_LISTS" adl (.int 4)) {acV : V} (ab3 : Gk K mg "MOST_THINGS" acV (.int 12)) (XT : ahG K) (ag5 : DfX P w K mg base 4 "are_worths" (["thing", "most"] : List Str) (spP K cl 2 abp)) : DfX P w K mg base 5 "is_book" (["thing"] : List Str) (spP K cl 1 adg) := by
 have S : aaL (["thing"] : List Str) (["thing"] : List Str) (aal adi) := ⟨rfl, rfl, rfl, by decide +kernel, rfl, by decide +kernel, by decide +kernel⟩
 exact a.dfP S (cl := cl) (by decide) (λ_ _ _ _ _ _ us hl => match us, hl with | [_], _ => by kernel_rfl) (λf cdv A outer s H E hr => ⟨_, (aai (ady (PW.pt (ajW (acW (abm (pcI XT.o .list (pvC 0) M.aas M.aiR) (by intro _; rfl))) (agz (acW (ais ai2 ai2 aan (pcB abg M.aeH (paK (pvC 0) aaj)) (pGk acr)))))) (aat (aaS afM)) abC) (aai (ady (acW (abm (pcB (afS rfl) M.aoo (paK (acI (sc := aal adi) (No := (["thing"] : List Str)) (N := (["row"] : List Str)) (src := [none]) (g := (acz 0)) rfl rfl ⟨by rfl, by decide +kernel, by decide +kernel, by decide +kernel, by rfl, by decide +kernel⟩ rfl (ac9 (pvC 0)) (λC s H ex => (pgL 0 (show List.Nodup (["row"] : List Str) by decide +kernel))) (λC s H ex => (pcF (E := E0) (ag5.mono (by decide)) hr aeE (paK (pvL 0) (paK (pGk ab3) aaj))))) aaj)) (by intro _; rfl))) (aat (aaS afM)) abC) (aat (aaS (pcB (afS rfl) M.aoo (paK (acI (sc := aal adi) (No := (["thing"] : List Str)) (N := (["row", "thing"] : List Str)) (src := [none, some 0]) (g := (acz 0)) rfl rfl ⟨by rfl, by decide +kernel, by decide +kernel, by decide +kernel, by rfl, by decide +kernel⟩ rfl (ac9 (pvC 0)) (λC s H ex => (pgL 0 (show List.Nodup (["row", "thing"] : List Str) by decide +kernel))) (λC s H ex => (ac4 (aer hr.units) (pcB abg M.aeH (paK (pvL 0) aaj)) (pcB abg M.aeH (paK (abJ aa3 (pvC 1) aan (λ_ _ => rfl)) aaj)) (abI _)))) aaj)))))), λt hK hx => (aau (adB (akt (acZ (aci hK (agR hK .list (aad 0)))) (acZ (abv (ahE hK ajb ajb ajf ajf (aao _) (x_len hK (aae (aad 0) aak)) (aqw hK acr))))) (aaU (agO _)) ab9) (aau (adB (acZ (aci hK (aoe hK (aae (acQ (ada hK (aad 0)) (ade (by decide)) (adf (js := [0]) (by decide)) abU (λt1 h1 k1 => (aap 0)) (λt1 h1 k1 => (acn (h1.trans hK) k1 (aam (aam aaM)) (aae (aad 0) (aae (aqw (h1.trans hK) ab3) aak))))) aak)))) (aaU (agO _)) ab9) (aaU (aoe hK (aae (acQ (ada hK (aad 0)) (ade (by decide)) (adf (js := [0]) (by decide)) abU (λt2 h2 k2 => (aap 0)) (λt2 h2 k2 => (x_eq (h2.trans hK) (x_len (h2.trans hK) (aae (aad 0) aak)) (x_len (h2.trans hK) (aae (adQ (h2.trans hK) (aad 1) (aao _)) aak))))) aak)))))⟩)
theorem afr (a : At K mg "is_fraction" acS) (M : Nm mg) (XT : ahG K) (afG : DfX P w K mg base 1 "is_whole" (["thing"] : List Str) (spP K cl 1 acC)) (aeI : DfX P w K mg base 1 "common_divisor" (["one", "other"] : List Str) (spP K cl 2 abB)) : DfX P w K mg base 2 "is_fraction" (["thing"] : List Str) (spP K cl 1 abN) := by
 have S : aaL (["thing", "top", "bottom"] : List Str) (["thing"] : List Str) (aal acS) := ⟨rfl, rfl, rfl, by decide +kernel, rfl, by decide +kernel, by decide +kernel⟩
 exact a.dfP S (cl := cl) (by decide) (λ_ _ _ _ _ _ us hl => match us, hl with | [_], _ => by kernel_rfl) (λf cdv A outer s H E hr => ⟨_, (aai (ady (PW.pt (ajW (acW (abm (pcI XT.o .tuple (pvL 0) M.aas M.ahK) (by intro _; rfl))) (agz (abV (amZ hr.units) (pcB abg M.aeH (paK (pvL 0) aaj)) aan (abI _))))) (aat (aaS afM)) abC) (aai (ajZ (pvL 0) (amO rfl (aeL (pgL 1 S.nd) (aeL (pgL 2 S.nd) ajY)))) (aai (ady (PW.pt (ajW (acW (abm (pcF (E := E) (afG.mono (by decide)) hr aay (paK (pvL 1) aaj)) (by intro _; rfl))) (agz (acW (abm (pcF (E := E) (afG.mono (by decide)) hr aay (paK (pvL 2) aaj)) (by intro _; rfl)))))) (aat (aaS afM)) abC) (aat (aaS (ail (ac4 apr (pvL 2) aan (abI _)) (aik (ac4 (aer hr.units) (pcF (E := E) (aeI.mono (by decide)) hr aay (paK (pvL 1) (paK (pvL 2) aaj))) aan (abI _))))))))), λt hK hx => (aau (adB (akt (acZ (aci hK (agR hK .tuple (aad 0)))) (abv (aut hK (x_len hK (aae (aad 0) aak)) (aao _)))) (aaU (agO _)) ab9) (aau (aaT (aad 0) (am4 hK (aeO (aap 1) (aeO (aap 2) akx))) (aus (amb abU (amb abU am8)))) (aau (adB (akt (acZ (aci hK (abX hK hx (aam aaM) (aae (aad 1) aak)))) (acZ (aci hK (abX hK hx (aam aaM) (aae (aad 2) aak))))) (aaU (agO _)) ab9) (aaU (aiG (x_ge hK (aad 2) (aao _)) (x_eq hK (abX hK hx (aam (aam aaM)) (aae (aad 1) (aae (aad 2) aak))) (aao _)))))))⟩)
theorem ahL (a : At K mg "is_whole" aeh) (M : Nm mg) (XT : ahG K) : DfX P w K mg base 1 "is_whole" (["thing"] : List Str) (spP K cl 1 acC) := by
 have S : aaL (["thing"] : List Str) (["thing"] : List Str) (aal aeh) := ⟨rfl, rfl, rfl, by decide +kernel, rfl, by decide +kernel, by decide +kernel⟩
 exact a.dfP S (cl := cl) (by decide) (λ_ _ _ _ _ _ us hl => match us, hl with | [_], _ => by kernel_rfl) (λf cdv A outer s H E hr => ⟨_, (aat (aaS (ail (pcI XT.o .int (pvL 0) M.aas M.aqK) (aik (apg (pcI XT.o .bool (pvL 0) M.aas M.aqJ)))))), λt hK hx => (aaU (aiG (agR hK .int (aad 0)) (ap5 (agR hK .bool (aad 0)))))⟩)
theorem ahM (a : At K mg "is_worth" aei) (M : Nm mg) (agk : DfX P w K mg base 2 "is_fraction" (["thing"] : List Str) (spP K cl 1 abN)) : DfX P w K mg base 3 "is_worth" (["thing"] : List Str) (spP K cl 1 abu) := by
 have S : aaL (["thing"] : List Str) (["thing"] : List Str) (aal aei) := ⟨rfl, rfl, rfl, by decide +kernel, rfl, by decide +kernel, by decide +kernel⟩
 exact a.dfP S (cl := cl) (by decide) (λ_ _ _ _ _ _ us hl => match us, hl with | [_], _ => by kernel_rfl) (λf cdv A outer s H E hr => ⟨_, (aat (aaS (ail (pcF (E := E) (agk.mono (by decide)) hr aay (paK (pvL 0) aaj)) (aik (aly ai2 ai2 aan (abJ aa3 (pvL 0) aan (λ_ _ => rfl)) (abJ aa3 (pvL 0) aan (λ_ _ => rfl))))))), λt hK hx => (aaU (aiG (abX hK hx (aam aaM) (aae (aad 0) aak)) (ahE hK ajb ajb ajf ajf (aao _) (adQ hK (aad 0) (aao _)) (adQ hK (aad 0) (aao _)))))⟩)
theorem aqR (a : At K mg "law" aon) (M : Nm mg) (aow : DfX P w K mg base 1 "_law_purse" (["_law_script"] : List Str) (spP K cl 1 aek)) (aqS : DfX P w K mg base 4 "_law_book" (["_law_purse_here"] : List Str) (spR K 1 0 afF)) (acq : DfX P w K mg base 1 "_law_draw" (["_law_purse_here", "_law_many"] : List Str) (spR K 2 0 aa6)) (akT : DfX P w K mg base 2 "_law_no_book" (["_law_purse_here", "_law_book_here"] : List Str) (spR K 2 0 acD)) (amu : DfX P w K mg base 8 "_law_caught" (["_law_way", "_law_book_here"] : List Str) (spP K cl 2 adU)) (avh : DfX P w K mg base 1 "_law_is" (["_law_error", "_law_place"] : List Str) (spP K cl 2 aqM)) : DfX P w K mg base 9 "law" (["_law_script"] : List Str) (spP K cl 1 ajh) := by
 have S : aaL (["_law_script", "_law_purse_here", "_law_time", "_law_book_here", "_law_wrong", "_law_way", "_law_caught_here"] : List Str) (["_law_script"] : List Str) (aal aon) := ⟨rfl, rfl, rfl, by decide +kernel, rfl, by decide +kernel, by decide +kernel⟩
 exact a.dfP S (cl := cl) (by decide) (λ_ _ _ _ _ _ us hl => match us, hl with | [_], _ => by kernel_rfl) (λf cdv A outer s H E hr => ⟨_, (aai (psL 1 S.nd (pcF (E := E) (aow.mono (by decide)) hr aay (paK (pvL 0) aaj))) (aai (PS.nox (agB PassesOwn.never rfl (piR M.adF (paK aan aaj)) (pgL 2 S.nd) (aai (psL 3 S.nd (pcF (E := E0) (aqS.mono (by decide)) hr aeE (paK (pvL 1) aaj))) (aai (psL 4 S.nd (ac4 apq (pcF (E := E0) (acq.mono (by decide)) hr aeE (paK (pvL 1) (paK aan aaj))) aan (abI _))) (aai (ady (abm (pvL 4) (by intro _; rfl)) (aat (psL 3 S.nd (pcF (E := E0) (akT.mono (by decide)) hr aeE (paK (pvL 1) (paK (pvL 3) aaj))))) abC) (aat (agB PassesOwn.never rfl (ac9 (ami (G := nlK K) (Ts := [.int 0, .int 1, .int 1, .int 0]) (by kernel_rfl))) (pgL 5 S.nd) (aai (psL 6 S.nd (pcF (E := E0) (amu.mono (by decide)) hr aeE (paK (pvL 5) (paK (pvL 3) aaj)))) (aat (ady (PW.pt (ajW (PW.pt (amN (abm (pvL 4) (by intro _; rfl)) (ajV (acW (abm (pcF (E := E0) (avh.mono (by decide)) hr aeE (paK (pvL 6) (paK aan aaj))) (by intro _; rfl)))))) (agz (PW.pt (amN (acW (abm (pvL 4) (by intro _; rfl))) (ajV (abV anw (pvL 6) aij (abI _)))))))) (aat (aaS afM)) abC)))))))))) (aat (aaS afM)))), λt hK hx => (aau (agS 1 (abX hK hx (aam aaM) (aae (aad 0) aak))) (aau (afC (λt1 h1 k1 => (agU (agV (aae (aao _) aak)) (aap 2) abU (aau (aaT (abE (h1.trans hK) (aam aaM) (aae (aad 1) aak)) (aap 3) abU) (aau (aaT (auu (h1.trans hK) (abE (h1.trans hK) (aam (aam aaM)) (aae (aad 1) (aae (aao _) aak))) (aao _)) (aap 4) abU) (aau (adB (aci (h1.trans hK) (aad 4)) (aaT (abE (h1.trans hK) (aam (aam aaM)) (aae (aad 1) (aae (aad 3) aak))) (aap 3) abU) ab9) (agU (ada (h1.trans hK) (amj (h1.trans hK))) (aap 5) abU (aau (aaT (acn (h1.trans hK) k1 (aam (aam aaM)) (aae (aad 5) (aae (aad 3) aak))) (aap 6) abU) (adB (akt (am2 (aci (h1.trans hK) (aad 4)) (acZ (aci (h1.trans hK) (acn (h1.trans hK) k1 (aam (aam aaM)) (aae (aad 6) (aae (aao _) aak)))))) (am2 (acZ (aci (h1.trans hK) (aad 4))) (abv (aod (h1.trans hK) (aad 6) akr)))) (aaU (agO _)) ab9))))))))) (aaU (agO _))))⟩)
theorem ag6 (a : At K mg "need_book" adE) (M : Nm mg) (aeU : PyProof.Rows.OwnCls "NoBook" (cl "NoBook") bmV "ValueError.__new__" mg base) (akU : DfX P w K mg base 5 "is_book" (["thing"] : List Str) (spP K cl 1 adg)) : DfX P w K mg base 6 "need_book" (["book"] : List Str) (spP K cl 1 aa7) := by
 have S : aaL (["book"] : List Str) (["book"] : List Str) (aal adE) := ⟨rfl, rfl, rfl, by decide +kernel, rfl, by decide +kernel, by decide +kernel⟩
 exact a.dfP S (cl := cl) (by decide) (λ_ _ _ _ _ _ us hl => match us, hl with | [_], _ => by kernel_rfl) (λf cdv A outer s H E hr => ⟨_, (aat (ady (acW (abm (pcF (E := E) (akU.mono (by decide)) hr aay (paK (pvL 0) aaj)) (by intro _; rfl))) (aat (alL akh aeU PySem.F.excBase_ValueError rfl ajS)) abC)), λt hK hx => (adB (acZ (aci hK (abX hK hx (aam aaM) (aae (aad 0) aak)))) (alZ (λH' => hx "NoBook" H') (amY _)) ab9)⟩)
theorem ahN (a : At K mg "unbeaten" aej) (M : Nm mg) (adI : DfX P w K mg base 6 "need_book" (["book"] : List Str) (spP K cl 1 aa7)) (acU : DfX P w K mg base 3 "unbeaten_of" (["book", "things"] : List Str) (spP K cl 2 aa5)) : DfX P w K mg base 7 "unbeaten" (["book"] : List Str) (spP K cl 1 abj) := by
 have S : aaL (["book"] : List Str) (["book"] : List Str) (aal aej) := ⟨rfl, rfl, rfl, by decide +kernel, rfl, by decide +kernel, by decide +kernel⟩
 exact a.dfP S (cl := cl) (by decide) (λ_ _ _ _ _ _ us hl => match us, hl with | [_], _ => by kernel_rfl) (λf cdv A outer s H E hr => ⟨_, (aai (psE (pcF (E := E) (adI.mono (by decide)) hr aay (paK (pvL 0) aaj))) (aat (aaS (pcF (E := E) (acU.mono (by decide)) hr aay (paK (pvL 0) (paK (aiP hr M.aiR M.adF (paK (pcB abg M.aeH (paK (abJ aa3 (pvL 0) aan (λ_ _ => rfl)) aaj)) aaj)) aaj)))))), λt hK hx => (aau (aed (abX hK hx (aam aaM) (aae (aad 0) aak))) (aaU (abX hK hx (aam (aam aaM)) (aae (aad 0) (aae (aqE (aae (x_len hK (aae (adQ hK (aad 0) (aao _)) aak)) aak)) aak)))))⟩)
theorem afs (a : At K mg "unbeaten_of" abO) (M : Nm mg) (aox : DfX P w K mg base 2 "beats" (["book", "one", "other"] : List Str) (spP K cl 3 aef)) : DfX P w K mg base 3 "unbeaten_of" (["book", "things"] : List Str) (spP K cl 2 aa5) := by
 have S : aaL (["book", "things"] : List Str) (["book", "things"] : List Str) (aal abO) := ⟨rfl, rfl, rfl, by decide +kernel, rfl, by decide +kernel, by decide +kernel⟩
 exact a.dfP S (cl := cl) (by decide) (λ_ _ _ _ _ _ us hl => match us, hl with | [_, _], _ => by kernel_rfl) (λf cdv A outer s H E hr => ⟨_, (aat (aaS (al7 (sc := aal abO) (No := (["book", "things"] : List Str)) (N := (["thing", "things", "book"] : List Str)) (src := [none, some 1, some 0]) (g := (acz 0)) rfl rfl ⟨by rfl, by decide +kernel, by decide +kernel, by decide +kernel, by rfl, by decide +kernel⟩ rfl (ac9 (pvC 1)) (λC s H ex => (pgC 0 (show List.Nodup (["thing", "things", "book"] : List Str) by decide +kernel) rfl)) (λC s H ex => (acW (akD (K := K) (pcB (af7 rfl) M.aop (paK (acI (sc := alG _ (aal abO)) (No := (["thing", "things", "book"] : List Str)) (N := (["other", "book", "thing"] : List Str)) (src := [none, some 2, some 0]) (g := (acz 0)) rfl rfl ⟨by rfl, by decide +kernel, by decide +kernel, by decide +kernel, by rfl, by decide +kernel⟩ rfl (ac9 (pvC 1)) (λC s H ex => (pgL 0 (show List.Nodup (["other", "book", "thing"] : List Str) by decide +kernel))) (λC s H ex => (pcF (E := E0) (aox.mono (by decide)) hr aeE (paK (pvC 1) (paK (pvL 0) (paK (pvC 2) aaj)))))) aaj)) rfl (by intro _; rfl)))) (λC s H ex => (pvC 0))))), λt hK hx => (aaU (af4 (ada hK (aad 1)) (ade (by decide)) (adf (js := [0]) (by decide)) abU (λt1 h1 k1 => (aap 0)) (λt1 h1 k1 => (acZ (aci (h1.trans hK) (aoh (h1.trans hK) (aae (acQ (ada (h1.trans hK) (aad 1)) (ade (by decide)) (adf (js := [0]) (by decide)) abU (λt2 h2 k2 => (aap 0)) (λt2 h2 k2 => (acn (h2.trans (h1.trans hK)) k2 (aam (aam (aam aaM))) (aae (aad 1) (aae (aad 0) (aae (aad 2) aak)))))) aak))))) (λt1 h1 k1 => (aad 0))))⟩)
end
end K51
end
section
namespace L2
open PySem
@[simp] theorem Rs.aa2 {α β : Type} (a : α) (f : α -> Rs β) : (Rs.ok a).bind f = f a := rfl
@[simp] theorem Rs.arM {α β : Type} (f : α -> Rs β) : (Rs.bad : Rs α).bind f = .bad := rfl
@[simp] theorem Rs.asW {α β : Type} (c : Str) (f : α -> Rs β) : (Rs.ex c : Rs α).bind f = .ex c := rfl
inductive Tg {α β : Type} (f : α -> Rs β) : Type
 | mk
noncomputable def bd {α β : Type} (r : Rs α) (f : α -> Rs β) (_ : Tg f) : Rs β := r.bind f
@[simp] theorem akV {α β : Type} (f : α -> Rs β) (a : α) (u : Tg f) : bd (.ok a) f u = f a := rfl
@[simp] theorem auz {α β : Type} (f : α -> Rs β) (u : Tg f) : bd .bad f u = .bad := rfl
@[simp] theorem avi {α β : Type} (f : α -> Rs β) (c : Str) (u : Tg f) : bd (.ex c) f u = .ex c := rfl
@[simp] theorem aoy (f g : SF) (ρ : En) : aaN f g ρ = ((bd (f ρ) (λp => match p.1 with
 | .nx => g p.2
 | fl => .ok (fl, p.2)) .mk)) := rfl
@[simp] theorem aqT (c : BF) (f g : SF) (ρ : En) : sIf c f g ρ = ((bd (c ρ) (λp => if p.1 = true then f p.2 else g p.2) .mk)) := rfl
@[simp] theorem akW (f : EF) (ρ : En) : abR f ρ = ((bd (f ρ) (λp => match p.1 with
 | .v T fr => .ok (.rt T fr, p.2)
 | .s i => match p.2[i]? with
  | some (.ow ts) => .ok (.rt (.lst ts) true, p.2)
  | _ => .bad) .mk)) := rfl
@[simp] theorem asY (f : EF) (g : GF) (ρ : En) : abA f g ρ = ((bd (f ρ) (λp => match p.1 with
 | .v T _ => (bd (g T p.2) (λρ' => .ok (.nx, ρ')) .mk)
 | .s _ => .bad) .mk)) := rfl
@[simp] theorem asZ (i : Nat) (f : EF) (ρ : En) : ajO i f ρ = ((bd (f ρ) (λp => match p.1 with
 | .v (.lst ts) true => .ok (.nx, p.2.set i (.ow ts))
 | _ => .bad) .mk)) := rfl
@[simp] theorem aoz  (ρ : En) : aeu  ρ = (.ok (.nx, ρ)) := rfl
@[simp] theorem as3 (f : SF) (ρ : En) : aev f ρ = (abH (f ρ)) := rfl
@[simp] theorem as4 (i j : Nat) (fa : AF) (ρ : En) : ao4 i j fa ρ = ((bd (fa ρ) (λp => (bd (cls p.1) (λTs => match Ts with
 | [T, U] => .ok (.nx, (p.2.set i (.sh T)).set j (.sh U))
 | _ => .bad) .mk)) .mk)) := rfl
@[simp] theorem arN (i : Nat) (fk fe : EF) (ρ : En) : an1 i fk fe ρ = ((bd (fe ρ) (λp => (bd (cls [p.1]) (λTs => (bd (con p.2 i) (λ_ => (bd (fk p.2) (λq => (bd (dr q.2 q.1) (λkT => (bd (iOf kT) (λk => (bd (con q.2 i) (λts => match Ts, ixN ts.length k with
 | [T], some j => .ok (.nx, abf i (ts.set j T) q.2)
 | _, _ => .bad) .mk)) .mk)) .mk)) .mk)) .mk)) .mk)) .mk)) := rfl
@[simp] theorem arO (f : EF) (ρ : En) : ac1 f ρ = ((bd (f ρ) (λp => .ok (.nx, p.2)) .mk)) := rfl
@[simp] theorem as5 (fi : IF) (g : GF) (b : SF) (ρ : En) : agT fi g b ρ = ((bd (fi ρ) (λp => acM g b p.1 p.2) .mk)) := rfl
@[simp] theorem as6 (i : Nat) (f : SF) (ρ : En) : arI i f ρ = (f (frz i ρ)) := rfl
@[simp] theorem as7 (i : Nat) (f : SF) (ρ : En) : avb i f ρ = (f (dow i ρ)) := rfl
@[simp] theorem as8 (i : Nat) (p : Int -> Int -> Int) (f : EF) (ρ : En) : au5 i p f ρ = (match ρ[i]? with
 | some (.sh (.int x)) => (bd (f ρ) (λq => (bd (dr q.2 q.1) (λyT => (bd (iOf yT) (λy => .ok (.nx, q.2.set i (.sh (.int (p x y))))) .mk)) .mk)) .mk)
 | _ => .bad) := rfl
@[simp] theorem as9 (i : Nat) (fk : QF) (m : GM) (fa : QF) (ρ : En) : ava i fk m fa ρ = ((bd (acR ρ i) (λts => (bd (abH (fk ρ)) (λk => (bd (ixT ts k) (λz => match z.2 with
 | .lst us => (bd (abH (fa ρ)) (λT => (bd (m us [T]) (λy => .ok (.nx, ρ.set i (.dp (ts.set z.1 (.lst y.1))))) .mk)) .mk)
 | _ => .bad) .mk)) .mk)) .mk)) := rfl
@[simp] theorem arP (i : Nat) (fk fj : QF) (fe : EF) (ρ : En) : asL i fk fj fe ρ = ((bd (fe ρ) (λp => (bd (clV p.1) (λT => (bd (acR p.2 i) (λts => (bd (abH (fk p.2)) (λk => (bd (ixT ts k) (λz => match z.2 with
 | .lst us => (bd (abH (fj p.2)) (λj => (bd (ixT us j) (λy => .ok (.nx, p.2.set i (.dp (ts.set z.1 (.lst (us.set y.1 T)))))) .mk)) .mk)
 | _ => .bad) .mk)) .mk)) .mk)) .mk)) .mk)) := rfl
@[simp] theorem aqU (i : Nat) (src : List (Option Nat)) (fi : IF) (g : GF) (c : BF) (f : EF) (ρ : En) : aqx i src fi g c f ρ = ((bd (fi ρ) (λp => if p.1.length <= 100000 then (bd (abH (amk g c f p.1 (abS src p.2))) (λz => if abZ src z.2 p.2 = true then .ok (.nx, (abq src z.2 p.2).set i (.dp z.1)) else .bad) .mk) else .bad) .mk)) := rfl
@[simp] theorem ata (i : Nat) (ρ : En) : au8 i ρ = (match ρ[i]? with
 | some (.sh T) => .ok T
 | _ => .bad) := rfl
@[simp] theorem avj (T : Tr) (ρ : En) : qC T ρ = .ok T := rfl
@[simp] theorem atb (i : Nat) (fk fj : QF) (ρ : En) : au9 i fk fj ρ = ((bd (acR ρ i) (λts => (bd (fk ρ) (λk => (bd (ixT ts k) (λz => match z.2 with
 | .lst us => (bd (fj ρ) (λj => (bd (ixT us j) (λy => .ok y.2) .mk)) .mk)
 | _ => .bad) .mk)) .mk)) .mk)) := rfl
@[simp] theorem aoA (i : Nat) (ρ : En) : aah i ρ = (match ρ[i]? with
 | some (.sh T) => .ok (.v T false, ρ)
 | some (.ow _) => .ok (.s i, ρ)
 | some (.rf _) => .ok (.s i, ρ)
 | _ => .bad) := rfl
@[simp] theorem atc (T : Tr) (ρ : En) : eC T ρ = (.ok (.v T false, ρ)) := rfl
@[simp] theorem auA (Ts : List Tr) (ρ : En) : eCL Ts ρ = .ok (.v (.lst Ts) true, ρ) := rfl
@[simp] theorem aqV (g : G2) (fa fb : EF) (ρ : En) : eOp g fa fb ρ = ((bd (fa ρ) (λp => (bd (fb p.2) (λq => (bd (dr q.2 p.1) (λa => (bd (dr q.2 q.1) (λb => (bd (g a b) (λz => .ok (.v z.1 z.2, q.2)) .mk)) .mk)) .mk)) .mk)) .mk)) := rfl
@[simp] theorem auB (g : G1) (fa : EF) (ρ : En) : eUn g fa ρ = ((bd (fa ρ) (λp => (bd (dr p.2 p.1) (λa => (bd (g a) (λz => .ok (.v z.1 z.2, p.2)) .mk)) .mk)) .mk)) := rfl
@[simp] theorem aqW (g : GN) (fa : AF) (ρ : En) : eCB g fa ρ = ((bd (fa ρ) (λp => (bd (drs p.2 p.1) (λas => (bd (g as) (λz => .ok (.v z.1 z.2, p.2)) .mk)) .mk)) .mk)) := rfl
@[simp] theorem akX (F : FP) (fa : AF) (ρ : En) : aaA F fa ρ = ((bd (fa ρ) (λp => (bd (drs p.2 p.1) (λas => (bd (F as) (λz => if p.1.any isS = true /\ acw z = false then .bad else .ok (.v z.1 z.2, p.2)) .mk)) .mk)) .mk)) := rfl
@[simp] theorem aqX (r : Nat) (F : FR) (fa : AF) (ρ : En) : aaY r F fa ρ = ((bd (fa ρ) (λp => match p.1[r]? with
 | some (.s i) => if others r i p.1 = true then ((bd (con p.2 i) (λ_ => (bd (drs p.2 p.1) (λas => (bd (F as) (λz => if (p.1.eraseIdx r).any isS = true /\ acw z.1 = false then .bad else .ok (.v z.1.1 z.1.2, abf i z.2 p.2)) .mk)) .mk)) .mk)) else .bad
 | _ => .bad) .mk)) := rfl
@[simp] theorem atd (g : AF) (ρ : En) : acY g ρ = ((bd (g ρ) (λp => (bd (cls p.1) (λts => if ts.length <= 1000 then .ok (.v (.lst ts) true, p.2) else .bad) .mk)) .mk)) := rfl
@[simp] theorem ate (g : AF) (ρ : En) : am1 g ρ = ((bd (g ρ) (λp => (bd (cls p.1) (λts => if ts.length <= 1000 then .ok (.v (.tup ts) false, p.2) else .bad) .mk)) .mk)) := rfl
@[simp] theorem atf (f g : EF) (ρ : En) : ao1 f g ρ = ((bd (abn f ρ) (λp => if p.1 = true then g p.2 else .ok (eB false, p.2)) .mk)) := rfl
@[simp] theorem auC (f g : EF) (ρ : En) : eOr f g ρ = ((bd (abn f ρ) (λp => if p.1 = true then .ok (eB true, p.2) else g p.2) .mk)) := rfl
@[simp] theorem atg (f : EF) (ρ : En) : asi f ρ = ((bd (abn f ρ) (λp => .ok (eB (!p.1), p.2)) .mk)) := rfl
@[simp] theorem auD (c : BF) (f g : EF) (ρ : En) : eIf c f g ρ = ((bd (c ρ) (λp => if p.1 = true then f p.2 else g p.2) .mk)) := rfl
@[simp] theorem ath (c : Ty) (fa : EF) (ρ : En) : anY c fa ρ = ((bd (fa ρ) (λp => (bd (dr p.2 p.1) (λa => .ok (eB (ac7 a c), p.2)) .mk)) .mk)) := rfl
@[simp] theorem aqY (g g' : G2) (fa fb fc : EF) (ρ : En) : afz g g' fa fb fc ρ = ((bd (fa ρ) (λp => (bd (fb p.2) (λq => (bd (dr q.2 p.1) (λa => (bd (dr q.2 q.1) (λb => (bd (g a b) (λz => (bd (bOf z.1) (λk => if k = true then (bd (fc q.2) (λs => (bd (dr s.2 q.1) (λb => (bd (dr s.2 s.1) (λc => (bd (g' b c) (λz => .ok (.v z.1 z.2, s.2)) .mk)) .mk)) .mk)) .mk) else .ok (eB false, q.2)) .mk)) .mk)) .mk)) .mk)) .mk)) .mk)) := rfl
@[simp] theorem auE (fa : EF) (fl fh : OF) (ρ : En) : eSl fa fl fh ρ = ((bd (fa ρ) (λp => (bd (fl p.2) (λl => (bd (fh l.2) (λh => (bd (dr h.2 p.1) (λa => (bd (gSl l.1 h.1 a) (λz => .ok (.v z.1 z.2, h.2)) .mk)) .mk)) .mk)) .mk)) .mk)) := rfl
@[simp] theorem aiS (src : List (Option Nat)) (fi : IF) (g : GF) (c : BF) (f : EF) (ρ : En) : abo src fi g c f ρ = ((bd (fi ρ) (λp => if p.1.length <= 100000 then (bd (abH (afb g c f p.1 (abS src p.2))) (λz => if abZ src z.2 p.2 = true then .ok (.v (.lst z.1) true, abq src z.2 p.2) else .bad) .mk) else .bad) .mk)) := rfl
@[simp] theorem auF (i : Nat) (m : GM) (fa : AF) (ρ : En) : eMt i m fa ρ = ((bd (con ρ i) (λ_ => (bd (fa ρ) (λp => (bd (cls p.1) (λas => (bd (con p.2 i) (λts => (bd (m ts as) (λz => .ok (.v z.2 false, abf i z.1 p.2)) .mk)) .mk)) .mk)) .mk)) .mk)) := rfl
@[simp] theorem ati (i : Nat) (m : GM) (ρ : En) : au4 i m ρ = ((bd (con ρ i) (λts => (bd (m ts []) (λz => .ok (.v z.2 false, abf i z.1 ρ)) .mk)) .mk)) := rfl
@[simp] theorem amv (fa : EF) (ρ : En) : abn fa ρ = ((bd (fa ρ) (λp => (bd (dr p.2 p.1) (λa => (bd (bOf a) (λb => .ok (b, p.2)) .mk)) .mk)) .mk)) := rfl
@[simp] theorem atj (fa : EF) (ρ : En) : aes fa ρ = ((bd (fa ρ) (λp => (bd (dr p.2 p.1) (λa => (bd (tru a) (λb => .ok (b, p.2)) .mk)) .mk)) .mk)) := rfl
@[simp] theorem atk (f g : BF) (ρ : En) : ao0 f g ρ = ((bd (f ρ) (λp => if p.1 = true then g p.2 else .ok (false, p.2)) .mk)) := rfl
@[simp] theorem auG (f g : BF) (ρ : En) : bOr f g ρ = ((bd (f ρ) (λp => if p.1 = true then .ok (true, p.2) else g p.2) .mk)) := rfl
@[simp] theorem atl (f : BF) (ρ : En) : agQ f ρ = ((bd (f ρ) (λp => .ok (!p.1, p.2)) .mk)) := rfl
@[simp] theorem atn  (ρ : En) : aeF  ρ = (.ok (true, ρ)) := rfl
@[simp] theorem aoB  (ρ : En) : aar  ρ = (.ok ([], ρ)) := rfl
@[simp] theorem amw (f : EF) (g : AF) (ρ : En) : aaf f g ρ = ((bd (f ρ) (λp => (bd (g p.2) (λq => .ok (p.1 :: q.1, q.2)) .mk)) .mk)) := rfl
@[simp] theorem auH (f : EF) (ρ : En) : fSq f ρ = ((bd (f ρ) (λp => (bd (acN p.1) (λz => .ok (z.1, p.2)) .mk)) .mk)) := rfl
@[simp] theorem ato (fa : AF) (ρ : En) : ahz fa ρ = ((bd (fa ρ) (λp => (bd (drs p.2 p.1) (λas => match as with
 | [.int j] => if okR j = true then .ok (upTo 0 j.toNat, p.2) else .bad
 | _ => .bad) .mk)) .mk)) := rfl
@[simp] theorem arQ (fa : AF) (ρ : En) : asj fa ρ = ((bd (fa ρ) (λp => (bd (drs p.2 p.1) (λas => match as with
 | [.int i, .int j] => if okR i = true /\ okR j = true then .ok (upTo i (j - i).toNat, p.2) else .bad
 | _ => .bad) .mk)) .mk)) := rfl
@[simp] theorem atp (fa : AF) (ρ : En) : avc fa ρ = ((bd (fa ρ) (λp => match p.1 with
 | [.v (.lst us) _, .v (.lst vs) _] => .ok (auw us vs, p.2)
 | _ => .bad) .mk)) := rfl
@[simp] theorem auI  (ρ : En) : oNo  ρ = (.ok (none, ρ)) := rfl
@[simp] theorem arR (fa : EF) (ρ : En) : acv fa ρ = ((bd (fa ρ) (λp => (bd (dr p.2 p.1) (λa => (bd (iOf a) (λb => .ok (some b, p.2)) .mk)) .mk)) .mk)) := rfl
@[simp] theorem avk (i : Nat) (T : Tr) (ρ : En) : gN i T ρ = (.ok (ρ.set i (.sh T))) := rfl
@[simp] theorem avl (n : Nat) (f : GFs) (T : Tr) (ρ : En) : gT n f T ρ = (match T with
 | .tup Ts => if Ts.length = n then f Ts ρ else .bad
 | _ => .bad) := rfl
@[simp] theorem arS  (Ts : List Tr) (ρ : En) : ajc  Ts ρ = (match Ts with
 | [] => .ok ρ
 | _ => .bad) := rfl
@[simp] theorem aqZ (f : GF) (g : GFs) (Ts : List Tr) (ρ : En) : adO f g Ts ρ = (match Ts with
 | T :: r => (bd (f T ρ) (λρ' => g r ρ') .mk)
 | [] => .bad) := rfl
@[simp] theorem auJ (a : Tr) : aaH 1 [a] = [.sh a] := rfl
end L2
end
section
namespace BH
open PySem L2
theorem aaw (i : Int) : dep (.int i) = 0 := rfl
theorem aaZ (i : Bool) : dep (.bl i) = 0 := rfl
theorem aaD (i : Str) : dep (.str i) = 0 := rfl
theorem aaE : dep .non = 0 := rfl
theorem aaF (ts : List Tr) : dep (.tup ts) = deps ts + 1 := by simp only [dep]
theorem aaG (ts : List Tr) : dep (.lst ts) = deps ts + 1 := by simp only [dep]
theorem aav : deps [] = 0 := rfl
theorem aaq (t : Tr) (ts : List Tr) : deps (t :: ts) = max (dep t) (deps ts) := by simp only [deps]
theorem aaO (i j : Int) : eqT (.int i) (.int j) = (i == j) := by simp only [eqT]
theorem aa0 (i j : Bool) : eqT (.bl i) (.bl j) = (i == j) := by simp only [eqT]
theorem aa1 (i j : Str) : eqT (.str i) (.str j) = (i == j) := by simp only [eqT]
noncomputable def isW : Tr -> Bool
 | .int _ => true
 | _ => false
theorem ahO (T : Tr) : acC [T] = .ok (.bl (isW T), false) := by cases T <;> rfl
noncomputable def wc : BF := abn (eOp gNe (aah 1) (eC (.int 0)))
noncomputable def wb : SF := ao4 0 1 (aaf (aah 1) (aaf (eOp ab5 (aah 0) (aah 1)) aar))
theorem atq (a b : Int) : wc [.sh (.int a), .sh (.int b)] = .ok (!(b == 0), [.sh (.int a), .sh (.int b)]) := rfl
theorem atr (a b : Int) (h : b ≠ 0) : wb [.sh (.int a), .sh (.int b)] = .ok (.nx, [.sh (.int b), .sh (.int (a.fmod b))]) := by
 unfold wb; simp -dsimp [abH, frz, dow, abf, con, acR, eB, bOf, tru, dr, drs, cls, clV, adp, g1, g2, gI, gIC, gB, gEq, gNe, gIn, aaV, abP, acK, ab5, acu, ach, gLt, gGt, gLe, gGe, gIx, aby, ac2, abD, aaI, ac0, adA, acj, acN, okR, iOf, isS, others, abS, abq, abZ, acE, acP, aaw, aaZ, aaD, aaE, aaF, aaG, aav, aaq, aaO, aa0, aa1, ac7, atI, ixN, aaH, h]
theorem aiT : ∀ (n : Nat) (a b : Int), b.natAbs < n -> ∃ g : Int, ac8 wc wb n [.sh (.int a), .sh (.int b)] = .ok (.nx, [.sh (.int g), .sh (.int 0)]) /\ (if g < 0 then -g else g) = ((Int.gcd a b : Nat) : Int)
 | 0, a, b, h => by omega
 | n + 1, a, b, h => by
  unfold ac8
  rw [atq]
  by_cases z : b = 0
  ·subst z
   exact ⟨a, rfl, anJ a⟩
  ·obtain ⟨g, h1, h2⟩ := aiT n b (a.fmod b) (by have := aja a b z; omega)
   refine ⟨g, ?_, by rw [h2, aiC]⟩
   have e : (!(b == 0)) = true := by simp [z]
   simp only [Rs.bind, e, if_true]
   rw [atr a b z]
   exact h1
noncomputable def auK : SF := (aaN (aev (acB (fuI 1) wc wb)) (abR (eCB (g1 ac2) (aaf (aah 0) aar))))
theorem aoC (a b : Int) : fnP 2 auK [.int a, .int b] = .ok (.int (Int.gcd a b : Nat), false) := by
 obtain ⟨g, h1, h2⟩ := aiT (b.natAbs + 1) a b (by omega)
 have h0 : aaH 2 [.int a, .int b] = [.sh (.int a), .sh (.int b)] := rfl
 have h3 : aev (acB (fuI 1) wc wb) [.sh (.int a), .sh (.int b)] = .ok (.nx, [.sh (.int g), .sh (.int 0)]) := by
  unfold aev acB
  rw [show fuI 1 [.sh (.int a), .sh (.int b)] = b.natAbs + 1 from rfl, h1]
  rfl
 rw [<-h2]
 unfold fnP auK aaN
 rw [h0, h3]
 rfl
theorem aeo (a b : Int) : abB [.int a, .int b] = .ok (.int (Int.gcd a b : Nat), false) := aoC a b
noncomputable def amx : Tr -> Tr -> Bool
 | .int p, .int q => decide (1 <= q) && (Int.gcd p q == 1)
 | _, _ => false
noncomputable def amy : Tr -> Bool
 | .tup [a, b] => amx a b
 | _ => false
theorem aoD (n : Nat) : ((n : Int) == 1) = (n == 1) := by
 rw [Bool.eq_iff_iff]; simp; omega
theorem abk (T : Tr) : abN [T] = .ok (.bl (amy T), false) := by
 unfold abN adR fnP
 cases T with
 | tup ts =>
  match ts with
  | [] => rfl
  | [_] => rfl
  | [a, b] =>
   cases a <;> cases b <;> try rfl
   rename_i p q
   simp -dsimp [abH, frz, dow, abf, con, acR, eB, bOf, tru, dr, drs, cls, clV, adp, g1, g2, gI, gIC, gB, gEq, gNe, gIn, aaV, abP, acK, ab5, acu, ach, gLt, gGt, gLe, gGe, gIx, aby, ac2, abD, aaI, ac0, adA, acj, acN, okR, iOf, isS, others, abS, abq, abZ, acE, acP, aaw, aaZ, aaD, aaE, aaF, aaG, aav, aaq, aaO, aa0, aa1, ac7, atI, ixN, aaH, ahO, isW, aeo, amy, amx, aoD]
   by_cases h : 1 <= q <;> simp [h]
  | a :: b :: c :: r =>
   have : ((r.length : Int) + 1 + 1 + 1 == 2) = false := by simp; omega
   simp -dsimp [abH, frz, dow, abf, con, acR, eB, bOf, tru, dr, drs, cls, clV, adp, g1, g2, gI, gIC, gB, gEq, gNe, gIn, aaV, abP, acK, ab5, acu, ach, gLt, gGt, gLe, gGe, gIx, aby, ac2, abD, aaI, ac0, adA, acj, acN, okR, iOf, isS, others, abS, abq, abZ, acE, acP, aaw, aaZ, aaD, aaE, aaF, aaG, aav, aaq, aaO, aa0, aa1, ac7, atI, ixN, aaH, amy, this]
 | _ => rfl
noncomputable def aoE : Tr -> Tr -> Bool
 | .int p, .int q => decide (0 <= p) && decide (p <= q) && decide (1 <= q) && (Int.gcd p q == 1)
 | _, _ => false
noncomputable def agl : Tr -> Bool
 | .tup [a, b] => aoE a b
 | _ => false
theorem ahP (T : Tr) : abu [T] = .ok (.bl (agl T), false) := by
 unfold abu afE fnP
 cases T with
 | tup ts =>
  match ts with
  | [] => simp -dsimp [abH, frz, dow, abf, con, acR, eB, bOf, tru, dr, drs, cls, clV, adp, g1, g2, gI, gIC, gB, gEq, gNe, gIn, aaV, abP, acK, ab5, acu, ach, gLt, gGt, gLe, gGe, gIx, aby, ac2, abD, aaI, ac0, adA, acj, acN, okR, iOf, isS, others, abS, abq, abZ, acE, acP, aaw, aaZ, aaD, aaE, aaF, aaG, aav, aaq, aaO, aa0, aa1, ac7, atI, ixN, aaH, abk, amy, agl]
  | [_] => simp -dsimp [abH, frz, dow, abf, con, acR, eB, bOf, tru, dr, drs, cls, clV, adp, g1, g2, gI, gIC, gB, gEq, gNe, gIn, aaV, abP, acK, ab5, acu, ach, gLt, gGt, gLe, gGe, gIx, aby, ac2, abD, aaI, ac0, adA, acj, acN, okR, iOf, isS, others, abS, abq, abZ, acE, acP, aaw, aaZ, aaD, aaE, aaF, aaG, aav, aaq, aaO, aa0, aa1, ac7, atI, ixN, aaH, abk, amy, agl]
  | [a, b] =>
   by_cases w : isW a = true /\ isW b = true
   case neg =>
    have w1 : amx a b = false := by cases a <;> cases b <;> first | rfl | exact absurd ⟨rfl, rfl⟩ w
    have w2 : aoE a b = false := by cases a <;> cases b <;> first | rfl | exact absurd ⟨rfl, rfl⟩ w
    simp -dsimp [abH, frz, dow, abf, con, acR, eB, bOf, tru, dr, drs, cls, clV, adp, g1, g2, gI, gIC, gB, gEq, gNe, gIn, aaV, abP, acK, ab5, acu, ach, gLt, gGt, gLe, gGe, gIx, aby, ac2, abD, aaI, ac0, adA, acj, acN, okR, iOf, isS, others, abS, abq, abZ, acE, acP, aaw, aaZ, aaD, aaE, aaF, aaG, aav, aaq, aaO, aa0, aa1, ac7, atI, ixN, aaH, abk, amy, agl, w1, w2]
   cases a <;> try cases w.1
   cases b <;> try cases w.2
   rename_i p q
   simp -dsimp [abH, frz, dow, abf, con, acR, eB, bOf, tru, dr, drs, cls, clV, adp, g1, g2, gI, gIC, gB, gEq, gNe, gIn, aaV, abP, acK, ab5, acu, ach, gLt, gGt, gLe, gGe, gIx, aby, ac2, abD, aaI, ac0, adA, acj, acN, okR, iOf, isS, others, abS, abq, abZ, acE, acP, aaw, aaZ, aaD, aaE, aaF, aaG, aav, aaq, aaO, aa0, aa1, ac7, atI, ixN, aaH, abk, amy, agl, amx, aoE]
   by_cases h : 1 <= q <;> by_cases h2 : p.gcd q = 1 <;> by_cases h3 : 0 <= p <;> simp [h, h2, h3]
  | a :: b :: c :: r => simp -dsimp [abH, frz, dow, abf, con, acR, eB, bOf, tru, dr, drs, cls, clV, adp, g1, g2, gI, gIC, gB, gEq, gNe, gIn, aaV, abP, acK, ab5, acu, ach, gLt, gGt, gLe, gGe, gIx, aby, ac2, abD, aaI, ac0, adA, acj, acN, okR, iOf, isS, others, abS, abq, abZ, acE, acP, aaw, aaZ, aaD, aaE, aaF, aaG, aav, aaq, aaO, aa0, aa1, ac7, atI, ixN, aaH, abk, amy, agl]
 | _ => simp -dsimp [abH, frz, dow, abf, con, acR, eB, bOf, tru, dr, drs, cls, clV, adp, g1, g2, gI, gIC, gB, gEq, gNe, gIn, aaV, abP, acK, ab5, acu, ach, gLt, gGt, gLe, gGe, gIx, aby, ac2, abD, aaI, ac0, adA, acj, acN, okR, iOf, isS, others, abS, abq, abZ, acE, acP, aaw, aaZ, aaD, aaE, aaF, aaG, aav, aaq, aaO, aa0, aa1, ac7, atI, ixN, aaH, abk, amy, agl]
end BH
end
section
namespace BH
open PySem L2
theorem comp_map {f : EF} {h : Tr -> Tr} {τ : En} : ∀ (us : List Tr) (s : Sl), (∀ u ∈ us, ∃ fr, f (.sh u :: τ) = .ok (.v (h u) fr, .sh u :: τ)) -> ∃ s', afb (gN 0) aeF f us (s :: τ) = .ok (us.map h, s' :: τ)
 | [], s, _ => ⟨s, rfl⟩
 | u :: us, s, q => by
  obtain ⟨fr, e⟩ := q u (by simp)
  obtain ⟨s', e'⟩ := comp_map us (.sh u) λv hv => q v (by simp [hv])
  refine ⟨s', ?_⟩
  unfold afb
  simp [e, clV, e']
theorem ahQ {p : Tr -> Bool} : ∀ us : List Tr, afp (us.map λu => .bl (p u)) = some (us.map p)
 | [] => rfl
 | u :: us => by simp [afp, ahQ us]
theorem aiU {F : FP} {p : Tr -> Bool} {us : List Tr} {ρ : En} {i : IF} {fe : EF} (hl : us.length <= 100000) (hi : i ρ = .ok (us, ρ)) (hf : ∀ u ∈ us, ∃ fr, fe [.sh u] = .ok (.v (.bl (p u)) fr, [.sh u])) : eCB (g1 acj) (aaf (abo [none] i (gN 0) aeF fe) aar) ρ = .ok (.v (.bl (us.all p)) false, ρ) := by
 obtain ⟨s', e⟩ := comp_map (h := λu => .bl (p u)) us .un hf
 simp -dsimp [abH, frz, dow, abf, con, acR, eB, bOf, tru, dr, drs, cls, clV, adp, g1, g2, gI, gIC, gB, gEq, gNe, gIn, aaV, abP, acK, ab5, acu, ach, gLt, gGt, gLe, gGe, gIx, aby, ac2, abD, aaI, ac0, adA, acj, acN, okR, iOf, isS, others, abS, abq, abZ, acE, acP, aaw, aaZ, aaD, aaE, aaF, aaG, aav, aaq, aaO, aa0, aa1, ac7, atI, ixN, aaH, hi, hl, e, ahQ]
theorem akY {p : Tr -> Bool} {us : List Tr} {ρ : En} {i : IF} {fe : EF} {j : Nat} {T : Tr} (hl : us.length <= 100000) (hi : i ρ = .ok (us, ρ)) (hj : ρ[j]? = some (.sh T)) (hf : ∀ u ∈ us, ∃ fr, fe [.sh u, .sh T] = .ok (.v (.bl (p u)) fr, [.sh u, .sh T])) : eCB (g1 acj) (aaf (abo [none, some j] i (gN 0) aeF fe) aar) ρ = .ok (.v (.bl (us.all p)) false, ρ) := by
 obtain ⟨s', e⟩ := comp_map (h := λu => .bl (p u)) us .un hf
 simp -dsimp [abH, frz, dow, abf, con, acR, eB, bOf, tru, dr, drs, cls, clV, adp, g1, g2, gI, gIC, gB, gEq, gNe, gIn, aaV, abP, acK, ab5, acu, ach, gLt, gGt, gLe, gGe, gIx, aby, ac2, abD, aaI, ac0, adA, acj, acN, okR, iOf, isS, others, abS, abq, abZ, acE, acP, aaw, aaZ, aaD, aaE, aaF, aaG, aav, aaq, aaO, aa0, aa1, ac7, atI, ixN, aaH, hi, hl, hj, e, ahQ]
noncomputable def acy (m : Int) : Tr -> Bool
 | .lst ts => decide (1 <= (ts.length : Int)) && decide ((ts.length : Int) <= m) && ts.all agl
 | _ => false
theorem agm (T : Tr) (m : Int) (hm : m <= 1000) : abp [T, .int m] = .ok (.bl (acy m T), false) := by
 unfold abp aex fnP
 cases T with
 | lst ts =>
  by_cases h1 : 1 <= (ts.length : Int)
  ·by_cases h2 : (ts.length : Int) <= m
   ·have e := aiU (F := abu) (p := agl) (us := ts) (ρ := [.sh (.lst ts), .sh (.int m)]) (i := fSq (aah 0)) (fe := aaA abu (aaf (aah 0) aar)) (by omega) rfl (λu _ => ⟨false, by simp -dsimp [abH, frz, dow, abf, con, acR, eB, bOf, tru, dr, drs, cls, clV, adp, g1, g2, gI, gIC, gB, gEq, gNe, gIn, aaV, abP, acK, ab5, acu, ach, gLt, gGt, gLe, gGe, gIx, aby, ac2, abD, aaI, ac0, adA, acj, acN, okR, iOf, isS, others, abS, abq, abZ, acE, acP, aaw, aaZ, aaD, aaE, aaF, aaG, aav, aaq, aaO, aa0, aa1, ac7, atI, ixN, aaH, ahP]⟩)
    generalize eCB (g1 acj) (aaf (abo [none] (fSq (aah 0)) (gN 0) aeF (aaA abu (aaf (aah 0) aar))) aar) = G at e ⊢
    simp -dsimp [abH, frz, dow, abf, con, acR, eB, bOf, tru, dr, drs, cls, clV, adp, g1, g2, gI, gIC, gB, gEq, gNe, gIn, aaV, abP, acK, ab5, acu, ach, gLt, gGt, gLe, gGe, gIx, aby, ac2, abD, aaI, ac0, adA, acj, acN, okR, iOf, isS, others, abS, abq, abZ, acE, acP, aaw, aaZ, aaD, aaE, aaF, aaG, aav, aaq, aaO, aa0, aa1, ac7, atI, ixN, aaH, h1, h2, e, acy]
   ·simp -dsimp [abH, frz, dow, abf, con, acR, eB, bOf, tru, dr, drs, cls, clV, adp, g1, g2, gI, gIC, gB, gEq, gNe, gIn, aaV, abP, acK, ab5, acu, ach, gLt, gGt, gLe, gGe, gIx, aby, ac2, abD, aaI, ac0, adA, acj, acN, okR, iOf, isS, others, abS, abq, abZ, acE, acP, aaw, aaZ, aaD, aaE, aaF, aaG, aav, aaq, aaO, aa0, aa1, ac7, atI, ixN, aaH, h1, h2, acy]
  ·simp -dsimp [abH, frz, dow, abf, con, acR, eB, bOf, tru, dr, drs, cls, clV, adp, g1, g2, gI, gIC, gB, gEq, gNe, gIn, aaV, abP, acK, ab5, acu, ach, gLt, gGt, gLe, gGe, gIx, aby, ac2, abD, aaI, ac0, adA, acj, acN, okR, iOf, isS, others, abS, abq, abZ, acE, acP, aaw, aaZ, aaD, aaE, aaF, aaG, aav, aaq, aaO, aa0, aa1, ac7, atI, ixN, aaH, h1, acy]
 | _ => simp -dsimp [abH, frz, dow, abf, con, acR, eB, bOf, tru, dr, drs, cls, clV, adp, g1, g2, gI, gIC, gB, gEq, gNe, gIn, aaV, abP, acK, ab5, acu, ach, gLt, gGt, gLe, gGe, gIx, aby, ac2, abD, aaI, ac0, adA, acj, acN, okR, iOf, isS, others, abS, abq, abZ, acE, acP, aaw, aaZ, aaD, aaE, aaF, aaG, aav, aaq, aaO, aa0, aa1, ac7, atI, ixN, aaH, acy]
noncomputable def afH : Tr -> Int
 | .lst ts => ts.length
 | _ => -1
noncomputable def afI : Tr -> Bool
 | .lst rs => decide (1 <= (rs.length : Int)) && decide ((rs.length : Int) <= 4) && rs.all (acy 12) && rs.all λr => afH r == afH (rs.headD .non)
 | _ => false
theorem ag7 {m : Int} {T : Tr} (h : acy m T = true) : ∃ ts, T = .lst ts := by
 cases T <;> first | exact ⟨_, rfl⟩ | cases h
theorem afJ (T : Tr) : adg [T] = .ok (.bl (afI T), false) := by
 unfold adg ag2 fnP
 cases T with
 | lst ts =>
  by_cases h1 : 1 <= (ts.length : Int)
  ·by_cases h2 : (ts.length : Int) <= 4
   ·have e := aiU (F := abu) (p := acy 12) (us := ts) (ρ := [.sh (.lst ts)]) (i := fSq (aah 0)) (fe := (aaA abp (aaf (aah 0) (aaf (eC (.int 12)) aar)))) (by omega) rfl (λu _ => ⟨false, by simp -dsimp [abH, frz, dow, abf, con, acR, eB, bOf, tru, dr, drs, cls, clV, adp, g1, g2, gI, gIC, gB, gEq, gNe, gIn, aaV, abP, acK, ab5, acu, ach, gLt, gGt, gLe, gGe, gIx, aby, ac2, abD, aaI, ac0, adA, acj, acN, okR, iOf, isS, others, abS, abq, abZ, acE, acP, aaw, aaZ, aaD, aaE, aaF, aaG, aav, aaq, aaO, aa0, aa1, ac7, atI, ixN, aaH, agm]⟩)
    generalize eCB (g1 acj) (aaf (abo [none] (fSq (aah 0)) (gN 0) aeF (aaA abp (aaf (aah 0) (aaf (eC (.int 12)) aar)))) aar) = G at e ⊢
    cases h3 : ts.all (acy 12) with
    | false => rw [h3] at e; simp -dsimp [abH, frz, dow, abf, con, acR, eB, bOf, tru, dr, drs, cls, clV, adp, g1, g2, gI, gIC, gB, gEq, gNe, gIn, aaV, abP, acK, ab5, acu, ach, gLt, gGt, gLe, gGe, gIx, aby, ac2, abD, aaI, ac0, adA, acj, acN, okR, iOf, isS, others, abS, abq, abZ, acE, acP, aaw, aaZ, aaD, aaE, aaF, aaG, aav, aaq, aaO, aa0, aa1, ac7, atI, ixN, aaH, h1, h2, e, afI, h3]
    | true =>
     have h4 := List.all_eq_true.mp h3
     obtain ⟨r0, rs, rfl⟩ : ∃ r0 rs, ts = r0 :: rs := by cases ts with
      | nil => simp at h1
      | cons a b => exact ⟨a, b, rfl⟩
     obtain ⟨l0, rfl⟩ := ag7 (h4 r0 (by simp))
     have e2 := akY (p := λr => afH r == (l0.length : Int)) (us := .lst l0 :: rs) (ρ := [.sh (.lst (.lst l0 :: rs))]) (j := 0) (T := .lst (.lst l0 :: rs)) (i := fSq (aah 0)) (fe := (eOp gEq (eCB (g1 aby) (aaf (aah 0) aar)) (eCB (g1 aby) (aaf (eOp gIx (aah 1) (eC (.int 0))) aar)))) (by omega) rfl rfl (λu hu => ⟨false, by
      obtain ⟨l, rfl⟩ := ag7 (h4 u hu)
      have : (0 : Int) < (rs.length : Int) + 1 := by omega
      simp -dsimp [abH, frz, dow, abf, con, acR, eB, bOf, tru, dr, drs, cls, clV, adp, g1, g2, gI, gIC, gB, gEq, gNe, gIn, aaV, abP, acK, ab5, acu, ach, gLt, gGt, gLe, gGe, gIx, aby, ac2, abD, aaI, ac0, adA, acj, acN, okR, iOf, isS, others, abS, abq, abZ, acE, acP, aaw, aaZ, aaD, aaE, aaF, aaG, aav, aaq, aaO, aa0, aa1, ac7, atI, ixN, aaH, afH, this]⟩)
     generalize eCB (g1 acj) (aaf (abo [none, some 0] (fSq (aah 0)) (gN 0) aeF (eOp gEq (eCB (g1 aby) (aaf (aah 0) aar)) (eCB (g1 aby) (aaf (eOp gIx (aah 1) (eC (.int 0))) aar)))) aar) = G2 at e2 ⊢
     rw [h3] at e
     have e3 : afI (.lst (.lst l0 :: rs)) = (Tr.lst l0 :: rs).all (λr => afH r == (l0.length : Int)) := by
      show (decide (1 <= ((Tr.lst l0 :: rs).length : Int)) && decide (((Tr.lst l0 :: rs).length : Int) <= 4) && (Tr.lst l0 :: rs).all (acy 12) && (Tr.lst l0 :: rs).all λr => afH r == afH (.lst l0)) = _
      rw [h3, decide_eq_true h1, decide_eq_true h2]
      rfl
     rw [e3]
     generalize (Tr.lst l0 :: rs).all (λr => afH r == (l0.length : Int)) = bb at e2
     have h1' : (1 : Int) <= (rs.length : Int) + 1 := by omega
     have h2' : (rs.length : Int) + 1 <= 4 := by simp only [List.length_cons] at h2; omega
     simp -dsimp [abH, frz, dow, abf, con, acR, eB, bOf, tru, dr, drs, cls, clV, adp, g1, g2, gI, gIC, gB, gEq, gNe, gIn, aaV, abP, acK, ab5, acu, ach, gLt, gGt, gLe, gGe, gIx, aby, ac2, abD, aaI, ac0, adA, acj, acN, okR, iOf, isS, others, abS, abq, abZ, acE, acP, aaw, aaZ, aaD, aaE, aaF, aaG, aav, aaq, aaO, aa0, aa1, ac7, atI, ixN, aaH, h1', h2', e, e2]
   ·simp -dsimp [abH, frz, dow, abf, con, acR, eB, bOf, tru, dr, drs, cls, clV, adp, g1, g2, gI, gIC, gB, gEq, gNe, gIn, aaV, abP, acK, ab5, acu, ach, gLt, gGt, gLe, gGe, gIx, aby, ac2, abD, aaI, ac0, adA, acj, acN, okR, iOf, isS, others, abS, abq, abZ, acE, acP, aaw, aaZ, aaD, aaE, aaF, aaG, aav, aaq, aaO, aa0, aa1, ac7, atI, ixN, aaH, h1, h2, afI]
  ·simp -dsimp [abH, frz, dow, abf, con, acR, eB, bOf, tru, dr, drs, cls, clV, adp, g1, g2, gI, gIC, gB, gEq, gNe, gIn, aaV, abP, acK, ab5, acu, ach, gLt, gGt, gLe, gGe, gIx, aby, ac2, abD, aaI, ac0, adA, acj, acN, okR, iOf, isS, others, abS, abq, abZ, acE, acP, aaw, aaZ, aaD, aaE, aaF, aaG, aav, aaq, aaO, aa0, aa1, ac7, atI, ixN, aaH, h1, afI]
 | _ => simp -dsimp [abH, frz, dow, abf, con, acR, eB, bOf, tru, dr, drs, cls, clV, adp, g1, g2, gI, gIC, gB, gEq, gNe, gIn, aaV, abP, acK, ab5, acu, ach, gLt, gGt, gLe, gGe, gIx, aby, ac2, abD, aaI, ac0, adA, acj, acN, okR, iOf, isS, others, abS, abq, abZ, acE, acP, aaw, aaZ, aaD, aaE, aaF, aaG, aav, aaq, aaO, aa0, aa1, ac7, atI, ixN, aaH, afI]
end BH
end
section
namespace L2
open PySem
@[simp] theorem auL (fa : AF) (ρ : En) : eLR fa ρ = bd (fa ρ) (λp => match p.1 with
 | [.v (.int n) _] => if 0 <= n /\ n <= 1000 then .ok (.v (.lst ((List.range n.toNat).map λi : Nat => Tr.int i)) true, p.2) else .bad
 | _ => .bad) .mk := rfl
@[simp] theorem ao6 (F : FR) (fa : EF) (ρ : En) : aok F fa ρ = bd (fa ρ) (λp => match p.1 with
 | .v (.lst us) true => bd (F [.lst us]) (λz => .ok (.v z.1.1 z.1.2, p.2)) .mk
 | _ => .bad) .mk := rfl
@[simp] theorem aq0 (kt : Tr -> Option (Int × Int)) (src : List (Option Nat)) (fa : AF) (fb : RF) (ρ : En) : aqD kt src fa fb ρ = bd (fa ρ) (λp => match p.1 with
 | [.v (.int n) _] => if 0 <= n /\ n < 64 then bd (abH (aoi kt fb (aqC src p.2) (List.range n.toNat))) (λks => .ok (.v (.lst ((aqB n.toNat λi => ks.getD i (0, 0)).map λi : Nat => Tr.int i)) true, p.2)) .mk else .bad
 | _ => .bad) .mk := rfl
end L2
namespace BH
open PySem L2
noncomputable def fT (x : Int × Int) : Tr := .tup [.int x.1, .int x.2]
theorem lg2 {k : Int} {M : Nat} (h : k.natAbs < 2 ^ M) (hM : M <= 8000) : k.natAbs.log2 < 9000 := by
 by_cases z : k.natAbs = 0
 ·rw [z]; decide
 ·have := (Nat.log2_lt (n := k.natAbs) (k := M) z).mpr h
  omega
theorem anc {k : Int} {M : Nat} (h : k.natAbs < 2 ^ M) (hM : M <= 8000) : fit k = true := by
 have := lg2 h hM
 unfold fit
 rw [decide_eq_true_eq]
 omega
theorem akZ {i j : Int} {M N : Nat} (h1 : i.natAbs < 2 ^ M) (hM : M <= 8000) (h2 : j.natAbs < 2 ^ N) (hN : N <= 8000) : ahk i j = true := by
 unfold ahk
 rw [anc h1 hM, anc h2 hN]
 rfl
theorem ahR {i j : Int} {M : Nat} (h0 : j ≠ 0) (h : j.natAbs < 2 ^ M) (hM : M <= 8000) : am0 i j = true := by
 unfold am0
 rw [Bool.and_eq_true, decide_eq_true_eq, decide_eq_true_eq]
 exact ⟨h0, lg2 h hM⟩
theorem aez {T : Tr} (h : afI T = true) : aa7 [T] = .ok (.non, false) := by
 unfold aa7 adD fnP
 simp -dsimp [abH, frz, dow, abf, con, acR, eB, bOf, tru, dr, drs, cls, clV, adp, g1, g2, gI, gIC, gB, gEq, gNe, gIn, aaV, abP, acK, ab5, acu, ach, gLt, gGt, gLe, gGe, gIx, aby, ac2, abD, aaI, ac0, adA, acj, acN, okR, iOf, isS, others, abS, abq, abZ, acE, acP, aaw, aaZ, aaD, aaE, aaF, aaG, aav, aaq, aaO, aa0, aa1, ac7, atI, ixN, aaH, afJ, h]
theorem acd {xs : List Tr} {i : Nat} {T : Tr} (h : xs[i]? = some T) : gIx (.lst xs) (.int i) = .ok (T, false) := by
 obtain ⟨hi, e⟩ := List.getElem?_eq_some_iff.mp h
 show (match atI xs i with
  | some t => Rs.ok (t, false)
  | none => .bad) = _
 have : atI xs (i : Int) = some T := by
  unfold atI ixN
  simp [hi, e]
 rw [this]
end BH
namespace BH
open PySem L2
noncomputable def Wo (x : Int × Int) : Prop := 0 <= x.1 /\ x.1 <= x.2 /\ 1 <= x.2 /\ x.2 <= 1000000000000 /\ Int.gcd x.1 x.2 = 1
noncomputable instance (x : Int × Int) : Decidable (Wo x) := by unfold Wo; infer_instance
noncomputable def aaJ (l : List (Int × Int)) : Tr := .lst (l.map fT)
noncomputable def bkT (ls : List (List (Int × Int))) : Tr := .lst (ls.map aaJ)
noncomputable def Shp (c : Nat) (ls : List (List (Int × Int))) : Prop := ∀ l ∈ ls, l.length = c /\ ∀ x ∈ l, Wo x
noncomputable def Bk (c : Nat) (ls : List (List (Int × Int))) : Prop := 1 <= ls.length /\ ls.length <= 4 /\ 1 <= c /\ c <= 12 /\ Shp c ls
theorem Wo.agl {x : Int × Int} (h : Wo x) : agl (fT x) = true := by
 obtain ⟨h1, h2, h3, h4, h5⟩ := h
 show (decide (0 <= x.1) && decide (x.1 <= x.2) && decide (1 <= x.2) && (Int.gcd x.1 x.2 == 1)) = true
 simp [h1, h2, h3, h5]
theorem aq1 {l : List (Int × Int)} (h : ∀ x ∈ l, Wo x) (h1 : 1 <= l.length) (h2 : l.length <= 12) : acy 12 (aaJ l) = true := by
 show (decide (1 <= ((l.map fT).length : Int)) && decide (((l.map fT).length : Int) <= 12) && (l.map fT).all agl) = true
 rw [List.length_map, decide_eq_true (by omega), decide_eq_true (by omega)]
 simp only [Bool.true_and, List.all_eq_true]
 intro t ht
 obtain ⟨x, hx, rfl⟩ := List.mem_map.mp ht
 exact (h x hx).agl
theorem Bk.afI {c : Nat} {ls : List (List (Int × Int))} (h : Bk c ls) : afI (bkT ls) = true := by
 obtain ⟨h1, h2, h3, h4, h5⟩ := h
 show (decide (1 <= ((ls.map aaJ).length : Int)) && decide (((ls.map aaJ).length : Int) <= 4) && (ls.map aaJ).all (acy 12) && (ls.map aaJ).all λr => afH r == afH ((ls.map aaJ).headD .non)) = true
 rw [List.length_map, decide_eq_true (by omega), decide_eq_true (by omega)]
 simp only [Bool.true_and, Bool.and_eq_true, List.all_eq_true]
 refine ⟨λt ht => ?_, λt ht => ?_⟩
 ·obtain ⟨l, hl, rfl⟩ := List.mem_map.mp ht
  exact aq1 (h5 l hl).2 (by have := (h5 l hl).1; omega) (by have := (h5 l hl).1; omega)
 ·obtain ⟨l, hl, rfl⟩ := List.mem_map.mp ht
  cases ls with
  | nil => simp at hl
  | cons l0 r =>
   show (afH (aaJ l) == afH (aaJ l0)) = true
   show (((l.map fT).length : Int) == ((l0.map fT).length : Int)) = true
   rw [List.length_map, List.length_map, (h5 l hl).1, (h5 l0 (by simp)).1]
   simp
end BH
end
section
namespace L2
open PySem
@[simp] theorem atu (fa : EF) (ρ : En) : au7 fa ρ = bd (fa ρ) (λp => bd (dr p.2 p.1) (λa => bd (auv a) (λz => .ok (.v z.1 z.2, p.2)) .mk) .mk) .mk := rfl
end L2
namespace BH
open PySem L2
theorem amz {α : Type} (xs : List α) (k : Nat) : L2.cut xs (some (k : Int)) none = xs.drop k := by
 unfold L2.cut HT.sIx
 by_cases h : (k : Int) < 0
 ·omega
 ·simp only [h, if_false, Int.toNat_natCast]
  by_cases z : k <= xs.length
  ·rw [Nat.min_eq_left z]
   exact List.take_of_length_le (by simp)
  ·rw [Nat.min_eq_right (by omega), List.drop_eq_nil_of_le (by omega), List.drop_eq_nil_of_le (by omega)]
   simp
theorem ane {α : Type} (xs : List α) (k : Nat) : L2.cut xs none (some (k : Int)) = xs.take k := by
 unfold L2.cut HT.sIx
 by_cases h : (k : Int) < 0
 ·omega
 ·simp only [h, if_false, Int.toNat_natCast, Nat.sub_zero, List.drop_zero]
  by_cases z : k <= xs.length
  ·rw [Nat.min_eq_left z]
  ·rw [Nat.min_eq_right (by omega), List.take_of_length_le (by omega), List.take_of_length_le (by omega)]
noncomputable def nT (ys : List Nat) : Tr := .lst (ys.map λi : Nat => Tr.int i)
theorem ag8 : ∀ ys : List Nat, deps (ys.map λi : Nat => Tr.int i) = 0
 | [] => rfl
 | y :: ys => by rw [List.map_cons, aaq, aaw, ag8 ys]; rfl
end BH
end
section
namespace BH
open PySem L2
theorem anf {l : List (Int × Int)} {i : Nat} (h : i < l.length) : gIx (aaJ l) (.int i) = .ok (fT (l.getD i (0, 1)), false) := acd (by simp [h])
theorem ak0 {α : Type} {r h : α -> Tr} {f : EF} {τ : En} : ∀ (xs : List α) (s : Sl), (∀ x ∈ xs, ∃ fr, f (.sh (r x) :: τ) = .ok (.v (h x) fr, .sh (r x) :: τ)) -> ∃ s', afb (gN 0) aeF f (xs.map r) (s :: τ) = .ok (xs.map h, s' :: τ)
 | [], s, _ => ⟨s, rfl⟩
 | x :: xs, s, q => by
  obtain ⟨fr, e⟩ := q x (by simp)
  obtain ⟨s', e'⟩ := ak0 xs (.sh (r x)) λv hv => q v (by simp [hv])
  refine ⟨s', ?_⟩
  rw [List.map_cons]
  unfold afb
  simp [e, clV, e']
theorem afK {α : Type} {r : α -> Tr} {c : BF} {p : α -> Bool} {τ : En} : ∀ (xs : List α) (s : Sl), (∀ x ∈ xs, c (.sh (r x) :: τ) = .ok (p x, .sh (r x) :: τ)) -> ∃ s', afb (gN 0) c (aah 0) (xs.map r) (s :: τ) = .ok ((xs.filter p).map r, s' :: τ)
 | [], s, _ => ⟨s, rfl⟩
 | x :: xs, s, q => by
  have e := q x (by simp)
  obtain ⟨s', e'⟩ := afK xs (.sh (r x)) λv hv => q v (by simp [hv])
  refine ⟨s', ?_⟩
  rw [List.map_cons]
  unfold afb
  cases h : p x with
  | false => rw [h] at e; simp [e, e', h]
  | true => rw [h] at e; simp [e, e', h, clV]
theorem ang {α : Type} {p : α -> Bool} : ∀ xs : List α, afp (xs.map λx => .bl (p x)) = some (xs.map p)
 | [] => rfl
 | x :: xs => by simp [afp, ang xs]
theorem atv {α : Type} {r h : α -> Tr} {xs : List α} {ρ τ : En} {rest : List (Option Nat)} {i : IF} {fe : EF} (hl : xs.length <= 100000) (hi : i ρ = .ok (xs.map r, ρ)) (hτ : abS rest ρ = τ) (hs : ∀ s', abZ (none :: rest) (s' :: τ) ρ = true) (hd : ∀ s', abq (none :: rest) (s' :: τ) ρ = ρ)
  (hf : ∀ x ∈ xs, ∃ fr, fe (.sh (r x) :: τ) = .ok (.v (h x) fr, .sh (r x) :: τ)) : abo (none :: rest) i (gN 0) aeF fe ρ = .ok (.v (.lst (xs.map h)) true, ρ) := by
 obtain ⟨s', e⟩ := ak0 xs .un hf
 have hu : abS (none :: rest) ρ = .un :: τ := by rw [<-hτ]; rfl
 have hl' : (xs.map r).length <= 100000 := by rw [List.length_map]; exact hl
 rw [aiS, hi]
 simp only [akV]
 rw [if_pos hl', hu, e]
 simp only [abH, akV]
 rw [if_pos (hs s'), hd s']
theorem aq2 {α : Type} {r : α -> Tr} {p : α -> Bool} {xs : List α} {ρ τ : En} {rest : List (Option Nat)} {i : IF} {c : BF} (hl : xs.length <= 100000) (hi : i ρ = .ok (xs.map r, ρ)) (hτ : abS rest ρ = τ) (hs : ∀ s', abZ (none :: rest) (s' :: τ) ρ = true) (hd : ∀ s', abq (none :: rest) (s' :: τ) ρ = ρ)
  (hf : ∀ x ∈ xs, c (.sh (r x) :: τ) = .ok (p x, .sh (r x) :: τ)) : abo (none :: rest) i (gN 0) c (aah 0) ρ = .ok (.v (.lst ((xs.filter p).map r)) true, ρ) := by
 obtain ⟨s', e⟩ := afK xs .un hf
 have hu : abS (none :: rest) ρ = .un :: τ := by rw [<-hτ]; rfl
 have hl' : (xs.map r).length <= 100000 := by rw [List.length_map]; exact hl
 rw [aiS, hi]
 simp only [akV]
 rw [if_pos hl', hu, e]
 simp only [abH, akV]
 rw [if_pos (hs s'), hd s']
theorem anyC {α : Type} {r : α -> Tr} {p : α -> Bool} {xs : List α} {ρ τ : En} {rest : List (Option Nat)} {i : IF} {fe : EF} (hl : xs.length <= 100000) (hi : i ρ = .ok (xs.map r, ρ)) (hτ : abS rest ρ = τ) (hs : ∀ s', abZ (none :: rest) (s' :: τ) ρ = true) (hd : ∀ s', abq (none :: rest) (s' :: τ) ρ = ρ)
  (hf : ∀ x ∈ xs, ∃ fr, fe (.sh (r x) :: τ) = .ok (.v (.bl (p x)) fr, .sh (r x) :: τ)) : eCB (g1 ag1) (aaf (abo (none :: rest) i (gN 0) aeF fe) aar) ρ = .ok (.v (.bl (xs.any p)) false, ρ) := by
 have e := atv (h := λx => .bl (p x)) hl hi hτ hs hd hf
 have eg : ag1 (.lst (xs.map λx => .bl (p x))) = .ok (.bl (xs.any p), false) := by
  unfold ag1
  simp only [ang]
  rw [List.any_map]
  rfl
 generalize abo _ _ _ _ _ = G at e ⊢
 generalize Tr.lst (xs.map λx => .bl (p x)) = T at e eg
 simp [e, eg, drs, dr, g1]
noncomputable def lt2 (x y : Int × Int) : Bool := decide (x.1 * y.2 < y.1 * x.2)
theorem agn {x y : Int × Int} (hx : Wo x) (hy : Wo y) : abb [fT x, fT y] = .ok (.bl (lt2 x y), false) := by
 obtain ⟨a1, a2, a3, a4, _⟩ := hx
 obtain ⟨b1, b2, b3, b4, _⟩ := hy
 have c1 : ahk x.1 y.2 = true := akZ (M := 40) (N := 40) (by omega) (by omega) (by omega) (by omega)
 have c2 : ahk y.1 x.2 = true := akZ (M := 40) (N := 40) (by omega) (by omega) (by omega) (by omega)
 unfold abb aew fnP fT
 simp -dsimp [abH, frz, dow, abf, con, acR, eB, bOf, tru, dr, drs, cls, clV, adp, g1, g2, gI, gIC, gB, gEq, gNe, gIn, aaV, abP, acK, ab5, acu, ach, gLt, gGt, gLe, gGe, gIx, aby, ac2, abD, aaI, ac0, adA, acj, acN, okR, iOf, isS, others, abS, abq, abZ, acE, acP, aaw, aaZ, aaD, aaE, aaF, aaG, aav, aaq, aaO, aa0, aa1, ac7, atI, ixN, aaH, c1, c2, lt2]
noncomputable def at2 (l : List (Int × Int)) (i : Nat) : Int × Int := l.getD i (0, 1)
noncomputable def bt (ls : List (List (Int × Int))) (i j : Nat) : Bool := !(ls.any λl => lt2 (at2 l i) (at2 l j)) && ls.any λl => lt2 (at2 l j) (at2 l i)
theorem below_at {l : List (Int × Int)} {c i j : Nat} (h : l.length = c /\ ∀ x ∈ l, Wo x) (hi : i < c) (hj : j < c) : abb [fT (at2 l i), fT (at2 l j)] = .ok (.bl (lt2 (at2 l i) (at2 l j)), false) :=
 agn (h.2 _ (by unfold at2; simp [h.1, hi])) (h.2 _ (by unfold at2; simp [h.1, hj]))
noncomputable def blE : EF := aaA abb (aaf (eOp gIx (aah 0) (aah 1)) (aaf (eOp gIx (aah 0) (aah 2)) aar))
theorem anh {l : List (Int × Int)} {c i j : Nat} (h : l.length = c /\ ∀ x ∈ l, Wo x) (hi : i < c) (hj : j < c) : blE [.sh (aaJ l), .sh (.int i), .sh (.int j)] = .ok (.v (.bl (lt2 (at2 l i) (at2 l j))) false, [.sh (aaJ l), .sh (.int i), .sh (.int j)]) := by
 have e1 : gIx (aaJ l) (.int i) = .ok (fT (at2 l i), false) := anf (by rw [h.1]; exact hi)
 have e2 : gIx (aaJ l) (.int j) = .ok (fT (at2 l j), false) := anf (by rw [h.1]; exact hj)
 have e3 := below_at h hi hj
 generalize lt2 _ _ = B at e3 ⊢
 generalize fT (at2 l i) = X at e1 e3
 generalize fT (at2 l j) = Y at e2 e3
 generalize aaJ l = T at e1 e2 ⊢
 unfold blE
 simp [dr, drs, isS, e1, e2, e3]
theorem amA {c : Nat} {ls : List (List (Int × Int))} (h : Shp c ls) (hl : ls.length <= 4) {i j : Nat} (hi : i < c) (hj : j < c) : aef [bkT ls, .int i, .int j] = .ok (.bl (bt ls i j), false) := by
 have e1 := anyC (r := aaJ) (p := λl => lt2 (at2 l i) (at2 l j)) (xs := ls) (ρ := [.sh (bkT ls), .sh (.int i), .sh (.int j)]) (rest := [some 1, some 2]) (i := fSq (aah 0)) (fe := blE) (by omega) rfl rfl (λs' => rfl) (λs' => rfl) (λl hl => ⟨false, anh (h l hl) hi hj⟩)
 have e2 := anyC (r := aaJ) (p := λl => lt2 (at2 l j) (at2 l i)) (xs := ls) (ρ := [.sh (bkT ls), .sh (.int i), .sh (.int j)]) (rest := [some 2, some 1]) (i := fSq (aah 0)) (fe := blE) (by omega) rfl rfl (λs' => rfl) (λs' => rfl) (λl hl => ⟨false, anh (h l hl) hj hi⟩)
 have hd : akK = aaN (sIf (aes (eCB (g1 ag1) (aaf (abo [none, some 1, some 2] (fSq (aah 0)) (gN 0) aeF blE) aar))) (abR (eC (.bl false))) aeu) (abR (eCB (g1 ag1) (aaf (abo [none, some 2, some 1] (fSq (aah 0)) (gN 0) aeF blE) aar))) := rfl
 unfold aef bt
 rw [hd]
 generalize (ls.any λl => lt2 (at2 l i) (at2 l j)) = A at e1 ⊢
 generalize (ls.any λl => lt2 (at2 l j) (at2 l i)) = B at e2 ⊢
 generalize eCB (g1 ag1) (aaf (abo [none, some 1, some 2] _ _ _ _) aar) = G1 at e1 ⊢
 generalize eCB (g1 ag1) (aaf (abo [none, some 2, some 1] _ _ _ _) aar) = G2 at e2 ⊢
 generalize bkT ls = T at *
 unfold fnP
 cases A <;> simp [aaH, e1, e2, dr, tru]
noncomputable def ad3 (ls : List (List (Int × Int))) (ys : List Nat) : List Nat := ys.filter λt => !(ys.any λo => bt ls o t)
noncomputable def ubE : EF := aaA aef (aaf (aah 1) (aaf (aah 0) (aaf (aah 2) aar)))
noncomputable def ubC : BF := agQ (aes (eCB (g1 ag1) (aaf (abo [none, some 2, some 0] (fSq (aah 1)) (gN 0) aeF ubE) aar)))
theorem adx {c : Nat} {ls : List (List (Int × Int))} (h : Shp c ls) (hl : ls.length <= 4) {ys : List Nat} (hy : ∀ i ∈ ys, i < c) (h2 : ys.length <= 1000) : aa5 [bkT ls, nT ys] = .ok (nT (ad3 ls ys), true) := by
 have hc : ∀ t ∈ ys, ubC [.sh (.int (t : Int)), .sh (nT ys), .sh (bkT ls)] = .ok (!(ys.any λo => bt ls o t), [.sh (.int (t : Int)), .sh (nT ys), .sh (bkT ls)]) := λt ht => by
  have e := anyC (r := λi : Nat => Tr.int i) (p := λo => bt ls o t) (xs := ys) (ρ := [.sh (.int (t : Int)), .sh (nT ys), .sh (bkT ls)]) (rest := [some 2, some 0]) (i := fSq (aah 1)) (fe := ubE) (by omega) rfl rfl (λs' => rfl) (λs' => rfl) (λo ho => ⟨false, by
   have := amA h hl (hy o ho) (hy t ht)
   unfold ubE
   dsimp only [abS, List.map]
   generalize bkT ls = T at this ⊢
   simp [acP, drs, dr, isS, this]⟩)
  unfold ubC
  generalize eCB (g1 ag1) (aaf (abo _ _ _ _ _) aar) = G at e ⊢
  simp [e, dr, tru]
 have e := aq2 (r := λi : Nat => Tr.int i) (p := λt => !(ys.any λo => bt ls o t)) (xs := ys) (ρ := [.sh (bkT ls), .sh (nT ys)]) (rest := [some 1, some 0]) (i := fSq (aah 1)) (c := ubC) (by omega) rfl rfl (λs' => rfl) (λs' => rfl) hc
 show fnP 2 (abR (abo [none, some 1, some 0] (fSq (aah 1)) (gN 0) ubC (aah 0))) [bkT ls, nT ys] = _
 unfold fnP
 generalize abo _ _ _ _ _ = G at e ⊢
 have hi : aaH 2 [bkT ls, nT ys] = [.sh (bkT ls), .sh (nT ys)] := rfl
 rw [hi, akW, e]
 rfl
theorem ahS {c : Nat} {ls : List (List (Int × Int))} (h : Bk c ls) : abj [bkT ls] = .ok (nT (ad3 ls (List.range c)), true) := by
 obtain ⟨h1, h2, h3, h4, h5⟩ := id h
 have e1 := aez h.afI
 have e2 := adx h5 h2 (ys := List.range c) (λi hi => by simpa using hi) (by simp; omega)
 obtain ⟨l, hl⟩ : ∃ l, ls[0]? = some l := ⟨_, List.getElem?_eq_getElem (by omega)⟩
 have e3 : gIx (bkT ls) (.int 0) = .ok (aaJ l, false) := acd (i := 0) (by rw [List.getElem?_map, hl]; rfl)
 have e4 : aby (aaJ l) = .ok (.int (c : Int), false) := by
  show Rs.ok (Tr.int ((l.map fT).length : Int), false) = _
  rw [List.length_map, (h5 l (List.mem_of_getElem? hl)).1]
 have q : (c : Int) <= 1000 := by omega
 have e2' : aa5 [bkT ls, .lst ((List.range c).map λi : Nat => Tr.int i)] = .ok (nT (ad3 ls (List.range c)), true) := e2
 generalize nT (ad3 ls (List.range c)) = R at e2' ⊢
 unfold abj aeg fnP
 generalize bkT ls = T at *
 generalize aaJ l = T2 at *
 simp -dsimp [aaH, drs, dr, isS, e1, e3, e4, g1, q, e2']
theorem atw (i j : Int) : aaV (.int i) (.int j) = .ok (.int (i + j), false) := rfl
theorem ajl (n k : Int) (h : 0 < k) : 0 <= n.fmod k /\ n.fmod k < k := ⟨Int.fmod_nonneg_of_pos n h, Int.fmod_lt_of_pos n h⟩
theorem aq3 {i : Int} (h : -1000000000000000000 < i /\ i < 1000000000000000000) : tiny i = true := by
 unfold tiny
 rw [Bool.and_eq_true]
 exact ⟨decide_eq_true (by omega), decide_eq_true (by omega)⟩
theorem amB {i j : Int} (h : -1000000000000000000 < i /\ i < 1000000000000000000) : ahk i j = true := by unfold ahk; rw [aq3 h]; simp
theorem atx {i j : Int} (h : -1000000000000000000 < j /\ j < 1000000000000000000) : ahk i j = true := by unfold ahk; rw [aq3 h]; simp
theorem aiV : ∀ (n m : Nat), L2.upTo (m : Int) n = (List.range' m n).map λi : Nat => Tr.int i
 | 0, _ => rfl
 | n + 1, m => by
  unfold L2.upTo
  rw [show ((m : Int) + 1) = ((m + 1 : Nat) : Int) by omega, aiV n (m + 1), List.range'_succ]
  rfl
theorem ajm (n : Nat) : L2.upTo 0 n = (List.range n).map λi : Nat => Tr.int i := by
 rw [List.range_eq_range']
 exact aiV n 0
end BH
end
section
namespace BH
open PySem L2
end BH
end
section
namespace BH
open PySem L2
noncomputable def ov (t x : Int × Int) : Bool := lt2 t x
end BH
end
section
namespace BH
open PySem L2
end BH
end
section
namespace L2
open PySem
@[simp] theorem aty (d : Str) (fa : EF) (ρ : En) : ahl d fa ρ = bd (fa ρ) (λp => bd (dr p.2 p.1) (λa => match isc a d with
 | some b => .ok (eB b, p.2)
 | none => .bad) .mk) .mk := rfl
@[simp] theorem atz (fa : EF) (ρ : En) : asR fa ρ = bd (fa ρ) (λp => bd (dr p.2 p.1) (λa => match isv a with
 | some b => .ok (eB b, p.2)
 | none => .bad) .mk) .mk := rfl
@[simp] theorem aq4 (c : Str) (f : EF) (ρ : En) : aky c f ρ = bd (f ρ) (λ_ => .ex c) .mk := rfl
theorem aoF {cs : List Str} {j : Nat} {fb fh : SF} {ρ : En} {q : Fl × En} (h : fb ρ = .ok q) : alu cs j fb fh ρ = .ok q := by
 unfold alu
 rw [h]
theorem aoG {cs : List Str} {j : Nat} {fb fh : SF} {ρ : En} {c : Str} (h : fb ρ = .ex c) (hc : c ∈ cs) : alu cs j fb fh ρ = bd (abH (fh (ρ.set j (.sh (.exn c))))) (λq => .ok (q.1, q.2.set j .un)) .mk := by
 unfold alu
 rw [h]
 exact if_pos hc
end L2
namespace BH
open PySem L2
theorem aeA {T : Tr} (h : afI T = false) : aa7 [T] = .ex "NoBook" := by
 have e := afJ T
 rw [h] at e
 unfold aa7 adD fnP
 simp -dsimp [aaH, drs, dr, isS, e, tru]
theorem ahT {T : Tr} (h : afI T = false) : abj [T] = .ex "NoBook" := by
 have e := aeA h
 unfold abj aeg fnP
 simp -dsimp [aaH, drs, dr, isS, e]
theorem ak1 {T : Tr} (h : afI T = false) : aaX [T] = .ex "NoBook" := by
 have e := aeA h
 unfold aaX adS fnP
 simp -dsimp [aaH, drs, dr, isS, e]
theorem aiW (t : Nat) : ∀ ys : List Nat, aoX (.int t) (ys.map λi : Nat => Tr.int i) = ys.any (· == t)
 | [] => rfl
 | y :: ys => by
  have := aiW t ys
  unfold aoX at *
  rw [List.map_cons, List.any_cons, this, List.any_cons, aaO]
  congr 1
  rw [Bool.eq_iff_iff]
  simp
  omega
theorem amC (t : Nat) (ys : List Nat) : gIn not (.int t) (nT ys) = .ok (.bl (!(ys.any (· == t))), false) := by
 show (if deps (ys.map λi : Nat => Tr.int i) <= 40 /\ dep (.int t) <= 40 then Rs.ok (Tr.bl (!(aoX (.int t) (ys.map λi : Nat => Tr.int i))), false) else .bad) = _
 rw [ag8, aaw, if_pos (by omega), aiW]
noncomputable def rst (ys zs : List Nat) : List Nat := ys.filter λt => !(zs.any (· == t))
noncomputable def lyB : SF := (aaN (abA (aaA aa5 (aaf (aah 0) (aaf (aah 2) aar))) (gN 3)) (aaN (ac1 (eMt 1 ahA (aaf (aah 3) aar))) (abA (abo [none, some 3] (fSq (aah 2)) (gN 0) (abn (eOp (gIn not) (aah 0) (aah 1))) (aah 0)) (gN 2))))
theorem aq5 {c : Nat} {ls : List (List (Int × Int))} (h : Shp c ls) (hl : ls.length <= 4) {ys : List Nat} (hy : ∀ i ∈ ys, i < c) (h2 : ys.length <= 1000) {us : List Tr} (hu : us.length <= 1000) (s3 : Sl) :
  lyB [.sh (bkT ls), .ow us, .sh (nT ys), s3] = .ok (.nx, [.sh (bkT ls), .ow (us ++ [nT (ad3 ls ys)]), .sh (nT (rst ys (ad3 ls ys))), .sh (nT (ad3 ls ys))]) := by
 have e1 := adx h hl hy h2
 have e2 := aq2 (r := λi : Nat => Tr.int i) (p := λt => !((ad3 ls ys).any (· == t))) (xs := ys) (ρ := [.sh (bkT ls), .ow (us ++ [nT (ad3 ls ys)]), .sh (nT ys), .sh (nT (ad3 ls ys))]) (rest := [some 3]) (i := fSq (aah 2)) (c := (abn (eOp (gIn not) (aah 0) (aah 1)))) (by omega) rfl rfl (λs' => rfl) (λs' => rfl) (λt _ => by
  have := amC t (ad3 ls ys)
  dsimp only [abS, List.map]
  generalize nT (ad3 ls ys) = U at this ⊢
  simp -dsimp [acP, dr, this, bOf])
 have e3 : Tr.lst ((ys.filter λt => !((ad3 ls ys).any (· == t))).map λi : Nat => Tr.int i) = nT (rst ys (ad3 ls ys)) := rfl
 rw [e3] at e2
 have em : ahA us [nT (ad3 ls ys)] = .ok (us ++ [nT (ad3 ls ys)], .non) := by
  show (if us.length <= 100000 then Rs.ok (us ++ [nT (ad3 ls ys)], Tr.non) else .bad) = _
  rw [if_pos (by omega)]
 unfold lyB
 generalize abo _ _ _ _ _ = G at e2 ⊢
 generalize nT (ad3 ls ys) = U at *
 generalize nT (rst ys (ad3 ls ys)) = R at *
 generalize nT ys = Y at *
 generalize bkT ls = T at *
 simp -dsimp [drs, dr, isS, e1, con, cls, em, abf, e2]
theorem ani (ls : List (List (Int × Int))) (i : Nat) : bt ls i i = false := by
 unfold bt lt2
 simp
theorem amD {c : Nat} {ls : List (List (Int × Int))} (h : Shp c ls) {i j k : Nat} (hi : i < c) (hj : j < c) (hk : k < c) (a : bt ls i j = true) (b : bt ls j k = true) : bt ls i k = true := by
 unfold bt at *
 rw [Bool.and_eq_true, Bool.not_eq_true', List.any_eq_false, List.any_eq_true] at *
 obtain ⟨a1, l, al, a2⟩ := a
 obtain ⟨b1, _⟩ := b
 have pos : ∀ l ∈ ls, ∀ i, i < c -> 1 <= (at2 l i).2 := λl m i hi => ((h l m).2 _ (by unfold at2; simp [(h l m).1, hi])).2.2.1
 have key : ∀ l ∈ ls, ∀ x y z : Nat, x < c -> y < c -> z < c -> (at2 l y).1 * (at2 l x).2 <= (at2 l x).1 * (at2 l y).2 -> (at2 l z).1 * (at2 l y).2 <= (at2 l y).1 * (at2 l z).2 -> (at2 l z).1 * (at2 l x).2 <= (at2 l x).1 * (at2 l z).2 := λl m x y z hx hy hz p q => by
  have px := pos l m x hx
  have py := pos l m y hy
  have pz := pos l m z hz
  refine Int.le_of_mul_le_mul_right (show (at2 l z).1 * (at2 l x).2 * (at2 l y).2 <= (at2 l x).1 * (at2 l z).2 * (at2 l y).2 from ?_) (by omega)
  have x1 := Int.mul_le_mul_of_nonneg_right q (show 0 <= (at2 l x).2 by omega)
  have x2 := Int.mul_le_mul_of_nonneg_right p (show 0 <= (at2 l z).2 by omega)
  calc (at2 l z).1 * (at2 l x).2 * (at2 l y).2 = (at2 l z).1 * (at2 l y).2 * (at2 l x).2 := by ac_rfl
   _ <= (at2 l y).1 * (at2 l z).2 * (at2 l x).2 := x1
   _ = (at2 l y).1 * (at2 l x).2 * (at2 l z).2 := by ac_rfl
   _ <= (at2 l x).1 * (at2 l y).2 * (at2 l z).2 := x2
   _ = (at2 l x).1 * (at2 l z).2 * (at2 l y).2 := by ac_rfl
 have A : ∀ l ∈ ls, (at2 l j).1 * (at2 l i).2 <= (at2 l i).1 * (at2 l j).2 := λl m => by
  have := a1 l m
  unfold lt2 at this
  simpa using this
 have B : ∀ l ∈ ls, (at2 l k).1 * (at2 l j).2 <= (at2 l j).1 * (at2 l k).2 := λl m => by
  have := b1 l m
  unfold lt2 at this
  simpa using this
 refine ⟨λl m => ?_, l, al, ?_⟩
 ·have := key l m i j k hi hj hk (A l m) (B l m)
  unfold lt2
  simpa using this
 ·unfold lt2 at a2 ⊢
  rw [decide_eq_true_eq] at a2 ⊢
  have px := pos l al i hi
  have py := pos l al j hj
  have pz := pos l al k hk
  refine Int.lt_of_mul_lt_mul_right (show (at2 l k).1 * (at2 l i).2 * (at2 l j).2 < (at2 l i).1 * (at2 l k).2 * (at2 l j).2 from ?_) (by omega)
  have x1 := Int.mul_le_mul_of_nonneg_right (B l al) (show 0 <= (at2 l i).2 by omega)
  have x2 := Int.mul_lt_mul_of_pos_right a2 (show 0 < (at2 l k).2 by omega)
  calc (at2 l k).1 * (at2 l i).2 * (at2 l j).2 = (at2 l k).1 * (at2 l j).2 * (at2 l i).2 := by ac_rfl
   _ <= (at2 l j).1 * (at2 l k).2 * (at2 l i).2 := x1
   _ = (at2 l j).1 * (at2 l i).2 * (at2 l k).2 := by ac_rfl
   _ < (at2 l i).1 * (at2 l j).2 * (at2 l k).2 := x2
   _ = (at2 l i).1 * (at2 l k).2 * (at2 l j).2 := by ac_rfl
theorem anj {c : Nat} {ls : List (List (Int × Int))} (h : Shp c ls) : ∀ {ys : List Nat}, (∀ i ∈ ys, i < c) -> ys ≠ [] -> ∃ t ∈ ys, ∀ o ∈ ys, bt ls o t = false
 | [], _, n => absurd rfl n
 | [a], _, _ => ⟨a, by simp, λo m => by rw [List.mem_singleton.mp m]; exact ani ls a⟩
 | a :: b :: l, hy, _ => by
  obtain ⟨t, mt, ht⟩ := anj h (ys := b :: l) (λi m => hy i (List.mem_cons_of_mem _ m)) (by simp)
  cases e : bt ls a t with
  | false =>
   refine ⟨t, List.mem_cons_of_mem _ mt, λo m => ?_⟩
   rcases List.mem_cons.mp m with rfl | m
   ·exact e
   ·exact ht o m
  | true =>
   refine ⟨a, List.mem_cons_self .., λo m => ?_⟩
   rcases List.mem_cons.mp m with rfl | m
   ·exact ani ls o
   ·cases z : bt ls o a with
    | false => rfl
    | true =>
     have := amD h (hy o (List.mem_cons_of_mem _ m)) (hy a (by simp)) (hy t (List.mem_cons_of_mem _ mt)) z e
     rw [ht o m] at this
     cases this
theorem amE {ls : List (List (Int × Int))} {ys : List Nat} {t : Nat} (h : t ∈ ad3 ls ys) : t ∈ ys := (List.mem_filter.mp h).1
theorem aoH {c : Nat} {ls : List (List (Int × Int))} (h : Shp c ls) {ys : List Nat} (hy : ∀ i ∈ ys, i < c) (n : ys ≠ []) : ad3 ls ys ≠ [] := by
 obtain ⟨t, m, ht⟩ := anj h hy n
 intro z
 have : t ∈ ad3 ls ys := List.mem_filter.mpr ⟨m, by
  rw [Bool.not_eq_true', List.any_eq_false]
  intro o mo
  rw [ht o mo]
  simp⟩
 rw [z] at this
 cases this
theorem aq6 {c : Nat} {ls : List (List (Int × Int))} (h : Shp c ls) {ys : List Nat} (hy : ∀ i ∈ ys, i < c) (n : ys ≠ []) : (rst ys (ad3 ls ys)).length < ys.length := by
 obtain ⟨t, m⟩ := List.exists_mem_of_ne_nil _ (aoH h hy n)
 unfold rst
 refine List.length_filter_lt_length_iff_exists.mpr ⟨t, amE m, ?_⟩
 have : (ad3 ls ys).any (· == t) = true := List.any_eq_true.mpr ⟨t, m, by simp⟩
 rw [this]
 simp
noncomputable def lays (ls : List (List (Int × Int))) : Nat -> List Nat -> List (List Nat)
 | 0, _ => []
 | n + 1, ys => if ys = [] then [] else ad3 ls ys :: lays ls n (rst ys (ad3 ls ys))
theorem ak2 {c : Nat} {ls : List (List (Int × Int))} (h : Shp c ls) (hl : ls.length <= 4) : ∀ (n : Nat) (ys : List Nat) (us : List Tr) (s3 : Sl), (∀ i ∈ ys, i < c) -> ys.length < n -> us.length + n <= 900 -> n <= 900 ->
  ∃ t3, ac8 (aes (aah 2)) lyB n [.sh (bkT ls), .ow us, .sh (nT ys), s3] = .ok (.nx, [.sh (bkT ls), .ow (us ++ (lays ls n ys).map nT), .sh (nT []), t3])
 | 0, ys, us, s3, hy, hn, hu, _ => by omega
 | n + 1, ys, us, s3, hy, hn, hu, hm => by
  have ec : aes (aah 2) [.sh (bkT ls), .ow us, .sh (nT ys), s3] = .ok (!ys.isEmpty, [.sh (bkT ls), .ow us, .sh (nT ys), s3]) := by
   show Rs.ok (!(ys.map λi : Nat => Tr.int i).isEmpty, _) = _
   rw [List.isEmpty_map]
  unfold ac8 lays
  rw [ec]
  by_cases z : ys = []
  ·subst z
   exact ⟨s3, by simp⟩
  ·have e := aq5 h hl hy (by omega) (us := us) (by omega) s3
   have lt := aq6 h hy z
   obtain ⟨t3, e'⟩ := ak2 h hl n (rst ys (ad3 ls ys)) (us ++ [nT (ad3 ls ys)]) (.sh (nT (ad3 ls ys))) (λi m => hy i (List.mem_filter.mp m).1) (by omega) (by rw [List.length_append, List.length_singleton]; omega) (by omega)
   refine ⟨t3, ?_⟩
   have ze : ys.isEmpty = false := by cases ys with
    | nil => exact absurd rfl z
    | cons a b => rfl
   rw [ze, if_neg z]
   simp only [Rs.aa2, Bool.not_false, if_true]
   rw [e]
   simp only [Rs.aa2]
   rw [e', List.map_cons, List.append_assoc]
   rfl
theorem ak3 {c : Nat} {ls : List (List (Int × Int))} (h : Bk c ls) : aaX [bkT ls] = .ok (.lst ((lays ls (c + 1) (List.range c)).map nT), true) := by
 obtain ⟨h1, h2, h3, h4, h5⟩ := id h
 have e1 := aez h.afI
 obtain ⟨t3, e2⟩ := ak2 h5 h2 (c + 1) (List.range c) [] .un (λi hi => by simpa using hi) (by simp) (by simp; omega) (by omega)
 obtain ⟨l, hl⟩ : ∃ l, ls[0]? = some l := ⟨_, List.getElem?_eq_getElem (by omega)⟩
 have e3 : gIx (bkT ls) (.int 0) = .ok (aaJ l, false) := acd (i := 0) (by rw [List.getElem?_map, hl]; rfl)
 have e4 : aby (aaJ l) = .ok (.int (c : Int), false) := by
  show Rs.ok (Tr.int ((l.map fT).length : Int), false) = _
  rw [List.length_map, (h5 l (List.mem_of_getElem? hl)).1]
 have q : (c : Int) <= 1000 := by omega
 have ew : aev (acB (fuL 2) (aes (aah 2)) lyB) [.sh (bkT ls), .ow [], .sh (nT (List.range c)), .un] = .ok (.nx, [.sh (bkT ls), .ow ((lays ls (c + 1) (List.range c)).map nT), .sh (nT []), t3]) := by
  unfold aev acB
  rw [show fuL 2 [.sh (bkT ls), .ow [], .sh (nT (List.range c)), .un] = ((List.range c).map λi : Nat => Tr.int i).length + 1 from rfl, List.length_map, List.length_range, e2]
  rfl
 have en : Tr.lst ((List.range c).map λi : Nat => Tr.int i) = nT (List.range c) := rfl
 show fnP 4 (aaN (ac1 (aaA aa7 (aaf (aah 0) aar))) (aaN (ajO 1 (acY aar)) (aaN (abA (eLR (aaf (eCB (g1 aby) (aaf (eOp gIx (aah 0) (eC (.int 0))) aar)) aar)) (gN 2)) (aaN (aev (acB (fuL 2) (aes (aah 2)) lyB)) (abR (aah 1)))))) [bkT ls] = _
 generalize aev _ = G at ew ⊢
 generalize (lays ls (c + 1) (List.range c)).map nT = R at *
 generalize nT [] = Z at *
 generalize bkT ls = T at *
 generalize aaJ l = T2 at *
 unfold fnP
 simp -dsimp [aaH, drs, dr, isS, cls, e1, e3, e4, g1, q, en]
 generalize nT (List.range c) = Y at *
 simp -dsimp [ew]
end BH
end
section
namespace K51
open PySem L2 BH
theorem ace (a b k : Int) (h : 0 < k) (hk : k.natAbs < 2 ^ 60) : ∃ x a' b', aa6 [.lst [.int a, .int b], .int k] = .ok ((.int x, false), [.int a', .int b']) /\ 0 <= x /\ x < k := by
 have h0 : k ≠ 0 := by omega
 have h1 : ∀ n, am0 n k = true := λn => ahR (M := 60) h0 hk (by omega)
 by_cases z : a = 0
 ·subst z
  refine ⟨b.fmod k, 0, b.fdiv k, ?_, ajl b k h⟩
  unfold aa6 akP fnR
  simp -dsimp [abH, frz, dow, abf, con, acR, eB, bOf, tru, dr, drs, cls, clV, adp, g1, g2, gI, gIC, gB, gEq, gNe, gIn, aaV, abP, acK, ab5, acu, ach, gLt, gGt, gLe, gGe, gIx, aby, ac2, abD, aaI, ac0, adA, acj, acN, okR, iOf, isS, others, abS, abq, abZ, acE, acP, aaw, aaZ, aaD, aaE, aaF, aaG, aav, aaq, aaO, aa0, aa1, ac7, atI, ixN, aaH, ao3, h0, h1, adC, aiJ]
 ·refine ⟨a.fmod k, a.fdiv k, b, ?_, ajl a k h⟩
  have z1 : (a == 0) = false := by simp [z]
  unfold aa6 akP fnR
  simp -dsimp [abH, frz, dow, abf, con, acR, eB, bOf, tru, dr, drs, cls, clV, adp, g1, g2, gI, gIC, gB, gEq, gNe, gIn, aaV, abP, acK, ab5, acu, ach, gLt, gGt, gLe, gGe, gIx, aby, ac2, abD, aaI, ac0, adA, acj, acN, okR, iOf, isS, others, abS, abq, abZ, acE, acP, aaw, aaZ, aaD, aaE, aaF, aaG, aav, aaq, aaO, aa0, aa1, ac7, atI, ixN, aaH, ao3, z1, h0, h1, adC, aiJ]
noncomputable def frC : BF := abn (eOp gGt (aah 3) (eC (.int 0)))
noncomputable def frW : SF := ao4 2 3 (aaf (aah 3) (aaf (eOp ab5 (aah 2) (aah 3)) aar))
theorem aq7 (s0 s1 s2 : Sl) (b : Int) : frC [s0, s1, s2, .sh (.int b)] = .ok (decide (0 < b), [s0, s1, s2, .sh (.int b)]) := by
 unfold frC
 simp -dsimp [abH, frz, dow, abf, con, acR, eB, bOf, tru, dr, drs, cls, clV, adp, g1, g2, gI, gIC, gB, gEq, gNe, gIn, aaV, abP, acK, ab5, acu, ach, gLt, gGt, gLe, gGe, gIx, aby, ac2, abD, aaI, ac0, adA, acj, acN, okR, iOf, isS, others, abS, abq, abZ, acE, acP, aaw, aaZ, aaD, aaE, aaF, aaG, aav, aaq, aaO, aa0, aa1, ac7, atI, ixN, aaH]
theorem aq8 (s0 s1 : Sl) (a b : Int) (h : b ≠ 0) : frW [s0, s1, .sh (.int a), .sh (.int b)] = .ok (.nx, [s0, s1, .sh (.int b), .sh (.int (a.fmod b))]) := by
 unfold frW
 simp -dsimp [abH, frz, dow, abf, con, acR, eB, bOf, tru, dr, drs, cls, clV, adp, g1, g2, gI, gIC, gB, gEq, gNe, gIn, aaV, abP, acK, ab5, acu, ach, gLt, gGt, gLe, gGe, gIx, aby, ac2, abD, aaI, ac0, adA, acj, acN, okR, iOf, isS, others, abS, abq, abZ, acE, acP, aaw, aaZ, aaD, aaE, aaF, aaG, aav, aaq, aaO, aa0, aa1, ac7, atI, ixN, aaH, h]
theorem ak4 (s0 s1 : Sl) : ∀ (n : Nat) (a b : Int), 0 <= a -> 0 <= b -> b.natAbs < n -> ac8 frC frW n [s0, s1, .sh (.int a), .sh (.int b)] = .ok (.nx, [s0, s1, .sh (.int ((Int.gcd a b : Nat) : Int)), .sh (.int 0)])
 | 0, a, b, _, _, h => by omega
 | n + 1, a, b, ha, hb, h => by
  unfold ac8
  rw [aq7]
  by_cases z : b = 0
  ·subst z
   have : ((Int.gcd a 0 : Nat) : Int) = a := by rw [Int.gcd_zero_right]; omega
   rw [this]
   rfl
  ·have r := ajl a b (by omega)
   have e := ak4 s0 s1 n b (a.fmod b) hb r.1 (by omega)
   have q : 0 < b := by omega
   simp only [Rs.aa2, q, decide_true, if_true]
   rw [aq8 s0 s1 a b z]
   simp only [Rs.aa2]
   rw [e, aiC]
theorem ahU (x b : Int) (hx : 0 <= x) (hb : 1 <= b) (h1 : x <= b) (h2 : b <= 1000000000000) : ∃ y, adT [.int x, .int b] = .ok (fT y, false) /\ Wo y := by
 obtain ⟨g1, g2, g3, g4, g5, g6, g7⟩ := akn (a := x) (b := b) (by omega)
 have e1 : x.fdiv (Int.gcd x b : Nat) = x / (Int.gcd x b : Nat) := Int.fdiv_eq_ediv_of_nonneg _ (by omega)
 have e2 : b.fdiv (Int.gcd x b : Nat) = b / (Int.gcd x b : Nat) := Int.fdiv_eq_ediv_of_nonneg _ (by omega)
 refine ⟨(x.fdiv (Int.gcd x b : Nat), b.fdiv (Int.gcd x b : Nat)), ?_, ?_⟩
 ·have hw := ak4 (.sh (.int x)) (.sh (.int b)) (b.natAbs + 1) x b hx (by omega) (by omega)
  show fnP 4 (aaN (abA (aah 0) (gN 2)) (aaN (abA (aah 1) (gN 3)) (aaN (aev (acB (fuI 3) frC frW)) (abR (am1 (aaf (eOp acK (aah 0) (aah 2)) (aaf (eOp acK (aah 1) (aah 2)) aar))))))) [.int x, .int b] = _
  generalize hg : ((Int.gcd x b : Nat) : Int) = g at g1 g2 hw
  have h3 : aev (acB (fuI 3) frC frW) [.sh (.int x), .sh (.int b), .sh (.int x), .sh (.int b)] = .ok (.nx, [.sh (.int x), .sh (.int b), .sh (.int g), .sh (.int 0)]) := by
   unfold aev acB
   rw [show fuI 3 [.sh (.int x), .sh (.int b), .sh (.int x), .sh (.int b)] = b.natAbs + 1 from rfl, hw]
   rfl
  generalize aev _ = G at h3 ⊢
  have c1 : am0 x g = true := ahR (M := 60) (by omega) (by omega) (by omega)
  have c2 : am0 b g = true := ahR (M := 60) (by omega) (by omega) (by omega)
  unfold fnP fT
  simp -dsimp [abH, frz, dow, abf, con, acR, eB, bOf, tru, dr, drs, cls, clV, adp, g1, g2, gI, gIC, gB, gEq, gNe, gIn, aaV, abP, acK, ab5, acu, ach, gLt, gGt, gLe, gGe, gIx, aby, ac2, abD, aaI, ac0, adA, acj, acN, okR, iOf, isS, others, abS, abq, abZ, acE, acP, aaw, aaZ, aaD, aaE, aaF, aaG, aav, aaq, aaO, aa0, aa1, ac7, atI, ixN, aaH, h3, c1, c2]
 ·rw [e1, e2]
  refine ⟨g5 hx, Int.ediv_le_ediv g1 h1, g3, ?_, g4⟩
  have := Int.ediv_le_self (a := b) ((Int.gcd x b : Nat) : Int) (by omega)
  show b / ((Int.gcd x b : Nat) : Int) <= 1000000000000
  omega
noncomputable def w5 : SF := (aaN (abA (eOp aaV (eC (.int 1)) (aaY 0 aa6 (aaf (aah 0) (aaf (eOp ach (eOp acu (eC (.int 10)) (eC (.int 12))) (eC (.int 1))) aar)))) (gN 3)) (abR (aaA adT (aaf (aaY 0 aa6 (aaf (aah 0) (aaf (eOp aaV (aah 3) (eC (.int 1))) aar))) (aaf (aah 3) aar)))))
noncomputable def w7 : SF := (aaN (sIf (abn (eOp gEq (aah 2) (eC (.int 6)))) (abR (am1 (aaf (aah 4) (aaf (aah 3) aar)))) aeu) (abR (aaA adT (aaf (eCB (g2 ac0) (aaf (eOp aaV (aah 4) (eC (.int 1))) (aaf (aah 3) aar))) (aaf (aah 3) aar)))))
noncomputable def w6 : SF := (aaN (abA (eOp gIx (eOp aaV (aah 1) (eCL [.tup [.int 1, .int 2]])) (aaY 0 aa6 (aaf (aah 0) (aaf (eOp aaV (eCB (g1 aby) (aaf (aah 1) aar)) (eC (.int 1))) aar)))) (gT 2 (adO (gN 4) (adO (gN 3) ajc)))) w7)
noncomputable def w2 : SF := (abR (aaA adT (aaf (aaY 0 aa6 (aaf (aah 0) (aaf (eC (.int 5)) aar))) (aaf (eC (.int 4)) aar))))
theorem ak5 : akQ = (aaN (abA (aaY 0 aa6 (aaf (aah 0) (aaf (eC (.int 8)) aar))) (gN 2)) (aaN (sIf (abn (eOp gLt (aah 2) (eC (.int 2)))) (abR (am1 (aaf (aah 2) (aaf (eC (.int 1)) aar)))) aeu) (aaN (sIf (abn (eOp gLt (aah 2) (eC (.int 5)))) w2 aeu) (aaN (sIf (abn (eOp gEq (aah 2) (eC (.int 5)))) w5 aeu) w6)))) := rfl
theorem atA (a b : Int) (s1 s2 s3 s4 : Sl) : ∃ y a' b' ρ, w2 [.rf [.int a, .int b], s1, s2, s3, s4] = .ok (.rt (fT y) false, .rf [.int a', .int b'] :: ρ) /\ Wo y := by
 obtain ⟨x, a', b', e, x0, x1⟩ := ace a b 5 (by omega) (by decide)
 obtain ⟨y, e2, hy⟩ := ahU x 4 x0 (by omega) (by omega) (by omega)
 refine ⟨y, a', b', [s1, s2, s3, s4], ?_, hy⟩
 unfold w2
 generalize fT y = T at e2 ⊢
 simp -dsimp [con, drs, dr, isS, others, abf, e, e2]
theorem atB (a b : Int) (s1 s2 s3 s4 : Sl) : ∃ y a' b' ρ, w5 [.rf [.int a, .int b], s1, s2, s3, s4] = .ok (.rt (fT y) false, .rf [.int a', .int b'] :: ρ) /\ Wo y := by
 obtain ⟨x, a1, b1, e, x0, x1⟩ := ace a b 999999999999 (by omega) (by decide)
 obtain ⟨z, a', b', e1, z0, z1⟩ := ace a1 b1 (1 + x + 1) (by omega) (by omega)
 obtain ⟨y, e2, hy⟩ := ahU z (1 + x) z0 (by omega) (by omega) (by omega)
 refine ⟨y, a', b', [s1, s2, .sh (.int (1 + x)), s4], ?_, hy⟩
 unfold w5
 generalize fT y = T at e2 ⊢
 simp -dsimp [con, drs, dr, isS, others, abf, acu, gIC, apV, tiny, ach, gI, aaV, e, e1, e2]
theorem atD (s0 s1 : Sl) (k : Int) {x : Int × Int} (hx : Wo x) : ∃ y ρ, w7 [s0, s1, .sh (.int k), .sh (.int x.2), .sh (.int x.1)] = .ok (.rt (fT y) false, s0 :: ρ) /\ Wo y := by
 by_cases h6 : k = 6
 ·subst h6
  refine ⟨x, [s1, .sh (.int 6), .sh (.int x.2), .sh (.int x.1)], ?_, hx⟩
  unfold w7 fT
  simp -dsimp [abH, frz, dow, abf, con, acR, eB, bOf, tru, dr, drs, cls, clV, adp, g1, g2, gI, gIC, gB, gEq, gNe, gIn, aaV, abP, acK, ab5, acu, ach, gLt, gGt, gLe, gGe, gIx, aby, ac2, abD, aaI, ac0, adA, acj, acN, okR, iOf, isS, others, abS, abq, abZ, acE, acP, aaw, aaZ, aaD, aaE, aaF, aaG, aav, aaq, aaO, aa0, aa1, ac7, atI, ixN, aaH]
 ·obtain ⟨h1, h2, h3, h4, h5⟩ := id hx
  obtain ⟨y, e2, hy⟩ := ahU (if x.2 < x.1 + 1 then x.2 else x.1 + 1) x.2 (by split <;> omega) h3 (by split <;> omega) h4
  refine ⟨y, [s1, .sh (.int k), .sh (.int x.2), .sh (.int x.1)], ?_, hy⟩
  have q : (k == 6) = false := by simp [h6]
  generalize hz : (if x.2 < x.1 + 1 then x.2 else x.1 + 1) = z at e2
  unfold w7
  generalize fT y = T at e2 ⊢
  simp -dsimp only [and_self, aoy, aqT, amv, aqV, aoA, atc, akW, aoz, akX, amw, aoB, aqW, akV, List.getElem?_cons_succ, List.getElem?_cons_zero, dr, drs, gEq, aaw, aaO, q, bOf, aaV, gI, g2, ac0, hz, e2, isS, List.any_cons, List.any_nil, Rs.aa2, Nat.zero_le, if_true, Bool.false_eq_true, if_false, Bool.or_false, false_and]
theorem atF (a b k : Int) (s3 s4 : Sl) {bs : List (Int × Int)} (hw : ∀ x ∈ bs, Wo x) (hl : bs.length <= 100) : ∃ y a' b' ρ, w6 [.rf [.int a, .int b], .sh (aaJ bs), .sh (.int k), s3, s4] = .ok (.rt (fT y) false, .rf [.int a', .int b'] :: ρ) /\ Wo y := by
 obtain ⟨x, a', b', e, x0, x1⟩ := ace a b ((bs.length : Int) + 1) (by omega) (by omega)
 obtain ⟨i, rfl⟩ : ∃ i : Nat, (i : Int) = x := ⟨x.toNat, by omega⟩
 have hi : i < (bs ++ [(1, 2)]).length := by simp; omega
 have hm : (bs ++ [(1, 2)])[i] ∈ bs ++ [(1, 2)] := List.getElem_mem hi
 have ei : gIx (aaJ (bs ++ [(1, 2)])) (.int i) = .ok (fT (bs ++ [(1, 2)])[i], false) := acd (by rw [List.getElem?_map, List.getElem?_eq_getElem hi]; rfl)
 have ea : aaV (aaJ bs) (.lst [.tup [.int 1, .int 2]]) = .ok (aaJ (bs ++ [(1, 2)]), true) := by
  show (if (bs.map fT).length + [Tr.tup [.int 1, .int 2]].length <= 100000 then Rs.ok (Tr.lst (bs.map fT ++ [Tr.tup [.int 1, .int 2]]), true) else .bad) = _
  rw [if_pos (by simp; omega)]
  unfold aaJ
  rw [List.map_append]
  rfl
 have el : aby (aaJ bs) = .ok (.int (bs.length : Int), false) := by
  show Rs.ok (Tr.int ((bs.map fT).length : Int), false) = _
  rw [List.length_map]
 have hx : Wo (bs ++ [(1, 2)])[i] := by
  rcases List.mem_append.mp hm with z | z
  ·exact hw _ z
  ·rw [List.mem_singleton.mp z]
   decide
 generalize (bs ++ [(1, 2)])[i] = x at ei hx
 obtain ⟨y, ρ, e7, hy⟩ := atD (.rf [.int a', .int b']) (.sh (aaJ bs)) k hx
 refine ⟨y, a', b', ρ, ?_, hy⟩
 unfold w6
 generalize w7 = G at e7 ⊢
 generalize aaJ (bs ++ [(1, 2)]) = T2 at ea ei
 generalize aaJ bs = T at ea el e7 ⊢
 generalize (bs.length : Int) = N at e el
 generalize fT y = Y at e7 ⊢
 unfold fT at ei
 simp -dsimp [con, drs, dr, isS, others, abf, ea, el, g1, atw, e, ei, e7]
theorem amF (a b : Int) {bs : List (Int × Int)} (hw : ∀ x ∈ bs, Wo x) (hl : bs.length <= 100) : ∃ y a' b', adG [.lst [.int a, .int b], aaJ bs] = .ok ((fT y, false), [.int a', .int b']) /\ Wo y := by
 obtain ⟨k, a1, b1, e, k0, k1⟩ := ace a b 8 (by omega) (by decide)
 unfold adG
 rw [ak5]
 have fin : ∀ {y : Int × Int} {a' b' : Int} {ρ : En} {S : SF}, S [.rf [.int a1, .int b1], .sh (aaJ bs), .sh (.int k), .un, .un] = .ok (.rt (fT y) false, .rf [.int a', .int b'] :: ρ) ->
   fnR 5 0 (aaN (abA (aaY 0 aa6 (aaf (aah 0) (aaf (eC (.int 8)) aar))) (gN 2)) S) [.lst [.int a, .int b], aaJ bs] = .ok ((fT y, false), [.int a', .int b']) := λ{y a' b' ρ S} hS => by
  generalize aaJ bs = T at hS ⊢
  generalize fT y = Y at hS ⊢
  unfold fnR
  simp -dsimp [aaH, con, drs, dr, isS, others, abf, abH, adC, aiJ, e, hS]
 by_cases h2 : k < 2
 ·refine ⟨(k, 1), a1, b1, fin (ρ := [.sh (aaJ bs), .sh (.int k), .un, .un]) ?_, ?_⟩
  ·generalize aaJ bs = T
   simp -dsimp [dr, gLt, gB, h2, bOf, cls, fT]
  ·rcases (show k = 0 \/ k = 1 by omega) with rfl | rfl <;> decide
 ·by_cases h5 : k < 5
  ·obtain ⟨y, a', b', ρ, e2, hy⟩ := atA a1 b1 (.sh (aaJ bs)) (.sh (.int k)) .un .un
   refine ⟨y, a', b', fin (ρ := ρ) ?_, hy⟩
   generalize w2 = G at e2 ⊢
   generalize aaJ bs = T at e2 ⊢
   generalize fT y = Y at e2 ⊢
   simp -dsimp [dr, gLt, gB, h2, h5, bOf, e2]
  ·by_cases h6 : k = 5
   ·obtain ⟨y, a', b', ρ, e2, hy⟩ := atB a1 b1 (.sh (aaJ bs)) (.sh (.int k)) .un .un
    refine ⟨y, a', b', fin (ρ := ρ) ?_, hy⟩
    generalize w5 = G at e2 ⊢
    generalize aaJ bs = T at e2 ⊢
    generalize fT y = Y at e2 ⊢
    subst h6
    simp -dsimp [dr, gLt, gB, bOf, gEq, aaw, aaO, e2]
   ·obtain ⟨y, a', b', ρ, e2, hy⟩ := atF a1 b1 k .un .un hw hl
    refine ⟨y, a', b', fin (ρ := ρ) ?_, hy⟩
    generalize w6 = G at e2 ⊢
    generalize aaJ bs = T at e2 ⊢
    generalize fT y = Y at e2 ⊢
    have q : (k == 5) = false := by simp [h6]
    simp -dsimp [dr, gLt, gB, h2, h5, bOf, gEq, aaw, aaO, q, e2]
noncomputable def li1 : SF := (aaN (ac1 (eMt 6 ahA (aaf (aaY 0 adG (aaf (aah 0) (aaf (aah 4) aar))) aar))) (ac1 (eMt 4 ahA (aaf (eOp gIx (aah 6) (eUn aoZ (eC (.int 1)))) aar))))
theorem amG (ts : List Tr) (t : Tr) : gIx (.lst (ts ++ [t])) (.int (-1)) = .ok (t, false) := by
 show (match atI (ts ++ [t]) (-1) with
  | some t => Rs.ok (t, false)
  | none => .bad) = _
 have : atI (ts ++ [t]) (-1) = some t := by
  unfold atI ixN
  have q0 : ¬ (0 : Int) <= -1 := by omega
  have q1 : -((ts ++ [t]).length : Int) <= -1 := by simp only [List.length_append, List.length_singleton]; omega
  have q2 : ((-1 : Int) + ((ts ++ [t]).length : Int)).toNat = ts.length := by simp only [List.length_append, List.length_singleton]; omega
  rw [if_neg q0, if_pos q1, q2]
  simp
 rw [this]
theorem ahV {ts : List Tr} {t : Tr} (h : ts.length <= 100000) : ahA ts [t] = .ok (ts ++ [t], .non) := by
 show (if ts.length <= 100000 then _ else _) = _
 rw [if_pos h]
theorem aq9 (a b : Int) (s1 s2 s3 s5 s7 : Sl) {bs ws : List (Int × Int)} (hb : ∀ x ∈ bs, Wo x) (hbl : bs.length <= 100) (hwl : ws.length <= 100) : ∃ (y : Int × Int) (a' b' : Int), li1 [.rf [.int a, .int b], s1, s2, s3, .ow (bs.map fT), s5, .ow (ws.map fT), s7] = .ok (.nx, [.rf [.int a', .int b'], s1, s2, s3, .ow ((bs ++ [y]).map fT), s5, .ow ((ws ++ [y]).map fT), s7]) /\ Wo y := by
 obtain ⟨y, a', b', e, hy⟩ := amF a b hb hbl
 refine ⟨y, a', b', ?_, hy⟩
 have e' : adG [.lst [.int a, .int b], .lst (bs.map fT)] = .ok ((fT y, false), [.int a', .int b']) := e
 have m1 := ahV (ts := ws.map fT) (t := fT y) (by rw [List.length_map]; omega)
 have m2 := ahV (ts := bs.map fT) (t := fT y) (by rw [List.length_map]; omega)
 have g := amG (ws.map fT) (fT y)
 have fl : aiJ (fT y) = true := rfl
 rw [List.map_append, List.map_append, List.map_singleton]
 generalize bs.map fT = B at *
 generalize ws.map fT = W at *
 generalize fT y = Y at *
 unfold li1
 simp -dsimp [con, drs, dr, cls, isS, others, abf, acw, fl, e', m1, aoZ, g, m2]
theorem ak6 (s1 s2 s3 s5 : Sl) : ∀ (us : List Tr) (a b : Int) (s7 : Sl) (bs ws : List (Int × Int)), (∀ x ∈ bs, Wo x) -> (∀ x ∈ ws, Wo x) -> bs.length + us.length <= 100 -> ws.length + us.length <= 100 ->
  ∃ (a' b' : Int) (s7' : Sl) (bs' ws' : List (Int × Int)), acM (gN 7) li1 us [.rf [.int a, .int b], s1, s2, s3, .ow (bs.map fT), s5, .ow (ws.map fT), s7] = .ok (.nx, [.rf [.int a', .int b'], s1, s2, s3, .ow (bs'.map fT), s5, .ow (ws'.map fT), s7']) /\ (∀ x ∈ bs', Wo x) /\ (∀ x ∈ ws', Wo x) /\ bs'.length = bs.length + us.length /\ ws'.length = ws.length + us.length
 | [], a, b, s7, bs, ws, h1, h2, _, _ => ⟨a, b, s7, bs, ws, rfl, h1, h2, rfl, rfl⟩
 | u :: us, a, b, s7, bs, ws, h1, h2, h3, h4 => by
  rw [List.length_cons] at h3 h4
  obtain ⟨y, a1, b1, e, hy⟩ := aq9 a b s1 s2 s3 s5 (.sh u) h1 (by omega) (by omega : ws.length <= 100)
  have q1 : ∀ x ∈ bs ++ [y], Wo x := λx hx => (List.mem_append.mp hx).elim (h1 x) λz => (List.mem_singleton.mp z) ▸ hy
  have q2 : ∀ x ∈ ws ++ [y], Wo x := λx hx => (List.mem_append.mp hx).elim (h2 x) λz => (List.mem_singleton.mp z) ▸ hy
  obtain ⟨a', b', s7', bs', ws', e', g1, g2, g3, g4⟩ := ak6 s1 s2 s3 s5 us a1 b1 (.sh u) (bs ++ [y]) (ws ++ [y]) q1 q2 (by simp; omega) (by simp; omega)
  refine ⟨a', b', s7', bs', ws', ?_, g1, g2, by rw [g3]; simp; omega, by rw [g4]; simp; omega⟩
  unfold acM
  rw [show gN 7 u [.rf [.int a, .int b], s1, s2, s3, .ow (bs.map fT), s5, .ow (ws.map fT), s7] = .ok [.rf [.int a, .int b], s1, s2, s3, .ow (bs.map fT), s5, .ow (ws.map fT), .sh u] from rfl]
  simp only [Rs.aa2]
  rw [e]
  exact e'
noncomputable def li2 : SF := (aaN (ajO 6 (acY aar)) (aaN (agT (ahz (aaf (aah 2) aar)) (gN 7) li1) (arI 6 (ac1 (eMt 3 ahA (aaf (aah 6) aar))))))
theorem adJ : ∀ (n : Nat) (lo : Int), (L2.upTo lo n).length = n
 | 0, _ => rfl
 | n + 1, lo => by unfold L2.upTo; rw [List.length_cons, adJ n]
theorem ara (a b : Int) (s1 s5 s6 s7 : Sl) (c : Nat) (hc : c <= 12) {bs : List (Int × Int)} {rows : List (List (Int × Int))} (hb : ∀ x ∈ bs, Wo x) (hbl : bs.length + 12 <= 100) (hr : rows.length <= 100) : ∃ (a' b' : Int) (s6' s7' : Sl) (bs' l : List (Int × Int)), li2 [.rf [.int a, .int b], s1, .sh (.int c), .ow (rows.map aaJ), .ow (bs.map fT), s5, s6, s7] = .ok (.nx, [.rf [.int a', .int b'], s1, .sh (.int c), .ow ((rows ++ [l]).map aaJ), .ow (bs'.map fT), s5, s6', s7']) /\ (∀ x ∈ bs', Wo x) /\ bs'.length = bs.length + c /\ l.length = c /\ ∀ x ∈ l, Wo x := by
 obtain ⟨a', b', s7', bs', l, e, h1, h2, h3, h4⟩ := ak6 s1 (.sh (.int c)) (.ow (rows.map aaJ)) s5 (L2.upTo 0 c) a b s7 bs [] hb (by simp) (by rw [adJ]; omega) (by rw [adJ]; simp; omega)
 rw [adJ] at h3 h4
 refine ⟨a', b', .sh (aaJ l), s7', bs', l, ?_, h1, h3, by simpa using h4, h2⟩
 have m1 := ahV (ts := rows.map aaJ) (t := aaJ l) (by rw [List.length_map]; omega)
 have ef : agT (ahz (aaf (aah 2) aar)) (gN 7) li1 [.rf [.int a, .int b], s1, .sh (.int c), .ow (rows.map aaJ), .ow (bs.map fT), s5, .ow [], s7] = .ok (.nx, [.rf [.int a', .int b'], s1, .sh (.int c), .ow (rows.map aaJ), .ow (bs'.map fT), s5, .ow (l.map fT), s7']) := by
  have q1 : (-1000000 : Int) <= c := by omega
  have q2 : (c : Int) <= 1000000 := by omega
  have q3 : okR (c : Int) = true := by unfold okR; simp [q1, q2]
  unfold agT
  have : ahz (aaf (aah 2) aar) [.rf [.int a, .int b], s1, .sh (.int c), .ow (rows.map aaJ), .ow (bs.map fT), s5, .ow [], s7] = .ok (L2.upTo 0 c, [.rf [.int a, .int b], s1, .sh (.int c), .ow (rows.map aaJ), .ow (bs.map fT), s5, .ow [], s7]) := by
   generalize rows.map aaJ = R
   generalize bs.map fT = B
   simp -dsimp [drs, dr, q3]
  rw [this]
  exact e
 rw [List.map_append, List.map_singleton]
 have hrow : Tr.lst (l.map fT) = aaJ l := rfl
 generalize rows.map aaJ = R at *
 generalize bs.map fT = B at *
 generalize bs'.map fT = B' at *
 unfold li2
 generalize agT _ _ _ = G at ef ⊢
 generalize l.map fT = L at *
 generalize aaJ l = RL at *
 subst hrow
 simp -dsimp [cls, ef, frz, con, m1, abf, dr]
theorem ak7 (s1 : Sl) (c : Nat) (hc : c <= 12) : ∀ (us : List Tr) (a b : Int) (s5 s6 s7 : Sl) (bs : List (Int × Int)) (rows : List (List (Int × Int))), (∀ x ∈ bs, Wo x) -> bs.length + 12 * us.length <= 60 -> rows.length + us.length <= 4 -> Shp c rows ->
  ∃ (a' b' : Int) (s5' s6' s7' : Sl) (bs' : List Tr) (ak8 : List (List (Int × Int))), acM (gN 5) li2 us [.rf [.int a, .int b], s1, .sh (.int c), .ow (rows.map aaJ), .ow (bs.map fT), s5, s6, s7] = .ok (.nx, [.rf [.int a', .int b'], s1, .sh (.int c), .ow (ak8.map aaJ), .ow bs', s5', s6', s7']) /\ ak8.length = rows.length + us.length /\ Shp c ak8
 | [], a, b, s5, s6, s7, bs, rows, h1, _, _, h4 => ⟨a, b, s5, s6, s7, bs.map fT, rows, rfl, rfl, h4⟩
 | u :: us, a, b, s5, s6, s7, bs, rows, h1, h2, h3, h4 => by
  rw [List.length_cons] at h2 h3
  obtain ⟨a1, b1, s6', s7', bs', l, e, g1, g2, g3, g4⟩ := ara a b s1 (.sh u) s6 s7 c hc h1 (by omega) (by omega : rows.length <= 100)
  obtain ⟨a', b', r5, r6, r7, bs2, ak8, e', k1, k2⟩ := ak7 s1 c hc us a1 b1 (.sh u) s6' s7' bs' (rows ++ [l]) g1 (by omega) (by simp; omega) (λr hr => (List.mem_append.mp hr).elim (h4 r) λz => (List.mem_singleton.mp z) ▸ ⟨g3, g4⟩)
  refine ⟨a', b', r5, r6, r7, bs2, ak8, ?_, by rw [k1]; simp; omega, k2⟩
  unfold acM
  rw [show gN 5 u [.rf [.int a, .int b], s1, .sh (.int c), .ow (rows.map aaJ), .ow (bs.map fT), s5, s6, s7] = .ok [.rf [.int a, .int b], s1, .sh (.int c), .ow (rows.map aaJ), .ow (bs.map fT), .sh u, s6, s7] from rfl]
  simp only [Rs.aa2]
  rw [e]
  exact e'
theorem amH (a b : Int) {k c : Nat} (hk : k <= 4) (hc : c <= 12) : ∃ (a' b' : Int) (rows : List (List (Int × Int))), agb [.lst [.int a, .int b], .int k, .int c] = .ok ((bkT rows, true), [.int a', .int b']) /\ rows.length = k /\ Shp c rows := by
 obtain ⟨a', b', s5, s6, s7, bs, rows, e, h1, h2⟩ := ak7 (.sh (.int k)) c hc (L2.upTo 0 k) a b .un .un .un [] [] (by simp) (by rw [adJ]; simp; omega) (by rw [adJ]; simp; omega) (by intro r hr; simp at hr)
 rw [adJ] at h1
 refine ⟨a', b', rows, ?_, by simpa using h1, h2⟩
 show fnR 8 0 (aaN (ajO 3 (acY aar)) (aaN (ajO 4 (acY aar)) (aaN (aev (agT (ahz (aaf (aah 1) aar)) (gN 5) li2)) (abR (aah 3))))) _ = _
 have q1 : (-1000000 : Int) <= k := by omega
 have q2 : (k : Int) <= 1000000 := by omega
 have e' : acM (gN 5) li2 (L2.upTo 0 k) [.rf [.int a, .int b], .sh (.int k), .sh (.int c), .ow [], .ow [], .un, .un, .un] = .ok (.nx, [.rf [.int a', .int b'], .sh (.int k), .sh (.int c), .ow (rows.map aaJ), .ow bs, s5, s6, s7]) := e
 unfold bkT
 generalize rows.map aaJ = R at e' ⊢
 generalize li2 = G at e' ⊢
 unfold fnR
 simp -dsimp [abH, frz, dow, abf, con, acR, eB, bOf, tru, dr, drs, cls, clV, adp, g1, g2, acN, okR, iOf, isS, others, abS, abq, abZ, acE, acP, aaH, acw, q1, q2, e', adC, aiJ]
noncomputable def puB : SF := (aaN (abA (eOp ab5 (eOp aaV (eOp aaV (eOp gIx (aah 1) (eOp ab5 (aah 3) (eCB (g1 aby) (aaf (aah 1) aar)))) (eOp abP (eC (.int 48271)) (aah 3))) (eC (.int 7))) (eC (.int 2147483629))) (gN 4)) (aaN (abA (eOp ab5 (eOp aaV (eOp abP (aah 4) (aah 4)) (eOp abP (eC (.int 69621)) (aah 3))) (eC (.int 2147483587))) (gN 4)) (abA (eOp aaV (eOp abP (aah 2) (eC (.int 2147483587))) (eOp ab5 (eOp abP (aah 4) (aah 4)) (eC (.int 2147483563)))) (gN 2))))
theorem arb (s0 s4 : Sl) {cs : List Int} (hc : 0 < cs.length) (mixed : Int) {k : Int} (k0 : 0 <= k) (k1 : k < 1000) : ∃ x t4, puB [s0, .sh (.lst (cs.map .int)), .sh (.int mixed), .sh (.int k), s4] = .ok (.nx, [s0, .sh (.lst (cs.map .int)), .sh (.int x), .sh (.int k), t4]) := by
 have hr := ajl k (cs.length : Int) (by omega)
 have hn : ((cs.length : Int)) ≠ 0 := by omega
 have el : aby (.lst (cs.map .int)) = .ok (.int (cs.length : Int), false) := by
  show Rs.ok (Tr.int ((cs.map Tr.int).length : Int), false) = _
  rw [List.length_map]
 obtain ⟨v, ev⟩ : ∃ v, gIx (.lst (cs.map .int)) (.int (k.fmod (cs.length : Int))) = .ok (.int v, false) := by
  obtain ⟨i, hi⟩ : ∃ i : Nat, (i : Int) = k.fmod (cs.length : Int) := ⟨(k.fmod (cs.length : Int)).toNat, by omega⟩
  rw [<-hi]
  have hi' : i < cs.length := by omega
  exact ⟨cs[i], acd (by rw [List.getElem?_map, List.getElem?_eq_getElem hi']; rfl)⟩
 have c1 : ahk 48271 k = true := amB (by omega)
 generalize hA : (v + 48271 * k + 7).fmod 2147483629 = A
 have rA := ajl (v + 48271 * k + 7) 2147483629 (by omega)
 rw [hA] at rA
 have c2 : ahk A A = true := amB (by omega)
 have c3 : ahk 69621 k = true := amB (by omega)
 generalize hB : (A * A + 69621 * k).fmod 2147483587 = B
 have rB := ajl (A * A + 69621 * k) 2147483587 (by omega)
 rw [hB] at rB
 have c4 : ahk B B = true := amB (by omega)
 have c5 : ahk mixed 2147483587 = true := atx (by omega)
 generalize hC : (B * B).fmod 2147483563 = C
 refine ⟨mixed * 2147483587 + C, .sh (.int B), ?_⟩
 generalize Tr.lst (cs.map .int) = T at *
 generalize hF : k.fmod (cs.length : Int) = F at *
 generalize (cs.length : Int) = N at *
 unfold puB
 simp -dsimp [drs, dr, g1, ab5, gIC, hn, hF, el, ev, abP, c1, aaV, gI, hA, c2, c3, hB, c4, c5, hC]
theorem ak9 (s0 : Sl) {cs : List Int} (hc : 0 < cs.length) : ∀ (us : List Tr) (mixed : Int) (s3 s4 : Sl), (∀ u ∈ us, ∃ j : Int, u = .int j /\ 0 <= j /\ j < 1000) -> ∃ x t3 t4, acM (gN 3) puB us [s0, .sh (.lst (cs.map .int)), .sh (.int mixed), s3, s4] = .ok (.nx, [s0, .sh (.lst (cs.map .int)), .sh (.int x), t3, t4])
 | [], mixed, s3, s4, _ => ⟨mixed, s3, s4, rfl⟩
 | u :: us, mixed, s3, s4, h => by
  obtain ⟨j, rfl, j0, j1⟩ := h u (by simp)
  obtain ⟨y, t4, e⟩ := arb s0 s4 hc mixed j0 j1
  obtain ⟨x, r3, r4, e'⟩ := ak9 s0 hc us y (.sh (.int j)) t4 λv hv => h v (by simp [hv])
  refine ⟨x, r3, r4, ?_⟩
  generalize Tr.lst (cs.map .int) = T at *
  unfold acM
  simp [e, e']
theorem amI (ns : List Int) : ∃ a b, aek [.lst (ns.map .int)] = .ok (.lst [.int a, .int b], true) := by
 obtain ⟨cs, hcs⟩ : ∃ cs : List Int, cs = ns.take 63 ++ [(ns.length : Int)] := ⟨_, rfl⟩
 have hc : 0 < cs.length := by rw [hcs]; simp
 obtain ⟨x, t3, t4, e⟩ := ak9 (.sh (.lst (ns.map .int))) hc (L2.upTo 0 160) 1 .un .un λu hu => by
  rw [ajm] at hu
  obtain ⟨i, hi, rfl⟩ := List.mem_map.mp hu
  have := List.mem_range.mp hi
  exact ⟨i, rfl, by omega, by omega⟩
 have es : gSl none (some 63) (.lst (ns.map .int)) = .ok (.lst ((ns.take 63).map .int), true) := by
  have c := ane (ns.map Tr.int) 63
  show Rs.ok (Tr.lst (L2.cut (ns.map Tr.int) none (some 63)), true) = _
  rw [show L2.cut (ns.map Tr.int) none (some 63) = _ from c, List.map_take]
 have ea : aaV (.lst ((ns.take 63).map .int)) (.lst [.int (ns.length : Int)]) = .ok (.lst (cs.map .int), true) := by
  show (if ((ns.take 63).map Tr.int).length + [Tr.int (ns.length : Int)].length <= 100000 then Rs.ok (Tr.lst ((ns.take 63).map Tr.int ++ [Tr.int (ns.length : Int)]), true) else .bad) = _
  rw [if_pos (by simp; omega), hcs, List.map_append]
  rfl
 have el : aby (.lst (ns.map .int)) = .ok (.int (ns.length : Int), false) := by
  show Rs.ok (Tr.int ((ns.map Tr.int).length : Int), false) = _
  rw [List.length_map]
 have e0 : gIx (.lst (cs.map .int)) (.int 0) = .ok (.int cs[0], false) := acd (i := 0) (by rw [List.getElem?_map, List.getElem?_eq_getElem hc]; rfl)
 have en : aev (agT (ahz (aaf (eC (.int 160)) aar)) (gN 3) puB) [.sh (.lst (ns.map .int)), .sh (.lst (cs.map .int)), .sh (.int 1), .un, .un] = .ok (.nx, [.sh (.lst (ns.map .int)), .sh (.lst (cs.map .int)), .sh (.int x), t3, t4]) := by
  show abH (acM (gN 3) puB (L2.upTo 0 160) _) = _
  rw [e]
  rfl
 have hd : akO = (aaN (abA (eOp aaV (eSl (aah 0) oNo (acv (eC (.int 63)))) (acY (aaf (eCB (g1 aby) (aaf (aah 0) aar)) aar))) (gN 1)) (aaN (abA (eC (.int 1)) (gN 2)) (aaN (aev (agT (ahz (aaf (eC (.int 160)) aar)) (gN 3) puB)) (aaN (sIf (abn (eOp gGe (eOp gIx (aah 1) (eC (.int 0))) (eOp acu (eC (.int 10)) (eC (.int 18))))) (abR (acY (aaf (eOp ach (eOp gIx (aah 1) (eC (.int 0))) (eOp acu (eC (.int 10)) (eC (.int 18)))) (aaf (aah 2) aar)))) aeu) (abR (acY (aaf (eC (.int 0)) (aaf (aah 2) aar)))))))) := rfl
 unfold aek
 rw [hd]
 generalize cs[0] = v at e0
 generalize aev _ = G at en ⊢
 generalize Tr.lst (cs.map .int) = C at *
 generalize Tr.lst ((ns.take 63).map .int) = N1 at *
 generalize Tr.lst (ns.map .int) = N0 at *
 generalize (ns.length : Int) = L at *
 by_cases h : 1000000000000000000 <= v
 ·refine ⟨v - 1000000000000000000, x, ?_⟩
  unfold fnP
  simp -dsimp [aaH, drs, dr, iOf, es, el, g1, cls, ea, en, e0, acu, gIC, apV, tiny, gGe, gB, h, bOf, ach, gI]
 ·refine ⟨0, x, ?_⟩
  unfold fnP
  simp -dsimp [aaH, drs, dr, iOf, es, el, g1, cls, ea, en, e0, acu, gIC, apV, tiny, gGe, gB, h, bOf, ach, gI]
end K51
end
section
namespace K51
open PySem L2 BH
theorem aoI (a b : Int) : ∃ (a' b' : Int) (rows : List (List (Int × Int))) (c : Nat), afF [.lst [.int a, .int b]] = .ok ((bkT rows, true), [.int a', .int b']) /\ Bk c rows := by
 obtain ⟨x, a1, b1, e1, x0, x1⟩ := ace a b 4 (by omega) (by decide)
 obtain ⟨y, a2, b2, e2, y0, y1⟩ := ace a1 b1 12 (by omega) (by decide)
 obtain ⟨k, hk⟩ : ∃ k : Nat, (k : Int) = 1 + x := ⟨(1 + x).toNat, by omega⟩
 obtain ⟨c, hc⟩ : ∃ k : Nat, (k : Int) = 1 + y := ⟨(1 + y).toNat, by omega⟩
 obtain ⟨a', b', rows, e4, h1, h2⟩ := amH a2 b2 (k := k) (c := c) (by omega) (by omega)
 refine ⟨a', b', rows, c, ?_, by omega, by omega, by omega, by omega, h2⟩
 generalize bkT rows = T at e4 ⊢
 unfold afF anb fnR
 simp -dsimp [abH, frz, dow, abf, con, acR, eB, bOf, tru, dr, drs, cls, clV, adp, g1, g2, acN, okR, iOf, isS, others, abS, abq, abZ, acE, acP, aaH, acw, e1, e2, aaV, <-hk, <-hc, e4, adC, aiJ]
theorem ala {rs : List Tr} {r : Tr} (m : r ∈ rs) (h : acy 12 r = false) : afI (.lst rs) = false := by
 have : rs.all (acy 12) = false := by
  cases e : rs.all (acy 12) with
  | false => rfl
  | true => rw [List.all_eq_true.mp e r m] at h; cases h
 show (decide (1 <= (rs.length : Int)) && decide ((rs.length : Int) <= 4) && rs.all (acy 12) && rs.all λr => afH r == afH (rs.headD .non)) = false
 rw [this, Bool.and_false, Bool.false_and]
theorem ard {ts : List Tr} {t : Tr} {k : Int} (m : t ∈ ts) (h : agl t = false) : acy k (.lst ts) = false := by
 have : ts.all agl = false := by
  cases e : ts.all agl with
  | false => rfl
  | true => rw [List.all_eq_true.mp e t m] at h; cases h
 show (decide (1 <= (ts.length : Int)) && decide ((ts.length : Int) <= k) && ts.all agl) = false
 rw [this, Bool.and_false]
theorem arf {rs : List Tr} (h : 4 < rs.length) : afI (.lst rs) = false := by
 show (decide (1 <= (rs.length : Int)) && decide ((rs.length : Int) <= 4) && rs.all (acy 12) && rs.all λr => afH r == afH (rs.headD .non)) = false
 rw [decide_eq_false (p := (rs.length : Int) <= 4) (by omega)]
 simp
theorem aoJ {ts : List Tr} (h : 12 < ts.length) : acy 12 (.lst ts) = false := by
 show (decide (1 <= (ts.length : Int)) && decide ((ts.length : Int) <= 12) && ts.all agl) = false
 rw [decide_eq_false (p := (ts.length : Int) <= 12) (by omega)]
 simp
theorem aoK {α : Type} (n : Nat) (l : List α) : (List.replicate n l).flatten.length = n * l.length := by
 rw [List.length_flatten, List.map_replicate, List.sum_replicate_nat]
theorem alb {α : Type} {l : List α} {n : Nat} (h : 1 <= l.length) : ((List.replicate n l).flatten.take n).length = n := by
 rw [List.length_take, aoK]
 exact Nat.min_eq_left (Nat.le_mul_of_pos_right n h)
noncomputable def x2E : EF := abo [none] (fSq (aah 1)) (gN 0) aeF (acY aar)
noncomputable def x3E : EF := abo [none] (fSq (aah 1)) (gN 0) aeF (eSl (eOp abP (aah 0) (eC (.int 13))) oNo (acv (eC (.int 13))))
noncomputable def nbA : SF := (abA (acY (aaf (eC .non) (aaf (acY aar) (aaf (eCB (g1 aaI) (aaf (aah 1) aar)) (aaf (eSl (eOp abP (aah 1) (eC (.int 5))) oNo (acv (eC (.int 5)))) (aaf x2E (aaf x3E aar))))))) (gN 3))
noncomputable def nbB : SF := (abA (eOp aaV (aah 3) (acY (aaf (eOp aaV (eSl (aah 1) oNo (acv (eC (.int 3)))) (acY (aaf (eOp aaV (eOp gIx (aah 1) (eC (.int 0))) (eCL [.tup [.int 0, .int 1]])) aar))) (aaf (eOp aaV (acY (aaf (eCB (g1 aaI) (aaf (eOp gIx (aah 1) (eC (.int 0))) aar)) aar)) (eSl (aah 1) (acv (eC (.int 1))) oNo)) (aaf (eOp gIx (aah 1) (eC (.int 0))) (aaf (eC (.str "book")) aar)))))) (gN 3))
noncomputable def aoL : List Tr := [.tup [.int 2, .int 4], .tup [.int 3, .int 2], .tup [.int (-1), .int 2], .tup [.int 1, .int 0], .tup [.int 0, .int 2], .lst [.int 1, .int 2], .tup [.bl true, .int 1], .tup [.int 1, .bl true], .tup [.int 1, .int 2, .int 3], .non]
noncomputable def nbC : SF := (aaN (abA (eOp gIx (eCL aoL) (eOp ach (aah 2) (eC (.int 10)))) (gN 4)) (aaN (abA (aaY 0 aa6 (aaf (aah 0) (aaf (eCB (g1 aby) (aaf (aah 1) aar)) aar))) (gN 5)) (aaN (abA (aaY 0 aa6 (aaf (aah 0) (aaf (eCB (g1 aby) (aaf (eOp gIx (aah 1) (eC (.int 0))) aar)) aar))) (gN 6)) (aaN (abA (eOp aaV (eOp aaV (eSl (eOp gIx (aah 1) (aah 5)) oNo (acv (aah 6))) (acY (aaf (aah 4) aar))) (eSl (eOp gIx (aah 1) (aah 5)) (acv (eOp aaV (aah 6) (eC (.int 1)))) oNo)) (gN 7)) (abR (eOp aaV (eOp aaV (eSl (aah 1) oNo (acv (aah 5))) (acY (aaf (aah 7) aar))) (eSl (aah 1) (acv (eOp aaV (aah 5) (eC (.int 1)))) oNo)))))))
theorem ahW : ag4 = (aaN (abA (aaY 0 aa6 (aaf (aah 0) (aaf (eC (.int 20)) aar))) (gN 2)) (aaN nbA (aaN nbB (aaN (sIf (abn (eOp gLt (aah 2) (eC (.int 10)))) (abR (eOp gIx (aah 3) (aah 2))) aeu) nbC)))) := rfl
theorem ag9 (L : List Tr) (k : Nat) : gSl none (some (k : Int)) (.lst L) = .ok (.lst (L.take k), true) := by
 show Rs.ok (Tr.lst (L2.cut L none (some (k : Int))), true) = _
 rw [ane]
theorem ago (L : List Tr) (k : Nat) : gSl (some (k : Int)) none (.lst L) = .ok (.lst (L.drop k), true) := by
 show Rs.ok (Tr.lst (L2.cut L (some (k : Int)) none), true) = _
 rw [amz]
theorem aeB {A B : List Tr} (h : A.length + B.length <= 100000) : aaV (.lst A) (.lst B) = .ok (.lst (A ++ B), true) := by
 show (if A.length + B.length <= 100000 then Rs.ok (Tr.lst (A ++ B), true) else .bad) = _
 rw [if_pos h]
theorem ank {A : List Tr} {k : Nat} (h : A.length <= 100) (hk : k <= 1000) : abP (.lst A) (.int (k : Nat)) = .ok (.lst (List.replicate k A).flatten, true) := by
 show (if (-1000 <= (k : Int) /\ (k : Int) <= 1000) /\ A.length <= 100 then Rs.ok (Tr.lst (List.replicate (k : Int).toNat A).flatten, true) else .bad) = _
 rw [if_pos (by omega), Int.toNat_natCast]
noncomputable def ahm (rows : List (List (Int × Int))) : List Tr := [.non, .lst [], .tup (rows.map aaJ), .lst ((List.replicate 5 (rows.map aaJ)).flatten.take 5), .lst (rows.map λ_ => .lst []), .lst (rows.map λl => .lst ((List.replicate 13 (l.map fT)).flatten.take 13))]
noncomputable def ajP (rows : List (List (Int × Int))) (l : List (Int × Int)) : List Tr := [.lst ((rows.map aaJ).take 3 ++ [.lst (l.map fT ++ [.tup [.int 0, .int 1]])]), .lst ([.tup (l.map fT)] ++ (rows.map aaJ).drop 1), aaJ l, .str "book"]
theorem arh {c : Nat} {rows : List (List (Int × Int))} (hb : Bk c rows) (s0 s2 s4 s5 s6 s7 : Sl) : nbA [s0, .sh (bkT rows), s2, .un, s4, s5, s6, s7] = .ok (.nx, [s0, .sh (bkT rows), s2, .sh (.lst (ahm rows)), s4, s5, s6, s7]) := by
 obtain ⟨h1, h2, h3, h4, h5⟩ := id hb
 have e2 := atv (r := aaJ) (h := λ_ => Tr.lst []) (xs := rows) (ρ := [s0, .sh (bkT rows), s2, .un, s4, s5, s6, s7]) (rest := []) (i := fSq (aah 1)) (fe := acY aar) (by omega) rfl rfl (λs' => rfl) (λs' => rfl) (λl m => ⟨true, rfl⟩)
 have e3 := atv (r := aaJ) (h := λl => Tr.lst ((List.replicate 13 (l.map fT)).flatten.take 13)) (xs := rows) (ρ := [s0, .sh (bkT rows), s2, .un, s4, s5, s6, s7]) (rest := []) (i := fSq (aah 1)) (fe := eSl (eOp abP (aah 0) (eC (.int 13))) oNo (acv (eC (.int 13)))) (by omega) rfl rfl (λs' => rfl) (λs' => rfl) (λl m => ⟨true, by
  have hl := (h5 l m).1
  have a1 : abP (aaJ l) (.int 13) = .ok (.lst (List.replicate 13 (l.map fT)).flatten, true) := ank (k := 13) (by rw [List.length_map]; omega) (by omega)
  have a2 := ag9 (List.replicate 13 (l.map fT)).flatten 13
  have a2 : gSl none (some 13) (.lst (List.replicate 13 (l.map fT)).flatten) = .ok (.lst ((List.replicate 13 (l.map fT)).flatten.take 13), true) := a2
  generalize aaJ l = R at *
  generalize Tr.lst ((List.replicate 13 (l.map fT)).flatten.take 13) = Z at *
  generalize Tr.lst (List.replicate 13 (l.map fT)).flatten = Y at *
  dsimp only [abS, List.map]
  simp -dsimp [dr, a1, iOf, a2]⟩)
 have e4 : abP (bkT rows) (.int 5) = .ok (.lst (List.replicate 5 (rows.map aaJ)).flatten, true) := ank (k := 5) (by rw [List.length_map]; omega) (by omega)
 have e5 : gSl none (some 5) (.lst (List.replicate 5 (rows.map aaJ)).flatten) = .ok (.lst ((List.replicate 5 (rows.map aaJ)).flatten.take 5), true) := ag9 _ 5
 have e6 : aaI (bkT rows) = .ok (.tup (rows.map aaJ), false) := rfl
 show _ = Rs.ok (Fl.nx, ([s0, .sh (bkT rows), s2, .sh (.lst [.non, .lst [], .tup (rows.map aaJ), .lst ((List.replicate 5 (rows.map aaJ)).flatten.take 5), .lst (rows.map λ_ => .lst []), .lst (rows.map λl => .lst ((List.replicate 13 (l.map fT)).flatten.take 13))]), s4, s5, s6, s7] : En))
 have e2 : x2E _ = _ := e2
 have e3 : x3E _ = _ := e3
 generalize Tr.lst ((List.replicate 5 (rows.map aaJ)).flatten.take 5) = Z5 at *
 generalize Tr.lst (List.replicate 5 (rows.map aaJ)).flatten = Y5 at *
 generalize Tr.tup (rows.map aaJ) = Tt at *
 generalize Tr.lst (rows.map λ_ => Tr.lst []) = Z2 at *
 generalize Tr.lst (rows.map λl => Tr.lst ((List.replicate 13 (l.map fT)).flatten.take 13)) = Z3 at *
 generalize bkT rows = T at *
 unfold nbA
 generalize x2E = G2 at *
 generalize x3E = G3 at *
 simp -dsimp [dr, drs, cls, g1, iOf, e2, e3, e4, e5, e6]
theorem ari {c : Nat} {rows : List (List (Int × Int))} (hb : Bk c rows) {l : List (Int × Int)} (hl : rows[0]? = some l) (s0 s2 s4 s5 s6 s7 : Sl) : nbB [s0, .sh (bkT rows), s2, .sh (.lst (ahm rows)), s4, s5, s6, s7] = .ok (.nx, [s0, .sh (bkT rows), s2, .sh (.lst (ahm rows ++ ajP rows l)), s4, s5, s6, s7]) := by
 obtain ⟨h1, h2, h3, h4, h5⟩ := id hb
 have hc := (h5 l (List.mem_of_getElem? hl)).1
 have e1 : gIx (bkT rows) (.int 0) = .ok (aaJ l, false) := acd (i := 0) (by rw [List.getElem?_map, hl]; rfl)
 have e2 : gSl none (some 3) (bkT rows) = .ok (.lst ((rows.map aaJ).take 3), true) := ag9 _ 3
 have e3 : gSl (some 1) none (bkT rows) = .ok (.lst ((rows.map aaJ).drop 1), true) := ago _ 1
 have e4 : aaV (aaJ l) (.lst [.tup [.int 0, .int 1]]) = .ok (.lst (l.map fT ++ [.tup [.int 0, .int 1]]), true) := aeB (by rw [List.length_map]; simp; omega)
 have e5 : aaV (.lst ((rows.map aaJ).take 3)) (.lst [.lst (l.map fT ++ [.tup [.int 0, .int 1]])]) = .ok (.lst ((rows.map aaJ).take 3 ++ [.lst (l.map fT ++ [.tup [.int 0, .int 1]])]), true) := aeB (by simp; omega)
 have e6 : aaI (aaJ l) = .ok (.tup (l.map fT), false) := rfl
 have e7 : aaV (.lst [.tup (l.map fT)]) (.lst ((rows.map aaJ).drop 1)) = .ok (.lst ([.tup (l.map fT)] ++ (rows.map aaJ).drop 1), true) := aeB (by simp; omega)
 have e8 : aaV (.lst (ahm rows)) (.lst (ajP rows l)) = .ok (.lst (ahm rows ++ ajP rows l), true) := aeB (by unfold ahm ajP; simp)
 unfold ajP at e8 ⊢
 generalize ahm rows = A at *
 generalize Tr.lst ((rows.map aaJ).take 3 ++ [.lst (l.map fT ++ [.tup [.int 0, .int 1]])]) = B1 at *
 generalize Tr.lst ([.tup (l.map fT)] ++ (rows.map aaJ).drop 1) = B2 at *
 generalize Tr.lst (l.map fT ++ [.tup [.int 0, .int 1]]) = B3 at *
 generalize Tr.lst ((rows.map aaJ).take 3) = B4 at *
 generalize Tr.lst ((rows.map aaJ).drop 1) = B5 at *
 generalize Tr.tup (l.map fT) = B6 at *
 generalize bkT rows = T at *
 generalize aaJ l = R at *
 generalize Tr.lst (A ++ [B1, B2, R, .str "book"]) = AB at *
 generalize Tr.lst A = A' at *
 unfold nbB
 simp -dsimp [dr, drs, cls, g1, iOf, e1, e2, e3, e4, e5, e6, e7, e8]
theorem arj {c : Nat} {rows : List (List (Int × Int))} (hb : Bk c rows) {l : List (Int × Int)} (hl : rows[0]? = some l) : ∀ T ∈ ahm rows ++ ajP rows l, afI T = false := by
 obtain ⟨h1, h2, h3, h4, h5⟩ := id hb
 have hc := (h5 l (List.mem_of_getElem? hl)).1
 obtain ⟨l', rs, rfl⟩ : ∃ l' rs, rows = l' :: rs := by cases rows with
  | nil => simp at h1
  | cons a b => exact ⟨a, b, rfl⟩
 cases hl
 have n5 : 1 <= ((l :: rs).map aaJ).length := by simp
 unfold ahm ajP
 intro T hT
 rw [List.mem_append] at hT
 rcases hT with hT | hT
 ·simp only [List.mem_cons, List.mem_nil_iff, or_false] at hT
  rcases hT with rfl | rfl | rfl | rfl | rfl | rfl
  ·rfl
  ·rfl
  ·rfl
  ·exact arf (by rw [alb n5]; omega)
  ·exact ala (r := .lst []) (by simp) rfl
  ·exact ala (r := .lst ((List.replicate 13 (l.map fT)).flatten.take 13)) (by simp) (aoJ (by rw [alb (by rw [List.length_map]; omega)]; omega))
 ·simp only [List.mem_cons, List.mem_nil_iff, or_false] at hT
  rcases hT with rfl | rfl | rfl | rfl
  ·have hne : ((((l :: rs).map aaJ).take 3 ++ [Tr.lst (l.map fT ++ [.tup [.int 0, .int 1]])]).all λr => afH r == afH ((((l :: rs).map aaJ).take 3 ++ [Tr.lst (l.map fT ++ [.tup [.int 0, .int 1]])]).headD .non)) = false := by
    rw [List.all_eq_false]
    refine ⟨Tr.lst (l.map fT ++ [.tup [.int 0, .int 1]]), by simp, ?_⟩
    show ¬ ((((l.map fT ++ [Tr.tup [.int 0, .int 1]]).length : Int) == ((l.map fT).length : Int)) = true)
    simp
    omega
   generalize ((l :: rs).map aaJ).take 3 ++ [Tr.lst (l.map fT ++ [.tup [.int 0, .int 1]])] = L at *
   show (decide (1 <= (L.length : Int)) && decide ((L.length : Int) <= 4) && L.all (acy 12) && L.all λr => afH r == afH (L.headD .non)) = false
   rw [hne, Bool.and_false]
  ·exact ala (r := .tup (l.map fT)) (by simp) rfl
  ·cases l with
   | nil => simp at hc; omega
   | cons x l => exact ala (r := fT x) (by simp) rfl
  ·rfl
theorem ark : ∀ o ∈ aoL, agl o = false := by
 unfold aoL
 simp only [List.forall_mem_cons]
 exact ⟨rfl, rfl, rfl, rfl, rfl, rfl, rfl, rfl, rfl, rfl, λ_ h => nomatch h⟩
theorem arl {c : Nat} {rows : List (List (Int × Int))} (hb : Bk c rows) (a b : Int) {x : Nat} (h0 : 10 <= x) (h9 : x < 20) (s3 : Sl) : ∃ (T : Tr) (fr : Bool) (a' b' : Int) (ρ : En), nbC [.rf [.int a, .int b], .sh (bkT rows), .sh (.int x), s3, .un, .un, .un, .un] = .ok (.rt T fr, .rf [.int a', .int b'] :: ρ) /\ afI T = false := by
 obtain ⟨h1, h2, h3, h4, h5⟩ := id hb
 obtain ⟨l0, hl0⟩ : ∃ l, rows[0]? = some l := ⟨_, List.getElem?_eq_getElem (by omega)⟩
 have ho : aoL.length = 10 := rfl
 obtain ⟨o, eo⟩ : ∃ o, aoL[x - 10]? = some o := ⟨_, List.getElem?_eq_getElem (by omega)⟩
 have no := ark o (List.mem_of_getElem? eo)
 have g0 : gIx (.lst aoL) (.int ((x : Int) - 10)) = .ok (o, false) := by
  have := acd eo
  rw [show (((x - 10 : Nat) : Nat) : Int) = (x : Int) - 10 by omega] at this
  exact this
 obtain ⟨y, a1, b1, e1, y0, y1⟩ := ace a b (rows.length : Int) (by omega) (by omega)
 obtain ⟨z, a2, b2, e2, z0, z1⟩ := ace a1 b1 (c : Int) (by omega) (by omega)
 obtain ⟨y, rfl⟩ := Int.eq_ofNat_of_zero_le y0
 obtain ⟨z, rfl⟩ := Int.eq_ofNat_of_zero_le z0
 obtain ⟨l, hl⟩ : ∃ l, rows[y]? = some l := ⟨_, List.getElem?_eq_getElem (by omega)⟩
 have hlc := (h5 l (List.mem_of_getElem? hl)).1
 have q1 : aby (bkT rows) = .ok (.int (rows.length : Int), false) := by
  show Rs.ok (Tr.int ((rows.map aaJ).length : Int), false) = _
  rw [List.length_map]
 have q2 : gIx (bkT rows) (.int 0) = .ok (aaJ l0, false) := acd (i := 0) (by rw [List.getElem?_map, hl0]; rfl)
 have q3 : aby (aaJ l0) = .ok (.int (c : Int), false) := by
  show Rs.ok (Tr.int ((l0.map fT).length : Int), false) = _
  rw [List.length_map, (h5 l0 (List.mem_of_getElem? hl0)).1]
 have q4 : gIx (bkT rows) (.int (y : Nat)) = .ok (aaJ l, false) := acd (by rw [List.getElem?_map, hl]; rfl)
 have q5 : gSl none (some (z : Int)) (aaJ l) = .ok (.lst ((l.map fT).take z), true) := ag9 _ z
 have q6 : gSl (some ((z : Int) + 1)) none (aaJ l) = .ok (.lst ((l.map fT).drop (z + 1)), true) := ago _ (z + 1)
 have q7 : aaV (.lst ((l.map fT).take z)) (.lst [o]) = .ok (.lst ((l.map fT).take z ++ [o]), true) := aeB (by simp; omega)
 have q8 : aaV (.lst ((l.map fT).take z ++ [o])) (.lst ((l.map fT).drop (z + 1))) = .ok (.lst ((l.map fT).take z ++ [o] ++ (l.map fT).drop (z + 1)), true) := aeB (by simp; omega)
 have nw : acy 12 (.lst ((l.map fT).take z ++ [o] ++ (l.map fT).drop (z + 1))) = false := ard (t := o) (by simp) no
 generalize Tr.lst ((l.map fT).take z ++ [o] ++ (l.map fT).drop (z + 1)) = R' at *
 have q9 : gSl none (some (y : Int)) (bkT rows) = .ok (.lst ((rows.map aaJ).take y), true) := ag9 _ y
 have q10 : gSl (some ((y : Int) + 1)) none (bkT rows) = .ok (.lst ((rows.map aaJ).drop (y + 1)), true) := ago _ (y + 1)
 have q11 : aaV (.lst ((rows.map aaJ).take y)) (.lst [R']) = .ok (.lst ((rows.map aaJ).take y ++ [R']), true) := aeB (by simp; omega)
 have q12 : aaV (.lst ((rows.map aaJ).take y ++ [R'])) (.lst ((rows.map aaJ).drop (y + 1))) = .ok (.lst ((rows.map aaJ).take y ++ [R'] ++ (rows.map aaJ).drop (y + 1)), true) := aeB (by simp; omega)
 refine ⟨.lst ((rows.map aaJ).take y ++ [R'] ++ (rows.map aaJ).drop (y + 1)), true, a2, b2, [.sh (bkT rows), .sh (.int x), s3, .sh o, .sh (.int (y : Nat)), .sh (.int (z : Nat)), .sh R'], ?_, ala (r := R') (by simp) nw⟩
 have da : ach (.int x) (.int 10) = .ok (.int ((x : Int) - 10), false) := rfl
 have dz : aaV (.int (z : Nat)) (.int 1) = .ok (.int ((z : Int) + 1), false) := rfl
 have dy : aaV (.int (y : Nat)) (.int 1) = .ok (.int ((y : Int) + 1), false) := rfl
 generalize Tr.lst ((rows.map aaJ).take y ++ [R'] ++ (rows.map aaJ).drop (y + 1)) = Z at *
 generalize Tr.lst ((rows.map aaJ).take y ++ [R']) = Z1 at *
 generalize Tr.lst ((rows.map aaJ).take y) = Z2 at *
 generalize Tr.lst ((rows.map aaJ).drop (y + 1)) = Z3 at *
 generalize Tr.lst ((l.map fT).take z ++ [o]) = Z4 at *
 generalize Tr.lst ((l.map fT).take z) = Z5 at *
 generalize Tr.lst ((l.map fT).drop (z + 1)) = Z6 at *
 generalize bkT rows = T at *
 generalize aaJ l = R at *
 generalize aaJ l0 = R0 at *
 generalize (y : Int) + 1 = Y1 at *
 generalize (z : Int) + 1 = Z7 at *
 generalize (y : Int) = Y at *
 generalize (z : Int) = Z8 at *
 generalize (rows.length : Int) = N at *
 generalize (c : Int) = C at *
 unfold nbC
 generalize aoL = O at *
 simp -dsimp [con, drs, dr, isS, others, abf, cls, g1, da, g0, q1, e1, q2, q3, e2, q4, iOf, q5, dz, q6, q7, q8, q9, dy, q10, q11, q12]
theorem ajn {c : Nat} {rows : List (List (Int × Int))} (hb : Bk c rows) (a b : Int) : ∃ (T : Tr) (fr : Bool) (a' b' : Int), acD [.lst [.int a, .int b], bkT rows] = .ok ((T, fr), [.int a', .int b']) /\ afI T = false := by
 obtain ⟨x, a1, b1, e1, x0, x1⟩ := ace a b 20 (by omega) (by decide)
 obtain ⟨x, rfl⟩ := Int.eq_ofNat_of_zero_le x0
 obtain ⟨l, hl⟩ : ∃ l, rows[0]? = some l := ⟨_, List.getElem?_eq_getElem (by have := hb.1; omega)⟩
 have eA := arh hb (.rf [.int a1, .int b1]) (.sh (.int (x : Nat))) .un .un .un .un
 have eB := ari hb hl (.rf [.int a1, .int b1]) (.sh (.int (x : Nat))) .un .un .un .un
 have hn := arj hb hl
 have ht : (ahm rows ++ ajP rows l).length = 10 := rfl
 unfold acD
 rw [ahW]
 by_cases h : x < 10
 ·obtain ⟨T, eT⟩ : ∃ T, (ahm rows ++ ajP rows l)[x]? = some T := ⟨_, List.getElem?_eq_getElem (by omega)⟩
  refine ⟨T, false, a1, b1, ?_, hn T (List.mem_of_getElem? eT)⟩
  have g0 := acd eT
  have lt : gLt (.int (x : Nat)) (.int 10) = .ok (.bl true, false) := by
   show Rs.ok (Tr.bl (decide ((x : Int) < 10)), false) = _
   rw [decide_eq_true (by omega)]
  generalize Tr.lst (ahm rows ++ ajP rows l) = S at *
  generalize Tr.lst (ahm rows) = S0 at *
  generalize bkT rows = B at *
  generalize nbC = G3
  generalize nbA = G1 at *
  generalize nbB = G2 at *
  unfold fnR
  simp -dsimp [aaH, con, drs, dr, isS, others, abf, abH, adC, aiJ, cls, e1, eA, eB, lt, bOf, g0]
 ·obtain ⟨T, fr, a', b', ρ, eC, hT⟩ := arl hb a1 b1 (x := x) (by omega) (by omega) (.sh (.lst (ahm rows ++ ajP rows l)))
  refine ⟨T, fr, a', b', ?_, hT⟩
  have lt : gLt (.int (x : Nat)) (.int 10) = .ok (.bl false, false) := by
   show Rs.ok (Tr.bl (decide ((x : Int) < 10)), false) = _
   rw [decide_eq_false (by omega)]
  generalize Tr.lst (ahm rows ++ ajP rows l) = S at *
  generalize Tr.lst (ahm rows) = S0 at *
  generalize bkT rows = B at *
  generalize nbC = G3 at *
  generalize nbA = G1 at *
  generalize nbB = G2 at *
  unfold fnR
  simp -dsimp [aaH, con, drs, dr, isS, others, abf, abH, adC, aiJ, cls, e1, eA, eB, lt, bOf, eC]
end K51
end
section
namespace K51
open PySem L2 BH
theorem atG : aqM [.exn "NoBook", .int 0] = .ok (.bl true, false) := by kernel_rfl
noncomputable def caB : SF := (sIf (abn (eOp gEq (aah 0) (eC (.int 0)))) (ac1 (aaA abj (aaf (aah 1) aar))) (ac1 (aaA aaX (aaf (aah 1) aar))))
theorem arn (w : Int) : gEq (.int w) (.int 0) = .ok (.bl (w == 0), false) := by
 unfold gEq
 rw [aaw, aaw, if_pos (by omega), aaO]
theorem aro {w : Int} {T T1 T2 : Tr} {f1 f2 : Bool} (s2 s3 : Sl) (h1 : abj [T] = .ok (T1, f1)) (h2 : aaX [T] = .ok (T2, f2)) : caB [.sh (.int w), .sh T, s2, s3] = .ok (.nx, [.sh (.int w), .sh T, s2, s3]) := by
 have e := arn w
 unfold caB
 generalize (w == 0) = b at e
 cases b <;> simp -dsimp [drs, dr, isS, e, bOf, h1, h2]
theorem arp {w : Int} {T : Tr} (s2 s3 : Sl) (h1 : abj [T] = .ex "NoBook") (h2 : aaX [T] = .ex "NoBook") : caB [.sh (.int w), .sh T, s2, s3] = .ex "NoBook" := by
 have e := arn w
 unfold caB
 generalize (w == 0) = b at e
 cases b <;> simp -dsimp [drs, dr, isS, e, bOf, h1, h2]
noncomputable def isOne (T : Tr) (w : Bool) : Prop := (w = true /\ afI T = false) \/ (w = false /\ ∃ (c : Nat) (rows : List (List (Int × Int))), T = bkT rows /\ Bk c rows)
noncomputable def ctT : Bool -> Tr
 | true => .exn "NoBook"
 | false => .non
theorem alc {w : Int} {T : Tr} {b : Bool} (h : isOne T b) : adU [.int w, T] = .ok (ctT b, false) := by
 have e : alu ["NoBook"] 3 caB (abA (aah 3) (gN 2)) [.sh (.int w), .sh T, .sh .non, .un] = .ok (.nx, [.sh (.int w), .sh T, .sh (ctT b), .un]) := by
  rcases h with ⟨rfl, h⟩ | ⟨rfl, c, rows, rfl, hb⟩
  ·rw [aoG (arp (.sh .non) .un (ahT h) (ak1 h)) (by simp)]
   rfl
  ·exact aoF (aro (.sh .non) .un (ahS hb) (ak3 hb))
 show fnP 4 (aaN (abA (eC .non) (gN 2)) (aaN (alu ["NoBook"] 3 caB (abA (aah 3) (gN 2))) (abR (aah 2)))) [.int w, T] = _
 generalize alu _ _ _ _ = G at e ⊢
 generalize ctT b = X at *
 unfold fnP
 simp -dsimp [aaH, e]
noncomputable def inB : SF := (aaN (abA (aaA adU (aaf (aah 5) (aaf (aah 3) aar))) (gN 6)) (sIf (bOr (ao0 (aes (aah 4)) (agQ (aes (aaA aqM (aaf (aah 6) (aaf (eC (.int 0)) aar)))))) (ao0 (agQ (aes (aah 4))) (abn (eOp (gIs not) (aah 6) (eC .non))))) (abR (eC (.bl false))) aeu))
theorem arq {T : Tr} {b : Bool} (h : isOne T b) (w : Int) (s0 s1 s2 s6 : Sl) : inB [s0, s1, s2, .sh T, .sh (.bl b), .sh (.int w), s6] = .ok (.nx, [s0, s1, s2, .sh T, .sh (.bl b), .sh (.int w), .sh (ctT b)]) := by
 have e := alc (w := w) h
 have ei := atG
 have en : gIs not .non .non = .ok (.bl false, false) := rfl
 unfold inB
 cases b with
 | true =>
  unfold ctT at *
  simp -dsimp [drs, dr, isS, e, ei, tru]
 | false =>
  unfold ctT at *
  simp -dsimp [drs, dr, isS, e, en, bOf, tru]
theorem ald {T : Tr} {b : Bool} (h : isOne T b) (s0 s1 s2 : Sl) : ∀ (ws : List Int) (s5 s6 : Sl), ∃ t5 t6, acM (gN 5) inB (ws.map Tr.int) [s0, s1, s2, .sh T, .sh (.bl b), s5, s6] = .ok (.nx, [s0, s1, s2, .sh T, .sh (.bl b), t5, t6])
 | [], s5, s6 => ⟨s5, s6, rfl⟩
 | w :: ws, s5, s6 => by
  obtain ⟨r5, r6, e'⟩ := ald h s0 s1 s2 ws (.sh (.int w)) (.sh (ctT b))
  refine ⟨r5, r6, ?_⟩
  rw [List.map_cons]
  unfold acM
  rw [show gN 5 (Tr.int w) [s0, s1, s2, .sh T, .sh (.bl b), s5, s6] = .ok [s0, s1, s2, .sh T, .sh (.bl b), .sh (.int w), s6] from rfl]
  simp only [Rs.aa2]
  rw [arq h]
  exact e'
noncomputable def lwC : SF := (agT (fSq (eCL [.int 0, .int 1, .int 1, .int 0])) (gN 5) inB)
noncomputable def lwI : SF := (sIf (aes (aah 4)) (abA (aaY 0 acD (aaf (aah 1) (aaf (aah 3) aar))) (gN 3)) aeu)
noncomputable def lwB : SF := (aaN (abA (aaY 0 afF (aaf (aah 1) aar)) (gN 3)) (aaN (abA (eOp gGt (aaY 0 aa6 (aaf (aah 1) (aaf (eC (.int 4)) aar))) (eC (.int 0))) (gN 4)) (aaN lwI lwC)))
theorem aoM : aqN = (aaN (ajO 1 (aaA aek (aaf (aah 0) aar))) (aaN (aev (agT (ahz (aaf (eC (.int 6)) aar)) (gN 2) lwB)) (abR (eC (.bl true))))) := rfl
theorem ars (s0 : Sl) (a b : Int) (s2 s3 s4 s5 s6 : Sl) : ∃ (a' b' : Int) (t3 t4 t5 t6 : Sl), lwB [s0, .ow [.int a, .int b], s2, s3, s4, s5, s6] = .ok (.nx, [s0, .ow [.int a', .int b'], s2, t3, t4, t5, t6]) := by
 obtain ⟨a1, b1, rows, c, e1, hb⟩ := aoI a b
 obtain ⟨x, a2, b2, e2, x0, x1⟩ := ace a1 b1 4 (by omega) (by decide)
 have eg : gGt (.int x) (.int 0) = .ok (.bl (decide (x > 0)), false) := rfl
 obtain ⟨a3, b3, T, hT, eI⟩ : ∃ (a3 b3 : Int) (T : Tr), isOne T (decide (x > 0)) /\ lwI [s0, .ow [.int a2, .int b2], s2, .sh (bkT rows), .sh (.bl (decide (x > 0))), s5, s6] = .ok (.nx, [s0, .ow [.int a3, .int b3], s2, .sh T, .sh (.bl (decide (x > 0))), s5, s6]) := by
  cases z : decide (x > 0) with
  | true =>
   obtain ⟨T, fr, a3, b3, e3, hT⟩ := ajn hb a2 b2
   refine ⟨a3, b3, T, .inl ⟨rfl, hT⟩, ?_⟩
   generalize bkT rows = B at *
   unfold lwI
   simp -dsimp [con, drs, dr, isS, others, abf, tru, e3]
  | false =>
   refine ⟨a2, b2, bkT rows, .inr ⟨rfl, c, rows, rfl, hb⟩, ?_⟩
   generalize bkT rows = B at *
   unfold lwI
   simp -dsimp [con, drs, dr, isS, others, abf, tru]
 obtain ⟨t5, t6, eL⟩ := ald hT s0 (.ow [.int a3, .int b3]) s2 [0, 1, 1, 0] s5 s6
 have eC : lwC [s0, .ow [.int a3, .int b3], s2, .sh T, .sh (.bl (decide (x > 0))), s5, s6] = .ok (.nx, [s0, .ow [.int a3, .int b3], s2, .sh T, .sh (.bl (decide (x > 0))), t5, t6]) := eL
 refine ⟨a3, b3, .sh T, .sh (.bl (decide (x > 0))), t5, t6, ?_⟩
 generalize decide (x > 0) = d at *
 unfold lwB
 generalize lwC = G1 at *
 generalize lwI = G2 at *
 generalize bkT rows = B at *
 simp -dsimp [con, drs, dr, isS, others, abf, e1, e2, eg, eI, eC]
theorem ale (s0 : Sl) : ∀ (us : List Tr) (a b : Int) (s2 s3 s4 s5 s6 : Sl), ∃ t1 t2 t3 t4 t5 t6, acM (gN 2) lwB us [s0, .ow [.int a, .int b], s2, s3, s4, s5, s6] = .ok (.nx, [s0, t1, t2, t3, t4, t5, t6])
 | [], a, b, s2, s3, s4, s5, s6 => ⟨_, s2, s3, s4, s5, s6, rfl⟩
 | u :: us, a, b, s2, s3, s4, s5, s6 => by
  obtain ⟨a', b', t3, t4, t5, t6, e⟩ := ars s0 a b (.sh u) s3 s4 s5 s6
  obtain ⟨r1, r2, r3, r4, r5, r6, e'⟩ := ale s0 us a' b' (.sh u) t3 t4 t5 t6
  refine ⟨r1, r2, r3, r4, r5, r6, ?_⟩
  unfold acM
  simp [e, e']
theorem aru (ns : List Int) : ajh [.lst (ns.map .int)] = .ok (.bl true, false) := by
 obtain ⟨a, b, e1⟩ := amI ns
 obtain ⟨t1, t2, t3, t4, t5, t6, e⟩ := ale (.sh (.lst (ns.map .int))) (L2.upTo 0 6) a b .un .un .un .un .un
 have e2 : aev (agT (ahz (aaf (eC (.int 6)) aar)) (gN 2) lwB) [.sh (.lst (ns.map .int)), .ow [.int a, .int b], .un, .un, .un, .un, .un] = .ok (.nx, [.sh (.lst (ns.map .int)), t1, t2, t3, t4, t5, t6]) := by
  show abH (acM (gN 2) lwB (L2.upTo 0 6) _) = _
  rw [e]
  rfl
 unfold ajh
 rw [aoM]
 generalize aev _ = G at e2 ⊢
 generalize Tr.lst (ns.map .int) = S at *
 unfold fnP
 simp -dsimp [aaH, drs, dr, isS, e1, e2]
end K51
end
section
namespace L2
open PySem PySem.Spec PyProof.Rows PySem.W
theorem alf {P : Program} {w : World} {K : PySem.W.Frag} {mg mb : Str -> Option Value} {CX : CXT} {k : Nat} {fa a : Addr} {x : Str} {sp : Sp} {s₁ : Shared} {vs : List Value} {ns : List Int}
  (KX : K.In s₁.heap) (hns : s₁.heap.Ns mainGlobals mg) (hb : s₁.heap.Ns builtinsNs mb) (hbb : ∀ x : Str, x ≠ "__name__" -> mb x = bootBuiltins x) (hlim : s₁.heap.NoLimit) (hg : s₁.gens = #[])
  (ha : s₁.heap.get? a = some { cls := .type "list", data := .seq vs.toArray }) (hi : IntsAre vs ns) (hl : ns.length <= sizeLine) (hr : aeC k callerA)
  (hT : ∀ x ∈ ab1, ∀ c b, tabIn K x = some (c, b) -> CodeHd s₁.heap c b /\ s₁.heap.get? b = some (tabObj #[])) (hNT : noTabs K = true) (hB : aqA mg s₁.heap)
  (F : ∀ base : Heap, K.In base -> base.Ns mainGlobals mg -> (∀ x ∈ ab1, ∀ c b, tabIn K x = some (c, b) -> CodeHd base c b) -> aqA mg base -> ∃ fd : FuncData, (∀ (s : Shared) (u : Value), K.In s.heap -> BindsTo s fd ⟨[u], []⟩ [(x, u)]) /\ aiu P w K mg base CX k fa fd [x] sp)
  (hsp : ∀ H : Hp, TbS (nlK K) H -> SqX K H a (ns.map V.int) -> sp [.ref a] H (λv _ => v = .bl true) λ_ _ _ => False)
  (hCX : ∀ H e s', CX [] H s₁ (λ_ _ _ => False) e s' -> False) :
  codeAny (model P w) callerA (.call (.ref fa) ⟨[.ref a], []⟩) (λr s' => r = .ok (.ret (.bool true)) /\ OldK s₁.heap s'.heap /\ s'.os = s₁.os /\ AllBare s'.gens) s₁ := by
 have rv := agK hi
 have lenV := hi.length
 -- from an abstract heap in which nothing but the script may be tracked
 have hT' : ∀ b, Tb (nlK K) b -> ∃ c, CodeHd s₁.heap c b /\ s₁.heap.get? b = some (tabObj #[]) := λb ⟨x, hx, c, e⟩ => ⟨c, hT x hx c b (aml e)⟩
 have core : ∀ H : Hp, (∀ b, H b = none \/ (∃ o xs, H b = some (.frz o (.lst xs))) \/ (H b = some (.tbl #[]) /\ Tb (nlK K) b)) -> TbS (nlK K) H -> SqX K H a (ns.map V.int) -> HOk P w H s₁.heap -> (∀ b, H b ≠ none -> b = a \/ Tb (nlK K) b) -> (H a ≠ none -> K.lookup a = none) ->
   codeAny (model P w) callerA (.call (.ref fa) ⟨[.ref a], []⟩) (λr s' => r = .ok (.ret (.bool true)) /\ OldK s₁.heap s'.heap /\ s'.os = s₁.os /\ AllBare s'.gens) s₁ := by
  intro H hO hTb hS hok hA hK
  have agp : ∀ {b : Addr} {o : Obj}, s₁.heap.get? b = some o -> H b = none -> (alv s₁.heap H).get? b = some o := λe n => alw e n
  have noA : ∀ {b : Addr} {o : Obj} {es : Array DictEntry} {ep : Nat}, s₁.heap.get? b = some o -> o.data = .dict es ep -> H b = none := λ{b o es ep} e d => by
   cases q : H b with
   | none => rfl
   | some u =>
    rcases hA b (by rw [q]; simp) with e' | e'
    ·subst e'
     rw [ha] at e; cases e
     have d' : Data.seq vs.toArray _ = Data.dict es ep := d
     cases d'
    ·obtain ⟨c, _, z⟩ := hT' b e'
     rw [z] at e; cases e
     cases d
  have nsK : ∀ {b : Addr} {m : Str -> Option Value}, s₁.heap.Ns b m -> (alv s₁.heap H).Ns b m := λ{b m} ⟨o, es, ep, e, d, r⟩ => ⟨o, es, ep, agp e (noA e d), d, r⟩
  have hKb : K.In (alv s₁.heap H) := λb o e => agp (KX b o e) (by
   cases q : H b with
   | none => rfl
   | some u =>
    rcases hA b (by rw [q]; simp) with e' | e'
    ·subst e'
     rw [hK (by rw [q]; simp)] at e; cases e
    ·obtain ⟨c, _, z⟩ := hT' b e'
     have z2 := KX b o e
     rw [z] at z2
     cases z2
     have h2 := List.all_eq_true.mp hNT (b, _) (mem_of_lookupK e)
     exact absurd (show false = true from h2) Bool.false_ne_true)
  have hM : Mod K mg (alv s₁.heap H) := ⟨hKb, nsK hns, ⟨mb, nsK hb, hbb⟩, let ⟨mc, h1, h2⟩ := hlim; ⟨mc, nsK h1, h2⟩⟩
  have e0 : arD P w K mg (alv s₁.heap H) callerA [] s₁ H := ⟨rfl, hM, λb o e => anm e, Nat.le_of_eq (ajQ _ _), trivial, λb hb => absurd (show b ∈ ([] : List Addr) from hb) (by simp), hok, .of_eq hg⟩
  have free : ∀ {b : Addr} {o : Obj}, s₁.heap.get? b = some o -> o.cls ≠ .none -> (∀ its n, o.data ≠ .seq its n) -> H b = none := λ{b o} e n1 n2 => by
   cases q : H b with
   | none => rfl
   | some u =>
    rcases hA b (by rw [q]; simp) with e' | e'
    ·subst e'
     rw [ha] at e; cases e
     exact (n2 _ _ rfl).elim
    ·obtain ⟨c, _, z⟩ := hT' b e'
     rw [z] at e; cases e
     exact (n1 rfl).elim
  obtain ⟨fd, hbind, F1⟩ := F _ hKb (nsK hns) (λx hx c b e => by
   obtain ⟨o, vs', file, tf, flags, tg, inF, text, tt, e1, r1, r2, r3⟩ := (hT x hx c b e).1
   exact ⟨o, vs', file, tf, flags, tg, inF, text, tt, agp e1 (free e1 (by rw [r1]; intro z; cases z) (λ_ _ z => by rw [r2] at z; cases z)), r1, r2, r3⟩) (by
   obtain ⟨bm, ob, b1, b2, b3, b4, b5, b6, b7⟩ := hB
   exact ⟨bm, ob, b1, b2, b3, agp b4 (free b4 (by rw [b5]; intro z; cases z) (λ_ _ z => by rw [b7] at z; cases z)), b5, b6, b7⟩)
  refine codeAny_mono (F1.run callerA [] s₁ H ⟨[.ref a], []⟩ [.ref a] [.ref a] _ _ hr e0 (hbind s₁ (.ref a) KX) (.cons rfl .nil) (hsp H hTb hS)) λr s' h => ?_
  cases r with
  | error e => exact (hCX H e s' h).elim
  | ok fl =>
   cases fl with
   | next => exact False.elim h
   | brk => exact False.elim h
   | cont => exact False.elim h
   | ret u =>
    obtain ⟨v, H', os, bare, un, hok', r', q⟩ := h
    have q' : v = .bl true := q
    subst q'
    obtain rfl : u = Value.bool true := r'
    refine ⟨rfl, ⟨λb o e => ?_, λb o e => un.there b o e (by simp)⟩, os, bare⟩
    cases q : H b with
    | none => exact .inl (un.keep b o e q (by intro z; exact absurd (show b ∈ ([] : List Addr) from z) (by simp)) (by simp))
    | some u =>
     rcases hO b with z | ⟨ob, xs, z⟩ | ⟨z, zt⟩
     ·rw [q] at z; cases z
     ·have z2 := un.aif b ob _ z
      obtain ⟨e1, _⟩ := hok b _ z
      obtain ⟨e2, _⟩ := hok' b _ z2
      rw [e] at e1; cases e1
      exact .inl e2
     ·obtain ⟨more, z2⟩ := un.aii b _ z
      have e1 : s₁.heap.get? b = some (tabObj #[]) := hok b _ z
      have e2 : s'.heap.get? b = some (tabObj (#[] ++ more)) := hok' b _ z2
      rw [e] at e1; cases e1
      obtain ⟨c, hc, _⟩ := hT' b zt
      exact .inr (.inl ⟨(hc.tab e).isCodeTable, rfl, #[], more, rfl, e2⟩)
 classical
 have auM : ∀ H : Hp, (∀ b, Tb (nlK K) b -> H b = some (.tbl #[])) -> TbS (nlK K) H := λH h x hx c b e => ⟨#[], h b ⟨x, hx, c, e⟩, trivial, λpos v z => by cases z⟩
 have nTa : ¬ Tb (nlK K) a := λz => by
  obtain ⟨c, _, e⟩ := hT' a z
  rw [ha] at e
  cases e
 cases hk : K.lookup a with
 | some o =>
  have e := KX a o hk
  rw [ha] at e
  cases e
  refine core (λb => if Tb (nlK K) b then some (.tbl #[]) else none) (λb => ?_) (auM _ λb z => if_pos z) (.inr ⟨vs.toArray, _, hk, by rw [List.size_toArray, lenV]; exact hl, by simpa using rv⟩) (λb u z => ?_) (λb z => ?_) λz => ?_
  ·by_cases q : Tb (nlK K) b
   ·exact .inr (.inr ⟨if_pos q, q⟩)
   ·exact .inl (if_neg q)
  ·by_cases q : Tb (nlK K) b
   ·have z' := (if_pos q).symm.trans z
    cases z'
    obtain ⟨c, _, e⟩ := hT' b q
    exact e
   ·have z' := (if_neg q).symm.trans z
    cases z'
  ·by_cases q : Tb (nlK K) b
   ·exact .inr q
   ·exact absurd (if_neg q) z
  ·exact absurd (if_neg nTa) z
 | none =>
  refine core (λb => if b = a then some (.frz { cls := .type "list", data := .seq vs.toArray } (.lst (ns.map V.int))) else if Tb (nlK K) b then some (.tbl #[]) else none) (λb => ?_) (auM _ λb z => by
   have nb : ¬ b = a := λq => nTa (by rw [<-q]; exact z)
   exact (if_neg nb).trans (if_pos z)) (.inl (.inr ⟨{ cls := .type "list", data := .seq vs.toArray }, if_pos rfl⟩)) (λb u z => ?_) (λb z => ?_) λ_ => hk
  ·by_cases hb : b = a
   ·exact .inr (.inl ⟨_, _, if_pos hb⟩)
   ·by_cases q : Tb (nlK K) b
    ·exact .inr (.inr ⟨(if_neg hb).trans (if_pos q), q⟩)
    ·exact .inl ((if_neg hb).trans (if_neg q))
  ·by_cases hb : b = a
   ·have z' := (if_pos hb).symm.trans z
    cases z'
    subst hb
    exact ⟨ha, by rw [List.length_map]; exact hl, vs, _, rv, ha⟩
   ·have z' := (if_neg hb).symm.trans z
    by_cases q : Tb (nlK K) b
    ·have z' := (if_pos q).symm.trans z'
     cases z'
     obtain ⟨c, _, e⟩ := hT' b q
     exact e
    ·have z' := (if_neg q).symm.trans z'
     cases z'
  ·by_cases hb : b = a
   ·exact .inl hb
   ·by_cases q : Tb (nlK K) b
    ·exact .inr q
    ·exact absurd ((if_neg hb).trans (if_neg q)) z
theorem amJ {l : PySem.W.OpenLaw} {n k : Nat} {q : Program} {loose : List Str} {XP : (Str -> Option Value) -> Heap -> Prop} {YP : World -> Heap -> Prop} {d : DefRec} {K : Params -> PySem.W.Frag} {CX : World -> CXT} {sp : World -> Sp} {x : Str}
  (hn : l.most = some n) (hn2 : n <= sizeLine) (hdf : d.params.defaults = []) (hr : aeC k callerA)
  (arv : ∀ x ∈ ab1, ((recsOf q).find? (λe => e.name == x)).isSome = true \/ ∀ w : World, nsIn (K w.params) mainGlobals x = some none) (hNT : ∀ w : World, noTabs (K w.params) = true)
  (hY : ∀ (w : World) (h : Heap), YP w h -> (K w.params).In h)
  (F : ∀ (w : World) (mg : Str -> Option Value) (fa : Addr) (h : Heap), (K w.params).In h -> h.Ns mainGlobals mg -> mg d.name = some (.ref fa) ->
   ∀ base : Heap, (K w.params).In base -> base.Ns mainGlobals mg -> (∀ x ∈ ab1, ∀ c b, tabIn (K w.params) x = some (c, b) -> CodeHd base c b) -> aqA mg base -> ∃ fd : FuncData, (∀ (s : Shared) (u : Value), (K w.params).In s.heap -> BindsTo s fd ⟨[u], []⟩ [(x, u)]) /\ aiu l.prog w (K w.params) mg base (CX w) k fa fd [x] (sp w))
  (hsp : ∀ (w : World) (H : Hp) (a : Addr) (ns : List Int), ns.length <= n -> TbS (nlK (K w.params)) H -> SqX (K w.params) H a (ns.map V.int) -> sp w [.ref a] H (λv _ => v = .bl true) λ_ _ _ => False)
  (hCX : ∀ (w : World) (H : Hp) (s : Shared) (e : Value) (s' : Shared), CX w [] H s (λ_ _ _ => False) e s' -> False) :
  PySem.W.WalkO q loose XP YP l.row.toRowW d [] (λf vs => PySem.call f vs) := by
 refine Att.ahs hn hdf λw s₀ s₁ mg mb fa o pm cd doc a vs ns G Y ho hd hcd hmg hobj hints hlen hg => ?_
 have KX := hY w _ Y
 have hT : ∀ x ∈ ab1, ∀ c b, tabIn (K w.params) x = some (c, b) -> CodeHd s₁.heap c b /\ s₁.heap.get? b = some (tabObj #[]) := λx hx c b e => by
  rcases arv x hx with z | z
  ·obtain ⟨d, z⟩ := Option.isSome_iff_exists.mp z
   exact tab_of G.T KX z e
  ·rw [amm (z w)] at e; cases e
 have hB : aqA mg s₁.heap := by
  obtain ⟨bm, ob, b1, b2, b3, b4, b5, b6⟩ := G.T.bmain
  refine ⟨bm, ob, b1, b2, λz => ?_, b3, b4, b5, b6⟩
  obtain ⟨o, es, ep, e, hd, _⟩ := G.T.g
  rw [z, e] at b3; cases b3
  rw [hd] at b6; cases b6
 exact alf KX G.T.g G.T.b G.T.builtins G.T.nolimit hg hobj hints (Nat.le_trans hlen hn2) hr hT (hNT w) hB (F w mg fa _ KX G.T.g hmg) (λH hO hS => hsp w H a ns hlen hO hS) λH e s' => hCX w H s₁ e s'
end L2
end
section
namespace K51
open PySem L2 BH PySem.W
section
variable {K : Frag} {mg : Str -> Option Value} {h : Heap}
theorem acf {x : Str} {st : Stmt} (X : K.In h) (G : h.Ns mainGlobals mg) {f : Addr} {od an : Option Addr} {sl : Array (Option Value)} {oc kV dc pm cd ct : Value}
  (a : nsIn K mainGlobals x = some (some (.ref f))) (l : K.lookup f = some ⟨oc, od, .func (fnOf x x (ac5 st) (abW st) (aal st) .none kV dc pm an cd ct), sl⟩) (c : codeIn K cd x = true) (k : keepIn K (.ref f) = true) : At K mg x st :=
 ⟨f, _, apG (st := st) l c k, mg_of X G a⟩
theorem anl {x : Str} {i : Int} {tk : Tok} (X : K.In h) (G : h.Ns mainGlobals mg) (a : nsIn K mainGlobals x = some (some (.int i tk))) : Gk K mg x (.int i) (.int i) := ⟨.int i tk, mg_of X G a, by first | exact rfl | exact ⟨_, rfl⟩, λ_ => .int i⟩
theorem alg (H : Hp) : aaQ (λ_ => False) H = H := by
 funext b
 exact aaB (λz => z)
theorem aha {K : Frag} {H : Hp} : ∀ ns : List Int, aaK K H (ns.map V.int) (ns.map Tr.int)
 | [] => .nil
 | n :: ns => .cons (.int n) (aha ns)
noncomputable def spL (K : Frag) (n : Nat) (F : FP) : Sp := λvs H Q E => ∃ Z ts, vs.length = n /\ aaK (nlK K) (aaQ Z H) vs ts /\ (∀ b, Z b -> Lt H b) /\ TbS (nlK K) H /\ ∃ p, F ts = .ok p /\ ∀ v H', SmT (nlK K) H H' -> VRt (nlK K) Z H H' v p.1 p.2 -> Q v H'
theorem aoN {K : Frag} {cl : Str -> Addr} {n : Nat} {F : FP} (vs : List V) (H : Hp) (Q : VK) (E : XK) (h : spL K n F vs H Q E) : spP K cl n F vs H Q E := by
 obtain ⟨Z, ts, h1, h2, h3, h4, p, h5, h6⟩ := h
 refine ⟨Z, ts, h1, h2, h3, h4, ?_⟩
 rw [h5]
 exact h6
theorem atH (X : K.In h) (G : h.Ns mainGlobals mg) (z0 : nsIn K mainGlobals "ValueError" = some none) (z1 : nsIn K mainGlobals "abs" = some none) (z2 : nsIn K mainGlobals "all" = some none) (z3 : nsIn K mainGlobals "any" = some none) (z4 : nsIn K mainGlobals "bool" = some none) (z5 : nsIn K mainGlobals "int" = some none) (z6 : nsIn K mainGlobals "isinstance" = some none) (z7 : nsIn K mainGlobals "len" = some none) (z8 : nsIn K mainGlobals "list" = some none) (z9 : nsIn K mainGlobals "min" = some none) (z10 : nsIn K mainGlobals "range" = some none) (z11 : nsIn K mainGlobals "tuple" = some none) : Nm mg :=
 ⟨mg_none_of X G z0, mg_none_of X G z1, mg_none_of X G z2, mg_none_of X G z3, mg_none_of X G z4, mg_none_of X G z5, mg_none_of X G z6, mg_none_of X G z7, mg_none_of X G z8, mg_none_of X G z9, mg_none_of X G z10, mg_none_of X G z11⟩
end
section
variable {P : Program} {w : World} {K : Frag} {mg : Str -> Option Value} {base : Heap}
theorem atJ (M : Nm mg) {adq : Addr} (aeU : PyProof.Rows.OwnCls "NoBook" adq bmV "ValueError.__new__" mg base) (XT : ahG K) (adV : Cg K mg "NoBook" adq) {ael : Addr} (adt : Cg K mg "NoBottom" ael) {afe : Addr} (adW : Cg K mg "NoCount" afe) {agd : Addr} (aeQ : Cg K mg "NoLine" agd) {agf : Addr} (aeR : Cg K mg "NoList" agf) {afg : Addr} (adX : Cg K mg "NoLooks" afg) {agg : Addr} (aeS : Cg K mg "NoRule" agg) {afh : Addr} (adY : Cg K mg "NoSlack" afh) {agh : Addr} (aeT : Cg K mg "NoText" agh) {afi : Addr} (adZ : Cg K mg "NoThing" afi) {aem : Addr} (adu : Cg K mg "NoThings" aem) {afj : Addr} (ad0 : Cg K mg "NoWorth" afj) {afk : Addr} (ad1 : Cg K mg "NotSure" afk) {afl : Addr} (ad2 : Cg K mg "TooMany" afl) {adH : Addr} (acT : Cg K mg "HeadError" adH) (ajo : At K mg "is_whole" aeh) (aeJ : At K mg "common_divisor" abY) (ahb : At K mg "frac_below" adh) (agq : At K mg "is_fraction" acS) (ajp : At K mg "is_worth" aei) (ahc : At K mg "are_worths" acp) (alh : At K mg "is_book" adi) (ahX : At K mg "need_book" adE) (aoO : At K mg "beats" afd) (agr : At K mg "unbeaten_of" abO) (ajq : At K mg "unbeaten" aej) (ags : At K mg "book_layers" ab2) (aoP : At K mg "_law_purse" ahH) (arw : At K mg "_law_draw" akL) (arx : At K mg "_law_frac" akM) (aoQ : At K mg "_law_worth" ahI) (aoR : At K mg "_law_lists" ahJ) (arz : At K mg "_law_book" akN) (ali : At K mg "_law_no_book" adk) (avm : At K mg "_law_is" arL) (amK : At K mg "_law_caught" aga) (atL : At K mg "law" aon) {adl : V} (acr : Gk K mg "MOST_LISTS" adl (.int 4)) {acV : V} (ab3 : Gk K mg "MOST_THINGS" acV (.int 12)) : DfX P w K mg base 9 "law" (["_law_script"] : List Str) (spL K 1 ajh) := by
 obtain ⟨cl, aiX⟩ : ∃ cl : Str -> Addr, cl "NoBook" = adq := ⟨λx => if x = ("NoBook" : Str) then adq else 0, if_pos rfl⟩
 rw [<-aiX] at aeU
 have XC : XCl K cl (["NoBook"] : List Str) := List.forall_mem_cons.mpr ⟨⟨by decide +kernel, by rw [aiX]; exact adV.1⟩, λ_ h => nomatch h⟩
 have ajr := ahL (P := P) (w := w) (base := base) (cl := cl) ajo M XT
 have aeK := aen (P := P) (w := w) (base := base) (cl := cl) aeJ M
 have ahd := agj (P := P) (w := w) (base := base) (cl := cl) ahb M
 have agt := afr (P := P) (w := w) (base := base) (cl := cl) agq M XT ajr aeK
 have ajs := ahM (P := P) (w := w) (base := base) (cl := cl) ajp M agt
 have ahe := agi (P := P) (w := w) (base := base) (cl := cl) ahc M XT ajs
 have alj := ajk (P := P) (w := w) (base := base) (cl := cl) alh M acr ab3 XT ahe
 have afm := ag6 (P := P) (w := w) (base := base) (cl := cl) ahX M aeU alj
 have aoS := amt (P := P) (w := w) (base := base) (cl := cl) aoO M ahd
 have ad4 := afs (P := P) (w := w) (base := base) (cl := cl) agr M aoS
 have ajt := ahN (P := P) (w := w) (base := base) (cl := cl) ajq M afm ad4
 have agu := afq (P := P) (w := w) (base := base) (cl := cl) ags M afm ad4
 have aoT := aou (P := P) (w := w) (base := base) (cl := cl) aoP M
 have aiY := aqP (P := P) (w := w) (base := base) arw M
 have arA := aqQ (P := P) (w := w) (base := base) (cl := cl) arx M
 have aoU := aov (P := P) (w := w) (base := base) (cl := cl) aoQ M aiY arA
 have aoV := aos (P := P) (w := w) (base := base) aoR M aoU
 have arB := aqO (P := P) (w := w) (base := base) arz M aoV aiY
 have alk := akR (P := P) (w := w) (base := base) ali M aiY
 have avn := avf (P := P) (w := w) (base := base) (cl := cl) avm M XT adV adt adW aeQ aeR adX aeS adY aeT adZ adu ad0 ad1 ad2
 have amL := ams (P := P) (w := w) (base := base) (cl := cl) amK M XT XC acT ajt agu
 have atM := aqR (P := P) (w := w) (base := base) (cl := cl) atL M aoT arB aiY alk amL avn
 obtain ⟨f, fd, h1, h2⟩ := atM
 exact ⟨f, fd, h1.imp aoN, h2⟩
end
theorem walk {l : OpenLaw} {q : Program} {loose : List Str} {XP : (Str -> Option Value) -> Heap -> Prop} {YP : World -> Heap -> Prop} {d : DefRec} {K : Params -> Frag} (hn : l.most = some 63) (hdf : d.params.defaults = []) (hd : d.name = "law")
  (arv : ∀ x ∈ ab1, ((PyProof.Rows.recsOf q).find? (λe => e.name == x)).isSome = true \/ ∀ w : World, nsIn (K w.params) mainGlobals x = some none) (hNT : ∀ w : World, noTabs (K w.params) = true)
  (hY : ∀ (w : World) (h : Heap), YP w h -> (K w.params).In h)
  (F : ∀ (w : World) (mg : Str -> Option Value) (h : Heap), (K w.params).In h -> h.Ns mainGlobals mg -> ∀ base : Heap, (K w.params).In base -> base.Ns mainGlobals mg -> (∀ x ∈ ab1, ∀ c b, tabIn (K w.params) x = some (c, b) -> CodeHd base c b) -> aqA mg base -> DfX l.prog w (K w.params) mg base 9 "law" (["_law_script"] : List Str) (spL (K w.params) 1 ajh)) :
  WalkO q loose XP YP l.row.toRowW d [] (λf vs => PySem.call f vs) :=
 L2.amJ (n := 63) (k := 9) (x := "_law_script") (CX := λw => CXF l.prog w) (sp := λw => spL (K w.params) 1 ajh) hn (by decide) hdf ⟨rfl, by decide, by decide, rfl⟩ arv hNT hY
  (λw mg fa h KX G hm base kb gb hc bm => by
   obtain ⟨f, fd, h1, h2, _, h4⟩ := F w mg h KX G base kb gb hc bm
   rw [hd] at hm
   cases h4.symm.trans hm
   exact ⟨fd, λs u ks => h2 s [u] ks rfl, h1⟩)
  (λw H a ns hl hTb hS => ⟨λ_ => False, [.lst (ns.map .int)], rfl, .cons (.lst ((alg H).symm ▸ hS.toN) (aha ns)) .nil, λb z => z.elim, hTb, _, aru ns, λv H' _ r => by
   cases r
   rfl⟩)
  λw H s e s' h => by
   obtain ⟨_, _, _, _, _, _, z, _⟩ := h
   exact z
end K51
end
section
namespace PySem.W.Fast
end PySem.W.Fast
namespace PySem.W.Fast
end PySem.W.Fast
namespace PySem.W.Fast
theorem tw10093867226713805401 : True := ⟨⟩
theorem tw10252311928306002194 : True := ⟨⟩
theorem tw10479559471281580048 : True := ⟨⟩
theorem tw10501134564670459817 : True := ⟨⟩
theorem tw10600905003971315857 : True := ⟨⟩
theorem tw10783410126562689748 : True := ⟨⟩
theorem tw10830157350104925941 : True := ⟨⟩
theorem tw10910145931538541296 : True := ⟨⟩
theorem tw11347434142683403439 : True := ⟨⟩
theorem tw11953895622499497419 : True := ⟨⟩
theorem tw12391533340753023389 : True := ⟨⟩
theorem tw12620674700635997886 : True := ⟨⟩
theorem tw126236477759972238 : True := ⟨⟩
theorem tw12753056418881699736 : True := ⟨⟩
theorem tw12968862808059872732 : True := ⟨⟩
theorem tw13079846624601914375 : True := ⟨⟩
theorem tw13448983289738368428 : True := ⟨⟩
theorem tw13605553666662085640 : True := ⟨⟩
theorem tw13676916944086805819 : True := ⟨⟩
theorem tw13746841388396511264 : True := ⟨⟩
theorem tw13829421018415575074 : True := ⟨⟩
theorem tw1390925998261905095 : True := ⟨⟩
theorem tw14078744143691093801 : True := ⟨⟩
theorem tw14387468768588711302 : True := ⟨⟩
theorem tw14542311342344789183 : True := ⟨⟩
theorem tw14582868679680937081 : True := ⟨⟩
theorem tw15032737006567942622 : True := ⟨⟩
theorem tw15055211635835529642 : True := ⟨⟩
theorem tw15055280531867014499 : True := ⟨⟩
theorem tw15483706471468689814 : True := ⟨⟩
theorem tw15505997629530628484 : True := ⟨⟩
theorem tw15568854489590944604 : True := ⟨⟩
theorem tw1572954414833786518 : True := ⟨⟩
theorem tw16267066722015716681 : True := ⟨⟩
theorem tw16518054327889551570 : True := ⟨⟩
theorem tw16526574452824651741 : True := ⟨⟩
theorem tw16597387869183929732 : True := ⟨⟩
theorem tw16653818698280497318 : True := ⟨⟩
theorem tw16721502909538768323 : True := ⟨⟩
theorem tw17017406593427775945 : True := ⟨⟩
theorem tw17221503311133496733 : True := ⟨⟩
theorem tw1752575673036551486 : True := ⟨⟩
theorem tw17569507427615634372 : True := ⟨⟩
theorem tw17617080857405634251 : True := ⟨⟩
theorem tw17676129595108797811 : True := ⟨⟩
theorem tw17704729653470035543 : True := ⟨⟩
theorem tw17814835623064525974 : True := ⟨⟩
theorem tw1788516602533342078 : True := ⟨⟩
theorem tw1834057914327514951 : True := ⟨⟩
theorem tw1855374608907135568 : True := ⟨⟩
theorem tw207612877275450172 : True := ⟨⟩
theorem tw2087861797570445006 : True := ⟨⟩
theorem tw2256601470496256587 : True := ⟨⟩
theorem tw2491531021771350360 : True := ⟨⟩
theorem tw2693494526159590135 : True := ⟨⟩
theorem tw2867511037986051937 : True := ⟨⟩
theorem tw3509111196701268582 : True := ⟨⟩
theorem tw3597415072749330529 : True := ⟨⟩
theorem tw4109417047917516637 : True := ⟨⟩
theorem tw411660010680121044 : True := ⟨⟩
theorem tw4186314242369793241 : True := ⟨⟩
theorem tw4449550460608034424 : True := ⟨⟩
theorem tw5392222038743154848 : True := ⟨⟩
theorem tw5833159298545579783 : True := ⟨⟩
theorem tw5916838257993699821 : True := ⟨⟩
theorem tw5997341433316210881 : True := ⟨⟩
theorem tw6361846827288316452 : True := ⟨⟩
theorem tw6371949941847433528 : True := ⟨⟩
theorem tw6461586013056261696 : True := ⟨⟩
theorem tw6659408454869735393 : True := ⟨⟩
theorem tw7308142381847250616 : True := ⟨⟩
theorem tw7507677110965294752 : True := ⟨⟩
theorem tw7659533852618729648 : True := ⟨⟩
theorem tw8015442784627251098 : True := ⟨⟩
theorem tw8169578071884633252 : True := ⟨⟩
theorem tw8615365787876736146 : True := ⟨⟩
theorem tw8711887210811522330 : True := ⟨⟩
theorem tw9048690058259264846 : True := ⟨⟩
theorem tw9063687966504154141 : True := ⟨⟩
theorem tw9464834543238176250 : True := ⟨⟩
theorem tw9741911796773573891 : True := ⟨⟩
theorem tw9817982743911030162 : True := ⟨⟩
theorem tw9824742487378809938 : True := ⟨⟩
theorem tw9970545973781712284 : True := ⟨⟩
theorem tw9971586158261501111 : True := ⟨⟩
end PySem.W.Fast
open PySem PySem.W PyProof.Rows
set_option maxRecDepth 100000 in
set_option maxHeartbeats 0 in
theorem PySem.Challenge.cw_bestheads_k51_no_book_to_beat_in_holds : PySem.Challenge.rw_bestheads_k51_no_book_to_beat_in.Holds := by
 w_on; o_law; k_head; (case hw => w_witness2)
 k_fill
 refine K51.walk (l := PySem.Challenge.rw_bestheads_k51_no_book_to_beat_in) rfl rfl rfl ?arv ?hNT (λw h Y => by first | exact PySem.W.km_in_of Y | exact PySem.W.kIn_of Y) ?F
 case arv =>
  intro x hx
  rcases (List.mem_cons.mp hx) with rfl | hx
  ·exact .inr λw => by k_is
  ·rw [List.mem_singleton.mp hx]
   exact .inr λw => by k_is
 case hNT => intro w; kernel_rfl
 case F =>
  intro w mg h KX G base kb gb hcd hbm
  refine' K51.atJ ?qM ?alm ?qXT ?aln ?ahY ?aju ?alo ?alp ?ajv ?alq ?ajw ?alr ?ajx ?ahZ ?ajy ?ajz ?ajA ?ahf ?qd1 ?qd2 ?qd3 ?qd4 ?qd5 ?qd6 ?qd7 ?qd8 ?qd9 ?avo ?avp ?avq ?avr ?avs ?avt ?avu ?avv ?avw ?avx ?avy ?avz ?avA ?atN ?atO
  case qM =>
   refine' K51.atH KX G ?z0 ?z1 ?z2 ?z3 ?z4 ?z5 ?z6 ?z7 ?z8 ?z9 ?z10 ?z11
   all_goals k_is
  case qd1 =>
   refine' K51.acf KX G ?qa1 ?ql1 ?qc1 ?qk1
   (case qa1 => k_is); (case ql1 => k_is); (case qc1 => k_is); (case qk1 => k_is)
  case qd2 =>
   refine' K51.acf KX G ?qa2 ?ql2 ?qc2 ?qk2
   (case qa2 => k_is); (case ql2 => k_is); (case qc2 => k_is); (case qk2 => k_is)
  case qd3 =>
   refine' K51.acf KX G ?qa3 ?ql3 ?qc3 ?qk3
   (case qa3 => k_is); (case ql3 => k_is); (case qc3 => k_is); (case qk3 => k_is)
  case qd4 =>
   refine' K51.acf KX G ?qa4 ?ql4 ?qc4 ?qk4
   (case qa4 => k_is); (case ql4 => k_is); (case qc4 => k_is); (case qk4 => k_is)
  case qd5 =>
   refine' K51.acf KX G ?qa5 ?ql5 ?qc5 ?qk5
   (case qa5 => k_is); (case ql5 => k_is); (case qc5 => k_is); (case qk5 => k_is)
  case qd6 =>
   refine' K51.acf KX G ?qa6 ?ql6 ?qc6 ?qk6
   (case qa6 => k_is); (case ql6 => k_is); (case qc6 => k_is); (case qk6 => k_is)
  case qd7 =>
   refine' K51.acf KX G ?qa7 ?ql7 ?qc7 ?qk7
   (case qa7 => k_is); (case ql7 => k_is); (case qc7 => k_is); (case qk7 => k_is)
  case qd8 =>
   refine' K51.acf KX G ?qa8 ?ql8 ?qc8 ?qk8
   (case qa8 => k_is); (case ql8 => k_is); (case qc8 => k_is); (case qk8 => k_is)
  case qd9 =>
   refine' K51.acf KX G ?qa9 ?ql9 ?qc9 ?qk9
   (case qa9 => k_is); (case ql9 => k_is); (case qc9 => k_is); (case qk9 => k_is)
  case avo =>
   refine' K51.acf KX G ?avB ?avC ?avD ?avE
   (case avB => k_is); (case avC => k_is); (case avD => k_is); (case avE => k_is)
  case avp =>
   refine' K51.acf KX G ?avF ?avG ?avH ?avI
   (case avF => k_is); (case avG => k_is); (case avH => k_is); (case avI => k_is)
  case avq =>
   refine' K51.acf KX G ?avJ ?avK ?avL ?avM
   (case avJ => k_is); (case avK => k_is); (case avL => k_is); (case avM => k_is)
  case avr =>
   refine' K51.acf KX G ?avN ?avO ?avP ?avQ
   (case avN => k_is); (case avO => k_is); (case avP => k_is); (case avQ => k_is)
  case avs =>
   refine' K51.acf KX G ?avR ?avS ?avT ?avU
   (case avR => k_is); (case avS => k_is); (case avT => k_is); (case avU => k_is)
  case avt =>
   refine' K51.acf KX G ?avV ?avW ?avX ?avY
   (case avV => k_is); (case avW => k_is); (case avX => k_is); (case avY => k_is)
  case avu =>
   refine' K51.acf KX G ?avZ ?av0 ?av1 ?av2
   (case avZ => k_is); (case av0 => k_is); (case av1 => k_is); (case av2 => k_is)
  case avv =>
   refine' K51.acf KX G ?av3 ?av4 ?av5 ?av6
   (case av3 => k_is); (case av4 => k_is); (case av5 => k_is); (case av6 => k_is)
  case avw =>
   refine' K51.acf KX G ?av7 ?av8 ?av9 ?awa
   (case av7 => k_is); (case av8 => k_is); (case av9 => k_is); (case awa => k_is)
  case avx =>
   refine' K51.acf KX G ?awb ?awc ?awd ?awe
   (case awb => k_is); (case awc => k_is); (case awd => k_is); (case awe => k_is)
  case avy =>
   refine' K51.acf KX G ?awf ?awg ?awh ?awi
   (case awf => k_is); (case awg => k_is); (case awh => k_is); (case awi => k_is)
  case avz =>
   refine' K51.acf KX G ?awj ?awk ?awl ?awm
   (case awj => k_is); (case awk => k_is); (case awl => k_is); (case awm => k_is)
  case avA =>
   refine' K51.acf KX G ?awn ?awo ?awp ?awq
   (case awn => k_is); (case awo => k_is); (case awp => k_is); (case awq => k_is)
  case atN =>
   refine' K51.anl KX G ?atP
   (case atP => k_is)
  case atO =>
   refine' K51.anl KX G ?atQ
   (case atQ => k_is)
  case qXT => exact L2.ahG.of (by kernel_rfl)
  case aln =>
   refine' ⟨?ajB, mg_of KX G ?ajC⟩
   (case ajB => k_is); (case ajC => k_is)
  case ahY =>
   refine' ⟨?ahg, mg_of KX G ?ahh⟩
   (case ahg => k_is); (case ahh => k_is)
  case aju =>
   refine' ⟨?ah0, mg_of KX G ?ah1⟩
   (case ah0 => k_is); (case ah1 => k_is)
  case alo =>
   refine' ⟨?ajD, mg_of KX G ?ajE⟩
   (case ajD => k_is); (case ajE => k_is)
  case alp =>
   refine' ⟨?ajF, mg_of KX G ?ajG⟩
   (case ajF => k_is); (case ajG => k_is)
  case ajv =>
   refine' ⟨?ah2, mg_of KX G ?ah3⟩
   (case ah2 => k_is); (case ah3 => k_is)
  case alq =>
   refine' ⟨?ajH, mg_of KX G ?ajI⟩
   (case ajH => k_is); (case ajI => k_is)
  case ajw =>
   refine' ⟨?ah4, mg_of KX G ?ah5⟩
   (case ah4 => k_is); (case ah5 => k_is)
  case alr =>
   refine' ⟨?ajJ, mg_of KX G ?ajK⟩
   (case ajJ => k_is); (case ajK => k_is)
  case ajx =>
   refine' ⟨?ah6, mg_of KX G ?ah7⟩
   (case ah6 => k_is); (case ah7 => k_is)
  case ahZ =>
   refine' ⟨?ahi, mg_of KX G ?ahj⟩
   (case ahi => k_is); (case ahj => k_is)
  case ajy =>
   refine' ⟨?ah8, mg_of KX G ?ah9⟩
   (case ah8 => k_is); (case ah9 => k_is)
  case ajz =>
   refine' ⟨?aia, mg_of KX G ?aib⟩
   (case aia => k_is); (case aib => k_is)
  case ajA =>
   refine' ⟨?aic, mg_of KX G ?aie⟩
   (case aic => k_is); (case aie => k_is)
  case ahf =>
   refine' ⟨?agv, mg_of KX G ?agw⟩
   (case agv => k_is); (case agw => k_is)
  case alm =>
   refine' L2.apM kb gb ?ajL ?ajM
   (case ajL => k_is); (case ajM => k_exc)
#print axioms PySem.Challenge.cw_bestheads_k51_no_book_to_beat_in_holds
end