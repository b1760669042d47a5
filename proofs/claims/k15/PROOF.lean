import PyProof.Rows.All
import Wide.All
import OpenK.AllK
import Wide.FinOn
import Lean
import PyProof.EqAt
import PyProof.EqKinds
import PyProof.TupleCall
import PyProof.ReprRoads
import PyProof.ReprBulk
import PyProof.Rows.RegStrFacts
import PyProof.StrBlockH
import PyProof.FitsBits
import KE.KTurns
import PyProof.NeKinds
import KE.KNest
import KE.KSortKey
import PyProof.ListRange
import PyProof.Rows.SortWalk
import KE.KListMore
import PySem.Challenge.RW_bestheads_k15_worths_of_things
set_option Elab.async false
set_option linter.all false
set_option maxRecDepth 100000
set_option maxHeartbeats 4000000
section
namespace L2
open PySem PySem.Spec PyProof.Rows
noncomputable abbrev Key := Sum Int Str
noncomputable def arh : Key -> Value -> Bool
 | .inl k, v => Value.isInt k v
 | .inr x, v => Value.isStrOf x v
noncomputable def axd (w : World) : Key -> Int
 | .inl k => hashInt k
 | .inr x => hashStr w x
theorem abO : ∀ {k : Key} {v : Value}, arh k v = true -> (∃ i t, k = Sum.inl i /\ v = Value.int i t) \/ (∃ x t, k = Sum.inr x /\ v = Value.str x t)
 | .inl i, v, h => by
  obtain ⟨t, e⟩ := Value.isInt_shape (k := i) (v := v) h
  exact .inl ⟨i, t, rfl, e⟩
 | .inr x, v, h => by
  obtain ⟨t, e⟩ := Value.isStrOf_shape (x := x) (v := v) h
  exact .inr ⟨x, t, rfl, e⟩
theorem ari (a b : Int) : decide ((Sum.inl a : Key) = Sum.inl b) = (a == b) := by
 by_cases e : a = b
 ·subst e; simp
 ·have h : ¬ (Sum.inl a : Key) = Sum.inl b := fun q => e (Sum.inl.inj q)
  rw [decide_eq_false h]
  exact (beq_eq_false_iff_ne.mpr e).symm
theorem arj (a b : Str) : decide ((Sum.inr a : Key) = Sum.inr b) = decide (a = b) := by
 by_cases e : a = b
 ·subst e; simp
 ·have h : ¬ (Sum.inr a : Key) = Sum.inr b := fun q => e (Sum.inr.inj q)
  rw [decide_eq_false h, decide_eq_false e]
theorem ark (a : Int) (b : Str) : decide ((Sum.inl a : Key) = Sum.inr b) = false := decide_eq_false (fun q => nomatch q)
theorem arl (a : Str) (b : Int) : decide ((Sum.inr a : Key) = Sum.inl b) = false := decide_eq_false (fun q => nomatch q)
noncomputable def ai5 (prog : Program) (w : World) : PySem.KeyKind prog w Key where
 is := arh
 hash := axd w
 inj := fun v a b ha hb => by
  rcases abO ha with ⟨i, t, rfl, rfl⟩ | ⟨x, t, rfl, rfl⟩
  ·rcases abO hb with ⟨j, u, rfl, e⟩ | ⟨y, u, rfl, e⟩
   ·injection e with e1 _; rw [e1]
   ·exact nomatch e
  ·rcases abO hb with ⟨j, u, rfl, e⟩ | ⟨y, u, rfl, e⟩
   ·exact nomatch e
   ·injection e with e1 _; rw [e1]
 byValue := fun k v h => by
  rcases abO h with ⟨i, t, rfl, rfl⟩ | ⟨x, t, rfl, rfl⟩ <;> rfl
 pyHash := fun hv h => by
  rcases abO hv with ⟨i, t, rfl, rfl⟩ | ⟨x, t, rfl, rfl⟩
  ·exact wpAny_pyHash_int h
  ·exact wpAny_pyHash_str h
 eqBool := fun hu hv h => by
  rcases abO hu with ⟨i, t, rfl, rfl⟩ | ⟨x, t, rfl, rfl⟩
  ·rcases abO hv with ⟨j, u, rfl, rfl⟩ | ⟨y, u, rfl, rfl⟩
   ·rw [ari] at h; exact wpAny_eqBool_int h
   ·rw [ark] at h; exact SeqAt.EqAt.int_str i t y u _ _ _ _ h
  ·rcases abO hv with ⟨j, u, rfl, rfl⟩ | ⟨y, u, rfl, rfl⟩
   ·rw [arl] at h; exact SeqAt.EqAt.str_int x t j u _ _ _ _ h
   ·rw [arj] at h; exact wpAny_eqBool_str h
 «strs» := fun k x t v h => by
  rcases abO h with ⟨i, u, rfl, e⟩ | ⟨y, u, rfl, e⟩
  ·exact nomatch e
  ·injection e with e1 _
   subst e1
   cases v <;> rfl
end L2
namespace L2
open PySem PySem.Spec PyProof.Rows
inductive V where
 | non | bl (b : Bool) | int (i : Int) | str (x : Str) | byt (b : Array UInt8) | flt (b : UInt64) | ref (a : Addr) | ty (n : String)
 deriving DecidableEq
noncomputable def RelV : V -> Value -> Prop
 | .non, u => u = Value.none
 | .bl b, u => u = Value.bool b
 | .int i, u => ∃ t, u = Value.int i t
 | .str x, u => ∃ t, u = Value.str x t
 | .byt b, u => ∃ t, u = Value.bytes b t
 | .flt b, u => ∃ t, u = Value.float b t
 | .ref a, u => u = Value.ref a
 | .ty n, u => u = Value.type n
noncomputable abbrev Vals : List V -> List Value -> Prop := Paired RelV
theorem Vals.length {xs : List V} {us : List Value} (r : Vals xs us) : xs.length = us.length := Paired.length r
theorem Vals.get : ∀ {xs : List V} {us : List Value} {i : Nat} {x : V}, Vals xs us -> xs[i]? = some x -> ∃ u, us[i]? = some u /\ RelV x u
 | _, _, _, _, .nil, e => by simp at e
 | _, _, 0, _, .cons r _, e => by simp at e; subst e; exact ⟨_, rfl, r⟩
 | _, _, i + 1, x, .cons _ t, e => by
  obtain ⟨u, h1, h2⟩ := Vals.get (i := i) (x := x) t (by simpa using e)
  exact ⟨u, by simpa using h1, h2⟩
theorem Vals.set {x : V} {u : Value} (r : RelV x u) : ∀ {xs : List V} {us : List Value} (i : Nat), Vals xs us -> Vals (xs.set i x) (us.set i u)
 | _, _, _, .nil => .nil
 | _, _, 0, .cons _ t => .cons r t
 | _, _, i + 1, .cons q t => .cons q (Vals.set r i t)
theorem Vals.append : ∀ {xs ys : List V} {us ws : List Value}, Vals xs us -> Vals ys ws -> Vals (xs ++ ys) (us ++ ws)
 | _, _, _, _, .nil, s => s
 | _, _, _, _, .cons r t, s => .cons r (Vals.append t s)
theorem Vals.take : ∀ {xs : List V} {us : List Value} (n : Nat), Vals xs us -> Vals (xs.take n) (us.take n)
 | _, _, 0, _ => .nil
 | _, _, _ + 1, .nil => .nil
 | _, _, n + 1, .cons r t => .cons r (Vals.take n t)
theorem Vals.drop : ∀ {xs : List V} {us : List Value} (n : Nat), Vals xs us -> Vals (xs.drop n) (us.drop n)
 | _, _, 0, r => r
 | _, _, _ + 1, .nil => .nil
 | _, _, n + 1, .cons _ t => Vals.drop n t
noncomputable def awu : Option V -> Option Value -> Prop
 | some v, some u => RelV v u
 | none, none => True
 | _, _ => False
noncomputable def KV {κ : Type} : List (κ × V) -> List (κ × Value) -> Prop := Paired fun (p : κ × V) (q : κ × Value) => p.1 = q.1 /\ RelV p.2 q.2
noncomputable def kV : Key -> V
 | .inl i => .int i
 | .inr x => .str x
inductive HO where
 | lst (xs : List V)
 | tup (xs : List V)
 | dK (kvs : List (Key × V)) | dT (kvs : List (List Key × V))
 | set (S : Int -> Bool) (n : Nat)
 | ins (C dx : Addr) (fs : List (Str × V))
 | own (x : Addr)
 | xd (fs : List (Str × V))
 | met (f x : Addr)
 | rng (lo hi : Int)
 | frz (o : Obj) (u : HO)
 | tbl (ps : Array Value)
 | ext (φ : Heap -> Prop)
noncomputable abbrev Hp := Addr -> Option HO
noncomputable def upd (H : Hp) (a : Addr) (o : HO) : Hp := fun b => if b = a then some o else H b
theorem aa9 {H : Hp} {a : Addr} {o : HO} : upd H a o a = some o := by unfold upd; rw [if_pos rfl]
theorem aaH {H : Hp} {a b : Addr} {o : HO} (h : b ≠ a) : upd H a o b = H b := by unfold upd; rw [if_neg h]
theorem aaT {H : Hp} {a b : Addr} {o : HO} (h : H a = some o) (h' : H b = none) : a ≠ b := by
 intro e; subst e; rw [h] at h'; cases h'
section
variable (P : Program) (w : World)
noncomputable def afk (H : Hp) (h : Heap) (a : Addr) : HO -> Prop
 | .lst xs => xs.length <= sizeLine /\ ∃ (its : List Value) (n : Nat), Vals xs its /\ h.get? a = some { cls := .type "list", data := .seq its.toArray n }
 | .tup xs => xs.length <= sizeLine /\ ∃ its : List Value, Vals xs its /\ IsTup h a its.toArray
 | .dK kvs => kvs.length <= sizeLine /\ (a == sysModules) = false /\ ∃ vs, KV kvs vs /\ h.DictOf (ai5 P w) a vs
 | .dT kvs => kvs.length <= sizeLine /\ (a == sysModules) = false /\ ∃ xs : List (List Key × Addr × Value),
   Paired (fun (p : List Key × V) (q : List Key × Addr × Value) => p.1 = q.1 /\ H q.2.1 = some (.tup (p.1.map kV)) /\ RelV p.2 q.2.2) kvs xs /\
   ∃ o es ep, h.get? a = some o /\ o.ExactDict /\ o.data = .dict es ep /\ es.toList = xs.map (entryOfKey (tupleKind (ai5 P w))) /\ (xs.map (·.1)).Nodup
 | .set S n => h.SetOf (intKind P w) a S n
 | .ins C dx fs => H dx = some (.own a) /\ fs.length <= 1000 /\ dx ≠ a /\ h.get? a = some (PySem.W.instObj C dx) /\
   ∃ mA, h.Ns1 dx mA /\ (∀ f, awu (fs.lookup f) (mA f)) /\ PySem.Within mA (fs.map (·.1))
 | .own _ => ∃ o, h.get? a = some o
 | .xd fs => ∃ mA, h.Ns1 a mA /\ ∀ f, awu (fs.lookup f) (mA f)
 | .rng lo hi => ∃ t u v, h.get? a = some { cls := .type "range", data := .fields #[.int lo t, .int hi u, .int 1 v] }
 | .frz o u => h.get? a = some o /\ afk H h a u
 | .tbl ps => h.get? a = some { cls := .none, data := .fields ps }
 | .met f x => h.get? a = some (PySem.W.methodObj (.ref f) (.ref x))
 | .ext φ => φ h /\ (∃ o, h.get? a = some o) /\ ∀ h1 h2 : Heap, φ h1 -> (∀ o, h1.get? a = some o -> h2.get? a = some o) -> φ h2
noncomputable def HOk (H : Hp) (h : Heap) : Prop := ∀ a o, H a = some o -> afk P w H h a o
end
section
variable {P : Program} {w : World} {H H' : Hp} {h h' : Heap} {a : Addr} {o : HO}
theorem afk.lt (x : afk P w H h a o) : a < h.objs.size := by
 cases o with
 | lst xs => obtain ⟨_, _, _, _, e⟩ := x; exact Heap.lt_size e
 | tup xs => obtain ⟨_, _, _, p⟩ := x; exact p.lt
 | dK kvs => obtain ⟨_, _, _, _, o, _, _, e, _⟩ := x; exact Heap.lt_size e
 | dT kvs => obtain ⟨_, _, _, _, o, _, _, e, _⟩ := x; exact Heap.lt_size e
 | set S n => obtain ⟨o, _, _, _, e, _⟩ := x; exact Heap.lt_size e
 | ins C dx fs => obtain ⟨_, _, _, e, _⟩ := x; exact Heap.lt_size e
 | own y => obtain ⟨_, e⟩ := x; exact Heap.lt_size e
 | xd fs => obtain ⟨_, ⟨_, _, _, e, _⟩, _⟩ := x; exact Heap.lt_size e
 | rng lo hi => obtain ⟨_, _, _, e⟩ := x; exact Heap.lt_size e
 | frz ob u => obtain ⟨e, _⟩ := x; exact Heap.lt_size e
 | tbl ps => exact Heap.lt_size (show h.get? a = some _ from x)
 | met f y => exact Heap.lt_size (show h.get? a = some _ from x)
 | ext φ => obtain ⟨_, ⟨_, e⟩, _⟩ := x; exact Heap.lt_size e
theorem Paired.awv {α β : Type} {F G : α -> β -> Prop} : ∀ {l₁ : List α} {l₂ : List β}, Paired F l₁ l₂ -> (∀ a b, F a b -> G a b) -> Paired G l₁ l₂
 | _, _, .nil, _ => .nil
 | _, _, .cons r t, f => .cons (f _ _ r) (Paired.awv t f)
theorem afk.stay (x : afk P w H h a o) (k : ∀ b u, (b = a \/ H b = some (.own a)) -> h.get? b = some u -> h'.get? b = some u)
  (ho : ∀ b, H b = some (.own a) -> H' b = some (.own a)) (ht : ∀ b xs, H b = some (.tup xs) -> H' b = some (.tup xs)) : afk P w H' h' a o := by
 induction o with
 | lst xs => obtain ⟨z, its, n, r, e⟩ := x; exact ⟨z, its, n, r, k _ _ (.inl rfl) e⟩
 | tup xs => obtain ⟨z, its, r, ob, e, c⟩ := x; exact ⟨z, its, r, ob, k _ _ (.inl rfl) e, c⟩
 | dK kvs => obtain ⟨z, y, vs, r, ob, es, ep, e, c⟩ := x; exact ⟨z, y, vs, r, ob, es, ep, k _ _ (.inl rfl) e, c⟩
 | dT kvs =>
  obtain ⟨z, y, xs, r, ob, es, ep, e, c⟩ := x
  exact ⟨z, y, xs, Paired.awv r fun p q z => ⟨z.1, ht _ _ z.2.1, z.2.2⟩, ob, es, ep, k _ _ (.inl rfl) e, c⟩
 | set S n => obtain ⟨ob, es, ep, t, e, c⟩ := x; exact ⟨ob, es, ep, t, k _ _ (.inl rfl) e, c⟩
 | ins C dx fs =>
  obtain ⟨d, z, ne, e, mA, ⟨od, es, ep, e2, c⟩, r⟩ := x
  exact ⟨ho _ d, z, ne, k _ _ (.inl rfl) e, mA, ⟨od, es, ep, k _ _ (.inr d) e2, c⟩, r⟩
 | own y => obtain ⟨ob, e⟩ := x; exact ⟨ob, k _ _ (.inl rfl) e⟩
 | xd fs => obtain ⟨mA, ⟨od, es, ep, e, c⟩, r⟩ := x; exact ⟨mA, ⟨od, es, ep, k _ _ (.inl rfl) e, c⟩, r⟩
 | rng lo hi => obtain ⟨t, u, v, e⟩ := x; exact ⟨t, u, v, k _ _ (.inl rfl) e⟩
 | frz ob u ih => obtain ⟨e, q⟩ := x; exact ⟨k _ _ (.inl rfl) e, ih q⟩
 | tbl ps =>
  have e : h.get? a = some { cls := .none, data := .fields ps } := x
  show h'.get? a = some { cls := .none, data := .fields ps }
  exact k a _ (.inl rfl) e
 | met f y =>
  have e : h.get? a = some (PySem.W.methodObj (.ref f) (.ref y)) := x
  show h'.get? a = some (PySem.W.methodObj (.ref f) (.ref y))
  exact k a _ (.inl rfl) e
 | ext φ => obtain ⟨p, ⟨o, e⟩, st⟩ := x; exact ⟨st _ _ p fun o q => k _ _ (.inl rfl) q, ⟨o, k _ _ (.inl rfl) e⟩, st⟩
theorem HOk.lt (x : HOk P w H h) (e : H a = some o) : a < h.objs.size := (x a o e).lt
theorem HOk.fresh (x : HOk P w H h) (e : h.objs.size <= a) : H a = none := by
 cases q : H a with
 | none => rfl
 | some u => exact absurd (Nat.lt_of_lt_of_le (x.lt q) e) (Nat.lt_irrefl _)
theorem HOk.kept (x : HOk P w H h) (k : ∀ b u, h.get? b = some u -> h'.get? b = some u) : HOk P w H h' := fun a o e =>
 (x a o e).stay (fun b u _ q => k b u q) (fun _ q => q) fun _ _ q => q
theorem HOk.laid (x : HOk P w H h) (k : ∀ b u, h.get? b = some u -> h'.get? b = some u) (hp : h.objs.size <= a) (new : afk P w (upd H a o) h' a o) : HOk P w (upd H a o) h' := fun b u e => by
 have hn := x.fresh hp
 by_cases hb : b = a
 ·subst hb; rw [aa9] at e; cases e; exact new
 ·rw [aaH hb] at e
  exact (x b u e).stay (fun c v _ q => k c v q) (fun c q => by rw [aaH (aaT q hn)]; exact q) fun c xs q => by rw [aaH (aaT q hn)]; exact q
end
noncomputable def Rd (H : Hp) (a : Addr) (u : HO) : Prop := H a = some u \/ ∃ o, H a = some (.frz o u)
theorem Rd.ok {P : Program} {w : World} {H : Hp} {h : Heap} {a : Addr} {u : HO} (r : Rd H a u) (x : HOk P w H h) : afk P w H h a u := by
 rcases r with r | ⟨o, r⟩
 ·exact x a u r
 ·obtain ⟨_, q⟩ := x a _ r
  exact q
noncomputable def Mut : Option HO -> Prop
 | some (.lst _) => True
 | some (.dK _) => True
 | some (.dT _) => True
 | some (.set _ _) => True
 | some (.ins _ _ _) => True
 | some (.ext _) => True
 | _ => False
section
variable {P : Program} {w : World} {H : Hp} {h h' : Heap} {x e : Addr} {o' : HO}
theorem HOk.write (ok : HOk P w H h) (mu : Mut (H x)) (he : e = x \/ H e = some (.own x)) (k : ∀ b u, b ≠ e -> h.get? b = some u -> h'.get? b = some u) (heo : ∃ u, h'.get? e = some u)
  (new : afk P w (upd H x o') h' x o') : HOk P w (upd H x o') h' := fun b u q => by
 have aww : ∀ c y, H c = some (.own y) -> c ≠ x := fun c y r z => by subst z; rw [r] at mu; exact mu
 have axe : ∀ c xs, H c = some (.tup xs) -> c ≠ x := fun c xs r z => by subst z; rw [r] at mu; exact mu
 by_cases hb : b = x
 ·subst hb; rw [aa9] at q; cases q; exact new
 ·rw [aaH hb] at q
  by_cases hbe : b = e
  ·have q' : H b = some (.own x) := by
    rcases he with z | z
    ·exact absurd (hbe.trans z) hb
    ·rw [hbe]; exact z
   rw [q] at q'; cases q'
   obtain ⟨v, hv⟩ := heo
   exact ⟨v, by rw [hbe]; exact hv⟩
  ·refine (ok b u q).stay (fun c v hc r => k c v ?_ r) (fun c r => by rw [aaH (aww c b r)]; exact r) fun c xs r => by rw [aaH (axe c xs r)]; exact r
   rcases hc with rfl | hc
   ·exact hbe
   ·rintro rfl
    rcases he with z | z
    ·exact aww c b hc z
    ·rw [hc] at z; cases z; exact hb rfl
end
structure Un (fs ex : List Addr) (H H' : Hp) (h h' : Heap) : Prop where
 keep : ∀ b o, h.get? b = some o -> H b = none -> b ∉ fs -> b ∉ ex -> h'.get? b = some o
 slot : ∀ b o, h.get? b = some o -> H b = none -> b ∈ fs -> b ∉ ex -> ∃ sl, h'.get? b = some { o with slots := sl }
 free : ∀ b o, h.get? b = some o -> H b = none -> b ∉ ex -> H' b = none
 there : ∀ b o, h.get? b = some o -> b ∉ ex -> ∃ o', h'.get? b = some o'
 tups : ∀ b xs, H b = some (.tup xs) -> H' b = some (.tup xs)
 alr : ∀ b o u, H b = some (.frz o u) -> H' b = some (.frz o u)
 als : ∀ b ps, H b = some (.tbl ps) -> ∃ more, H' b = some (.tbl (ps ++ more))
section
variable {fs fs' ex ex' : List Addr} {H H1 H2 : Hp} {h h1 h2 h' : Heap} {a x e : Addr} {o : HO}
theorem Un.any (u : Un fs ex H H1 h h1) {b : Addr} {ob : Obj} (q : h.get? b = some ob) (n : H b = none) (hx : b ∉ ex) : ∃ sl, h1.get? b = some { ob with slots := sl } := by
 by_cases hb : b ∈ fs
 ·exact u.slot b ob q n hb hx
 ·exact ⟨ob.slots, u.keep b ob q n hb hx⟩
theorem Un.kept (k : ∀ b u, h.get? b = some u -> h'.get? b = some u) : Un fs ex H H h h' :=
 ⟨fun b ob q _ _ _ => k b ob q, fun b ob q _ _ _ => ⟨ob.slots, k b ob q⟩, fun _ _ _ n _ => n, fun b ob q _ => ⟨ob, k b ob q⟩, fun _ _ q => q, fun _ _ _ q => q, fun _ ps q => ⟨#[], by rw [q]; simp⟩⟩
theorem Un.refl : Un fs ex H H h h := Un.kept fun _ _ q => q
theorem Un.laid (k : ∀ b u, h.get? b = some u -> h'.get? b = some u) (hp : h.objs.size <= a) (hn : H a = none) : Un fs ex H (upd H a o) h h' where
 keep := fun b u q _ _ _ => k b u q
 slot := fun b u q _ _ _ => ⟨u.slots, k b u q⟩
 free := fun b u q n _ => by rw [aaH (Nat.ne_of_lt (Nat.lt_of_lt_of_le (Heap.lt_size q) hp))]; exact n
 there := fun b u q _ => ⟨u, k b u q⟩
 tups := fun b xs q => by rw [aaH (aaT q hn)]; exact q
 alr := fun b u xs q => by rw [aaH (aaT q hn)]; exact q
 als := fun b ps q => ⟨#[], by rw [aaH (aaT q hn), q]; simp⟩
theorem Un.write (mu : Mut (H x)) (he : e = x \/ H e = some (.own x)) (k : ∀ b u, b ≠ e -> h.get? b = some u -> h'.get? b = some u) (heo : ∃ u, h'.get? e = some u) : Un fs ex H (upd H x o) h h' := by
 have hx : ∀ b, H b = none -> b ≠ x := fun b n z => by subst z; rw [n] at mu; exact mu
 have hb : ∀ b, H b = none -> b ≠ e := fun b n z => by
  subst z
  rcases he with r | r
  ·exact hx b n r
  ·rw [n] at r; cases r
 have hm : ∀ b u, H b = some u -> ¬ Mut (some u) -> b ≠ x := fun b u q nm z => by subst z; rw [q] at mu; exact nm mu
 refine ⟨fun b u q n _ _ => k b u (hb b n) q, fun b u q n _ _ => ⟨u.slots, k b u (hb b n) q⟩, fun b u q n _ => by rw [aaH (hx b n)]; exact n, fun b u q _ => ?_,
  fun b xs q => by rw [aaH (hm b _ q fun z => z)]; exact q, fun b u xs q => by rw [aaH (hm b _ q fun z => z)]; exact q, fun b ps q => ⟨#[], by rw [aaH (hm b _ q fun z => z), q]; simp⟩⟩
 by_cases hbe : b = e
 ·subst hbe; exact heo
 ·exact ⟨u, k b u hbe q⟩
end
noncomputable def trk (h : Heap) (H : Hp) : List Addr := (List.range h.objs.size).filter fun a => (H a).isSome
noncomputable def ang (h : Heap) (H : Hp) : Heap := PySem.W.hideAll h (trk h H)
theorem alu (h : Heap) (H : Hp) : (ang h H).objs.size = h.objs.size := PySem.W.hideAll_size _ _
theorem anh {h : Heap} {H : Hp} {b : Addr} {o : Obj} (e : h.get? b = some o) (n : H b = none) : (ang h H).get? b = some o :=
 PySem.W.hideAll_get _ e fun hm => by
  have q : (H b).isSome = true := (List.mem_filter.mp hm).2
  rw [n] at q; simp at q
theorem apl {h : Heap} {H : Hp} {b : Addr} {o : Obj} (e : (ang h H).get? b = some o) : h.get? b = some o /\ H b = none := by
 have e' : h.get? b = some o := PySem.W.of_hideAll (trk h H) e
 refine ⟨e', ?_⟩
 cases q : H b with
 | none => rfl
 | some x =>
  have hm : b ∈ trk h H := List.mem_filter.mpr ⟨List.mem_range.mpr (Heap.lt_size e'), by simp [q]⟩
  have z : (ang h H).get? b = none := PySem.W.hideAll_none (trk h H) hm
  rw [z] at e; cases e
noncomputable def apm (g h : Heap) (L : Addr) : List (Addr × Obj) := (List.range h.objs.size).filterMap fun a => if a = L \/ (g.get? a).isSome = true then none else (h.get? a).map fun o => (a, o)
noncomputable def rest (g h : Heap) (L d : Addr) : List (Addr × Obj) := (apm g h L).filter fun p => decide (p.1 ≠ d)
end L2
namespace L2
open PySem PySem.Spec PyProof.Rows
structure Mod (K : PySem.W.Frag) (mg : Str -> Option Value) (base : Heap) : Prop where
 kin : K.In base
 glob : base.Ns mainGlobals mg
 blt : ∃ mb, base.Ns builtinsNs mb /\ ∀ x : Str, x ≠ "__name__" -> mb x = bootBuiltins x
 nolimit : base.NoLimit
structure Cx where
 prog : Program
 w : World
 K : PySem.W.Frag
 mg : Str -> Option Value
 base : Heap
 A : Around
 N : List Str
 s₀ : Shared
 H₀ : Hp
 env : Env
 outer : List Env
 stack : List Env
 ex : List Addr
 fn : Str -> Bool
 calm : Bool
 pn : List (Addr × Obj)
 xe : Value -> Shared -> Prop
noncomputable def frs (l : List Env) : List Addr := l.filterMap (·.frame)
noncomputable abbrev Cx.fs (X : Cx) : List Addr := frs X.outer
noncomputable def Vis (sc : Scope) (x : Str) : Prop := sc.names.lookup x = some .local \/ sc.names.lookup x = some .cell \/ sc.names.lookup x = some .free
noncomputable def Loc (sc : Scope) (x : Str) : Prop := sc.names.lookup x = some .local \/ sc.names.lookup x = some .cell
noncomputable def Look (env : Env) (h : Heap) (m : Str -> Option Value) (x : Str) (u : Value) : Prop :=
 (env.kindOf x = some .local /\ m x = some u) \/ ((env.kindOf x = some .cell \/ env.kindOf x = some .free) /\ ∃ c, env.cells.lookup x = some c /\ h.IsCell c (some u))
structure Cx.Ok (X : Cx) : Prop where
 mod : Mod X.K X.mg X.base
 kind : X.env.scope.kind = .function
 glob : X.env.globals = mainGlobals
 blt : X.env.builtins = builtinsNs
 above : X.s₀.heap.objs.size <= X.env.locals
 inj : ∀ x y c, X.env.cells.lookup x = some c -> X.env.cells.lookup y = some c -> x = y
 has : ∀ x, (X.env.kindOf x = some .cell \/ X.env.kindOf x = some .free) -> ∃ c, X.env.cells.lookup x = some c
 cab : ∀ x c, X.fn x = true -> X.env.cells.lookup x = some c -> X.s₀.heap.objs.size <= c
 hd : X.calm = true -> X.A.handled = none
 frames : X.A.frames = some X.stack
 stk : X.stack = X.outer \/ (X.stack = X.env :: X.outer /\ X.env.frame = some X.env.locals)
 exf : ∀ b ∈ X.ex, b ≠ X.env.locals /\ ∀ x c, X.env.cells.lookup x = some c -> c ≠ b
 bs : ∀ b o, X.base.get? b = some o -> X.s₀.heap.get? b = some o /\ X.H₀ b = none
 bsz : X.base.objs.size <= X.s₀.heap.objs.size
 ai6 : ∀ b o, X.base.get? b = some o -> b ∉ X.ex
 aup : ∀ b ∈ X.ex, b ∉ X.fs
 aln : X.s₀.heap.FunFrames X.base X.outer
 frf : ∀ b ∈ X.fs, X.H₀ b = none
structure Inv (X : Cx) (pins : List (Addr × Obj)) (σ : List (Option V)) (H : Hp) (s : Shared) : Prop where
 ok : X.Ok
 os : s.os = X.s₀.os
 bare : AllBare s.gens
 base : Un X.fs X.ex X.H₀ H X.s₀.heap s.heap
 loc : ∃ m, s.heap.Ns X.env.locals m /\ ∀ (i : Nat) (x : Str) (v : V), X.N[i]? = some x -> σ[i]? = some (some v) -> Vis X.env.scope x -> ∃ u, RelV v u /\ Look X.env s.heap m x u
 cell : ∀ x c, X.env.cells.lookup x = some c -> ∃ v, s.heap.IsCell c v
 free : H X.env.locals = none
 agf : ∀ x c, X.env.cells.lookup x = some c -> H c = none
 pin : ∀ p ∈ X.pn ++ pins, s.heap.get? p.1 = some p.2 /\ H p.1 = none /\ p.1 ≠ X.env.locals /\ p.1 ∉ X.fs /\ ∀ v, p.2.data ≠ .cell v
 hok : HOk X.prog X.w H s.heap
 len : σ.length = X.N.length
section
variable {X : Cx} {pins : List (Addr × Obj)} {σ : List (Option V)} {H H' : Hp} {s : Shared} {h' : Heap}
theorem Cx.Ok.aq6 (ok : X.Ok) {b : Addr} {o : Obj} (e : X.base.get? b = some o) : b ∉ X.fs := fun hb => by
 have := (ok.aln.mem hb).1
 rw [e] at this; cases this
theorem Inv.bs (I : Inv X pins σ H s) : ∀ b o, X.base.get? b = some o -> s.heap.get? b = some o /\ H b = none := fun b o e =>
 ⟨I.base.keep b o (I.ok.bs b o e).1 (I.ok.bs b o e).2 (I.ok.aq6 e) (I.ok.ai6 b o e), I.base.free b o (I.ok.bs b o e).1 (I.ok.bs b o e).2 (I.ok.ai6 b o e)⟩
theorem Inv.bk (I : Inv X pins σ H s) : ∀ b o, X.base.get? b = some o -> s.heap.get? b = some o := fun b o e => (I.bs b o e).1
theorem Inv.mod (I : Inv X pins σ H s) : Mod X.K X.mg X.base := I.ok.mod
theorem Inv.kIn (I : Inv X pins σ H s) : X.K.In s.heap := I.ok.mod.kin.keeps I.bk
theorem Inv.nolimit (I : Inv X pins σ H s) : s.heap.NoLimit := I.ok.mod.nolimit.keeps I.bk
theorem Inv.lt (I : Inv X pins σ H s) : X.env.locals < s.heap.objs.size := let ⟨_, hn, _⟩ := I.loc; hn.lt
theorem Inv.sz (I : Inv X pins σ H s) : X.s₀.heap.objs.size <= s.heap.objs.size := Nat.le_trans I.ok.above (Nat.le_of_lt I.lt)
theorem Inv.axf (I : Inv X pins σ H s) {a : Addr} (h : s.heap.objs.size <= a) : a ∉ X.fs := fun hb => by
 obtain ⟨_, o, ho, _⟩ := I.ok.aln.mem hb
 exact absurd (Nat.lt_of_lt_of_le (Heap.lt_size ho) (Nat.le_trans I.sz h)) (Nat.lt_irrefl _)
theorem Inv.cne (I : Inv X pins σ H s) : ∀ x c, X.env.cells.lookup x = some c -> c ≠ X.env.locals := fun x c e z => by
 obtain ⟨v, o, ho, hd⟩ := I.cell x c e
 obtain ⟨m, ⟨o', es, ep, ho', hd', _⟩, _⟩ := I.loc
 rw [z, ho'] at ho; cases ho; rw [hd'] at hd; cases hd
theorem Inv.aln (I : Inv X pins σ H s) : s.heap.FunFrames X.base X.outer := by
 have all : ∀ (l : List Env), (∀ b ∈ frs l, b ∈ X.fs) -> X.s₀.heap.FunFrames X.base l -> s.heap.FunFrames X.base l := by
  intro l
  induction l with
  | nil => intro _ _; trivial
  | cons env r ih =>
   intro hs hl
   obtain ⟨hk, ⟨L, o, hf, hn, ho, hd⟩, hr⟩ := hl
   have hL : L ∈ X.fs := hs L (by unfold frs; rw [List.filterMap_cons, hf]; exact List.mem_cons_self)
   obtain ⟨sl, e⟩ := I.base.slot L o ho (I.ok.frf L hL) hL fun z => I.ok.aup L z hL
   exact ⟨hk, ⟨L, _, hf, hn, e, hd⟩, ih (fun b hb => hs b (by unfold frs; rw [List.filterMap_cons, hf]; exact List.mem_cons_of_mem _ hb)) hr⟩
 exact all X.outer (fun _ hb => hb) I.ok.aln
theorem Inv.stack (I : Inv X pins σ H s) : s.heap.FunFrames X.base X.stack := by
 rcases I.ok.stk with e | ⟨e, hf⟩
 ·rw [e]; exact I.aln
 ·rw [e]
  obtain ⟨m, hn, _⟩ := I.loc
  refine .cons (by rw [I.ok.kind]; decide) hf hn ?_ I.aln
  exact Heap.get?_none_of_le (Nat.le_trans I.ok.bsz I.ok.above)
theorem Inv.ain (I : Inv X pins σ H s) : ∀ b ∈ frs X.stack, b ∈ X.env.locals :: X.fs := fun b hb => by
 rcases I.ok.stk with e | ⟨e, hf⟩
 ·rw [e] at hb; exact List.mem_cons_of_mem _ hb
 ·rw [e] at hb
  unfold frs at hb
  rw [List.filterMap_cons, hf] at hb
  exact hb
theorem Inv.ahv (I : Inv X pins σ H s) : ∀ b ∈ frs X.stack, H b = none := fun b hb => by
 rcases List.mem_cons.mp (I.ain b hb) with e | hb
 ·rw [e]; exact I.free
 ·obtain ⟨_, o, ho, _⟩ := I.ok.aln.mem hb
  exact I.base.free b o ho (I.ok.frf b hb) fun z => I.ok.aup b z hb
theorem Inv.step {g' : Array GenState} {t' : Nat} {d' : Drawn} {ch : List Addr} (I : Inv X pins σ H s)
  (hch : ∀ b ∈ ch, (b ∈ X.ex \/ X.s₀.heap.objs.size <= b) /\ b ≠ X.env.locals /\ (∀ x c, X.env.cells.lookup x = some c -> c ≠ b) /\ ∀ p ∈ X.pn ++ pins, p.1 ≠ b)
  (keep : ∀ b o, b ≠ X.env.locals -> b ∉ X.fs -> b ∉ ch -> s.heap.get? b = some o -> H b = none -> h'.get? b = some o)
  (slot : ∀ b o, b ≠ X.env.locals -> b ∈ X.fs -> b ∉ ch -> s.heap.get? b = some o -> H b = none -> ∃ sl, h'.get? b = some { o with slots := sl }) (free : ∀ b o, b ∉ ch -> s.heap.get? b = some o -> H b = none -> H' b = none)
  (there : ∀ b o, b ∉ ch -> s.heap.get? b = some o -> ∃ o', h'.get? b = some o')
  (tups : ∀ b xs, H b = some (.tup xs) -> H' b = some (.tup xs)) (alr : ∀ b o u, H b = some (.frz o u) -> H' b = some (.frz o u)) (als : ∀ b ps, H b = some (.tbl ps) -> ∃ more, H' b = some (.tbl (ps ++ more)))
  (ns : ∀ m, s.heap.Ns X.env.locals m -> h'.Ns X.env.locals m) (hok : HOk X.prog X.w H' h') (hg : AllBare g') :
  Inv X pins σ H' { s with heap := h', gens := g', drawn := d', toks := t' } := by
 have neL : ∀ b o, X.s₀.heap.get? b = some o -> b ≠ X.env.locals := fun b o e => Nat.ne_of_lt (Nat.lt_of_lt_of_le (Heap.lt_size e) I.ok.above)
 have neC : ∀ b o, X.s₀.heap.get? b = some o -> b ∉ X.ex -> b ∉ ch := fun b o e hx hb => by
  rcases (hch b hb).1 with z | z
  ·exact hx z
  ·exact absurd (Nat.lt_of_lt_of_le (Heap.lt_size e) z) (Nat.lt_irrefl _)
 have cellK : ∀ x c, X.env.cells.lookup x = some c -> ∀ v, s.heap.IsCell c v -> h'.IsCell c v := fun x c e v ⟨o, ho, hd⟩ => by
  have nch : c ∉ ch := fun z => (hch c z).2.2.1 x c e rfl
  by_cases hc : c ∈ X.fs
  ·obtain ⟨sl, q⟩ := slot c o (I.cne x c e) hc nch ho (I.agf x c e)
   exact ⟨_, q, hd⟩
  ·exact ⟨o, keep c o (I.cne x c e) hc nch ho (I.agf x c e), hd⟩
 refine ⟨I.ok, I.os, hg, ⟨fun b o e n hb hx => ?_, fun b o e n hb hx => ?_, fun b o e n hx => ?_, fun b o e hx => ?_, fun b xs e => tups b xs (I.base.tups b xs e), fun b o xs e => alr b o xs (I.base.alr b o xs e), fun b ps e => ?_⟩, ?_, fun x c e => ?_, ?_, fun x c e => ?_, fun p hp => ?_, hok, I.len⟩
 ·exact keep b o (neL b o e) hb (neC b o e hx) (I.base.keep b o e n hb hx) (I.base.free b o e n hx)
 ·obtain ⟨sl, e1⟩ := I.base.slot b o e n hb hx
  obtain ⟨sl', e2⟩ := slot b _ (neL b o e) hb (neC b o e hx) e1 (I.base.free b o e n hx)
  exact ⟨sl', e2⟩
 ·obtain ⟨o', e1⟩ := I.base.there b o e hx
  exact free b o' (neC b o e hx) e1 (I.base.free b o e n hx)
 ·obtain ⟨o', e1⟩ := I.base.there b o e hx
  exact there b o' (neC b o e hx) e1
 ·obtain ⟨m1, e1⟩ := I.base.als b ps e
  obtain ⟨m2, e2⟩ := als b _ e1
  exact ⟨m1 ++ m2, by rw [e2, Array.append_assoc]⟩
 ·obtain ⟨m, hn, hl⟩ := I.loc
  refine ⟨m, ns m hn, fun i x v e1 e2 e3 => ?_⟩
  obtain ⟨u, r, l⟩ := hl i x v e1 e2 e3
  refine ⟨u, r, ?_⟩
  rcases l with l | ⟨k, c, e, z⟩
  ·exact .inl l
  ·exact .inr ⟨k, c, e, cellK x c e _ z⟩
 ·obtain ⟨v, z⟩ := I.cell x c e
  exact ⟨v, cellK x c e v z⟩
 ·obtain ⟨m, ⟨o, _, _, ho, _⟩, _⟩ := I.loc
  exact free _ o (fun z => (hch _ z).2.1 rfl) ho I.free
 ·obtain ⟨v, o, ho, hd⟩ := I.cell x c e
  exact free c o (fun z => (hch c z).2.2.1 x c e rfl) ho (I.agf x c e)
 ·obtain ⟨e, n, ne, nf, d⟩ := I.pin p hp
  have nch : p.1 ∉ ch := fun z => (hch p.1 z).2.2.2 p hp rfl
  exact ⟨keep p.1 p.2 ne nf nch e n, free p.1 p.2 nch e n, ne, nf, d⟩
theorem Inv.un {t' : Nat} (I : Inv X pins σ H s) (u : Un X.fs [] H H' s.heap h') (hok : HOk X.prog X.w H' h') : Inv X pins σ H' { s with heap := h', toks := t' } := by
 obtain ⟨m, ⟨o, es, ep, ho, r⟩, _⟩ := id I.loc
 obtain ⟨sl, hL⟩ := u.any ho I.free (by simp)
 exact I.step (g' := s.gens) (d' := s.drawn) (ch := []) (fun _ z => nomatch z) (fun b o _ hb _ e n => u.keep b o e n hb (by simp)) (fun b o _ hb _ e n => u.slot b o e n hb (by simp)) (fun b o _ e n => u.free b o e n (by simp)) (fun b o _ e => u.there b o e (by simp)) u.tups u.alr u.als (fun m' hm => by
  obtain ⟨o', es', ep', ho', r'⟩ := hm
  rw [ho] at ho'; cases ho'
  exact ⟨_, es', ep', hL, r'⟩) hok I.bare
theorem Inv.call {g' : Array GenState} {t' : Nat} {d' : Drawn} {ch : List Addr} (I : Inv X pins σ H s) (u : Un (frs X.stack) ch H H' s.heap h') (hok : HOk X.prog X.w H' h') (hg : AllBare g')
  (hch : ∀ b ∈ ch, (b ∈ X.ex \/ X.s₀.heap.objs.size <= b) /\ b ≠ X.env.locals /\ (∀ x c, X.env.cells.lookup x = some c -> c ≠ b) /\ ∀ p ∈ X.pn ++ pins, p.1 ≠ b) :
  Inv X pins σ H' { s with heap := h', gens := g', drawn := d', toks := t' } := by
 obtain ⟨m, ⟨o, es, ep, ho, r⟩, _⟩ := id I.loc
 obtain ⟨sl, hL⟩ := u.any ho I.free fun z => (hch _ z).2.1 rfl
 exact I.step (ch := ch) hch (fun b o hL hb hc e n => u.keep b o e n (fun z => (List.mem_cons.mp (I.ain b z)).elim hL hb) hc) (fun b o _ _ hc e n => u.any e n hc) (fun b o hc e n => u.free b o e n hc) (fun b o hc e => u.there b o e hc) u.tups u.alr u.als (fun m' hm => by
  obtain ⟨o', es', ep', ho', r'⟩ := hm
  rw [ho] at ho'; cases ho'
  exact ⟨_, es', ep', hL, r'⟩) hok hg
theorem Inv.turned {t' : Nat} {it : Addr} (I : Inv X pins σ H s) (k : ∀ b o, b ≠ it -> s.heap.get? b = some o -> h'.get? b = some o) (hn : H it = none) (hL : it ≠ X.env.locals)
  (h1 : it ∈ X.ex \/ X.s₀.heap.objs.size <= it) (h2 : ∀ x c, X.env.cells.lookup x = some c -> c ≠ it) (h3 : ∀ p ∈ X.pn ++ pins, p.1 ≠ it) : Inv X pins σ H { s with heap := h', toks := t' } := by
 have nit : ∀ b u, H b = some u -> b ≠ it := fun b u e z => by rw [z, hn] at e; cases e
 refine I.step (g' := s.gens) (d' := s.drawn) (ch := [it]) (fun b hb => ?_) (fun b o _ _ hc e _ => k b o (fun z => hc (by simp [z])) e) (fun b o _ _ hc e _ => ⟨o.slots, k b o (fun z => hc (by simp [z])) e⟩) (fun _ _ _ _ n => n)
  (fun b o hc e => ⟨o, k b o (fun z => hc (by simp [z])) e⟩) (fun _ _ e => e) (fun _ _ _ e => e) (fun b ps e => ⟨#[], by rw [e]; simp⟩) (fun m hm => ?_) (fun b u e => ?_) I.bare
 ·have e : b = it := by simpa using hb
  subst e
  exact ⟨h1, hL, h2, h3⟩
 ·obtain ⟨o, es, ep, ho, r⟩ := hm
  exact ⟨o, es, ep, k _ o (Ne.symm hL) ho, r⟩
 ·refine (I.hok b u e).stay (fun c v hc q => k c v ?_ q) (fun _ q => q) fun _ _ q => q
  rcases hc with z | z
  ·rw [z]; exact nit b u e
  ·exact nit c _ z
theorem Inv.tok (I : Inv X pins σ H s) (t : Nat) : Inv X pins σ H { s with toks := t } := I.un (h' := s.heap) (t' := t) Un.refl I.hok
theorem Inv.kept {t' : Nat} (I : Inv X pins σ H s) (k : ∀ b u, s.heap.get? b = some u -> h'.get? b = some u) : Inv X pins σ H { s with heap := h', toks := t' } := I.un (Un.kept k) (I.hok.kept k)
theorem Inv.laid {a : Addr} {o : HO} {t' : Nat} (I : Inv X pins σ H s) (k : ∀ b u, s.heap.get? b = some u -> h'.get? b = some u) (hp : s.heap.objs.size <= a) (new : afk X.prog X.w (upd H a o) h' a o) :
  Inv X pins σ (upd H a o) { s with heap := h', toks := t' } := I.un (Un.laid k hp (I.hok.fresh hp)) (I.hok.laid k hp new)
theorem Inv.write {x e : Addr} {o : HO} {t' : Nat} (I : Inv X pins σ H s) (mu : Mut (H x)) (he : e = x \/ H e = some (.own x)) (k : ∀ b u, b ≠ e -> s.heap.get? b = some u -> h'.get? b = some u) (heo : ∃ u, h'.get? e = some u)
  (new : afk X.prog X.w (upd H x o) h' x o) : Inv X pins σ (upd H x o) { s with heap := h', toks := t' } := I.un (Un.write mu he k heo) (I.hok.write mu he k heo new)
theorem Inv.ahw {agS : List (Addr × Obj)} (I : Inv X pins σ H s) (h : ∀ p ∈ agS, s.heap.get? p.1 = some p.2 /\ H p.1 = none /\ p.1 ≠ X.env.locals /\ p.1 ∉ X.fs /\ ∀ v, p.2.data ≠ .cell v) : Inv X agS σ H s :=
 ⟨I.ok, I.os, I.bare, I.base, I.loc, I.cell, I.free, I.agf, fun p hp => (List.mem_append.mp hp).elim (fun z => I.pin p (List.mem_append_left _ z)) (h p), I.hok, I.len⟩
theorem ajV {N : List Str} (hN : N.Nodup) {i j : Nat} {x : Str} (a : N[i]? = some x) (b : N[j]? = some x) : i = j := by
 obtain ⟨h1, e1⟩ := List.getElem?_eq_some_iff.mp a
 obtain ⟨h2, e2⟩ := List.getElem?_eq_some_iff.mp b
 exact (List.getElem_inj hN).mp (e1.trans e2.symm)
theorem alv {M : Model} {A : Around} {E : Value -> Shared -> Prop} {i : Nat} {x : Str} {v : V} {u : Value} {Q : Unit -> Shared -> Prop} (I : Inv X pins σ H s) (hN : X.N.Nodup) (hi : X.N[i]? = some x) (hx : Loc X.env.scope x) (r : RelV v u)
  (h : ∀ s', Inv X pins (σ.set i (some v)) H s' -> (∃ a, Heap.SameBut a s.heap s'.heap /\ (a = X.env.locals \/ X.env.cells.lookup x = some a)) -> Q () s') (hf : X.fn x = true \/ X.env.scope.names.lookup x = some .local := by first | exact .inl rfl | exact .inr rfl | assumption) : wpAny M A (storeName X.env x u) Q E s := by
 obtain ⟨m, hn, hl⟩ := id I.loc
 have hcls : (X.env.scope.kind == .class || (X.env.scope.kind == .module && X.env.locals != X.env.globals)) = false := by rw [I.ok.kind]; rfl
 have hiσ : i < σ.length := by rw [I.len]; exact (List.getElem?_eq_some_iff.mp hi).1
 have cne := I.cne
 have tracked : ∀ {a : Addr} {h' : Heap}, (∃ o, s.heap.get? a = some o /\ H a = none) -> Heap.SameBut a s.heap h' -> HOk X.prog X.w H h' := fun {a h'} ha hs b ob e => by
  obtain ⟨_, _, hfree⟩ := ha
  refine (I.hok b ob e).stay (fun c w' hc q => (hs.2 c ?_).trans q) (fun _ q => q) fun _ _ q => q
  rintro rfl
  rcases hc with rfl | hc
  ·rw [hfree] at e; cases e
  ·rw [hfree] at hc; cases hc
 rcases hx with hk | hk
 ·refine wpAny_storeName_local hk hn (fun h' hn' hs => ?_) hcls
  obtain ⟨oL, _, _, hoL, _⟩ := id hn
  refine h _ ⟨I.ok, I.os, I.bare, ⟨fun b o e n hb hx => ?_, fun b o e n hb hx => ?_, I.base.free, fun b o e hx => ?_, I.base.tups, I.base.alr, I.base.als⟩, ⟨_, hn', fun j y v' e1 e2 e3 => ?_⟩, fun y c e => ?_, I.free, I.agf, fun p hp => ?_, tracked ⟨oL, hoL, I.free⟩ hs, by simpa using I.len⟩ ⟨_, hs, .inl rfl⟩
  ·exact (hs.2 b (Nat.ne_of_lt (Nat.lt_of_lt_of_le (Heap.lt_size e) I.ok.above))).trans (I.base.keep b o e n hb hx)
  ·obtain ⟨sl, e1⟩ := I.base.slot b o e n hb hx
   exact ⟨sl, (hs.2 b (Nat.ne_of_lt (Nat.lt_of_lt_of_le (Heap.lt_size e) I.ok.above))).trans e1⟩
  ·obtain ⟨o', e1⟩ := I.base.there b o e hx
   exact ⟨o', (hs.2 b (Nat.ne_of_lt (Nat.lt_of_lt_of_le (Heap.lt_size e) I.ok.above))).trans e1⟩
  ·by_cases hj : j = i
   ·subst hj
    rw [hi] at e1; cases e1
    rw [List.getElem?_set_self hiσ] at e2
    cases e2
    exact ⟨u, r, .inl ⟨hk, by simp⟩⟩
   ·rw [List.getElem?_set_ne (Ne.symm hj)] at e2
    obtain ⟨u', r', q⟩ := hl j y v' e1 e2 e3
    refine ⟨u', r', ?_⟩
    rcases q with ⟨k, e⟩ | ⟨k, c, e, z⟩
    ·refine .inl ⟨k, ?_⟩
     have : y ≠ x := fun e => hj (ajV hN e1 (e ▸ hi))
     simp [this, e]
    ·exact .inr ⟨k, c, e, z.sameBut hs (cne y c e)⟩
  ·obtain ⟨w', z⟩ := I.cell y c e
   exact ⟨w', z.sameBut hs (cne y c e)⟩
  ·obtain ⟨e, n, ne, nf, d⟩ := I.pin p hp
   exact ⟨(hs.2 p.1 ne).trans e, n, ne, nf, d⟩
 ·have hfn : X.fn x = true := by
   rcases hf with z | z
   ·exact z
   ·rw [z] at hk; cases hk
  obtain ⟨c, hc⟩ := I.ok.has x (.inl hk)
  obtain ⟨w', z⟩ := I.cell x c hc
  refine wpAny_storeName_cell I.ok.kind hk hc z (fun h' hc' hs => ?_)
  obtain ⟨oc, hoc, axg⟩ := id z
  refine h { s with heap := h' } ⟨I.ok, I.os, I.bare, ⟨fun b o e n hb hx => ?_, fun b o e n hb hx => ?_, I.base.free, fun b o e hx => ?_, I.base.tups, I.base.alr, I.base.als⟩, ⟨m, hn.sameBut hs (Ne.symm (cne x c hc)), fun j y v' e1 e2 e3 => ?_⟩, fun y c' e => ?_, I.free, I.agf, fun p hp => ?_, tracked ⟨oc, hoc, I.agf x c hc⟩ hs, by simpa using I.len⟩ ⟨c, hs, .inr hc⟩
  ·exact (hs.2 b (Nat.ne_of_lt (Nat.lt_of_lt_of_le (Heap.lt_size e) (I.ok.cab x c hfn hc)))).trans (I.base.keep b o e n hb hx)
  ·obtain ⟨sl, e1⟩ := I.base.slot b o e n hb hx
   exact ⟨sl, (hs.2 b (Nat.ne_of_lt (Nat.lt_of_lt_of_le (Heap.lt_size e) (I.ok.cab x c hfn hc)))).trans e1⟩
  ·obtain ⟨o', e1⟩ := I.base.there b o e hx
   exact ⟨o', (hs.2 b (Nat.ne_of_lt (Nat.lt_of_lt_of_le (Heap.lt_size e) (I.ok.cab x c hfn hc)))).trans e1⟩
  ·by_cases hj : j = i
   ·subst hj
    rw [hi] at e1; cases e1
    rw [List.getElem?_set_self hiσ] at e2
    cases e2
    exact ⟨u, r, .inr ⟨.inl hk, c, hc, hc'⟩⟩
   ·rw [List.getElem?_set_ne (Ne.symm hj)] at e2
    obtain ⟨u', r', q⟩ := hl j y v' e1 e2 e3
    refine ⟨u', r', ?_⟩
    rcases q with q | ⟨k, c', e, z'⟩
    ·exact .inl q
    ·refine .inr ⟨k, c', e, z'.sameBut hs ?_⟩
     rintro rfl
     exact hj (ajV hN e1 (I.ok.inj _ _ _ e hc ▸ hi))
  ·by_cases hcc : c' = c
   ·subst hcc; exact ⟨_, hc'⟩
   ·obtain ⟨w2, z2⟩ := I.cell y c' e
    exact ⟨w2, z2.sameBut hs hcc⟩
  ·obtain ⟨e, n, ne, nf, d⟩ := I.pin p hp
   refine ⟨(hs.2 p.1 ?_).trans e, n, ne, nf, d⟩
   intro q
   rw [q, hoc] at e
   have q' : oc = p.2 := Option.some.inj e
   exact d w' (by rw [<-q']; exact axg)
theorem af3 {M : Model} {A : Around} {E : Value -> Shared -> Prop} {i : Nat} {x : Str} {v : V} {u : Value} {Q : Unit -> Shared -> Prop} (I : Inv X pins σ H s) (hN : X.N.Nodup) (hi : X.N[i]? = some x) (hx : Loc X.env.scope x) (r : RelV v u)
  (h : ∀ s', Inv X pins (σ.set i (some v)) H s' -> Q () s') (hf : X.fn x = true \/ X.env.scope.names.lookup x = some .local := by first | exact .inl rfl | exact .inr rfl | assumption) : wpAny M A (storeName X.env x u) Q E s :=
 alv I hN hi hx r (fun s' I' _ => h s' I') hf
theorem Inv.call' {s' : Shared} {ch : List Addr} (I : Inv X pins σ H s) (ho : s'.os = s.os) (u : Un (frs X.stack) ch H H' s.heap s'.heap) (hok : HOk X.prog X.w H' s'.heap) (hg : AllBare s'.gens)
  (hch : ∀ b ∈ ch, (b ∈ X.ex \/ X.s₀.heap.objs.size <= b) /\ b ≠ X.env.locals /\ (∀ x c, X.env.cells.lookup x = some c -> c ≠ b) /\ ∀ p ∈ X.pn ++ pins, p.1 ≠ b) : Inv X pins σ H' s' := by
 obtain ⟨h', g', d', t', o'⟩ := s'
 have e : o' = s.os := ho
 subst e
 exact I.call (g' := g') (t' := t') (d' := d') u hok hg hch
end
noncomputable abbrev XK := Value -> Option Addr -> Hp -> Prop
noncomputable abbrev St := List (Option V)
noncomputable abbrev VK := V -> Hp -> Prop
noncomputable abbrev TE := St -> Hp -> VK -> Prop
noncomputable abbrev TT := St -> Hp -> (Bool -> Hp -> Prop) -> Prop
noncomputable abbrev TA := St -> Hp -> (List V -> Hp -> Prop) -> Prop
structure Ends where
 nx : St -> Hp -> Prop
 rt : VK
 bk : St -> Hp -> Prop := fun _ _ => False
 ct : St -> Hp -> Prop := fun _ _ => False
noncomputable abbrev TS := Ends -> St -> Hp -> Prop
noncomputable def EP (X : Cx) (pins : List (Addr × Obj)) (σ : St) (Q : VK) (u : Value) (s' : Shared) : Prop := ∃ v H', Inv X pins σ H' s' /\ RelV v u /\ Q v H'
noncomputable def TP (X : Cx) (pins : List (Addr × Obj)) (σ : St) (Q : Bool -> Hp -> Prop) (b : Bool) (s' : Shared) : Prop := ∃ H', Inv X pins σ H' s' /\ Q b H'
noncomputable def AP (X : Cx) (pins : List (Addr × Obj)) (σ : St) (Q : List V -> Hp -> Prop) (us : List Value) (s' : Shared) : Prop := ∃ vs H', Inv X pins σ H' s' /\ Vals vs us /\ Q vs H'
noncomputable def SP (X : Cx) (pins : List (Addr × Obj)) (D : Ends) (f : Flow) (s' : Shared) : Prop :=
 match f with
 | .next => ∃ σ' H', Inv X pins σ' H' s' /\ D.nx σ' H'
 | .brk => ∃ σ' H', Inv X pins σ' H' s' /\ D.bk σ' H'
 | .cont => ∃ σ' H', Inv X pins σ' H' s' /\ D.ct σ' H'
 | .ret u => ∃ v σ' H', Inv X pins σ' H' s' /\ RelV v u /\ D.rt v H'
noncomputable def PE (X : Cx) (e : Expr) (t : TE) : Prop :=
 ∀ (pins : List (Addr × Obj)) (s : Shared) (σ : St) (H : Hp) (Q : VK), Inv X pins σ H s -> t σ H Q -> wpAny (model X.prog X.w) X.A (eval e X.env) (EP X pins σ Q) X.xe s
noncomputable def PT (X : Cx) (e : Expr) (t : TT) : Prop :=
 ∀ (pins : List (Addr × Obj)) (s : Shared) (σ : St) (H : Hp) (Q : Bool -> Hp -> Prop), Inv X pins σ H s -> t σ H Q -> wpAny (model X.prog X.w) X.A (isTrue e X.env (eval e X.env)) (TP X pins σ Q) X.xe s
noncomputable def PW (X : Cx) (e : Expr) (t : TT) : Prop :=
 ∀ (whole : Sem Value) (pins : List (Addr × Obj)) (s : Shared) (σ : St) (H : Hp) (Q : Bool -> Hp -> Prop), Inv X pins σ H s -> t σ H Q -> wpAny (model X.prog X.w) X.A (isTrue e X.env whole) (TP X pins σ Q) X.xe s
theorem PW.pt {X : Cx} {e : Expr} {t : TT} (h : PW X e t) : PT X e t := h _
noncomputable def PA (X : Cx) (es : List Expr) (t : TA) : Prop :=
 ∀ (pos : Pos) (pins : List (Addr × Obj)) (s : Shared) (σ : St) (H : Hp) (Q : List V -> Hp -> Prop), Inv X pins σ H s -> t σ H Q -> wpAny (model X.prog X.w) X.A (spliced (backTo pos (starEach es X.env))) (AP X pins σ Q) X.xe s
noncomputable def PS (X : Cx) (st : Stmt) (t : TS) : Prop :=
 ∀ (pins : List (Addr × Obj)) (s : Shared) (σ : St) (H : Hp) (D : Ends), Inv X pins σ H s -> t D σ H -> wpAny (model X.prog X.w) X.A (exec st X.env) (SP X pins D) X.xe s
noncomputable def PSs (X : Cx) (st : List Stmt) (t : TS) : Prop :=
 ∀ (pins : List (Addr × Obj)) (s : Shared) (σ : St) (H : Hp) (D : Ends), Inv X pins σ H s -> t D σ H -> wpAny (model X.prog X.w) X.A (execs st X.env) (SP X pins D) X.xe s
theorem thn {α : Type} {t : Sem α} {Q Q' : α -> Shared -> Prop} {M : Model} {A : Around} {E : Value -> Shared -> Prop} {s : Shared} (h : wpAny M A t Q E s) (hQ : ∀ a s, Q a s -> Q' a s) : wpAny M A t Q' E s := wpAny_mono h hQ fun _ _ x => x
end L2
namespace L2
open PySem PySem.Spec PyProof.Rows
section
variable {X : Cx}
noncomputable def akH (i : Nat) : TE := fun σ H Q => ∃ v, σ[i]? = some (some v) /\ Q v H
noncomputable def tC (v : V) : TE := fun _ H Q => Q v H
theorem alw {i : Nat} {x : Str} {pos : Pos} (hN : X.N[i]? = some x) (hv : Vis X.env.scope x) (hd : (x == ("__debug__" : Str)) = false := by decide) (hcd : (x == ("__classdict__" : Str)) = false := by decide) : PE X (.Name x pos) (akH i) := by
 intro pins s σ H Q I h
 obtain ⟨v, e, h⟩ := h
 obtain ⟨m, hn, hl⟩ := I.loc
 obtain ⟨u, r, l⟩ := hl i x v hN e hv
 have fin : EP X pins σ Q u s := ⟨v, H, I, r, h⟩
 rcases l with ⟨hk, hm⟩ | ⟨hk, c, hc, hcell⟩
 ·exact wpAny_Name (wpAny_loadName_local I.ok.kind hk hn hm fin) hd
 ·rcases hk with hk | hk
  ·exact wpAny_Name (wpAny_loadName_cell I.ok.kind hk hc hcell fin) hd
  ·exact wpAny_Name (wpAny_loadName_free I.ok.kind hk hc hcell fin hcd) hd
theorem aal {i j pos} : PE X (.Constant (.int i) j pos) (tC (.int i)) := fun _ _ _ H _ I h => wpAny_Constant_int ⟨.int i, H, I.tok _, ⟨_, rfl⟩, h⟩
theorem aeR {b j pos} : PE X (.Constant (.bool b) j pos) (tC (.bl b)) := fun _ _ _ H _ I h => Constant_bool ⟨.bl b, H, I, rfl, h⟩
theorem arn {j pos} : PE X (.Constant .none j pos) (tC .non) := fun _ _ _ H _ I h => Constant_none ⟨.non, H, I, rfl, h⟩
theorem acA {x j pos} : PE X (.Constant (.str x) j pos) (tC (.str x)) := fun _ _ _ H _ I h => Calls.Constant_str ⟨.str x, H, I.tok _, ⟨_, rfl⟩, h⟩
noncomputable def Gl (X : Cx) (x : Str) : Prop := X.env.kindOf x = some .globalImplicit
theorem ai7 {E : Value -> Shared -> Prop} {pins : List (Addr × Obj)} {s : Shared} {σ : St} {H : Hp} {x : Str} {u : Value} {pos : Pos} {Q : Value -> Shared -> Prop} (I : Inv X pins σ H s) (hg : Gl X x) (hm : X.mg x = some u) (h : Q u s)
  (hd : (x == ("__debug__" : Str)) = false := by decide) : wpAny (model X.prog X.w) X.A (eval (.Name x pos) X.env) Q E s :=
 Calls.Name_function_global I.ok.kind hg (Calls.loadGlobal_global (by rw [I.ok.glob]; exact I.mod.glob.keeps I.bk) hm h) hd
theorem afD {E : Value -> Shared -> Prop} {pins : List (Addr × Obj)} {s : Shared} {σ : St} {H : Hp} {x : Str} {u : Value} {pos : Pos} {Q : Value -> Shared -> Prop} (I : Inv X pins σ H s) (hg : Gl X x) (hm : X.mg x = none) (hv : bootBuiltins x = some u) (h : Q u s)
  (hn : x ≠ "__name__" := by decide) (hd : (x == ("__debug__" : Str)) = false := by decide) : wpAny (model X.prog X.w) X.A (eval (.Name x pos) X.env) Q E s := by
 obtain ⟨mb, h1, h2⟩ := I.mod.blt
 exact Calls.Name_function_global I.ok.kind hg (Calls.loadGlobal_builtin (by rw [I.ok.glob]; exact I.mod.glob.keeps I.bk) hm (by rw [I.ok.blt]; exact h1.keeps I.bk) ((h2 x hn).trans hv) h) hd
theorem apn {x : Str} {v : V} {u : Value} {pos : Pos} (hg : Gl X x) (hm : X.mg x = some u) (r : RelV v u) (hd : (x == ("__debug__" : Str)) = false := by decide) : PE X (.Name x pos) (tC v) :=
 fun _ _ _ H _ I h => ai7 I hg hm ⟨v, H, I, r, h⟩ hd
theorem apo {x : Str} {v : V} {u : Value} {pos : Pos} (hg : Gl X x) (hm : X.mg x = none) (hv : bootBuiltins x = some u) (r : RelV v u) (hn : x ≠ "__name__" := by decide) (hd : (x == ("__debug__" : Str)) = false := by decide) : PE X (.Name x pos) (tC v) :=
 fun _ _ _ H _ I h => afD I hg hm hv ⟨v, H, I, r, h⟩ hn hd
variable {a b : Expr} {ta tb : TE} {pos : Pos}
variable {tA tB' : TT} {rest : List Expr}
noncomputable def tOr (t u : TT) : TT := fun σ H Q => t σ H fun c H1 => if c = true then Q true H1 else u σ H1 Q
noncomputable def awx (t : TT) : TT := fun σ H Q => t σ H fun c H1 => Q (!c) H1
theorem aeS (ha : PT X a tA) : PW X (.BoolOp .Or [a] pos) tA := by
 intro wh pins s σ H Q I h
 refine isTrue_or (thn (ha pins s σ H Q I h) fun c s1 e => ?_)
 cases c with
 | false => exact isTrue_or_nil e
 | true => exact e
theorem agT (ha : PT X a tA) (hb : PW X (.BoolOp .Or (b :: rest) pos) tB') : PW X (.BoolOp .Or (a :: b :: rest) pos) (tOr tA tB') := by
 intro wh pins s σ H Q I h
 refine isTrue_or (thn (ha pins s σ H _ I h) fun c s1 ⟨H1, I1, q1⟩ => ?_)
 cases c with
 | true => exact ⟨H1, I1, q1⟩
 | false => exact hb wh pins s1 σ H1 Q I1 q1
theorem acj (ha : PT X a tA) : PT X (.UnaryOp .Not a pos) (awx tA) := by
 intro pins s σ H Q I h
 exact isTrue_not (ha pins s σ H (fun c H1 => Q (!c) H1) I h)
noncomputable def aro (ta tb : TE) : TE := fun σ H Q => ta σ H fun x H1 => ∃ c, x = .bl c /\ if c = true then tb σ H1 Q else Q (.bl false) H1
noncomputable def arp (ta : TE) : TE := fun σ H Q => ta σ H fun x H1 => ∃ c, x = .bl c /\ Q (.bl (!c)) H1
theorem aio {op} {t : TE} (h : PE X a t) : PE X (.BoolOp op [a] pos) t := fun pins s σ H Q I hw => BoolOp_one (h pins s σ H Q I hw)
theorem ag8 (ha : PE X a ta) (hb : PE X (.BoolOp .And (b :: rest) pos) tb) : PE X (.BoolOp .And (a :: b :: rest) pos) (aro ta tb) := by
 intro pins s σ H Q I h
 refine BoolOp_and (thn (ha pins s σ H _ I h) fun v s1 ⟨x, H1, I1, r1, q1⟩ => ?_)
 obtain ⟨c, rfl, q1⟩ := q1
 cases r1
 refine wpAny_truthy_bool ?_
 cases c with
 | true => exact hb pins s1 σ H1 Q I1 q1
 | false => exact ⟨.bl false, H1, I1, rfl, q1⟩
theorem arq (ha : PE X a ta) : PE X (.UnaryOp .Not a pos) (arp ta) := by
 intro pins s σ H Q I h
 refine UnaryOp_ (thn (ha pins s σ H _ I h) fun v s1 ⟨x, H1, I1, r1, q1⟩ => ?_)
 obtain ⟨c, rfl, q1⟩ := q1
 cases r1
 exact not_of (wpAny_truthy_bool ⟨.bl (!c), H1, I1, rfl, q1⟩)
end
end L2
namespace L2
open PySem PySem.Spec PyProof.Rows
noncomputable def SqL (K : PySem.W.Frag) (H : Hp) (a : Addr) (xs : List V) : Prop :=
 Rd H a (.lst xs) \/
  ∃ (o : Obj) (its : Array Value) (n : Nat), K.lookup a = some o /\ o.cls = .type "list" /\ o.dict = none /\ o.data = .seq its n /\ its.size <= sizeLine /\ Vals xs its.toList
noncomputable def SqT (K : PySem.W.Frag) (H : Hp) (a : Addr) (xs : List V) : Prop :=
 Rd H a (.tup xs) \/
  ∃ (o : Obj) (its : Array Value) (n : Nat), K.lookup a = some o /\ o.cls = .type "tuple" /\ o.data = .seq its n /\ its.size <= sizeLine /\ Vals xs its.toList
noncomputable def axh : Value -> Option V
 | .none => some .non
 | .bool b => some (.bl b)
 | .int i _ => some (.int i)
 | .str x _ => some (.str x)
 | .bytes b _ => some (.byt b)
 | .float b _ => some (.flt b)
 | .ref a => some (.ref a)
 | .type n => some (.ty n)
 | _ => none
theorem RelV.abs {x : V} {u : Value} (r : RelV x u) : axh u = some x := by
 cases x with
 | non => cases r; rfl
 | bl _ => cases r; rfl
 | int _ => obtain ⟨t, rfl⟩ := r; rfl
 | str _ => obtain ⟨t, rfl⟩ := r; rfl
 | byt _ => obtain ⟨t, rfl⟩ := r; rfl
 | flt _ => obtain ⟨t, rfl⟩ := r; rfl
 | ref _ => cases r; rfl
 | ty _ => cases r; rfl
theorem RelV.inj {x y : V} {u : Value} (r : RelV x u) (q : RelV y u) : x = y := Option.some.inj (r.abs.symm.trans q.abs)
theorem Vals.inj : ∀ {xs ys : List V} {us : List Value}, Vals xs us -> Vals ys us -> xs = ys
 | _, _, _, .nil, .nil => rfl
 | _, _, _, .cons r t, .cons r' t' => by rw [r.inj r', Vals.inj t t']
section
variable {X : Cx} {pins : List (Addr × Obj)} {σ : St} {H : Hp} {s : Shared} {a : Addr} {xs ys : List V}
theorem SqL.of {K : PySem.W.Frag} (h : H a = some (.lst xs)) : SqL K H a xs := .inl (.inl h)
theorem SqT.of {K : PySem.W.Frag} (h : H a = some (.tup xs)) : SqT K H a xs := .inl (.inl h)
theorem Inv.list (I : Inv X pins σ H s) (h : SqL X.K H a xs) : ∃ its : List Value, Vals xs its /\ PlainL s.heap a its.toArray /\ xs.length <= sizeLine := by
 rcases h with h | ⟨o, its, n, hk, hc, hd, hs, hz, r⟩
 ·obtain ⟨z, its, n, r, e⟩ := h.ok I.hok
  exact ⟨its, r, ⟨_, n, e, rfl, rfl, rfl⟩, z⟩
 ·refine ⟨its.toList, r, ⟨o, n, I.kIn a o hk, hc, hd, by simpa using hs⟩, ?_⟩
  have e := r.length
  simp only [Array.length_toList] at e
  omega
theorem Inv.tuple (I : Inv X pins σ H s) (h : SqT X.K H a xs) : ∃ its : List Value, Vals xs its /\ IsTup s.heap a its.toArray /\ xs.length <= sizeLine := by
 rcases h with h | ⟨o, its, n, hk, hc, hs, hz, r⟩
 ·obtain ⟨z, its, r, p⟩ := h.ok I.hok
  exact ⟨its, r, p, z⟩
 ·refine ⟨its.toList, r, ⟨o, I.kIn a o hk, hc, n, by simpa using hs⟩, ?_⟩
  have e := r.length
  simp only [Array.length_toList] at e
  omega
theorem Inv.aeT (I : Inv X pins σ H s) (h : SqL X.K H a xs) (h' : SqL X.K H a ys) : xs = ys := by
 obtain ⟨its, r, ⟨o, n, e, _, _, d⟩, _⟩ := I.list h
 obtain ⟨its', r', ⟨o', n', e', _, _, d'⟩, _⟩ := I.list h'
 rw [e] at e'; cases e'
 rw [d] at d'
 injection d' with d1 _
 have : its = its' := by simpa using congrArg Array.toList d1
 subst this
 exact r.inj r'
theorem Inv.aip (I : Inv X pins σ H s) (h : SqT X.K H a xs) (h' : SqT X.K H a ys) : xs = ys := by
 obtain ⟨its, r, ⟨o, e, _, n, d⟩, _⟩ := I.tuple h
 obtain ⟨its', r', ⟨o', e', _, n', d'⟩, _⟩ := I.tuple h'
 rw [e] at e'; cases e'
 rw [d] at d'
 injection d' with d1 _
 have : its = its' := by simpa using congrArg Array.toList d1
 subst this
 exact r.inj r'
end
noncomputable abbrev Cx.wish (X : Cx) (E : Value -> Shared -> Prop) : Cx := { X with xe := E }
noncomputable abbrev Cx.nox (X : Cx) : Cx := X.wish fun _ _ => False
theorem Cx.Ok.wish {X : Cx} (ok : X.Ok) (E : Value -> Shared -> Prop) : (X.wish E).Ok :=
 ⟨ok.mod, ok.kind, ok.glob, ok.blt, ok.above, ok.inj, ok.has, ok.cab, ok.hd, ok.frames, ok.stk, ok.exf, ok.bs, ok.bsz, ok.ai6, ok.aup, ok.aln, ok.frf⟩
theorem Cx.Ok.afE {X : Cx} {E : Value -> Shared -> Prop} (ok : (X.wish E).Ok) : X.Ok :=
 ⟨ok.mod, ok.kind, ok.glob, ok.blt, ok.above, ok.inj, ok.has, ok.cab, ok.hd, ok.frames, ok.stk, ok.exf, ok.bs, ok.bsz, ok.ai6, ok.aup, ok.aln, ok.frf⟩
section
variable {X : Cx} {pins : List (Addr × Obj)} {σ : St} {H : Hp} {s : Shared} {E : Value -> Shared -> Prop}
theorem Inv.wish (I : Inv X pins σ H s) (E : Value -> Shared -> Prop) : Inv (X.wish E) pins σ H s := ⟨I.ok.wish E, I.os, I.bare, I.base, I.loc, I.cell, I.free, I.agf, I.pin, I.hok, I.len⟩
theorem Inv.afE (I : Inv (X.wish E) pins σ H s) : Inv X pins σ H s := ⟨I.ok.afE, I.os, I.bare, I.base, I.loc, I.cell, I.free, I.agf, I.pin, I.hok, I.len⟩
theorem SP.afE {D : Ends} {f : Flow} {s' : Shared} (h : SP (X.wish E) pins D f s') : SP X pins D f s' := by
 cases f with
 | next => obtain ⟨σ', H', I, q⟩ := h; exact ⟨σ', H', I.afE, q⟩
 | brk => obtain ⟨σ', H', I, q⟩ := h; exact ⟨σ', H', I.afE, q⟩
 | cont => obtain ⟨σ', H', I, q⟩ := h; exact ⟨σ', H', I.afE, q⟩
 | ret u => obtain ⟨v, σ', H', I, r, q⟩ := h; exact ⟨v, σ', H', I.afE, r, q⟩
end
section
variable {X : Cx} {st : Stmt} {rest : List Stmt} {t u : TS} {e : Expr} {te : TE} {pos : Pos}
noncomputable def ars : TS := fun D σ H => D.nx σ H
noncomputable def awy (t u : TS) : TS := fun D σ H => t { D with nx := u D } σ H
theorem aaQ : PSs X [] ars := fun _ _ σ H _ I h => wpAny_execs_nil ⟨σ, H, I, h⟩
theorem aam (h1 : PS X st t) (h2 : PSs X rest u) : PSs X (st :: rest) (awy t u) := by
 intro pins s σ H D I h
 refine wpAny_execs_cons (thn (h1 pins s σ H { D with nx := u D } I h) fun f s1 q => ?_)
 cases f with
 | next =>
  obtain ⟨σ', H', I', q⟩ := q
  exact h2 pins s1 σ' H' D I' q
 | ret v => exact q
 | brk => exact q
 | cont => exact q
theorem aap (h1 : PS X st t) : PSs X [st] t := by
 intro pins s σ H D I h
 refine wpAny_execs_cons (thn (h1 pins s σ H D I h) fun f s1 q => ?_)
 cases f with
 | next => exact wpAny_execs_nil q
 | ret v => exact q
 | brk => exact q
 | cont => exact q
theorem Inv.quiet {pins : List (Addr × Obj)} {σ : St} {H : Hp} {s : Shared} (I : Inv X pins σ H s) : interactive X.env = false := by simp [interactive, I.ok.kind]
noncomputable def apq (te : TE) : TS := fun D σ H => te σ H fun _ H1 => D.nx σ H1
theorem apr (he : PE X e te) (hs : swapsWith e none pos.line X.env = pure false := by rfl) : PS X (.Expr e pos) (apq te) := by
 intro pins s σ H D I h
 exact wpAny_Expr_any (thn (he pins s σ H _ I h) fun v s1 ⟨x, H1, I1, r1, q1⟩ => ⟨σ, H1, I1, q1⟩) I.quiet hs
noncomputable def awz (te : TE) : TS := fun D σ H => te σ H D.rt
theorem aaB (he : PE X e te) : PS X (.Return (some e) pos) (awz te) := by
 intro pins s σ H D I h
 exact wpAny_Return_some (thn (he pins s σ H _ I h) fun v s1 ⟨x, H1, I1, r1, q1⟩ => ⟨x, σ, H1, I1, r1, q1⟩)
noncomputable def awA (c : TT) (t u : TS) : TS := fun D σ H => c σ H fun b H1 => if b = true then t D σ H1 else u D σ H1
theorem abX {c : Expr} {a b : List Stmt} {tc : TT} (hc : PT X c tc) (ha : PSs X a t) (hb : PSs X b u) : PS X (.If c a b pos) (awA tc t u) := by
 intro pins s σ H D I h
 refine wpAny_If (thn (hc pins s σ H _ I h) fun d s1 ⟨H1, I1, q1⟩ => ?_)
 cases d with
 | true => exact ha pins s1 σ H1 D I1 q1
 | false => exact hb pins s1 σ H1 D I1 q1
end
noncomputable abbrev TG := V -> St -> Hp -> (St -> Hp -> Prop) -> Prop
noncomputable abbrev TGs := List V -> St -> Hp -> (St -> Hp -> Prop) -> Prop
noncomputable def PG (X : Cx) (target : Expr) (t : TG) : Prop :=
 ∀ (pins : List (Addr × Obj)) (s : Shared) (σ : St) (H : Hp) (v : V) (u : Value) (Q : St -> Hp -> Prop), Inv X pins σ H s -> RelV v u -> t v σ H Q ->
  wpAny (model X.prog X.w) X.A (assign target X.env u) (fun _ s' => ∃ σ' H', Inv X pins σ' H' s' /\ Q σ' H') X.xe s
noncomputable def PGs (X : Cx) (ts : List Expr) (t : TGs) : Prop :=
 ∀ (pins : List (Addr × Obj)) (s : Shared) (σ : St) (H : Hp) (vs : List V) (us : List Value) (Q : St -> Hp -> Prop), Inv X pins σ H s -> Vals vs us -> t vs σ H Q ->
  wpAny (model X.prog X.w) X.A (assignInOrder ((assignEach ts X.env).map (·.2)) us) (fun _ s' => ∃ σ' H', Inv X pins σ' H' s' /\ Q σ' H') X.xe s
noncomputable abbrev auN := V -> V -> V -> Hp -> (Hp -> Prop) -> Prop
noncomputable def awB (X : Cx) (t : auN) : Prop :=
 ∀ (pins : List (Addr × Obj)) (s : Shared) (σ : St) (H : Hp) (o i v : V) (ov iv u : Value) (Q : Hp -> Prop), Inv X pins σ H s -> RelV o ov -> RelV i iv -> RelV v u -> t o i v H Q ->
  wpAny (model X.prog X.w) X.A (setItem ov iv u) (fun _ s' => ∃ H', Inv X pins σ H' s' /\ Q H') X.xe s
section
variable {X : Cx} {pos : Pos}
noncomputable def acX (i : Nat) : TG := fun v σ H Q => Q (σ.set i (some v)) H
theorem alx {i : Nat} {x : Str} (hN : X.N.Nodup) (hi : X.N[i]? = some x) (hx : Loc X.env.scope x) (hf : X.fn x = true \/ X.env.scope.names.lookup x = some .local := by first | exact .inl rfl | exact .inr rfl | assumption) : PG X (.Name x pos) (acX i) := by
 intro pins s σ H v u Q I r h
 exact wpAny_assign_Name (af3 I hN hi hx r (fun s' I' => ⟨_, H, I', h⟩) hf)
noncomputable def auO : TGs := fun vs σ H Q => vs = [] /\ Q σ H
noncomputable def ani (t : TG) (u : TGs) : TGs := fun vs σ H Q => ∃ v r, vs = v :: r /\ t v σ H fun σ' H' => u r σ' H' Q
theorem adC : PGs X [] auO := by
 intro pins s σ H vs us Q I r h
 obtain ⟨e, h⟩ := h
 subst e
 cases r
 exact assignInOrder_nil ⟨σ, H, I, h⟩
theorem abt {e : Expr} {es : List Expr} {t : TG} {u : TGs} (h1 : PG X e t) (h2 : PGs X es u)
  (hs : (assignEach (e :: es) X.env).map (·.2) = assign e X.env :: (assignEach es X.env).map (·.2) := by rfl) : PGs X (e :: es) (ani t u) := by
 intro pins s σ H vs us Q I r h
 obtain ⟨v, vr, e1, h⟩ := h
 subst e1
 cases r with
 | cons r rr =>
  rw [hs]
  refine assignInOrder_cons (thn (h1 pins s σ H _ _ _ I r h) fun _ s1 ⟨σ1, H1, I1, q1⟩ => ?_)
  exact h2 pins s1 σ1 H1 _ _ Q I1 rr q1
noncomputable def auP (K : PySem.W.Frag) (n : Nat) (t : TGs) : TG := fun v σ H Q => ∃ a xs, v = .ref a /\ SqT K H a xs /\ xs.length = n /\ t xs σ H Q
theorem aeU {es : List Expr} {k : Nat} {t : TGs} {n : Nat} (hc : X.calm = true) (h : PGs X es t)
  (hn : (assignEach es X.env).length = n := by rfl) (hst : (assignEach es X.env).findIdx? (·.1) = none := by rfl) : PG X (.Tuple es k pos) (auP X.K n t) := by
 intro pins s σ H v u Q I r hw
 obtain ⟨a, xs, e1, hq, hl, hw⟩ := hw
 subst e1
 cases r
 obtain ⟨its, rv, ht, hz⟩ := I.tuple hq
 refine assign_Tuple_tuple (I.ok.hd hc) ht (by simp [hn, <-hl, rv.length]) hst fun h' hx => ?_
 have I1 : Inv X pins σ H { s with heap := h' } := I.kept (t' := s.toks) fun b o e => hx b o (Nat.ne_of_lt (Heap.lt_size e)) e
 exact h pins _ σ H xs _ Q I1 (by simpa using rv) hw
noncomputable def awC (to ti : TE) (t : auN) : TG := fun v σ H Q => to σ H fun o H1 => ti σ H1 fun i H2 => t o i v H2 fun H3 => Q σ H3
theorem aru {o i : Expr} {to ti : TE} {t : auN} (ho : PE X o to) (hi : PE X i ti) (hs : awB X t)
  (ha : ∀ v, assign (.Subscript o i pos) X.env v = (do
   let ov <-holding [v] (eval o X.env)
   let iv <-holding [v, ov] (eval i X.env)
   standAt pos
   holding [v, ov, iv] (setItem ov iv v)
   release [v, ov, iv] []) := by intro _; rfl) : PG X (.Subscript o i pos) (awC to ti t) := by
 intro pins s σ H v u Q I r h
 rw [ha]
 refine wpAny_bind (wpAny_holding (thn (ho pins s σ H _ I h) fun ov s1 ⟨x, H1, I1, r1, q1⟩ => ?_))
 refine wpAny_bind (wpAny_holding (thn (hi pins s1 σ H1 _ I1 q1) fun iv s2 ⟨y, H2, I2, r2, q2⟩ => ?_))
 refine wpAny_bind (wpAny_standAt (wpAny_bind (wpAny_holding (thn (hs pins s2 σ H2 x y v ov iv u _ I2 r1 r2 r q2) fun _ s3 ⟨H3, I3, q3⟩ => ?_))))
 exact wpAny_release ⟨σ, H3, I3, q3⟩
noncomputable def aps (te : TE) (g : TG) : TS := fun D σ H => te σ H fun x H1 => g x σ H1 D.nx
theorem ag9 {tg e : Expr} {te : TE} {g : TG} (he : PE X e te) (hg : PG X tg g) (hs : swapsWithSole [tg] e pos.line X.env = pure false := by rfl) (hw : swappedStores [tg] e X.env = pure none := by rfl)
  (h1 : (assignEach [tg] X.env).map (·.2) = [assign tg X.env] := by rfl) : PS X (.Assign [tg] e pos) (aps te g) := by
 intro pins s σ H D I h
 refine wpAny_Assign_stores (thn (he pins s σ H _ I h) fun v s1 ⟨x, H1, I1, r1, q1⟩ => ?_) hs hw
 rw [h1]
 exact thn (hg pins s1 σ H1 x v _ I1 r1 q1) fun _ s2 q => q
theorem aoF {i : Nat} {x : Str} {e : Expr} {te : TE} {pos' : Pos} (hN : X.N.Nodup) (hi : X.N[i]? = some x) (hx : Loc X.env.scope x) (he : PE X e te) (hs : swapsWith e (some (.Name x pos')) pos.line X.env = pure false := by rfl) (hf : X.fn x = true \/ X.env.scope.names.lookup x = some .local := by first | exact .inl rfl | exact .inr rfl | assumption) :
  PS X (.Assign [.Name x pos'] e pos) (aps te (acX i)) := by
 intro pins s σ H D I h
 refine wpAny_Assign_Name (thn (he pins s σ H _ I h) fun v s1 ⟨y, H1, I1, r1, q1⟩ => ?_) hs
 exact af3 I1 hN hi hx r1 (fun s2 I2 => ⟨_, H1, I2, q1⟩) hf
noncomputable def awD (i j : Nat) (ta : TA) : TS := fun D σ H => ta σ H fun vs H1 => ∃ v w, vs = [v, w] /\ D.nx ((σ.set i (some v)).set j (some w)) H1
theorem aly {i j : Nat} {x y : Str} {a b : Expr} {ta : TA} {px py pt : Pos} {kt k2 pt2} (hc : X.calm = true) (hN : X.N.Nodup) (hi : X.N[i]? = some x) (hj : X.N[j]? = some y) (hij : i ≠ j)
  (hx : X.env.scope.names.lookup x = some .local) (hy : X.env.scope.names.lookup y = some .local) (ha : PA X [a, b] ta)
  (hw : swappedStores [.Tuple [.Name x px, .Name y py] kt pt] (.Tuple [a, b] k2 pt2) X.env = pure (some [x, y]))
  (hs : swapsWithSole [.Tuple [.Name x px, .Name y py] kt pt] (.Tuple [a, b] k2 pt2) pos.line X.env = pure false := by rfl) :
  PS X (.Assign [.Tuple [.Name x px, .Name y py] kt pt] (.Tuple [a, b] k2 pt2) pos) (awD i j ta) := by
 intro pins s σ H D I h
 rw [exec_Assign_arm]
 refine wpAny_bind (wpAny_standAt ?_)
 rw [hs]
 refine wpAny_bind (wpAny_pure ?_)
 rw [if_neg (by decide)]
 refine wpAny_bind (Tuple_ (thn (ha _ pins s σ H _ I h) fun us s1 ⟨vs, H1, I1, r1, q1⟩ => ?_))
 obtain ⟨v, w, e1, q1⟩ := q1
 subst e1
 obtain ⟨u1, u2, rfl, rv, rw'⟩ : ∃ u1 u2, us = [u1, u2] /\ RelV v u1 /\ RelV w u2 := by
  cases r1 with
  | cons p q =>
   cases q with
   | cons p' q' =>
    cases q'
    exact ⟨_, _, rfl, p, p'⟩
 refine wpAny_newObj_type ?_ (by show 2 <= sizeLine; decide)
 have I2 : Inv X pins σ H1 { s1 with heap := s1.heap.push { cls := .type "tuple", data := .seq [u1, u2].toArray } } := I1.kept (t' := s1.toks) fun b o e => Heap.get?_push_of_some _ e
 rw [hw]
 refine wpAny_bind (wpAny_pure ?_)
 show wpAny (model X.prog X.w) X.A (do rule "assign.swapped-stores"; let items <-unpackItems (.ref s1.heap.objs.size) 2 none; assignInOrder [fun v => bindName X.env y v, fun v => bindName X.env x v] items.reverse; pure Flow.next) _ _ _
 refine wpAny_bind (wpAny_rule (wpAny_bind (unpackItems_tuple (items := #[u1, u2]) (I.ok.hd hc) (IsTup.new s1.heap _) fun h' hx' => ?_)))
 have I3 := I2.kept (h' := h') (t' := s1.toks) fun b o e => hx' b o (Nat.ne_of_lt (Heap.lt_size e)) e
 show wpAny _ _ (assignInOrder [fun v => bindName X.env y v, fun v => bindName X.env x v] [u2, u1] >>= fun _ => pure Flow.next) _ _ _
 refine wpAny_bind (assignInOrder_cons (wpAny_bindName (af3 I3 hN hj (.inl hy) rw' (fun s2 I4 => ?_) (.inr hy))))
 refine assignInOrder_cons (wpAny_bindName (af3 I4 hN hi (.inl hx) rv (fun s3 I5 => assignInOrder_nil (wpAny_pure ?_)) (.inr hx)))
 rw [List.set_comm _ _ (Ne.symm hij)] at I5
 exact ⟨_, H1, I5, q1⟩
end
section
variable {X : Cx} {pos : Pos}
noncomputable def aoG (c : TT) (tb : TS) : TS := fun D σ H => ∃ W : Nat -> St -> Hp -> Prop, (∃ m, W m σ H) /\ ∀ m σ H, W m σ H ->
 c σ H fun b H1 => if b = true then ∃ N : St -> Hp -> Prop, (∀ σ' H', N σ' H' -> ∃ m', m' < m /\ W m' σ' H') /\ tb { D with nx := N, ct := N, bk := D.nx } σ H1 else D.nx σ H1
theorem ajW {c : Expr} {body : List Stmt} {tc : TT} {tb : TS} (hp : PassesOwn (model X.prog X.w) X.A X.env X.xe) (hc : PT X c tc) (hb : PSs X body tb) : PS X (.While c body [] pos) (aoG tc tb) := by
 intro pins s σ H D I h
 obtain ⟨W, ⟨m0, w0⟩, turn⟩ := h
 refine wpAny_While (codeAny_whileLoop (fun n s' => ∃ σ' H', Inv X pins σ' H' s' /\ W n σ' H') ?_ m0 ⟨σ, H, I, w0⟩)
 rintro n s1 ⟨σ1, H1, I1, w1⟩
 refine wpAny_passesOwn hp (thn (hc pins s1 σ1 H1 _ I1 (turn n σ1 H1 w1)) fun b s2 ⟨H2, I2, q2⟩ => ?_)
 cases b with
 | true =>
  obtain ⟨N, hN, q2⟩ := q2
  rw [if_pos rfl]
  refine wpAny_passesOwn hp (thn (hb pins s2 σ1 H2 _ I2 q2) fun f s3 q3 => ?_)
  cases f with
  | next =>
   obtain ⟨σ3, H3, I3, n3⟩ := q3
   obtain ⟨m', hm, w3⟩ := hN σ3 H3 n3
   exact ⟨m', hm, σ3, H3, I3, w3⟩
  | cont =>
   obtain ⟨σ3, H3, I3, n3⟩ := q3
   obtain ⟨m', hm, w3⟩ := hN σ3 H3 n3
   exact ⟨m', hm, σ3, H3, I3, w3⟩
  | brk => exact q3
  | ret v => exact q3
 | false =>
  rw [if_neg Bool.false_ne_true]
  exact wpAny_execs_nil ⟨σ1, H2, I2, q2⟩
end
structure It where
 go : Nat -> Hp -> Prop
 yld : Nat -> Hp -> V -> Hp -> Prop
 stop : Nat -> Hp -> Prop
noncomputable def aeK (X : Cx) (pins : List (Addr × Obj)) (H : Hp) (b : Addr) : Prop :=
 H b = none /\ b ≠ X.env.locals /\ b ∉ X.fs /\ (b ∈ X.ex \/ X.s₀.heap.objs.size <= b) /\ (∀ x c, X.env.cells.lookup x = some c -> c ≠ b) /\ ∀ p ∈ X.pn ++ pins, p.1 ≠ b
theorem Inv.anc {X : Cx} {pins : List (Addr × Obj)} {σ : St} {H H' : Hp} {s : Shared} {b : Addr} (I : Inv X pins σ H s) (hb : s.heap.objs.size <= b) (hn : H' b = none) : aeK X pins H' b := by
 refine ⟨hn, Nat.ne_of_gt (Nat.lt_of_lt_of_le I.lt hb), I.axf hb, .inr (Nat.le_trans I.sz hb), fun x c e z => ?_, fun p hp z => ?_⟩
 ·obtain ⟨v, q⟩ := I.cell x c e
  exact absurd (Nat.lt_of_lt_of_le q.lt (by rw [z]; exact hb)) (Nat.lt_irrefl _)
 ·exact absurd (Nat.lt_of_lt_of_le (Heap.lt_size (I.pin p hp).1) (by rw [z]; exact hb)) (Nat.lt_irrefl _)
structure Turn (P : Program) (w : World) (K : PySem.W.Frag) (tg : Expr) (J : It) (fp : List Addr) (it : Addr) (tn : Nat -> Heap -> Prop) : Prop where
 mem : it ∈ fp
 obj : ∀ i h, tn i h -> ∀ b ∈ fp, ∃ o, h.get? b = some o /\ ∀ v, o.data ≠ .cell v
 keep : ∀ i h h', tn i h -> (∀ b ∈ fp, ∀ o, h.get? b = some o -> h'.get? b = some o) -> tn i h'
 item : ∀ (X : Cx), X.prog = P -> X.w = w -> X.K = K -> X.calm = true -> ∀ (i : Nat) (pins : List (Addr × Obj)) (s : Shared) (σ : St) (H : Hp) (E : Value -> Shared -> Prop), Inv X pins σ H s -> (∀ b ∈ fp, aeK X pins H b) -> tn i s.heap -> J.go i H ->
  wpAny (model P w) X.A (pyNext (.ref it)) (fun r s1 => ∃ u, r = some u /\
   wpAny (model P w) X.A (letOwnedTupleGo tg (.ref it) u) (fun _ s2 => ∃ x H', Inv X pins σ H' s2 /\ RelV x u /\ J.yld i H x H' /\ tn (i + 1) s2.heap /\ ∀ b ∈ fp, H' b = none) E s1) E s
 done : ∀ (X : Cx), X.prog = P -> X.w = w -> X.K = K -> X.calm = true -> ∀ (i : Nat) (pins : List (Addr × Obj)) (s : Shared) (σ : St) (H : Hp) (E : Value -> Shared -> Prop), Inv X pins σ H s -> (∀ b ∈ fp, aeK X pins H b) -> tn i s.heap -> J.stop i H ->
  wpAny (model P w) X.A (pyNext (.ref it)) (fun r s1 => r = none /\ Inv X pins σ H s1) E s
 self : ∀ (A : Around) (i : Nat) (s : Shared) (Q : Value -> Shared -> Prop) (E : Value -> Shared -> Prop), tn i s.heap -> Q (.ref it) s -> wpAny (model P w) A (pyIter (.ref it)) Q E s
noncomputable abbrev TI := St -> Hp -> (It -> Hp -> Prop) -> Prop
noncomputable def PIE (X : Cx) (pins : List (Addr × Obj)) (σ : St) (tg : Expr) (R : It -> Hp -> Prop) (itv : Value) (s2 : Shared) : Prop :=
 ∃ (it : Addr) (fp : List Addr) (tn : Nat -> Heap -> Prop) (J : It) (H' : Hp), itv = .ref it /\ Inv X pins σ H' s2 /\ Turn X.prog X.w X.K tg J fp it tn /\ tn 0 s2.heap /\ (∀ b ∈ fp, aeK X pins H' b) /\ R J H'
noncomputable def PI (X : Cx) (tg iter : Expr) (wi : TI) : Prop :=
 ∀ (pins : List (Addr × Obj)) (s : Shared) (σ : St) (H : Hp) (R : It -> Hp -> Prop), Inv X pins σ H s -> wi σ H R ->
  wpAny (model X.prog X.w) X.A (eval iter X.env) (fun v s1 => wpAny (model X.prog X.w) X.A (pyIter v) (PIE X pins σ tg R) X.xe s1) X.xe s
theorem apt {M : Model} {A : Around} {E : Value → Shared → Prop} {s : Shared} {tg : Expr} {it : Addr} {u : Value} {o : Obj} {n : String} {vs : Array Value} {Q : Unit → Shared → Prop} (ho : s.heap.get? it = some o) (hc : o.cls = .type n) (hd : o.data = .fields vs)
    (hn : ["enumerate", "zip", "dict_itemiterator", "dict_reverseitemiterator", "odict_iterator", "itertools.zip_longest", "itertools.pairwise"].contains n = false) (hQ : Q () s) : wpAny M A (letOwnedTupleGo tg (.ref it) u) Q E s := by
  unfold letOwnedTupleGo
  cases tg <;> first
    | exact wpAny_pure hQ
    | (cases u <;> first
        | exact wpAny_pure hQ
        | (refine wpAny_bind (wpAny_load ho ?_)
           rw [hc, hd]
           show wpAny M A (if (["enumerate", "zip", "dict_itemiterator", "dict_reverseitemiterator", "odict_iterator", "itertools.zip_longest", "itertools.pairwise"].contains n && vs[0]? == some (rawInt _)) = true then _ else _) Q E s
           rw [if_neg (by intro h; rw [hn, Bool.false_and] at h; cases h)]
           exact wpAny_pure hQ))
noncomputable def Itl (K : PySem.W.Frag) (a : Addr) : It :=
 ⟨fun i H => ∃ xs x, SqL K H a xs /\ xs[i]? = some x, fun i H x H' => H' = H /\ ∀ xs, SqL K H a xs -> xs[i]? = some x, fun i H => ∃ xs, SqL K H a xs /\ xs.length <= i⟩
noncomputable def Itt (K : PySem.W.Frag) (a : Addr) : It :=
 ⟨fun i H => ∃ xs x, SqT K H a xs /\ xs[i]? = some x, fun i H x H' => H' = H /\ ∀ xs, SqT K H a xs -> xs[i]? = some x, fun i H => ∃ xs, SqT K H a xs /\ xs.length <= i⟩
noncomputable def Itr (lo : Int) (n : Nat) : It := ⟨fun i _ => i < n, fun i H x H' => H' = H /\ x = .int (lo + i), fun i _ => n <= i⟩
theorem alz {P : Program} {w : World} {K : PySem.W.Frag} {tg : Expr} (a it : Addr) : Turn P w K tg (Itl K a) [it] it (fun i h => h.IsListIter it a i) where
 mem := by simp
 obj := fun i h st b hb => by
  have e : b = it := by simpa using hb
  subst e
  obtain ⟨o, e, c, d⟩ := st
  exact ⟨o, e, fun v z => by rw [d] at z; cases z⟩
 keep := fun i h h' st k => st.at fun o e => k it (by simp) o e
 item := by
  intro X hP hw hK hc i pins s σ H E I hf st hg
  subst hP hw hK
  obtain ⟨xs, x, hq, hx⟩ := hg
  obtain ⟨its, rv, p, hz⟩ := I.list hq
  obtain ⟨u, hu, ru⟩ := rv.get hx
  obtain ⟨f0, f1, f2, f3, f4, f5⟩ := hf it (by simp)
  refine wpAny_pyNext_list_item st p.isList (x := u) (by simpa using hu) fun h' st' sb => ?_
  have I1 : Inv X pins σ H { s with heap := h' } := I.turned (t' := s.toks) (fun b o hb e => (sb.2 b hb).trans e) f0 f1 f3 f4 f5
  obtain ⟨o, e, c, d⟩ := id st'
  exact ⟨u, rfl, apt (s := { s with heap := h' }) e c d (by decide) ⟨x, H, I1, ru, ⟨rfl, fun ys hy => by rw [I.aeT hy hq]; exact hx⟩, st', fun b hb => (hf b hb).1⟩⟩
 done := by
  intro X hP hw hK hc i pins s σ H E I hf st hg
  subst hP hw hK
  obtain ⟨xs, hq, hx⟩ := hg
  obtain ⟨its, rv, p, hz⟩ := I.list hq
  obtain ⟨f0, f1, f2, f3, f4, f5⟩ := hf it (by simp)
  have hl := rv.length
  exact wpAny_pyNext_list_end (I.ok.hd hc) st p.isList (by simp; omega) fun h' eb => ⟨rfl, I.turned (t' := s.toks) (fun b o hb e => eb b o hb e) f0 f1 f3 f4 f5⟩
 self := fun _ _ _ _ _ st h => wpAny_pyIter_listiter st h
theorem akI {P : Program} {w : World} {K : PySem.W.Frag} {tg : Expr} (a it : Addr) : Turn P w K tg (Itt K a) [it] it (fun i h => h.IsTupleIter it a i) where
 mem := by simp
 obj := fun i h st b hb => by
  have e : b = it := by simpa using hb
  subst e
  obtain ⟨o, e, c, d⟩ := st
  exact ⟨o, e, fun v z => by rw [d] at z; cases z⟩
 keep := fun i h h' st k => st.at fun o e => k it (by simp) o e
 item := by
  intro X hP hw hK hc i pins s σ H E I hf st hg
  subst hP hw hK
  obtain ⟨xs, x, hq, hx⟩ := hg
  obtain ⟨its, rv, p, hz⟩ := I.tuple hq
  obtain ⟨u, hu, ru⟩ := rv.get hx
  obtain ⟨f0, f1, f2, f3, f4, f5⟩ := hf it (by simp)
  refine wpAny_pyNext_tuple_item st (show s.heap.IsTuple a its.toArray from p) (x := u) (by simpa using hu) fun h' st' sb => ?_
  have I1 : Inv X pins σ H { s with heap := h' } := I.turned (t' := s.toks) (fun b o hb e => (sb.2 b hb).trans e) f0 f1 f3 f4 f5
  obtain ⟨o, e, c, d⟩ := id st'
  exact ⟨u, rfl, apt (s := { s with heap := h' }) e c d (by decide) ⟨x, H, I1, ru, ⟨rfl, fun ys hy => by rw [I.aip hy hq]; exact hx⟩, st', fun b hb => (hf b hb).1⟩⟩
 done := by
  intro X hP hw hK hc i pins s σ H E I hf st hg
  subst hP hw hK
  obtain ⟨xs, hq, hx⟩ := hg
  obtain ⟨its, rv, p, hz⟩ := I.tuple hq
  obtain ⟨f0, f1, f2, f3, f4, f5⟩ := hf it (by simp)
  have hl := rv.length
  exact wpAny_pyNext_tuple_end (I.ok.hd hc) st (show s.heap.IsTuple a its.toArray from p) (by simp; omega) fun h' eb => ⟨rfl, I.turned (t' := s.toks) (fun b o hb e => eb b o hb e) f0 f1 f3 f4 f5⟩
 self := fun _ _ _ _ _ st h => wpAny_pyIter_tupleiter st h
theorem akJ {P : Program} {w : World} {K : PySem.W.Frag} {tg : Expr} (it : Addr) (lo : Int) (n : Nat) : Turn P w K tg (Itr lo n) [it] it (fun i h => IsRangeIter h it (lo + (i : Nat) * 1) ((n : Int) - (i : Nat)) 1) where
 mem := by simp
 obj := fun i h st b hb => by
  have e : b = it := by simpa using hb
  subst e
  exact ⟨_, st, fun v z => by
   have z' : Data.fields _ = Data.cell v := z
   cases z'⟩
 keep := fun i h h' st k => k it (by simp) _ st
 item := by
  intro X hP hw hK hc i pins s σ H E I hf st hg
  subst hP hw hK
  obtain ⟨f0, f1, f2, f3, f4, f5⟩ := hf it (by simp)
  have W := Walks.range (prog := X.prog) (w := X.w) (I.ok.hd hc) it lo 1 n
  refine W.item i s _ _ hg st fun v h' tk hv st' kk => ?_
  obtain ⟨t, rfl⟩ := hv
  have I1 : Inv X pins σ H { s with heap := h', toks := tk } := I.turned (fun b o hb e => kk b o (by simpa using hb) e) f0 f1 f3 f4 f5
  refine ⟨_, rfl, apt (s := { s with heap := h', toks := tk }) (n := "range_iterator") st' rfl rfl (by decide) ⟨.int (lo + i), H, I1, ⟨t, ?_⟩, ⟨rfl, rfl⟩, st', fun b hb => (hf b hb).1⟩⟩
  rw [Int.mul_one]
 done := by
  intro X hP hw hK hc i pins s σ H E I hf st hg
  subst hP hw hK
  obtain ⟨f0, f1, f2, f3, f4, f5⟩ := hf it (by simp)
  exact wpAny_pyNext_range_end (I.ok.hd hc) st (by have : n <= i := hg; omega) fun h' eb => ⟨rfl, I.turned (t' := s.toks) (fun b o hb e => eb b o hb e) f0 f1 f3 f4 f5⟩
 self := fun _ _ _ _ _ st h => wpAny_pyIter_rangeiter st h
end L2
namespace L2
open PySem PySem.Spec PyProof.Rows
section
variable {X : Cx} {tg : Expr}
noncomputable def arv (K : PySem.W.Frag) (tl : TE) : TI := fun σ H R => tl σ H fun x H1 => ∃ a, x = .ref a /\ (∃ xs, SqL K H1 a xs) /\ R (Itl K a) H1
noncomputable def awF (K : PySem.W.Frag) (tl : TE) : TI := fun σ H R => tl σ H fun x H1 => ∃ a, x = .ref a /\ (∃ xs, SqT K H1 a xs) /\ R (Itt K a) H1
theorem apu {l : Expr} {tl : TE} (hl : PE X l tl) : PI X tg l (arv X.K tl) := by
 intro pins s σ H R I h
 refine thn (hl pins s σ H _ I h) fun v s1 ⟨x, H1, I1, r1, q1⟩ => ?_
 obtain ⟨a, e, ⟨xs, hq⟩, q⟩ := q1
 subst e
 cases r1
 obtain ⟨its, rv, p, hz⟩ := I1.list hq
 refine wpAny_pyIter_list p.isList ?_
 refine ⟨s1.heap.objs.size, [s1.heap.objs.size], _, _, H1, rfl, I1.kept (t' := s1.toks) fun b o e => Heap.get?_push_of_some _ e, alz a _, ⟨_, Heap.get?_push_size _ rfl, rfl, rfl⟩, fun b hb => ?_, q⟩
 have e : b = s1.heap.objs.size := by simpa using hb
 subst e
 exact I1.anc (Nat.le_refl _) (I1.hok.fresh (Nat.le_refl _))
theorem arw {l : Expr} {tl : TE} (hl : PE X l tl) : PI X tg l (awF X.K tl) := by
 intro pins s σ H R I h
 refine thn (hl pins s σ H _ I h) fun v s1 ⟨x, H1, I1, r1, q1⟩ => ?_
 obtain ⟨a, e, ⟨xs, hq⟩, q⟩ := q1
 subst e
 cases r1
 obtain ⟨its, rv, p, hz⟩ := I1.tuple hq
 refine wpAny_pyIter_tuple (show s1.heap.IsTuple a its.toArray from p) ?_
 refine ⟨s1.heap.objs.size, [s1.heap.objs.size], _, _, H1, rfl, I1.kept (t' := s1.toks) fun b o e => Heap.get?_push_of_some _ e, akI a _, ⟨_, Heap.get?_push_size _ rfl, rfl, rfl⟩, fun b hb => ?_, q⟩
 have e : b = s1.heap.objs.size := by simpa using hb
 subst e
 exact I1.anc (Nat.le_refl _) (I1.hok.fresh (Nat.le_refl _))
theorem anj {pins : List (Addr × Obj)} {σ : St} {H : Hp} {s : Shared} {R : It -> Hp -> Prop} {E : Value -> Shared -> Prop} {lo hi : Int} {t u v : Tok} {tk : Nat} (I : Inv X pins σ H s) (h1 : -(2 ^ 62) <= lo) (h2 : lo < 2 ^ 62) (h3 : -(2 ^ 62) <= hi) (h4 : hi < 2 ^ 62)
  (q : R (Itr lo (hi - lo).toNat) H) : wpAny (model X.prog X.w) X.A (pyIter (.ref s.heap.objs.size)) (PIE X pins σ tg R) E { s with heap := s.heap.push { cls := .type "range", data := .fields #[.int lo t, .int hi u, .int 1 v] }, toks := tk } := by
 refine wpAny_pyIter_range (IsRange.new ..) (small_one h1 h2 h3 h4) ?_
 have I1 : Inv X pins σ H { s with heap := s.heap.push { cls := .type "range", data := .fields #[.int lo t, .int hi u, .int 1 v] }, toks := tk } := I.kept fun b o e => Heap.get?_push_of_some _ e
 refine ⟨(s.heap.push { cls := .type "range", data := .fields #[.int lo t, .int hi u, .int 1 v] }).objs.size, [(s.heap.push { cls := .type "range", data := .fields #[.int lo t, .int hi u, .int 1 v] }).objs.size], _, _, H, rfl,
  I1.kept (t' := tk) fun b o e => Heap.get?_push_of_some _ e, akJ _ lo (hi - lo).toNat, ?_, fun b hb => ?_, q⟩
 ·have e1 : lo + ((0 : Nat) : Int) * 1 = lo := by simp
  have e2 : (((hi - lo).toNat : Nat) : Int) - ((0 : Nat) : Int) = Builtin.Range.rangeSize lo hi 1 := by rw [rangeSize_one]; split <;> omega
  show IsRangeIter _ _ (lo + ((0 : Nat) : Int) * 1) ((((hi - lo).toNat : Nat) : Int) - ((0 : Nat) : Int)) 1
  rw [e1, e2]
  exact Heap.get?_push_size _ rfl
 ·have e : b = (s.heap.push { cls := .type "range", data := .fields #[.int lo t, .int hi u, .int 1 v] }).objs.size := by simpa using hb
  subst e
  exact I1.anc (Nat.le_refl _) (I1.hok.fresh (Nat.le_refl _))
noncomputable def apv (ta : TA) : TI := fun σ H R => ta σ H fun vs H1 => ∃ j : Int, vs = [.int j] /\ -(2 ^ 62) <= j /\ j < 2 ^ 62 /\ R (Itr 0 j.toNat) H1
theorem alA {a : Expr} {ta : TA} {p pos : Pos} (hg : Gl X "range") (hm : X.mg "range" = none) (ha : PA X [a] ta) (hs : starEach [a] X.env = [(false, eval a X.env)] := by rfl) : PI X tg (.Call (.Name "range" p) [a] [] pos) (apv ta) := by
 intro pins s σ H R I h
 refine Call_ (afD I hg hm boot_range (PyProof.Rows.callWith_type1 (thn (ha pos pins s σ H _ I h) fun us s1 ⟨vs, H1, I1, r1, q1⟩ => ?_) hs rfl))
 obtain ⟨j, e, q1, q2, q⟩ := q1
 subst e
 cases r1 with
 | cons r rr =>
  cases rr
  obtain ⟨t, rfl⟩ := r
  exact call_range_1 (anj I1 (by omega) (by omega) q1 q2 (by simpa using q))
noncomputable def awG (wi : TI) (g : TG) (tb : TS) : TS := fun D σ H => wi σ H fun J H1 => ∃ W : Nat -> Nat -> St -> Hp -> Prop, (∃ m, W 0 m σ H1) /\ ∀ i m σ H, W i m σ H ->
 (J.stop i H /\ D.nx σ H) \/ (J.go i H /\ ∃ N : St -> Hp -> Prop, (∀ σ' H', N σ' H' -> ∃ m', m' < m /\ W (i + 1) m' σ' H') /\ ∀ x H', J.yld i H x H' -> g x σ H' fun σ2 H2 => tb { D with nx := N, ct := N, bk := D.nx } σ2 H2)
noncomputable def ajX (fp : List Addr) (h : Heap) : List (Addr × Obj) := fp.filterMap fun b => (h.get? b).map fun o => (b, o)
theorem ach {fp : List Addr} {h : Heap} {b : Addr} {o : Obj} (hb : b ∈ fp) (e : h.get? b = some o) : (b, o) ∈ ajX fp h := List.mem_filterMap.mpr ⟨b, hb, by rw [e]; rfl⟩
theorem alB {fp : List Addr} {h : Heap} {p : Addr × Obj} (hp : p ∈ ajX fp h) : p.1 ∈ fp /\ h.get? p.1 = some p.2 := by
 obtain ⟨b, hb, e⟩ := List.mem_filterMap.mp hp
 cases q : h.get? b with
 | none => rw [q] at e; cases e
 | some o =>
  rw [q] at e
  have e' : (b, o) = p := Option.some.inj e
  subst e'
  exact ⟨hb, q⟩
theorem Inv.pinned {pins : List (Addr × Obj)} {σ : St} {H : Hp} {s : Shared} {fp : List Addr} (I : Inv X pins σ H s) (hf : ∀ b ∈ fp, aeK X pins H b) (ho : ∀ b ∈ fp, ∃ o, s.heap.get? b = some o /\ ∀ v, o.data ≠ .cell v) : Inv X (pins ++ ajX fp s.heap) σ H s :=
 I.ahw fun p hp => (List.mem_append.mp hp).elim (fun z => I.pin p (List.mem_append_right _ z)) fun z => by
  obtain ⟨hb, e⟩ := alB z
  obtain ⟨f0, f1, f2, _⟩ := hf p.1 hb
  obtain ⟨o, e', d⟩ := ho p.1 hb
  rw [e] at e'; cases e'
  exact ⟨e, f0, f1, f2, d⟩
theorem Inv.ael {pins pl : List (Addr × Obj)} {σ : St} {H : Hp} {s : Shared} (I : Inv X (pins ++ pl) σ H s) : Inv X pins σ H s := I.ahw fun p hp => I.pin p (List.mem_append_right _ (List.mem_append_left _ hp))
theorem aeC {iter : Expr} {body : List Stmt} {wi : TI} {g : TG} {tb : TS} {pos : Pos} (hp : PassesOwn (model X.prog X.w) X.A X.env X.xe) (hc : X.calm = true) (hi : PI X tg iter wi) (hg : PG X tg g) (hb : PSs X body tb)
  (hs : ∀ x, foldedSetIterable iter X.env x = pure x := by intro _; rfl) : PS X (.For tg iter body [] pos) (awG wi g tb) := by
 intro pins s σ H D I h
 refine wpAny_For (thn (hi pins s σ H _ I h) fun v s1 h1 => thn h1 fun itv s2 h2 => ?_) hs
 obtain ⟨it, fp, tn, J, H2, e, I2, T, st2, f2, W, ⟨m0, w0⟩, turn⟩ := h2
 subst e
 -- what stays true of the iterator's objects through the loop
 have stat : ∀ {H' : Hp}, (∀ b ∈ fp, H' b = none) -> ∀ b ∈ fp, aeK X pins H' b := fun hn b hb => ⟨hn b hb, (f2 b hb).2⟩
 refine codeAny_forLoop_any (fun n s' => ∃ i σ' H', Inv X pins σ' H' s' /\ tn i s'.heap /\ (∀ b ∈ fp, H' b = none) /\ W i n σ' H') ?_ m0 ⟨0, σ, H2, I2, st2, fun b hb => (f2 b hb).1, w0⟩
 rintro n s3 ⟨i, σ3, H3, I3, st3, fr3, w3⟩
 rcases turn i n σ3 H3 w3 with ⟨stop, qn⟩ | ⟨go, N, hN, step⟩
 ·refine wpAny_passesOwn hp (thn (T.done X rfl rfl rfl hc i pins s3 σ3 H3 X.xe I3 (stat fr3) st3 stop) fun r s4 ⟨hr, I4⟩ => ?_)
  subst hr
  exact wpAny_execs_nil ⟨σ3, H3, I4, qn⟩
 ·refine wpAny_passesOwn hp (thn (T.item X rfl rfl rfl hc i pins s3 σ3 H3 X.xe I3 (stat fr3) st3 go) fun r s4 ⟨u, hr, h4⟩ => ?_)
  subst hr
  refine wpAny_passesOwn hp (thn h4 fun _ s5 ⟨x, H5, I5, r5, y5, st5, fr5⟩ => ?_)
  have I5' := I5.pinned (stat fr5) (T.obj _ _ st5)
  refine wpAny_passesOwn hp (thn (hg _ s5 σ3 H5 x u _ I5' r5 (step x H5 y5)) fun _ s6 ⟨σ6, H6, I6, q6⟩ => ?_)
  refine wpAny_passesOwn hp (thn (hb _ s6 σ6 H6 _ I6 q6) fun f s7 q7 => ?_)
  have again : ∀ {σ7 : St} {H7 : Hp}, Inv X (pins ++ ajX fp s5.heap) σ7 H7 s7 -> N σ7 H7 -> ∃ m, m < n /\ ∃ i σ' H', Inv X pins σ' H' s7 /\ tn i s7.heap /\ (∀ b ∈ fp, H' b = none) /\ W i m σ' H' := fun {σ7 H7} I7 n7 => by
   obtain ⟨m', hm, w7⟩ := hN σ7 H7 n7
   refine ⟨m', hm, i + 1, σ7, H7, I7.ael, T.keep _ _ _ st5 fun b hb o e => (I7.pin (b, o) (List.mem_append_right _ (List.mem_append_right _ (ach hb e)))).1, fun b hb => ?_, w7⟩
   obtain ⟨o, e, d⟩ := T.obj _ _ st5 b hb
   exact (I7.pin (b, o) (List.mem_append_right _ (List.mem_append_right _ (ach hb e)))).2.1
  cases f with
  | next => obtain ⟨σ7, H7, I7, n7⟩ := q7; exact again I7 n7
  | cont => obtain ⟨σ7, H7, I7, n7⟩ := q7; exact again I7 n7
  | brk => obtain ⟨σ7, H7, I7, q7⟩ := q7; exact ⟨σ7, H7, I7.ael, q7⟩
  | ret v => obtain ⟨x7, σ7, H7, I7, r7, q7⟩ := q7; exact ⟨x7, σ7, H7, I7.ael, r7, q7⟩
end
end L2
namespace L2
open PySem PySem.Spec PyProof.Rows
noncomputable abbrev R2 := V -> V -> Hp -> VK -> Prop
noncomputable def OpR (X : Cx) (f : Value -> Value -> Sem Value) (r : R2) : Prop :=
 ∀ (pins : List (Addr × Obj)) (s : Shared) (σ : St) (H : Hp) (x y : V) (v u : Value) (Q : VK), Inv X pins σ H s -> RelV x v -> RelV y u -> r x y H Q ->
  wpAny (model X.prog X.w) X.A (f v u) (EP X pins σ Q) X.xe s
noncomputable def UnR (X : Cx) (f : Value -> Sem Value) (r : V -> Hp -> VK -> Prop) : Prop :=
 ∀ (pins : List (Addr × Obj)) (s : Shared) (σ : St) (H : Hp) (x : V) (v : Value) (Q : VK), Inv X pins σ H s -> RelV x v -> r x H Q ->
  wpAny (model X.prog X.w) X.A (f v) (EP X pins σ Q) X.xe s
noncomputable def adD (X : Cx) (f : Value) (r : List V -> Hp -> VK -> Prop) : Prop :=
 ∀ (pins : List (Addr × Obj)) (s : Shared) (σ : St) (H : Hp) (xs : List V) (us : List Value) (Q : VK), Inv X pins σ H s -> Vals xs us -> r xs H Q ->
  wpAny (model X.prog X.w) X.A (call f us) (EP X pins σ Q) X.xe s
noncomputable def axi (X : Cx) (r : V -> Hp -> (Bool -> Hp -> Prop) -> Prop) : Prop :=
 ∀ (pins : List (Addr × Obj)) (s : Shared) (σ : St) (H : Hp) (x : V) (v : Value) (Q : Bool -> Hp -> Prop), Inv X pins σ H s -> RelV x v -> r x H Q ->
  wpAny (model X.prog X.w) X.A (truthy v) (TP X pins σ Q) X.xe s
noncomputable def tOp (r : R2) (ta tb : TE) : TE := fun σ H Q => ta σ H fun x H1 => tb σ H1 fun y H2 => r x y H2 Q
noncomputable def tUn (r : V -> Hp -> VK -> Prop) (ta : TE) : TE := fun σ H Q => ta σ H fun x H1 => r x H1 Q
noncomputable def rI (C : Int -> Int -> Prop) (g : Int -> Int -> V) : R2 := fun x y H Q => ∃ i j, x = .int i /\ y = .int j /\ C i j /\ Q (g i j) H
noncomputable def rI0 (g : Int -> Int -> V) : R2 := fun x y H Q => ∃ i j, x = .int i /\ y = .int j /\ Q (g i j) H
noncomputable def rU (g : Int -> V) : V -> Hp -> VK -> Prop := fun x H Q => ∃ i, x = .int i /\ Q (g i) H
section
variable {X : Cx} {a b c : Expr} {ta tb tc : TE} {pos : Pos}
theorem auQ (ha : PE X a ta) (hb : PE X b tb) {pins : List (Addr × Obj)} {s : Shared} {σ : St} {H : Hp} {R : V -> V -> Hp -> Prop} (I : Inv X pins σ H s)
  (h : ta σ H fun x H1 => tb σ H1 fun y H2 => R x y H2) {Q : Value -> Shared -> Prop} {f : Value -> Value -> Sem Value}
  (hf : ∀ v u s2 x y H2, Inv X pins σ H2 s2 -> RelV x v -> RelV y u -> R x y H2 -> wpAny (model X.prog X.w) X.A (f v u) Q X.xe s2) :
  wpAny (model X.prog X.w) X.A (eval a X.env) (fun v s₁ => wpAny (model X.prog X.w) X.A (eval b X.env) (fun u s₂ => wpAny (model X.prog X.w) X.A (f v u) Q X.xe s₂) X.xe s₁) X.xe s := by
 refine thn (ha pins s σ H _ I h) fun v s1 ⟨x, H1, I1, r1, q1⟩ => ?_
 refine thn (hb pins s1 σ H1 _ I1 q1) fun u s2 ⟨y, H2, I2, r2, q2⟩ => ?_
 exact hf v u s2 x y H2 I2 r1 r2 q2
theorem aaU {op : Operator} {r : R2} (ho : OpR X (binaryOp op) r) (ha : PE X a ta) (hb : PE X b tb) : PE X (.BinOp a op b pos) (tOp r ta tb) := by
 intro pins s σ H Q I h
 exact wpAny_BinOp (auQ ha hb I h fun v u s2 x y H2 I2 rx ry q => ho pins s2 σ H2 x y v u Q I2 rx ry q)
theorem ank {op : UnaryOp} {r : V -> Hp -> VK -> Prop} (ho : UnR X (unaryOp op) r) (ha : PE X a ta) : PE X (.UnaryOp op a pos) (tUn r ta) := by
 intro pins s σ H Q I h
 exact UnaryOp_ (thn (ha pins s σ H _ I h) fun v s1 ⟨x, H1, I1, r1, q1⟩ => ho pins s1 σ H1 x v Q I1 r1 q1)
theorem opI {f : Value -> Value -> Sem Value} {C : Int -> Int -> Prop} {g : Int -> Int -> Int}
  (rule : ∀ (i j : Int) (t u : Tok) (s : Shared) (Q : Value -> Shared -> Prop) (E : Value -> Shared -> Prop), C i j -> Q (.int (g i j) s.toks) { s with toks := s.toks + 1 } -> wpAny (model X.prog X.w) X.A (f (.int i t) (.int j u)) Q E s) :
  OpR X f (rI C fun i j => .int (g i j)) := by
 intro pins s σ H x y v u Q I rx ry h
 obtain ⟨i, j, rfl, rfl, hc, q⟩ := h
 obtain ⟨t, rfl⟩ := rx
 obtain ⟨t', rfl⟩ := ry
 exact rule i j t t' s _ _ hc ⟨.int (g i j), H, I.tok _, ⟨_, rfl⟩, q⟩
theorem awH {f : Value -> Value -> Sem Value} {g : Int -> Int -> Int}
  (rule : ∀ (i j : Int) (t u : Tok) (s : Shared) (Q : Value -> Shared -> Prop) (E : Value -> Shared -> Prop), Q (.int (g i j) s.toks) { s with toks := s.toks + 1 } -> wpAny (model X.prog X.w) X.A (f (.int i t) (.int j u)) Q E s) :
  OpR X f (rI0 fun i j => .int (g i j)) := by
 intro pins s σ H x y v u Q I rx ry h
 obtain ⟨i, j, rfl, rfl, q⟩ := h
 obtain ⟨t, rfl⟩ := rx
 obtain ⟨t', rfl⟩ := ry
 exact rule i j t t' s _ _ ⟨.int (g i j), H, I.tok _, ⟨_, rfl⟩, q⟩
theorem auq {f : Value -> Value -> Sem Value} {g : Int -> Int -> Bool}
  (rule : ∀ (i j : Int) (t u : Tok) (s : Shared) (Q : Value -> Shared -> Prop) (E : Value -> Shared -> Prop), Q (.bool (g i j)) s -> wpAny (model X.prog X.w) X.A (f (.int i t) (.int j u)) Q E s) :
  OpR X f (rI0 fun i j => .bl (g i j)) := by
 intro pins s σ H x y v u Q I rx ry h
 obtain ⟨i, j, rfl, rfl, q⟩ := h
 obtain ⟨t, rfl⟩ := rx
 obtain ⟨t', rfl⟩ := ry
 exact rule i j t t' s _ _ ⟨.bl (g i j), H, I, rfl, q⟩
noncomputable def auR (i j : Int) : Prop := 0 <= j /\ j <= 1000000 /\ i.natAbs < 2 ^ 64
theorem aoH : OpR X (binaryOp .Add) (rI0 fun i j => .int (i + j)) := awH fun _ _ _ _ _ _ _ q => add_int q
theorem aeV : OpR X (binaryOp .Sub) (rI0 fun i j => .int (i - j)) := awH fun _ _ _ _ _ _ _ q => sub_int q
theorem aeL : OpR X (binaryOp .Mod) (rI (fun _ j => j ≠ 0) fun i j => .int (i.fmod j)) := opI fun _ _ _ _ _ _ _ hc q => mod_int' hc q
theorem aha : OpR X (binaryOp .Pow) (rI auR fun i j => .int (i ^ j.toNat)) := opI fun _ _ _ _ _ _ _ hc q => pow_int_small hc.1 hc.2.1 hc.2.2 q
theorem unI {f : Value -> Sem Value} {g : Int -> Int}
  (rule : ∀ (i : Int) (t : Tok) (s : Shared) (Q : Value -> Shared -> Prop) (E : Value -> Shared -> Prop), Q (.int (g i) s.toks) { s with toks := s.toks + 1 } -> wpAny (model X.prog X.w) X.A (f (.int i t)) Q E s) :
  UnR X f (rU fun i => .int (g i)) := by
 intro pins s σ H x v Q I rx h
 obtain ⟨i, rfl, q⟩ := h
 obtain ⟨t, rfl⟩ := rx
 exact rule i t s _ _ ⟨.int (g i), H, I.tok _, ⟨_, rfl⟩, q⟩
theorem ajY : UnR X (unaryOp .USub) (rU fun i => .int (-i)) := unI fun _ _ _ _ _ q => neg_int q
end
section
variable {X : Cx} {a b c : Expr} {ta tb tc : TE} {pos : Pos}
theorem auS : OpR X (compareOp .Lt) (rI0 fun i j => .bl (decide (i < j))) := auq fun _ _ _ _ _ _ _ q => lt_int q
theorem ahx : OpR X (compareOp .LtE) (rI0 fun i j => .bl (decide (i <= j))) := auq fun _ _ _ _ _ _ _ q => le_int q
theorem auT : OpR X (compareOp .Gt) (rI0 fun i j => .bl (decide (j < i))) := auq fun _ _ _ _ _ _ _ q => gt_int q
theorem apw : OpR X (compareOp .GtE) (rI0 fun i j => .bl (decide (j <= i))) := auq fun _ _ _ _ _ _ _ q => ge_int q
theorem OpR.or {f : Value -> Value -> Sem Value} {r r' : R2} (h : OpR X f r) (h' : OpR X f r') : OpR X f (fun x y H Q => r x y H Q \/ r' x y H Q) := by
 intro pins s σ H x y v u Q I rx ry q
 rcases q with q | q
 ·exact h pins s σ H x y v u Q I rx ry q
 ·exact h' pins s σ H x y v u Q I rx ry q
theorem aa6 (b : Expr) {op : CmpOp} (h : op ≠ .In := by decide) (h2 : op ≠ .NotIn := by decide) : behindInMarks op b = false := by
 have e1 : (op == CmpOp.In) = false := by cases op <;> first | rfl | exact absurd rfl h
 have e2 : (op == CmpOp.NotIn) = false := by cases op <;> first | rfl | exact absurd rfl h2
 cases b <;> simp [behindInMarks, e1, e2]
theorem acI {op : CmpOp} {r : R2} (ho : OpR X (compareOp op) r) (ha : PE X a ta) (hb : PE X b tb) (hm : behindInMarks op b = false) : PE X (.Compare a [op] [b] pos) (tOp r ta tb) := by
 intro pins s σ H Q I h
 exact wpAny_Compare1 (auQ ha hb I h fun v u s2 x y H2 I2 rx ry q => ho pins s2 σ H2 x y v u Q I2 rx ry q) hm
noncomputable def apx (t : TE) : TT := fun σ H Q => t σ H fun x H' => ∃ k, x = .bl k /\ Q k H'
theorem aa7 {op : CmpOp} {r : R2} (ho : OpR X (compareOp op) r) (ha : PE X a ta) (hb : PE X b tb) (hm : behindInMarks op b = false) : PT X (.Compare a [op] [b] pos) (apx (tOp r ta tb)) := by
 intro pins s σ H Q I h
 refine wpAny_isTrue_Compare1 (thn (ha pins s σ H _ I h) fun v s1 ⟨x, H1, I1, r1, q1⟩ => thn (hb pins s1 σ H1 _ I1 q1) fun u s2 ⟨y, H2, I2, r2, q2⟩ =>
  thn (ho pins s2 σ H2 x y v u _ I2 r1 r2 q2) fun c s3 ⟨z, H3, I3, r3, k, e, q3⟩ => ?_) hm
 subst e
 cases r3
 exact wpAny_truthy_bool ⟨H3, I3, q3⟩
noncomputable def ajZ (r r' : R2) (ta tb tc : TE) : TE := fun σ H Q => ta σ H fun x H1 => tb σ H1 fun y H2 => r x y H2 fun z H3 => ∃ k, z = .bl k /\
 (if k = true then tc σ H3 fun w' H4 => r' y w' H4 Q else Q (.bl false) H3)
theorem aj0 {op op' : CmpOp} {r r' : R2} (ho : OpR X (compareOp op) r) (ho' : OpR X (compareOp op') r') (ha : PE X a ta) (hb : PE X b tb) (hc : PE X c tc)
  (hm : lastMarks [op, op'] [b, c] = false := by with_unfolding_all rfl) : PE X (.Compare a [op, op'] [b, c] pos) (ajZ r r' ta tb tc) := by
 intro pins s σ H Q I h
 refine Compare_chain (thn (ha pins s σ H _ I h) fun v s1 ⟨x, H1, I1, r1, q1⟩ => chain_link (thn (hb pins s1 σ H1 _ I1 q1) fun u s2 ⟨y, H2, I2, r2, q2⟩ =>
  thn (ho pins s2 σ H2 x y v u _ I2 r1 r2 q2) fun d s3 ⟨z, H3, I3, r3, k, e, q3⟩ => ?_)) hm
 subst e
 cases r3
 refine wpAny_truthy_bool ?_
 cases k with
 | false => exact ite_ff ⟨.bl false, H3, I3, rfl, q3⟩
 | true => exact ite_tt (chain_last (thn (hc pins s3 σ H3 _ I3 q3) fun w' s4 ⟨z', H4, I4, r4, q4⟩ => ho' pins s4 σ H4 y z' u w' Q I4 r2 r4 q4))
theorem aj1 {op op' : CmpOp} {r r' : R2} (ho : OpR X (compareOp op) r) (ho' : OpR X (compareOp op') r') (ha : PE X a ta) (hb : PE X b tb) (hc : PE X c tc)
  (hm : lastMarks [op, op'] [b, c] = false := by with_unfolding_all rfl) : PT X (.Compare a [op, op'] [b, c] pos) (apx (ajZ r r' ta tb tc)) := by
 intro pins s σ H Q I h
 refine isTrue_chain (thn (ha pins s σ H _ I h) fun v s1 ⟨x, H1, I1, r1, q1⟩ => test_link (thn (hb pins s1 σ H1 _ I1 q1) fun u s2 ⟨y, H2, I2, r2, q2⟩ =>
  thn (ho pins s2 σ H2 x y v u _ I2 r1 r2 q2) fun d s3 ⟨z, H3, I3, r3, k, e, q3⟩ => ?_)) hm
 subst e
 cases r3
 refine wpAny_truthy_bool ?_
 cases k with
 | false =>
  obtain ⟨k', e', q'⟩ := q3
  cases e'
  exact ite_ff ⟨H3, I3, q'⟩
 | true =>
  refine ite_tt (test_last (thn (hc pins s3 σ H3 _ I3 q3) fun w' s4 ⟨z', H4, I4, r4, q4⟩ => thn (ho' pins s4 σ H4 y z' u w' _ I4 r2 r4 q4) fun d' s5 ⟨z2, H5, I5, r5, k2, e2, q5⟩ => ?_))
  subst e2
  cases r5
  exact wpAny_truthy_bool ⟨H5, I5, q5⟩
noncomputable def arx (K : PySem.W.Frag) (x : V) (H : Hp) (k : Bool) : Prop :=
 match x with
 | .non => k = false
 | .bl b => k = b
 | .int i => k = (i != 0)
 | .str y => y.length <= sizeLine /\ k = ((y.length : Int) != 0)
 | .byt y => y.size <= sizeLine /\ k = ((y.size : Int) != 0)
 | .ref p => (∃ xs, SqL K H p xs /\ k = !xs.isEmpty) \/ (∃ xs, SqT K H p xs /\ k = !xs.isEmpty) \/ ∃ kvs, H p = some (.dK kvs) /\ k = !kvs.isEmpty
 | _ => False
theorem akK {κ : Type} {kvs : List (κ × V)} {vs : List (κ × Value)} (r : KV kvs vs) : (!vs.isEmpty) = !kvs.isEmpty := by
 cases r <;> rfl
theorem ahb {xs : List V} {its : List Value} (r : Vals xs its) : (!its.toArray.isEmpty) = !xs.isEmpty := by
 cases r <;> simp
theorem agg : (sizeLine : Nat) < 2 ^ 63 := by rw [sizeLine_eq]; decide
theorem arz : axi X (fun x H Q => ∃ k, arx X.K x H k /\ Q k H) := by
 intro pins s σ H x v Q I rx h
 obtain ⟨k, e, q⟩ := h
 have hl := agg
 have hs : sizeLine = 16777216 := sizeLine_eq
 cases x with
 | non =>
  cases rx
  have e' : k = false := e
  subst e'
  exact truthy_none ⟨H, I, q⟩
 | bl b =>
  cases rx
  have e' : k = b := e
  subst e'
  exact wpAny_truthy_bool ⟨H, I, q⟩
 | int i =>
  obtain ⟨t, rfl⟩ := rx
  have e' : k = (i != 0) := e
  subst e'
  exact PySem.P.truthy_int ⟨H, I, q⟩
 | str y =>
  obtain ⟨t, rfl⟩ := rx
  obtain ⟨hy, e'⟩ : y.length <= sizeLine /\ k = ((y.length : Int) != 0) := e
  subst e'
  exact PySem.P.truthy_str (by omega) ⟨H, I.tok _, q⟩
 | byt y =>
  obtain ⟨t, rfl⟩ := rx
  obtain ⟨hy, e'⟩ : y.size <= sizeLine /\ k = ((y.size : Int) != 0) := e
  subst e'
  exact PySem.W.truthy_bytes (by omega) ⟨H, I.tok _, q⟩
 | ref p =>
  cases rx
  have e' : (∃ xs, SqL X.K H p xs /\ k = !xs.isEmpty) \/ (∃ xs, SqT X.K H p xs /\ k = !xs.isEmpty) \/ ∃ kvs, H p = some (.dK kvs) /\ k = !kvs.isEmpty := e
  rcases e' with ⟨xs, hx, e'⟩ | ⟨xs, hx, e'⟩ | ⟨kvs, hx, e'⟩
  ·subst e'
   obtain ⟨its, r, pl, hz⟩ := I.list hx
   have hlen := r.length
   exact wpAny_truthy_list pl.isList (by simp only [List.size_toArray]; omega) ⟨H, I.tok _, by rw [ahb r]; exact q⟩
  ·subst e'
   obtain ⟨its, r, pl, hz⟩ := I.tuple hx
   have hlen := r.length
   exact truthy_tuple pl (by simp only [List.size_toArray]; omega) ⟨H, I.tok _, by rw [ahb r]; exact q⟩
  ·subst e'
   obtain ⟨hz, hS, vs, r, m⟩ : kvs.length <= sizeLine /\ (p == sysModules) = false /\ ∃ vs, KV kvs vs /\ s.heap.DictOf (ai5 X.prog X.w) p vs := I.hok p _ hx
   have hlen : kvs.length = vs.length := Paired.length r
   exact wpAny_truthy_dict hS m (by omega) ⟨H, I.tok _, by rw [akK r]; exact q⟩
 | _ => exact (show False from e).elim
theorem abH (ha : PE X a ta) (he : ∀ whole, isTrue a X.env whole = (do let v <-whole; standAt a.pos; holding [v] (truthy v))) :
  PT X a (fun σ H Q => ta σ H fun x H' => ∃ k, arx X.K x H' k /\ Q k H') := by
 intro pins s σ H Q I h
 exact isTrue_plain (thn (ha pins s σ H _ I h) fun v s1 ⟨x, H1, I1, r1, q1⟩ => arz pins s1 σ H1 x v Q I1 r1 q1) (he _)
theorem akL : OpR X (binaryOp .Add) (fun x y H Q => ∃ i j, x = .str i /\ y = .str j /\ i.length + j.length <= sizeLine /\ Q (.str (i ++ j)) H) := by
 intro pins s σ H x y v u Q I rx ry h
 obtain ⟨i, j, rfl, rfl, hz, q⟩ := h
 obtain ⟨t, rfl⟩ := rx
 obtain ⟨t', rfl⟩ := ry
 exact add_str (fun t' tk => ⟨.str (i ++ j), H, I.tok _, ⟨_, rfl⟩, q⟩) hz
theorem vals1 {x : V} {us : List Value} (r : Vals [x] us) : ∃ u, us = [u] /\ RelV x u := by
 cases r with
 | cons r1 r2 => cases r2; exact ⟨_, rfl, r1⟩
theorem vals2 {x y : V} {us : List Value} (r : Vals [x, y] us) : ∃ u w', us = [u, w'] /\ RelV x u /\ RelV y w' := by
 cases r with
 | cons r1 r2 =>
  cases r2 with
  | cons r3 r4 => cases r4; exact ⟨_, _, rfl, r1, r3⟩
theorem anl : adD X (.builtin "abs") (fun xs H Q => ∃ i, xs = [.int i] /\ Q (.int (if i < 0 then -i else i)) H) := by
 intro pins s σ H xs us Q I r h
 obtain ⟨i, rfl, q⟩ := h
 obtain ⟨u, rfl, t, rfl⟩ := vals1 r
 exact call_abs_int fun u tk => ⟨.int (if i < 0 then -i else i), H, I.tok _, ⟨_, rfl⟩, q⟩
theorem alC (hc : X.calm = true) : adD X (.builtin "min") (fun xs H Q => ∃ i j, xs = [.int i, .int j] /\ Q (.int (if j < i then j else i)) H) := by
 intro pins s σ H xs us Q I r h
 obtain ⟨i, j, rfl, q⟩ := h
 obtain ⟨u, w', rfl, ⟨t, rfl⟩, ⟨t', rfl⟩⟩ := vals2 r
 refine min_two_ints (I.ok.hd hc) fun h' tk k => ⟨_, H, I.kept k, ?_, q⟩
 by_cases hj : j < i
 ·rw [if_pos hj, if_pos hj]; exact ⟨_, rfl⟩
 ·rw [if_neg hj, if_neg hj]; exact ⟨_, rfl⟩
theorem agh : adD X (.type "int") (fun xs H Q => (∃ i, xs = [.int i] /\ Q (.int i) H) \/ ∃ k, xs = [.bl k] /\ Q (.int (if k then 1 else 0)) H) := by
 intro pins s σ H xs us Q I r h
 rcases h with ⟨i, rfl, q⟩ | ⟨k, rfl, q⟩
 ·obtain ⟨u, rfl, t, rfl⟩ := vals1 r
  exact call_int_int ⟨.int i, H, I, ⟨_, rfl⟩, q⟩
 ·obtain ⟨u, rfl, r1⟩ := vals1 r
  cases r1
  exact call_int_bool ⟨.int (if k then 1 else 0), H, I.tok _, ⟨_, rfl⟩, q⟩
end
end L2
namespace L2
open PySem PySem.Spec PyProof.Rows
section
variable {prog : Program} {w : World} {A : Around} {E : Value -> Shared -> Prop} {s : Shared} {K : PySem.W.Frag} {x dx C f : Addr} {mA : Str -> Option Value} {name : Str} {v : Value}
end
section
variable {P : Program} {w : World} {H H' : Hp} {h h' : Heap} {a C dx : Addr} {fs fs' : List (Str × V)}
end
section
variable {X : Cx} {pins : List (Addr × Obj)} {σ : St} {H : Hp} {s : Shared} {a C dx : Addr} {fs : List (Str × V)} {f : Str} {v : V} {A : Around} {E : Value -> Shared -> Prop}
end
section
variable {X : Cx} {o e value : Expr} {f : Str} {pos pos' tpos : Pos} {ta tv : TE}
end
section
variable {X : Cx} {pins : List (Addr × Obj)} {σ : St} {H : Hp} {s : Shared} {A : Around} {E : Value -> Shared -> Prop} {Q : Value -> Shared -> Prop} {c : Value} {b : Bool}
end
end L2
namespace L2
open PySem PySem.Spec PyProof.Rows
structure afN (k : Nat) (A : Around) : Prop where
 hd : A.handled = none
 dp : A.depth + 3 * k + 5 < recursionLimit
 un : A.units + 16 * k + 200 < cLine
theorem afN.mono {j k : Nat} {A : Around} (r : afN k A) (h : j <= k) : afN j A := ⟨r.hd, by have := r.dp; omega, by have := r.un; omega⟩
theorem afN.deeper {k : Nat} {A : Around} (r : afN (k + 1) A) (env : Env) : afN k (A.deeper env) :=
 ⟨r.hd, by have := r.dp; show A.depth + 1 + 3 * k + 5 < _; omega, by have := r.un; show A.units + 3 + 16 * k + 200 < _; omega⟩
theorem afN.depth {k : Nat} {A : Around} (r : afN k A) : A.depth < recursionLimit := by have := r.dp; omega
theorem afN.units {k : Nat} {A : Around} (r : afN k A) : A.units + 64 < cLine := by have := r.un; omega
noncomputable def aoI : TA := fun _ H Q => Q [] H
noncomputable def afl (ta : TE) (tr : TA) : TA := fun σ H Q => ta σ H fun x H1 => tr σ H1 fun xs H2 => Q (x :: xs) H2
section
variable {X : Cx} {e : Expr} {es : List Expr} {te : TE} {t : TA} {pos : Pos}
theorem aaj : PA X [] aoI := fun _ _ _ _ H Q I h => Calls.spliced_nil ⟨[], H, I, .nil, h⟩
theorem acY (ha : PE X e te) (hr : PA X es t) (hs : starEach (e :: es) X.env = (false, eval e X.env) :: starEach es X.env := by rfl) : PA X (e :: es) (afl te t) := by
 intro pos pins s σ H Q I h
 rw [hs]
 show wpAny _ _ (spliced ((false, eval e X.env) :: backTo pos (starEach es X.env))) _ _ s
 refine Calls.spliced_cons (thn (ha pins s σ H _ I h) fun u s1 ⟨x, H1, I1, r1, q1⟩ => ?_)
 exact thn (hr pos pins s1 σ H1 _ I1 q1) fun us s2 ⟨xs, H2, I2, r2, q2⟩ => ⟨x :: xs, H2, I2, .cons r1 r2, q2⟩
noncomputable def awI (t : TA) : TE := fun σ H Q => t σ H fun xs H1 => xs.length <= sizeLine /\ ∀ p, H1 p = none -> Q (.ref p) (upd H1 p (.tup xs))
noncomputable def awJ (t : TA) : TE := fun σ H Q => t σ H fun xs H1 => xs.length <= sizeLine /\ ∀ p, H1 p = none -> Q (.ref p) (upd H1 p (.lst xs))
theorem aeD {x1} (h : PA X es t) : PE X (.Tuple es x1 pos) (awI t) := by
 intro pins s σ H Q I hq
 refine wpAny_Tuple_spliced (thn (h pos pins s σ H _ I hq) fun us s1 ⟨xs, H1, I1, r, z, q⟩ => ⟨by rw [<-r.length]; exact z, ?_⟩)
 have hf : H1 s1.heap.objs.size = none := I1.hok.fresh (Nat.le_refl _)
 refine ⟨.ref s1.heap.objs.size, upd H1 s1.heap.objs.size (.tup xs), I1.laid (t' := s1.toks) (fun b u e => Heap.get?_push_of_some _ e) (Nat.le_refl _) ?_, rfl, q _ hf⟩
 exact ⟨z, us, r, ⟨_, Heap.get?_push_size _ rfl, rfl, _, rfl⟩⟩
theorem ade (h : PA X es t) : PE X (.List es pos) (awJ t) := by
 intro pins s σ H Q I hq
 refine wpAny_List_spliced (thn (h pos pins s σ H _ I hq) fun us s1 ⟨xs, H1, I1, r, z, q⟩ => ⟨by rw [<-r.length]; exact z, ?_⟩)
 have hf : H1 s1.heap.objs.size = none := I1.hok.fresh (Nat.le_refl _)
 refine ⟨.ref s1.heap.objs.size, upd H1 s1.heap.objs.size (.lst xs), I1.laid (t' := s1.toks) (fun b u e => Heap.get?_push_of_some _ e) (Nat.le_refl _) ?_, rfl, q _ hf⟩
 exact ⟨z, us, 0, r, Heap.get?_push_size _ rfl⟩
end
noncomputable abbrev Sp := List V -> Hp -> VK -> XK -> Prop
noncomputable abbrev CXT := List Env -> Hp -> Shared -> XK -> Value -> Shared -> Prop
structure aur (P : Program) (w : World) (K : PySem.W.Frag) (mg : Str -> Option Value) (base : Heap) (A : Around) (outer : List Env) (s : Shared) (H : Hp) : Prop where
 frames : A.frames = some outer
 mod : Mod K mg base
 bs : ∀ b o, base.get? b = some o -> s.heap.get? b = some o /\ H b = none
 bsz : base.objs.size <= s.heap.objs.size
 aln : s.heap.FunFrames base outer
 frf : ∀ b ∈ frs outer, H b = none
 hok : HOk P w H s.heap
 bare : AllBare s.gens
noncomputable def CE (outer : List Env) (P : Program) (w : World) (H : Hp) (s : Shared) (Q : VK) (u : Value) (s' : Shared) : Prop :=
 ∃ v H', s'.os = s.os /\ AllBare s'.gens /\ Un (frs outer) [] H H' s.heap s'.heap /\ HOk P w H' s'.heap /\ RelV v u /\ Q v H'
noncomputable def CR (CX : CXT) (outer : List Env) (P : Program) (w : World) (H : Hp) (s : Shared) (Q : VK) (E : XK) (r : Result) (s' : Shared) : Prop :=
 match r with
 | .ok (.ret u) => CE outer P w H s Q u s'
 | .ok _ => False
 | .error e => CX outer H s E e s'
structure akM (P : Program) (w : World) (K : PySem.W.Frag) (mg : Str -> Option Value) (base : Heap) (CX : CXT) (k : Nat) (f : Addr) (fd : FuncData) (ps : List Str) (sp : Sp) : Prop where
 len : ∀ vs H Q E, sp vs H Q E -> vs.length = ps.length
 run : ∀ (A : Around) (outer : List Env) (s : Shared) (H : Hp) (args : Args) (us : List Value) (vs : List V) (Q : VK) (E : XK), afN k A -> aur P w K mg base A outer s H -> BindsTo s fd args (ps.zip us) -> Vals vs us -> sp vs H Q E ->
  codeAny (model P w) A (.call (.ref f) args) (CR CX outer P w H s Q E) s
theorem akM.mono {P : Program} {w : World} {K : PySem.W.Frag} {mg : Str -> Option Value} {base : Heap} {CX : CXT} {j k : Nat} {f : Addr} {fd : FuncData} {ps : List Str} {sp : Sp} (F : akM P w K mg base CX j f fd ps sp) (h : j <= k) :
  akM P w K mg base CX k f fd ps sp := ⟨F.len, fun A outer s H args us vs Q E hr => F.run A outer s H args us vs Q E (hr.mono h)⟩
theorem akM.imp {P : Program} {w : World} {K : PySem.W.Frag} {mg : Str -> Option Value} {base : Heap} {CX : CXT} {k : Nat} {f : Addr} {fd : FuncData} {ps : List Str} {sp sp' : Sp} (F : akM P w K mg base CX k f fd ps sp)
  (h : ∀ vs H Q E, sp' vs H Q E -> sp vs H Q E) : akM P w K mg base CX k f fd ps sp' :=
 ⟨fun vs H Q E q => F.len vs H Q E (h _ _ _ _ q), fun A outer s H args us vs Q E hr he hb hv hs => F.run A outer s H args us vs Q E hr he hb hv (h _ _ _ _ hs)⟩
section
variable {X : Cx} {pins : List (Addr × Obj)} {σ : St} {H : Hp} {s s' : Shared}
theorem Inv.env0 (I : Inv X pins σ H s) : aur X.prog X.w X.K X.mg X.base X.A X.stack s H :=
 ⟨I.ok.frames, I.ok.mod, I.bs, Nat.le_trans I.ok.bsz I.sz, I.stack, I.ahv, I.hok, I.bare⟩
theorem Inv.after {Q : VK} {u : Value} (I : Inv X pins σ H s) (h : CE X.stack X.prog X.w H s Q u s') : EP X pins σ Q u s' := by
 obtain ⟨v, H', os, bare, un, hok, r, q⟩ := h
 obtain ⟨hh, g, d, t, os'⟩ := s'
 obtain rfl : os' = s.os := os
 exact ⟨v, H', I.call (h' := hh) (g' := g) (d' := d) (t' := t) (ch := []) un hok bare (fun b z => absurd z (by simp)), r, q⟩
end
noncomputable def aiq (sp : Sp) (dvs : List V) (E : XK) (t : TA) : TE := fun σ H Q => t σ H fun vs H1 => sp (vs ++ dvs) H1 Q E
noncomputable def Binds (K : PySem.W.Frag) (fd : FuncData) (ps : List Str) (ds : List Value) : Prop :=
 ∀ (s : Shared) (us : List Value), K.In s.heap -> (us ++ ds).length = ps.length -> BindsTo s fd ⟨us, []⟩ (ps.zip (us ++ ds))
theorem Binds.all {K : PySem.W.Frag} {fd : FuncData} {ps : List Str} (h : ∀ us : List Value, us.length = ps.length -> bindArgs fd ⟨us, []⟩ = pure (ps.zip us)) : Binds K fd ps [] := fun s us _ hl => by
 rw [List.append_nil] at hl ⊢
 exact .of_eq (h us hl)
noncomputable def Passes (CX : CXT) (X : Cx) (E : XK) : Prop := ∀ (pins : List (Addr × Obj)) (σ : St) (H : Hp) (s : Shared) (e : Value) (s' : Shared), Inv X pins σ H s -> CX X.stack H s E e s' -> X.xe e s'
section
variable {X : Cx} {CX : CXT} {k : Nat} {f C : Addr} {fd : FuncData} {ps : List Str} {sp : Sp} {dvs : List V} {ds : List Value} {E : XK} {x m : Str} {p pos apos : Pos} {e o : Expr} {es : List Expr} {ta : TE} {t : TA}
theorem arA {pins : List (Addr × Obj)} {σ : St} {H : Hp} {s : Shared} {Q : VK} {us : List Value} {vs : List V} (F : akM X.prog X.w X.K X.mg X.base CX k f fd ps sp) (hr : afN k X.A) (hb : Binds X.K fd ps ds) (hd : Vals dvs ds) (hx : Passes CX X E)
  (I : Inv X pins σ H s) (r : Vals vs us) (h : sp (vs ++ dvs) H Q E) : wpAny (model X.prog X.w) X.A (call (.ref f) us) (EP X pins σ Q) X.xe s := by
 have r2 : Vals (vs ++ dvs) (us ++ ds) := r.append hd
 have hl : (us ++ ds).length = ps.length := by rw [<-r2.length]; exact F.len _ _ _ _ h
 refine wpAny_call (codeAny_mono (F.run X.A X.stack s H ⟨us, []⟩ (us ++ ds) (vs ++ dvs) Q E hr I.env0 (hb s us I.kIn hl) r2 h) fun r s' hq => ?_)
 cases r with
 | error e => exact hx pins σ H s e s' I hq
 | ok fl =>
  cases fl with
  | ret u => exact I.after hq
  | next => exact False.elim hq
  | brk => exact False.elim hq
  | cont => exact False.elim hq
theorem apy (F : akM X.prog X.w X.K X.mg X.base CX k f fd ps sp) (hr : afN k X.A) (hg : Gl X x) (hm : X.mg x = some (.ref f)) (hk : PySem.W.keepIn X.K (.ref f) = true) (hb : Binds X.K fd ps ds) (hd : Vals dvs ds) (hx : Passes CX X E)
  (ha : PA X (e :: es) t) (hdb : (x == ("__debug__" : Str)) = false := by decide) (he : starEach (e :: es) X.env = (false, eval e X.env) :: starEach es X.env := by rfl) (hpl : (backTo pos (starEach es X.env)).any (·.1) = false := by rfl) :
  PE X (.Call (.Name x p) (e :: es) [] pos) (aiq sp dvs E t) := by
 intro pins s σ H Q I h
 refine wpAny_Call_Name_kw (ai7 I hg hm ?_ hdb)
 refine PySem.W.callWith_K (h₀ := X.base) I.ok.mod.kin hk (thn (ha pos pins s σ H _ I h) fun us s1 ⟨vs, H1, I1, r, q⟩ => ⟨I1.kIn, ?_⟩) he hpl
 exact arA F hr hb hd hx I1 r q
end
section
variable {X : Cx} {CX : CXT} {k : Nat} {f C : Addr} {fd : FuncData} {ps ks : List Str} {sp : Sp} {E : XK} {x m : Str} {p pos apos kpos : Pos} {e o : Expr} {es : List Expr} {kws : List Keyword} {te ta : TE} {t tk : TA} {nm : Option Str}
variable {g : List Value -> List Value -> List Value} {gV : List V -> List V -> List V}
end
structure aaE (N P : List Str) (sc : Scope) : Prop where
 kind : sc.kind = .function
 co : sc.isCoroutine = false
 gen : sc.isGenerator = false
 nd : N.Nodup
 pre : N.take P.length = P
 par : ∀ x ∈ P, sc.names.lookup x = some .local \/ sc.names.lookup x = some .cell
 arB : ∀ y ∈ sc.names, y.2 ≠ .free
theorem air {kindOf : Str -> Option NameKind} {x : Str} : ∀ {binds : List (Str × Value)} {m : Str -> Option Value}, (∀ v, (x, v) ∉ binds) -> bindL kindOf binds m x = m x
 | [], _, _ => rfl
 | (n, v) :: r, m, h => by
  unfold bindL
  rw [air fun w hw => h w (List.mem_cons_of_mem _ hw)]
  split
  ·have : x ≠ n := by rintro rfl; exact h v List.mem_cons_self
   simp [this]
  ·rfl
theorem ais {kindOf : Str -> Option NameKind} {x : Str} : ∀ {binds : List (Str × Value)} {m : Str -> Option Value}, (∀ v, (x, v) ∉ binds) -> bindC kindOf binds m x = m x
 | [], _, _ => rfl
 | (n, v) :: r, m, h => by
  unfold bindC
  rw [ais fun w hw => h w (List.mem_cons_of_mem _ hw)]
  split
  ·rfl
  ·have : x ≠ n := by rintro rfl; exact h v List.mem_cons_self
   simp [this]
theorem ait {kindOf : Str -> Option NameKind} {x : Str} {v : Value} : ∀ {P : List Str} {vs : List Value} {i : Nat} {m : Str -> Option Value}, P.Nodup -> P[i]? = some x -> vs[i]? = some v -> kindOf x = some .local ->
  bindL kindOf (P.zip vs) m x = some v
 | [], _, _, _, _, h, _, _ => by simp at h
 | _ :: _, [], _, _, _, _, h, _ => by simp at h
 | p :: P, w :: vs, 0, m, nd, h1, h2, hk => by
  simp at h1 h2; subst h1; subst h2
  show bindL kindOf ((p, w) :: P.zip vs) m p = _
  unfold bindL
  rw [air fun v hv => (List.nodup_cons.mp nd).1 (List.of_mem_zip hv).1, if_pos hk]
  simp
 | p :: P, w :: vs, i + 1, m, nd, h1, h2, hk => by
  show bindL kindOf ((p, w) :: P.zip vs) m x = _
  unfold bindL
  exact ait (i := i) (List.nodup_cons.mp nd).2 (by simpa using h1) (by simpa using h2) hk
theorem aiu {kindOf : Str -> Option NameKind} {x : Str} {v : Value} : ∀ {P : List Str} {vs : List Value} {i : Nat} {m : Str -> Option Value}, P.Nodup -> P[i]? = some x -> vs[i]? = some v -> kindOf x ≠ some .local ->
  bindC kindOf (P.zip vs) m x = some v
 | [], _, _, _, _, h, _, _ => by simp at h
 | _ :: _, [], _, _, _, _, h, _ => by simp at h
 | p :: P, w :: vs, 0, m, nd, h1, h2, hk => by
  simp at h1 h2; subst h1; subst h2
  show bindC kindOf ((p, w) :: P.zip vs) m p = _
  unfold bindC
  rw [ais fun v hv => (List.nodup_cons.mp nd).1 (List.of_mem_zip hv).1, if_neg hk]
  simp
 | p :: P, w :: vs, i + 1, m, nd, h1, h2, hk => by
  show bindC kindOf ((p, w) :: P.zip vs) m x = _
  unfold bindC
  exact aiu (i := i) (List.nodup_cons.mp nd).2 (by simpa using h1) (by simpa using h2) hk
noncomputable def start (N : List Str) (vs : List V) : St := vs.map some ++ List.replicate (N.length - vs.length) none
noncomputable def aj2 (CX : CXT) (P : Program) (w : World) (K : PySem.W.Frag) (mg : Str -> Option Value) (base : Heap) (N : List Str) (qual : Str) (scope : Scope) (f : Addr) (cd : Value) (A : Around) (outer : List Env) (s : Shared) (H : Hp) (E : XK) : Cx where
 prog := P
 w := w
 K := K
 mg := mg
 base := base
 A := A.deeper (envOfC qual scope s.heap.objs.size f cd)
 N := N
 s₀ := s
 H₀ := H
 env := envOfC qual scope s.heap.objs.size f cd
 outer := outer
 stack := envOfC qual scope s.heap.objs.size f cd :: outer
 ex := []
 calm := true
 fn := fun _ => true
 pn := []
 xe := fun e s' => wpAny (model P w) (A.deeper (envOfC qual scope s.heap.objs.size f cd)) (leaving (envOfC qual scope s.heap.objs.size f cd) e) (fun _ s'' => CX outer H s E e s'') (fun e' s'' => CX outer H s E e' s'') s'
theorem aj3 {sc : Scope} {n : Nat} {x : Str} (h : sc.names.lookup x = some .cell) : ∃ c, (cellsFrom n sc.names []).lookup x = some c := by
 have q := PySem.W.cellsFrom_some sc.names n [] (.inl h)
 exact Option.isSome_iff_exists.mp q
theorem alD {CX : CXT} {P : Program} {w : World} {K : PySem.W.Frag} {mg : Str -> Option Value} {base : Heap} {N ps : List Str} {qual : Str} {scope : Scope} {f : Addr} {cd : Value} {A : Around} {outer : List Env} {s s1 : Shared} {H : Hp} {E : XK} {us : List Value} {vs : List V}
  (S : aaE N ps scope) (hd : A.handled = none) (e0 : aur P w K mg base A outer s H) (hl : vs.length = ps.length) (r : Vals vs us)
  (x : InCallC s s.heap.objs.size (bindL (envOfC qual scope s.heap.objs.size f cd).kindOf (ps.zip us) fun _ => none) (cellsFrom (s.heap.objs.size + 1) scope.names []) (bindC (envOfC qual scope s.heap.objs.size f cd).kindOf (ps.zip us) fun _ => none) s1) :
  Inv (aj2 CX P w K mg base N qual scope f cd A outer s H E) [] (start N vs) H s1 := by
 have hpl : ps.length <= N.length := by have := congrArg List.length S.pre; rw [List.length_take] at this; omega
 obtain ⟨h1, tk, rfl, hk⟩ := x.done
 have noA : ∀ b : Addr, b ∉ (aj2 CX P w K mg base N qual scope f cd A outer s H E).ex := fun b z => absurd (show b ∈ ([] : List Addr) from z) (by simp)
 refine ⟨⟨e0.mod, S.kind, rfl, rfl, Nat.le_refl _, fun y z c h1 h2 => ?_, fun y hy => ?_, fun y c _ h => ?_, fun _ => hd, Around.frames_deeper e0.frames, .inr ⟨rfl, rfl⟩, fun b z => absurd z (noA b), e0.bs, e0.bsz, fun b _ _ => noA b, fun b z => absurd z (noA b), e0.aln, e0.frf⟩,
  rfl, e0.bare, Un.kept hk, ⟨_, x.toInCall.ns, fun i y v h1 h2 h3 => ?_⟩, fun y c h => ⟨_, x.cell y c h⟩, e0.hok.fresh (Nat.le_refl _), fun y c h => ?_, fun p hp => absurd (show p ∈ ([] : List (Addr × Obj)) from hp) (by simp), e0.hok.kept hk, ?_⟩
 ·exact name_of_addr x.apart (PySem.mem_of_lookup h1) (PySem.mem_of_lookup h2)
 ·have hy : scope.names.lookup y = some .cell \/ scope.names.lookup y = some .free := hy
  rcases hy with hy | hy
  ·exact aj3 hy
  ·exact absurd rfl (S.arB _ (PySem.mem_of_lookup hy))
 ·exact Nat.le_of_lt (x.above y c (PySem.mem_of_lookup h))
 ·have hi : i < vs.length := by
   unfold start at h2
   by_cases hi : i < vs.length
   ·exact hi
   ·rw [List.getElem?_append_right (by simpa using hi)] at h2
    rw [List.getElem?_replicate] at h2
    split at h2 <;> cases h2
  have ha : vs[i]? = some v := by
   unfold start at h2
   rw [List.getElem?_append_left (by simpa using hi), List.getElem?_map] at h2
   cases e : vs[i]? with
   | none => rw [e] at h2; cases h2
   | some a => rw [e] at h2; cases h2; rfl
  obtain ⟨u, hu, rv⟩ := r.get ha
  have hp : ps[i]? = some y := by
   rw [<-S.pre, List.getElem?_take_of_lt (by omega)]; exact h1
  have ndP : ps.Nodup := by rw [<-S.pre]; exact S.nd.sublist (List.take_sublist _ _)
  refine ⟨u, rv, ?_⟩
  rcases S.par y (List.mem_of_getElem? hp) with k | k
  ·exact .inl ⟨k, ait ndP hp hu k⟩
  ·obtain ⟨c, e⟩ := aj3 (n := s.heap.objs.size + 1) k
   refine .inr ⟨.inl k, c, e, ?_⟩
   have q := x.cell y c e
   rw [aiu ndP hp hu (by show scope.names.lookup y ≠ _; rw [k]; decide)] at q
   exact q
 ·exact e0.hok.fresh (Nat.le_of_lt (x.above y c (PySem.mem_of_lookup h)))
 ·unfold start
  show _ = N.length
  rw [List.length_append, List.length_map, List.length_replicate]
  omega
theorem arC {CX : CXT} {P : Program} {w : World} {K : PySem.W.Frag} {mg : Str -> Option Value} {base : Heap} {k : Nat} {f : Addr} {name qual : Str} {params : Arguments} {body : List Stmt} {scope : Scope} {dV kV doc pm cdv ct oc : Value} {an od : Option Addr}
  {osl : Array (Option Value)} {N ps : List Str} {sp : Sp} (lk : K.lookup f = some ⟨oc, od, .func (PySem.W.fnOf name qual params body scope dV kV doc pm an cdv ct), osl⟩) (hcd : PySem.W.codeIn K cdv qual = true) (S : aaE N ps scope)
  (len : ∀ vs H Q E, sp vs H Q E -> vs.length = ps.length)
  (hbody : ∀ (A : Around) (outer : List Env) (s : Shared) (H : Hp) (vs : List V) (Q : VK) (E : XK), afN k (A.deeper (envOfC qual scope s.heap.objs.size f cdv)) -> sp vs H Q E ->
   ∃ t, PSs (aj2 CX P w K mg base N qual scope f cdv A outer s H E) body t /\ t { nx := fun _ H' => Q .non H', rt := Q } (start N vs) H) :
  akM P w K mg base CX (k + 1) f (PySem.W.fnOf name qual params body scope dV kV doc pm an cdv ct) ps sp := by
 refine ⟨len, fun A outer s H args us vs Q E hr e0 hb r hsp => ?_⟩
 have hl := len _ _ _ _ hsp
 have KX : K.In s.heap := e0.mod.kin.keeps fun b o e => (e0.bs b o e).1
 have lim : s.heap.NoLimit := e0.mod.nolimit.keeps fun b o e => (e0.bs b o e).1
 have hkind : ∀ y ∈ ps.zip us, scope.names.lookup y.1 = some .local \/ (scope.names.lookup y.1 = some .cell /\ ((cellsFrom (s.heap.objs.size + 1) scope.names []).lookup y.1).isSome = true) := fun ⟨n, v⟩ hy => by
  rcases S.par n (List.of_mem_zip hy).1 with q | q
  ·exact .inl q
  ·exact .inr ⟨q, PySem.W.cellsFrom_some _ _ _ (.inl q)⟩
 refine codeAny_call_function hr.depth (KX _ _ lk) rfl S.co S.gen rfl (PySem.W.codeRec_of KX hcd) (hb _ _ _ _ ?_)
 refine wpAny_newFunctionEnv_cells S.kind hkind fun env he s1 x => ?_
 subst he
 refine ⟨lim.keeps x.toInCall.keep, codeAny_func ?_⟩
 obtain ⟨t, ht, hq⟩ := hbody A outer s H vs Q E (hr.deeper _) hsp
 have I : Inv (aj2 CX P w K mg base N qual scope f cdv A outer s H E) [] (start N vs) H s1 := alD S hr.hd e0 hl r x
 refine wpAny_mono (ht [] s1 (start N vs) H _ I hq) (fun fl s' hs => ?_) fun e s' hs => hs
 have fin : ∀ {σ' : St} {H' : Hp} {v : V} {u : Value}, Inv (aj2 CX P w K mg base N qual scope f cdv A outer s H E) [] σ' H' s' -> RelV v u -> Q v H' -> CE outer P w H s Q u s' :=
  fun {σ' H' v u} J rv q => ⟨v, H', J.os, J.bare, J.base, J.hok, rv, q⟩
 cases fl with
 | ret u =>
  obtain ⟨v, σ', H', J, rv, q⟩ := hs
  exact fin J rv q
 | next =>
  obtain ⟨σ', H', J, q⟩ := hs
  exact fin (v := V.non) (u := Value.none) J rfl q
 | brk =>
  obtain ⟨_, _, _, q⟩ := hs
  exact False.elim q
 | cont =>
  obtain ⟨_, _, _, q⟩ := hs
  exact False.elim q
end L2
namespace L2
open PySem PySem.Spec PyProof.Rows
section
variable {X : Cx} {x : Str} {p pos : Pos} {e : Expr} {es : List Expr} {t : TA} {id T : String} {r : List V -> Hp -> VK -> Prop}
noncomputable def tCB (r : List V -> Hp -> VK -> Prop) (t : TA) : TE := fun σ H Q => t σ H fun vs H1 => r vs H1 Q
theorem aj4 (hc : adD X (.builtin id) r) (hg : Gl X x) (hm : X.mg x = none) (hv : bootBuiltins x = some (.builtin id)) (ha : PA X (e :: es) t) (hn : x ≠ "__name__" := by decide) (hdb : (x == ("__debug__" : Str)) = false := by decide)
  (he : starEach (e :: es) X.env = (false, eval e X.env) :: starEach es X.env := by rfl) (hpl : (backTo pos (starEach es X.env)).any (·.1) = false := by rfl) : PE X (.Call (.Name x p) (e :: es) [] pos) (tCB r t) := by
 intro pins s σ H Q I h
 refine wpAny_Call_Name_kw (afD I hg hm hv ?_ hn hdb)
 exact PyProof.Rows.callWith_builtin1 (thn (ha pos pins s σ H _ I h) fun us s1 ⟨vs, H1, I1, r1, q1⟩ => hc pins s1 σ H1 vs us Q I1 r1 q1) he hpl
theorem alE (hc : adD X (.type T) r) (hg : Gl X x) (hm : X.mg x = none) (hv : bootBuiltins x = some (.type T)) (ha : PA X (e :: es) t) (hn : x ≠ "__name__" := by decide) (hdb : (x == ("__debug__" : Str)) = false := by decide)
  (he : starEach (e :: es) X.env = (false, eval e X.env) :: starEach es X.env := by rfl) (hpl : (backTo pos (starEach es X.env)).any (·.1) = false := by rfl) : PE X (.Call (.Name x p) (e :: es) [] pos) (tCB r t) := by
 intro pins s σ H Q I h
 refine wpAny_Call_Name_kw (afD I hg hm hv ?_ hn hdb)
 exact PyProof.Rows.callWith_type1 (thn (ha pos pins s σ H _ I h) fun us s1 ⟨vs, H1, I1, r1, q1⟩ => hc pins s1 σ H1 vs us Q I1 r1 q1) he hpl
end
end L2
namespace HT
open PySem PyProof.Rows
noncomputable def lexLt : List Int -> List Int -> Bool
 | [], [] => false
 | [], _ :: _ => true
 | _ :: _, [] => false
 | x :: xs, y :: ys => if x = y then lexLt xs ys else decide (x < y)
theorem akN (x y : Int) (xs ys : List Int) : lexLt (x :: xs) (y :: ys) = if x = y then lexLt xs ys else decide (x < y) := rfl
theorem ahy : lexLt [] [] = false := rfl
theorem agU (y : Int) (ys : List Int) : lexLt [] (y :: ys) = true := rfl
theorem agV (x : Int) (xs : List Int) : lexLt (x :: xs) [] = false := rfl
theorem anm (A : Around) (s : Shared) (a : Int) (t : Tok) (c : Int) (u : Tok) : ∃ e, SeqAt.EqAt A s (.int a t) (.int c u) e /\ (e = true ↔ a = c) :=
 ⟨(a == c), SeqAt.EqAt.int_int a t c u, by simp⟩
theorem ano (A : Around) (s : Shared) (a : Int) (t : Tok) (c : Int) (u : Tok) (prog : Program) (w : World) (E : Value -> Shared -> Prop) (Q : Value -> Shared -> Prop) (h : Q (.bool (decide (a < c))) s) :
  wpAny (model prog w) A (richCompare .Lt (.int a t) (.int c u)) Q E s :=
 (PyProof.Rows.lt_int h : wpAny (model prog w) A (compareOp .Lt (.int a t) (.int c u)) Q E s)
section
open PySem.SeqAt
open PySem.AutoSeq1 (wpAny_loadPart')
open PySem.MeetsSeq PySem.MeetsSeq2 PySem.MeetsSeq3
theorem ahz (l b : Addr) (items items2 : Array Value) (n n2 : Nat) (dd dd2 : Option Addr) (sl sl2 : Array (Option Value)) (ns ms : List Int) (hi : IntsAre items.toList ns) (hj : IntsAre items2.toList ms) :
  Meets (Builtin.«tuple.__lt__» ⟨[.ref l, .ref b], []⟩)
   (fun _ R s => s.heap.get? l = some { cls := .type "tuple", dict := dd, data := .seq items n, slots := sl } ∧ s.heap.get? b = some { cls := .type "tuple", dict := dd2, data := .seq items2 n2, slots := sl2 } ∧
    R (.ok (.ret (.bool (lexLt ns ms)))) s) :=
 .of_wp fun prog w A R s h => by
  obtain ⟨hp, g, d, tk, os⟩ := s; obtain ⟨hl, hb, h⟩ := h
  have f2 := AutoSeq1.sub_tuple_tuple
  have z1 : items.size = ns.length := by rw [<-hi.length]; simp
  have z2 : items2.size = ms.length := by rw [<-hj.length]; simp
  wp_walk using wpAny_loadPart' hl, wpAny_loadPart' hb, wpAny_forIn_list _ (fun rest b s' => b.1 = none /\ s' = ⟨hp, g, d, tk, os⟩ /\ ∃ (vs ws : List Value) (ns' ms' : List Int), rest = vs.zip ws /\
   IntsAre vs ns' /\ IntsAre ws ms' /\ ns'.length + items2.size = ms'.length + items.size /\ R (.ok (.ret (.bool (lexLt ns' ms')))) ⟨hp, g, d, tk, os⟩) _
  case turn =>
   rintro ⟨y, x⟩ rest b s' ⟨hb', rfl, vs, ws, ns', ms', hz, hvi, hwi, hlen, hR⟩
   cases hvi with
   | nil => rw [List.zip_nil_left] at hz; cases hz
   | cons a t axj =>
    cases hwi with
    | nil => rw [List.zip_nil_right] at hz; cases hz
    | cons c u axk =>
     rw [List.zip_cons_cons] at hz
     injection hz with hyx hrest
     injection hyx with hy hx
     subst hy hx
     rw [akN] at hR
     simp only [List.length_cons] at hlen
     obtain ⟨e, he, hiff⟩ := anm A.in1 ⟨hp, g, d, tk, os⟩ a t c u
     refine wpAny_bind (he prog w _ _ ?_)
     cases e with
     | true =>
      rw [if_pos (hiff.mp rfl)] at hR
      wp_walk
      exact ⟨rfl, rfl, _, _, _, _, hrest, axj, axk, by omega, hR⟩
     | false =>
      rw [if_neg (fun q => absurd (hiff.mpr q) Bool.false_ne_true)] at hR
      have hri := ano A.in1 ⟨hp, g, d, tk, os⟩ a t c u prog w
      wp_walk using hri
      exact ⟨_, rfl, by simpa using hR⟩
  case fin =>
   rintro ⟨b1, b2⟩ s' ⟨hb', rfl, vs, ws, ns', ms', hz, hvi, hwi, hlen, hR⟩
   simp only at hb'
   subst hb'
   have hv : lexLt ns' ms' = decide (items.size < items2.size) := by
    cases hvi with
    | nil =>
     cases hwi with
     | nil =>
      simp only [List.length_nil] at hlen
      rw [ahy]
      exact (decide_eq_false (by omega)).symm
     | cons c u hw =>
      simp only [List.length_nil, List.length_cons] at hlen
      rw [agU]
      exact (decide_eq_true (by omega)).symm
    | cons a t hv =>
     cases hwi with
     | nil =>
      simp only [List.length_nil, List.length_cons] at hlen
      rw [agV]
      exact (decide_eq_false (by omega)).symm
     | cons c u hw =>
      rw [List.zip_cons_cons] at hz
      cases hz
   rw [hv] at hR
   wp_walk
   exact ⟨_, rfl, by simpa [Builtin.Tuple.tupleCompareSizes] using hR⟩
  case h =>
   exact ⟨rfl, rfl, items.toList, items2.toList, ns, ms, rfl, hi, hj, by omega, h⟩
end
section
variable {prog : Program} {w : World} {A : Around} {E : Value -> Shared -> Prop} {s : Shared}
theorem akO {l b : Addr} {items items2 : Array Value} {ns ms : List Int} {Q : Value -> Shared -> Prop} (hl : IsTup s.heap l items) (hb : IsTup s.heap b items2) (hi : IntsAre items.toList ns) (hj : IntsAre items2.toList ms)
  (hu : A.units < cLine) (h : Q (.bool (lexLt ns ms)) s) : wpAny (model prog w) A (compareOp .Lt (.ref l) (.ref b)) Q E s := by
 obtain ⟨⟨cls, dd, data, sl⟩, ho, hc, n, hd⟩ := id hl
 obtain ⟨⟨cls2, dd2, data2, sl2⟩, ho2, hc2, n2, hd2⟩ := id hb
 simp only at hc hd hc2 hd2
 subst hc hd hc2 hd2
 exact richCompare_meets_room (op := .Lt) ⟨_, ho, rfl⟩ ⟨_, ho2, rfl⟩ PySem.F.slot_tuple_lt PySem.F.entry_tuple_lt (PySem.F.args_tuple_lt_2 _ _) (ahz l b items items2 n n2 dd dd2 sl sl2 ns ms hi hj)
  ⟨ho, ho2, show Value.bool (lexLt ns ms) ≠ Value.notImplemented /\ Q (.bool (lexLt ns ms)) s from ⟨(fun x => nomatch x), h⟩⟩ hu
theorem apz {t b : Addr} {vs ws : List Value} {Q : Value -> Shared -> Prop} (ht : IsTup s.heap t vs.toArray) (hb : IsTup s.heap b ws.toArray) (hv : vs ≠ [])
  (h1 : ws = [] -> Q (.ref t) s) (h2 : ws ≠ [] -> Q (.ref s.heap.objs.size) { s with heap := s.heap.push { cls := .type "tuple", data := .seq (vs ++ ws).toArray } })
  (hsz : vs.length + ws.length <= sizeLine) : wpAny (model prog w) A (binaryOp .Add (.ref t) (.ref b)) Q E s := by
 obtain ⟨⟨cls, dd, data, sl⟩, ho, hc, n, hd⟩ := id ht
 obtain ⟨⟨cls2, dd2, data2, sl2⟩, ho2, hc2, n2, hd2⟩ := id hb
 simp only at hc hd hc2 hd2
 subst hc hd hc2 hd2
 have e : vs.toArray ++ ws.toArray = (vs ++ ws).toArray := by simp
 by_cases hw : ws = []
 ·exact concat_meets ⟨_, ho, rfl⟩ ⟨_, ho2, rfl⟩ noFill_tuple_add seq_tuple_add PySem.F.slot_tuple_add PySem.F.entry_tuple_add (PySem.F.args_tuple_add_2 _ _)
   (tuple_addW1 t b vs.toArray ws.toArray n n2 dd dd2 sl sl2 (by simpa using hv) (by simp [hw])) ⟨ho, ho2, h1 hw⟩
 ·refine concat_meets ⟨_, ho, rfl⟩ ⟨_, ho2, rfl⟩ noFill_tuple_add seq_tuple_add PySem.F.slot_tuple_add PySem.F.entry_tuple_add (PySem.F.args_tuple_add_2 _ _)
   (tuple_addW2 t b vs.toArray ws.toArray n n2 dd dd2 sl sl2 (by simpa using hv) (by simpa using hw) (by rw [List.size_toArray, List.size_toArray]; exact hsz)) ⟨ho, ho2, ?_⟩
  rw [e]
  exact h2 hw
noncomputable def sIx (n d : Nat) : Option Int -> Nat
 | none => d
 | some v => if v < 0 then (v + (n : Int)).toNat else min v.toNat n
theorem arD (n d : Nat) (hd : d <= n) (o : Option Int) : sIx n d o <= n := by
 cases o with
 | none => exact hd
 | some v =>
  show (if v < 0 then (v + (n : Int)).toNat else min v.toNat n) <= n
  by_cases hv : v < 0
  ·rw [if_pos hv]; omega
  ·rw [if_neg hv]; exact Nat.min_le_right _ _
theorem alF (v : Int) (n d : Nat) : (if v < 0 then max (v + (n : Int)) 0 else min v (n : Int)) = ((sIx n d (some v) : Nat) : Int) := by
 show (if v < 0 then max (v + (n : Int)) 0 else min v (n : Int)) = (((if v < 0 then (v + (n : Int)).toNat else min v.toNat n) : Nat) : Int)
 by_cases hv : v < 0
 ·simp only [if_pos hv]; omega
 ·simp only [if_neg hv]; omega
theorem akP (lo hi : Option Int) (n : Nat) : Builtin.Slice.sliceAdjust lo hi 1 (n : Int) = (((sIx n 0 lo : Nat) : Int), ((sIx n n hi : Nat) : Int)) := by
 have h1 : ¬ ((1 : Int) < 0) := by omega
 unfold Builtin.Slice.sliceAdjust
 simp only [h1, if_false]
 refine Prod.ext ?_ ?_
 ·cases lo with
  | none => rfl
  | some v => exact alF v n 0
 ·cases hi with
  | none => rfl
  | some v => exact alF v n n
theorem akQ (i j : Nat) : Builtin.Slice.slicePlaces (i : Int) (j : Int) 1 = j - i := by
 unfold Builtin.Slice.slicePlaces
 have h1 : (1 : Int) > 0 := by omega
 simp only [h1, if_true, Int.ediv_one]
 split <;> omega
theorem ahc {v : Value} {o : Option Int} {Q : Option Int -> Shared -> Prop} (p : IsPart v o) (h : Q o s) : wpAny (model prog w) A (Builtin.Slice.slicePartIndex v) Q E s := by
 cases p with
 | none => exact slicePart_none h
 | int i t => exact slicePart_int h
theorem afO {sl : Addr} {vl vu : Value} {lo hi : Option Int} {n : Nat} {Q : Int × Int × Nat -> Shared -> Prop} (hs : s.heap.IsSliceOf sl vl vu .none) (pl : IsPart vl lo) (pu : IsPart vu hi)
  (h : Q (((sIx n 0 lo : Nat) : Int), 1, sIx n n hi - sIx n 0 lo) s) : wpAny (model prog w) A (Builtin.Slice.sliceApplied (.ref sl) (pure (n : Int))) Q E s := by
 obtain ⟨os, hos, hcs, hds⟩ := id hs
 unfold Builtin.Slice.sliceApplied Builtin.Slice.sliceFields
 refine wpAny_bind (wpAny_bind (wpAny_field hos hds (x := vl) rfl (wpAny_bind (wpAny_field hos hds (x := vu) rfl (wpAny_bind (wpAny_field hos hds (x := .none) rfl (wpAny_pure ?_)))))))
 refine wpAny_bind (slicePart_none ?_)
 show wpAny _ _ (if ((1 : Int) == 0) = true then _ else _) _ _ s
 rw [if_neg (by decide)]
 refine wpAny_bind (ahc pl (wpAny_bind (ahc pu (wpAny_bind (wpAny_pure ?_)))))
 show wpAny _ _ (match Builtin.Slice.sliceAdjust lo hi 1 (n : Int) with | (lo, hi) => pure (lo, (1 : Int), Builtin.Slice.slicePlaces lo hi 1)) _ _ s
 rw [akP lo hi n]
 show wpAny _ _ (pure (((sIx n 0 lo : Nat) : Int), (1 : Int), Builtin.Slice.slicePlaces ((sIx n 0 lo : Nat) : Int) ((sIx n n hi : Nat) : Int) 1)) _ _ s
 rw [akQ]
 exact wpAny_pure h
theorem anp (xs : Array Value) (i k : Nat) : ((List.range k).filterMap fun (m : Nat) => xs[((i : Int) + (m : Int) * 1).toNat]?).toArray = ((xs.toList.drop i).take k).toArray := by
 have e : (fun (m : Nat) => xs[((i : Int) + (m : Int) * 1).toNat]?) = fun m => xs[i + m]? := by
  funext m
  have : ((i : Int) + (m : Int) * 1).toNat = i + m := by omega
  rw [this]
 rw [e]
 have := pick_run xs i k
 rw [List.filterMap_map] at this
 have e2 : ((fun x => xs[x]?) ∘ fun x => i + x) = fun m => xs[i + m]? := rfl
 rw [e2] at this
 rw [this]
theorem afm {t sl : Addr} {items : Array Value} {vl vu : Value} {lo hi : Option Int} {Q : Value -> Shared -> Prop} (ht : IsTup s.heap t items) (hs : s.heap.IsSliceOf sl vl vu .none) (pl : IsPart vl lo) (pu : IsPart vu hi)
  (hw : ¬ (sIx items.size 0 lo = 0 /\ sIx items.size items.size hi = items.size))
  (h : Q (.ref s.heap.objs.size) { s with heap := s.heap.push { cls := .type "tuple", data := .seq ((items.toList.drop (sIx items.size 0 lo)).take (sIx items.size items.size hi - sIx items.size 0 lo)).toArray } })
  (hsz : items.size <= sizeLine) : wpAny (model prog w) A (getItem (.ref t) (.ref sl)) Q E s := by
 have anq : sizeOk (.seq ((items.toList.drop (sIx items.size 0 lo)).take (sIx items.size items.size hi - sIx items.size 0 lo)).toArray) := by
  show ((items.toList.drop (sIx items.size 0 lo)).take (sIx items.size items.size hi - sIx items.size 0 lo)).toArray.size <= sizeLine
  rw [List.size_toArray, List.length_take, List.length_drop, Array.length_toList]
  omega
 have hj : sIx items.size items.size hi <= items.size := arD _ _ (Nat.le_refl _) hi
 obtain ⟨os, hos, hcs, hds⟩ := id hs
 have hTs : s.TypeIs (.ref sl) "slice" := ⟨os, hos, hcs⟩
 unfold getItem
 try with_reducible refine wpAny_holding ?_
 first | refine wpAny_bind (wpAny_pure ?_) | skip
 refine wpAny_bind (wpAny_sequenceKey ht.typeIs (by decide) ?_)
 refine wpAny_bind (wpAny_callSpecial?_slot (name := Str.ofString "__getitem__") ht.typeIs PyProof.Rows.slot_tuple_getitem
  (wpAny_call_entry PyProof.Rows.slot_tuple_getitem ht.typeIs entry_tuple_getitem ?_ (args_tuple_getitem _ _)))
 show wpAny _ _ (Builtin.Tuple.tupleItemsOf (.ref t) >>= _) _ _ s
 refine wpAny_bind (tupleItemsOf_ ht ?_)
 refine wpAny_bind (wpAny_typeOf hTs ?_)
 rw [if_pos (by decide)]
 refine wpAny_bind (afO hs pl pu ?_)
 have hno : ¬ ((((sIx items.size 0 lo : Nat) : Int) == 0 && (1 : Int) == 1 && (sIx items.size items.size hi - sIx items.size 0 lo) == items.size) = true) := by
  intro q
  rw [Bool.and_eq_true, Bool.and_eq_true] at q
  have q1 : ((sIx items.size 0 lo : Nat) : Int) = 0 := eq_of_beq q.1.1
  have q2 : sIx items.size items.size hi - sIx items.size 0 lo = items.size := eq_of_beq q.2
  exact hw ⟨by omega, by omega⟩
 show wpAny _ _ (if (((sIx items.size 0 lo : Nat) : Int) == 0 && (1 : Int) == 1 && (sIx items.size items.size hi - sIx items.size 0 lo) == items.size) = true then _ else _) _ _ s
 rw [if_neg hno, anp]
 first
  | exact wpAny_bind (m := Builtin.Tuple.tupleExact _) (wpAny_newObj_type (wpAny_pure ⟨_, rfl, wpAny_pure h⟩) anq)
  | exact wpAny_bind (m := Builtin.Tuple.tupleExact _) (wpAny_newObj_type (wpAny_bind (wpAny_pure (wpAny_pure ⟨_, rfl, wpAny_pure h⟩))) anq)
  | exact wpAny_bind (wpAny_bind (m := Builtin.Tuple.tupleExact _) (wpAny_newObj_type (wpAny_pure (wpAny_pure ⟨_, rfl, wpAny_pure h⟩)) anq))
  | exact wpAny_bind (wpAny_bind (m := Builtin.Tuple.tupleExact _) (wpAny_newObj_type (wpAny_pure ⟨_, rfl, wpAny_pure h⟩) anq))
end
end HT
namespace L2
open PySem PySem.Spec PyProof.Rows
noncomputable abbrev TO := St -> Hp -> (Option Int -> Hp -> Prop) -> Prop
noncomputable def PO (X : Cx) (e : Option Expr) (t : TO) : Prop :=
 ∀ (pins : List (Addr × Obj)) (s : Shared) (σ : St) (H : Hp) (Q : Option Int -> Hp -> Prop), Inv X pins σ H s -> t σ H Q ->
  wpAny (model X.prog X.w) X.A (evalPart e X.env) (fun u s' => ∃ o H', Inv X pins σ H' s' /\ IsPart u o /\ Q o H') X.xe s
noncomputable def alG : TO := fun _ H Q => Q none H
noncomputable def arE (t : TE) : TO := fun σ H Q => t σ H fun x H1 => ∃ i, x = .int i /\ Q (some i) H1
theorem intsAre_of {ns : List Int} : ∀ {us : List Value}, Vals (ns.map V.int) us -> IntsAre us ns := by
 induction ns with
 | nil => intro us r; rw [List.map_nil] at r; cases r; exact .nil
 | cons n ns ih =>
  intro us r
  rw [List.map_cons] at r
  cases r with
  | cons r1 r2 =>
   obtain ⟨t, e⟩ := r1
   subst e
   exact .cons n t (ih r2)
section
variable {X : Cx} {e : Expr} {te : TE} {lo hi : Option Expr} {tl th : TO} {pos p2 : Pos}
theorem apA : PO X none alG := by
 intro pins s σ H Q I h
 rw [evalPart_none]
 exact wpAny_pure ⟨none, H, I, .none, h⟩
theorem apB (h : PE X e te) : PO X (some e) (arE te) := by
 intro pins s σ H Q I hw
 rw [evalPart_some]
 refine thn (h pins s σ H _ I hw) fun u s1 ⟨x, H1, I1, r1, q1⟩ => ?_
 obtain ⟨i, rfl, q⟩ := q1
 obtain ⟨t, rfl⟩ := r1
 exact ⟨some i, H1, I1, .int i t, q⟩
noncomputable def SlR (X : Cx) (r : V -> Option Int -> Option Int -> Hp -> VK -> Prop) : Prop :=
 ∀ (pins : List (Addr × Obj)) (s : Shared) (σ : St) (H : Hp) (x : V) (v vl vu : Value) (lo hi : Option Int) (sl : Addr) (Q : VK), Inv X pins σ H s -> RelV x v -> s.heap.IsSliceOf sl vl vu .none -> IsPart vl lo -> IsPart vu hi -> r x lo hi H Q ->
  ∃ T id, typeLookup (.type T) "__getitem__" = pure (some (.builtin id)) /\ s.TypeIs v T /\ wpAny (model X.prog X.w) X.A (getItem v (.ref sl)) (EP X pins σ Q) X.xe s
theorem SlR.or {r r' : V -> Option Int -> Option Int -> Hp -> VK -> Prop} (h : SlR X r) (h' : SlR X r') : SlR X (fun x lo hi H Q => r x lo hi H Q \/ r' x lo hi H Q) := by
 intro pins s σ H x v vl vu lo hi sl Q I rx hs pl pu q
 rcases q with q | q
 ·exact h pins s σ H x v vl vu lo hi sl Q I rx hs pl pu q
 ·exact h' pins s σ H x v vl vu lo hi sl Q I rx hs pl pu q
noncomputable def tSl (r : V -> Option Int -> Option Int -> Hp -> VK -> Prop) (te : TE) (tl th : TO) : TE := fun σ H Q => te σ H fun x H1 => tl σ H1 fun l H2 => th σ H2 fun u H3 => r x l u H3 Q
theorem anr {r : V -> Option Int -> Option Int -> Hp -> VK -> Prop} (hr : SlR X r) (he : PE X e te) (hl : PO X lo tl) (hu : PO X hi th) : PE X (.Subscript e (.Slice lo hi none p2) pos) (tSl r te tl th) := by
 intro pins s σ H Q I h
 refine Subscript_ (thn (he pins s σ H _ I h) fun v s1 ⟨x, H1, I1, r1, q1⟩ => ?_)
 refine wpAny_Slice (thn (hl pins s1 σ H1 _ I1 q1) fun vl s2 ⟨l, H2, I2, pl, q2⟩ => thn (hu pins s2 σ H2 _ I2 q2) fun vu s3 ⟨u, H3, I3, pu, q3⟩ => ?_)
 rw [evalPart_none]
 refine wpAny_pure ?_
 have I4 : Inv X pins σ H3 { s3 with heap := s3.heap.push { cls := .type "slice", data := .fields #[vl, vu, .none] } } := I3.kept (t' := s3.toks) fun b ob q => Heap.get?_push_of_some _ q
 obtain ⟨T, id, hT, ht, hg⟩ := hr pins { s3 with heap := s3.heap.push { cls := .type "slice", data := .fields #[vl, vu, .none] } } σ H3 x v vl vu l u s3.heap.objs.size Q I4 r1 (Heap.IsSliceOf.new ..) pl pu q3
 show wpAny (model X.prog X.w) X.A (subscriptTail e (.Slice lo hi none p2) v (.ref s3.heap.objs.size)) (EP X pins σ Q) X.xe { s3 with heap := s3.heap.push { cls := .type "slice", data := .fields #[vl, vu, .none] } }
 exact tail_any (ops := [.ref s3.heap.objs.size, v]) ht hT hg (by with_unfolding_all rfl)
noncomputable def aoJ (xs : List V) (lo hi : Option Int) : List V := (xs.drop (HT.sIx xs.length 0 lo)).take (HT.sIx xs.length xs.length hi - HT.sIx xs.length 0 lo)
theorem agi (xs : List V) (lo hi : Option Int) : (aoJ xs lo hi).length <= xs.length := by
 unfold aoJ
 rw [List.length_take, List.length_drop]
 omega
noncomputable def awK (K : PySem.W.Frag) : V -> Option Int -> Option Int -> Hp -> VK -> Prop := fun x lo hi H Q => ∃ a xs, x = .ref a /\ SqT K H a xs /\
 ¬ (HT.sIx xs.length 0 lo = 0 /\ HT.sIx xs.length xs.length hi = xs.length) /\ ∀ p, H p = none -> Q (.ref p) (upd H p (.tup (aoJ xs lo hi)))
theorem arF : SlR X (awK X.K) := by
 intro pins s σ H x v vl vu lo hi sl Q I rx hs pl pu h
 obtain ⟨a, xs, rfl, hx, hw, q⟩ := h
 cases rx
 obtain ⟨its, r, ht, hz⟩ := I.tuple hx
 have hlen : its.toArray.size = xs.length := by rw [List.size_toArray]; exact r.length.symm
 refine ⟨"tuple", _, PyProof.Rows.slot_tuple_getitem.lookup, ht.typeIs, ?_⟩
 refine HT.afm ht hs pl pu (by rw [hlen]; exact hw) ?_ (by rw [hlen]; exact hz)
 rw [hlen]
 refine ⟨.ref s.heap.objs.size, _, I.laid (t' := s.toks) (o := .tup (aoJ xs lo hi)) (fun b ob q => Heap.get?_push_of_some _ q) (Nat.le_refl _) ?_, rfl, q _ (I.hok.fresh (Nat.le_refl _))⟩
 exact ⟨Nat.le_trans (agi xs lo hi) hz, _, (r.drop (HT.sIx xs.length 0 lo)).take (HT.sIx xs.length xs.length hi - HT.sIx xs.length 0 lo), IsTup.new _ _⟩
noncomputable def awL (K : PySem.W.Frag) : R2 := fun x y H Q => ∃ a b ns ms, x = .ref a /\ y = .ref b /\ SqT K H a (ns.map V.int) /\ SqT K H b (ms.map V.int) /\ Q (.bl (HT.lexLt ns ms)) H
theorem arG (hu : X.A.units < cLine) : OpR X (compareOp .Lt) (awL X.K) := by
 intro pins s σ H x y v u Q I rx ry h
 obtain ⟨a, b, ns, ms, rfl, rfl, ha, hb, q⟩ := h
 cases rx
 cases ry
 obtain ⟨its, r1, p1, _⟩ := I.tuple ha
 obtain ⟨its2, r2, p2, _⟩ := I.tuple hb
 have i1 : IntsAre its.toArray.toList ns := intsAre_of r1
 have i2 : IntsAre its2.toArray.toList ms := intsAre_of r2
 exact HT.akO p1 p2 i1 i2 hu ⟨.bl (HT.lexLt ns ms), H, I, rfl, q⟩
noncomputable def arH (K : PySem.W.Frag) : R2 := fun x y H Q => ∃ a b xs ys, x = .ref a /\ y = .ref b /\ SqT K H a xs /\ SqT K H b ys /\ xs ≠ [] /\ xs.length + ys.length <= sizeLine /\
 (ys = [] -> Q (.ref a) H) /\ (ys ≠ [] -> ∀ p, H p = none -> Q (.ref p) (upd H p (.tup (xs ++ ys))))
theorem Vals.ai8 {xs : List V} {us : List Value} (r : Vals xs us) : us = [] ↔ xs = [] := by
 cases r with
 | nil => simp
 | cons _ _ => simp
theorem apC : OpR X (binaryOp .Add) (arH X.K) := by
 intro pins s σ H x y v u Q I rx ry h
 obtain ⟨a, b, xs, ys, rfl, rfl, ha, hb, hx, hz, q1, q2⟩ := h
 cases rx
 cases ry
 obtain ⟨its, r1, p1, _⟩ := I.tuple ha
 obtain ⟨its2, r2, p2, _⟩ := I.tuple hb
 refine HT.apz p1 p2 (fun z => hx (r1.ai8.mp z)) (fun z => ⟨.ref a, H, I, rfl, q1 (r2.ai8.mp z)⟩) (fun z => ?_) (by rw [<-r1.length, <-r2.length]; exact hz)
 refine ⟨.ref s.heap.objs.size, _, I.laid (t' := s.toks) (o := .tup (xs ++ ys)) (fun b ob q => Heap.get?_push_of_some _ q) (Nat.le_refl _) ?_, rfl, q2 (fun w => z (r2.ai8.mpr w)) _ (I.hok.fresh (Nat.le_refl _))⟩
 exact ⟨by rw [List.length_append]; exact hz, _, r1.append r2, IsTup.new _ _⟩
end
end L2
namespace L2
open PySem PySem.Spec PyProof.Rows
noncomputable def ixN (n : Nat) (i : Int) : Option Nat := if 0 <= i then (if i < n then some i.toNat else none) else if -(n : Int) <= i then some (i + n).toNat else none
noncomputable def atI {α : Type} (xs : List α) (i : Int) : Option α := (ixN xs.length i).bind fun j => xs[j]?
theorem alH {n : Nat} {i : Int} {j : Nat} (h : ixN n i = some j) : seqIndex? i n = some j /\ j < n /\ -(n : Int) <= i /\ i < n := by
 unfold ixN at h
 by_cases h0 : 0 <= i
 ·rw [if_pos h0] at h
  by_cases h1 : i < n
  ·rw [if_pos h1] at h
   have e : i.toNat = j := Option.some.inj h
   exact ⟨by rw [seqIndex_of h0 h1, e], by omega, by omega, h1⟩
  ·rw [if_neg h1] at h; cases h
 ·rw [if_neg h0] at h
  by_cases h1 : -(n : Int) <= i
  ·rw [if_pos h1] at h
   have e : (i + n).toNat = j := Option.some.inj h
   exact ⟨by rw [seqIndex_neg (by omega) h1, e], by omega, h1, by omega⟩
  ·rw [if_neg h1] at h; cases h
theorem ai9 {α : Type} {xs : List α} {i : Int} {v : α} (h : atI xs i = some v) : ∃ j, seqIndex? i xs.length = some j /\ xs[j]? = some v /\ j < xs.length /\ -(xs.length : Int) <= i /\ i < xs.length := by
 unfold atI at h
 cases e : ixN xs.length i with
 | none => rw [e] at h; cases h
 | some j =>
  rw [e] at h
  obtain ⟨h1, h2, h3, h4⟩ := alH e
  exact ⟨j, h1, h, h2, h3, h4⟩
noncomputable def apD (b : Expr) : Prop := ∀ o i, subscripted b false o i = operate [o, i] (getItem o i)
noncomputable def IxR (X : Cx) (r : R2) : Prop :=
 ∀ (value slice : Expr) (pins : List (Addr × Obj)) (s : Shared) (σ : St) (H : Hp) (x y : V) (v u : Value) (Q : VK), Inv X pins σ H s -> RelV x v -> RelV y u -> r x y H Q ->
  subscripted slice false v u = operate [v, u] (getItem v u) -> wpAny (model X.prog X.w) X.A (subscriptTail value slice v u) (EP X pins σ Q) X.xe s
noncomputable def MtR (X : Cx) (id : String) (r : V -> List V -> Hp -> VK -> Prop) : Prop :=
 ∀ (pins : List (Addr × Obj)) (s : Shared) (σ : St) (H : Hp) (x : V) (xs : List V) (v : Value) (us : List Value) (Q : VK), Inv X pins σ H s -> RelV x v -> Vals xs us -> r x xs H Q ->
  wpAny (model X.prog X.w) X.A (call (.builtin id) (v :: us)) (EP X pins σ Q) X.xe s
section
variable {X : Cx} {a b : Expr} {ta tb : TE} {pos : Pos}
theorem IxR.or {r r' : R2} (h : IxR X r) (h' : IxR X r') : IxR X (fun x y H Q => r x y H Q \/ r' x y H Q) := by
 intro value slice pins s σ H x y v u Q I rx ry q hs
 rcases q with q | q
 ·exact h value slice pins s σ H x y v u Q I rx ry q hs
 ·exact h' value slice pins s σ H x y v u Q I rx ry q hs
theorem aaN {r : R2} (hr : IxR X r) (ha : PE X a ta) (hb : PE X b tb) (hs : apD b) : PE X (.Subscript a b pos) (tOp r ta tb) := by
 intro pins s σ H Q I h
 exact Subscript_ (auQ ha hb I h fun v u s2 x y H2 I2 rx ry q => hr a b pins s2 σ H2 x y v u Q I2 rx ry q (hs _ _))
noncomputable def awM (K : PySem.W.Frag) : R2 := fun x y H Q => ∃ p xs i v, x = .ref p /\ y = .int i /\ SqL K H p xs /\ atI xs i = some v /\ Q v H
noncomputable def awN (K : PySem.W.Frag) : R2 := fun x y H Q => ∃ p xs i v, x = .ref p /\ y = .int i /\ SqT K H p xs /\ atI xs i = some v /\ Q v H
noncomputable def awO : R2 := fun x y H Q => ∃ z i c, x = .str z /\ y = .int i /\ z.length <= sizeLine /\ atI z.cps.toList i = some c /\ Q (.str ⟨#[c]⟩) H
theorem apE : IxR X (awM X.K) := by
 intro value slice pins s σ H x y v u Q I rx ry h hs
 obtain ⟨p, xs, i, z, rfl, rfl, hq, he, q⟩ := h
 cases rx
 obtain ⟨t, rfl⟩ := ry
 obtain ⟨its, r, pl, hz⟩ := I.list hq
 obtain ⟨j, h1, h2, h3, h4, h5⟩ := ai9 he
 obtain ⟨w, ew, rw'⟩ := r.get h2
 have hl := r.length
 have hn := agg
 have fin : EP X pins σ Q w s := ⟨z, H, I, rw', q⟩
 by_cases h0 : 0 <= i
 ·have hj : i.toNat = j := by
   rw [seqIndex_of h0 h5] at h1
   exact Option.some.inj h1
  exact item_listR pl.isList h0 (by omega) (by rw [hj]; simpa using ew) fin hs
 ·have hj : (i + (its.toArray.size : Int)).toNat = j := by
   rw [seqIndex_neg (by omega) h4] at h1
   rw [List.size_toArray, <-hl]
   exact Option.some.inj h1
  exact subscriptTail_builtinR (x := w) pl.isList.typeIs slot_list_getitem.lookup
   (wpAny_getItem_list_neg (Q := fun r s' => r = w /\ EP X pins σ Q r s') pl.isList (by omega) (by rw [List.size_toArray] <;> omega) (by omega) (by rw [hj]; simpa using ew) ⟨rfl, fin⟩) hs
theorem arI : IxR X (awN X.K) := by
 intro value slice pins s σ H x y v u Q I rx ry h hs
 obtain ⟨p, xs, i, z, rfl, rfl, hq, he, q⟩ := h
 cases rx
 obtain ⟨t, rfl⟩ := ry
 obtain ⟨its, r, pl, hz⟩ := I.tuple hq
 obtain ⟨j, h1, h2, h3, h4, h5⟩ := ai9 he
 obtain ⟨w, ew, rw'⟩ := r.get h2
 have hl := r.length
 have hn := agg
 have fin : EP X pins σ Q w s := ⟨z, H, I, rw', q⟩
 exact subscriptTail_builtinR (x := w) pl.typeIs slot_tuple_getitem.lookup
  (getItem_tuple (j := j) (Q := fun r s' => r = w /\ EP X pins σ Q r s') pl (by omega) (by omega) (by rw [List.size_toArray, <-hl]; exact h1) (by simpa using ew) ⟨rfl, fin⟩) hs
theorem arJ : IxR X awO := by
 intro value slice pins s σ H x y v u Q I rx ry h hs
 obtain ⟨z, i, c, rfl, rfl, hz, he, q⟩ := h
 obtain ⟨t, rfl⟩ := rx
 obtain ⟨t', rfl⟩ := ry
 obtain ⟨j, h1, h2, h3, h4, h5⟩ := ai9 he
 have hl : z.cps.toList.length = z.length := by simp [Str.length]
 rw [hl] at h1 h4 h5
 have hn := agg
 exact tail_any (typeIs_str s z t) slot_str_getitem.lookup (getItem_str (c := c) (by
  have e1 : decide (i < -(2 ^ 63 : Int)) = false := decide_eq_false (by omega)
  have e2 : decide (i >= 2 ^ 63) = false := decide_eq_false (by omega)
  rw [e1, e2, Bool.or_false]) (by rw [h1]; simpa using h2) ⟨.str ⟨#[c]⟩, H, I.tok _, ⟨_, rfl⟩, q⟩) hs
noncomputable def rIx (K : PySem.W.Frag) : R2 := fun x y H Q => awM K x y H Q \/ awN K x y H Q \/ awO x y H Q
theorem aaw : IxR X (rIx X.K) := apE.or (arI.or arJ)
theorem akR (its : List Value) (n j : Nat) (u : Value) : Obj.mapSeq (·.setIfInBounds j u) { cls := .type "list", data := .seq its.toArray n } = { cls := .type "list", data := .seq (its.set j u).toArray n } := by
 simp [Obj.mapSeq]
theorem Inv.lst {pins : List (Addr × Obj)} {σ : St} {H : Hp} {s : Shared} {p : Addr} {xs : List V} (I : Inv X pins σ H s) (h : H p = some (.lst xs)) :
  ∃ (its : List Value) (n : Nat), Vals xs its /\ s.heap.get? p = some { cls := .type "list", data := .seq its.toArray n } /\ xs.length <= sizeLine := by
 obtain ⟨z, its, n, r, e⟩ := I.hok p _ h
 exact ⟨its, n, r, e, z⟩
theorem Inv.arK {pins : List (Addr × Obj)} {σ : St} {H : Hp} {s : Shared} {p : Addr} {xs ys : List V} {its its' : List Value} {n n' : Nat} {f : Obj -> Obj} (I : Inv X pins σ H s) (h : H p = some (.lst xs))
  (ho : s.heap.get? p = some { cls := .type "list", data := .seq its.toArray n }) (hf : f { cls := .type "list", data := .seq its.toArray n } = { cls := .type "list", data := .seq its'.toArray n' }) (r : Vals ys its') (hz : ys.length <= sizeLine) (t : Nat) :
  Inv X pins σ (upd H p (.lst ys)) { s with heap := s.heap.update p f, toks := t } := by
 have e : (s.heap.update p f).get? p = some { cls := .type "list", data := .seq its'.toArray n' } := by
  rw [Heap.get?_update_self f ho (by rw [hf] <;> rfl), hf]
 refine I.write (x := p) (e := p) (by rw [h]; trivial) (.inl rfl) (fun b u hb q => (Heap.get?_update_other _ _ (Ne.symm hb)).trans q) ⟨_, e⟩ ?_
 exact ⟨hz, its', n', r, e⟩
noncomputable def arL : V -> V -> V -> Hp -> (Hp -> Prop) -> Prop := fun o i v H Q => ∃ p xs k j, o = .ref p /\ i = .int k /\ H p = some (.lst xs) /\ ixN xs.length k = some j /\ Q (upd H p (.lst (xs.set j v)))
theorem set_list : awB X arL := by
 intro pins s σ H o i v ov iv u Q I ro ri rv h
 obtain ⟨p, xs, k, j, rfl, rfl, hp, hj, q⟩ := h
 cases ro
 obtain ⟨t, rfl⟩ := ri
 obtain ⟨its, n, r, ho, hz⟩ := I.lst hp
 obtain ⟨h1, h2, h3, h4⟩ := alH hj
 have hl := r.length
 have hn := agg
 have I' : Inv X pins σ (upd H p (.lst (xs.set j v))) { s with heap := s.heap.update p (Obj.mapSeq (·.setIfInBounds j u)) } :=
  I.arK hp ho (akR its n j u) (r.set rv j) (by rw [List.length_set]; exact hz) s.toks
 by_cases h0 : 0 <= k
 ·have hk : k.toNat = j := by
   rw [seqIndex_of h0 h4] at h1
   exact Option.some.inj h1
  exact PySem.W.ki_setAt ho h0 (by omega) (by rw [List.size_toArray, <-hl]; exact h4) (by rw [hk]; exact ⟨_, I', q⟩)
 ·have hk : (k + (its.toArray.size : Int)).toNat = j := by
   rw [seqIndex_neg (by omega) h3] at h1
   rw [List.size_toArray, <-hl]
   exact Option.some.inj h1
  exact PySem.W.ki_setBack ho (by omega) (by rw [List.size_toArray, <-hl]; exact h3) (by omega) (by rw [hk]; exact ⟨_, I', q⟩)
theorem aiv (lo hi : Option Int) (n : Nat) : (sliceBounds lo hi none n).1 = ((HT.sIx n 0 lo : Nat) : Int) /\ (sliceBounds lo hi none n).2.1 = ((HT.sIx n n hi : Nat) : Int) /\ (sliceBounds lo hi none n).2.2 = 1 := by
 refine ⟨?_, ?_, rfl⟩
 ·cases lo with
  | none => simp [sliceBounds, HT.sIx]
  | some i =>
   simp only [sliceBounds, HT.sIx, Option.getD_none, show (1 : Int) > 0 by decide, if_true]
   by_cases h : i < 0
   ·simp only [h, if_true] <;> omega
   ·simp only [h, if_false] <;> omega
 ·cases hi with
  | none => simp [sliceBounds, HT.sIx]
  | some i =>
   simp only [sliceBounds, HT.sIx, Option.getD_none, show (1 : Int) > 0 by decide, if_true]
   by_cases h : i < 0
   ·simp only [h, if_true] <;> omega
   ·simp only [h, if_false] <;> omega
theorem ahA (its : List Value) (lo hi : Option Int) : slicePick its.toArray lo hi none = ((its.drop (HT.sIx its.length 0 lo)).take (HT.sIx its.length its.length hi - HT.sIx its.length 0 lo)).toArray := by
 obtain ⟨h1, h2, h3⟩ := aiv lo hi its.toArray.size
 unfold slicePick
 rw [h1, h2, h3]
 simp only [sliceRange_one, pick_run, List.size_toArray] <;> rfl
noncomputable def awP (K : PySem.W.Frag) : V -> Option Int -> Option Int -> Hp -> VK -> Prop := fun x lo hi H Q => ∃ a xs, x = .ref a /\ SqL K H a xs /\ ∀ p, H p = none -> Q (.ref p) (upd H p (.lst (aoJ xs lo hi)))
theorem apF : SlR X (awP X.K) := by
 intro pins s σ H x v vl vu lo hi sl Q I rx hs pl pu h
 obtain ⟨a, xs, rfl, hx, q⟩ := h
 cases rx
 obtain ⟨its, r, ht, hz⟩ := I.list hx
 have hlen := r.length
 refine ⟨"list", _, slot_list_getitem.lookup, ht.isList.typeIs, ?_⟩
 refine wpAny_getItem_list_slice ht.isList hs pl pu .none (by simp) ?_ (by rw [List.size_toArray] <;> omega)
 rw [ahA, <-hlen]
 refine ⟨.ref s.heap.objs.size, _, I.laid (t' := s.toks) (o := .lst (aoJ xs lo hi)) (fun b ob q => Heap.get?_push_of_some _ q) (Nat.le_refl _) ?_, rfl, q _ (I.hok.fresh (Nat.le_refl _))⟩
 exact ⟨Nat.le_trans (agi xs lo hi) hz, _, 0, (r.drop (HT.sIx xs.length 0 lo)).take (HT.sIx xs.length xs.length hi - HT.sIx xs.length 0 lo), Heap.get?_push_size _ rfl⟩
theorem aiw : adD X (.builtin "len") (fun xs H Q => ∃ p ys, xs = [.ref p] /\ (SqL X.K H p ys \/ SqT X.K H p ys) /\ Q (.int ys.length) H) := by
 intro pins s σ H xs us Q I r h
 obtain ⟨p, ys, rfl, hq, q⟩ := h
 obtain ⟨u, rfl, rx⟩ := vals1 r
 cases rx
 have hn := agg
 rcases hq with hq | hq
 ·obtain ⟨its, r', pl, hz⟩ := I.list hq
  have hlen := r'.length
  exact Calls.call_len_list pl.isList (by simp only [List.size_toArray] <;> omega) ⟨.int ys.length, H, I.tok _, ⟨s.toks + 1, by rw [List.size_toArray, hlen]⟩, q⟩
 ·obtain ⟨its, r', pl, hz⟩ := I.tuple hq
  have hlen := r'.length
  exact len_tuple pl (by simp only [List.size_toArray] <;> omega) ⟨.int ys.length, H, I.tok _, ⟨s.toks + 1, by rw [List.size_toArray, hlen]⟩, q⟩
theorem aix : adD X (.builtin "len") (fun xs H Q => ∃ z, xs = [.str z] /\ z.length <= sizeLine /\ Q (.int z.length) H) := by
 intro pins s σ H xs us Q I r h
 obtain ⟨z, rfl, hz, q⟩ := h
 obtain ⟨u, rfl, t, rfl⟩ := vals1 r
 have hn := agg
 exact len_str (by omega) ⟨.int z.length, H, I.tok _, ⟨_, rfl⟩, q⟩
theorem adD.or {f : Value} {r r' : List V -> Hp -> VK -> Prop} (h : adD X f r) (h' : adD X f r') : adD X f (fun xs H Q => r xs H Q \/ r' xs H Q) := by
 intro pins s σ H xs us Q I rs q
 rcases q with q | q
 ·exact h pins s σ H xs us Q I rs q
 ·exact h' pins s σ H xs us Q I rs q
theorem ad2 : adD X (.type "list") (fun xs H Q => ∃ p ys, xs = [.ref p] /\ (SqL X.K H p ys \/ SqT X.K H p ys) /\ ∀ l, H l = none -> Q (.ref l) (upd H l (.lst ys))) := by
 intro pins s σ H xs us Q I r h
 obtain ⟨p, ys, rfl, hq, q⟩ := h
 obtain ⟨u, rfl, rx⟩ := vals1 r
 cases rx
 have fin : ∀ (its : List Value), Vals ys its -> ys.length <= sizeLine -> ∀ (h' : Heap) (c' : Nat), (∀ b o', s.heap.get? b = some o' -> h'.get? b = some o') ->
   h'.get? s.heap.objs.size = some { cls := .type "list", dict := none, data := .seq its.toArray c', slots := #[] } -> EP X pins σ Q (.ref s.heap.objs.size) { s with heap := h' } := fun its r' hz h' c' kp e =>
  ⟨.ref s.heap.objs.size, _, I.laid (t' := s.toks) kp (Nat.le_refl _) (show afk X.prog X.w _ h' _ (.lst ys) from ⟨hz, its, c', r', e⟩), rfl, q _ (I.hok.fresh (Nat.le_refl _))⟩
 rcases hq with hq | hq
 ·obtain ⟨its, r', pl, hz⟩ := I.list hq
  have hlen := r'.length
  obtain ⟨o, ho, hc, n, hd⟩ := pl.isList
  exact call_list_seq p (.inl rfl) ho hc hd (fun h' c' kp e => fin its r' hz h' c' kp e) (by simp only [List.size_toArray] <;> omega)
 ·obtain ⟨its, r', pl, hz⟩ := I.tuple hq
  have hlen := r'.length
  obtain ⟨o, ho, hc, n, hd⟩ := pl
  exact call_list_seq p (.inr rfl) ho hc hd (fun h' c' kp e => fin its r' hz h' c' kp e) (by simp only [List.size_toArray] <;> omega)
noncomputable def tyV (K : PySem.W.Frag) (T : String) (x : V) (H : Hp) : Prop := match x with
 | .str _ => T = "str"
 | .int _ => T = "int"
 | .ref p => (T = "list" ∧ ∃ xs, SqL K H p xs) ∨ (T = "tuple" ∧ ∃ o, K.lookup p = some o ∧ o.cls = .type "tuple" ∧ o.dict = none) ∨
   (T = "dict" ∧ ((∃ kvs, H p = some (.dK kvs)) ∨ ∃ kvs, H p = some (.dT kvs))) ∨ (T = "set" ∧ ∃ S n, H p = some (.set S n))
 | _ => False
theorem aoK {pins : List (Addr × Obj)} {σ : St} {H : Hp} {s : Shared} {T : String} {x : V} {v : Value} (I : Inv X pins σ H s) (r : RelV x v) (ty : tyV X.K T x H) :
  s.TypeIs v T /\ ∀ a, v = .ref a -> ∃ ob, s.heap.get? a = some ob /\ ob.dict = none := by
 cases x with
 | str z =>
  obtain ⟨t, rfl⟩ := r
  cases (show T = "str" from ty)
  exact ⟨typeIs_str s z t, fun _ e => nomatch e⟩
 | int i =>
  obtain ⟨t, rfl⟩ := r
  cases (show T = "int" from ty)
  exact ⟨typeIs_int s i t, fun _ e => nomatch e⟩
 | ref p =>
  cases r
  rcases ty with ⟨rfl, xs, hq⟩ | ⟨rfl, o, hk, hc, hd⟩ | ⟨rfl, hk⟩ | ⟨rfl, S, n, hk⟩
  ·obtain ⟨its, _, pl, _⟩ := I.list hq
   refine ⟨pl.isList.typeIs, fun a e => ?_⟩
   cases e
   obtain ⟨o, n, e, c, hd, _⟩ := pl
   exact ⟨o, e, hd⟩
  ·refine ⟨⟨o, I.kIn p o hk, hc⟩, fun a e => ?_⟩
   cases e
   exact ⟨o, I.kIn _ o hk, hd⟩
  ·have z : ∃ o, s.heap.get? p = some o /\ o.ExactDict := by
    rcases hk with ⟨kvs, hk⟩ | ⟨kvs, hk⟩
    ·obtain ⟨_, _, _, _, o, _, _, e, ex, _⟩ := I.hok p _ hk
     exact ⟨o, e, ex⟩
    ·obtain ⟨_, _, _, _, o, _, _, e, ex, _⟩ := I.hok p _ hk
     exact ⟨o, e, ex⟩
   obtain ⟨o, e, ex⟩ := z
   refine ⟨⟨o, e, ex.1⟩, fun a e2 => ?_⟩
   cases e2
   exact ⟨o, e, ex.2.1⟩
  ·obtain ⟨o, _, _, _, e, ex, _⟩ := I.hok p _ hk
   refine ⟨⟨o, e, ex.1⟩, fun a e2 => ?_⟩
   cases e2
   exact ⟨o, e, ex.2.1⟩
 | _ => exact False.elim ty
noncomputable def auU (K : PySem.W.Frag) (T : String) (r : V -> List V -> Hp -> VK -> Prop) (to : TE) : TE := fun σ H Q => to σ H fun x H1 => tyV K T x H1 /\ r x [] H1 Q
noncomputable def tBM (K : PySem.W.Frag) (T : String) (r : V -> List V -> Hp -> VK -> Prop) (to : TE) (t : TA) : TE := fun σ H Q => to σ H fun x H1 => tyV K T x H1 /\ t σ H1 fun xs H2 => r x xs H2 Q
variable {o e : Expr} {es : List Expr} {to : TE} {t : TA} {name : Str} {apos cpos : Pos} {T id : String} {r : V -> List V -> Hp -> VK -> Prop}
theorem arM (pa : PlainAttrs T) (slot : Slot T name id) (hty : typeOf (.builtin id) = pure (.type "method_descriptor")) (hm : MtR X id r) (ho : PE X o to)
  (hbase : attributeBase o name X.env (eval o X.env) = eval o X.env := by rfl) (hline : (apos.endLine == cpos.line) = true := by rfl) : PE X (.Call (.Attribute o name apos) [] [] cpos) (auU X.K T r to) := by
 intro pins s σ H Q I h
 refine wpAny_Call_method0_late hbase hline (thn (ho pins s σ H _ I h) fun v s1 ⟨x, H1, I1, r1, ty, q1⟩ => ?_)
 obtain ⟨h1, h2⟩ := aoK I1 r1 ty
 exact ⟨T, id, pa, slot, hty, h1, h2, Calls.callWith_builtin rfl (PySem.evalArgs_none (hm pins s1 σ H1 x [] v [] Q I1 r1 .nil q1))⟩
theorem alI (pa : PlainAttrs T) (slot : Slot T name id) (hty : typeOf (.builtin id) = pure (.type "method_descriptor")) (hm : MtR X id r) (ho : PE X o to) (ha : PA X (e :: es) t)
  (hbase : attributeBase o name X.env (eval o X.env) = eval o X.env := by rfl)
  (hfew : ((backTo cpos (starEach (e :: es) X.env)).all (fun x => !x.1) && (backToKw cpos (keywordEach [] X.env)).all (fun x => x.1.isSome)
   && decide ((e :: es).length + ([] : List Keyword).length + (if ([] : List Keyword).isEmpty then 0 else 1) < 30)) = true := by rfl)
  (hline : (apos.endLine == cpos.line) = true := by rfl) (hs : starEach (e :: es) X.env = (false, eval e X.env) :: starEach es X.env := by rfl) (hplain : (backTo cpos (starEach es X.env)).any (·.1) = false := by rfl) :
  PE X (.Call (.Attribute o name apos) (e :: es) [] cpos) (tBM X.K T r to t) := by
 intro pins s σ H Q I h
 refine wpAny_Call_method_late hbase hfew hline rfl (thn (ho pins s σ H _ I h) fun v s1 ⟨x, H1, I1, r1, ty, q1⟩ => ?_)
 obtain ⟨h1, h2⟩ := aoK I1 r1 ty
 refine ⟨T, id, pa, slot, hty, h1, h2, ?_⟩
 have hA := ha cpos pins s1 σ H1 _ I1 q1
 rw [hs] at hA ⊢
 refine Calls.callWith_builtin (by show (false || (backTo cpos (starEach es X.env)).any (·.1)) = false; rw [hplain] <;> rfl) (Calls.evalArgs_plain ?_)
 exact thn hA fun us s2 ⟨vs, H2, I2, r2, q2⟩ => hm pins s2 σ H2 x vs v us Q I2 r1 r2 q2
end
end L2
namespace L2
open PySem PySem.Spec PyProof.Rows
noncomputable def MtM (X : Cx) (id : String) (r : V -> List V -> Hp -> VK -> Prop) : Prop :=
 ∀ (pins : List (Addr × Obj)) (s : Shared) (σ : St) (H : Hp) (x : V) (xs : List V) (v : Value) (us : List Value) (Q : VK), Inv X pins σ H s -> RelV x v -> Vals xs us -> r x xs H Q ->
  wpAny (model X.prog X.w) X.A (call (.builtin id) (v :: us)) (EP X pins σ Q) X.xe s
theorem Vals.one : ∀ {x : V} {us : List Value}, Vals [x] us -> ∃ u, us = [u] /\ RelV x u
 | _, _, .cons r .nil => ⟨_, rfl, r⟩
theorem Vals.zero : ∀ {us : List Value}, Vals [] us -> us = []
 | _, .nil => rfl
theorem Vals.rep {xs : List V} {us : List Value} (h : Vals xs us) : ∀ k : Nat, Vals (List.replicate k xs).flatten (List.replicate k us).flatten
 | 0 => .nil
 | k + 1 => by
  rw [List.replicate_succ, List.replicate_succ, List.flatten_cons, List.flatten_cons]
  exact Vals.append h (Vals.rep h k)
theorem foldl_rep (its : List Value) : ∀ (k : Nat) (acc : List Value),
  List.foldl (fun x1 x2 => x1 ++ x2) acc.toArray (List.replicate k its.toArray) = (acc ++ (List.replicate k its).flatten).toArray
 | 0, acc => by simp
 | k + 1, acc => by
  have e : acc.toArray ++ its.toArray = (acc ++ its).toArray := by simp
  have e2 : (acc ++ its) ++ (List.replicate k its).flatten = acc ++ (List.replicate (k + 1) its).flatten := by
   rw [List.replicate_succ, List.flatten_cons, List.append_assoc]
  rw [<-e2, <-foldl_rep its k (acc ++ its), <-e, List.replicate_succ, List.foldl_cons]
section
variable {X : Cx} {pins : List (Addr × Obj)} {σ : St} {H : Hp} {s : Shared} {l b : Addr} {xs ys zs : List V}
theorem Inv.auV {its its' : List Value} {n : Nat} {f : Array Value -> Array Value} {t' : Nat} (I : Inv X pins σ H s) (hH : H l = some (.lst xs))
  (e : s.heap.get? l = some { cls := .type "list", data := .seq its.toArray n }) (hf : f its.toArray = its'.toArray) (hv : Vals ys its') (hz : ys.length <= sizeLine) :
  Inv X pins σ (upd H l (.lst ys)) { s with heap := s.heap.update l (Obj.mapSeq f), toks := t' } := by
 have q := PySem.IsL.update e f
 rw [hf] at q
 refine I.write (x := l) (e := l) (by rw [hH]; exact trivial) (.inl rfl) (fun b' u hb hu => (Heap.get?_update_other s.heap (Obj.mapSeq f) (Ne.symm hb)).trans hu) ⟨_, q⟩ ?_
 exact ⟨hz, its', _, hv, q⟩
theorem Inv.aus {its : List Value} {t' : Nat} (I : Inv X pins σ H s) (hv : Vals ys its) (hz : ys.length <= sizeLine) :
  Inv X pins σ (upd H s.heap.objs.size (.lst ys)) { s with heap := s.heap.push { cls := .type "list", data := .seq its.toArray }, toks := t' } :=
 I.laid (fun _ _ q => Heap.get?_push_of_some _ q) (Nat.le_refl _) ⟨hz, its, 0, hv, Heap.get?_push_size _ rfl⟩
theorem Inv.fresh (I : Inv X pins σ H s) : H s.heap.objs.size = none := I.hok.fresh (Nat.le_refl _)
theorem Inv.auW (I : Inv X pins σ H s) (hH : H l = some (.lst xs)) : xs.length <= sizeLine /\ ∃ (its : List Value) (n : Nat), Vals xs its /\ xs.length = its.length /\ s.heap.get? l = some { cls := .type "list", data := .seq its.toArray n } := by
 obtain ⟨z, its, n, r, e⟩ := I.hok l _ hH
 exact ⟨z, its, n, r, r.length, e⟩
theorem ant {n : Nat} (h : n <= sizeLine) : Builtin.List.listTooLong n = false := by
 unfold Builtin.List.listTooLong
 exact decide_eq_false (by omega)
end
section
variable {X : Cx}
noncomputable def aja : V -> List V -> Hp -> VK -> Prop := fun x vs H Q => ∃ l xs y, x = .ref l /\ vs = [y] /\ H l = some (.lst xs) /\ xs.length < sizeLine /\ Q .non (upd H l (.lst (xs ++ [y])))
theorem adx : MtM X "list.append" aja := by
 intro pins s σ H x vs v us Q I rx rv h
 obtain ⟨l, xs, y, rfl, rfl, hH, hz, q⟩ := h
 cases rx
 obtain ⟨u, rfl, ru⟩ := rv.one
 obtain ⟨z, its, n, r, hl, e⟩ := I.auW hH
 refine call_meets F.slot_list_append ⟨_, e, rfl⟩ F.entry_list_append (F.args_list_append_2 _ _) (PySem.list_append l its.toArray n u (by rw [List.size_toArray]; omega)) ⟨e, ?_⟩
 refine ⟨.non, _, I.auV (its' := its ++ [u]) hH e (by simp) (r.append (.cons ru .nil)) ?_, rfl, q⟩
 rw [List.length_append, List.length_singleton]
 omega
noncomputable def alJ : V -> List V -> Hp -> VK -> Prop := fun x vs H Q => ∃ l xs, x = .ref l /\ vs = [] /\ H l = some (.lst xs) /\ Q .non (upd H l (.lst []))
theorem anu : MtM X "list.clear" alJ := by
 intro pins s σ H x vs v us Q I rx rv h
 obtain ⟨l, xs, rfl, rfl, hH, q⟩ := h
 cases rx
 have hus := rv.zero
 subst hus
 obtain ⟨z, its, n, r, hl, e⟩ := I.auW hH
 refine call_meets F.slot_list_clear ⟨_, e, rfl⟩ F.entry_list_clear (F.args_list_clear_1 _) (AutoSeq1.list_clear_list_0 l its.toArray n (by rw [List.size_toArray]; omega)) ⟨e, ?_⟩
 exact ⟨.non, _, I.auV (its' := []) (ys := []) hH e rfl .nil (Nat.zero_le _), rfl, q⟩
theorem len_rep {α : Type} (xs : List α) (k : Nat) : (List.replicate k xs).flatten.length = k * xs.length := by
 induction k with
 | zero => simp
 | succ k ih => rw [List.replicate_succ, List.flatten_cons, List.length_append, ih, Nat.succ_mul, Nat.add_comm]
end
section
variable {prog : Program} {w : World} {A : Around} {E : Value -> Shared -> Prop} {s : Shared}
end
section
variable {X : Cx}
end
end L2
namespace Att
open PySem PySem.W PySem.Calls PyProof.Rows
theorem agj {P : Params} {h : Heap} : ∀ (ns : List Int) (vs : List Value), WellAll P h vs (ns.map WData.int) -> IntsAre vs ns := by
 intro ns
 induction ns with
 | nil =>
  intro vs w
  rw [List.map_nil] at w
  cases w
  exact .nil
 | cons n ns ih =>
  intro vs w
  rw [List.map_cons] at w
  cases w with
  | cons a b =>
   cases a
   exact .cons _ _ (ih _ b)
theorem alK {l : OpenLaw} {n : Nat} (hn : l.most = some n) {P : Params} {h : Heap} {args : List WData} {vals : List Value}
  (hpre : l.row.toRowW.claim.pre args = true) (hwl : WellAll P h vals args) :
  ∃ a vs ns, vals = [Value.ref a] /\ args = [WData.list (ns.map WData.int)] /\ h.get? a = some { cls := .type "list", data := .seq vs.toArray } /\ IntsAre vs ns /\ ns.length <= n := by
 have hsh : WShape.hasAll [] args [.list .int] = true := (pre_splitW hpre).1
 have hc : l.pre.holds [] { args := args } = true := (pre_splitW hpre).2
 obtain ⟨d, r, rfl, h1, h2⟩ := hasAllW_cons hsh
 obtain rfl := hasAllW_nil h2
 obtain ⟨xs, rfl, h3⟩ := hasW_list h1
 obtain ⟨ns, rfl⟩ := items_int h3
 have hlen : ns.length <= n := by
  unfold OpenLaw.pre at hc
  have h4 : (WTm.not (.lt (.lit (.int (n : Int))) (.len (.arg 0)))).holds [] { args := [.list (ns.map .int)] } = true := by
   have h4 := (holds_andW hc).1
   rw [hn] at h4
   exact h4
  have h5 := condW_of h4 (w_not (w_lt w_lit (w_len_list (w_arg rfl))))
  rw [List.length_map] at h5
  refine Nat.le_of_not_lt fun q => ?_
  have q' : (n : Int) < ((ns.length : Nat) : Int) := by omega
  first
   | (rw [decide_eq_true q'] at h5; exact absurd h5 (by decide))
   | (simp at h5; omega)
 cases hwl with
 | cons w1 w2 =>
  cases w2
  cases w1 with
  | list ho hall => exact ⟨_, _, ns, rfl, rfl, ho, agj ns _ hall, hlen⟩
theorem alL (l : OpenLaw) (args : List WData) : l.row.toRowW.claim.post args (.bool true) args = true :=
 postW_of (r := l.row.toRowW) (X := (true == true))
  (show WShape.has [] (.bool true) .bool = true by first | rfl | decide | simp [WShape.has, WShape.arms, WShape.armsAll])
  (show (WTm.eq .res (.lit (.bool true))).value [] { args := args, res := some (.bool true), after := args } = some (.bool (true == true)) from w_eq_bool (w_res rfl) w_lit) rfl
theorem ajb {l : OpenLaw} {n : Nat} {q : Program} {loose : List Str} {XP : (Str -> Option Value) -> Heap -> Prop} {YP : World -> Heap -> Prop} {d : DefRec}
  (hn : l.most = some n) (hdf : d.params.defaults = [])
  (call : ∀ (w : World) (s₀ s₁ : Shared) (mg mb : Str -> Option Value) (fa : Addr) (o : Obj) (pm cd doc : Value) (a : Addr) (vs : List Value) (ns : List Int),
   Ground q loose [] XP w s₀ mg mb s₁.heap -> YP w s₁.heap ->
   s₁.heap.get? fa = some o -> o.data = .func (docDef d.name d.params d.body d.scope pm cd doc) -> s₁.heap.CodeRec cd d.name -> mg d.name = some (.ref fa) ->
   s₁.heap.get? a = some { cls := .type "list", data := .seq vs.toArray } -> IntsAre vs ns -> ns.length <= n -> s₁.gens = #[] ->
   codeAny (model l.prog w) callerA (.call (.ref fa) ⟨[.ref a], []⟩) (fun r s' => r = .ok (.ret (.bool true)) /\ OldK s₁.heap s'.heap /\ s'.os = s₁.os /\ AllBare s'.gens) s₁) :
  WalkO q loose XP YP l.row.toRowW d [] (fun f vs => PySem.call f vs) := by
 intro w s₀ s₁ mg mb G Y fa o pm cd doc dV kV ho hd hcd hD hmg hg args vals as hpre hlay hrd hwl hlo
 obtain rfl : dV = .none := Dflts.none hD hdf
 obtain rfl : kV = .none := Dflts.noKw hD
 obtain ⟨a, vs, ns, rfl, rfl, hobj, hints, hlen⟩ := alK hn hpre hwl
 refine enter_call (codeAny_mono (call w s₀ s₁ mg mb fa o pm cd doc a vs ns G Y ho (fd_plain hd) hcd hmg hobj hints hlen hg) fun r s' hq => ?_)
 obtain ⟨rfl, h2, h3, h4⟩ := hq
 exact ⟨.inl ⟨.bool true, .bool true, [], rfl, fun _ => rfl, .bool true, alL l _, fun _ => ⟨List.Pairwise.nil, fun _ hm => (nomatch hm)⟩⟩, h2, h3, h4⟩
section
variable {prog : Program} {w : World} {A : Around} {E : Value -> Shared -> Prop} {s : Shared} {K : Frag}
end
end Att
namespace L2
open PySem PySem.Spec PyProof.Rows
theorem aiy : ∀ {vs : List Value} {ns : List Int}, IntsAre vs ns -> Vals (ns.map V.int) vs
 | _, _, .nil => .nil
 | _, _, .cons n t h => .cons ⟨t, rfl⟩ (aiy h)
end L2
namespace L2
open PySem PySem.Spec PyProof.Rows
end L2
namespace L2
open PySem PySem.Spec PyProof.Rows
noncomputable def acZ (s : Stmt) : Arguments := match s with
 | .FunctionDef _ a _ _ _ _ _ _ _ _ => a
 | _ => { posonlyargs := [], args := [], vararg := none, kwonlyargs := [], kw_defaults := [], kwarg := none, defaults := [] }
noncomputable def abY (s : Stmt) : List Stmt := match s with
 | .FunctionDef _ _ b _ _ _ _ _ _ _ => b
 | _ => []
noncomputable def aan (s : Stmt) : Scope := match s with
 | .FunctionDef _ _ _ _ _ _ sc _ _ _ => sc
 | _ => { kind := .function, names := [], isGenerator := false, isCoroutine := false }
noncomputable abbrev E0 : XK := fun _ _ _ => False
structure Fun (K : PySem.W.Frag) (x qual : Str) (st : Stmt) (f : Addr) (fd : FuncData) : Prop where
 ex : ∃ (oc : Value) (od : Option Addr) (kV doc pm : Value) (an : Option Addr) (cdv ct : Value) (osl : Array (Option Value)),
  fd = PySem.W.fnOf x qual (acZ st) (abY st) (aan st) .none kV doc pm an cdv ct /\ K.lookup f = some ⟨oc, od, .func fd, osl⟩ /\ PySem.W.codeIn K cdv qual = true
 kp : PySem.W.keepIn K (.ref f) = true
section
variable {P : Program} {w : World} {K : PySem.W.Frag} {mg : Str -> Option Value} {base : Heap}
theorem Fun.binds {x qual : Str} {st : Stmt} {f : Addr} {fd : FuncData} {ps : List Str} (F : Fun K x qual st f fd)
  (h : ∀ (kV doc pm : Value) (an : Option Addr) (cdv ct : Value) (us : List Value), us.length = ps.length -> bindArgs (PySem.W.fnOf x qual (acZ st) (abY st) (aan st) .none kV doc pm an cdv ct) ⟨us, []⟩ = pure (ps.zip us)) : Binds K fd ps [] := by
 obtain ⟨oc, od, kV, doc, pm, an, cdv, ct, osl, rfl, lk, hcd⟩ := F.ex
 exact .all (h kV doc pm an cdv ct)
theorem aoL {x qual : Str} {st : Stmt} {f : Addr} {oc : Value} {od an : Option Addr} {osl : Array (Option Value)} {kV doc pm cdv ct : Value} (l : K.lookup f = some ⟨oc, od, .func (PySem.W.fnOf x qual (acZ st) (abY st) (aan st) .none kV doc pm an cdv ct), osl⟩)
  (c : PySem.W.codeIn K cdv qual = true) (k : PySem.W.keepIn K (.ref f) = true) : Fun K x qual st f (PySem.W.fnOf x qual (acZ st) (abY st) (aan st) .none kV doc pm an cdv ct) := ⟨⟨oc, od, kV, doc, pm, an, cdv, ct, osl, rfl, l, c⟩, k⟩
end
theorem agk {n : Nat} (h : n <= 1000) : n < sizeLine := Nat.lt_of_le_of_lt h (by decide)
section
variable {X : Cx}
end
noncomputable def Same (H H' : Hp) : Prop := ∀ b o, H b = some o -> H' b = some o
theorem Same.refl (H : Hp) : Same H H := fun _ _ h => h
theorem Same.trans {H H1 H2 : Hp} (a : Same H H1) (b : Same H1 H2) : Same H H2 := fun c o h => b c o (a c o h)
theorem Same.free {H H' : Hp} (e : Same H H') {l : Addr} (h : H' l = Option.none) : H l = Option.none := by
 cases q : H l with
 | none => rfl
 | some o =>
  rw [e l o q] at h
  cases h
theorem Same.seq {K : PySem.W.Frag} {H H' : Hp} {a : Addr} {xs : List V} (e : Same H H') (h : SqL K H a xs) : SqL K H' a xs := by
 rcases h with (h | ⟨o, h⟩) | h
 ·exact .inl (.inl (e _ _ h))
 ·exact .inl (.inr ⟨o, e _ _ h⟩)
 ·exact .inr h
end L2
end
section
namespace L2
open PySem PySem.Spec PyProof.Rows
section
variable {prog : Program} {w : World} {A : Around} {R : Result -> Shared -> Prop} {s : Shared}
theorem ajc {elt target iter : Expr} {scope : Scope} {pos : Pos} {it acc : Value} {env : Env} (I : Nat -> Shared -> Prop)
  (turn : ∀ n s, I n s -> wpAny (model prog w) A (pyNext it) (fun r s₁ => match r with
   | none => R (.ok .next) s₁
   | some v => wpAny (model prog w) A (letOwnedTupleGo target it v) (fun _ s₁' => wpAny (model prog w) A (assign target env v) (fun _ s₂ => wpAny (model prog w) A (eval elt env) (fun x s₃ =>
     wpAny (model prog w) A (call (.builtin "list.append") [acc, x]) (fun _ s₄ => ∃ m, m < n /\ I m s₄) (fun _ _ => False) s₃) (fun _ _ => False) s₂) (fun _ _ => False) s₁') (fun _ _ => False) s₁) (fun _ _ => False) s)
  (n : Nat) (h : I n s) :
  codeAny (model prog w) A (.compLoop (.ListComp elt [⟨target, iter, [], 0⟩] scope pos) 0 it acc env) R s := by
 refine codeAny_loop rfl I (fun n s hI => ?_) n h
 show wpAny _ _ ((compTurn (.ListComp elt [⟨target, iter, [], 0⟩] scope pos) 0 it acc env).onRaise (fun x => do noteFrame x env; theTreesLotGoes x)) _ _ s
 refine wpAny_noted (wpAny_noRaise ?_)
 rw [compTurn_list1]
 refine wpAny_bind (wpAny_standAt (wpAny_bind (wpAny_mono (turn n s hI) (fun r s₁ h₁ => ?_) fun _ _ h' => h')))
 cases r with
 | none => exact wpAny_pure h₁
 | some v =>
  refine wpAny_bind (wpAny_mono h₁ (fun _ s₁' h₁' => ?_) fun _ _ h' => h')
  exact wpAny_bind (wpAny_mono h₁' (fun _ s₂ h₂ => wpAny_bind (wpAny_bind (wpAny_mono h₂ (fun x s₃ h₃ => wpAny_bind (wpAny_mono h₃
   (fun _ s₄ h₄ => wpAny_pure (wpAny_pure ⟨rfl, h₄⟩)) fun _ _ h' => h')) fun _ _ h' => h'))) fun _ _ h' => h')
end
noncomputable def aax (cells : List (Str × Addr)) : List (Str × NameKind) -> List (Str × Addr) -> List (Str × Addr)
 | [], acc => acc
 | (n, k) :: r, acc => if k = .free then (match cells.lookup n with | some a => aax cells r ((n, a) :: acc) | none => aax cells r acc) else aax cells r acc
theorem abx {cells : List (Str × Addr)} {x : Str} {c : Addr} : ∀ {names : List (Str × NameKind)} {acc : List (Str × Addr)}, (aax cells names acc).lookup x = some c -> acc.lookup x = some c \/ cells.lookup x = some c
 | [], acc, h => .inl h
 | (n, k) :: r, acc, h => by
  unfold aax at h
  split at h
  ·split at h
   ·rename_i a ha
    rcases abx h with q | q
    ·by_cases e : x = n
     ·subst e
      rw [List.lookup_cons, beq_self_eq_true] at q
      cases q
      exact .inr ha
     ·rw [List.lookup_cons, beq_false_of_ne e] at q
      exact .inl q
    ·exact .inr q
   ·exact abx h
  ·exact abx h
theorem abC {cells : List (Str × Addr)} {x : Str} : ∀ {names : List (Str × NameKind)} {acc : List (Str × Addr)}, ((acc.lookup x).isSome = true \/ ((x, NameKind.free) ∈ names /\ (cells.lookup x).isSome = true)) -> ((aax cells names acc).lookup x).isSome = true
 | [], acc, h => by
  rcases h with h | ⟨h, _⟩
  ·exact h
  ·cases h
 | (n, k) :: r, acc, h => by
  have up : ∀ a, (acc.lookup x).isSome = true -> (List.lookup x ((n, a) :: acc)).isSome = true := fun a q => by
   rw [List.lookup_cons]
   split
   ·rfl
   ·exact q
  unfold aax
  split
  ·rename_i hk
   split
   ·rename_i a ha
    refine abC ?_
    rcases h with h | ⟨h, hc⟩
    ·exact .inl (up a h)
    ·rcases List.mem_cons.mp h with e | e
     ·cases e
      refine .inl ?_
      rw [List.lookup_cons, beq_self_eq_true]
      rfl
     ·exact .inr ⟨e, hc⟩
   ·rename_i hn
    refine abC ?_
    rcases h with h | ⟨h, hc⟩
    ·exact .inl h
    ·rcases List.mem_cons.mp h with e | e
     ·cases e
      rw [hn] at hc; cases hc
     ·exact .inr ⟨e, hc⟩
  ·rename_i hk
   refine abC ?_
   rcases h with h | ⟨h, hc⟩
   ·exact .inl h
   ·rcases List.mem_cons.mp h with e | e
    ·cases e; exact absurd rfl hk
    ·exact .inr ⟨e, hc⟩
theorem afn {scope : Scope} {env : Env} (h : ∀ y ∈ scope.names, y.2 = .free -> (env.cells.lookup y.1).isSome = true) : closureFor scope env = pure (aax env.cells scope.names []) := by
 unfold closureFor
 suffices q : ∀ (names : List (Str × NameKind)) (acc : List (Str × Addr)), (∀ y ∈ names, y.2 = .free -> (env.cells.lookup y.1).isSome = true) ->
   (forIn names acc fun x r => do
    match x with
    | (name, kind) => if (kind == NameKind.free) = true then do let a <-cellOf env name; pure (ForInStep.yield ((name, a) :: r)) else pure (ForInStep.yield r) : Sem _) = pure (aax env.cells names acc) by
  have z := q scope.names [] h
  exact (congrArg (fun m => m >>= fun cs => pure cs) z)
 intro names
 induction names with
 | nil => intro acc _; rfl
 | cons y r ih =>
  intro acc hy
  obtain ⟨n, k⟩ := y
  rw [List.forIn_cons]
  unfold aax
  by_cases hk : k = .free
  ·subst hk
   rw [if_pos rfl]
   have q := hy (n, .free) List.mem_cons_self rfl
   cases e : env.cells.lookup n with
   | none => rw [e] at q; cases q
   | some a =>
    have ec : cellOf env n = pure a := by unfold cellOf; rw [e]
    simp only [ec]
    exact ih _ fun z hz => hy z (List.mem_cons_of_mem _ hz)
  ·rw [if_neg hk]
   have hb : (k == NameKind.free) = false := by simpa using hk
   simp only [hb]
   exact ih _ fun z hz => hy z (List.mem_cons_of_mem _ hz)
noncomputable def anv (scope sc : Scope) : Scope :=
 { scope with names := scope.names.map fun (n, k) => if (k == .free && sc.kind == .function && sc.names.lookup n == some .cell) then (n, .cell) else (n, k) }
theorem ac0 {env : Env} : ∀ {names : List (Str × NameKind)} {x : Str}, names.lookup x = some .free ->
  (names.map fun (n, k) => if (k == NameKind.free && env.scope.kind == .function && env.kindOf n == some .cell) then (n, NameKind.cell) else (n, k)).lookup x = some .cell \/
  (names.map fun (n, k) => if (k == NameKind.free && env.scope.kind == .function && env.kindOf n == some .cell) then (n, NameKind.cell) else (n, k)).lookup x = some .free
 | [], _, h => by simp at h
 | (n, k) :: r, x, h => by
  have ih := @ac0 env r x
  rw [List.map_cons]
  dsimp only
  cases hx : x == n with
  | true =>
   simp only [List.lookup_cons, hx] at h
   cases h
   by_cases hc : (NameKind.free == NameKind.free && env.scope.kind == .function && env.kindOf n == some .cell) = true
   ·rw [if_pos hc]; simp [List.lookup_cons, hx]
   ·rw [if_neg hc]; simp [List.lookup_cons, hx]
  | false =>
   simp only [List.lookup_cons, hx] at h
   by_cases hc : (k == NameKind.free && env.scope.kind == .function && env.kindOf n == some .cell) = true
   ·rw [if_pos hc]; simp only [List.lookup_cons, hx]; exact ih h
   ·rw [if_neg hc]; simp only [List.lookup_cons, hx]; exact ih h
theorem afF {env : Env} : ∀ {names : List (Str × NameKind)} {x : Str},
  ((names.map fun (n, k) => if (k == NameKind.free && env.scope.kind == .function && env.kindOf n == some .cell) then (n, NameKind.cell) else (n, k)).lookup x = some .cell \/
  (names.map fun (n, k) => if (k == NameKind.free && env.scope.kind == .function && env.kindOf n == some .cell) then (n, NameKind.cell) else (n, k)).lookup x = some .free) -> names.lookup x = some .cell \/ names.lookup x = some .free
 | [], _, h => by simp at h
 | (n, k) :: r, x, h => by
  have ih := @afF env r x
  rw [List.map_cons] at h
  dsimp only at h
  cases hx : x == n with
  | true =>
   by_cases hcc : (k == NameKind.free && env.scope.kind == .function && env.kindOf n == some .cell) = true
   ·have hk : k = .free := by
     simp only [Bool.and_eq_true, beq_iff_eq] at hcc
     exact hcc.1.1
    subst hk
    exact .inr (by simp only [List.lookup_cons, hx])
   ·rw [if_neg hcc] at h
    simp only [List.lookup_cons, hx] at h ⊢
    exact h
  | false =>
   have q := ih (by
    by_cases hcc : (k == NameKind.free && env.scope.kind == .function && env.kindOf n == some .cell) = true
    ·rw [if_pos hcc] at h; simp only [List.lookup_cons, hx] at h; exact h
    ·rw [if_neg hcc] at h; simp only [List.lookup_cons, hx] at h; exact h)
   simp only [List.lookup_cons, hx]
   exact q
theorem abp : ∀ (names : List (Str × NameKind)) (n : Nat) (acc : List (Str × Addr)), cellsFrom n names acc = cellsFrom n names [] ++ acc
 | [], _, _ => rfl
 | (x, k) :: r, n, acc => by
  unfold cellsFrom
  split
  ·rw [abp r (n + 1) ((x, n) :: acc), abp r (n + 1) [(x, n)], List.append_assoc]
   rfl
  ·exact abp r n acc
theorem adp : ∀ (names : List (Str × NameKind)) (n : Nat) {x : Str} {c : Addr}, (x, c) ∈ cellsFrom n names [] -> (x, NameKind.cell) ∈ names
 | [], _, _, _, h => by cases h
 | (y, k) :: r, n, x, c, h => by
  unfold cellsFrom at h
  split at h
  ·rename_i hk
   have hk : k = .cell := by simpa using hk
   rw [abp] at h
   rcases List.mem_append.mp h with z | z
   ·exact List.mem_cons_of_mem _ (adp r _ z)
   ·have z := List.mem_singleton.mp z
    cases z
    rw [hk]
    exact List.mem_cons_self
  ·exact List.mem_cons_of_mem _ (adp r _ h)
theorem acU (x : Str) : ∀ (a b : List (Str × Addr)), (a ++ b).lookup x = (match a.lookup x with | some c => some c | none => b.lookup x)
 | [], _ => rfl
 | (y, c) :: r, b => by
  have ih := acU x r b
  rw [List.cons_append, List.lookup_cons, List.lookup_cons]
  cases h : x == y with
  | true => rfl
  | false => exact ih
theorem adW {M : Model} {A : Around} {E : Value -> Shared -> Prop} {s : Shared} {scope : Scope} {globals : Addr} {cl : List (Str × Addr)} {qual : Str} {env : Env} {Q : Env -> Shared -> Prop}
  (hQ : ∀ h', h'.Ns s.heap.objs.size (fun _ => none) -> (∀ b o, s.heap.get? b = some o -> h'.get? b = some o) -> CellsOk h' (s.heap.objs.size + 1) (cellsFrom (s.heap.objs.size + 1) scope.names []) ->
   Q { scope := scope, locals := s.heap.objs.size, globals := globals, cells := cellsFrom (s.heap.objs.size + 1) scope.names cl, qual := qual, func := none, code := env.code, frame := env.frame, builtins := env.builtins } { s with heap := h', toks := s.toks + ([] : List (Str × Value)).length }) :
  wpAny M A (newFunctionEnv scope globals cl [] qual none .none (some env)) Q E s := by
 simp only [newFunctionEnv, Option.isSome_some, if_true]
 refine wpAny_bind (wpAny_alloc ?_)
 refine wpAny_bind (wpAny_layCells _ (fun name kind cells => by cases hkc : kind == NameKind.cell <;> simp [hkc]) _ _ _ _ ?_)
 have ok := cellsFrom_ok scope.names (s.heap.push { cls := .type "dict", data := .dict #[] }) (s.heap.objs.size + 1) [] ⟨fun _ _ hm => (nomatch hm), List.Pairwise.nil⟩ (by rw [Heap.size_push]; exact Nat.le_refl _)
 rw [Heap.size_push] at ok
 rw [show ({ s with heap := s.heap.push { cls := .type "dict", data := .dict #[] } } : Shared).heap.objs.size = s.heap.objs.size + 1 from Heap.size_push ..]
 rw [List.forIn_nil]
 exact wpAny_bind (wpAny_pure (wpAny_pure (hQ _ ((Heap.Ns.new s.heap (.type "dict")).keeps (pushCells_keeps _ _)) (fun b o e => pushCells_keeps _ _ b o (Heap.get?_push_of_some _ e)) ok)))
structure ahd (sc : Scope) (No N : List Str) (src : List (Option Nat)) (scope : Scope) : Prop where
 kind : scope.kind = .function
 cells : ∀ y ∈ scope.names, y.2 = .cell -> scope.names.lookup y.1 = some .cell
 names : ∀ y ∈ scope.names, y.2 = .local -> scope.names.lookup y.1 = some .local
 free : ∀ y ∈ scope.names, y.2 = .free -> sc.names.lookup y.1 = some .cell \/ sc.names.lookup y.1 = some .free
 len : src.length = N.length
 up : ∀ p ∈ N.zip src, ∀ j ∈ p.2, No[j]? = some p.1 /\ scope.names.lookup p.1 = some .free
noncomputable def aeW (src : List (Option Nat)) (σ : St) : St := src.map fun o => o.bind fun j => (σ[j]?).join
noncomputable def abZ (X : Cx) (N : List Str) (scope : Scope) (C : Addr) (s : Shared) (H : Hp) (ex : List Addr) : Cx where
 prog := X.prog
 w := X.w
 K := X.K
 mg := X.mg
 base := X.base
 A := X.A
 N := N
 s₀ := s
 H₀ := H
 env := compEnvC scope (cellsFrom (C + 1) scope.names (aax X.env.cells scope.names [])) C X.env
 outer := X.stack
 stack := X.stack
 ex := ex
 fn := fun x => scope.names.lookup x == some .cell
 calm := X.calm
 pn := []
 xe := fun _ _ => False
noncomputable def QAt (Q : VK) (D : Addr) (H : Hp) : Prop := Q (.ref D) H
noncomputable def alM (wi : TI) (g : TG) (src : List (Option Nat)) (te : TE) : TE := fun σ H Q => wi σ H fun J H1 => ∀ D, H1 D = none ->
 ∃ W : Nat -> Nat -> St -> Hp -> Prop, (∃ m, W 0 m (aeW src σ) (upd H1 D (.lst []))) /\ ∀ i m σ' H', W i m σ' H' ->
  (J.stop i H' /\ QAt Q D H') \/ (J.go i H' /\ ∀ x H'', J.yld i H' x H'' -> g x σ' H'' fun σ2 H2 => te σ2 H2 fun v H3 => ∃ xs, H3 D = some (.lst xs) /\ xs.length < sizeLine /\ ∃ m', m' < m /\ W (i + 1) m' σ2 (upd H3 D (.lst (xs ++ [v]))))
section
variable {X : Cx} {elt tg iter : Expr} {scope sc : Scope} {pos : Pos} {No N : List Str} {src : List (Option Nat)} {wi : TI} {g : TG} {te : TE}
theorem ahe {pins : List (Addr × Obj)} {σ : St} {H : Hp} {s : Shared} {h₁ : Heap} {fp : List Addr} {tk : Nat} (hsc : X.env.scope = sc) (hNo : X.N = No) (S : ahd sc No N src scope) (I : Inv X pins σ H s)
  (hf : ∀ b ∈ fp, aeK X pins H b) (hlt : ∀ b ∈ fp, b < s.heap.objs.size)
  (hns : h₁.Ns s.heap.objs.size (fun _ => none)) (old : ∀ b o, s.heap.get? b = some o -> h₁.get? b = some o) (ck : CellsOk h₁ (s.heap.objs.size + 1) (cellsFrom (s.heap.objs.size + 1) scope.names [])) :
  Inv (abZ X N scope s.heap.objs.size s H fp) [] (aeW src σ) H { s with heap := h₁, toks := tk } := by
 subst hsc
 subst hNo
 have afo : ∀ x c, (cellsFrom (s.heap.objs.size + 1) scope.names (aax X.env.cells scope.names [])).lookup x = some c -> (cellsFrom (s.heap.objs.size + 1) scope.names []).lookup x = some c \/ X.env.cells.lookup x = some c := fun x c h => by
  rw [abp, acU] at h
  split at h
  ·rename_i e
   exact .inl (e.trans h)
  ·rcases abx h with q | q
   ·simp at q
   ·exact .inr q
 have big : ∀ x c, (cellsFrom (s.heap.objs.size + 1) scope.names []).lookup x = some c -> s.heap.objs.size + 1 <= c := fun x c h => (ck.empty x c (PySem.mem_of_lookup h)).2
 have ltc : ∀ x c, X.env.cells.lookup x = some c -> c < s.heap.objs.size := fun x c e => by
  obtain ⟨v, q⟩ := I.cell x c e
  exact q.lt
 have aAk : ∀ b ∈ frs X.stack, b < s.heap.objs.size := fun b hb => by
  obtain ⟨_, o, ho, _⟩ := I.stack.mem hb
  exact Heap.lt_size ho
 refine ⟨⟨I.ok.mod, S.kind, I.ok.glob, I.ok.blt, Nat.le_refl _, fun x y c h1 h2 => ?_, fun x hx => ?_, fun x c hfn h => ?_, I.ok.hd, I.ok.frames, .inl rfl, fun b hb => ⟨Nat.ne_of_lt (hlt b hb), fun x c e => ?_⟩,
   I.bs, Nat.le_trans I.ok.bsz I.sz, fun b o e hb => ?_, fun b hb hb' => ?_, I.stack, I.ahv⟩,
  rfl, I.bare, Un.kept old, ⟨_, hns, fun i x v h1 h2 h3 => ?_⟩, fun x c e => ?_, I.hok.fresh (Nat.le_refl _), fun x c e => ?_, fun p hp => absurd (show p ∈ ([] : List (Addr × Obj)) from hp) (by simp), I.hok.kept old, ?_⟩
 ·rcases afo _ _ h1 with z1 | z1
  ·rcases afo _ _ h2 with z2 | z2
   ·exact name_of_addr ck.apart (PySem.mem_of_lookup z1) (PySem.mem_of_lookup z2)
   ·exact absurd (Nat.le_trans (big _ _ z1) (Nat.le_of_lt (ltc _ _ z2))) (Nat.not_succ_le_self _)
  ·rcases afo _ _ h2 with z2 | z2
   ·exact absurd (Nat.le_trans (big _ _ z2) (Nat.le_of_lt (ltc _ _ z1))) (Nat.not_succ_le_self _)
   ·exact I.ok.inj x y c z1 z2
 ·-- every cell or free name has its cell
  rcases afF hx with m | m
  ·exact Option.isSome_iff_exists.mp (PySem.W.cellsFrom_some _ _ _ (.inl m))
  ·have m := PySem.mem_of_lookup m
   have q := abC (cells := X.env.cells) (acc := []) (.inr ⟨m, by
    obtain ⟨c, e⟩ := I.ok.has x (S.free _ m rfl)
    rw [e]; rfl⟩)
   exact Option.isSome_iff_exists.mp (PySem.W.cellsFrom_some _ _ _ (.inr q))
 ·have hfn : scope.names.lookup x = some .cell := by
   have z : (scope.names.lookup x == some .cell) = true := hfn
   simpa using z
  obtain ⟨c', e'⟩ := Option.isSome_iff_exists.mp (PySem.W.cellsFrom_some _ (s.heap.objs.size + 1) [] (.inl hfn))
  have h : (cellsFrom (s.heap.objs.size + 1) scope.names (aax X.env.cells scope.names [])).lookup x = some c := h
  rw [abp, acU, e'] at h
  cases h
  exact Nat.le_of_succ_le (big _ _ e')
 ·rcases afo _ _ e with z | z
  ·exact fun y => absurd (Nat.le_trans (big _ _ z) (y ▸ Nat.le_of_lt (hlt b hb))) (Nat.not_succ_le_self _)
  ·exact (hf b hb).2.2.2.2.1 x c z
 ·obtain ⟨f0, f1, f2, f3, f4, f5⟩ := hf b hb
  rcases f3 with z | z
  ·exact I.ok.ai6 b o e z
  ·have q := Heap.lt_size (I.ok.bs b o e).1
   exact absurd q (Nat.not_lt.mpr z)
 ·obtain ⟨f0, f1, f2, _⟩ := hf b hb
  rcases List.mem_cons.mp (I.ain b hb') with z | z
  ·exact f1 z
  ·exact f2 z
 ·have hi : i < src.length := by
   unfold aeW at h2
   have := (List.getElem?_eq_some_iff.mp h2).1
   simpa using this
  have h2' : ((src[i]).bind fun j => (σ[j]?).join) = some v := by
   unfold aeW at h2
   rw [List.getElem?_map, List.getElem?_eq_getElem hi] at h2
   exact Option.some.inj h2
  cases es : src[i] with
  | none => rw [es] at h2'; cases h2'
  | some j =>
   rw [es] at h2'
   have hj : σ[j]? = some (some v) := by
    have z : (σ[j]?).join = some v := h2'
    cases q : σ[j]? with
    | none => rw [q] at z; cases z
    | some o => rw [q] at z; have z' : o = some v := z; rw [z']
   have hz : (x, some j) ∈ N.zip src := by
    refine List.mem_of_getElem? (i := i) ?_
    rw [List.getElem?_zip_eq_some]
    exact ⟨h1, by rw [List.getElem?_eq_getElem hi, es]⟩
   obtain ⟨u1, u2⟩ := S.up _ hz j rfl
   have m : (x, NameKind.free) ∈ scope.names := PySem.mem_of_lookup u2
   have kx := S.free _ m rfl
   obtain ⟨m0, hn0, hl0⟩ := id I.loc
   obtain ⟨u, r, lk⟩ := hl0 j x v u1 hj (kx.elim (fun z => .inr (.inl z)) fun z => .inr (.inr z))
   refine ⟨u, r, ?_⟩
   rcases lk with ⟨k, _⟩ | ⟨_, c, e, ic⟩
   ·have k' : X.env.scope.names.lookup x = some .local := k
    rcases kx with z | z
    ·rw [z] at k'; cases k'
    ·rw [z] at k'; cases k'
   ·refine .inr ⟨ac0 u2, c, ?_, ?_⟩
    ·have q := abC (cells := X.env.cells) (acc := []) (.inr ⟨m, by rw [e]; rfl⟩)
     obtain ⟨c', e'⟩ := Option.isSome_iff_exists.mp q
     have e2 : X.env.cells.lookup x = some c' := by
      rcases abx e' with q | q
      ·simp at q
      ·exact q
     rw [e] at e2; cases e2
     show (cellsFrom (s.heap.objs.size + 1) scope.names (aax X.env.cells scope.names [])).lookup x = some c
     rw [abp, acU]
     split
     ·rename_i c2 z
      have y := S.cells _ (adp _ _ (PySem.mem_of_lookup z)) rfl
      rw [u2] at y; cases y
     ·exact e'
    ·obtain ⟨o, ho, hd⟩ := ic
     exact ⟨o, old _ _ ho, hd⟩
 ·rcases afo _ _ e with z | z
  ·exact ⟨_, (ck.empty x c (PySem.mem_of_lookup z)).1⟩
  ·obtain ⟨v, o, ho, hd⟩ := I.cell x c z
   exact ⟨v, o, old _ _ ho, hd⟩
 ·rcases afo _ _ e with z | z
  ·exact I.hok.fresh (Nat.le_of_succ_le (big _ _ z))
  ·exact I.agf x c z
 ·unfold aeW
  rw [List.length_map]
  exact S.len
theorem anw {pins : List (Addr × Obj)} {σ : St} {H : Hp} {s : Shared} {Q : VK} {RR : Value -> Addr -> Result -> Shared -> Prop} (hsc : X.env.scope = sc) (hNo : X.N = No) (S : ahd sc No N src scope) (hc : X.calm = true)
  (hi : PI X tg iter wi) (hg : ∀ C s H ex, PG (abZ X N scope C s H ex) tg g) (he : ∀ C s H ex, PE (abZ X N scope C s H ex) elt te) (I : Inv X pins σ H s) (h : alM wi g src te σ H Q)
  (hRR : ∀ D C H' s' m, Inv X pins σ H' s' -> H' C = none -> C ≠ X.env.locals -> X.s₀.heap.objs.size <= C -> (∀ x c, X.env.cells.lookup x = some c -> c ≠ C) -> (∀ p ∈ X.pn ++ pins, p.1 ≠ C) -> s'.heap.Ns C m -> Q (.ref D) H' -> RR (.ref D) C (.ok .next) s') :
  wpAny (model X.prog X.w) X.A (eval iter X.env) (fun x s₁ => wpAny (model X.prog X.w) X.A (pyIter x) (fun it s₂ => wpAny (model X.prog X.w) X.A (newList []) (fun acc s₃ =>
   wpAny (model X.prog X.w) X.A (newFunctionEnv scope X.env.globals (aax X.env.cells scope.names []) [] X.env.qual none .none (some X.env)) (fun cenv s₄ =>
    codeAny (model X.prog X.w) X.A (.compStart (.ListComp elt [⟨tg, iter, [], 0⟩] scope pos) 0 it acc { cenv with scope := relabel scope X.env }) (RR acc cenv.locals) s₄) X.xe s₃) X.xe s₂) X.xe s₁) X.xe s := by
 refine thn (hi pins s σ H _ I h) fun v s1 h1 => thn h1 fun itv s2 h2 => ?_
 obtain ⟨it, fp, tn, J, H2, e, I2, T, st2, f2, hW⟩ := h2
 subst e
 have hD0 : H2 s2.heap.objs.size = none := I2.hok.fresh (Nat.le_refl _)
 obtain ⟨W, ⟨m0, w0⟩, turn⟩ := hW s2.heap.objs.size hD0
 have arN : ∀ b ∈ fp, b < s2.heap.objs.size := fun b hb => by
  obtain ⟨o, e, _⟩ := T.obj 0 _ st2 b hb
  exact Heap.lt_size e
 refine wpAny_newObj_type ?_
 have I3 : Inv X pins σ (upd H2 s2.heap.objs.size (.lst [])) { s2 with heap := s2.heap.push { cls := .type "list", dict := none, data := .seq ([] : List Value).toArray } } := I2.aus (t' := s2.toks) (ys := []) .nil (Nat.zero_le _)
 have f3 : ∀ b ∈ fp, aeK X pins (upd H2 s2.heap.objs.size (.lst [])) b := fun b hb => by
  obtain ⟨q, r⟩ := f2 b hb
  exact ⟨by rw [aaH (Nat.ne_of_lt (arN b hb))]; exact q, r⟩
 have st3 : tn 0 (s2.heap.push { cls := .type "list", dict := none, data := .seq ([] : List Value).toArray }) := T.keep _ _ _ st2 fun b hb o e => Heap.get?_push_of_some _ e
 have lt3 : ∀ b ∈ fp, b < (s2.heap.push { cls := .type "list", dict := none, data := .seq ([] : List Value).toArray }).objs.size := fun b hb => by
  rw [Heap.size_push]; exact Nat.lt_succ_of_lt (arN b hb)
 generalize hD : s2.heap.objs.size = D at *
 generalize hh3 : s2.heap.push { cls := .type "list", dict := none, data := .seq ([] : List Value).toArray } = h3 at *
 generalize hH3 : upd H2 D (.lst []) = H3 at *
 refine adW fun h₁ hns old ck => ?_
 dsimp only at hns old ck ⊢
 have I4 : Inv (abZ X N scope h3.objs.size { s2 with heap := h3 } H3 fp) [] (aeW src σ) H3 { s2 with heap := h₁, toks := s2.toks + ([] : List (Str × Value)).length } := ahe (s := { s2 with heap := h3 }) hsc hNo S I3 f3 lt3 hns old ck
 have st4 : tn 0 h₁ := T.keep _ _ _ st3 fun b hb o e => old b o e
 have loop : codeAny (model X.prog X.w) X.A (.compLoop (.ListComp elt [⟨tg, iter, [], 0⟩] scope pos) 0 (.ref it) (.ref D) (compEnvC scope (cellsFrom (h3.objs.size + 1) scope.names (aax X.env.cells scope.names [])) h3.objs.size X.env)) (RR (.ref D) h3.objs.size) { s2 with heap := h₁, toks := s2.toks + ([] : List (Str × Value)).length } := by
  have stat : ∀ {H' : Hp}, (∀ b ∈ fp, H' b = none) -> ∀ b ∈ fp, aeK (abZ X N scope h3.objs.size { s2 with heap := h3 } H3 fp) [] H' b := fun hn b hb => by
   obtain ⟨g0, g1, g2, g3, g4, g5⟩ := f3 b hb
   refine ⟨hn b hb, Nat.ne_of_lt (lt3 b hb), fun z => ?_, .inl hb, fun x c e => ?_, fun p hp => absurd (show p ∈ ([] : List (Addr × Obj)) from hp) (by simp)⟩
   ·rcases List.mem_cons.mp (I3.ain b z) with z | z
    ·exact g1 z
    ·exact g2 z
   ·have e : (cellsFrom (h3.objs.size + 1) scope.names (aax X.env.cells scope.names [])).lookup x = some c := e
    rw [abp, acU] at e
    split at e
    ·rename_i z
     cases e
     exact fun y => absurd (Nat.le_trans (ck.empty x c (PySem.mem_of_lookup z)).2 (y ▸ Nat.le_of_lt (lt3 b hb))) (Nat.not_succ_le_self _)
    ·rcases abx e with q | q
     ·simp at q
     ·exact g4 x c q
  refine ajc (fun n s' => ∃ i σ' H', Inv (abZ X N scope h3.objs.size { s2 with heap := h3 } H3 fp) [] σ' H' s' /\ tn i s'.heap /\ (∀ b ∈ fp, H' b = none) /\ W i n σ' H') ?_ m0 ⟨0, aeW src σ, H3, I4, st4, fun b hb => (f3 b hb).1, w0⟩
  rintro n s5 ⟨i, σ5, H5, I5, st5, fr5, w5⟩
  rcases turn i n σ5 H5 w5 with ⟨stop, qn⟩ | ⟨go, step⟩
  ·refine thn (T.done (abZ X N scope h3.objs.size { s2 with heap := h3 } H3 fp) rfl rfl rfl hc i [] s5 σ5 H5 (fun _ _ => False) I5 (stat fr5) st5 stop) fun r s6 ⟨hr, I6⟩ => ?_
   subst hr
   obtain ⟨mC, hnC, _⟩ := id I6.loc
   have I7 : Inv X pins σ H5 s6 := I3.call' (ch := fp) I6.os I6.base I6.hok I6.bare fun b hb => by
    obtain ⟨g0, g1, g2, g3, g4, g5⟩ := f3 b hb
    exact ⟨g3, g1, g4, g5⟩
   refine hRR D h3.objs.size H5 s6 mC I7 I6.free (Nat.ne_of_gt I3.lt) I3.sz (fun x c e z => ?_) (fun p hp z => ?_) hnC qn
   ·obtain ⟨v, q⟩ := I3.cell x c e
    exact absurd q.lt (by rw [z]; exact Nat.lt_irrefl _)
   ·exact absurd (Heap.lt_size (I3.pin p hp).1) (by rw [z]; exact Nat.lt_irrefl _)
  ·refine thn (T.item (abZ X N scope h3.objs.size { s2 with heap := h3 } H3 fp) rfl rfl rfl hc i [] s5 σ5 H5 (fun _ _ => False) I5 (stat fr5) st5 go) fun r s6 ⟨u, hr, h6⟩ => ?_
   subst hr
   refine thn h6 fun _ s7 ⟨x, H7, I7, r7, y7, st7, fr7⟩ => ?_
   have I7' := I7.pinned (stat fr7) (T.obj _ _ st7)
   refine thn (hg _ _ _ _ _ s7 σ5 H7 x u _ I7' r7 (step x H7 y7)) fun _ s8 ⟨σ8, H8, I8, q8⟩ => ?_
   refine thn (he _ _ _ _ _ s8 σ8 H8 _ I8 q8) fun yv s9 ⟨y, H9, I9, r9, q9⟩ => ?_
   obtain ⟨xs, e9, l9, m', hm, w9⟩ := q9
   refine thn (adx (X := abZ X N scope h3.objs.size { s2 with heap := h3 } H3 fp) _ s9 σ8 H9 (.ref D) [y] (.ref D) [yv] (fun _ H' => W (i + 1) m' σ8 H') I9 rfl (.cons r9 .nil) ⟨D, xs, y, rfl, rfl, e9, l9, w9⟩) fun _ s10 ⟨_, H10, I10, _, q10⟩ => ?_
   refine ⟨m', hm, i + 1, σ8, H10, I10.ael (pins := []), T.keep _ _ _ st7 fun b hb o e => (I10.pin (b, o) (List.mem_append_right _ (List.mem_append_right _ (ach hb e)))).1, fun b hb => ?_, q10⟩
   obtain ⟨o, e, d⟩ := T.obj _ _ st7 b hb
   exact (I10.pin (b, o) (List.mem_append_right _ (List.mem_append_right _ (ach hb e)))).2.1
 exact codeAny_compStart_list loop (T.self _ _ _ _ _ st4 loop)
theorem ac1 (hsc : X.env.scope = sc) (hNo : X.N = No) (S : ahd sc No N src scope) (hc : X.calm = true)
  (hi : PI X tg iter wi) (hg : ∀ C s H ex, PG (abZ X N scope C s H ex) tg g) (he : ∀ C s H ex, PE (abZ X N scope C s H ex) elt te)
  (hs : ∀ x, foldedSetIterable iter X.env x = pure x := by intro _; rfl) : PE X (.ListComp elt [⟨tg, iter, [], 0⟩] scope pos) (alM wi g src te) := by
 intro pins s σ H Q I h
 rw [eval_ListComp]
 have hcl : closureFor scope X.env = pure (aax X.env.cells scope.names []) := afn fun y hy e => by
  have k := S.free y hy e
  rw [<-hsc] at k
  obtain ⟨c, q⟩ := I.ok.has y.1 k
  rw [q]; rfl
 refine wpAny_comprehension_free (use := none) rfl hs hcl S.kind S.names (anw (RR := fun acc C => compPost (model X.prog X.w) X.A X.xe none (EP X pins σ Q) acc C) hsc hNo S hc hi hg he I h ?_)
 intro D C H' s' m I' n1 n2 n3 n4 n5 hn q
 refine ⟨m, hn, fun h' hs' => ⟨.ref D, H', ?_, rfl, q⟩⟩
 exact I'.turned (t' := s'.toks) (fun b o hb e => (hs'.2 b hb).trans e) n1 (Ne.symm (Ne.symm n2)) (.inr n3) n4 n5
end
section
variable {K : PySem.W.Frag} {g : TG} {te : TE} {Q : VK}
end
end L2
end
section
namespace L2
open PySem PySem.Spec PyProof.Rows
inductive Tr where
 | non | bl (b : Bool) | int (i : Int) | str (x : Str) | tup (ts : List Tr) | lst (ts : List Tr)
mutual
inductive Rep (K : PySem.W.Frag) (H : Hp) : V -> Tr -> Prop
 | non : Rep K H .non .non
 | bl (b : Bool) : Rep K H (.bl b) (.bl b)
 | int (i : Int) : Rep K H (.int i) (.int i)
 | str (x : Str) : Rep K H (.str x) (.str x)
 | tup {a : Addr} {xs : List V} {ts : List Tr} (h : SqT K H a xs) (r : aa1 K H xs ts) : Rep K H (.ref a) (.tup ts)
 | lst {a : Addr} {xs : List V} {ts : List Tr} (h : SqL K H a xs) (r : aa1 K H xs ts) : Rep K H (.ref a) (.lst ts)
inductive aa1 (K : PySem.W.Frag) (H : Hp) : List V -> List Tr -> Prop
 | nil : aa1 K H [] []
 | cons {x : V} {t : Tr} {xs : List V} {ts : List Tr} (h : Rep K H x t) (r : aa1 K H xs ts) : aa1 K H (x :: xs) (t :: ts)
end
theorem Same.aq7 {K : PySem.W.Frag} {H H' : Hp} {a : Addr} {xs : List V} (e : Same H H') (h : SqT K H a xs) : SqT K H' a xs := by
 rcases h with (h | ⟨o, h⟩) | h
 ·exact .inl (.inl (e _ _ h))
 ·exact .inl (.inr ⟨o, e _ _ h⟩)
 ·exact .inr h
mutual
theorem Rep.mono {K : PySem.W.Frag} {H H' : Hp} (e : Same H H') : ∀ {v : V} {t : Tr}, Rep K H v t -> Rep K H' v t
 | _, _, .non => .non
 | _, _, .bl b => .bl b
 | _, _, .int i => .int i
 | _, _, .str x => .str x
 | _, _, .tup h r => .tup (e.aq7 h) (aa1.mono e r)
 | _, _, .lst h r => .lst (e.seq h) (aa1.mono e r)
theorem aa1.mono {K : PySem.W.Frag} {H H' : Hp} (e : Same H H') : ∀ {v : List V} {t : List Tr}, aa1 K H v t -> aa1 K H' v t
 | _, _, .nil => .nil
 | _, _, .cons h r => .cons (Rep.mono e h) (aa1.mono e r)
end
theorem aa1.length {K : PySem.W.Frag} {H : Hp} : ∀ {v : List V} {t : List Tr}, aa1 K H v t -> v.length = t.length
 | _, _, .nil => rfl
 | _, _, .cons _ r => by rw [List.length_cons, List.length_cons, aa1.length r]
theorem aa1.get {K : PySem.W.Frag} {H : Hp} : ∀ {v : List V} {t : List Tr} {i : Nat} {x : V}, aa1 K H v t -> v[i]? = some x -> ∃ u, t[i]? = some u /\ Rep K H x u
 | _, _, _, _, .nil, e => by simp at e
 | _, _, 0, _, .cons h _, e => by
  simp at e
  subst e
  exact ⟨_, rfl, h⟩
 | _, _, i + 1, x, .cons _ r, e => by
  obtain ⟨u, h1, h2⟩ := aa1.get (i := i) (x := x) r (by simpa using e)
  exact ⟨u, by simpa using h1, h2⟩
theorem aa1.app {K : PySem.W.Frag} {H : Hp} : ∀ {v w : List V} {t u : List Tr}, aa1 K H v t -> aa1 K H w u -> aa1 K H (v ++ w) (t ++ u)
 | _, _, _, _, .nil, s => s
 | _, _, _, _, .cons h r, s => .cons h (aa1.app r s)
theorem aa1.take {K : PySem.W.Frag} {H : Hp} : ∀ {v : List V} {t : List Tr} (n : Nat), aa1 K H v t -> aa1 K H (v.take n) (t.take n)
 | _, _, 0, _ => by rw [List.take_zero, List.take_zero]; exact .nil
 | _, _, n + 1, .nil => by simpa using aa1.nil
 | _, _, n + 1, .cons h r => by
  rw [List.take_succ_cons, List.take_succ_cons]
  exact .cons h (aa1.take n r)
theorem aa1.drop {K : PySem.W.Frag} {H : Hp} : ∀ {v : List V} {t : List Tr} (n : Nat), aa1 K H v t -> aa1 K H (v.drop n) (t.drop n)
 | _, _, 0, r => by rw [List.drop_zero, List.drop_zero]; exact r
 | _, _, n + 1, .nil => by simpa using aa1.nil
 | _, _, n + 1, .cons h r => by
  rw [List.drop_succ_cons, List.drop_succ_cons]
  exact aa1.drop n r
mutual
noncomputable def dep : Tr -> Nat
 | .tup ts => deps ts + 1
 | .lst ts => deps ts + 1
 | _ => 0
noncomputable def deps : List Tr -> Nat
 | [] => 0
 | t :: r => max (dep t) (deps r)
end
mutual
noncomputable def eqT : Tr -> Tr -> Bool
 | .non, .non => true
 | .bl a, .bl b => a == b
 | .bl a, .int b => (if a then 1 else 0) == b
 | .int a, .bl b => a == (if b then 1 else 0)
 | .int a, .int b => a == b
 | .str a, .str b => a == b
 | .tup a, .tup b => ane a b
 | .lst a, .lst b => ane a b
 | _, _ => false
noncomputable def ane : List Tr -> List Tr -> Bool
 | [], [] => true
 | a :: x, b :: y => eqT a b && ane x y
 | _, _ => false
end
mutual
theorem af4 : ∀ t : Tr, eqT t t = true
 | .non => rfl
 | .bl b => by unfold eqT; exact beq_self_eq_true b
 | .int i => by unfold eqT; exact beq_self_eq_true i
 | .str x => by unfold eqT; exact beq_self_eq_true x
 | .tup ts => by unfold eqT; exact agl ts
 | .lst ts => by unfold eqT; exact agl ts
theorem agl : ∀ ts : List Tr, ane ts ts = true
 | [] => rfl
 | t :: r => by unfold ane; rw [af4 t, agl r]; rfl
end
theorem aeX : ∀ {a b : List Tr}, a.length ≠ b.length -> ane a b = false
 | [], [], h => absurd rfl h
 | [], _ :: _, _ => rfl
 | _ :: _, [], _ => rfl
 | x :: a, y :: b, h => by
  unfold ane
  rw [aeX (a := a) (b := b) (by simpa using h), Bool.and_false]
noncomputable def atE (a b : List Tr) (j : Nat) : Bool := match a[j]?, b[j]? with
 | some x, some y => eqT x y
 | _, _ => true
theorem agm : ∀ {a b : List Tr}, a.length = b.length -> (List.range a.length).all (atE a b) = ane a b
 | [], [], _ => rfl
 | [], _ :: _, h => by cases h
 | _ :: _, [], h => by cases h
 | x :: a, y :: b, h => by
  have ih := agm (a := a) (b := b) (by simpa using h)
  rw [List.length_cons, List.range_succ_eq_map, List.all_cons, List.all_map]
  unfold ane
  rw [<-ih]
  rfl
section
variable {X : Cx} {pins : List (Addr × Obj)} {σ : St} {H : Hp} {s : Shared}
mutual
theorem Rep.inj (I : Inv X pins σ H s) : ∀ {v : V} {t u : Tr}, Rep X.K H v t -> Rep X.K H v u -> t = u
 | _, _, _, .non, .non => rfl
 | _, _, _, .bl _, .bl _ => rfl
 | _, _, _, .int _, .int _ => rfl
 | _, _, _, .str _, .str _ => rfl
 | _, _, _, .tup h r, .tup h' r' => by
  have e := I.aip h h'
  subst e
  rw [aa1.inj I r r']
 | _, _, _, .lst h r, .lst h' r' => by
  have e := I.aeT h h'
  subst e
  rw [aa1.inj I r r']
 | _, _, _, .tup h r, .lst h' r' => by
  obtain ⟨_, _, p, _⟩ := I.tuple h
  obtain ⟨_, _, p', _⟩ := I.list h'
  exact absurd rfl (SeqAt.ne_of_list_tuple p'.isList p)
 | _, _, _, .lst h r, .tup h' r' => by
  obtain ⟨_, _, p, _⟩ := I.tuple h'
  obtain ⟨_, _, p', _⟩ := I.list h
  exact absurd rfl (SeqAt.ne_of_list_tuple p'.isList p)
theorem aa1.inj (I : Inv X pins σ H s) : ∀ {v : List V} {t u : List Tr}, aa1 X.K H v t -> aa1 X.K H v u -> t = u
 | _, _, _, .nil, .nil => rfl
 | _, _, _, .cons h r, .cons h' r' => by rw [Rep.inj I h h', aa1.inj I r r']
end
theorem in1_units (A : Around) : A.in1.units <= A.units + 1 := by
 show A.units + 1 <= _
 omega
theorem af5 {xs : List V} {its : List Value} {j : Nat} (r : Vals xs its) (h : j < its.toArray.size) : ∃ x, xs[j]? = some x /\ RelV x its.toArray[j] := by
 have h' : j < its.length := by simpa using h
 have hx : j < xs.length := by rw [r.length]; exact h'
 obtain ⟨u, h1, h2⟩ := r.get (List.getElem?_eq_getElem hx)
 refine ⟨xs[j], List.getElem?_eq_getElem hx, ?_⟩
 have e : u = its.toArray[j] := by
  rw [List.getElem?_eq_getElem h'] at h1
  have := Option.some.inj h1
  simpa using this.symm
 rw [<-e]; exact h2
theorem aj5 {a b : List Tr} {j : Nat} {x y : Tr} (h1 : a[j]? = some x) (h2 : b[j]? = some y) : atE a b j = eqT x y := by
 unfold atE
 rw [h1, h2]
theorem ahB : ∀ {ts : List Tr} {j : Nat} {t : Tr}, ts[j]? = some t -> dep t <= deps ts
 | [], _, _, h => by simp at h
 | x :: r, 0, t, h => by
  simp at h
  subst h
  unfold deps
  exact Nat.le_max_left _ _
 | x :: r, j + 1, t, h => by
  have := ahB (ts := r) (j := j) (t := t) (by simpa using h)
  unfold deps
  exact Nat.le_trans this (Nat.le_max_right _ _)
theorem agn (I : Inv X pins σ H s) (A : Around) (t u : Tr) (x y : V) (xv yv : Value) (hu : A.units + 0 < cLine) (hd : dep t <= 0) (rx : Rep X.K H x t) (ry : Rep X.K H y u) (vx : RelV x xv) (vy : RelV y yv) :
  SeqAt.RcAt A s xv yv (eqT t u) /\ SeqAt.EqAt A s xv yv (eqT t u) := by
 have hu0 : A.units < cLine := by omega
 cases rx with
 | tup h r => unfold dep at hd; omega
 | lst h r => unfold dep at hd; omega
 | non =>
  cases vx
  cases ry with
  | non => cases vy; unfold eqT; exact ⟨SeqAt.RcAt.none_none, .same _⟩
  | bl b2 => cases vy; unfold eqT; exact ⟨SeqAt.RcAt.none_bool _, SeqAt.EqAt.none_bool _⟩
  | int i2 => obtain ⟨_, rfl⟩ := vy; unfold eqT; exact ⟨SeqAt.RcAt.none_int _ _, SeqAt.EqAt.none_int _ _⟩
  | str z2 => obtain ⟨_, rfl⟩ := vy; unfold eqT; exact ⟨SeqAt.RcAt.none_str _ _, SeqAt.EqAt.none_str _ _⟩
  | tup h r => cases vy; obtain ⟨_, _, p, _⟩ := I.tuple h; unfold eqT; exact ⟨SeqAt.RcAt.none_tuple p hu0, SeqAt.EqAt.none_tuple p hu0⟩
  | lst h r => cases vy; obtain ⟨_, _, p, _⟩ := I.list h; unfold eqT; exact ⟨SeqAt.RcAt.none_list p.isList hu0, SeqAt.EqAt.none_list p.isList hu0⟩
 | bl b =>
  cases vx
  cases ry with
  | non => cases vy; unfold eqT; exact ⟨SeqAt.RcAt.bool_none _, SeqAt.EqAt.bool_none _⟩
  | bl b2 => cases vy; unfold eqT; exact ⟨SeqAt.RcAt.bool_bool _ _, SeqAt.EqAt.bool_bool _ _⟩
  | int i2 => obtain ⟨_, rfl⟩ := vy; unfold eqT; exact ⟨SeqAt.RcAt.bool_int _ _ _, SeqAt.EqAt.bool_int _ _ _⟩
  | str z2 => obtain ⟨_, rfl⟩ := vy; unfold eqT; exact ⟨SeqAt.RcAt.bool_str _ _ _, SeqAt.EqAt.bool_str _ _ _⟩
  | tup h r => cases vy; obtain ⟨_, _, p, _⟩ := I.tuple h; unfold eqT; exact ⟨SeqAt.RcAt.bool_tuple _ p hu0, SeqAt.EqAt.bool_tuple _ p hu0⟩
  | lst h r => cases vy; obtain ⟨_, _, p, _⟩ := I.list h; unfold eqT; exact ⟨SeqAt.RcAt.bool_list _ p.isList hu0, SeqAt.EqAt.bool_list _ p.isList hu0⟩
 | int i =>
  obtain ⟨_, rfl⟩ := vx
  cases ry with
  | non => cases vy; unfold eqT; exact ⟨SeqAt.RcAt.int_none _ _, SeqAt.EqAt.int_none _ _⟩
  | bl b2 => cases vy; unfold eqT; exact ⟨SeqAt.RcAt.int_bool _ _ _, SeqAt.EqAt.int_bool _ _ _⟩
  | int i2 => obtain ⟨_, rfl⟩ := vy; unfold eqT; exact ⟨SeqAt.RcAt.int_int _ _ _ _, SeqAt.EqAt.int_int _ _ _ _⟩
  | str z2 => obtain ⟨_, rfl⟩ := vy; unfold eqT; exact ⟨SeqAt.RcAt.int_str _ _ _ _, SeqAt.EqAt.int_str _ _ _ _⟩
  | tup h r => cases vy; obtain ⟨_, _, p, _⟩ := I.tuple h; unfold eqT; exact ⟨SeqAt.RcAt.int_tuple _ _ p hu0, SeqAt.EqAt.int_tuple _ _ p hu0⟩
  | lst h r => cases vy; obtain ⟨_, _, p, _⟩ := I.list h; unfold eqT; exact ⟨SeqAt.RcAt.int_list _ _ p.isList hu0, SeqAt.EqAt.int_list _ _ p.isList hu0⟩
 | str z =>
  obtain ⟨_, rfl⟩ := vx
  cases ry with
  | non => cases vy; unfold eqT; exact ⟨SeqAt.RcAt.str_none _ _, SeqAt.EqAt.str_none _ _⟩
  | bl b2 => cases vy; unfold eqT; exact ⟨SeqAt.RcAt.str_bool _ _ _, SeqAt.EqAt.str_bool _ _ _⟩
  | int i2 => obtain ⟨_, rfl⟩ := vy; unfold eqT; exact ⟨SeqAt.RcAt.str_int _ _ _ _, SeqAt.EqAt.str_int _ _ _ _⟩
  | str z2 => obtain ⟨_, rfl⟩ := vy; unfold eqT; exact ⟨SeqAt.RcAt.str_str _ _ _ _, SeqAt.EqAt.str_str _ _ _ _⟩
  | tup h r => cases vy; obtain ⟨_, _, p, _⟩ := I.tuple h; unfold eqT; exact ⟨SeqAt.RcAt.str_tuple _ _ p hu0, SeqAt.EqAt.str_tuple _ _ p hu0⟩
  | lst h r => cases vy; obtain ⟨_, _, p, _⟩ := I.list h; unfold eqT; exact ⟨SeqAt.RcAt.str_list _ _ p.isList hu0, SeqAt.EqAt.str_list _ _ p.isList hu0⟩
theorem ajd (I : Inv X pins σ H s) : ∀ (n : Nat) (A : Around) (t u : Tr) (x y : V) (xv yv : Value), A.units + n < cLine -> dep t <= n -> Rep X.K H x t -> Rep X.K H y u -> RelV x xv -> RelV y yv ->
  SeqAt.RcAt A s xv yv (eqT t u) /\ SeqAt.EqAt A s xv yv (eqT t u) := by
 intro n
 induction n with
 | zero => exact agn I
 | succ n ih =>
  intro A t u x y xv yv hu hd rx ry vx vy
  have hu0 : A.units < cLine := by omega
  have hu1 : A.in1.units + n < cLine := by
   have := in1_units A
   omega
  have he : ∀ {xs ys : List V} {ts us : List Tr} {its its2 : List Value}, Vals xs its -> Vals ys its2 -> aa1 X.K H xs ts -> aa1 X.K H ys us -> deps ts <= n -> ∀ j (h1 : j < its.toArray.size) (h2 : j < its2.toArray.size), SeqAt.EqAt A.in1 s its.toArray[j] its2.toArray[j] (atE ts us j) := by
   intro xs ys ts us its its2 r1 r2 q1 q2 hde j h1 h2
   obtain ⟨a, ea, ra⟩ := af5 r1 h1
   obtain ⟨b, eb, rb⟩ := af5 r2 h2
   obtain ⟨ta, eta, qa⟩ := q1.get ea
   obtain ⟨tb, etb, qb⟩ := q2.get eb
   rw [aj5 eta etb]
   exact (ih A.in1 ta tb a b _ _ hu1 (Nat.le_trans (ahB eta) hde) qa qb ra rb).2
  have dt : ∀ {ts : List Tr}, dep (.tup ts) <= n + 1 -> deps ts <= n := fun {ts} h => by unfold dep at h; omega
  have dl : ∀ {ts : List Tr}, dep (.lst ts) <= n + 1 -> deps ts <= n := fun {ts} h => by unfold dep at h; omega
  have refs : ∀ {a b : Addr} {t u : Tr} {k : Bool}, Rep X.K H (.ref a) t -> Rep X.K H (.ref b) u -> k = eqT t u -> SeqAt.RcAt A s (.ref a) (.ref b) k -> SeqAt.EqAt A s (.ref a) (.ref b) k := fun {a b t u k} r1 r2 ek h => by
   by_cases e : a = b
   ·subst e
    have := Rep.inj I r1 r2
    subst this
    rw [ek, af4]
    exact .same _
   ·exact .of_refs e h
  cases rx with
  | @tup a1 xs1 ts h r =>
   cases vx
   obtain ⟨its, rv, p, _⟩ := I.tuple h
   cases ry with
   | @tup a2 xs2 us h' r' =>
    cases vy
    obtain ⟨its2, rv2, p2, _⟩ := I.tuple h'
    have R := SeqAt.RcAt.tuples p p2 hu0 (he rv rv2 r r' (dt hd))
    have el : its.toArray.size = ts.length := by simpa using (rv.length.symm.trans r.length)
    have el2 : its2.toArray.size = us.length := by simpa using (rv2.length.symm.trans r'.length)
    rw [el, el2] at R
    have eb : ((List.range (min ts.length us.length)).all (atE ts us) && ts.length == us.length) = eqT (.tup ts) (.tup us) := by
     unfold eqT
     by_cases e : ts.length = us.length
     ·rw [e, Nat.min_self, <-e, agm e, beq_self_eq_true, Bool.and_true]
     ·rw [beq_false_of_ne e, Bool.and_false, aeX e]
    rw [eb] at R
    exact ⟨R, refs (.tup h r) (.tup h' r') rfl R⟩
   | lst h' r' =>
    cases vy
    obtain ⟨_, _, p2, _⟩ := I.list h'
    unfold eqT
    exact ⟨SeqAt.RcAt.tuple_list p p2.isList hu0, .tuple_list p p2.isList hu0⟩
   | non => cases vy; unfold eqT; exact ⟨SeqAt.RcAt.tuple_none p hu0, .tuple_none p hu0⟩
   | bl b => cases vy; unfold eqT; exact ⟨SeqAt.RcAt.tuple_bool _ p hu0, .tuple_bool _ p hu0⟩
   | int i => obtain ⟨_, rfl⟩ := vy; unfold eqT; exact ⟨SeqAt.RcAt.tuple_int _ _ p hu0, .tuple_int _ _ p hu0⟩
   | str z => obtain ⟨_, rfl⟩ := vy; unfold eqT; exact ⟨SeqAt.RcAt.tuple_str _ _ p hu0, .tuple_str _ _ p hu0⟩
  | @lst a1 xs1 ts h r =>
   cases vx
   obtain ⟨its, rv, p, _⟩ := I.list h
   cases ry with
   | @lst a2 xs2 us h' r' =>
    cases vy
    obtain ⟨its2, rv2, p2, _⟩ := I.list h'
    have el : its.toArray.size = ts.length := by simpa using (rv.length.symm.trans r.length)
    have el2 : its2.toArray.size = us.length := by simpa using (rv2.length.symm.trans r'.length)
    by_cases e : ts.length = us.length
    ·have R := SeqAt.RcAt.lists p.isList p2.isList (by rw [el, el2, e]) hu0 (he rv rv2 r r' (dl hd))
     rw [el, agm e] at R
     have eb : ane ts us = eqT (.lst ts) (.lst us) := by unfold eqT; rfl
     rw [eb] at R
     exact ⟨R, refs (.lst h r) (.lst h' r') rfl R⟩
    ·have R : SeqAt.RcAt A s _ _ false := SeqAt.RcAt.lists_lengths p.isList p2.isList (by rw [el, el2]; simpa using e) hu0
     have eb : false = eqT (.lst ts) (.lst us) := by unfold eqT; rw [aeX e]
     rw [eb] at R
     exact ⟨R, refs (.lst h r) (.lst h' r') rfl R⟩
   | tup h' r' =>
    cases vy
    obtain ⟨_, _, p2, _⟩ := I.tuple h'
    unfold eqT
    exact ⟨SeqAt.RcAt.list_tuple p.isList p2 hu0, .list_tuple p.isList p2 hu0⟩
   | non => cases vy; unfold eqT; exact ⟨SeqAt.RcAt.list_none p.isList hu0, .list_none p.isList hu0⟩
   | bl b => cases vy; unfold eqT; exact ⟨SeqAt.RcAt.list_bool _ p.isList hu0, .list_bool _ p.isList hu0⟩
   | int i => obtain ⟨_, rfl⟩ := vy; unfold eqT; exact ⟨SeqAt.RcAt.list_int _ _ p.isList hu0, .list_int _ _ p.isList hu0⟩
   | str z => obtain ⟨_, rfl⟩ := vy; unfold eqT; exact ⟨SeqAt.RcAt.list_str _ _ p.isList hu0, .list_str _ _ p.isList hu0⟩
  | non => exact agn I A _ _ _ _ _ _ (by omega) (by unfold dep; omega) .non ry vx vy
  | bl b => exact agn I A _ _ _ _ _ _ (by omega) (by unfold dep; omega) (.bl b) ry vx vy
  | int i => exact agn I A _ _ _ _ _ _ (by omega) (by unfold dep; omega) (.int i) ry vx vy
  | str z => exact agn I A _ _ _ _ _ _ (by omega) (by unfold dep; omega) (.str z) ry vx vy
end
end L2
end
section
namespace L2
open PySem PySem.Spec PyProof.Rows
section
variable {X : Cx} {a b : Expr} {ta tb : TE} {pos : Pos}
noncomputable def auX (K : PySem.W.Frag) : R2 := fun x y H Q => ∃ t u, Rep K H x t /\ Rep K H y u /\ dep t <= 40 /\ Q (.bl (eqT t u)) H
theorem acd (hu : X.A.units + 64 < cLine) : OpR X (compareOp .Eq) (auX X.K) := by
 intro pins s σ H x y v u Q I rx ry h
 obtain ⟨t, t', q1, q2, hd, q⟩ := h
 exact (ajd I 40 X.A t t' x y v u (by omega) hd q1 q2 rx ry).1 _ _ _ _ ⟨.bl _, H, I, rfl, q⟩
noncomputable def auY (t : Tr) (ts : List Tr) : Bool := ts.any fun u => eqT u t
noncomputable def auZ (K : PySem.W.Frag) : R2 := fun x y H Q => ∃ t ts p xs, Rep K H x t /\ y = .ref p /\ (SqL K H p xs \/ SqT K H p xs) /\ aa1 K H xs ts /\ deps ts <= 40 /\ Q (.bl (auY t ts)) H
theorem aiz {xs : List V} {its : List Value} {ts : List Tr} {K : PySem.W.Frag} {H : Hp} (f : Tr -> Bool) (e : Value -> Bool) (r : Vals xs its) (q : aa1 K H xs ts) (h : ∀ x v t, x ∈ xs -> RelV x v -> Rep K H x t -> t ∈ ts -> e v = f t) : its.any e = ts.any f := by
 induction r generalizing ts with
 | nil => cases q; rfl
 | cons r1 r2 ih =>
  cases q with
  | cons q1 q2 =>
   rw [List.any_cons, List.any_cons, h _ _ _ List.mem_cons_self r1 q1 List.mem_cons_self, ih q2 fun x v t hx hr hq ht => h x v t (List.mem_cons_of_mem _ hx) hr hq (List.mem_cons_of_mem _ ht)]
theorem arO : ∀ {ts : List Tr} {t : Tr}, t ∈ ts -> dep t <= deps ts := fun {ts t} h => by
 obtain ⟨i, hi, e⟩ := List.mem_iff_getElem.mp h
 exact ahB (j := i) (by rw [List.getElem?_eq_getElem hi, e])
open Classical in
theorem aoM (hu : X.A.units + 64 < cLine) : OpR X (compareOp .In) (auZ X.K) := by
 intro pins s σ H x y v u Q I rx ry h
 obtain ⟨t, ts, p, xs, q1, rfl, hq, qs, hd, q⟩ := h
 cases ry
 have hu1 : X.A.in1.units + 40 < cLine := by
  have := in1_units X.A
  omega
 -- what == tells of an item, by the item itself
 let e : Value -> Bool := fun w' => if h : ∃ z tz, z ∈ xs /\ RelV z w' /\ Rep X.K H z tz /\ tz ∈ ts then eqT (Classical.choose (Classical.choose_spec h)) t else false
 have ee : ∀ z w' tz, z ∈ xs -> RelV z w' -> Rep X.K H z tz -> tz ∈ ts -> e w' = eqT tz t := fun z w' tz h1 h2 h3 h4 => by
  have hx : ∃ z tz, z ∈ xs /\ RelV z w' /\ Rep X.K H z tz /\ tz ∈ ts := ⟨z, tz, h1, h2, h3, h4⟩
  show (if h : _ then _ else _) = _
  rw [dif_pos hx]
  have sp := Classical.choose_spec (Classical.choose_spec hx)
  have key : ∀ z z' t1 t2, RelV z w' -> RelV z' w' -> Rep X.K H z t1 -> Rep X.K H z' t2 -> t1 = t2 := fun z z' t1 t2 a1 a2 a3 a4 => by
   obtain rfl := RelV.inj a1 a2
   exact Rep.inj I a3 a4
  rw [key _ _ _ _ sp.2.1 h2 sp.2.2.1 h3]
 have mem : ∀ {its : List Value}, Vals xs its -> ∀ w' ∈ its, SeqAt.EqAt X.A.in1 s w' v (e w') := by
  intro its r w' hw
  obtain ⟨j, hj, ej⟩ := List.mem_iff_getElem.mp hw
  have hjx : j < xs.length := by rw [r.length]; exact hj
  obtain ⟨u', h1, h2⟩ := r.get (List.getElem?_eq_getElem hjx)
  rw [List.getElem?_eq_getElem hj, ej] at h1
  cases h1
  obtain ⟨tz, h3, h4⟩ := qs.get (List.getElem?_eq_getElem hjx)
  have hm := List.mem_of_getElem? h3
  rw [ee _ _ tz (List.getElem_mem hjx) h2 h4 hm]
  exact (ajd I 40 X.A.in1 tz t _ x _ v hu1 (Nat.le_trans (arO hm) hd) h4 q1 h2 rx).2
 rcases hq with hq | hq
 ·obtain ⟨its, r, pl, hz⟩ := I.list hq
  refine SeqAt.in_listAt e pl.isList (fun w hw => mem r w (by simpa using hw)) ⟨.bl _, H, I, rfl, ?_⟩
  rw [show its.toArray.any e = its.any e by simp, aiz (fun z => eqT z t) e r qs fun z w' tz h1 h2 h3 h4 => ee z w' tz h1 h2 h3 h4]
  exact q
 ·obtain ⟨its, r, pl, hz⟩ := I.tuple hq
  refine SeqAt.in_tupleAt e pl (fun w hw => mem r w (by simpa using hw)) ⟨.bl _, H, I, rfl, ?_⟩
  rw [show its.toArray.any e = its.any e by simp, aiz (fun z => eqT z t) e r qs fun z w' tz h1 h2 h3 h4 => ee z w' tz h1 h2 h3 h4]
  exact q
inductive Ty where | int | bool | str | tuple | list
noncomputable def Ty.name : Ty -> String
 | .int => "int" | .bool => "bool" | .str => "str" | .tuple => "tuple" | .list => "list"
noncomputable def acL : Tr -> Ty -> Bool
 | .bl _, .bool => true | .bl _, .int => true | .int _, .int => true | .str _, .str => true | .tup _, .tuple => true | .lst _, .list => true
 | _, _ => false
noncomputable def aut (K : PySem.W.Frag) : List V -> Hp -> VK -> Prop := fun xs H Q => ∃ v t c, xs = [v, .ty (Ty.name c)] /\ Rep K H v t /\ Q (.bl (acL t c)) H
theorem anx : adD X (.builtin "isinstance") (aut X.K) := by
 intro pins s σ H xs us Q I r h
 obtain ⟨v, t, c, rfl, q1, q⟩ := h
 obtain ⟨u, w', rfl, ru, rw'⟩ := vals2 r
 obtain rfl : w' = Value.type (Ty.name c) := rw'
 have fin : ∀ tk, EP X pins σ Q (.bool (acL t c)) { s with toks := tk } := fun tk => ⟨.bl _, H, I.tok tk, rfl, q⟩
 cases q1 with
 | non => cases ru; cases c <;> exact PySem.W.kia_one PySem.W.kitx_none I.kIn True.intro (by kernel_rfl) (fun z => nomatch z) fin
 | bl y => cases ru; cases c <;> exact PySem.W.kia_one PySem.W.kitx_bool I.kIn True.intro (by kernel_rfl) (fun z => nomatch z) fin
 | int i => obtain ⟨_, rfl⟩ := ru; cases c <;> exact PySem.W.kia_one PySem.W.kitx_int I.kIn True.intro (by kernel_rfl) (fun z => nomatch z) fin
 | str y => obtain ⟨_, rfl⟩ := ru; cases c <;> exact PySem.W.kia_one PySem.W.kitx_str I.kIn True.intro (by kernel_rfl) (fun z => nomatch z) fin
 | tup h r =>
  cases ru
  obtain ⟨_, _, ⟨o, h1, h2, _⟩, _⟩ := I.tuple h
  cases c <;> exact PySem.W.kia_one PySem.W.kitx_tuple I.kIn ⟨o, h1, h2⟩ (by kernel_rfl) (fun z => nomatch z) fin
 | lst h r =>
  cases ru
  obtain ⟨_, _, p, _⟩ := I.list h
  obtain ⟨o, h1, h2, _⟩ := p.isList
  cases c <;> exact PySem.W.kia_one PySem.W.kitx_list I.kIn ⟨o, h1, h2⟩ (by kernel_rfl) (fun z => nomatch z) fin
noncomputable def au0 (K : PySem.W.Frag) : List V -> Hp -> VK -> Prop := fun xs H Q => ∃ (p : Addr) (bs : List Bool), xs = [.ref p] /\ SqL K H p (bs.map V.bl) /\ Q (.bl (bs.all id)) H
theorem af6 (hc : X.calm = true) : adD X (.builtin "all") (au0 X.K) := by
 intro pins s σ H xs us Q I r h
 obtain ⟨p, bs, rfl, hq, q⟩ := h
 obtain ⟨u, rfl, ru⟩ := vals1 r
 cases ru
 obtain ⟨its, rv, pl, hz⟩ := I.list hq
 refine call_all_walk (wpAny_pyIter_list pl.isList ?_)
 obtain ⟨ol, hol, hol'⟩ := id pl.isList
 have hlt : p < s.heap.objs.size := Heap.lt_size hol
 have hlen : its.toArray.size = bs.length := by simpa using rv.length.symm
 have at_ : ∀ (i : Nat) (v : Value), its.toArray[i]? = some v -> ∃ k, bs[i]? = some k /\ v = Value.bool k := fun i v e => by
  have e' : its[i]? = some v := by simpa using e
  have hi : i < its.length := (List.getElem?_eq_some_iff.mp e').1
  have hb : i < (bs.map V.bl).length := by rw [rv.length]; exact hi
  obtain ⟨u', h1, h2⟩ := rv.get (List.getElem?_eq_getElem hb)
  rw [e'] at h1
  cases h1
  have hb' : i < bs.length := by simpa using hb
  refine ⟨bs[i], List.getElem?_eq_getElem hb', ?_⟩
  rw [List.getElem_map] at h2
  exact h2
 refine ⟨s.heap.objs.size, _, _, _, _, _, fun i => bs.getD i true, rfl, Walks.list (A := X.A.in1) (I.ok.hd hc) s.heap.objs.size p (Nat.ne_of_lt hlt) its.toArray, ⟨⟨_, Heap.get?_push_size _ rfl, rfl, rfl⟩, ⟨ol, Heap.get?_push_of_some _ hol, hol'⟩⟩, ?_, ?_⟩
 ·intro i v s' Q' E' hP hQ'
  obtain ⟨k, h1, rfl⟩ := at_ i v hP
  have : bs.getD i true = k := by rw [List.getD_eq_getElem?_getD, h1]; rfl
  dsimp only at hQ'
  rw [this] at hQ'
  exact wpAny_truthy_bool hQ'
 ·intro h' tk hk
  have I1 : Inv X pins σ H { s with heap := h', toks := tk } := I.kept fun b o e => hk b o (by
   have := Heap.lt_size e
   simp
   exact Nat.ne_of_lt this) (Heap.get?_push_of_some _ e)
  refine ⟨.bl _, H, I1, rfl, ?_⟩
  have eq : (List.range its.toArray.size).all (fun i => bs.getD i true) = bs.all id := by
   rw [hlen]
   clear q hq rv at_ hlen hz
   induction bs with
   | nil => rfl
   | cons b r ih =>
    rw [List.length_cons, List.range_succ_eq_map, List.all_cons, List.all_map, List.all_cons]
    exact congrArg (b && ·) ih
  rw [eq]
  exact q
end
end L2
end
section
namespace L2
open PySem PySem.Spec PyProof.Rows
noncomputable def At (K : PySem.W.Frag) (mg : Str -> Option Value) (x : Str) (st : Stmt) : Prop := ∃ f fd, Fun K x x st f fd /\ mg x = some (.ref f)
section
variable {X : Cx} {k : Nat} {x : Str} {ps : List Str} {sp : Sp} {p q pos : Pos} {e : Expr} {es : List Expr} {te : TE} {t : TA}
theorem arP (c : Ty) (he : PE X e te) (h1 : X.mg "isinstance" = none) (h2 : X.mg x = none) (hb : bootBuiltins x = some (.type c.name) := by decide +kernel) (hg1 : Gl X "isinstance" := by rfl) (hg2 : Gl X x := by rfl) (hn : x ≠ "__name__" := by decide) (hd : (x == ("__debug__" : Str)) = false := by decide)
  (hs : starEach (e :: [.Name x q]) X.env = (false, eval e X.env) :: starEach [.Name x q] X.env := by rfl) : PE X (.Call (.Name "isinstance" p) [e, .Name x q] [] pos) (tCB (aut X.K) (afl te (afl (tC (.ty c.name)) aoI))) :=
 aj4 anx hg1 h1 PyProof.Rows.boot_isinstance (acY he (acY (apo hg2 h2 hb rfl hn hd) aaj) hs) (he := hs)
end
end L2
end
section
namespace L2
open PySem PySem.Spec PyProof.Rows
noncomputable def off (a : Addr) (H : Hp) : Hp := fun b => if b = a then none else H b
theorem off_ne {a b : Addr} {H : Hp} (h : b ≠ a) : off a H b = H b := if_neg h
theorem aem {a b : Addr} {H : Hp} {o : HO} (h : off a H b = some o) : b ≠ a /\ H b = some o := by
 unfold off at h
 split at h
 ·cases h
 ·rename_i e; exact ⟨e, h⟩
structure Pj (Pr : Hp -> Hp) (H0 : Hp) : Prop where
 mono : ∀ {H H' : Hp}, Same H H' -> Same (Pr H) (Pr H')
 sub : ∀ H, Same (Pr H) H
 new : ∀ {H : Hp} {r : Addr} {o : HO}, Same H0 H -> H r = none -> Pr (upd H r o) r = some o
theorem Pj.id (H0 : Hp) : Pj (fun H => H) H0 := ⟨fun s => s, fun H => Same.refl H, fun _ _ => aa9⟩
theorem Pj.le {Pr : Hp -> Hp} {H0 H1 : Hp} (p : Pj Pr H0) (s : Same H0 H1) : Pj Pr H1 := ⟨p.mono, p.sub, fun s' h => p.new (s.trans s') h⟩
theorem aaO {H : Hp} {p : Addr} (h : H p = none) (o : HO) : Same H (upd H p o) := fun b u q => by rw [aaH (aaT q h)]; exact q
section
variable (K : PySem.W.Frag) (Pr : Hp -> Hp) (σ : St) (H0 : Hp)
end
section
variable {K : PySem.W.Frag} {Pr : Hp -> Hp} {σ : St} {H0 : Hp} {te tb : TE} {ta : TA} {T : Tr} {Ts Us : List Tr}
end
end L2
end
section
namespace L2
open PySem PySem.Spec PyProof.Rows
noncomputable def notStar : Expr -> Bool
 | .Starred _ _ => false
 | _ => true
theorem ad3 {e : Expr} {es : List Expr} {env : Env} (h : notStar e = true) : starEach (e :: es) env = (false, eval e env) :: starEach es env := by
 cases e <;> first | rfl | (unfold notStar at h; cases h)
noncomputable def tEv (K : PySem.W.Frag) (T : Tr) : TE := fun _ H Q => ∀ v H', Same H H' -> (∀ Pr, Pj Pr H -> Rep K (Pr H') v T) -> Q v H'
noncomputable def aq8 (K : PySem.W.Frag) (Ts : List Tr) : TA := fun _ H Q => ∀ vs H', Same H H' -> (∀ Pr, Pj Pr H -> aa1 K (Pr H') vs Ts) -> Q vs H'
noncomputable def auu (K : PySem.W.Frag) (Ts : List Tr) : TE := fun _ H Q => ∀ a xs H1, Same H H1 -> H1 a = none -> (∀ Pr, Pj Pr H -> aa1 K (Pr H1) xs Ts) -> xs.length = Ts.length -> Q (.ref a) (upd H1 a (.lst xs))
theorem PE.imp {X : Cx} {e : Expr} {t u : TE} (h : PE X e t) (i : ∀ σ H Q, u σ H Q -> t σ H Q) : PE X e u := fun pins s σ H Q I q => h pins s σ H Q I (i σ H Q q)
theorem PA.imp {X : Cx} {e : List Expr} {t u : TA} (h : PA X e t) (i : ∀ σ H Q, u σ H Q -> t σ H Q) : PA X e u := fun pos pins s σ H Q I q => h pos pins s σ H Q I (i σ H Q q)
section
variable {X : Cx} {e : Expr} {es : List Expr} {T : Tr} {Ts : List Tr} {pos : Pos} {k : Nat}
end
end L2
end
section
namespace L2
open PySem PySem.Spec PyProof.Rows
mutual
noncomputable def pd : Tr -> PyData
 | .non => .none
 | .bl b => .bool b
 | .int i => .int i
 | .str x => .str x
 | .tup ts => .tuple (pds ts)
 | .lst ts => .list (pds ts)
noncomputable def pds : List Tr -> List PyData
 | [] => []
 | t :: r => pd t :: pds r
end
section
variable {X : Cx} {pins : List (Addr × Obj)} {σ : St} {H : Hp} {s : Shared}
end
end L2
end
section
namespace L2
open PySem PySem.Spec PyProof.Rows
noncomputable def awQ : V -> Option Int -> Option Int -> Hp -> VK -> Prop := fun x lo hi H Q => ∃ z, x = .str z /\ z.length <= sizeLine /\ Q (.str (Txt.slice z lo hi)) H
theorem arQ {X : Cx} : SlR X awQ := by
 intro pins s σ H x v vl vu lo hi sl Q I rx hs pl pu h
 obtain ⟨z, rfl, hz, q⟩ := h
 obtain ⟨t, rfl⟩ := rx
 obtain ⟨o, h1, h2, h3⟩ := hs
 have fin : ∀ (t' : Tok) (k : Nat), EP X pins σ Q (.str (Txt.slice z lo hi) t') { s with toks := k } := fun t' k => ⟨.str _, H, I.tok k, ⟨_, rfl⟩, q⟩
 have hl := Nat.le_trans (Txt.slice_le z lo hi) hz
 refine ⟨"str", _, F.slot_str_getitem.lookup, typeIs_str _ _ _, ?_⟩
 cases pl with
 | none =>
  cases pu with
  | none => exact wpAny_getItem_str_slice (l := none) (u := none) (st := none) ⟨o, h1, h2, h3⟩ rfl (post_val_or_str ⟨hl, fun t' k => fin t' k⟩)
  | int j uj => exact wpAny_getItem_str_slice (l := none) (u := some (j, uj)) (st := none) ⟨o, h1, h2, h3⟩ rfl (post_val_or_str ⟨hl, fun t' k => fin t' k⟩)
 | int i ui =>
  cases pu with
  | none => exact wpAny_getItem_str_slice (l := some (i, ui)) (u := none) (st := none) ⟨o, h1, h2, h3⟩ rfl (post_val_or_str ⟨hl, fun t' k => fin t' k⟩)
  | int j uj => exact wpAny_getItem_str_slice (l := some (i, ui)) (u := some (j, uj)) (st := none) ⟨o, h1, h2, h3⟩ rfl (post_val_or_str ⟨hl, fun t' k => fin t' k⟩)
noncomputable def nw (H H' : Hp) : Hp := fun b => match H b with
 | none => H' b
 | some _ => none
end L2
end
section
namespace L2
open PySem PySem.Spec PyProof.Rows
noncomputable def CXF (P : Program) (w : World) : CXT := fun outer H s E e s' => ∃ ea cls a0 H' B, e = .ref ea /\ E cls none H' /\ s'.os = s.os /\ AllBare s'.gens /\ Un (frs outer) [] H H' s.heap s'.heap /\ HOk P w H' B /\
 Heap.FlyingW B outer ea cls a0 s'.heap /\ ∀ b o, s.heap.get? b = some o -> b ∉ frs outer -> ∃ o', B.get? b = some o'
theorem anz {env : Env} {outer : List Env} {L b : Addr} (hf : env.frame = some L) (h : b ∈ frs (env :: outer)) : b = L \/ b ∈ frs outer := by
 unfold frs at h
 rw [List.filterMap_cons_some hf] at h
 exact List.mem_cons.mp h
theorem apG {env : Env} {outer : List Env} {b : Addr} (h : b ∈ frs outer) : b ∈ frs (env :: outer) := by
 obtain ⟨e, he, q⟩ := List.mem_filterMap.mp h
 exact List.mem_filterMap.mpr ⟨e, List.mem_cons_of_mem _ he, q⟩
theorem anA {P : Program} {w : World} {H : Hp} {h : Heap} {l : List Addr} (x : HOk P w H h) (fr : ∀ b ∈ l, H b = none) : HOk P w H (PySem.W.hideAll h l) := fun a o e =>
 (x a o e).stay (fun b u hb q => PySem.W.hideAll_get _ q fun hm => by
  rcases hb with rfl | hb
  ·rw [fr _ hm] at e; cases e
  ·rw [fr _ hm] at hb; cases hb) (fun _ q => q) fun _ _ q => q
section
variable {P : Program} {w : World} {K : PySem.W.Frag} {mg : Str -> Option Value} {base : Heap} {N : List Str} {qual : Str} {scope : Scope} {f : Addr} {cd : Value} {A : Around} {outer : List Env} {s : Shared} {H : Hp} {E : XK} {CX : CXT}
theorem Un.left {pins : List (Addr × Obj)} {σ : St} {H1 H2 : Hp} {s1 : Shared} {h2 h3 B : Heap} (I : Inv (aj2 CX P w K mg base N qual scope f cd A outer s H E) pins σ H1 s1)
  (u : Un (frs (envOfC qual scope s.heap.objs.size f cd :: outer)) [] H1 H2 s1.heap h2) (st : B.StaysIn h2) (kb : ∀ b o, s1.heap.get? b = some o -> b ∉ frs (envOfC qual scope s.heap.objs.size f cd :: outer) -> ∃ o', B.get? b = some o')
  (fl : B.StaysIn h3) (sl : h2.UpToSlots h3) : Un (frs outer) [] H H2 s.heap h3 /\ ∀ b o, s.heap.get? b = some o -> b ∉ frs outer -> ∃ o', B.get? b = some o' := by
 have ub := I.base
 have hf : (envOfC qual scope s.heap.objs.size f cd).frame = some s.heap.objs.size := by
  rcases I.ok.stk with z | z
  ·exact absurd (congrArg List.length z) (by show outer.length + 1 ≠ outer.length; omega)
  ·exact z.2
 have no : ∀ b o, s.heap.get? b = some o -> b ∉ frs outer -> b ∉ frs (envOfC qual scope s.heap.objs.size f cd :: outer) := fun b o e n z => by
  rcases anz hf z with rfl | z
  ·exact absurd (Heap.lt_size e) (Nat.lt_irrefl _)
  ·exact n z
 have nx : ∀ b : Addr, b ∉ ([] : List Addr) := fun b z => nomatch z
 have inB : ∀ b o, s.heap.get? b = some o -> b ∉ frs outer -> ∃ o', B.get? b = some o' := fun b o e n => by
  obtain ⟨o1, e1⟩ := ub.there b o e (nx b)
  exact kb b o1 e1 (no b o e n)
 have slots : ∀ b o, s.heap.get? b = some o -> H b = none -> b ∈ frs outer -> ∃ sl, h3.get? b = some { o with slots := sl } := fun b o e n z => by
  obtain ⟨sl1, e1⟩ := ub.slot b o e n z (nx b)
  obtain ⟨sl2, e2⟩ := u.slot b _ e1 (ub.free b o e n (nx b)) (apG z) (nx b)
  obtain ⟨_, o', e', nf⟩ := I.ok.aln.mem z
  have e'' : s.heap.get? b = some o' := e'
  rw [e] at e''
  cases e''
  obtain ⟨sl3, e3⟩ := sl b _ e2 nf
  exact ⟨sl3, e3⟩
 refine ⟨⟨fun b o e n z _ => ?_, fun b o e n z _ => slots b o e n z, fun b o e n _ => ?_, fun b o e _ => ?_, fun b xs q => u.tups b xs (ub.tups b xs q), fun b o q z => u.alr b o q (ub.alr b o q z), fun b ps q => ?_⟩, inB⟩
 ·have e1 := ub.keep b o e n z (nx b)
  have e2 := u.keep b o e1 (ub.free b o e n (nx b)) (no b o e z) (nx b)
  obtain ⟨o', e3⟩ := inB b o e z
  have e4 := st b o' e3
  rw [e2] at e4
  cases e4
  exact fl b o e3
 ·obtain ⟨o1, e1⟩ := ub.there b o e (nx b)
  exact u.free b o1 e1 (ub.free b o e n (nx b)) (nx b)
 ·by_cases z : b ∈ frs outer
  ·obtain ⟨sl, e1⟩ := slots b o e (I.ok.frf b z) z
   exact ⟨_, e1⟩
  ·obtain ⟨o', e1⟩ := inB b o e z
   exact ⟨o', fl b o' e1⟩
 ·obtain ⟨m1, e1⟩ := ub.als b ps q
  obtain ⟨m2, e2⟩ := u.als b _ e1
  exact ⟨m1 ++ m2, by rw [e2, Array.append_assoc]⟩
end
noncomputable def Raises (X : Cx) (E : XK) : Prop := ∀ (pins : List (Addr × Obj)) (σ : St) (H : Hp) (s : Shared) (h' : Heap) (e C : Addr) (us : List Value), Inv X pins σ H s -> Heap.MadeExcOf s.heap h' e (.ref C) us -> E (.ref C) none H -> X.xe (.ref e) { s with heap := h' }
theorem ago {P : Program} {w : World} {K : PySem.W.Frag} {mg : Str -> Option Value} {base : Heap} {N : List Str} {qual : Str} {scope : Scope} {f : Addr} {cd : Value} {A : Around} {outer : List Env} {s : Shared} {H : Hp} {E : XK} :
  Raises (aj2 (CXF P w) P w K mg base N qual scope f cd A outer s H E) E := by
 intro pins σ H1 s1 h' e C us I hx q
 have hs := I.stack
 have hf : (envOfC qual scope s.heap.objs.size f cd).frame = some s.heap.objs.size := by
  rcases I.ok.stk with z | z
  ·exact absurd (congrArg List.length z) (by show outer.length + 1 ≠ outer.length; omega)
  ·exact z.2
 have hin : ∀ env ∈ (envOfC qual scope s.heap.objs.size f cd :: outer), ∀ a, env.frame = some a -> a ∈ frs (envOfC qual scope s.heap.objs.size f cd :: outer) := fun env he b hb => List.mem_filterMap.mpr ⟨env, he, hb⟩
 have stB : (PySem.W.hideAll s1.heap (frs (envOfC qual scope s.heap.objs.size f cd :: outer))).StaysIn s1.heap := fun b o z => PySem.W.of_hideAll _ z
 have stH : (PySem.W.hideAll s1.heap (frs (envOfC qual scope s.heap.objs.size f cd :: outer))).StaysIn h' := fun b o z => hx.keeps b o (stB b o z)
 refine wpAny_leaves_madeW (base := PySem.W.hideAll s1.heap (frs (envOfC qual scope s.heap.objs.size f cd :: outer))) (h := s1.heap) I.ok.frames hf stB (PySem.W.funFrames_hide hs hin) hx fun h'' t fl _ _ sl => ?_
 obtain ⟨un, ib⟩ := Un.left (B := PySem.W.hideAll s1.heap (frs (envOfC qual scope s.heap.objs.size f cd :: outer))) I (Un.kept (h' := h') hx.keeps) stH (fun b o z n => ⟨o, PySem.W.hideAll_get _ z n⟩) fl.1 sl
 exact ⟨e, .ref C, .ref t, H1, _, rfl, q, I.os, I.bare, un, anA I.hok I.ahv, fl, ib⟩
theorem aay {P : Program} {w : World} {K : PySem.W.Frag} {mg : Str -> Option Value} {base : Heap} {N : List Str} {qual : Str} {scope : Scope} {f : Addr} {cd : Value} {A : Around} {outer : List Env} {s : Shared} {H : Hp} {E : XK} :
  Passes (CXF P w) (aj2 (CXF P w) P w K mg base N qual scope f cd A outer s H E) E := by
 intro pins σ H1 s1 e s' I h
 obtain ⟨ea, cls, a0, H2, B, rfl, q, os, bare, un, hok, fl, kb⟩ := h
 have hf : (envOfC qual scope s.heap.objs.size f cd).frame = some s.heap.objs.size := by
  rcases I.ok.stk with z | z
  ·exact absurd (congrArg List.length z) (by show outer.length + 1 ≠ outer.length; omega)
  ·exact z.2
 refine wpAny_leaves_onW (base := B) I.ok.frames hf fl fun h'' fl' sl => ?_
 obtain ⟨un', ib⟩ := Un.left (B := B) I un fl.1 kb fl'.1 sl
 exact ⟨ea, cls, a0, H2, B, rfl, q, os.trans I.os, bare, un', hok, fl', ib⟩
noncomputable def aoN (E : XK) (C : Addr) (te : TE) : TS := fun _ σ H => te σ H fun v H1 => [v].length = 1 /\ E (.ref C) none H1
theorem ahC {X : Cx} {E : XK} {x : Str} {C : Addr} {B newId initId : String} {bm : List Value} {np cpos pos : Pos} {e : Expr} {te : TE} (R : Raises X E) (O : OwnCls x C bm newId X.mg X.base) (FB : ExcBaseFacts B newId initId bm) (hc : X.calm = true) (ha : PE X e te)
  (hg : Gl X x := by rfl) (hd : (x == ("__debug__" : Str)) = false := by decide) (hs : starEach [e] X.env = [(false, eval e X.env)] := by rfl) :
  PS X (.Raise (some (.Call (.Name x np) [e] [] cpos)) none pos) (aoN E C te) := by
 intro pins s σ H D I h
 obtain ⟨tl, N, nm, q, bs, hdct, sn, sub, ab, col, dd, k0, k1, k2, k3, k5, mN, hC, hN, hni, T⟩ := O.obj
 refine wpAny_Raise_call_subT (C := C) (nm := nm) (q := q) (N := N) (bs := bs) (bm := tl) (hdct := hdct) (sn := sn) (sub := sub) (ab := ab) (col := col) (dd := dd) (k0 := k0) (k1 := k1) (k2 := k2) (k3 := k3) (k5 := k5)
  FB (mN := mN) (T.hasType FB.hasBase) (I.ok.hd hc) (by rw [hs]; rfl) hni (ai7 I hg O.bound ⟨rfl, ?_⟩ hd)
 have ga : PA X [e] (afl te aoI) := acY ha aaj (by rw [hs]; rfl)
 have z := ga cpos pins s σ H (fun vs H1 => vs.length = 1 /\ E (.ref C) none H1) I (by
  show te σ H fun v H1 => _
  exact h)
 rw [hs] at z ⊢
 refine Calls.evalArgs_plain (wpAny_mono z (fun us s₂ h₂ => ?_) fun _ _ y => y)
 obtain ⟨vs, H2, I2, rv, hl, hE⟩ := h₂
 refine ⟨rfl, ?_, I2.bk _ _ hC, hN.keeps I2.bk, T.keeps I2.bk, fun h' e' hm => R pins σ H2 s₂ h' e' C us I2 hm hE⟩
 rw [<-rv.length, hl]
 decide
end L2
end
section
namespace L2
open PySem PySem.Spec PyProof.Rows
noncomputable def XP (X : Cx) (pins : List (Addr × Obj)) (EX : St -> XK) (e : Value) (s' : Shared) : Prop := ∃ σ H s, Inv X pins σ H s /\ CXF X.prog X.w X.stack H s (EX σ) e s'
noncomputable abbrev TX := Ends -> (St -> XK) -> St -> Hp -> Prop
noncomputable abbrev TEX := (St -> XK) -> TE
section
variable {X : Cx} {k : Nat} {f : Addr} {fd : FuncData} {x : Str} {ps : List Str} {sp : Sp} {p pos : Pos} {e : Expr} {es : List Expr} {te : TEX} {t : TA} {st : Stmt} {rest : List Stmt} {a b : TX}
end
end L2
end
section
namespace L2
open PySem PySem.Spec PyProof.Rows
section
variable {X : Cx} {pins : List (Addr × Obj)} {σ : St} {H1 H2 : Hp} {s0 s1 : Shared} {B h6 : Heap} {ea : Addr} {cls a0 : Value}
end
end L2
end
section
namespace L2
open PySem PySem.Spec PyProof.Rows
section
variable {X : Cx} {pins : List (Addr × Obj)} {σ : St} {H : Hp} {s : Shared} {e : Value}
end
end L2
end
section
namespace L2
open PySem PySem.Spec PyProof.Rows PySem.W PySem.Builtin PySem.Builtin.ObjectAttr PySem.Builtin.Getset_descriptor
section
variable {prog : Program} {w : World} {A : Around} {E : Value -> Shared -> Prop} {h : Heap} {g : Array GenState} {d : Drawn} {t : Nat} {os : OsState} {a C : Addr} {o : Obj} {K : Frag}
end
section
variable {X : Cx}
end
end L2
end
section
namespace L2
open PySem
theorem alN (a b : Int) : a = b * a.fdiv b + a.fmod b := by
 have := Int.mul_fdiv_add_fmod a b
 omega
theorem akS (a b : Int) (h : b ≠ 0) : (a.fmod b).natAbs < b.natAbs := by
 have h1 := Int.emod_nonneg a h
 have h2 := Int.emod_lt a h
 rw [Int.fmod_eq_emod]
 split
 ·omega
 ·rename_i hn
  have hb : ¬ 0 <= b := fun z => hn (.inl z)
  have hd : ¬ b ∣ a := fun z => hn (.inr z)
  have h3 : a % b ≠ 0 := fun z => hd (Int.dvd_of_emod_eq_zero z)
  omega
theorem aj6 (a b : Int) : Int.gcd b (a.fmod b) = Int.gcd a b := by
 have e := alN a b
 apply Nat.dvd_antisymm
 ·refine Int.dvd_gcd ?_ ?_
  ·have h1 : (Int.gcd b (a.fmod b) : Int) ∣ b := Int.gcd_dvd_left ..
   have h2 : (Int.gcd b (a.fmod b) : Int) ∣ a.fmod b := Int.gcd_dvd_right ..
   have h3 := Int.dvd_add (Int.dvd_mul_of_dvd_left (c := a.fdiv b) h1) h2
   rw [<-e] at h3
   exact h3
  ·exact Int.gcd_dvd_left ..
 ·refine Int.dvd_gcd ?_ ?_
  ·exact Int.gcd_dvd_right ..
  ·have h1 : (Int.gcd a b : Int) ∣ a := Int.gcd_dvd_left ..
   have h2 : (Int.gcd a b : Int) ∣ b := Int.gcd_dvd_right ..
   have e2 : a.fmod b = a - b * a.fdiv b := by omega
   rw [e2]
   exact Int.dvd_sub h1 (Int.dvd_mul_of_dvd_left h2)
theorem apH (a : Int) : (if a < 0 then -a else a) = ((Int.gcd a 0 : Nat) : Int) := by
 rw [Int.gcd_zero_right]
 split <;> omega
theorem ad4 {a b : Int} (hb : 0 < b) : 0 < ((Int.gcd a b : Nat) : Int) /\ ((Int.gcd a b : Nat) : Int) <= b /\ 1 <= b / (Int.gcd a b : Nat) /\ Int.gcd (a / (Int.gcd a b : Nat)) (b / (Int.gcd a b : Nat)) = 1 /\ (0 <= a -> 0 <= a / (Int.gcd a b : Nat)) /\
  a = (a / (Int.gcd a b : Nat)) * (Int.gcd a b : Nat) /\ b = (b / (Int.gcd a b : Nat)) * (Int.gcd a b : Nat) := by
 have hg : 0 < Int.gcd a b := Int.gcd_pos_of_ne_zero_right a (by omega)
 have hgi : 0 < ((Int.gcd a b : Nat) : Int) := by omega
 have d1 : (Int.gcd a b : Int) ∣ a := Int.gcd_dvd_left ..
 have d2 : (Int.gcd a b : Int) ∣ b := Int.gcd_dvd_right ..
 have e1 := Int.ediv_mul_cancel d1
 have e2 := Int.ediv_mul_cancel d2
 refine ⟨hgi, Int.le_of_dvd hb d2, ?_, Int.gcd_ediv_gcd_ediv_gcd hg, fun h => Int.ediv_nonneg h (by omega), e1.symm, e2.symm⟩
 have : 0 < b / (Int.gcd a b : Nat) := Int.ediv_pos_of_pos_of_dvd hb (by omega) d2
 omega
end L2
end
section
namespace L2
open PySem PySem.Spec PyProof.Rows
section
variable {X : Cx}
end
theorem apI {p q p' q' : Int} (h1 : 1 <= q) (h2 : 1 <= q') (g1 : Int.gcd p q = 1) (g2 : Int.gcd p' q' = 1) (e : p * q' = p' * q) : p = p' /\ q = q' := by
 have en : p.natAbs * q'.natAbs = p'.natAbs * q.natAbs := by rw [<-Int.natAbs_mul, <-Int.natAbs_mul, e]
 have c1 : Nat.Coprime q.natAbs p.natAbs := by rw [Nat.coprime_comm]; exact g1
 have c2 : Nat.Coprime q'.natAbs p'.natAbs := by rw [Nat.coprime_comm]; exact g2
 have d1 : q.natAbs ∣ q'.natAbs := c1.dvd_of_dvd_mul_left ⟨p'.natAbs, by rw [en, Nat.mul_comm]⟩
 have d2 : q'.natAbs ∣ q.natAbs := c2.dvd_of_dvd_mul_left ⟨p.natAbs, by rw [<-en, Nat.mul_comm]⟩
 have ea := Nat.dvd_antisymm d1 d2
 have eq : q = q' := by omega
 refine ⟨?_, eq⟩
 rw [<-eq] at e
 exact Int.eq_of_mul_eq_mul_right (by omega) e
end L2
end
section
namespace L2
open PySem PySem.Spec PyProof.Rows PySem.W
theorem alO {K : Frag} {h : Heap} {mg : Str -> Option Value} {x : Str} {C : Addr} {bmB : List Value} {newId : String} (X : K.In h) (G : h.Ns mainGlobals mg) (e : nsIn K mainGlobals x = some (some (.ref C))) (q : excIn K C bmB newId = true) : OwnCls x C bmB newId mg h := by
 constructor
 ·exact mg_of X G e
 unfold excIn at q
 split at q
 case h_2 => cases q
 rename_i dd cd sl lk
 split at q
 case h_2 => cases q
 rename_i c0 bm y0 y1 y2 y3 nid y5 hm hl
 rw [Bool.and_eq_true, Bool.and_eq_true, Bool.and_eq_true, Bool.and_eq_true, Bool.and_eq_true] at q
 obtain ⟨⟨⟨⟨⟨q1, q2⟩, q3⟩, q4⟩, q5⟩, q6⟩ := q
 have r1 := beq_iff_eq.mp q1
 have r2 := beq_iff_eq.mp q2
 have r6 := beq_iff_eq.mp q6
 have r3 : cd.hasDel = false := by simpa using q3
 subst r1 r2
 have hsl : sl = #[y0, y1, y2, y3, some (.builtin nid), y5] := by
  cases sl with
  | mk l => exact congrArg Array.mk hl
 subst hsl
 cases cd with
 | mk nm bs mro ns qn hd sn sub ab col del =>
  dsimp only at hm r3 q5 r6
  subst hm r3
  exact ⟨bm, ns, nm, qn, bs, hd, sn, sub, ab, col, dd, y0, y1, y2, y3, y5, _, X _ _ lk, .of_isNs (isNs_of_in X q5), nsMap_none_of_in X q5 r6, tail_of_in X q4⟩
section
variable {P : Program} {w : World} {K : Frag} {mg : Str -> Option Value} {base : Heap}
theorem Fun.okX {x qual : Str} {st : Stmt} {f : Addr} {fd : FuncData} {N ps : List Str} {k : Nat} {sp : Sp} (F : Fun K x qual st f fd) (S : aaE N ps (aan st)) (len : ∀ vs H Q E, sp vs H Q E -> vs.length = ps.length)
  (hbody : ∀ (cdv : Value) (A : Around) (outer : List Env) (s : Shared) (H : Hp) (vs : List V) (Q : VK) (E : XK), afN k (A.deeper (envOfC qual (aan st) s.heap.objs.size f cdv)) -> sp vs H Q E ->
   ∃ t, PSs (aj2 (CXF P w) P w K mg base N qual (aan st) f cdv A outer s H E) (abY st) t /\ t { nx := fun _ H' => Q .non H', rt := Q } (start N vs) H) : akM P w K mg base (CXF P w) (k + 1) f fd ps sp := by
 obtain ⟨oc, od, kV, doc, pm, an, cdv, ct, osl, rfl, lk, hcd⟩ := F.ex
 exact arC lk hcd S len fun A outer s H vs Q E hr h => hbody cdv A outer s H vs Q E hr h
noncomputable def DfX (P : Program) (w : World) (K : Frag) (mg : Str -> Option Value) (base : Heap) (k : Nat) (x : Str) (ps : List Str) (sp : Sp) : Prop :=
 ∃ f fd, akM P w K mg base (CXF P w) k f fd ps sp /\ Binds K fd ps [] /\ keepIn K (.ref f) = true /\ mg x = some (.ref f)
theorem DfX.mono {j k : Nat} {x : Str} {ps : List Str} {sp : Sp} (D : DfX P w K mg base j x ps sp) (h : j <= k) : DfX P w K mg base k x ps sp := by
 obtain ⟨f, fd, h1, h2⟩ := D
 exact ⟨f, fd, h1.mono h, h2⟩
theorem At.dfx {k : Nat} {x : Str} {st : Stmt} {N ps : List Str} {sp : Sp} (a : At K mg x st) (S : aaE N ps (aan st))
  (hb : ∀ (kV doc pm : Value) (an : Option Addr) (cdv ct : Value) (us : List Value), us.length = ps.length -> bindArgs (fnOf x x (acZ st) (abY st) (aan st) .none kV doc pm an cdv ct) ⟨us, []⟩ = pure (ps.zip us))
  (len : ∀ vs H Q E, sp vs H Q E -> vs.length = ps.length)
  (hbody : ∀ (f : Addr) (cdv : Value) (A : Around) (outer : List Env) (s : Shared) (H : Hp) (vs : List V) (Q : VK) (E : XK), afN k (A.deeper (envOfC x (aan st) s.heap.objs.size f cdv)) -> sp vs H Q E ->
   ∃ t, PSs (aj2 (CXF P w) P w K mg base N x (aan st) f cdv A outer s H E) (abY st) t /\ t { nx := fun _ H' => Q .non H', rt := Q } (start N vs) H) : DfX P w K mg base (k + 1) x ps sp := by
 obtain ⟨f, fd, F, m⟩ := a
 exact ⟨f, fd, F.okX S len fun cdv A outer s H vs Q E hr h => hbody f cdv A outer s H vs Q E hr h, F.binds hb, F.kp, m⟩
end
section
variable {X : Cx} {k : Nat} {x : Str} {ps : List Str} {sp : Sp} {p pos : Pos} {e : Expr} {es : List Expr} {t : TA}
theorem ace {P : Program} {w : World} : Passes (CXF P w) X E0 := fun _ _ _ _ _ _ _ h => by
 obtain ⟨_, _, _, _, _, _, q, _⟩ := h
 exact q.elim
end
end L2
end
section
namespace L2
open PySem PySem.Spec PyProof.Rows
noncomputable def Itz (K : PySem.W.Frag) (l1 l2 : Addr) : It where
 go := fun i H => ∃ xs ys x y, SqL K H l1 xs /\ SqL K H l2 ys /\ xs[i]? = some x /\ ys[i]? = some y
 yld := fun i H v H' => ∃ T x y, v = .ref T /\ H T = none /\ H' = upd H T (.tup [x, y]) /\ ∀ xs ys, SqL K H l1 xs -> SqL K H l2 ys -> xs[i]? = some x /\ ys[i]? = some y
 stop := fun i H => ∃ xs ys, SqL K H l1 xs /\ SqL K H l2 ys /\ i = min xs.length ys.length
noncomputable def au1 (l1 l2 z TI TO i1 i2 : Addr) (i : Nat) (h : Heap) : Prop := IsZip h z TI TO .none /\ IsPair h TI (.ref i1) (.ref i2) /\ (∃ a b, IsPair h TO a b) /\ h.IsListIter i1 l1 i /\ h.IsListIter i2 l2 i
section
variable {P : Program} {w : World} {K : PySem.W.Frag}
theorem Inv.arR {X : Cx} {pins : List (Addr × Obj)} {σ : St} {H : Hp} {s : Shared} {h' : Heap} {tk : Nat} {fp : List Addr} {T : Addr} {xs : List V} {its : List Value} (I : Inv X pins σ H s) (hf : ∀ b ∈ fp, aeK X pins H b) (k : ∀ b o, b ∉ fp -> s.heap.get? b = some o -> h'.get? b = some o)
  (th : ∀ b ∈ fp, ∃ o, h'.get? b = some o) (hT : s.heap.objs.size <= T) (ht : IsTup h' T its.toArray) (rv : Vals xs its) (hz : xs.length <= sizeLine) : Inv X pins σ (upd H T (.tup xs)) { s with heap := h', toks := tk } := by
 have fT : H T = none := I.hok.fresh hT
 have neT : ∀ b o, s.heap.get? b = some o -> b ≠ T := fun b o e z => by rw [z] at e; exact absurd (Heap.lt_size e) (Nat.not_lt.mpr hT)
 have neH : ∀ b o, H b = some o -> b ≠ T := fun b o e z => by rw [z, fT] at e; cases e
 refine I.step (g' := s.gens) (d' := s.drawn) (ch := fp) (fun b hb => ?_) (fun b o _ _ hc e _ => k b o hc e) (fun b o _ _ hc e _ => ⟨o.slots, k b o hc e⟩) (fun b o _ e n => by rw [aaH (neT b o e)]; exact n) (fun b o hc e => ⟨o, k b o hc e⟩)
  (fun b ys e => by rw [aaH (neH b _ e)]; exact e) (fun b o u e => by rw [aaH (neH b _ e)]; exact e) (fun b ps e => ⟨#[], by rw [aaH (neH b _ e)]; simpa using e⟩) (fun m hm => ?_) (fun b u e => ?_) I.bare
 ·obtain ⟨f0, f1, f2, f3, f4, f5⟩ := hf b hb
  exact ⟨f3, f1, f4, f5⟩
 ·obtain ⟨o, es, ep, ho, r⟩ := hm
  exact ⟨o, es, ep, k _ o (fun z => (hf _ z).2.1 rfl) ho, r⟩
 ·by_cases z : b = T
  ·subst z
   rw [aa9] at e
   cases e
   exact ⟨hz, its, rv, ht⟩
  ·rw [aaH z] at e
   refine (I.hok b u e).stay (fun c o hc q => k c o (fun zc => ?_) q) (fun c q => by rw [aaH (neH c _ q)]; exact q) fun c ys q => by rw [aaH (neH c _ q)]; exact q
   have := (hf c zc).1
   rcases hc with rfl | hc
   ·rw [this] at e; cases e
   ·rw [this] at hc; cases hc
theorem Inv.alP {X : Cx} {pins : List (Addr × Obj)} {σ : St} {H : Hp} {s : Shared} {h' : Heap} {tk : Nat} {fp : List Addr} (I : Inv X pins σ H s) (hf : ∀ b ∈ fp, aeK X pins H b) (k : ∀ b o, b ∉ fp -> s.heap.get? b = some o -> h'.get? b = some o) : Inv X pins σ H { s with heap := h', toks := tk } := by
 refine I.step (g' := s.gens) (d' := s.drawn) (ch := fp) (fun b hb => ?_) (fun b o _ _ hc e _ => k b o hc e) (fun b o _ _ hc e _ => ⟨o.slots, k b o hc e⟩) (fun b o _ e n => n) (fun b o hc e => ⟨o, k b o hc e⟩)
  (fun b ys e => e) (fun b o u e => e) (fun b ps e => ⟨#[], by simpa using e⟩) (fun m hm => ?_) (fun b u e => ?_) I.bare
 ·obtain ⟨f0, f1, f2, f3, f4, f5⟩ := hf b hb
  exact ⟨f3, f1, f4, f5⟩
 ·obtain ⟨o, es, ep, ho, r⟩ := hm
  exact ⟨o, es, ep, k _ o (fun z => (hf _ z).2.1 rfl) ho, r⟩
 ·refine (I.hok b u e).stay (fun c o hc q => k c o (fun zc => ?_) q) (fun c q => q) fun c ys q => q
  have := (hf c zc).1
  rcases hc with rfl | hc
  ·rw [this] at e; cases e
  ·rw [this] at hc; cases hc
theorem anB {elts : List Expr} {k : Nat} {pos : Pos} (l1 l2 z TI TO i1 i2 : Addr) (D : ZipApart z TI TO i1 i2 l1 l2) : Turn P w K (.Tuple elts k pos) (Itz K l1 l2) [z, TI, TO, i1, i2] z (au1 l1 l2 z TI TO i1 i2) where
 mem := by simp
 obj := fun i h st b hb => by
  obtain ⟨hz, hTI, ⟨a, c, hTO⟩, ⟨o1, e1, _, d1⟩, ⟨o2, e2, _, d2⟩⟩ := st
  have hb' : b = z \/ b = TI \/ b = TO \/ b = i1 \/ b = i2 := by simpa using hb
  rcases hb' with rfl | rfl | rfl | rfl | rfl
  ·exact ⟨_, hz, fun v q => nomatch q⟩
  ·exact ⟨_, hTI, fun v q => nomatch q⟩
  ·exact ⟨_, hTO, fun v q => nomatch q⟩
  ·exact ⟨o1, e1, fun v q => by rw [d1] at q; cases q⟩
  ·exact ⟨o2, e2, fun v q => by rw [d2] at q; cases q⟩
 keep := fun i h h' st kp => by
  obtain ⟨hz, hTI, ⟨a, c, hTO⟩, h1, h2⟩ := st
  exact ⟨kp z (by simp) _ hz, kp TI (by simp) _ hTI, ⟨a, c, kp TO (by simp) _ hTO⟩, h1.at fun o e => kp i1 (by simp) o e, h2.at fun o e => kp i2 (by simp) o e⟩
 item := by
  intro X hP hw hK hc i pins s σ H E I hf st hg
  subst hP hw hK
  obtain ⟨xs, ys, x, y, q1, q2, hx, hy⟩ := hg
  obtain ⟨aje, rv1, p1, _⟩ := I.list q1
  obtain ⟨its2, rv2, p2, _⟩ := I.list q2
  obtain ⟨u, hu, ru⟩ := rv1.get hx
  obtain ⟨v, hv, rv⟩ := rv2.get hy
  have W := WalksT.zip2 (prog := X.prog) (w := X.w) (A := X.A) (I.ok.hd hc) z TI TO i1 i2 l1 l2 D aje.toArray its2.toArray
  have lt1 : i < aje.length := (List.getElem?_eq_some_iff.mp hu).1
  have lt2 : i < its2.length := (List.getElem?_eq_some_iff.mp hv).1
  refine W.item i s _ E (by simp; omega) ⟨st.1, st.2.1, st.2.2.1, st.2.2.2.1, st.2.2.2.2, p1.isList, p2.isList⟩ fun T vals h' tk hp hT ht mid kk => ?_
  obtain ⟨u', v', e1, e2, rfl⟩ := hp
  have eu : u' = u := by
   have : aje[i]? = some u' := by simpa using e1
   rw [hu] at this; cases this; rfl
  have ev : v' = v := by
   have : its2[i]? = some v' := by simpa using e2
   rw [hv] at this; cases this; rfl
  subst eu ev
  refine ⟨.ref T, rfl, ?_⟩
  refine W.go elts k pos i T _ _ E mid fun h'' st' kk' => ?_
  have nT := W.apart i T _ mid
  have ob := (fun b hb => (by
   obtain ⟨hz, hTI, ⟨a, c, hTO⟩, ⟨o1, e1, _, d1⟩, ⟨o2, e2, _, d2⟩⟩ := st
   have hb' : b = z \/ b = TI \/ b = TO \/ b = i1 \/ b = i2 := by simpa using hb
   rcases hb' with rfl | rfl | rfl | rfl | rfl
   ·exact Heap.lt_size hz
   ·exact Heap.lt_size hTI
   ·exact Heap.lt_size hTO
   ·exact Heap.lt_size e1
   ·exact Heap.lt_size e2 : b < s.heap.objs.size) : ∀ b ∈ [z, TI, TO, i1, i2], b < s.heap.objs.size)
  have nTf : T ∉ [z, TI, TO, i1, i2] := fun m => absurd (ob T m) (Nat.not_lt.mpr hT)
  have sub : ∀ b, b ∉ [z, TI, TO, i1, i2] -> b ∉ [z, TO, i1, i2] := fun b n m => n (by simp at m ⊢; rcases m with rfl | rfl | rfl | rfl <;> simp)
  have au2 : IsTup h'' T #[u', v'] := by
   obtain ⟨o, e, r⟩ := ht
   exact ⟨o, kk' T o nT e, r⟩
  have th : ∀ b ∈ [z, TI, TO, i1, i2], ∃ o, h''.get? b = some o := fun b hb => by
   obtain ⟨hz, hTI, ⟨a, c, hTO⟩, ⟨o1, e1, _, d1⟩, ⟨o2, e2, _, d2⟩, _⟩ := st'
   have hb' : b = z \/ b = TI \/ b = TO \/ b = i1 \/ b = i2 := by simpa using hb
   rcases hb' with rfl | rfl | rfl | rfl | rfl
   ·exact ⟨_, hz⟩
   ·exact ⟨_, hTI⟩
   ·exact ⟨_, hTO⟩
   ·exact ⟨_, e1⟩
   ·exact ⟨_, e2⟩
  have I' : Inv X pins σ (upd H T (.tup [x, y])) { s with heap := h'', toks := tk } := I.arR (its := [u', v']) hf (fun b o n e => kk' b o (sub b n) (kk b o (sub b n) e)) th hT au2 (.cons ru (.cons rv .nil)) (by show 2 <= sizeLine; decide)
  refine ⟨.ref T, _, I', rfl, ⟨T, x, y, rfl, I.hok.fresh hT, rfl, fun xs' ys' a1 a2 => ?_⟩, ⟨st'.1, st'.2.1, st'.2.2.1, st'.2.2.2.1, st'.2.2.2.2.1⟩, fun b hb => ?_⟩
  ·rw [I.aeT a1 q1, I.aeT a2 q2]
   exact ⟨hx, hy⟩
  ·have nb : b ≠ T := by
    intro e0
    rw [e0] at hb
    exact nTf hb
   rw [aaH nb]
   exact (hf b hb).1
 done := by
  intro X hP hw hK hc i pins s σ H E I hf st hg
  subst hP hw hK
  obtain ⟨xs, ys, q1, q2, e⟩ := hg
  obtain ⟨aje, rv1, p1, _⟩ := I.list q1
  obtain ⟨its2, rv2, p2, _⟩ := I.list q2
  have W := WalksT.zip2 (prog := X.prog) (w := X.w) (A := X.A) (I.ok.hd hc) z TI TO i1 i2 l1 l2 D aje.toArray its2.toArray
  have ei : i = min aje.toArray.size its2.toArray.size := by simp [e, rv1.length, rv2.length]
  subst ei
  have sub : ∀ b, b ∉ [z, TI, TO, i1, i2] -> b ∉ [z, TO, i1, i2] := fun b n m => n (by simp at m ⊢; rcases m with rfl | rfl | rfl | rfl <;> simp)
  exact W.done s _ E ⟨st.1, st.2.1, st.2.2.1, st.2.2.2.1, st.2.2.2.2, p1.isList, p2.isList⟩ fun h' tk kk => ⟨rfl, I.alP hf fun b o n e => kk b o (sub b n) e⟩
 self := fun A i s Q E st h => wpAny_pyIter_zip st.1 h
end
section
variable {X : Cx}
noncomputable def awR (K : PySem.W.Frag) (ta : TA) : TI := fun σ H R => ta σ H fun vs H1 => ∃ l1 l2, vs = [.ref l1, .ref l2] /\ (∃ xs, SqL K H1 l1 xs) /\ (∃ ys, SqL K H1 l2 ys) /\ R (Itz K l1 l2) H1
theorem arS {elts : List Expr} {k : Nat} {tpos : Pos} {a b : Expr} {ta : TA} {p pos : Pos} (hm : X.mg "zip" = none) (ha : PA X [a, b] ta) (hg : Gl X "zip" := by rfl) (hs : starEach [a, b] X.env = [(false, eval a X.env), (false, eval b X.env)] := by rfl) (hs2 : starEach [b] X.env = [(false, eval b X.env)] := by rfl) :
  PI X (.Tuple elts k tpos) (.Call (.Name "zip" p) [a, b] [] pos) (awR X.K ta) := by
 intro pins s σ H R I h
 refine Call_ (afD I hg hm (show bootBuiltins "zip" = some (.type "zip") by decide +kernel) (PyProof.Rows.callWith_type1 (thn (ha pos pins s σ H _ I h) fun us s1 ⟨vs, H1, I1, r1, q1⟩ => ?_) (by rw [hs, hs2]) (by rw [hs2]; rfl)))
 obtain ⟨l1, l2, e, ⟨xs, h1⟩, ⟨ys, h2⟩, q⟩ := q1
 subst e
 cases r1 with
 | cons r rr =>
  cases rr with
  | cons r' rr =>
   cases rr
   cases r
   cases r'
   obtain ⟨aje, rv1, p1, _⟩ := I1.list h1
   obtain ⟨its2, rv2, p2, _⟩ := I1.list h2
   obtain ⟨o1, e1, _⟩ := p1.isList
   obtain ⟨o2, e2, _⟩ := p2.isList
   refine call_zip_2 p1.isList p2.isList fun h' hz hTI hTO hi1 hi2 hsz hk => ?_
   refine wpAny_pyIter_zip hz ?_
   refine ⟨_, [_, _, _, _, _], _, _, H1, rfl, I1.kept (t' := s1.toks) hk, anB l1 l2 _ _ _ _ _ (PySem.W.ktu_apart _ _ _ (Heap.lt_size e1) (Heap.lt_size e2)), ⟨hz, hTI, ⟨_, _, hTO⟩, hi1, hi2⟩, fun c hc => ?_, q⟩
   have hc' : c = s1.heap.objs.size + 4 \/ c = s1.heap.objs.size + 2 \/ c = s1.heap.objs.size + 3 \/ c = s1.heap.objs.size \/ c = s1.heap.objs.size + 1 := by simpa using hc
   have hge : s1.heap.objs.size <= c := by rcases hc' with rfl | rfl | rfl | rfl | rfl <;> omega
   exact I1.anc hge (I1.hok.fresh hge)
end
end L2
end
section
set_option exponentiation.threshold 2000
namespace L2
open PySem
end L2
end
section
namespace L2
open PySem PySem.Spec PyProof.Rows
section
variable {X : Cx} {e : Expr} {te : TE} {th : TO} {pos p2 : Pos}
end
end L2
end
section
namespace L2
open PySem PySem.Spec PyProof.Rows
section
variable {X : Cx}
end
section
variable {X : Cx} {tg : Expr}
end
end L2
end
section
namespace L2
open PySem PySem.Spec PyProof.Rows
section
variable {X : Cx}
end
end L2
end
section
namespace L2
open PySem PySem.Spec PyProof.Rows
inductive Rs (α : Type) where
 | bad | ex (c : Str) | ok (a : α)
noncomputable def Rs.bind {α β : Type} : Rs α -> (α -> Rs β) -> Rs β
 | .bad, _ => .bad
 | .ex c, _ => .ex c
 | .ok a, f => f a
noncomputable instance : Monad Rs where
 pure := .ok
 bind := Rs.bind
noncomputable def Rs.post {α : Type} (r : Rs α) (EX : Str -> Prop) (P : α -> Prop) : Prop := match r with
 | .bad => False
 | .ex c => EX c
 | .ok a => P a
theorem Rs.aaf {α β : Type} {r : Rs α} {f : α -> Rs β} {EX : Str -> Prop} {P : β -> Prop} (h : (r.bind f).post EX P) : r.post EX fun a => (f a).post EX P := by
 cases r <;> exact h
theorem Rs.aai {α : Type} {r : Rs α} {EX : Str -> Prop} {P P' : α -> Prop} (h : r.post EX P) (i : ∀ a, P a -> P' a) : r.post EX P' := by
 cases r with
 | bad => exact h
 | ex c => exact h
 | ok a => exact i a h
open Classical in
noncomputable def aaY (W : Addr -> Prop) (H : Hp) : Hp := fun b => if W b then none else H b
theorem ahD {W : Addr -> Prop} {H : Hp} {b : Addr} (h : W b) : aaY W H b = none := if_pos h
theorem aaX {W : Addr -> Prop} {H : Hp} {b : Addr} (h : ¬ W b) : aaY W H b = H b := if_neg h
theorem abm {W : Addr -> Prop} {H : Hp} {b : Addr} {o : HO} (h : aaY W H b = some o) : ¬ W b /\ H b = some o := by
 by_cases w : W b
 ·rw [ahD w] at h; cases h
 ·rw [aaX w] at h; exact ⟨w, h⟩
theorem abq (W : Addr -> Prop) (H : Hp) : Same (aaY W H) H := fun _ _ h => (abm h).2
theorem acn {W W' : Addr -> Prop} {H H' : Hp} (hw : ∀ b o, H b = some o -> W' b -> W b) (s : ∀ b o, ¬ W b -> H b = some o -> H' b = some o) : Same (aaY W H) (aaY W' H') := fun b o h => by
 obtain ⟨n, e⟩ := abm h
 rw [aaX fun w => n (hw b o e w)]
 exact s b o n e
theorem acF {W : Addr -> Prop} {H : Hp} {a : Addr} {o : HO} (h : W a) : aaY W (upd H a o) = aaY W H := by
 funext b
 by_cases w : W b
 ·rw [ahD w, ahD w]
 ·rw [aaX w, aaX w]
  exact aaH fun e => w (e ▸ h)
inductive Sl where
 | un | sh (t : Tr) | ow (ts : List Tr) | rf (ts : List Tr) | dp (ts : List Tr)
noncomputable abbrev En := List Sl
inductive Rv where
 | v (T : Tr) (fr : Bool) | s (i : Nat)
noncomputable abbrev EF := En -> Rs (Rv × En)
structure Tx where
 K : PySem.W.Frag
 Z : Addr -> Prop
 R : Addr -> Prop
 H0 : Hp
 B : Hp
 EX : Str -> Prop
noncomputable def Mu (ρ : En) (i : Nat) : Prop := ∃ ts, ρ[i]? = some (Sl.ow ts) \/ ρ[i]? = some (Sl.rf ts)
noncomputable def au3 : Tr -> Bool
 | .lst _ => true
 | _ => false
inductive DR (K : PySem.W.Frag) (G H : Hp) : List V -> List Tr -> List Addr -> Prop
 | nil : DR K G H [] [] []
 | cl {x : V} {u : Tr} {xs : List V} {ts : List Tr} {bs : List Addr} (n : au3 u = false) (h : Rep K G x u) (r : DR K G H xs ts bs) : DR K G H (x :: xs) (u :: ts) bs
 | rw {b : Addr} {ys : List V} {us : List Tr} {xs : List V} {ts : List Tr} {bs : List Addr} (h : H b = some (.lst ys)) (q : aa1 K G ys us) (r : DR K G H xs ts bs) : DR K G H (.ref b :: xs) (.lst us :: ts) (b :: bs)
noncomputable def aoO (t : Tx) (W : Addr -> Prop) (H : Hp) (a : Addr) (xs : List V) (ts : List Tr) (fp : List Addr) : Prop :=
 ∃ bs, fp = a :: bs /\ fp.Nodup /\ (∀ b ∈ fp, W b /\ t.H0 b = none) /\ H a = some (.lst xs) /\ DR t.K (aaY W H) H xs ts bs
theorem DR.move {K : PySem.W.Frag} {G G' H H' : Hp} (m : Same G G') : ∀ {xs : List V} {ts : List Tr} {bs : List Addr}, DR K G H xs ts bs -> (∀ b o, b ∈ bs -> H b = some o -> H' b = some o) -> DR K G' H' xs ts bs
 | _, _, _, .nil, _ => .nil
 | _, _, _, .cl n h r, k => .cl n (h.mono m) (DR.move m r k)
 | _, _, _, .rw h q r, k => .rw (k _ _ (List.mem_cons_self ..) h) (q.mono m) (DR.move m r fun b o hb => k b o (List.mem_cons_of_mem _ hb))
theorem aoO.move {t t' : Tx} {W W' : Addr -> Prop} {H H' : Hp} {a : Addr} {xs : List V} {ts : List Tr} {fp : List Addr} (d : aoO t W H a xs ts fp) (hK : t'.K = t.K) (h0 : t'.H0 = t.H0) (m : Same (aaY W H) (aaY W' H')) (w : ∀ b ∈ fp, W' b) (k : ∀ b o, b ∈ fp -> H b = some o -> H' b = some o) : aoO t' W' H' a xs ts fp := by
 obtain ⟨bs, e, nd, ww, ha, r⟩ := d
 refine ⟨bs, e, nd, fun b hb => ⟨w b hb, by rw [h0]; exact (ww b hb).2⟩, k a _ (by rw [e]; exact List.mem_cons_self ..) ha, ?_⟩
 rw [hK]
 exact r.move m fun b o hb => k b o (by rw [e]; exact List.mem_cons_of_mem _ hb)
noncomputable def Lt (H : Hp) (b : Addr) : Prop := (∃ xs, H b = some (.lst xs)) \/ ∃ ps, H b = some (.tbl ps)
theorem Lt.ne {H : Hp} {b : Addr} (h : Lt H b) : H b ≠ none := by
 rcases h with ⟨_, h⟩ | ⟨_, h⟩ <;> (rw [h]; intro z; cases z)
theorem Lt.grow {H H' : Hp} {b : Addr} (h : Lt H b) (s : ∀ b o, H b = some o -> H' b = some o) : Lt H' b := by
 rcases h with ⟨_, h⟩ | ⟨_, h⟩
 ·exact .inl ⟨_, s _ _ h⟩
 ·exact .inr ⟨_, s _ _ h⟩
noncomputable def abu : List Str := ["falling_places", "order_of_bounds"]
noncomputable def Tb (K : PySem.W.Frag) (b : Addr) : Prop := ∃ x ∈ abu, ∃ c, PySem.W.tabIn K x = some (c, b)
noncomputable def aoP (o : Obj) (q : Str) : Prop := ∃ vs t, o.data = .fields vs /\ vs[1]? = some (.str q t)
noncomputable def ahE (x : Str) : Str := x ++ (".<locals>." : Str) ++ ("<lambda>" : Str)
noncomputable def auv (H : Hp) (q : Str) (ps : Array Value) : Prop := TriplesOk ps.toList /\ ∀ pos v, codeAmong pos ps.toList = some v -> ∃ c o, v = .ref c /\ H c = some (.frz o (.own 0)) /\ aoP o q
noncomputable def TbS (K : PySem.W.Frag) (H : Hp) : Prop := ∀ x ∈ abu, ∀ c b, PySem.W.tabIn K x = some (c, b) -> ∃ ps, H b = some (.tbl ps) /\ auv H (ahE x) ps
theorem TbS.tbl {K : PySem.W.Frag} {H : Hp} (h : TbS K H) {b : Addr} (t : Tb K b) : ∃ ps, H b = some (.tbl ps) := by
 obtain ⟨x, hx, c, e⟩ := t
 obtain ⟨ps, q, _⟩ := h x hx c b e
 exact ⟨ps, q⟩
theorem TbS.ne {K : PySem.W.Frag} {H : Hp} (h : TbS K H) {a b : Addr} {xs : List V} (t : Tb K b) (e : H a = some (.lst xs)) : b ≠ a := fun z => by
 obtain ⟨ps, q⟩ := h.tbl t
 rw [z, e] at q
 cases q
theorem TbS.fr {K : PySem.W.Frag} {H H' : Hp} (h : TbS K H) (s : ∀ b o, (∀ xs, o ≠ .lst xs) -> H b = some o -> H' b = some o) : TbS K H' := fun x hx c b e => by
 obtain ⟨ps, q, t1, t2⟩ := h x hx c b e
 refine ⟨ps, s _ _ (fun _ z => by cases z) q, t1, fun pos v k => ?_⟩
 obtain ⟨c, o, e1, e2, e3⟩ := t2 pos v k
 exact ⟨c, o, e1, s _ _ (fun _ z => by cases z) e2, e3⟩
theorem TbS.same {K : PySem.W.Frag} {H H' : Hp} (h : TbS K H) (s : Same H H') : TbS K H' := h.fr fun b o _ => s b o
theorem TbS.upd {K : PySem.W.Frag} {H : Hp} (h : TbS K H) {a : Addr} {xs : List V} {o : HO} (e : H a = some (.lst xs)) : TbS K (L2.upd H a o) := h.fr fun b u n q => by
 rw [aaH]
 ·exact q
 ·rintro rfl
  rw [e] at q
  cases q
  exact n _ rfl
structure alQ (t : Tx) (W : Addr -> Prop) (H : Hp) : Prop where
 ok : TbS t.K H
 w : ∀ b, Tb t.K b -> W b
 r : ∀ b, Tb t.K b -> t.R b
 B : ∀ b, Tb t.K b -> t.B b = none
theorem alQ.same {t : Tx} {W : Addr -> Prop} {H H' : Hp} (f : alQ t W H) (s : Same H H') : alQ t W H' := ⟨f.ok.same s, f.w, f.r, f.B⟩
theorem alQ.wid {t : Tx} {W W' : Addr -> Prop} {H : Hp} (f : alQ t W H) (h : ∀ b, W b -> W' b) : alQ t W' H := ⟨f.ok, fun b z => h b (f.w b z), f.r, f.B⟩
theorem alQ.cut {t : Tx} {W : Addr -> Prop} {H : Hp} (f : alQ t W H) {D : Addr -> Prop} (h : ∀ b, D b -> ∃ xs, H b = some (.lst xs)) : alQ t (fun b => W b /\ ¬ D b) H := ⟨f.ok, fun b z => ⟨f.w b z, fun d => by
 obtain ⟨xs, e⟩ := h b d
 exact f.ok.ne z e rfl⟩, f.r, f.B⟩
structure EOF (t : Tx) (W : Addr -> Prop) (ρ : En) (σ : St) (H : Hp) (F : Nat -> List Addr) : Prop where
 len : ρ.length = σ.length
 zw : ∀ b, t.Z b -> W b
 z0 : ∀ b, t.Z b -> t.H0 b ≠ none
 wl : ∀ b, W b -> Lt H b
 f0 : ∀ b o, t.H0 b = some o -> ¬ t.R b -> H b = some o
 n0 : ∀ b, H b = none -> t.H0 b = none
 sh : ∀ (i : Nat) (u : Tr), ρ[i]? = some (.sh u) -> ∃ v, σ[i]? = some (some v) /\ Rep t.K (aaY W H) v u
 ow : ∀ (i : Nat) (ts : List Tr), ρ[i]? = some (Sl.ow ts) -> ∃ a xs, σ[i]? = some (some (V.ref a)) /\ W a /\ t.H0 a = none /\ H a = some (.lst xs) /\ aa1 t.K (aaY W H) xs ts
 rf : ∀ (i : Nat) (ts : List Tr), ρ[i]? = some (Sl.rf ts) -> ∃ a xs, σ[i]? = some (some (V.ref a)) /\ W a /\ t.R a /\ H a = some (.lst xs) /\ aa1 t.K (aaY W H) xs ts
 dis : ∀ (i j : Nat) (a : Addr), Mu ρ i -> Mu ρ j -> σ[i]? = some (some (V.ref a)) -> σ[j]? = some (some (V.ref a)) -> i = j
 pn : ∀ b o, t.B b = some o -> H b = some o
 pd : ∀ (i : Nat) (a : Addr), Mu ρ i -> σ[i]? = some (some (V.ref a)) -> t.B a = none
 dp : ∀ (i : Nat) (ts : List Tr), ρ[i]? = some (Sl.dp ts) -> ∃ a xs, σ[i]? = some (some (V.ref a)) /\ aoO t W H a xs ts (F i)
 dd : ∀ (i j : Nat) (ts us : List Tr), i ≠ j -> ρ[i]? = some (Sl.dp ts) -> ρ[j]? = some (Sl.dp us) -> ∀ b ∈ F i, b ∉ F j
 dm : ∀ (i j : Nat) (ts : List Tr) (c : Addr), ρ[i]? = some (Sl.dp ts) -> Mu ρ j -> σ[j]? = some (some (V.ref c)) -> c ∉ F i
 db : ∀ (i : Nat) (ts : List Tr), ρ[i]? = some (Sl.dp ts) -> ∀ b ∈ F i, t.B b = none
 tab : alQ t W H
noncomputable def EOk (t : Tx) (W : Addr -> Prop) (ρ : En) (σ : St) (H : Hp) : Prop := ∃ F, EOF t W ρ σ H F
noncomputable def EOh (t : Tx) (W : Addr -> Prop) (a : Addr) (ρ : En) (σ : St) (H : Hp) : Prop := ∃ F, EOF t (fun b => W b \/ b = a) ρ σ H F /\ ∀ (i : Nat) (ts : List Tr), ρ[i]? = some (Sl.dp ts) -> a ∉ F i
theorem EOh.ok {t : Tx} {W : Addr -> Prop} {a : Addr} {ρ : En} {σ : St} {H : Hp} (e : EOh t W a ρ σ H) : EOk t (fun b => W b \/ b = a) ρ σ H := e.elim fun F e => ⟨F, e.1⟩
section
variable {t : Tx} {W : Addr -> Prop} {ρ : En} {σ : St} {H : Hp}
theorem EOk.len (e : EOk t W ρ σ H) : ρ.length = σ.length := e.elim fun _ e => e.len
theorem EOk.zw (e : EOk t W ρ σ H) : ∀ b, t.Z b -> W b := e.elim fun _ e => e.zw
theorem EOk.z0 (e : EOk t W ρ σ H) : ∀ b, t.Z b -> t.H0 b ≠ none := e.elim fun _ e => e.z0
theorem EOk.wl (e : EOk t W ρ σ H) : ∀ b, W b -> Lt H b := e.elim fun _ e => e.wl
theorem EOk.tab (e : EOk t W ρ σ H) : alQ t W H := e.elim fun _ e => e.tab
theorem EOk.f0 (e : EOk t W ρ σ H) : ∀ b o, t.H0 b = some o -> ¬ t.R b -> H b = some o := e.elim fun _ e => e.f0
theorem EOk.n0 (e : EOk t W ρ σ H) : ∀ b, H b = none -> t.H0 b = none := e.elim fun _ e => e.n0
theorem EOk.sh (e : EOk t W ρ σ H) : ∀ (i : Nat) (u : Tr), ρ[i]? = some (.sh u) -> ∃ v, σ[i]? = some (some v) /\ Rep t.K (aaY W H) v u := e.elim fun _ e => e.sh
theorem EOk.ow (e : EOk t W ρ σ H) : ∀ (i : Nat) (ts : List Tr), ρ[i]? = some (Sl.ow ts) -> ∃ a xs, σ[i]? = some (some (V.ref a)) /\ W a /\ t.H0 a = none /\ H a = some (.lst xs) /\ aa1 t.K (aaY W H) xs ts := e.elim fun _ e => e.ow
theorem EOk.rf (e : EOk t W ρ σ H) : ∀ (i : Nat) (ts : List Tr), ρ[i]? = some (Sl.rf ts) -> ∃ a xs, σ[i]? = some (some (V.ref a)) /\ W a /\ t.R a /\ H a = some (.lst xs) /\ aa1 t.K (aaY W H) xs ts := e.elim fun _ e => e.rf
theorem EOk.dis (e : EOk t W ρ σ H) : ∀ (i j : Nat) (a : Addr), Mu ρ i -> Mu ρ j -> σ[i]? = some (some (V.ref a)) -> σ[j]? = some (some (V.ref a)) -> i = j := e.elim fun _ e => e.dis
theorem EOk.pn (e : EOk t W ρ σ H) : ∀ b o, t.B b = some o -> H b = some o := e.elim fun _ e => e.pn
theorem EOk.pd (e : EOk t W ρ σ H) : ∀ (i : Nat) (a : Addr), Mu ρ i -> σ[i]? = some (some (V.ref a)) -> t.B a = none := e.elim fun _ e => e.pd
end
structure Stp (W : Addr -> Prop) (H H' : Hp) : Prop where
 keep : ∀ b o, ¬ W b -> H b = some o -> H' b = some o
 dom : ∀ b, H' b = none -> H b = none
theorem Stp.refl (W : Addr -> Prop) (H : Hp) : Stp W H H := ⟨fun _ _ _ h => h, fun _ h => h⟩
theorem Stp.trans {W : Addr -> Prop} {H H1 H2 : Hp} (a : Stp W H H1) (b : Stp W H1 H2) : Stp W H H2 := ⟨fun c o n h => b.keep c o n (a.keep c o n h), fun c h => a.dom c (b.dom c h)⟩
theorem Stp.of {W : Addr -> Prop} {H H' : Hp} (s : Same H H') : Stp W H H' := ⟨fun b o _ h => s b o h, fun _ h => s.free h⟩
theorem Stp.off {W : Addr -> Prop} {H H' : Hp} (s : Stp W H H') : Same (aaY W H) (aaY W H') := acn (fun _ _ _ h => h) s.keep
theorem EOk.grow {t : Tx} {W : Addr -> Prop} {ρ : En} {σ : St} {H H' : Hp} (e : EOk t W ρ σ H) (s : Same H H') : EOk t W ρ σ H' := by
 have m : Same (aaY W H) (aaY W H') := (Stp.of s).off
 obtain ⟨F, e⟩ := e
 refine ⟨F, e.len, e.zw, e.z0, fun b w => ?_, fun b o h n => s b o (e.f0 b o h n), fun b h => e.n0 b (s.free h), fun i u h => ?_, fun i ts h => ?_, fun i ts h => ?_, e.dis, fun b o h => s b o (e.pn b o h), e.pd, fun i ts h => ?_, e.dd, e.dm, e.db, e.tab.same s⟩
 ·exact (e.wl b w).grow s
 ·obtain ⟨v, h1, h2⟩ := e.sh i u h
  exact ⟨v, h1, h2.mono m⟩
 ·obtain ⟨a, xs, h1, h2, h3, h4, h5⟩ := e.ow i ts h
  exact ⟨a, xs, h1, h2, h3, s _ _ h4, h5.mono m⟩
 ·obtain ⟨a, xs, h1, h2, h3, h4, h5⟩ := e.rf i ts h
  exact ⟨a, xs, h1, h2, h3, s _ _ h4, h5.mono m⟩
 ·obtain ⟨a, xs, h1, d⟩ := e.dp i ts h
  exact ⟨a, xs, h1, d.move rfl rfl m (fun b hb => by obtain ⟨_, _, _, ww, _⟩ := d; exact (ww b hb).1) fun b o _ q => s b o q⟩
noncomputable def VOk (K : PySem.W.Frag) (W : Addr -> Prop) (σ : St) (H H' : Hp) (v : V) : Rv -> Prop
 | .v T false => Rep K (aaY W H') v T
 | .v T true => ∃ a xs ts, v = .ref a /\ T = .lst ts /\ H a = none /\ H' a = some (.lst xs) /\ aa1 K (off a (aaY W H')) xs ts
 | .s i => σ[i]? = some (some v)
theorem ahF (a : Addr) (H : Hp) : Same (off a H) H := fun _ _ h => (aem h).2
theorem VOk.step {K : PySem.W.Frag} {W : Addr -> Prop} {σ : St} {H H' H'' : Hp} {v : V} {r : Rv} (hw : ∀ b, W b -> H b ≠ none) (h : VOk K W σ H H' v r) (s : Stp W H' H'') : VOk K W σ H H'' v r := by
 cases r with
 | s i => exact h
 | v T fr =>
  cases fr with
  | false => exact Rep.mono s.off h
  | true =>
   obtain ⟨a, xs, ts, rfl, rfl, e1, e2, r⟩ := h
   refine ⟨a, xs, ts, rfl, rfl, e1, s.keep a _ (fun w => hw a w e1) e2, r.mono fun b o q => ?_⟩
   obtain ⟨n, q⟩ := aem q
   rw [off_ne n]
   exact s.off b o q
theorem VOk.back {K : PySem.W.Frag} {W : Addr -> Prop} {σ : St} {G H H' : Hp} {v : V} {r : Rv} (h : VOk K W σ H H' v r) (d : ∀ b, H b = none -> G b = none) : VOk K W σ G H' v r := by
 cases r with
 | s i => exact h
 | v T fr =>
  cases fr with
  | false => exact h
  | true =>
   obtain ⟨a, xs, ts, e0, e1, e2, r⟩ := h
   exact ⟨a, xs, ts, e0, e1, d _ e2, r⟩
theorem VOk.rep {K : PySem.W.Frag} {W : Addr -> Prop} {σ : St} {H H' : Hp} {v : V} {T : Tr} {fr : Bool} (hw : ∀ b, W b -> H b ≠ none) (h : VOk K W σ H H' v (.v T fr)) : Rep K (aaY W H') v T := by
 cases fr with
 | false => exact h
 | true =>
  obtain ⟨a, xs, ts, rfl, rfl, e1, e2, r⟩ := h
  refine .lst (SqL.of ?_) (r.mono (ahF _ _))
  rw [aaX fun w => hw a w e1]
  exact e2
noncomputable def Rp (K : PySem.W.Frag) (W : Addr -> Prop) (H : Hp) (v : V) (T : Tr) : Prop :=
 Rep K (aaY W H) v T \/ ∃ a xs ts, v = .ref a /\ T = .lst ts /\ H a = some (.lst xs) /\ aa1 K (aaY W H) xs ts
theorem Rp.rep {K : PySem.W.Frag} {W : Addr -> Prop} {H : Hp} {v : V} {T : Tr} (h : Rp K W H v T) : Rep K H v T := by
 rcases h with h | ⟨a, xs, ts, rfl, rfl, e, r⟩
 ·exact h.mono (abq _ _)
 ·exact .lst (SqL.of e) (r.mono (abq _ _))
theorem Rp.lst {K : PySem.W.Frag} {W : Addr -> Prop} {H : Hp} {v : V} {ts : List Tr} (h : Rp K W H v (.lst ts)) : ∃ a xs, v = .ref a /\ SqL K H a xs /\ aa1 K (aaY W H) xs ts := by
 rcases h with h | ⟨a, xs, us, rfl, e0, e, r⟩
 ·cases h with
  | lst h r => exact ⟨_, _, rfl, (abq _ _).seq h, r⟩
 ·cases e0
  exact ⟨a, xs, rfl, SqL.of e, r⟩
theorem Rp.tup {K : PySem.W.Frag} {W : Addr -> Prop} {H : Hp} {v : V} {ts : List Tr} (h : Rp K W H v (.tup ts)) : ∃ a xs, v = .ref a /\ SqT K H a xs /\ aa1 K (aaY W H) xs ts := by
 rcases h with h | ⟨a, xs, us, rfl, e0, e, r⟩
 ·cases h with
  | tup h r => exact ⟨_, _, rfl, (abq _ _).aq7 h, r⟩
 ·cases e0
theorem Rp.int {K : PySem.W.Frag} {W : Addr -> Prop} {H : Hp} {v : V} {i : Int} (h : Rp K W H v (.int i)) : v = .int i := by
 cases h.rep; rfl
theorem Rp.bl {K : PySem.W.Frag} {W : Addr -> Prop} {H : Hp} {v : V} {i : Bool} (h : Rp K W H v (.bl i)) : v = .bl i := by
 cases h.rep; rfl
theorem Rp.str {K : PySem.W.Frag} {W : Addr -> Prop} {H : Hp} {v : V} {i : Str} (h : Rp K W H v (.str i)) : v = .str i := by
 cases h.rep; rfl
theorem Rp.non {K : PySem.W.Frag} {W : Addr -> Prop} {H : Hp} {v : V} (h : Rp K W H v .non) : v = .non := by
 cases h.rep; rfl
noncomputable def dr (ρ : En) : Rv -> Rs Tr
 | .v T _ => .ok T
 | .s i => match ρ[i]? with
  | some (Sl.ow ts) => .ok (.lst ts)
  | some (Sl.rf ts) => .ok (.lst ts)
  | _ => .bad
theorem aeY {t : Tx} {W : Addr -> Prop} {ρ : En} {σ : St} {H H' : Hp} {v : V} {r : Rv} {T : Tr} (e : EOk t W ρ σ H') (hw : ∀ b, W b -> H b ≠ none) (h : VOk t.K W σ H H' v r) (q : dr ρ r = .ok T) : Rp t.K W H' v T := by
 cases r with
 | v U fr =>
  cases q
  exact .inl (h.rep hw)
 | s i =>
  have h : σ[i]? = some (some v) := h
  dsimp only [dr] at q
  split at q
  ·rename_i ts e1
   cases q
   obtain ⟨a, xs, h1, h2, h3, h4, h5⟩ := e.ow i ts e1
   rw [h] at h1
   cases h1
   exact .inr ⟨a, xs, ts, rfl, rfl, h4, h5⟩
  ·rename_i ts e1
   cases q
   obtain ⟨a, xs, h1, h2, h3, h4, h5⟩ := e.rf i ts e1
   rw [h] at h1
   cases h1
   exact .inr ⟨a, xs, ts, rfl, rfl, h4, h5⟩
  ·cases q
theorem EOk.wn {t : Tx} {W : Addr -> Prop} {ρ : En} {σ : St} {H : Hp} (e : EOk t W ρ σ H) : ∀ b, W b -> H b ≠ none := fun b w => by
 exact (e.wl b w).ne
theorem EOk.hide {t : Tx} {W : Addr -> Prop} {ρ : En} {σ : St} {H H' : Hp} {a : Addr} {xs : List V} (e : EOk t W ρ σ H) (s : Same H H') (n : H a = none) (q : H' a = some (.lst xs)) : EOh t W a ρ σ H' := by
 have m : Same (aaY W H) (aaY (fun b => W b \/ b = a) H') := fun b o h => by
  obtain ⟨w, h⟩ := abm h
  rw [aaX]
  ·exact s b o h
  ·rintro (z | rfl)
   ·exact w z
   ·rw [n] at h; cases h
 have na : ∀ b, W b -> b ≠ a := fun b w z => by subst z; exact e.wn b w n
 obtain ⟨F, e⟩ := e
 refine ⟨F, ⟨e.len, fun b z => .inl (e.zw b z), e.z0, fun b w => ?_, fun b o h nr => s b o (e.f0 b o h nr), fun b h => e.n0 b (s.free h), fun i u h => ?_, fun i ts h => ?_, fun i ts h => ?_, e.dis, fun b o h => s b o (e.pn b o h), e.pd, fun i ts h => ?_, e.dd, e.dm, e.db, (e.tab.same s).wid fun b w => .inl w⟩, fun i ts h z => ?_⟩
 ·rcases w with w | rfl
  ·exact (e.wl b w).grow s
  ·exact .inl ⟨xs, q⟩
 ·obtain ⟨v, h1, h2⟩ := e.sh i u h
  exact ⟨v, h1, h2.mono m⟩
 ·obtain ⟨c, ys, h1, h2, h3, h4, h5⟩ := e.ow i ts h
  exact ⟨c, ys, h1, .inl h2, h3, s _ _ h4, h5.mono m⟩
 ·obtain ⟨c, ys, h1, h2, h3, h4, h5⟩ := e.rf i ts h
  exact ⟨c, ys, h1, .inl h2, h3, s _ _ h4, h5.mono m⟩
 ·obtain ⟨c, ys, h1, d⟩ := e.dp i ts h
  exact ⟨c, ys, h1, d.move rfl rfl m (fun b hb => by obtain ⟨_, _, _, ww, _⟩ := d; exact .inl (ww b hb).1) fun b o _ q => s b o q⟩
 ·obtain ⟨c, ys, h1, bs, _, _, ww, _⟩ := e.dp i ts h
  exact na a (ww a z).1 rfl
noncomputable def VOE (t : Tx) (W : Addr -> Prop) (ρ : En) (σ : St) (H H' : Hp) (v : V) (r : Rv) : Prop := VOk t.K W σ H H' v r /\ ∀ T a, r = .v T true -> v = .ref a -> EOh t W a ρ σ H'
theorem VOE.of {t : Tx} {W : Addr -> Prop} {ρ : En} {σ σ' : St} {H H' : Hp} {v : V} {T : Tr} {fr : Bool} (e : EOk t W ρ σ H) (s : Same H H') (h : VOk t.K W σ' H H' v (.v T fr)) : VOE t W ρ σ H H' v (.v T fr) := by
 refine ⟨by cases fr <;> exact h, fun U a z ev => ?_⟩
 cases z
 obtain ⟨b, xs, ts, rfl, _, n, q, _⟩ := h
 cases ev
 exact e.hide s n q
theorem VOE.low {t : Tx} {W : Addr -> Prop} {ρ : En} {σ : St} {H H' : Hp} {v : V} {T : Tr} (h : Rep t.K (aaY W H') v T) : VOE t W ρ σ H H' v (.v T false) := ⟨h, fun _ _ z => by cases z⟩
theorem VOE.back {t : Tx} {W : Addr -> Prop} {ρ : En} {σ : St} {G H H' : Hp} {v : V} {r : Rv} (h : VOE t W ρ σ H H' v r) (d : ∀ b, H b = none -> G b = none) : VOE t W ρ σ G H' v r := ⟨h.1.back d, h.2⟩
noncomputable def SE (t : Tx) (te : TE) (f : EF) : Prop := ∀ W ρ σ H Q, EOk t W ρ σ H -> (f ρ).post t.EX (fun p => ∀ v H', EOk t W p.2 σ H' -> Stp W H H' -> VOE t W p.2 σ H H' v p.1 -> Q v H') -> te σ H Q
noncomputable abbrev BF := En -> Rs (Bool × En)
noncomputable def ST (t : Tx) (te : TT) (f : BF) : Prop := ∀ W ρ σ H Q, EOk t W ρ σ H -> (f ρ).post t.EX (fun p => ∀ H', EOk t W p.2 σ H' -> Stp W H H' -> Q p.1 H') -> te σ H Q
noncomputable abbrev AF := En -> Rs (List Rv × En)
inductive agR (K : PySem.W.Frag) (W : Addr -> Prop) (σ : St) (H H' : Hp) : List V -> List Rv -> Prop
 | nil : agR K W σ H H' [] []
 | cons {v : V} {r : Rv} {vs : List V} {rs : List Rv} (h : VOk K W σ H H' v r) (q : agR K W σ H H' vs rs) : agR K W σ H H' (v :: vs) (r :: rs)
noncomputable def SA (t : Tx) (te : TA) (f : AF) : Prop := ∀ W ρ σ H Q, EOk t W ρ σ H -> (f ρ).post t.EX (fun p => ∀ vs H', EOk t W p.2 σ H' -> Stp W H H' -> agR t.K W σ H H' vs p.1 -> Q vs H') -> te σ H Q
section
variable {t : Tx}
noncomputable def aag (i : Nat) : EF := fun ρ => match ρ[i]? with
 | some (.sh T) => .ok (.v T false, ρ)
 | some (.ow _) => .ok (.s i, ρ)
 | some (.rf _) => .ok (.s i, ρ)
 | _ => .bad
theorem aac (i : Nat) : SE t (akH i) (aag i) := fun W ρ σ H Q e h => by
 unfold aag at h
 split at h
 ·rename_i T q
  obtain ⟨v, h1, h2⟩ := e.sh i T q
  exact ⟨v, h1, h v H e (Stp.refl _ _) (.low h2)⟩
 ·rename_i ts q
  obtain ⟨a, xs, h1, _⟩ := e.ow i ts q
  exact ⟨_, h1, h _ H e (Stp.refl _ _) ⟨h1, fun _ _ z => by cases z⟩⟩
 ·rename_i ts q
  obtain ⟨a, xs, h1, _⟩ := e.rf i ts q
  exact ⟨_, h1, h _ H e (Stp.refl _ _) ⟨h1, fun _ _ z => by cases z⟩⟩
 ·exact h.elim
noncomputable def eC (T : Tr) : EF := fun ρ => .ok (.v T false, ρ)
theorem auw {v : V} {T : Tr} (h : ∀ H, Rep t.K H v T) : SE t (tC v) (eC T) := fun W ρ σ H Q e q => q v H e (Stp.refl _ _) (.low (h _))
theorem aao (i : Int) : SE t (tC (.int i)) (eC (.int i)) := auw fun _ => .int i
theorem afp (i : Bool) : SE t (tC (.bl i)) (eC (.bl i)) := auw fun _ => .bl i
theorem acH (i : Str) : SE t (tC (.str i)) (eC (.str i)) := auw fun _ => .str i
noncomputable abbrev G2 := Tr -> Tr -> Rs (Tr × Bool)
noncomputable def OpT (K : PySem.W.Frag) (r : R2) (g : G2) : Prop := ∀ W x y a b H Q, (∀ b, W b -> Lt H b) -> Rp K W H x a -> Rp K W H y b ->
 (g a b).post (fun _ => False) (fun p => ∀ v H', Same H H' -> VOk K W [] H H' v (.v p.1 p.2) -> Q v H') -> r x y H Q
noncomputable def eOp (g : G2) (fa fb : EF) : EF := fun ρ => (fa ρ).bind fun p => (fb p.2).bind fun q => (dr q.2 p.1).bind fun a => (dr q.2 q.1).bind fun b => (g a b).bind fun z => .ok (.v z.1 z.2, q.2)
theorem ai6 {α : Type} {r : Rs α} {EX : Str -> Prop} {P : α -> Prop} (h : r.post EX P) (n : ∀ c, r ≠ .ex c) : r.post (fun _ => False) P := by
 cases r with
 | bad => exact h
 | ex c => exact (n c rfl).elim
 | ok a => exact h
theorem adf (ρ : En) (r : Rv) (c : Str) : dr ρ r ≠ .ex c := by
 cases r with
 | v T fr => intro z; cases z
 | s i =>
  dsimp only [dr]
  split <;> (intro z; cases z)
theorem aeZ {r : R2} {g : G2} {ta tb : TE} {fa fb : EF} (o : OpT t.K r g) (ng : ∀ a b c, g a b ≠ .ex c) (ha : SE t ta fa) (hb : SE t tb fb) : SE t (tOp r ta tb) (eOp g fa fb) := fun W ρ σ H Q e h => by
 refine ha W ρ σ H _ e (Rs.aai (Rs.aaf h) fun p h x H1 e1 s1 v1 => ?_)
 refine hb W p.2 σ H1 _ e1 (Rs.aai (Rs.aaf h) fun q h y H2 e2 s2 v2 => ?_)
 have h := Rs.aaf h
 cases k1 : dr q.2 p.1 with
 | bad => rw [k1] at h; exact h.elim
 | ex c => exact (adf _ _ _ k1).elim
 | ok a =>
  rw [k1] at h
  have h : ((dr q.2 q.1).bind _).post _ _ := h
  have h := Rs.aaf h
  cases k2 : dr q.2 q.1 with
  | bad => rw [k2] at h; exact h.elim
  | ex c => exact (adf _ _ _ k2).elim
  | ok b =>
   rw [k2] at h
   have h : ((g a b).bind _).post _ _ := h
   have r1 := aeY e2 e.wn (v1.1.step e.wn s2) k1
   have r2 := aeY e2 e1.wn v2.1 k2
   refine o W x y a b H2 Q e2.wl r1 r2 (Rs.aai (ai6 (Rs.aaf h) (ng a b)) fun z h v H3 s3 v3 => ?_)
   have st : Stp W H H3 := (s1.trans s2).trans (Stp.of s3)
   exact h v H3 (e2.grow s3) st ((VOE.of e2 s3 v3).back fun b q => (s1.trans s2).dom b q)
inductive Atm : V -> Tr -> Prop
 | non : Atm .non .non
 | bl (b : Bool) : Atm (.bl b) (.bl b)
 | int (b : Int) : Atm (.int b) (.int b)
 | str (b : Str) : Atm (.str b) (.str b)
theorem Atm.rep {K : PySem.W.Frag} {H : Hp} {v : V} {T : Tr} (h : Atm v T) : Rep K H v T := by
 cases h <;> constructor
end
end L2
end
section
set_option exponentiation.threshold 2000
namespace L2
open PySem PySem.Spec PyProof.Rows
section
variable {X : Cx}
noncomputable def au4 (K : PySem.W.Frag) : R2 := fun x y H Q => ∃ t u, Rep K H x t /\ Rep K H y u /\ dep t <= 40 /\ Q (.bl (!eqT t u)) H
theorem afG (hu : X.A.units + 64 < cLine) : OpR X (compareOp .NotEq) (au4 X.K) := by
 intro pins s σ H x y v u Q I vx vy h
 obtain ⟨t, t', rx, ry, hd, q⟩ := h
 have hu0 : X.A.units < cLine := by omega
 have hu1 : X.A.in1.units + 40 < cLine := by
  have := in1_units X.A
  omega
 have fin : SeqAt.RcNeAt X.A s v u (!eqT t t') -> wpAny (model X.prog X.w) X.A (compareOp .NotEq v u) (EP X pins σ Q) X.xe s := fun h => h _ _ _ _ ⟨.bl _, H, I, rfl, q⟩
 have items : ∀ {xs ys : List V} {ts us : List Tr} {its its2 : List Value}, Vals xs its -> Vals ys its2 -> aa1 X.K H xs ts -> aa1 X.K H ys us -> deps ts <= 40 -> ∀ j (h1 : j < its.toArray.size) (h2 : j < its2.toArray.size), SeqAt.EqAt X.A.in1 s its.toArray[j] its2.toArray[j] (atE ts us j) := by
  intro xs ys ts us its its2 r1 r2 q1 q2 hde j h1 h2
  obtain ⟨a, ea, ra⟩ := af5 r1 h1
  obtain ⟨b, eb, rb⟩ := af5 r2 h2
  obtain ⟨ta, eta, qa⟩ := q1.get ea
  obtain ⟨tb, etb, qb⟩ := q2.get eb
  rw [aj5 eta etb]
  exact (ajd I 40 X.A.in1 ta tb a b _ _ hu1 (Nat.le_trans (ahB eta) hde) qa qb ra rb).2
 cases rx with
 | non =>
  cases vx
  cases ry with
  | non => cases vy; unfold eqT at fin; exact fin .none_none
  | bl b2 => cases vy; unfold eqT at fin; exact fin (.none_bool _)
  | int i2 => obtain ⟨_, rfl⟩ := vy; unfold eqT at fin; exact fin (.none_int _ _)
  | str z2 => obtain ⟨_, rfl⟩ := vy; unfold eqT at fin; exact fin (.none_str _ _)
  | tup h r => cases vy; obtain ⟨_, _, p, _⟩ := I.tuple h; unfold eqT at fin; exact fin (.none_tuple p hu0)
  | lst h r => cases vy; obtain ⟨_, _, p, _⟩ := I.list h; unfold eqT at fin; exact fin (.none_list p.isList hu0)
 | bl b =>
  cases vx
  cases ry with
  | non => cases vy; unfold eqT at fin; exact fin (.bool_none _)
  | bl b2 => cases vy; unfold eqT at fin; exact fin (.bool_bool _ _)
  | int i2 => obtain ⟨_, rfl⟩ := vy; unfold eqT at fin; exact fin (.bool_int _ _ _)
  | str z2 => obtain ⟨_, rfl⟩ := vy; unfold eqT at fin; exact fin (.bool_str _ _ _)
  | tup h r => cases vy; obtain ⟨_, _, p, _⟩ := I.tuple h; unfold eqT at fin; exact fin (.bool_tuple _ p hu0)
  | lst h r => cases vy; obtain ⟨_, _, p, _⟩ := I.list h; unfold eqT at fin; exact fin (.bool_list _ p.isList hu0)
 | int i =>
  obtain ⟨_, rfl⟩ := vx
  cases ry with
  | non => cases vy; unfold eqT at fin; exact fin (.int_none _ _)
  | bl b2 => cases vy; unfold eqT at fin; exact fin (.int_bool _ _ _)
  | int i2 => obtain ⟨_, rfl⟩ := vy; unfold eqT at fin; exact fin (.int_int _ _ _ _)
  | str z2 => obtain ⟨_, rfl⟩ := vy; unfold eqT at fin; exact fin (.int_str _ _ _ _)
  | tup h r => cases vy; obtain ⟨_, _, p, _⟩ := I.tuple h; unfold eqT at fin; exact fin (.int_tuple _ _ p hu0)
  | lst h r => cases vy; obtain ⟨_, _, p, _⟩ := I.list h; unfold eqT at fin; exact fin (.int_list _ _ p.isList hu0)
 | str z =>
  obtain ⟨_, rfl⟩ := vx
  cases ry with
  | non => cases vy; unfold eqT at fin; exact fin (.str_none _ _)
  | bl b2 => cases vy; unfold eqT at fin; exact fin (.str_bool _ _ _)
  | int i2 => obtain ⟨_, rfl⟩ := vy; unfold eqT at fin; exact fin (.str_int _ _ _ _)
  | str z2 => obtain ⟨_, rfl⟩ := vy; unfold eqT at fin; exact fin (.str_str _ _ _ _)
  | tup h r => cases vy; obtain ⟨_, _, p, _⟩ := I.tuple h; unfold eqT at fin; exact fin (.str_tuple _ _ p hu0)
  | lst h r => cases vy; obtain ⟨_, _, p, _⟩ := I.list h; unfold eqT at fin; exact fin (.str_list _ _ p.isList hu0)
 | @tup a1 xs1 ts h1 r1 =>
  cases vx
  obtain ⟨its, rv, p, _⟩ := I.tuple h1
  have hd' : deps ts <= 40 := by unfold dep at hd; omega
  cases ry with
  | non => cases vy; unfold eqT at fin; exact fin (.tuple_none p hu0)
  | bl b2 => cases vy; unfold eqT at fin; exact fin (.tuple_bool _ p hu0)
  | int i2 => obtain ⟨_, rfl⟩ := vy; unfold eqT at fin; exact fin (.tuple_int _ _ p hu0)
  | str z2 => obtain ⟨_, rfl⟩ := vy; unfold eqT at fin; exact fin (.tuple_str _ _ p hu0)
  | lst h r => cases vy; obtain ⟨_, _, p2, _⟩ := I.list h; unfold eqT at fin; exact fin (.tuple_list p p2.isList hu0)
  | @tup a2 xs2 us h2 r2 =>
   cases vy
   obtain ⟨its2, rv2, p2, _⟩ := I.tuple h2
   have R := SeqAt.RcNeAt.tuples (A := X.A) (e := atE ts us) p p2 (by omega) fun j k1 k2 => items rv rv2 r1 r2 hd' j k1 k2
   have el : its.toArray.size = ts.length := by simpa using (rv.length.symm.trans r1.length)
   have el2 : its2.toArray.size = us.length := by simpa using (rv2.length.symm.trans r2.length)
   rw [el, el2] at R
   have eb : ((List.range (min ts.length us.length)).all (atE ts us) && ts.length == us.length) = eqT (.tup ts) (.tup us) := by
    unfold eqT
    by_cases e : ts.length = us.length
    ·rw [e, Nat.min_self, <-e, agm e, beq_self_eq_true, Bool.and_true]
    ·rw [beq_false_of_ne e, Bool.and_false, aeX e]
   rw [eb] at R
   exact fin R
 | @lst a1 xs1 ts h1 r1 =>
  cases vx
  obtain ⟨its, rv, p, _⟩ := I.list h1
  have hd' : deps ts <= 40 := by unfold dep at hd; omega
  cases ry with
  | non => cases vy; unfold eqT at fin; exact fin (.list_none p.isList hu0)
  | bl b2 => cases vy; unfold eqT at fin; exact fin (.list_bool _ p.isList hu0)
  | int i2 => obtain ⟨_, rfl⟩ := vy; unfold eqT at fin; exact fin (.list_int _ _ p.isList hu0)
  | str z2 => obtain ⟨_, rfl⟩ := vy; unfold eqT at fin; exact fin (.list_str _ _ p.isList hu0)
  | tup h r => cases vy; obtain ⟨_, _, p2, _⟩ := I.tuple h; unfold eqT at fin; exact fin (.list_tuple p.isList p2 hu0)
  | @lst a2 xs2 us h2 r2 =>
   cases vy
   obtain ⟨its2, rv2, p2, _⟩ := I.list h2
   have el : its.toArray.size = ts.length := by simpa using (rv.length.symm.trans r1.length)
   have el2 : its2.toArray.size = us.length := by simpa using (rv2.length.symm.trans r2.length)
   by_cases e : ts.length = us.length
   ·have R := SeqAt.RcNeAt.lists (A := X.A) (e := atE ts us) p.isList p2.isList (by omega) (by omega) fun j k1 k2 => items rv rv2 r1 r2 hd' j k1 k2
    rw [el] at R
    rw [agm e] at R
    unfold eqT at fin
    exact fin R
   ·have R := SeqAt.RcNeAt.lists_lengths (A := X.A) p.isList p2.isList (by rw [el, el2]; simpa using e) (by omega)
    unfold eqT at fin
    rw [aeX e] at fin
    exact fin R
end
open Classical in
noncomputable def noL (o : Obj) : Obj := if o.cls = .type "list" ∧ ¬ (∃ its n, o = { cls := .type "list", data := .seq its n }) then { cls := .none, data := .fields #[] } else o
noncomputable def nlK (K : PySem.W.Frag) : PySem.W.Frag := K.map fun p => (p.1, noL p.2)
theorem abM : ∀ (K : PySem.W.Frag) (a : Addr), (nlK K).lookup a = (K.lookup a).map noL
 | [], a => rfl
 | (c, q) :: r, a => by
  show ((c, noL q) :: nlK r).lookup a = _
  rw [List.lookup_cons, List.lookup_cons]
  cases a == c with
  | true => rfl
  | false => exact abM r a
theorem apJ {K : PySem.W.Frag} {a : Addr} {o : Obj} (h : (nlK K).lookup a = some o) (c : o.cls = .type "tuple") : K.lookup a = some o := by
 rw [abM] at h
 cases e : K.lookup a with
 | none => rw [e] at h; cases h
 | some q =>
  rw [e] at h
  have h : noL q = o := Option.some.inj h
  unfold noL at h
  split at h
  ·subst h; cases c
  ·rw [h]
theorem apK {K : PySem.W.Frag} {a : Addr} {o : Obj} (h : (nlK K).lookup a = some o) (c : o.cls = .type "list") : K.lookup a = some o ∧ ∃ its n, o = { cls := .type "list", data := .seq its n } := by
 rw [abM] at h
 cases e : K.lookup a with
 | none => rw [e] at h; cases h
 | some q =>
  rw [e] at h
  have h : noL q = o := Option.some.inj h
  unfold noL at h
  split at h
  ·subst h; cases c
  ·rename_i n
   subst h
   refine ⟨rfl, ?_⟩
   by_cases z : ∃ its n, q = { cls := .type "list", data := .seq its n }
   ·exact z
   ·exact (n ⟨c, z⟩).elim
theorem arT {K : PySem.W.Frag} {a : Addr} {o : Obj} (h : K.lookup a = some o) (c : o.cls = .type "tuple") : (nlK K).lookup a = some o := by
 rw [abM, h]
 show some (noL o) = some o
 unfold noL
 rw [if_neg (by rintro ⟨z, _⟩; rw [c] at z; injection z with z; exact absurd z (by decide))]
theorem SqT.toK {K : PySem.W.Frag} {H : Hp} {a : Addr} {xs : List V} (h : SqT (nlK K) H a xs) : SqT K H a xs := by
 rcases h with h | ⟨o, its, n, e, c, r⟩
 ·exact .inl h
 ·exact .inr ⟨o, its, n, apJ e c, c, r⟩
noncomputable def SqX (K : PySem.W.Frag) (H : Hp) (a : Addr) (xs : List V) : Prop := Rd H a (.lst xs) \/ ∃ (its : Array Value) (n : Nat), K.lookup a = some { cls := .type "list", data := .seq its n } /\ its.size <= sizeLine /\ Vals xs its.toList
theorem SqL.rdX {K : PySem.W.Frag} {H : Hp} {a : Addr} {xs : List V} (h : SqL (nlK K) H a xs) : SqX K H a xs := by
 rcases h with h | ⟨o, its, n, e, c, _, d, r⟩
 ·exact .inl h
 ·obtain ⟨e2, its', n', rfl⟩ := apK e c
  have d : Data.seq its' n' = .seq its n := d
  injection d with d1 d2
  subst d1 d2
  exact .inr ⟨its', n', e2, r⟩
theorem SqX.toK {K : PySem.W.Frag} {H : Hp} {a : Addr} {xs : List V} (h : SqX K H a xs) : SqL K H a xs := by
 rcases h with h | ⟨its, n, e, r⟩
 ·exact .inl h
 ·exact .inr ⟨_, its, n, e, rfl, rfl, rfl, r⟩
theorem SqX.toN {K : PySem.W.Frag} {H : Hp} {a : Addr} {xs : List V} (h : SqX K H a xs) : SqL (nlK K) H a xs := by
 rcases h with h | ⟨its, n, e, r⟩
 ·exact .inl h
 ·refine .inr ⟨{ cls := .type "list", data := .seq its n }, its, n, ?_, rfl, rfl, rfl, r⟩
  rw [abM, e]
  show some (noL _) = _
  unfold noL
  rw [if_neg fun z => z.2 ⟨its, n, rfl⟩]
theorem SqL.toK {K : PySem.W.Frag} {H : Hp} {a : Addr} {xs : List V} (h : SqL (nlK K) H a xs) : SqL K H a xs := h.rdX.toK
mutual
theorem Rep.toK {K : PySem.W.Frag} {H : Hp} : ∀ {v : V} {t : Tr}, Rep (nlK K) H v t -> Rep K H v t
 | _, _, .non => .non
 | _, _, .bl b => .bl b
 | _, _, .int i => .int i
 | _, _, .str x => .str x
 | _, _, .tup h r => .tup h.toK (aa1.toK r)
 | _, _, .lst h r => .lst h.toK (aa1.toK r)
theorem aa1.toK {K : PySem.W.Frag} {H : Hp} : ∀ {v : List V} {t : List Tr}, aa1 (nlK K) H v t -> aa1 K H v t
 | _, _, .nil => .nil
 | _, _, .cons h r => .cons (Rep.toK h) (aa1.toK r)
end
section
variable {X : Cx}
theorem Inv.rdL {pins : List (Addr × Obj)} {σ : St} {H : Hp} {s : Shared} {l : Addr} {xs : List V} (I : Inv X pins σ H s) (hH : SqX X.K H l xs) : xs.length <= sizeLine /\ ∃ (its : List Value) (n : Nat), Vals xs its /\ xs.length = its.length /\ s.heap.get? l = some { cls := .type "list", data := .seq its.toArray n } := by
 rcases hH with hH | ⟨its, n, e, z, r⟩
 ·obtain ⟨z, its, n, r, e⟩ := hH.ok I.hok
  exact ⟨z, its, n, r, r.length, e⟩
 ·have l' : xs.length = its.size := r.length.trans Array.length_toList
  exact ⟨by rw [l']; exact z, its.toList, n, r, r.length, I.kIn _ _ e⟩
noncomputable def arU (K : PySem.W.Frag) : R2 := fun x y H Q => ∃ l b xs zs, x = .ref l /\ y = .ref b /\ SqX K H l xs /\ SqX K H b zs /\ xs.length + zs.length <= sizeLine /\ ∀ p, H p = none -> Q (.ref p) (upd H p (.lst (xs ++ zs)))
theorem apL : OpR X (binaryOp .Add) (arU X.K) := by
 intro pins s σ H x y v u Q I rx ry h
 obtain ⟨l, b, xs, zs, rfl, rfl, hH, hB, hz, q⟩ := h
 cases rx
 cases ry
 obtain ⟨z, its, n, r, hl, e⟩ := I.rdL hH
 obtain ⟨z2, its2, n2, r2, hl2, e2⟩ := I.rdL hB
 refine PySem.P.add_list e e2 ?_ (by rw [List.size_toArray, List.size_toArray]; omega)
 have ea : its.toArray ++ its2.toArray = (its ++ its2).toArray := by simp
 rw [ea]
 exact ⟨.ref _, _, I.aus (t' := s.toks) (r.append r2) (by rw [List.length_append]; omega), rfl, q _ I.fresh⟩
end
end L2
end
section
namespace L2
open PySem PySem.Spec PyProof.Rows
noncomputable def arV (K : PySem.W.Frag) : R2 := fun x y H Q => ∃ l k xs, x = .ref l /\ y = .int k /\ SqX K H l xs /\ -(2 ^ 63) <= k /\ k < 2 ^ 63 /\ xs.length * k.toNat <= sizeLine /\ ∀ p, H p = none -> Q (.ref p) (upd H p (.lst (List.replicate k.toNat xs).flatten))
theorem apM {X : Cx} : OpR X (binaryOp .Mult) (arV X.K) := by
 intro pins s σ H x y v u Q I rx ry h
 obtain ⟨l, k, xs, rfl, rfl, hH, h1, h2, hz, q⟩ := h
 cases rx
 obtain ⟨t, rfl⟩ := ry
 obtain ⟨z, its, n, r, hl, e⟩ := I.rdL hH
 have hlen : its.toArray.size * k.toNat <= sizeLine := by rw [List.size_toArray, <-hl]; exact hz
 have hcap : ¬ its.toArray.size * k.toNat > (2 ^ 63 - 1) / 8 := by
  have : (sizeLine : Nat) <= (2 ^ 63 - 1) / 8 := by decide
  omega
 have hfit : ¬ (!Builtin.List.listFitsIndex k) = true := by
  rw [fitsIndex_both h1 h2]
  exact Bool.false_ne_true
 have au5 : ¬ Builtin.List.listTooLong (its.toArray.size * k.toNat) = true := by
  rw [ant hlen]
  exact Bool.false_ne_true
 have hnew : List.foldl (fun x1 x2 => x1 ++ x2) #[] (List.replicate (if its.toArray.isEmpty = true then 0 else k.toNat) its.toArray) = (List.replicate k.toNat its).flatten.toArray := by
  have f0 : ∀ m : Nat, List.foldl (fun x1 x2 => x1 ++ x2) #[] (List.replicate m its.toArray) = (List.replicate m its).flatten.toArray := fun m => by
   have := foldl_rep its m []
   rw [List.nil_append] at this
   exact this
  rw [f0]
  cases its with
  | nil => simp
  | cons a r' => rw [if_neg (by simp)]
 refine wpAny_binaryOp_repeat_ref (T := "list") (U := "int") (by decide) ⟨_, e, rfl⟩ (fun s' => typeIs_int s' k t) noFill_list_mul F.fills_int_mul F.slot_int_rmul repeat_list F.slot_int_index.lookup
  (call_meets F.slot_int_rmul (typeIs_int s k t) F.entry_int_rmul (F.args_int_rmul_2 _ _) (int___rmul___int_list k t l its.toArray n)
   ⟨e, rfl, ⟨_, e, rfl⟩, call_meets F.slot_list_mul ⟨_, e, rfl⟩ F.entry_list_mul (F.args_list_mul_2 _ _) (AutoListH.list___mul___list_int_3 l its.toArray n k t hfit hcap au5) ⟨e, ?_⟩⟩)
 rw [hnew]
 exact ⟨.ref _, _, I.aus (t' := s.toks) (r.rep k.toNat) (by rw [len_rep, Nat.mul_comm]; exact hz), rfl, q _ I.fresh⟩
end L2
end
section
set_option exponentiation.threshold 2000
namespace L2
open PySem PySem.Spec PyProof.Rows
section
variable {K : PySem.W.Frag} {W : Addr -> Prop} {σ : St} {H : Hp} {p : Addr} {xs : List V} {ts : List Tr}
theorem af7 {o : HO} (hp : H p = none) : Same (aaY W H) (off p (aaY W (upd H p o))) := fun b u q => by
 obtain ⟨n, e⟩ := abm q
 have ne : b ≠ p := aaT e hp
 rw [off_ne ne, aaX n, aaH ne]
 exact e
theorem VOk.new (hp : H p = none) (r : aa1 K (aaY W H) xs ts) : VOk K W σ H (upd H p (.lst xs)) (.ref p) (.v (.lst ts) true) :=
 ⟨p, xs, ts, rfl, rfl, hp, aa9, r.mono (af7 hp)⟩
theorem VOk.newT (hw : ∀ b, W b -> Lt H b) (hp : H p = none) (r : aa1 K (aaY W H) xs ts) : VOk K W σ H (upd H p (.tup xs)) (.ref p) (.v (.tup ts) false) := by
 have nw : ¬ W p := fun w => by
  exact (hw p w).ne hp
 refine .tup (SqT.of ?_) (r.mono fun b u q => (aem (af7 (o := .tup xs) hp b u q)).2)
 rw [aaX nw]
 exact aa9
theorem VOk.atm {H' : Hp} {v : V} {T : Tr} (h : Atm v T) : VOk K W σ H H' v (.v T false) := h.rep
theorem aa1.anf {H : Hp} : ∀ {v : List V} {t : List Tr} {i : Nat} {u : Tr}, aa1 K H v t -> t[i]? = some u -> ∃ x, v[i]? = some x /\ Rep K H x u
 | _, _, _, _, .nil, e => by simp at e
 | _, _, 0, _, .cons h _, e => by
  simp at e
  subst e
  exact ⟨_, rfl, h⟩
 | _, _, i + 1, x, .cons _ r, e => by
  obtain ⟨u, h1, h2⟩ := aa1.anf (i := i) (u := x) r (by simpa using e)
  exact ⟨u, by simpa using h1, h2⟩
theorem aa1.atI (r : aa1 K H xs ts) {i : Int} {t : Tr} (h : atI ts i = some t) : ∃ x, L2.atI xs i = some x /\ Rep K H x t := by
 unfold L2.atI at h ⊢
 rw [r.length]
 cases e : ixN ts.length i with
 | none => rw [e] at h; cases h
 | some j =>
  rw [e] at h
  exact r.anf h
theorem Rp.axl {v : V} (h : Rp K W H v (.tup ts)) : Rep K (aaY W H) v (.tup ts) := by
 rcases h with h | ⟨a, xs, us, rfl, e0, e, r⟩
 ·exact h
 ·cases e0
theorem big {n : Nat} (h : n <= 100000) : n <= sizeLine := Nat.le_trans h (by decide)
end
section
variable {K : PySem.W.Frag}
noncomputable def gI (p : Int -> Int -> Int) : G2
 | .int i, .int j => .ok (.int (p i j), false)
 | _, _ => .bad
theorem axm {p : Int -> Int -> Int} : OpT K (rI0 fun i j => .int (p i j)) (gI p) := fun W x y a b H Q hw rx ry h => by
 cases a <;> try exact h.elim
 cases b <;> try exact h.elim
 rw [rx.int, ry.int]
 exact ⟨_, _, rfl, rfl, h _ H (Same.refl _) (.atm (.int _))⟩
noncomputable def gIC (c : Int -> Int -> Bool) (p : Int -> Int -> Int) : G2
 | .int i, .int j => if c i j = true then .ok (.int (p i j), false) else .bad
 | _, _ => .bad
theorem apO {C : Int -> Int -> Prop} {c : Int -> Int -> Bool} {p : Int -> Int -> Int} (hc : ∀ i j, c i j = true -> C i j) : OpT K (rI C fun i j => .int (p i j)) (gIC c p) := fun W x y a b H Q hw rx ry h => by
 cases a <;> try exact h.elim
 cases b <;> try exact h.elim
 rw [rx.int, ry.int]
 dsimp only [gIC] at h
 split at h
 ·rename_i e
  exact ⟨_, _, rfl, rfl, hc _ _ e, h _ H (Same.refl _) (.atm (.int _))⟩
 ·exact h.elim
noncomputable def gB (p : Int -> Int -> Bool) : G2
 | .int i, .int j => .ok (.bl (p i j), false)
 | _, _ => .bad
theorem au6 {p : Int -> Int -> Bool} : OpT K (rI0 fun i j => .bl (p i j)) (gB p) := fun W x y a b H Q hw rx ry h => by
 cases a <;> try exact h.elim
 cases b <;> try exact h.elim
 rw [rx.int, ry.int]
 exact ⟨_, _, rfl, rfl, h _ H (Same.refl _) (.atm (.bl _))⟩
noncomputable def gEq : G2 := fun t u => if dep t <= 40 then .ok (.bl (eqT t u), false) else .bad
theorem au7 : OpT (nlK K) (auX K) gEq := fun W x y a b H Q hw rx ry h => by
 unfold gEq at h
 split at h
 ·rename_i e
  exact ⟨a, b, rx.rep.toK, ry.rep.toK, e, h _ H (Same.refl _) (.atm (.bl _))⟩
 ·exact h.elim
noncomputable def gNe : G2 := fun t u => if dep t <= 40 then .ok (.bl (!eqT t u), false) else .bad
theorem au8 : OpT (nlK K) (au4 K) gNe := fun W x y a b H Q hw rx ry h => by
 unfold gNe at h
 split at h
 ·rename_i e
  exact ⟨a, b, rx.rep.toK, ry.rep.toK, e, h _ H (Same.refl _) (.atm (.bl _))⟩
 ·exact h.elim
noncomputable def gIn (f : Bool -> Bool) : G2 := fun t u => match u with
 | .lst us => if deps us <= 40 then .ok (.bl (f (auY t us)), false) else .bad
 | .tup us => if deps us <= 40 then .ok (.bl (f (auY t us)), false) else .bad
 | _ => .bad
theorem au9 : OpT (nlK K) (auZ K) (gIn id) := fun W x y a b H Q hw rx ry h => by
 cases b <;> try exact h.elim
 ·rename_i us
  dsimp only [gIn] at h
  split at h
  ·rename_i e
   obtain ⟨p, xs, rfl, q, r⟩ := ry.tup
   exact ⟨a, us, p, xs, rx.rep.toK, rfl, .inr q.toK, (r.mono (abq _ _)).toK, e, h _ H (Same.refl _) (.atm (.bl _))⟩
  ·exact h.elim
 ·rename_i us
  dsimp only [gIn] at h
  split at h
  ·rename_i e
   obtain ⟨p, xs, rfl, q, r⟩ := ry.lst
   exact ⟨a, us, p, xs, rx.rep.toK, rfl, .inl q.toK, (r.mono (abq _ _)).toK, e, h _ H (Same.refl _) (.atm (.bl _))⟩
  ·exact h.elim
noncomputable def apP (K : PySem.W.Frag) : R2 := fun x y H Q => (rI0 fun i j => .int (i + j)) x y H Q \/ arU K x y H Q \/ (∃ i j, x = .str i /\ y = .str j /\ i.length + j.length <= sizeLine /\ Q (.str (i ++ j)) H) \/ arH K x y H Q
theorem abS {X : Cx} : OpR X (binaryOp .Add) (apP X.K) := OpR.or aoH (OpR.or apL (OpR.or akL apC))
noncomputable def abB : G2
 | .int i, .int j => .ok (.int (i + j), false)
 | .lst a, .lst b => if a.length + b.length <= 100000 then .ok (.lst (a ++ b), true) else .bad
 | .str a, .str b => if a.length + b.length <= 100000 then .ok (.str (a ++ b), false) else .bad
 | .tup a, .tup b => if 0 < a.length /\ a.length + b.length <= 100000 then .ok (.tup (a ++ b), false) else .bad
 | _, _ => .bad
theorem arW : OpT (nlK K) (apP K) abB := fun W x y a b H Q hw rx ry h => by
 cases a <;> cases b <;> try exact h.elim
 ·rw [rx.int, ry.int]
  exact .inl ⟨_, _, rfl, rfl, h _ H (Same.refl _) (.atm (.int _))⟩
 ·rename_i i j
  rw [rx.str, ry.str]
  dsimp only [abB] at h
  split at h
  ·rename_i e
   exact .inr (.inr (.inl ⟨i, j, rfl, rfl, big e, h _ H (Same.refl _) (.atm (.str _))⟩))
  ·exact h.elim
 ·rename_i us ws
  dsimp only [abB] at h
  split at h
  ·rename_i e
   have rt := rx.axl
   obtain ⟨p, xs, rfl, q, r⟩ := rx.tup
   obtain ⟨p', ys, rfl, q', r'⟩ := ry.tup
   have l1 := r.length
   have l2 := r'.length
   refine .inr (.inr (.inr ⟨p, p', xs, ys, rfl, rfl, q.toK, q'.toK, ?_, by rw [l1, l2]; exact big e.2, fun z => h _ H (Same.refl _) ?_, fun _ z hz => h _ _ (aaO hz _) (.newT hw hz (r.app r'))⟩))
   ·rintro rfl
    have e1 := e.1
    rw [<-l1] at e1
    cases e1
   ·subst z
    cases r'
    rw [List.append_nil]
    exact rt
  ·exact h.elim
 ·rename_i us ws
  dsimp only [abB] at h
  split at h
  ·rename_i e
   obtain ⟨p, xs, rfl, q, r⟩ := rx.lst
   obtain ⟨p', ys, rfl, q', r'⟩ := ry.lst
   refine .inr (.inl ⟨p, p', xs, ys, rfl, rfl, q.rdX, q'.rdX, by rw [r.length, r'.length]; exact big e, fun z hz => h _ _ (aaO hz _) (.new hz (r.app r'))⟩)
  ·exact h.elim
end
end L2
end
section
set_option exponentiation.threshold 2000
namespace L2
open PySem PySem.Spec PyProof.Rows
noncomputable def fit (i : Int) : Bool := decide (i.natAbs.log2 < 1048575)
theorem aj7 {i : Int} (h : fit i = true) : Builtin.Int.intBits i <= 2 ^ 20 := by
 have h := of_decide_eq_true h
 unfold Builtin.Int.intBits
 have e : (2 : Nat) ^ 20 = 1048576 := by decide
 split
 ·decide
 ·omega
noncomputable def tiny (i : Int) : Bool := decide (-18446744073709551616 < i) && decide (i < 18446744073709551616)
noncomputable def aeE (i j : Int) : Bool := (fit i && fit j) || tiny i || tiny j
noncomputable def anC (i j : Int) : Prop := aeE i j = true
theorem anC.ok {i j : Int} (h : anC i j) : IntMulOk i j := by
 unfold anC aeE at h
 rw [Bool.or_eq_true, Bool.or_eq_true, Bool.and_eq_true] at h
 have e : (2 : Int) ^ 64 = 18446744073709551616 := by decide
 have tn : ∀ {k : Int}, tiny k = true -> -(2 ^ 64) < k /\ k < 2 ^ 64 := fun {k} h => by
  unfold tiny at h
  rw [Bool.and_eq_true] at h
  have h1 := of_decide_eq_true h.1
  have h2 := of_decide_eq_true h.2
  omega
 rcases h with (⟨h1, h2⟩ | h) | h
 ·exact .of_bits (aj7 h1) (aj7 h2)
 ·exact .of_left (intBits_le_64 (tn h).1 (tn h).2)
 ·exact .of_right (intBits_le_64 (tn h).1 (tn h).2)
noncomputable def apQ (K : PySem.W.Frag) : R2 := fun x y H Q => (rI anC fun i j => .int (i * j)) x y H Q \/ arV K x y H Q
theorem abD {X : Cx} : OpR X (binaryOp .Mult) (apQ X.K) := OpR.or (opI fun _ _ _ _ _ _ _ hc q => mul_int q hc.ok) apM
noncomputable def abI : G2
 | .int i, .int j => if aeE i j = true then .ok (.int (i * j), false) else .bad
 | .lst a, .int k => if (-1000 <= k /\ k <= 1000) /\ a.length <= 100 then .ok (.lst (List.replicate k.toNat a).flatten, true) else .bad
 | _, _ => .bad
noncomputable def alo (_ j : Int) : Bool := decide (j ≠ 0) && decide (j.natAbs.log2 < 9000)
noncomputable def anD (i j : Int) : Prop := alo i j = true
theorem adE {X : Cx} : OpR X (binaryOp .FloorDiv) (rI anD fun i j => .int (i.fdiv j)) := opI fun i j _ _ _ _ _ hc q => by
 unfold anD alo at hc
 rw [Bool.and_eq_true] at hc
 exact floordiv_int (of_decide_eq_true hc.1) q (.inl (PyProof.noPylong_of_log2 (of_decide_eq_true hc.2)))
noncomputable def acB : G2 := gIC alo Int.fdiv
noncomputable def acz : G2 := gIC (fun _ j => decide (j ≠ 0)) Int.fmod
noncomputable def arX (i j : Int) : Bool := decide (0 <= j) && decide (j <= 1000) && tiny i
noncomputable def acy : G2 := gIC arX fun i j => i ^ j.toNat
noncomputable def ab3 : G2 := gI fun i j => i - j
section
variable {K : PySem.W.Frag}
theorem aa1.rep {H : Hp} {xs : List V} {ts : List Tr} (r : aa1 K H xs ts) : ∀ n, aa1 K H (List.replicate n xs).flatten (List.replicate n ts).flatten
 | 0 => .nil
 | n + 1 => by
  rw [List.replicate_succ, List.replicate_succ, List.flatten_cons, List.flatten_cons]
  exact r.app (aa1.rep r n)
theorem arY : OpT (nlK K) (apQ K) abI := fun W x y a b H Q hw rx ry h => by
 cases a <;> cases b <;> try exact h.elim
 ·rw [rx.int, ry.int]
  dsimp only [abI] at h
  split at h
  ·rename_i e
   exact .inl ⟨_, _, rfl, rfl, e, h _ H (Same.refl _) (.atm (.int _))⟩
  ·exact h.elim
 ·rename_i us k
  rw [ry.int]
  dsimp only [abI] at h
  split at h
  ·rename_i e
   obtain ⟨p, xs, rfl, q, r⟩ := rx.lst
   by_cases k0 : 0 <= k
   ·refine .inr ⟨p, k, xs, rfl, rfl, q.rdX, by omega, by omega, ?_, fun z hz => h _ _ (aaO hz _) (.new hz (r.rep _))⟩
    rw [r.length]
    refine Nat.le_trans (Nat.mul_le_mul e.2 (show k.toNat <= 1000 by omega)) (by decide)
   ·have e0 : k.toNat = 0 := by omega
    by_cases k1 : -(2 ^ 63) <= k
    ·refine .inr ⟨p, k, xs, rfl, rfl, q.rdX, k1, by omega, ?_, fun z hz => h _ _ (aaO hz _) (.new hz (r.rep _))⟩
     rw [e0, Nat.mul_zero]
     exact Nat.zero_le _
    ·omega
  ·exact h.elim
theorem arZ : OpT K (rI anD fun i j => .int (i.fdiv j)) acB := apO fun _ _ h => h
theorem ar0 : OpT K (rI (fun _ j => j ≠ 0) fun i j => .int (i.fmod j)) acz := apO fun _ _ h => of_decide_eq_true h
theorem ar3 : OpT K (rI auR fun i j => .int (i ^ j.toNat)) acy := apO fun i j h => by
 unfold arX tiny at h
 rw [Bool.and_eq_true, Bool.and_eq_true, Bool.and_eq_true] at h
 have h1 := of_decide_eq_true h.1.1
 have h2 := of_decide_eq_true h.1.2
 have h3 := of_decide_eq_true h.2.1
 have h4 := of_decide_eq_true h.2.2
 have e : (2 : Nat) ^ 64 = 18446744073709551616 := by decide
 exact ⟨h1, by omega, by omega⟩
theorem ar4 : OpT K (rI0 fun i j => .int (i - j)) ab3 := axm
noncomputable def gGt : G2 := gB fun i j => decide (j < i)
noncomputable def gLe : G2 := gB fun i j => decide (i <= j)
noncomputable def gGe : G2 := gB fun i j => decide (j <= i)
theorem ava : OpT K (rI0 fun i j => .bl (decide (j < i))) gGt := au6
theorem ahG : OpT K (rI0 fun i j => .bl (decide (i <= j))) gLe := au6
theorem avb : OpT K (rI0 fun i j => .bl (decide (j <= i))) gGe := au6
noncomputable def intsOf : List Tr -> Option (List Int)
 | [] => some []
 | .int i :: r => (intsOf r).map (i :: ·)
 | _ :: _ => none
theorem ints_of {H : Hp} : ∀ {ts : List Tr} {ns : List Int} {xs : List V}, intsOf ts = some ns -> aa1 K H xs ts -> xs = ns.map V.int
 | [], ns, xs, h, r => by cases h; cases r; rfl
 | .int i :: q, ns, xs, h, r => by
  unfold intsOf at h
  cases e : intsOf q with
  | none => rw [e] at h; cases h
  | some ms =>
   rw [e] at h
   cases h
   cases r with
   | cons h1 r1 =>
    cases h1
    rw [ints_of e r1]
    rfl
 | .non :: q, ns, xs, h, r => by cases h
 | .bl _ :: q, ns, xs, h, r => by cases h
 | .str _ :: q, ns, xs, h, r => by cases h
 | .tup _ :: q, ns, xs, h, r => by cases h
 | .lst _ :: q, ns, xs, h, r => by cases h
noncomputable def avc (K : PySem.W.Frag) : R2 := fun x y H Q => (rI0 fun i j => .bl (decide (i < j))) x y H Q \/ awL K x y H Q
theorem aiA {X : Cx} (hu : X.A.units + 64 < cLine) : OpR X (compareOp .Lt) (avc X.K) := OpR.or auS (arG (by omega))
noncomputable def gLt : G2
 | .int i, .int j => .ok (.bl (decide (i < j)), false)
 | .tup a, .tup b => match intsOf a, intsOf b with
  | some ns, some ms => .ok (.bl (HT.lexLt ns ms), false)
  | _, _ => .bad
 | _, _ => .bad
theorem avd : OpT (nlK K) (avc K) gLt := fun W x y a b H Q hw rx ry h => by
 cases a <;> cases b <;> try exact h.elim
 ·rw [rx.int, ry.int]
  exact .inl ⟨_, _, rfl, rfl, h _ H (Same.refl _) (.atm (.bl _))⟩
 ·rename_i us ws
  dsimp only [gLt] at h
  split at h
  ·rename_i ns ms e1 e2
   obtain ⟨p, xs, rfl, q, r⟩ := rx.tup
   obtain ⟨p', ys, rfl, q', r'⟩ := ry.tup
   have z1 := ints_of e1 r
   have z2 := ints_of e2 r'
   subst z1 z2
   exact .inr ⟨p, p', ns, ms, rfl, rfl, q.toK, q'.toK, h _ H (Same.refl _) (.atm (.bl _))⟩
  ·exact h.elim
noncomputable def gIx : G2
 | .lst ts, .int i => match atI ts i with
  | some t => .ok (t, false)
  | none => .bad
 | .tup ts, .int i => match atI ts i with
  | some t => .ok (t, false)
  | none => .bad
 | .str z, .int i => if z.length <= 100000 then (match atI z.cps.toList i with
  | some c => .ok (.str ⟨#[c]⟩, false)
  | none => .bad) else .bad
 | _, _ => .bad
theorem ar5 : OpT (nlK K) (rIx K) gIx := fun W x y a b H Q hw rx ry h => by
 cases a <;> cases b <;> try exact h.elim
 ·rename_i z i
  rw [rx.str, ry.int]
  dsimp only [gIx] at h
  split at h
  ·rename_i e
   split at h
   ·rename_i c ec
    exact .inr (.inr ⟨z, i, c, rfl, rfl, big e, ec, h _ H (Same.refl _) (.atm (.str _))⟩)
   ·exact h.elim
  ·exact h.elim
 ·rename_i ts i
  rw [ry.int]
  dsimp only [gIx] at h
  split at h
  ·rename_i t et
   obtain ⟨p, xs, rfl, q, r⟩ := rx.tup
   obtain ⟨v, ev, rv⟩ := r.atI et
   exact .inr (.inl ⟨p, xs, i, v, rfl, rfl, q.toK, ev, h _ H (Same.refl _) rv⟩)
  ·exact h.elim
 ·rename_i ts i
  rw [ry.int]
  dsimp only [gIx] at h
  split at h
  ·rename_i t et
   obtain ⟨p, xs, rfl, q, r⟩ := rx.lst
   obtain ⟨v, ev, rv⟩ := r.atI et
   exact .inl ⟨p, xs, i, v, rfl, rfl, q.toK, ev, h _ H (Same.refl _) rv⟩
  ·exact h.elim
end
end L2
end
section
set_option exponentiation.threshold 2000
namespace L2
open PySem PySem.Spec PyProof.Rows
section
variable {K : PySem.W.Frag} {W : Addr -> Prop} {σ : St}
theorem agR.step {H H' H'' : Hp} (hw : ∀ b, W b -> H b ≠ none) (s : Stp W H' H'') : ∀ {vs : List V} {rs : List Rv}, agR K W σ H H' vs rs -> agR K W σ H H'' vs rs
 | _, _, .nil => .nil
 | _, _, .cons h q => .cons (h.step hw s) (agR.step hw s q)
theorem agR.back {G H H' : Hp} (d : ∀ b, H b = none -> G b = none) : ∀ {vs : List V} {rs : List Rv}, agR K W σ H H' vs rs -> agR K W σ G H' vs rs
 | _, _, .nil => .nil
 | _, _, .cons h q => .cons (h.back d) (agR.back d q)
inductive Rps (K : PySem.W.Frag) (W : Addr -> Prop) (H : Hp) : List V -> List Tr -> Prop
 | nil : Rps K W H [] []
 | cons {v : V} {t : Tr} {vs : List V} {ts : List Tr} (h : Rp K W H v t) (q : Rps K W H vs ts) : Rps K W H (v :: vs) (t :: ts)
noncomputable def drs (ρ : En) : List Rv -> Rs (List Tr)
 | [] => .ok []
 | r :: rs => (dr ρ r).bind fun t => (drs ρ rs).bind fun ts => .ok (t :: ts)
theorem agp (ρ : En) : ∀ (rs : List Rv) (c : Str), drs ρ rs ≠ .ex c
 | [], c => by intro z; cases z
 | r :: rs, c => by
  unfold drs
  cases e : dr ρ r with
  | bad => intro z; cases z
  | ex d => exact (adf _ _ _ e).elim
  | ok t =>
   show (drs ρ rs).bind _ ≠ _
   cases e2 : drs ρ rs with
   | bad => intro z; cases z
   | ex d => exact (agp ρ rs d e2).elim
   | ok ts => intro z; cases z
theorem aaV {α β : Type} {r : Rs α} {f : α -> Rs β} {b : β} (h : r.bind f = .ok b) : ∃ a, r = .ok a /\ f a = .ok b := by
 cases r with
 | bad => cases h
 | ex c => cases h
 | ok a => exact ⟨a, rfl, h⟩
theorem aj8 {t : Tx} {ρ : En} {H H' : Hp} (e : EOk t W ρ σ H') (hw : ∀ b, W b -> H b ≠ none) : ∀ {vs : List V} {rs : List Rv} {ts : List Tr}, agR t.K W σ H H' vs rs -> drs ρ rs = .ok ts -> Rps t.K W H' vs ts
 | _, _, _, .nil, q => by cases q; exact .nil
 | _, _, _, .cons h r, q => by
  unfold drs at q
  obtain ⟨a, q1, q⟩ := aaV q
  obtain ⟨as, q2, q⟩ := aaV q
  cases q
  exact .cons (aeY e hw h q1) (aj8 e hw r q2)
noncomputable def cls : List Rv -> Rs (List Tr)
 | [] => .ok []
 | .v t _ :: rs => (cls rs).bind fun ts => .ok (t :: ts)
 | .s _ :: _ => .bad
theorem afq : ∀ (rs : List Rv) (c : Str), cls rs ≠ .ex c
 | [], c => by intro z; cases z
 | .v t fr :: rs, c => by
  unfold cls
  cases e2 : cls rs with
  | bad => intro z; cases z
  | ex d => exact (afq rs d e2).elim
  | ok ts => intro z; cases z
 | .s i :: rs, c => by intro z; cases z
theorem ahf {H H' : Hp} (hw : ∀ b, W b -> H b ≠ none) : ∀ {vs : List V} {rs : List Rv} {ts : List Tr}, agR K W σ H H' vs rs -> cls rs = .ok ts -> aa1 K (aaY W H') vs ts
 | _, _, _, .nil, q => by cases q; exact .nil
 | _, .v t fr :: _, _, .cons h r, q => by
  unfold cls at q
  obtain ⟨as, q2, q⟩ := aaV q
  cases q
  exact .cons (h.rep hw) (ahf hw r q2)
 | _, .s i :: _, _, .cons h r, q => by cases q
end
section
variable {t : Tx}
noncomputable def aar : AF := fun ρ => .ok ([], ρ)
noncomputable def aae (f : EF) (g : AF) : AF := fun ρ => (f ρ).bind fun p => (g p.2).bind fun q => .ok (p.1 :: q.1, q.2)
theorem aak : SA t aoI aar := fun W ρ σ H Q e h => h [] H e (Stp.refl _ _) .nil
theorem aad {te : TE} {ta : TA} {f : EF} {g : AF} (h1 : SE t te f) (h2 : SA t ta g) : SA t (afl te ta) (aae f g) := fun W ρ σ H Q e h => by
 refine h1 W ρ σ H _ e (Rs.aai (Rs.aaf h) fun p h v H1 e1 s1 v1 => ?_)
 refine h2 W p.2 σ H1 _ e1 (Rs.aai (Rs.aaf h) fun q h vs H2 e2 s2 v2 => ?_)
 exact h (v :: vs) H2 e2 (s1.trans s2) (.cons (v1.1.step e.wn s2) (agR.back s1.dom v2))
noncomputable def afi (g : AF) : EF := fun ρ => (g ρ).bind fun p => (cls p.1).bind fun ts => if ts.length <= 1000 then .ok (.v (.lst ts) true, p.2) else .bad
noncomputable def ahH (g : AF) : EF := fun ρ => (g ρ).bind fun p => (cls p.1).bind fun ts => if ts.length <= 1000 then .ok (.v (.tup ts) false, p.2) else .bad
theorem abP {α : Type} {r : Rs α} {EX : Str -> Prop} {P : α -> Prop} (h : r.post EX P) (n : ∀ c, r ≠ .ex c) : ∃ a, r = .ok a /\ P a := by
 cases r with
 | bad => exact h.elim
 | ex c => exact (n c rfl).elim
 | ok a => exact ⟨a, rfl, h⟩
theorem ady {ta : TA} {g : AF} (h1 : SA t ta g) : SE t (awJ ta) (afi g) := fun W ρ σ H Q e h => by
 refine h1 W ρ σ H _ e (Rs.aai (Rs.aaf h) fun p h vs H1 e1 s1 v1 => ?_)
 obtain ⟨ts, q, h⟩ := abP (Rs.aaf h) (afq _)
 have r := ahf e.wn v1 q
 split at h
 ·rename_i hl
  refine ⟨by rw [r.length]; exact Nat.le_trans hl (by decide), fun z hz => h _ _ (e1.grow (aaO hz _)) (s1.trans (Stp.of (aaO hz _))) ?_⟩
  exact (VOE.of (σ' := σ) e1 (aaO hz _) (VOk.new hz r)).back s1.dom
 ·exact h.elim
theorem ae0 {ta : TA} {g : AF} (h1 : SA t ta g) : SE t (awI ta) (ahH g) := fun W ρ σ H Q e h => by
 refine h1 W ρ σ H _ e (Rs.aai (Rs.aaf h) fun p h vs H1 e1 s1 v1 => ?_)
 obtain ⟨ts, q, h⟩ := abP (Rs.aaf h) (afq _)
 have r := ahf e.wn v1 q
 split at h
 ·rename_i hl
  refine ⟨by rw [r.length]; exact Nat.le_trans hl (by decide), fun z hz => h _ _ (e1.grow (aaO hz _)) (s1.trans (Stp.of (aaO hz _))) ?_⟩
  exact .low ((VOk.newT (σ := σ) (W := W) e1.wl hz r))
 ·exact h.elim
noncomputable abbrev G1 := Tr -> Rs (Tr × Bool)
noncomputable def UnT (K : PySem.W.Frag) (r : V -> Hp -> VK -> Prop) (g : G1) : Prop := ∀ W x a H Q, (∀ b, W b -> Lt H b) -> Rp K W H x a -> (g a).post (fun _ => False) (fun p => ∀ v H', Same H H' -> VOk K W [] H H' v (.v p.1 p.2) -> Q v H') -> r x H Q
noncomputable def eUn (g : G1) (fa : EF) : EF := fun ρ => (fa ρ).bind fun p => (dr p.2 p.1).bind fun a => (g a).bind fun z => .ok (.v z.1 z.2, p.2)
theorem ave {r : V -> Hp -> VK -> Prop} {g : G1} {ta : TE} {fa : EF} (o : UnT t.K r g) (ng : ∀ a c, g a ≠ .ex c) (ha : SE t ta fa) : SE t (tUn r ta) (eUn g fa) := fun W ρ σ H Q e h => by
 refine ha W ρ σ H _ e (Rs.aai (Rs.aaf h) fun p h x H1 e1 s1 v1 => ?_)
 obtain ⟨a, k1, h⟩ := abP (Rs.aaf h) (adf _ _)
 refine o W x a H1 Q e1.wl (aeY e1 e.wn v1.1 k1) (Rs.aai (ai6 (Rs.aaf h) (ng a)) fun z h v H2 s2 v2 => ?_)
 exact h v H2 (e1.grow s2) (s1.trans (Stp.of s2)) ((VOE.of e1 s2 v2).back s1.dom)
noncomputable def alR : G1
 | .int i => .ok (.int (-i), false)
 | _ => .bad
theorem aoQ {K : PySem.W.Frag} : UnT K (rU fun i => .int (-i)) alR := fun W x a H Q hw rx h => by
 cases a <;> try exact h.elim
 rw [rx.int]
 exact ⟨_, rfl, h _ H (Same.refl _) (.atm (.int _))⟩
noncomputable def bOf : Tr -> Rs Bool
 | .bl b => .ok b
 | _ => .bad
theorem alS (a : Tr) (c : Str) : bOf a ≠ .ex c := by cases a <;> (intro z; cases z)
noncomputable def aa8 (fa : EF) : BF := fun ρ => (fa ρ).bind fun p => (dr p.2 p.1).bind fun a => (bOf a).bind fun b => .ok (b, p.2)
theorem ar6 {K : PySem.W.Frag} {W : Addr -> Prop} {H : Hp} {v : V} {a : Tr} {b : Bool} (h : Rp K W H v a) (q : bOf a = .ok b) : v = .bl b := by
 cases a <;> cases q
 exact h.bl
theorem aaW {ta : TE} {fa : EF} (ha : SE t ta fa) : ST t (apx ta) (aa8 fa) := fun W ρ σ H Q e h => by
 refine ha W ρ σ H _ e (Rs.aai (Rs.aaf h) fun p h x H1 e1 s1 v1 => ?_)
 obtain ⟨a, k1, h⟩ := abP (Rs.aaf h) (adf _ _)
 obtain ⟨b, k2, h⟩ := abP (Rs.aaf h) (alS _)
 exact ⟨b, ar6 (aeY e1 e.wn v1.1 k1) k2, h H1 e1 s1⟩
noncomputable def tru : Tr -> Rs Bool
 | .non => .ok false
 | .bl b => .ok b
 | .int i => .ok (i != 0)
 | .lst ts => .ok (!ts.isEmpty)
 | .tup ts => .ok (!ts.isEmpty)
 | .str x => if x.length <= 100000 then .ok ((x.length : Int) != 0) else .bad
theorem apR (a : Tr) (c : Str) : tru a ≠ .ex c := by
 cases a <;> try (intro z; cases z)
 dsimp only [tru]
 split <;> (intro z; cases z)
theorem agq {α β : Type} {a : List α} {b : List β} (h : a.length = b.length) : a.isEmpty = b.isEmpty := by
 cases a <;> cases b <;> first | rfl | cases h
theorem ar7 {K : PySem.W.Frag} {W : Addr -> Prop} {H : Hp} {v : V} {a : Tr} {b : Bool} (h : Rp (nlK K) W H v a) (q : tru a = .ok b) : arx K v H b := by
 cases a with
 | non => cases q; rw [h.non]; rfl
 | bl i => cases q; rw [h.bl]; rfl
 | int i => cases q; rw [h.int]; rfl
 | str i =>
  dsimp only [tru] at q
  split at q
  ·rename_i e
   cases q
   rw [h.str]
   exact ⟨big e, rfl⟩
  ·cases q
 | tup ts =>
  cases q
  obtain ⟨p, xs, rfl, q, r⟩ := h.tup
  exact .inr (.inl ⟨xs, q.toK, by rw [agq r.length]⟩)
 | lst ts =>
  cases q
  obtain ⟨p, xs, rfl, q, r⟩ := h.lst
  exact .inl ⟨xs, q.toK, by rw [agq r.length]⟩
noncomputable def aeM (fa : EF) : BF := fun ρ => (fa ρ).bind fun p => (dr p.2 p.1).bind fun a => (tru a).bind fun b => .ok (b, p.2)
noncomputable def axn (K : PySem.W.Frag) (ta : TE) : TT := fun σ H Q => ta σ H fun x H' => ∃ k, arx K x H' k /\ Q k H'
theorem aco {K : PySem.W.Frag} (hK : t.K = nlK K) {ta : TE} {fa : EF} (ha : SE t ta fa) : ST t (axn K ta) (aeM fa) := fun W ρ σ H Q e h => by
 refine ha W ρ σ H _ e (Rs.aai (Rs.aaf h) fun p h x H1 e1 s1 v1 => ?_)
 obtain ⟨a, k1, h⟩ := abP (Rs.aaf h) (adf _ _)
 obtain ⟨b, k2, h⟩ := abP (Rs.aaf h) (apR _)
 have r := aeY e1 e.wn v1.1 k1
 rw [hK] at r
 exact ⟨b, ar7 r k2, h H1 e1 s1⟩
noncomputable def axo (f g : BF) : BF := fun ρ => (f ρ).bind fun p => if p.1 = true then g p.2 else .ok (false, p.2)
noncomputable def bOr (f g : BF) : BF := fun ρ => (f ρ).bind fun p => if p.1 = true then .ok (true, p.2) else g p.2
noncomputable def ae1 (f : BF) : BF := fun ρ => (f ρ).bind fun p => .ok (!p.1, p.2)
theorem agW {ta tb : TT} {f g : BF} (ha : ST t ta f) (hb : ST t tb g) : ST t (tOr ta tb) (bOr f g) := fun W ρ σ H Q e h => by
 refine ha W ρ σ H _ e (Rs.aai (Rs.aaf h) fun p h H1 e1 s1 => ?_)
 split at h
 ·rename_i c
  exact if_pos c ▸ h H1 e1 s1
 ·rename_i c
  refine if_neg c ▸ hb W p.2 σ H1 _ e1 (Rs.aai h fun q h H2 e2 s2 => h H2 e2 (s1.trans s2))
theorem acp {ta : TT} {f : BF} (ha : ST t ta f) : ST t (awx ta) (ae1 f) := fun W ρ σ H Q e h =>
 ha W ρ σ H _ e (Rs.aai (Rs.aaf h) fun p h H1 e1 s1 => h H1 e1 s1)
noncomputable def eB (b : Bool) : Rv := .v (.bl b) false
noncomputable def anE (f g : EF) : EF := fun ρ => (aa8 f ρ).bind fun p => if p.1 = true then g p.2 else .ok (eB false, p.2)
noncomputable def eOr (f g : EF) : EF := fun ρ => (aa8 f ρ).bind fun p => if p.1 = true then .ok (eB true, p.2) else g p.2
noncomputable def avf (f : EF) : EF := fun ρ => (aa8 f ρ).bind fun p => .ok (eB (!p.1), p.2)
theorem ahg {ta tb : TE} {f g : EF} (ha : SE t ta f) (hb : SE t tb g) : SE t (aro ta tb) (anE f g) := fun W ρ σ H Q e h => by
 refine aaW ha W ρ σ H _ e (Rs.aai (Rs.aaf h) fun p h H1 e1 s1 => ?_)
 split at h
 ·rename_i c
  refine if_pos c ▸ hb W p.2 σ H1 _ e1 (Rs.aai h fun q h v H2 e2 s2 v2 => h v H2 e2 (s1.trans s2) (v2.back s1.dom))
 ·rename_i c
  exact if_neg c ▸ h _ H1 e1 s1 (.low (.bl false))
theorem ar8 {ta : TE} {f : EF} (ha : SE t ta f) : SE t (arp ta) (avf f) := fun W ρ σ H Q e h =>
 aaW ha W ρ σ H _ e (Rs.aai (Rs.aaf h) fun p h H1 e1 s1 => h _ H1 e1 s1 (.low (.bl _)))
noncomputable def eIf (c : BF) (f g : EF) : EF := fun ρ => (c ρ).bind fun p => if p.1 = true then f p.2 else g p.2
end
end L2
end
section
set_option exponentiation.threshold 2000
namespace L2
open PySem PySem.Spec PyProof.Rows
section
variable {t : Tx}
noncomputable def agr (g g' : G2) (fa fb fc : EF) : EF := fun ρ => (fa ρ).bind fun p => (fb p.2).bind fun q => (dr q.2 p.1).bind fun a => (dr q.2 q.1).bind fun b => (g a b).bind fun z => (bOf z.1).bind fun k =>
 if k = true then (fc q.2).bind fun s => (dr s.2 q.1).bind fun b => (dr s.2 s.1).bind fun c => (g' b c).bind fun z => .ok (.v z.1 z.2, s.2) else .ok (eB false, q.2)
theorem anF {r r' : R2} {g g' : G2} {ta tb tc : TE} {fa fb fc : EF} (o : OpT t.K r g) (o' : OpT t.K r' g') (ng : ∀ a b c, g a b ≠ .ex c) (ng' : ∀ a b c, g' a b ≠ .ex c) (ha : SE t ta fa) (hb : SE t tb fb) (hc : SE t tc fc) : SE t (ajZ r r' ta tb tc) (agr g g' fa fb fc) := fun W ρ σ H Q e h => by
 refine ha W ρ σ H _ e (Rs.aai (Rs.aaf h) fun p h x H1 e1 s1 v1 => ?_)
 refine hb W p.2 σ H1 _ e1 (Rs.aai (Rs.aaf h) fun q h y H2 e2 s2 v2 => ?_)
 obtain ⟨a, k1, h⟩ := abP (Rs.aaf h) (adf _ _)
 obtain ⟨b, k2, h⟩ := abP (Rs.aaf h) (adf _ _)
 refine o W x y a b H2 _ e2.wl (aeY e2 e.wn (v1.1.step e.wn s2) k1) (aeY e2 e1.wn v2.1 k2) (Rs.aai (ai6 (Rs.aaf h) (ng a b)) fun z h v H3 s3 v3 => ?_)
 obtain ⟨k, k3, h⟩ := abP (Rs.aaf h) (alS _)
 have e3 := e2.grow s3
 have b3 : v = .bl k := ar6 (.inl (VOk.rep (σ := []) e2.wn v3)) k3
 refine ⟨k, b3, ?_⟩
 split at h
 ·rename_i c
  rw [if_pos c]
  refine hc W q.2 σ H3 _ e3 (Rs.aai (Rs.aaf h) fun u h w H4 e4 s4 v4 => ?_)
  obtain ⟨b', k4, h⟩ := abP (Rs.aaf h) (adf _ _)
  obtain ⟨c', k5, h⟩ := abP (Rs.aaf h) (adf _ _)
  refine o' W y w b' c' H4 _ e4.wl (aeY e4 e1.wn ((v2.1.step e1.wn (Stp.of s3)).step e1.wn s4) k4) (aeY e4 e3.wn v4.1 k5) (Rs.aai (ai6 (Rs.aaf h) (ng' b' c')) fun z h v H5 s5 v5 => ?_)
  have st : Stp W H H4 := (s1.trans (s2.trans (Stp.of s3))).trans s4
  exact h v H5 (e4.grow s5) (st.trans (Stp.of s5)) ((VOE.of e4 s5 v5).back st.dom)
 ·rename_i c
  rw [if_neg c]
  exact h _ H3 e3 ((s1.trans s2).trans (Stp.of s3)) (.low (.bl false))
noncomputable abbrev OF := En -> Rs (Option Int × En)
noncomputable def SO (t : Tx) (te : TO) (f : OF) : Prop := ∀ W ρ σ H Q, EOk t W ρ σ H -> (f ρ).post t.EX (fun p => ∀ H', EOk t W p.2 σ H' -> Stp W H H' -> Q p.1 H') -> te σ H Q
noncomputable def oNo : OF := fun ρ => .ok (none, ρ)
theorem avh : SO t alG oNo := fun W ρ σ H Q e h => h H e (Stp.refl _ _)
noncomputable def iOf : Tr -> Rs Int
 | .int i => .ok i
 | _ => .bad
theorem alT (a : Tr) (c : Str) : iOf a ≠ .ex c := by cases a <;> (intro z; cases z)
theorem aoR {K : PySem.W.Frag} {W : Addr -> Prop} {H : Hp} {v : V} {a : Tr} {b : Int} (h : Rp K W H v a) (q : iOf a = .ok b) : v = .int b := by
 cases a <;> cases q
 exact h.int
noncomputable def anG (fa : EF) : OF := fun ρ => (fa ρ).bind fun p => (dr p.2 p.1).bind fun a => (iOf a).bind fun b => .ok (some b, p.2)
theorem apS {ta : TE} {fa : EF} (ha : SE t ta fa) : SO t (arE ta) (anG fa) := fun W ρ σ H Q e h => by
 refine ha W ρ σ H _ e (Rs.aai (Rs.aaf h) fun p h x H1 e1 s1 v1 => ?_)
 obtain ⟨a, k1, h⟩ := abP (Rs.aaf h) (adf _ _)
 obtain ⟨b, k2, h⟩ := abP (Rs.aaf h) (alT _)
 exact ⟨b, aoR (aeY e1 e.wn v1.1 k1) k2, h H1 e1 s1⟩
noncomputable def cut {α : Type} (xs : List α) (lo hi : Option Int) : List α := (xs.drop (HT.sIx xs.length 0 lo)).take (HT.sIx xs.length xs.length hi - HT.sIx xs.length 0 lo)
theorem aa1.cut {K : PySem.W.Frag} {H : Hp} {xs : List V} {ts : List Tr} (r : aa1 K H xs ts) (lo hi : Option Int) : aa1 K H (aoJ xs lo hi) (L2.cut ts lo hi) := by
 unfold aoJ L2.cut
 rw [r.length]
 exact (r.drop _).take _
noncomputable def awS (K : PySem.W.Frag) : V -> Option Int -> Option Int -> Hp -> VK -> Prop := fun x lo hi H Q => awP K x lo hi H Q \/ awK K x lo hi H Q \/ awQ x lo hi H Q
theorem axp {X : Cx} : SlR X (awS X.K) := SlR.or apF (SlR.or arF arQ)
noncomputable def gSl (lo hi : Option Int) : G1
 | .lst ts => .ok (.lst (cut ts lo hi), true)
 | .tup ts => if ¬ (HT.sIx ts.length 0 lo = 0 /\ HT.sIx ts.length ts.length hi = ts.length) then .ok (.tup (cut ts lo hi), false) else .bad
 | .str z => if z.length <= 100000 then .ok (.str (Txt.slice z lo hi), false) else .bad
 | _ => .bad
theorem apT (lo hi : Option Int) (a : Tr) (c : Str) : gSl lo hi a ≠ .ex c := by
 cases a <;> dsimp only [gSl] <;> (try split) <;> (intro z; cases z)
noncomputable def eSl (fa : EF) (fl fh : OF) : EF := fun ρ => (fa ρ).bind fun p => (fl p.2).bind fun l => (fh l.2).bind fun h => (dr h.2 p.1).bind fun a => (gSl l.1 h.1 a).bind fun z => .ok (.v z.1 z.2, h.2)
theorem avi {K : PySem.W.Frag} (hK : t.K = nlK K) {ta : TE} {tl th : TO} {fa : EF} {fl fh : OF} (ha : SE t ta fa) (hl : SO t tl fl) (hh : SO t th fh) : SE t (tSl (awS K) ta tl th) (eSl fa fl fh) := fun W ρ σ H Q e h => by
 refine ha W ρ σ H _ e (Rs.aai (Rs.aaf h) fun p h x H1 e1 s1 v1 => ?_)
 refine hl W p.2 σ H1 _ e1 (Rs.aai (Rs.aaf h) fun l h H2 e2 s2 => ?_)
 refine hh W l.2 σ H2 _ e2 (Rs.aai (Rs.aaf h) fun u h H3 e3 s3 => ?_)
 obtain ⟨a, k1, h⟩ := abP (Rs.aaf h) (adf _ _)
 obtain ⟨z, k2, h⟩ := abP (Rs.aaf h) (apT _ _ _)
 have st : Stp W H H3 := s1.trans (s2.trans s3)
 have rx := aeY e3 e.wn (v1.1.step e.wn (s2.trans s3)) k1
 rw [hK] at rx
 cases a with
 | lst ts =>
  cases k2
  obtain ⟨b, xs, rfl, q, r⟩ := rx.lst
  refine .inl ⟨b, xs, rfl, q.toK, fun y hy => h _ _ (e3.grow (aaO hy _)) (st.trans (Stp.of (aaO hy _))) ?_⟩
  rw [<-hK] at r
  exact (VOE.of (σ' := σ) e3 (aaO hy _) (VOk.new hy (r.cut _ _))).back st.dom
 | tup ts =>
  dsimp only [gSl] at k2
  split at k2
  ·rename_i c
   cases k2
   obtain ⟨b, xs, rfl, q, r⟩ := rx.tup
   refine .inr (.inl ⟨b, xs, rfl, q.toK, by rw [r.length]; exact c, fun y hy => h _ _ (e3.grow (aaO hy _)) (st.trans (Stp.of (aaO hy _))) ?_⟩)
   rw [<-hK] at r
   exact .low (VOk.newT (σ := σ) (W := W) e3.wl hy (r.cut _ _))
  ·cases k2
 | str i =>
  dsimp only [gSl] at k2
  split at k2
  ·rename_i c
   cases k2
   rw [rx.str]
   exact .inr (.inr ⟨i, rfl, big c, h _ H3 e3 st (.low (.str _))⟩)
  ·cases k2
 | non => cases k2
 | bl i => cases k2
 | int i => cases k2
noncomputable abbrev GN := List Tr -> Rs (Tr × Bool)
noncomputable def CbT (K : PySem.W.Frag) (r : List V -> Hp -> VK -> Prop) (g : GN) : Prop := ∀ W xs as H Q, (∀ b, W b -> Lt H b) -> Rps K W H xs as -> (g as).post (fun _ => False) (fun p => ∀ v H', Same H H' -> VOk K W [] H H' v (.v p.1 p.2) -> Q v H') -> r xs H Q
noncomputable def eCB (g : GN) (fa : AF) : EF := fun ρ => (fa ρ).bind fun p => (drs p.2 p.1).bind fun as => (g as).bind fun z => .ok (.v z.1 z.2, p.2)
theorem ajf {r : List V -> Hp -> VK -> Prop} {g : GN} {ta : TA} {fa : AF} (o : CbT t.K r g) (ng : ∀ as c, g as ≠ .ex c) (ha : SA t ta fa) : SE t (tCB r ta) (eCB g fa) := fun W ρ σ H Q e h => by
 refine ha W ρ σ H _ e (Rs.aai (Rs.aaf h) fun p h xs H1 e1 s1 v1 => ?_)
 obtain ⟨as, k1, h⟩ := abP (Rs.aaf h) (agp _ _)
 refine o W xs as H1 Q e1.wl (aj8 e1 e.wn v1 k1) (Rs.aai (ai6 (Rs.aaf h) (ng as)) fun z h v H2 s2 v2 => ?_)
 exact h v H2 (e1.grow s2) (s1.trans (Stp.of s2)) ((VOE.of e1 s2 v2).back s1.dom)
noncomputable def g1 (g : G1) : GN
 | [a] => g a
 | _ => .bad
theorem ahh {g : G1} (h : ∀ a c, g a ≠ .ex c) (as : List Tr) (c : Str) : g1 g as ≠ .ex c := by
 match as with
 | [] => intro z; cases z
 | [a] => exact h a c
 | _ :: _ :: _ => intro z; cases z
theorem aq9 {K : PySem.W.Frag} {r : List V -> Hp -> VK -> Prop} {g : G1} (h : UnT K (fun x => r [x]) g) : CbT K r (g1 g) := fun W xs as H Q hw rs q => by
 cases rs with
 | nil => exact q.elim
 | cons h1 r1 =>
  cases r1 with
  | nil => exact h W _ _ H Q hw h1 q
  | cons _ _ => exact q.elim
noncomputable def g2 (g : G2) : GN
 | [a, b] => g a b
 | _ => .bad
theorem ar9 {g : G2} (h : ∀ a b c, g a b ≠ .ex c) (as : List Tr) (c : Str) : g2 g as ≠ .ex c := by
 match as with
 | [] => intro z; cases z
 | [a] => intro z; cases z
 | [a, b] => exact h a b c
 | _ :: _ :: _ :: _ => intro z; cases z
theorem axq {K : PySem.W.Frag} {r : List V -> Hp -> VK -> Prop} {g : G2} (h : OpT K (fun x y => r [x, y]) g) : CbT K r (g2 g) := fun W xs as H Q hw rs q => by
 cases rs with
 | nil => exact q.elim
 | cons h1 r1 =>
  cases r1 with
  | nil => exact q.elim
  | cons h2 r2 =>
   cases r2 with
   | nil => exact h W _ _ _ _ H Q hw h1 h2 q
   | cons _ _ => exact q.elim
end
section
variable {K : PySem.W.Frag}
noncomputable def apU (K : PySem.W.Frag) : List V -> Hp -> VK -> Prop := fun xs H Q => (∃ p ys, xs = [.ref p] /\ (SqL K H p ys \/ SqT K H p ys) /\ Q (.int ys.length) H) \/ (∃ z, xs = [.str z] /\ z.length <= sizeLine /\ Q (.int z.length) H)
theorem aaR {X : Cx} : adD X (.builtin "len") (apU X.K) := adD.or aiw aix
noncomputable def abf : G1
 | .lst ts => .ok (.int ts.length, false)
 | .tup ts => .ok (.int ts.length, false)
 | .str z => if z.length <= 100000 then .ok (.int z.length, false) else .bad
 | _ => .bad
theorem asa : UnT (nlK K) (fun x => apU K [x]) abf := fun W x a H Q hw rx h => by
 cases a <;> try exact h.elim
 ·rename_i z
  dsimp only [abf] at h
  split at h
  ·rename_i e
   rw [rx.str]
   exact .inr ⟨z, rfl, big e, h _ H (Same.refl _) (.atm (.int _))⟩
  ·exact h.elim
 ·obtain ⟨p, xs, rfl, q, r⟩ := rx.tup
  refine .inl ⟨p, xs, rfl, .inr q.toK, ?_⟩
  rw [r.length]
  exact h _ H (Same.refl _) (.atm (.int _))
 ·obtain ⟨p, xs, rfl, q, r⟩ := rx.lst
  refine .inl ⟨p, xs, rfl, .inl q.toK, ?_⟩
  rw [r.length]
  exact h _ H (Same.refl _) (.atm (.int _))
noncomputable def adb : G1
 | .int i => .ok (.int (if i < 0 then -i else i), false)
 | _ => .bad
theorem asb : UnT K (fun x H Q => ∃ i, [x] = [V.int i] /\ Q (.int (if i < 0 then -i else i)) H) adb := fun W x a H Q hw rx h => by
 cases a <;> try exact h.elim
 rw [rx.int]
 exact ⟨_, rfl, h _ H (Same.refl _) (.atm (.int _))⟩
noncomputable def ajg : G1
 | .int i => .ok (.int i, false)
 | .bl b => .ok (.int (if b then 1 else 0), false)
 | _ => .bad
theorem asd : UnT K (fun x H Q => (∃ i, [x] = [V.int i] /\ Q (.int i) H) \/ ∃ k, [x] = [V.bl k] /\ Q (.int (if k then 1 else 0)) H) ajg := fun W x a H Q hw rx h => by
 cases a <;> try exact h.elim
 ·rw [rx.bl]
  exact .inr ⟨_, rfl, h _ H (Same.refl _) (.atm (.int _))⟩
 ·rw [rx.int]
  exact .inl ⟨_, rfl, h _ H (Same.refl _) (.atm (.int _))⟩
noncomputable def abk : G1
 | .lst ts => .ok (.lst ts, true)
 | .tup ts => .ok (.lst ts, true)
 | _ => .bad
theorem apV : UnT (nlK K) (fun x H Q => ∃ p ys, [x] = [V.ref p] /\ (SqL K H p ys \/ SqT K H p ys) /\ ∀ l, H l = none -> Q (.ref l) (upd H l (.lst ys))) abk := fun W x a H Q hw rx h => by
 cases a <;> try exact h.elim
 ·obtain ⟨p, xs, rfl, q, r⟩ := rx.tup
  exact ⟨p, xs, rfl, .inr q.toK, fun z hz => h _ _ (aaO hz _) (.new hz r)⟩
 ·obtain ⟨p, xs, rfl, q, r⟩ := rx.lst
  exact ⟨p, xs, rfl, .inl q.toK, fun z hz => h _ _ (aaO hz _) (.new hz r)⟩
noncomputable def aa3 : G1
 | .lst ts => .ok (.tup ts, false)
 | .tup ts => .ok (.tup ts, false)
 | _ => .bad
noncomputable def ac9 : G2
 | .int i, .int j => .ok (.int (if j < i then j else i), false)
 | _, _ => .bad
noncomputable def adB : G2
 | .int i, .int j => .ok (.int (if j > i then j else i), false)
 | _, _ => .bad
theorem ase : OpT K (fun x y H Q => ∃ i j, [x, y] = [V.int i, V.int j] /\ Q (.int (if j < i then j else i)) H) ac9 := fun W x y a b H Q hw rx ry h => by
 cases a <;> cases b <;> try exact h.elim
 rw [rx.int, ry.int]
 exact ⟨_, _, rfl, h _ H (Same.refl _) (.atm (.int _))⟩
noncomputable def ahI : List Tr -> Option (List Bool)
 | [] => some []
 | .bl i :: r => (ahI r).map (i :: ·)
 | _ :: _ => none
theorem aoS {H : Hp} : ∀ {ts : List Tr} {ns : List Bool} {xs : List V}, ahI ts = some ns -> aa1 K H xs ts -> xs = ns.map V.bl
 | [], ns, xs, h, r => by cases h; cases r; rfl
 | .bl i :: q, ns, xs, h, r => by
  unfold ahI at h
  cases e : ahI q with
  | none => rw [e] at h; cases h
  | some ms =>
   rw [e] at h
   cases h
   cases r with
   | cons h1 r1 =>
    cases h1
    rw [aoS e r1]
    rfl
 | .non :: q, ns, xs, h, r => by cases h
 | .int _ :: q, ns, xs, h, r => by cases h
 | .str _ :: q, ns, xs, h, r => by cases h
 | .tup _ :: q, ns, xs, h, r => by cases h
 | .lst _ :: q, ns, xs, h, r => by cases h
noncomputable def acq : G1
 | .lst ts => match ahI ts with
  | some bs => .ok (.bl (bs.all id), false)
  | none => .bad
 | _ => .bad
theorem asf : UnT (nlK K) (fun x => au0 K [x]) acq := fun W x a H Q hw rx h => by
 cases a <;> try exact h.elim
 dsimp only [acq] at h
 split at h
 ·rename_i bs e
  obtain ⟨p, xs, rfl, q, r⟩ := rx.lst
  have z := aoS e r
  subst z
  exact ⟨p, bs, rfl, q.toK, h _ H (Same.refl _) (.atm (.bl _))⟩
 ·exact h.elim
noncomputable def ahi (c : Ty) (fa : EF) : EF := fun ρ => (fa ρ).bind fun p => (dr p.2 p.1).bind fun a => .ok (eB (acL a c), p.2)
theorem ad5 {t : Tx} (hK : t.K = nlK K) (c : Ty) {ta : TE} {fa : EF} (ha : SE t ta fa) : SE t (tCB (aut K) (afl ta (afl (tC (.ty c.name)) aoI))) (ahi c fa) := fun W ρ σ H Q e h => by
 refine ha W ρ σ H _ e (Rs.aai (Rs.aaf h) fun p h x H1 e1 s1 v1 => ?_)
 obtain ⟨a, k1, h⟩ := abP (Rs.aaf h) (adf _ _)
 have r := aeY e1 e.wn v1.1 k1
 rw [hK] at r
 exact ⟨x, a, c, rfl, r.rep.toK, h _ H1 e1 s1 (.low (.bl _))⟩
end
end L2
end
section
set_option exponentiation.threshold 2000
namespace L2
open PySem PySem.Spec PyProof.Rows
inductive Fl where
 | nx | rt (T : Tr) (fr : Bool) | bk | ct
noncomputable abbrev SF := En -> Rs (Fl × En)
noncomputable def Nxt (W : Addr -> Prop) (H : Hp) (W' : Addr -> Prop) (H' : Hp) : Prop := ∀ b o, ¬ W b -> H b = some o -> ¬ W' b /\ H' b = some o
theorem Nxt.refl (W : Addr -> Prop) (H : Hp) : Nxt W H W H := fun _ _ n h => ⟨n, h⟩
theorem Nxt.trans {W W1 W2 : Addr -> Prop} {H H1 H2 : Hp} (a : Nxt W H W1 H1) (b : Nxt W1 H1 W2 H2) : Nxt W H W2 H2 := fun c o n h => by
 obtain ⟨n1, h1⟩ := a c o n h
 exact b c o n1 h1
theorem Stp.nxt {W : Addr -> Prop} {H H' : Hp} (s : Stp W H H') : Nxt W H W H' := fun b o n h => ⟨n, s.keep b o n h⟩
theorem Nxt.same {W W' : Addr -> Prop} {H H' : Hp} (a : Nxt W H W' H') : Same (aaY W H) (aaY W' H') := fun b o h => by
 obtain ⟨n, h⟩ := abm h
 obtain ⟨n', h'⟩ := a b o n h
 rw [aaX n']
 exact h'
noncomputable def VR (t : Tx) (H' : Hp) (v : V) (T : Tr) : Bool -> Prop
 | false => Rep t.K (aaY t.Z H') v T
 | true => ∃ a xs ts, v = .ref a /\ T = .lst ts /\ t.H0 a = none /\ H' a = some (.lst xs) /\ aa1 t.K (off a (aaY t.Z H')) xs ts
noncomputable def ahJ (t : Tx) (W : Addr -> Prop) (H : Hp) (D : Ends) (p : Fl × En) : Prop := match p.1 with
 | .nx => ∀ W' σ' H', EOk t W' p.2 σ' H' -> Nxt W H W' H' -> D.nx σ' H'
 | .rt T fr => ∀ v W' σ' H', EOk t W' p.2 σ' H' -> VR t H' v T fr -> D.rt v H'
 | .bk => ∀ W' σ' H', EOk t W' p.2 σ' H' -> Nxt W H W' H' -> D.bk σ' H'
 | .ct => ∀ W' σ' H', EOk t W' p.2 σ' H' -> Nxt W H W' H' -> D.ct σ' H'
noncomputable def SS (t : Tx) (ts : TS) (f : SF) : Prop := ∀ W ρ σ H D, EOk t W ρ σ H -> (f ρ).post t.EX (ahJ t W H D) -> ts D σ H
theorem ahJ.back {t : Tx} {W W' : Addr -> Prop} {H H' : Hp} {D : Ends} {p : Fl × En} (h : ahJ t W H D p) (n : Nxt W H W' H') : ahJ t W' H' D p := by
 obtain ⟨fl, ρ⟩ := p
 cases fl with
 | nx => exact fun W2 σ2 H2 e m => h W2 σ2 H2 e (n.trans m)
 | rt T fr => exact h
 | bk => exact fun W2 σ2 H2 e m => h W2 σ2 H2 e (n.trans m)
 | ct => exact fun W2 σ2 H2 e m => h W2 σ2 H2 e (n.trans m)
section
variable {t : Tx}
noncomputable def acC : SF := fun ρ => .ok (.nx, ρ)
theorem abd : SS t ars acC := fun W ρ σ H D e h => h W σ H e (Nxt.refl _ _)
noncomputable def aaP (f g : SF) : SF := fun ρ => (f ρ).bind fun p => match p.1 with
 | .nx => g p.2
 | fl => .ok (fl, p.2)
theorem aau {ta tb : TS} {f g : SF} (h1 : SS t ta f) (h2 : SS t tb g) : SS t (awy ta tb) (aaP f g) := fun W ρ σ H D e h => by
 refine h1 W ρ σ H _ e (Rs.aai (Rs.aaf h) fun p h => ?_)
 obtain ⟨fl, ρ1⟩ := p
 cases fl with
 | nx => exact fun W1 σ1 H1 e1 n1 => h2 W1 ρ1 σ1 H1 D e1 (Rs.aai h fun q h => h.back n1)
 | rt T fr => exact h
 | bk => exact h
 | ct => exact h
theorem get_set {α : Type} {l : List α} {i j : Nat} {a b : α} (h : (l.set i a)[j]? = some b) : (j = i /\ b = a /\ i < l.length) \/ (j ≠ i /\ l[j]? = some b) := by
 by_cases e : i = j
 ·subst e
  rw [List.getElem?_set_self'] at h
  cases q : l[i]? with
  | none => rw [q] at h; cases h
  | some c =>
   rw [q] at h
   cases h
   exact .inl ⟨rfl, rfl, (List.getElem?_eq_some_iff.mp q).1⟩
 ·rw [List.getElem?_set_ne e] at h
  exact .inr ⟨Ne.symm e, h⟩
theorem afr {α : Type} {l : List α} {i : Nat} {a : α} (h : i < l.length) : (l.set i a)[i]? = some a := by
 rw [List.getElem?_set_self' , List.getElem?_eq_getElem h]
 rfl
theorem EOk.alU {W : Addr -> Prop} {ρ : En} {σ : St} {H : Hp} {i : Nat} {v : V} {T : Tr} (e : EOk t W ρ σ H) (r : Rep t.K (aaY W H) v T) : EOk t W (ρ.set i (.sh T)) (σ.set i (some v)) H := by
 have mu : ∀ j, Mu (ρ.set i (.sh T)) j -> j ≠ i /\ Mu ρ j := fun j h => by
  obtain ⟨ts, h | h⟩ := h <;> rcases get_set h with ⟨rfl, z, _⟩ | ⟨ne, h⟩
  ·cases z
  ·exact ⟨ne, ts, .inl h⟩
  ·cases z
  ·exact ⟨ne, ts, .inr h⟩
 have dpo : ∀ j us, (ρ.set i (.sh T))[j]? = some (.dp us) -> j ≠ i /\ ρ[j]? = some (.dp us) := fun j us h => by
  rcases get_set h with ⟨rfl, z, _⟩ | ⟨ne, h⟩
  ·cases z
  ·exact ⟨ne, h⟩
 obtain ⟨F, e⟩ := e
 refine ⟨F, by rw [List.length_set, List.length_set]; exact e.len, e.zw, e.z0, e.wl, e.f0, e.n0, fun j u h => ?_, fun j ts h => ?_, fun j ts h => ?_, fun j k a h1 h2 q1 q2 => ?_, e.pn, fun j a m q => e.pd j a (mu j m).2 (by rw [List.getElem?_set_ne (Ne.symm (mu j m).1)] at q; exact q),
  fun j us h => ?_, fun j k us ws n h1 h2 => e.dd j k us ws n (dpo j us h1).2 (dpo k ws h2).2, fun j k us c h1 m q => e.dm j k us c (dpo j us h1).2 (mu k m).2 (by rw [List.getElem?_set_ne (Ne.symm (mu k m).1)] at q; exact q), fun j us h => e.db j us (dpo j us h).2, e.tab⟩
 ·rcases get_set h with ⟨rfl, z, l⟩ | ⟨ne, h⟩
  ·cases z
   exact ⟨v, afr (by rw [<-e.len]; exact l), r⟩
  ·obtain ⟨w, h1, h2⟩ := e.sh j u h
   exact ⟨w, by rw [List.getElem?_set_ne (Ne.symm ne)]; exact h1, h2⟩
 ·rcases get_set h with ⟨rfl, z, l⟩ | ⟨ne, h⟩
  ·cases z
  ·obtain ⟨a, xs, h1, h2⟩ := e.ow j ts h
   exact ⟨a, xs, by rw [List.getElem?_set_ne (Ne.symm ne)]; exact h1, h2⟩
 ·rcases get_set h with ⟨rfl, z, l⟩ | ⟨ne, h⟩
  ·cases z
  ·obtain ⟨a, xs, h1, h2⟩ := e.rf j ts h
   exact ⟨a, xs, by rw [List.getElem?_set_ne (Ne.symm ne)]; exact h1, h2⟩
 ·obtain ⟨n1, m1⟩ := mu j h1
  obtain ⟨n2, m2⟩ := mu k h2
  rw [List.getElem?_set_ne (Ne.symm n1)] at q1
  rw [List.getElem?_set_ne (Ne.symm n2)] at q2
  exact e.dis j k a m1 m2 q1 q2
 ·obtain ⟨ne, h⟩ := dpo j us h
  obtain ⟨c, ys, h1, d⟩ := e.dp j us h
  exact ⟨c, ys, by rw [List.getElem?_set_ne (Ne.symm ne)]; exact h1, d⟩
theorem EOk.addr {W : Addr -> Prop} {ρ : En} {σ : St} {H : Hp} {i : Nat} {a : Addr} (e : EOk t W ρ σ H) (m : Mu ρ i) (q : σ[i]? = some (some (.ref a))) : W a := by
 obtain ⟨ts, h | h⟩ := m
 ·obtain ⟨b, xs, h1, h2, _⟩ := e.ow i ts h
  rw [q] at h1
  cases h1
  exact h2
 ·obtain ⟨b, xs, h1, h2, _⟩ := e.rf i ts h
  rw [q] at h1
  cases h1
  exact h2
theorem EOk.ash {W : Addr -> Prop} {ρ : En} {σ : St} {H : Hp} {i : Nat} {a : Addr} {xs : List V} {ts : List Tr} (e0 : EOk t W ρ σ H) (nw : ¬ W a) (e : EOh t W a ρ σ H) (h0 : t.H0 a = none) (hB : t.B a = none) (ha : H a = some (.lst xs)) (r : aa1 t.K (off a (aaY W H)) xs ts) :
  EOk t (fun b => W b \/ b = a) (ρ.set i (.ow ts)) (σ.set i (some (.ref a))) H := by
 have mu : ∀ j, Mu (ρ.set i (.ow ts)) j -> j = i \/ (j ≠ i /\ Mu ρ j) := fun j h => by
  obtain ⟨ts, h | h⟩ := h <;> rcases get_set h with ⟨rfl, z, _⟩ | ⟨ne, h⟩
  ·exact .inl rfl
  ·exact .inr ⟨ne, ts, .inl h⟩
  ·exact .inl rfl
  ·exact .inr ⟨ne, ts, .inr h⟩
 have m : Same (off a (aaY W H)) (aaY (fun b => W b \/ b = a) H) := fun b o q => by
  obtain ⟨ne, q⟩ := aem q
  obtain ⟨n, q⟩ := abm q
  rw [aaX]
  ·exact q
  ·rintro (z | z)
   ·exact n z
   ·exact ne z
 have dpo : ∀ j us, (ρ.set i (.ow ts))[j]? = some (.dp us) -> j ≠ i /\ ρ[j]? = some (.dp us) := fun j us h => by
  rcases get_set h with ⟨rfl, z, _⟩ | ⟨ne, h⟩
  ·cases z
  ·exact ⟨ne, h⟩
 obtain ⟨F, e, na⟩ := e
 refine ⟨F, by rw [List.length_set, List.length_set]; exact e.len, e.zw, e.z0, e.wl, e.f0, e.n0, fun j u h => ?_, fun j us h => ?_, fun j us h => ?_, fun j k c h1 h2 q1 q2 => ?_, e.pn, fun j c m q => ?_,
  fun j us h => ?_, fun j k us ws n h1 h2 => e.dd j k us ws n (dpo j us h1).2 (dpo k ws h2).2, fun j k us c h1 m q => ?_, fun j us h => e.db j us (dpo j us h).2, e.tab⟩
 ·rcases get_set h with ⟨rfl, z, l⟩ | ⟨ne, h⟩
  ·cases z
  ·obtain ⟨w, h1, h2⟩ := e.sh j u h
   exact ⟨w, by rw [List.getElem?_set_ne (Ne.symm ne)]; exact h1, h2⟩
 ·rcases get_set h with ⟨rfl, z, l⟩ | ⟨ne, h⟩
  ·cases z
   exact ⟨a, xs, afr (by rw [<-e.len]; exact l), .inr rfl, h0, ha, r.mono m⟩
  ·obtain ⟨c, ys, h1, h2⟩ := e.ow j us h
   exact ⟨c, ys, by rw [List.getElem?_set_ne (Ne.symm ne)]; exact h1, h2⟩
 ·rcases get_set h with ⟨rfl, z, l⟩ | ⟨ne, h⟩
  ·cases z
  ·obtain ⟨c, ys, h1, h2⟩ := e.rf j us h
   exact ⟨c, ys, by rw [List.getElem?_set_ne (Ne.symm ne)]; exact h1, h2⟩
 ·have old : ∀ j, j ≠ i -> Mu ρ j -> (σ.set i (some (.ref a)))[j]? ≠ some (some (.ref a)) := fun j ne m q => by
   rw [List.getElem?_set_ne (Ne.symm ne)] at q
   exact nw (e0.addr m q)
  have self : ∀ c, (σ.set i (some (V.ref a)))[i]? = some (some (.ref c)) -> c = a := fun c q => by
   rcases get_set q with ⟨_, z, _⟩ | ⟨ne, _⟩
   ·cases z; rfl
   ·exact absurd rfl ne
  rcases mu j h1 with rfl | ⟨n1, m1⟩ <;> rcases mu k h2 with rfl | ⟨n2, m2⟩
  ·rfl
  ·have := self c q1
   subst this
   exact (old k n2 m2 q2).elim
  ·have := self c q2
   subst this
   exact (old j n1 m1 q1).elim
  ·rw [List.getElem?_set_ne (Ne.symm n1)] at q1
   rw [List.getElem?_set_ne (Ne.symm n2)] at q2
   exact e.dis j k c m1 m2 q1 q2
 ·rcases mu j m with rfl | ⟨n1, m1⟩
  ·rcases get_set q with ⟨_, z, _⟩ | ⟨ne, _⟩
   ·cases z; exact hB
   ·exact absurd rfl ne
  ·rw [List.getElem?_set_ne (Ne.symm n1)] at q
   exact e.pd j c m1 q
 ·obtain ⟨ne, h⟩ := dpo j us h
  obtain ⟨c, ys, h1, d⟩ := e.dp j us h
  exact ⟨c, ys, by rw [List.getElem?_set_ne (Ne.symm ne)]; exact h1, d⟩
 ·obtain ⟨nj, hj⟩ := dpo j us h1
  rcases mu k m with rfl | ⟨n2, m2⟩
  ·rcases get_set q with ⟨_, z, _⟩ | ⟨nk, _⟩
   ·cases z
    exact na j us hj
   ·exact absurd rfl nk
  ·rw [List.getElem?_set_ne (Ne.symm n2)] at q
   exact e.dm j k us c hj m2 q
theorem EOk.noB {W : Addr -> Prop} {ρ : En} {σ : St} {H : Hp} {a : Addr} (e : EOk t W ρ σ H) (n : H a = none) : t.B a = none := by
 cases q : t.B a with
 | none => rfl
 | some o => rw [e.pn a o q] at n; cases n
noncomputable abbrev GF := Tr -> En -> Rs En
noncomputable def SG (t : Tx) (g : TG) (f : GF) (js : List Nat) : Prop := ∀ W ρ σ H v T Q, EOk t W ρ σ H -> Rep t.K (aaY W H) v T -> (f T ρ).post (fun _ => False) (fun ρ' => ∀ σ', EOk t W ρ' σ' H -> (∀ k, k ∉ js -> σ'[k]? = σ[k]?) -> Q σ' H) -> g v σ H Q
noncomputable def gN (i : Nat) : GF := fun T ρ => .ok (ρ.set i (.sh T))
theorem aas (i : Nat) : SG t (acX i) (gN i) [i] := fun W ρ σ H v T Q e r h => h _ (e.alU r) fun k n => List.getElem?_set_ne (fun z => n (by rw [z]; exact List.mem_singleton.mpr rfl))
noncomputable abbrev GFs := List Tr -> En -> Rs En
noncomputable def SGs (t : Tx) (g : TGs) (f : GFs) (js : List Nat) : Prop := ∀ W ρ σ H vs Ts Q, EOk t W ρ σ H -> aa1 t.K (aaY W H) vs Ts -> (f Ts ρ).post (fun _ => False) (fun ρ' => ∀ σ', EOk t W ρ' σ' H -> (∀ k, k ∉ js -> σ'[k]? = σ[k]?) -> Q σ' H) -> g vs σ H Q
noncomputable def acr : GFs := fun Ts ρ => match Ts with
 | [] => .ok ρ
 | _ => .bad
noncomputable def aaJ (f : GF) (g : GFs) : GFs := fun Ts ρ => match Ts with
 | T :: r => (f T ρ).bind fun ρ' => g r ρ'
 | [] => .bad
theorem adF : SGs t auO acr [] := fun W ρ σ H vs Ts Q e r h => by
 cases r with
 | nil => exact ⟨rfl, h σ e fun _ _ => rfl⟩
 | cons _ _ => exact h.elim
theorem abv {g : TG} {u : TGs} {f : GF} {fs : GFs} {js ks : List Nat} (h1 : SG t g f js) (h2 : SGs t u fs ks) : SGs t (ani g u) (aaJ f fs) (js ++ ks) := fun W ρ σ H vs Ts Q e r h => by
 cases r with
 | nil => exact h.elim
 | @cons x T xs Ts r1 r2 =>
  refine ⟨x, xs, rfl, h1 W ρ σ H x T _ e r1 (Rs.aai (Rs.aaf h) fun ρ' h σ' e' n1 => ?_)⟩
  refine h2 W ρ' σ' H xs Ts _ e' r2 (Rs.aai h fun ρ2 h σ2 e2 n2 => h σ2 e2 fun k n => ?_)
  rw [List.mem_append, not_or] at n
  rw [n2 k n.2, n1 k n.1]
noncomputable def gT (n : Nat) (f : GFs) : GF := fun T ρ => match T with
 | .tup Ts => if Ts.length = n then f Ts ρ else .bad
 | _ => .bad
theorem ae2 {K : PySem.W.Frag} (hK : t.K = nlK K) {n : Nat} {u : TGs} {fs : GFs} {js : List Nat} (h2 : SGs t u fs js) : SG t (auP K n u) (gT n fs) js := fun W ρ σ H v T Q e r h => by
 cases T <;> try exact h.elim
 rename_i Ts
 dsimp only [gT] at h
 split at h
 ·rename_i c
  cases r with
  | @tup a xs _ q r =>
   have q' := (abq W H).aq7 q
   rw [hK] at q'
   exact ⟨a, xs, rfl, q'.toK, by rw [r.length]; exact c, h2 W ρ σ H xs Ts Q e r h⟩
 ·exact h.elim
noncomputable def ab9 (f : EF) (g : GF) : SF := fun ρ => (f ρ).bind fun p => match p.1 with
 | .v T _ => (g T p.2).bind fun ρ' => .ok (.nx, ρ')
 | .s _ => .bad
theorem abg {te : TE} {g : TG} {f : EF} {gf : GF} {js : List Nat} (h1 : SE t te f) (h2 : SG t g gf js) (ng : ∀ T ρ c, gf T ρ ≠ .ex c) : SS t (aps te g) (ab9 f gf) := fun W ρ σ H D e h => by
 refine h1 W ρ σ H _ e (Rs.aai (Rs.aaf h) fun p h v H1 e1 s1 v1 => ?_)
 obtain ⟨r, ρ1⟩ := p
 cases r with
 | s i => exact h.elim
 | v T fr => exact h2 W ρ1 σ H1 v T _ e1 (v1.1.rep e.wn) (Rs.aai (ai6 (Rs.aaf h) (ng T ρ1)) fun ρ' h σ' e' _ => h W σ' H1 e' s1.nxt)
noncomputable def ai3 (i : Nat) (f : EF) : SF := fun ρ => (f ρ).bind fun p => match p.1 with
 | .v (.lst ts) true => .ok (.nx, p.2.set i (.ow ts))
 | _ => .bad
theorem ags {te : TE} {f : EF} (i : Nat) (h1 : SE t te f) : SS t (aps te (acX i)) (ai3 i f) := fun W ρ σ H D e h => by
 refine h1 W ρ σ H _ e (Rs.aai (Rs.aaf h) fun p h v H1 e1 s1 v1 => ?_)
 obtain ⟨r, ρ1⟩ := p
 dsimp only at h
 split at h
 ·rename_i ts
  obtain ⟨⟨a, xs, us, rfl, z, n, q, rr⟩, he⟩ := v1
  cases z
  have nw : ¬ W a := fun w => e.wn a w n
  refine h _ _ H1 (e1.ash nw (he _ a rfl rfl) (e.n0 a n) (e.noB n) q rr) fun b o nb hb => ⟨?_, s1.keep b o nb hb⟩
  rintro (z | rfl)
  ·exact nb z
  ·rw [n] at hb; cases hb
 ·exact h.elim
noncomputable def aeu (f : EF) : SF := fun ρ => (f ρ).bind fun p => .ok (.nx, p.2)
theorem ad6 {te : TE} {f : EF} (h1 : SE t te f) : SS t (apq te) (aeu f) := fun W ρ σ H D e h =>
 h1 W ρ σ H _ e (Rs.aai (Rs.aaf h) fun p h v H1 e1 s1 v1 => h W σ H1 e1 s1.nxt)
noncomputable def abn (f : EF) : SF := fun ρ => (f ρ).bind fun p => match p.1 with
 | .v T fr => .ok (.rt T fr, p.2)
 | .s i => match p.2[i]? with
  | some (.ow ts) => .ok (.rt (.lst ts) true, p.2)
  | _ => .bad
theorem aj9 {W : Addr -> Prop} {ρ : En} {σ : St} {H : Hp} (e : EOk t W ρ σ H) : Same (aaY W H) (aaY t.Z H) := acn (fun b _ _ z => e.zw b z) fun _ _ _ h => h
theorem aaC {te : TE} {f : EF} (h1 : SE t te f) : SS t (awz te) (abn f) := fun W ρ σ H D e h => by
 refine h1 W ρ σ H _ e (Rs.aai (Rs.aaf h) fun p h v H1 e1 s1 v1 => ?_)
 obtain ⟨r, ρ1⟩ := p
 cases r with
 | v T fr =>
  refine h v W σ H1 e1 ?_
  cases fr with
  | false => exact Rep.mono (aj9 e1) v1.1
  | true =>
   obtain ⟨a, xs, us, rfl, z, n, q, rr⟩ := v1.1
   refine ⟨a, xs, us, rfl, z, e.n0 a n, q, rr.mono fun b o q => ?_⟩
   obtain ⟨ne, q⟩ := aem q
   rw [off_ne ne]
   exact aj9 e1 b o q
 | s i =>
  dsimp only at h
  split at h
  ·rename_i ts q
   obtain ⟨a, xs, h1, h2, h3, h4, h5⟩ := e1.ow i ts q
   have ev : σ[i]? = some (some v) := v1.1
   rw [ev] at h1
   cases h1
   refine h _ W σ H1 e1 ⟨a, xs, ts, rfl, rfl, h3, h4, h5.mono fun b o q => ?_⟩
   have ne : b ≠ a := fun z => by subst z; rw [ahD h2] at q; cases q
   rw [off_ne ne]
   exact aj9 e1 b o q
  ·exact h.elim
noncomputable def sIf (c : BF) (f g : SF) : SF := fun ρ => (c ρ).bind fun p => if p.1 = true then f p.2 else g p.2
theorem ab0 {tc : TT} {ta tb : TS} {c : BF} {f g : SF} (hc : ST t tc c) (ha : SS t ta f) (hb : SS t tb g) : SS t (awA tc ta tb) (sIf c f g) := fun W ρ σ H D e h => by
 refine hc W ρ σ H _ e (Rs.aai (Rs.aaf h) fun p h H1 e1 s1 => ?_)
 split at h
 ·rename_i d
  refine if_pos d ▸ ha W p.2 σ H1 D e1 (Rs.aai h fun q h => h.back s1.nxt)
 ·rename_i d
  refine if_neg d ▸ hb W p.2 σ H1 D e1 (Rs.aai h fun q h => h.back s1.nxt)
noncomputable def frz (i : Nat) (ρ : En) : En := match ρ[i]? with
 | some (.ow ts) => ρ.set i (.sh (.lst ts))
 | _ => ρ
end
end L2
end
section
set_option exponentiation.threshold 2000
namespace L2
open PySem PySem.Spec PyProof.Rows
section
variable {t : Tx}
theorem EOk.frz {W : Addr -> Prop} {ρ : En} {σ : St} {H : Hp} (e : EOk t W ρ σ H) (i : Nat) : ∃ W', EOk t W' (L2.frz i ρ) σ H /\ Nxt W H W' H := by
 unfold L2.frz
 split
 ·rename_i ts q
  obtain ⟨a, xs, h1, h2, h3, h4, h5⟩ := e.ow i ts q
  have m : Same (aaY W H) (aaY (fun b => W b /\ b ≠ a) H) := acn (fun _ _ _ z => z.1) fun _ _ _ h => h
  have mi : Mu ρ i := ⟨ts, .inl q⟩
  have mu : ∀ j, Mu (ρ.set i (.sh (.lst ts))) j -> j ≠ i /\ Mu ρ j := fun j h => by
   obtain ⟨us, h | h⟩ := h <;> rcases get_set h with ⟨rfl, z, _⟩ | ⟨ne, h⟩
   ·cases z
   ·exact ⟨ne, us, .inl h⟩
   ·cases z
   ·exact ⟨ne, us, .inr h⟩
  have nea : ∀ j c, j ≠ i -> Mu ρ j -> σ[j]? = some (some (.ref c)) -> c ≠ a := fun j c ne mj qj z => by
   subst z
   exact ne (e.dis j i c mj mi qj h1)
  have dpo : ∀ (j : Nat) (us : List Tr), (ρ.set i (.sh (.lst ts)))[j]? = some (Sl.dp us) -> ρ[j]? = some (Sl.dp us) := fun j us h => by
   rcases get_set h with ⟨rfl, z, _⟩ | ⟨ne, h⟩
   ·cases z
   ·exact h
  obtain ⟨F, e⟩ := e
  refine ⟨fun b => W b /\ b ≠ a, ⟨F, by rw [List.length_set]; exact e.len, fun b z => ⟨e.zw b z, fun y => ?_⟩, e.z0, fun b w => e.wl b w.1, e.f0, e.n0, fun j u h => ?_, fun j us h => ?_, fun j us h => ?_, fun j k c m1 m2 q1 q2 => e.dis j k c (mu j m1).2 (mu k m2).2 q1 q2, e.pn, fun j c m q => e.pd j c (mu j m).2 q, fun j us h => ?_, fun j k us ws n h1 h2 => e.dd j k us ws n (dpo j us h1) (dpo k ws h2), fun j k us c h1 m q => e.dm j k us c (dpo j us h1) (mu k m).2 q, fun j us h => e.db j us (dpo j us h), e.tab.cut (D := fun b => b = a) (fun b z => ⟨xs, by rw [z]; exact h4⟩)⟩, fun b o n h => ⟨fun z => n z.1, h⟩⟩
  ·subst y
   exact e.z0 b z h3
  ·rcases get_set h with ⟨rfl, z, l⟩ | ⟨ne, h⟩
   ·cases z
    refine ⟨.ref a, h1, .lst (SqL.of ?_) (h5.mono m)⟩
    rw [aaX fun z => z.2 rfl]
    exact h4
   ·obtain ⟨w, q1, q2⟩ := e.sh j u h
    exact ⟨w, q1, q2.mono m⟩
  ·rcases get_set h with ⟨rfl, z, l⟩ | ⟨ne, h⟩
   ·cases z
   ·obtain ⟨c, ys, q1, q2, q3, q4, q5⟩ := e.ow j us h
    exact ⟨c, ys, q1, ⟨q2, nea j c ne ⟨us, .inl h⟩ q1⟩, q3, q4, q5.mono m⟩
  ·rcases get_set h with ⟨rfl, z, l⟩ | ⟨ne, h⟩
   ·cases z
   ·obtain ⟨c, ys, q1, q2, q3, q4, q5⟩ := e.rf j us h
    exact ⟨c, ys, q1, ⟨q2, nea j c ne ⟨us, .inr h⟩ q1⟩, q3, q4, q5.mono m⟩
  ·obtain ⟨c, ys, q1, d⟩ := e.dp j us (dpo j us h)
   exact ⟨c, ys, q1, d.move rfl rfl m (fun b hb => ⟨by obtain ⟨_, _, _, ww, _⟩ := d; exact (ww b hb).1, fun z => by subst z; exact e.dm j i us b (dpo j us h) mi h1 hb⟩) fun _ _ _ q => q⟩
 ·exact ⟨W, e, Nxt.refl _ _⟩
noncomputable def ara (i : Nat) (f : SF) : SF := fun ρ => f (frz i ρ)
theorem aoT {ts : TS} {f : SF} (i : Nat) (h : SS t ts f) : SS t ts (ara i f) := fun W ρ σ H D e q => by
 obtain ⟨W', e', n⟩ := e.frz i
 exact h W' _ σ H D e' (Rs.aai q fun p q => q.back n)
noncomputable def ae3 (c : BF) (b : SF) : Nat -> SF
 | 0 => fun _ => .bad
 | n + 1 => fun ρ => (c ρ).bind fun p => if p.1 = true then (b p.2).bind fun q => (match q.1 with
  | .nx => ae3 c b n q.2
  | .ct => ae3 c b n q.2
  | .bk => .ok (.nx, q.2)
  | .rt T fr => .ok (.rt T fr, q.2)) else .ok (.nx, p.2)
noncomputable def adX (fu : En -> Nat) (c : BF) (b : SF) : SF := fun ρ => ae3 c b (fu ρ) ρ
theorem akb {tc : TT} {tb : TS} {c : BF} {b : SF} (fu : En -> Nat) (hc : ST t tc c) (hb : SS t tb b) : SS t (aoG tc tb) (adX fu c b) := fun W ρ σ H D e h => by
 refine ⟨fun m σ' H' => ∃ ρ' W', EOk t W' ρ' σ' H' /\ (ae3 c b m ρ').post t.EX (ahJ t W' H' D), ⟨fu ρ, ρ, W, e, h⟩, ?_⟩
 rintro m σ1 H1 ⟨ρ1, W1, e1, h1⟩
 cases m with
 | zero => exact h1.elim
 | succ n =>
  refine hc W1 ρ1 σ1 H1 _ e1 (Rs.aai (Rs.aaf h1) fun p h H2 e2 s2 => ?_)
  split at h
  ·rename_i d
   rw [if_pos d]
   refine ⟨fun σ' H' => ∃ ρ' W', EOk t W' ρ' σ' H' /\ (ae3 c b n ρ').post t.EX (ahJ t W' H' D), fun σ' H' q => ⟨n, Nat.lt_succ_self n, q⟩, ?_⟩
   refine hb W1 p.2 σ1 H2 _ e2 (Rs.aai (Rs.aaf h) fun q h => ?_)
   obtain ⟨fl, ρ3⟩ := q
   cases fl with
   | nx => exact fun W3 σ3 H3 e3 n3 => ⟨ρ3, W3, e3, Rs.aai h fun r h => h.back (s2.nxt.trans n3)⟩
   | ct => exact fun W3 σ3 H3 e3 n3 => ⟨ρ3, W3, e3, Rs.aai h fun r h => h.back (s2.nxt.trans n3)⟩
   | bk => exact fun W3 σ3 H3 e3 n3 => h W3 σ3 H3 e3 (s2.nxt.trans n3)
   | rt T fr => exact h
  ·rename_i d
   rw [if_neg d]
   exact h W1 σ1 H2 e2 s2.nxt
noncomputable def apW (K : PySem.W.Frag) (W : Addr -> Prop) (H : Hp) (J : It) (us : List Tr) : Prop := ∀ W' H', Same (aaY W H) (aaY W' H') -> (∀ b, W' b -> Lt H' b) -> ∀ i, (i = us.length -> J.stop i H') /\ ∀ u, us[i]? = some u -> J.go i H' /\ ∀ x H'', J.yld i H' x H'' -> Same H' H'' /\ Rep K (aaY W' H'') x u
noncomputable abbrev IF := En -> Rs (List Tr × En)
noncomputable def SI (t : Tx) (wi : TI) (f : IF) : Prop := ∀ W ρ σ H R, EOk t W ρ σ H -> (f ρ).post t.EX (fun p => ∀ J H', EOk t W p.2 σ H' -> Stp W H H' -> apW t.K W H' J p.1 -> R J H') -> wi σ H R
noncomputable def abW (g : GF) (b : SF) : List Tr -> SF
 | [] => fun ρ => .ok (.nx, ρ)
 | u :: us => fun ρ => (g u ρ).bind fun ρ1 => (b ρ1).bind fun q => (match q.1 with
  | .nx => abW g b us q.2
  | .ct => abW g b us q.2
  | .bk => .ok (.nx, q.2)
  | .rt T fr => .ok (.rt T fr, q.2))
noncomputable def aeF (fi : IF) (g : GF) (b : SF) : SF := fun ρ => (fi ρ).bind fun p => abW g b p.1 p.2
theorem aeG {wi : TI} {g : TG} {tb : TS} {fi : IF} {gf : GF} {b : SF} {js : List Nat} (hi : SI t wi fi) (hg : SG t g gf js) (ng : ∀ T ρ c, gf T ρ ≠ .ex c) (hb : SS t tb b) : SS t (awG wi g tb) (aeF fi gf b) := fun W ρ σ H D e h => by
 refine hi W ρ σ H _ e (Rs.aai (Rs.aaf h) fun p h J H1 e1 s1 it => ?_)
 obtain ⟨us, ρ1⟩ := p
 dsimp only at h it e1
 refine ⟨fun i m σ' H' => m = us.length - i /\ i <= us.length /\ ∃ ρ' W', EOk t W' ρ' σ' H' /\ Nxt W H1 W' H' /\ (abW gf b (us.drop i) ρ').post t.EX (ahJ t W' H' D), ⟨us.length, by simp, Nat.zero_le _, ρ1, W, e1, Nxt.refl _ _, by rw [List.drop_zero]; exact Rs.aai h fun r h => h.back s1.nxt⟩, ?_⟩
 rintro i m σ2 H2 ⟨rfl, hi, ρ2, W2, e2, n2, h2⟩
 have q := it W2 H2 n2.same e2.wl i
 by_cases hlt : i < us.length
 ·rw [List.drop_eq_getElem_cons hlt] at h2
  obtain ⟨go, y⟩ := q.2 us[i] (by simp [hlt])
  refine .inr ⟨go, fun σ' H' => ∃ ρ' W', EOk t W' ρ' σ' H' /\ Nxt W H1 W' H' /\ (abW gf b (us.drop (i + 1)) ρ').post t.EX (ahJ t W' H' D), fun σ' H' z => ⟨us.length - (i + 1), by omega, rfl, hlt, z⟩, fun x H3 yl => ?_⟩
  obtain ⟨s3, r3⟩ := y x H3 yl
  have e3 := e2.grow s3
  have n3 : Nxt W H1 W2 H3 := n2.trans (Stp.of s3).nxt
  refine hg W2 ρ2 σ2 H3 x us[i] _ e3 r3 (Rs.aai (ai6 (Rs.aaf h2) (ng _ _)) fun ρ4 h σ4 e4 _ => ?_)
  refine hb W2 ρ4 σ4 H3 _ e4 (Rs.aai (Rs.aaf h) fun r h => ?_)
  obtain ⟨fl, ρ5⟩ := r
  cases fl with
  | nx => exact fun W5 σ5 H5 e5 n5 => ⟨ρ5, W5, e5, n3.trans n5, Rs.aai h fun r h => h.back ((Stp.of s3).nxt.trans n5)⟩
  | ct => exact fun W5 σ5 H5 e5 n5 => ⟨ρ5, W5, e5, n3.trans n5, Rs.aai h fun r h => h.back ((Stp.of s3).nxt.trans n5)⟩
  | bk => exact fun W5 σ5 H5 e5 n5 => h W5 σ5 H5 e5 ((Stp.of s3).nxt.trans n5)
  | rt T fr => exact h
 ·have z : i = us.length := by omega
  subst z
  rw [List.drop_length] at h2
  exact .inl ⟨q.1 rfl, h2 W2 σ2 H2 e2 (Nxt.refl _ _)⟩
noncomputable def iSq (K : PySem.W.Frag) (tl : TE) : TI := fun σ H R => arv K tl σ H R \/ awF K tl σ H R
theorem adg {X : Cx} {tg l : Expr} {tl : TE} (hl : PE X l tl) : PI X tg l (iSq X.K tl) := fun pins s σ H R I h => by
 rcases h with h | h
 ·exact apu hl pins s σ H R I h
 ·exact arw hl pins s σ H R I h
noncomputable def acP : Rv -> Rs (List Tr × Bool)
 | .v (.lst ts) _ => .ok (ts, true)
 | .v (.tup ts) _ => .ok (ts, false)
 | _ => .bad
noncomputable def fSq (f : EF) : IF := fun ρ => (f ρ).bind fun p => (acP p.1).bind fun z => .ok (z.1, p.2)
theorem apY {K : PySem.W.Frag} {W : Addr -> Prop} {H : Hp} {a : Addr} {xs : List V} {us : List Tr} (q : SqL (nlK K) (aaY W H) a xs) (r : aa1 (nlK K) (aaY W H) xs us) : apW (nlK K) W H (Itl K a) us := fun W' H' m hw i => by
 have q' : SqL K H' a xs := ((abq W' H').seq (m.seq q)).toK
 refine ⟨fun z => ⟨xs, q', by rw [r.length]; omega⟩, fun u hu => ?_⟩
 obtain ⟨x, hx, rx⟩ := r.anf hu
 refine ⟨⟨xs, x, q', hx⟩, fun y H'' yl => ?_⟩
 obtain ⟨rfl, z⟩ := yl
 have := z xs q'
 rw [hx] at this
 cases this
 exact ⟨Same.refl _, rx.mono m⟩
theorem asi {K : PySem.W.Frag} {W : Addr -> Prop} {H : Hp} {a : Addr} {xs : List V} {us : List Tr} (q : SqT (nlK K) (aaY W H) a xs) (r : aa1 (nlK K) (aaY W H) xs us) : apW (nlK K) W H (Itt K a) us := fun W' H' m hw i => by
 have q' : SqT K H' a xs := ((abq W' H').aq7 (m.aq7 q)).toK
 refine ⟨fun z => ⟨xs, q', by rw [r.length]; omega⟩, fun u hu => ?_⟩
 obtain ⟨x, hx, rx⟩ := r.anf hu
 refine ⟨⟨xs, x, q', hx⟩, fun y H'' yl => ?_⟩
 obtain ⟨rfl, z⟩ := yl
 have := z xs q'
 rw [hx] at this
 cases this
 exact ⟨Same.refl _, rx.mono m⟩
theorem adz {K : PySem.W.Frag} (hK : t.K = nlK K) {tl : TE} {f : EF} (h1 : SE t tl f) : SI t (iSq K tl) (fSq f) := fun W ρ σ H R e h => by
 have h := Rs.aaf h
 have key : ∀ b : Bool, (f ρ).post t.EX (fun p => ∃ us, acP p.1 = .ok (us, b) /\ ∀ J H', EOk t W p.2 σ H' -> Stp W H H' -> apW t.K W H' J us -> R J H') -> iSq K tl σ H R := fun b h => by
  cases b with
  | true =>
   refine .inl (h1 W ρ σ H _ e (Rs.aai h fun p h v H1 e1 s1 v1 => ?_))
   obtain ⟨us, q, h⟩ := h
   obtain ⟨r, ρ1⟩ := p
   cases r with
   | s i => cases q
   | v T fr =>
    cases T <;> cases q
    have rr := v1.1.rep e.wn
    cases rr with
    | @lst a xs _ q r =>
     refine ⟨a, rfl, ⟨xs, ?_⟩, h _ H1 e1 s1 ?_⟩
     ·rw [hK] at q
      exact ((abq _ _).seq q).toK
     ·rw [hK] at q r ⊢
      exact apY q r
  | false =>
   refine .inr (h1 W ρ σ H _ e (Rs.aai h fun p h v H1 e1 s1 v1 => ?_))
   obtain ⟨us, q, h⟩ := h
   obtain ⟨r, ρ1⟩ := p
   cases r with
   | s i => cases q
   | v T fr =>
    cases T <;> cases q
    have rr := v1.1.rep e.wn
    cases rr with
    | @tup a xs _ q r =>
     refine ⟨a, rfl, ⟨xs, ?_⟩, h _ H1 e1 s1 ?_⟩
     ·rw [hK] at q
      exact ((abq _ _).aq7 q).toK
     ·rw [hK] at q r ⊢
      exact asi q r
 cases k : f ρ with
 | bad => rw [k] at h; exact h.elim
 | ex c =>
  refine key true ?_
  rw [k] at h ⊢
  exact h
 | ok p =>
  rw [k] at h
  have h : ((acP p.1).bind _).post _ _ := h
  cases k2 : acP p.1 with
  | bad => rw [k2] at h; exact h.elim
  | ex c =>
   exfalso
   revert k2
   unfold acP
   split <;> (intro z; cases z)
  | ok z =>
   rw [k2] at h
   refine key z.2 ?_
   rw [k]
   exact ⟨z.1, k2, h⟩
noncomputable def upTo (lo : Int) : Nat -> List Tr
 | 0 => []
 | n + 1 => .int lo :: upTo (lo + 1) n
theorem anH (lo : Int) : ∀ n, (upTo lo n).length = n := fun n => by
 induction n generalizing lo with
 | zero => rfl
 | succ n ih => rw [upTo, List.length_cons, ih]
theorem anI {lo : Int} {n i : Nat} {u : Tr} (h : (upTo lo n)[i]? = some u) : i < n /\ u = .int (lo + i) := by
 induction n generalizing lo i with
 | zero => simp [upTo] at h
 | succ n ih =>
  rw [upTo] at h
  cases i with
  | zero =>
   simp at h
   subst h
   exact ⟨Nat.zero_lt_succ _, by simp⟩
  | succ i =>
   obtain ⟨h1, h2⟩ := ih (lo := lo + 1) (i := i) (by simpa using h)
   refine ⟨Nat.succ_lt_succ h1, h2.trans ?_⟩
   congr 1
   omega
theorem anJ {K : PySem.W.Frag} {W : Addr -> Prop} {H : Hp} (lo : Int) (n : Nat) : apW K W H (Itr lo n) (upTo lo n) := fun W' H' m hw i => by
 refine ⟨fun z => ?_, fun u hu => ?_⟩
 ·rw [anH] at z
  exact Nat.le_of_eq z.symm
 ·obtain ⟨h1, rfl⟩ := anI hu
  refine ⟨h1, fun x H'' yl => ?_⟩
  obtain ⟨rfl, rfl⟩ := yl
  exact ⟨Same.refl _, .int _⟩
noncomputable def okR (i : Int) : Bool := decide (-1000000 <= i) && decide (i <= 1000000)
noncomputable def afP (fa : AF) : IF := fun ρ => (fa ρ).bind fun p => (drs p.2 p.1).bind fun as => match as with
 | [.int j] => if okR j = true then .ok (upTo 0 j.toNat, p.2) else .bad
 | _ => .bad
theorem afH {ta : TA} {fa : AF} (ha : SA t ta fa) : SI t (apv ta) (afP fa) := fun W ρ σ H R e h => by
 refine ha W ρ σ H _ e (Rs.aai (Rs.aaf h) fun p h vs H1 e1 s1 v1 => ?_)
 obtain ⟨as, k1, h⟩ := abP (Rs.aaf h) (agp _ _)
 have r := aj8 e1 e.wn v1 k1
 split at h
 ·rename_i j
  split at h
  ·rename_i c
   unfold okR at c
   rw [Bool.and_eq_true] at c
   have c1 := of_decide_eq_true c.1
   have c2 := of_decide_eq_true c.2
   cases r with
   | cons h1 r1 =>
    cases r1
    rw [h1.int]
    exact ⟨j, rfl, by omega, by omega, h _ H1 e1 s1 (anJ 0 _)⟩
  ·exact h.elim
 ·exact h.elim
noncomputable def avj (fa : AF) : IF := fun ρ => (fa ρ).bind fun p => (drs p.2 p.1).bind fun as => match as with
 | [.int i, .int j] => if okR i = true /\ okR j = true then .ok (upTo i (j - i).toNat, p.2) else .bad
 | _ => .bad
noncomputable def con (ρ : En) (i : Nat) : Rs (List Tr) := match ρ[i]? with
 | some (.ow ts) => .ok ts
 | some (.rf ts) => .ok ts
 | _ => .bad
theorem aeN (ρ : En) (i : Nat) (c : Str) : con ρ i ≠ .ex c := by
 unfold con
 split <;> (intro z; cases z)
noncomputable def abw (i : Nat) (us : List Tr) (ρ : En) : En := match ρ[i]? with
 | some (.ow _) => ρ.set i (.ow us)
 | some (.rf _) => ρ.set i (.rf us)
 | _ => ρ
theorem EOk.con {W : Addr -> Prop} {ρ : En} {σ : St} {H : Hp} {i : Nat} {ts : List Tr} (e : EOk t W ρ σ H) (q : con ρ i = .ok ts) : Mu ρ i /\ ∃ a xs, σ[i]? = some (some (.ref a)) /\ W a /\ H a = some (.lst xs) /\ aa1 t.K (aaY W H) xs ts /\ (∀ o, t.H0 a = some o -> t.R a) := by
 unfold L2.con at q
 split at q
 ·rename_i us h
  cases q
  obtain ⟨a, xs, h1, h2, h3, h4, h5⟩ := e.ow i ts h
  exact ⟨⟨ts, .inl h⟩, a, xs, h1, h2, h4, h5, fun o z => by rw [h3] at z; cases z⟩
 ·rename_i us h
  cases q
  obtain ⟨a, xs, h1, h2, h3, h4, h5⟩ := e.rf i ts h
  exact ⟨⟨ts, .inr h⟩, a, xs, h1, h2, h4, h5, fun o z => h3⟩
 ·cases q
theorem afs {ρ : En} {i j : Nat} {us : List Tr} (h : Mu (abw i us ρ) j) : Mu ρ j := by
 unfold abw at h
 split at h
 ·rename_i ws q
  obtain ⟨ts, h | h⟩ := h <;> rcases get_set h with ⟨rfl, z, _⟩ | ⟨ne, h⟩
  ·exact ⟨_, .inl q⟩
  ·exact ⟨_, .inl h⟩
  ·exact ⟨_, .inl q⟩
  ·exact ⟨_, .inr h⟩
 ·rename_i ws q
  obtain ⟨ts, h | h⟩ := h <;> rcases get_set h with ⟨rfl, z, _⟩ | ⟨ne, h⟩
  ·exact ⟨_, .inr q⟩
  ·exact ⟨_, .inl h⟩
  ·exact ⟨_, .inr q⟩
  ·exact ⟨_, .inr h⟩
 ·exact h
theorem ahK {ρ : En} {i : Nat} {us : List Tr} : (abw i us ρ).length = ρ.length := by
 unfold abw
 split
 ·rw [List.length_set]
 ·rw [List.length_set]
 ·rfl
theorem adG {ρ : En} {i j : Nat} {us : List Tr} {s : Sl} (h : (abw i us ρ)[j]? = some s) : (j ≠ i /\ ρ[j]? = some s) \/ (j = i /\ ((∃ ts, ρ[i]? = some (.ow ts) /\ s = .ow us) \/ (∃ ts, ρ[i]? = some (.rf ts) /\ s = .rf us) \/ (¬ Mu ρ i /\ ρ[i]? = some s))) := by
 unfold abw at h
 split at h
 ·rename_i ws q
  rcases get_set h with ⟨rfl, z, _⟩ | ⟨ne, h⟩
  ·exact .inr ⟨rfl, .inl ⟨ws, q, z⟩⟩
  ·exact .inl ⟨ne, h⟩
 ·rename_i ws q
  rcases get_set h with ⟨rfl, z, _⟩ | ⟨ne, h⟩
  ·exact .inr ⟨rfl, .inr (.inl ⟨ws, q, z⟩)⟩
  ·exact .inl ⟨ne, h⟩
 ·rename_i n1 n2
  by_cases e : j = i
  ·subst e
   refine .inr ⟨rfl, .inr (.inr ⟨?_, h⟩)⟩
   rintro ⟨ts, z | z⟩
   ·exact n1 ts z
   ·exact n2 ts z
  ·exact .inl ⟨e, h⟩
theorem ad7 {ρ : En} {i j : Nat} {us ws : List Tr} (h : (abw i us ρ)[j]? = some (.dp ws)) : ρ[j]? = some (.dp ws) := by
 rcases adG h with ⟨_, h⟩ | ⟨rfl, ⟨_, _, z⟩ | ⟨_, _, z⟩ | ⟨_, h⟩⟩
 ·exact h
 ·cases z
 ·cases z
 ·exact h
theorem DR.lst {K : PySem.W.Frag} {G H : Hp} : ∀ {xs : List V} {ts : List Tr} {bs : List Addr}, DR K G H xs ts bs -> ∀ b ∈ bs, ∃ ys, H b = some (.lst ys)
 | _, _, _, .nil, _, h => by cases h
 | _, _, _, .cl _ _ r, b, h => DR.lst r b h
 | _, _, _, .rw q _ r, b, h => by
  rcases List.mem_cons.mp h with rfl | h
  ·exact ⟨_, q⟩
  ·exact DR.lst r b h
theorem aoO.lst {t : Tx} {W : Addr -> Prop} {H : Hp} {a : Addr} {xs : List V} {ts : List Tr} {fp : List Addr} (d : aoO t W H a xs ts fp) : ∀ b ∈ fp, ∃ ys, H b = some (.lst ys) := fun b hb => by
 obtain ⟨bs, e, _, _, ha, r⟩ := d
 rw [e] at hb
 rcases List.mem_cons.mp hb with rfl | hb
 ·exact ⟨_, ha⟩
 ·exact r.lst b hb
theorem aoO.nt {t : Tx} {K : PySem.W.Frag} {W : Addr -> Prop} {H : Hp} {a : Addr} {xs : List V} {ts : List Tr} {fp : List Addr} (d : aoO t W H a xs ts fp) (tb : TbS K H) {b : Addr} (z : Tb K b) (hb : b ∈ fp) : False := by
 obtain ⟨ys, e⟩ := d.lst b hb
 exact tb.ne z e rfl
theorem EOk.asj {W : Addr -> Prop} {ρ : En} {σ : St} {H : Hp} {i : Nat} {a : Addr} (e : EOk t W ρ σ H) (m : Mu ρ i) (q : σ[i]? = some (some (.ref a))) : ∃ xs, H a = some (.lst xs) := by
 obtain ⟨ts, h | h⟩ := m
 ·obtain ⟨b, xs, h1, _, _, h4, _⟩ := e.ow i ts h
  rw [q] at h1
  cases h1
  exact ⟨xs, h4⟩
 ·obtain ⟨b, xs, h1, _, _, h4, _⟩ := e.rf i ts h
  rw [q] at h1
  cases h1
  exact ⟨xs, h4⟩
theorem EOF.move {W W' : Addr -> Prop} {ρ : En} {σ : St} {H H' : Hp} {i : Nat} {a : Addr} {xs : List V} {us : List Tr} {F : Nat -> List Addr} (e : EOF t W ρ σ H F) (mi : Mu ρ i) (hi : σ[i]? = some (some (.ref a))) (m : Same (aaY W H) (aaY W' H')) (sub : ∀ b, W b -> W' b) (wl : ∀ b, W' b -> Lt H' b)
  (tb : TbS t.K H') (fr : ∀ b o, H b = some o -> b ≠ a -> ¬ Tb t.K b -> H' b = some o) (dom : ∀ b, H' b = none -> H b = none) (h0 : ∀ o, t.H0 a = some o -> t.R a) (ha : H' a = some (.lst xs)) (r : aa1 t.K (aaY W' H') xs us) : EOF t W' (abw i us ρ) σ H' F := by
 have ne : ∀ j c, j ≠ i -> Mu ρ j -> σ[j]? = some (some (.ref c)) -> c ≠ a := fun j c n mj q z => by
  subst z
  exact n (e.dis j i c mj mi q hi)
 have nt : ∀ {c : Addr} {ys : List V}, H c = some (.lst ys) -> ¬ Tb t.K c := fun q z => e.tab.ok.ne z q rfl
 refine ⟨by rw [ahK]; exact e.len, fun b z => sub b (e.zw b z), e.z0, wl, fun b o h n => ?_, fun b h => e.n0 b (dom b h), fun j u h => ?_, fun j ts h => ?_, fun j ts h => ?_, fun j k c h1 h2 => e.dis j k c (afs h1) (afs h2), fun b o h => fr b o (e.pn b o h) (fun z => by subst z; rw [e.pd i b mi hi] at h; cases h) (fun z => by rw [e.tab.B b z] at h; cases h), fun j c m q => e.pd j c (afs m) q, fun j ws h => ?_, fun j k ws zs n h1 h2 => e.dd j k ws zs n (ad7 h1) (ad7 h2), fun j k ws c h1 m q => e.dm j k ws c (ad7 h1) (afs m) q, fun j ws h => e.db j ws (ad7 h), ⟨tb, fun b z => sub b (e.tab.w b z), e.tab.r, e.tab.B⟩⟩
 ·refine fr b o (e.f0 b o h n) (fun z => ?_) fun z => n (e.tab.r b z)
  subst z
  exact n (h0 o h)
 ·rcases adG h with ⟨n, h⟩ | ⟨rfl, ⟨ts, q, z⟩ | ⟨ts, q, z⟩ | ⟨nm, h⟩⟩
  ·obtain ⟨w, h1, h2⟩ := e.sh j u h
   exact ⟨w, h1, h2.mono m⟩
  ·cases z
  ·cases z
  ·exact (nm mi).elim
 ·rcases adG h with ⟨n, h⟩ | ⟨rfl, ⟨ts', q, z⟩ | ⟨ts', q, z⟩ | ⟨nm, h⟩⟩
  ·obtain ⟨c, ys, h1, h2, h3, h4, h5⟩ := e.ow j ts h
   exact ⟨c, ys, h1, sub c h2, h3, fr c _ h4 (ne j c n ⟨ts, .inl h⟩ h1) (nt h4), h5.mono m⟩
  ·cases z
   obtain ⟨c, ys, h1, h2, h3, h4, h5⟩ := e.ow j ts' q
   rw [hi] at h1
   cases h1
   exact ⟨a, xs, hi, sub a h2, h3, ha, r⟩
  ·cases z
  ·exact (nm mi).elim
 ·rcases adG h with ⟨n, h⟩ | ⟨rfl, ⟨ts', q, z⟩ | ⟨ts', q, z⟩ | ⟨nm, h⟩⟩
  ·obtain ⟨c, ys, h1, h2, h3, h4, h5⟩ := e.rf j ts h
   exact ⟨c, ys, h1, sub c h2, h3, fr c _ h4 (ne j c n ⟨ts, .inr h⟩ h1) (nt h4), h5.mono m⟩
  ·cases z
  ·cases z
   obtain ⟨c, ys, h1, h2, h3, h4, h5⟩ := e.rf j ts' q
   rw [hi] at h1
   cases h1
   exact ⟨a, xs, hi, sub a h2, h3, ha, r⟩
  ·exact (nm mi).elim
 ·obtain ⟨c, ys, h1, d⟩ := e.dp j ws (ad7 h)
  exact ⟨c, ys, h1, d.move rfl rfl m (fun b hb => sub b (by obtain ⟨_, _, _, ww, _⟩ := d; exact (ww b hb).1)) fun b o hb q => fr b o q (fun z => by subst z; exact e.dm j i ws b (ad7 h) mi hi hb) fun z => d.nt e.tab.ok z hb⟩
theorem EOk.move {W W' : Addr -> Prop} {ρ : En} {σ : St} {H H' : Hp} {i : Nat} {a : Addr} {xs : List V} {us : List Tr} (e : EOk t W ρ σ H) (mi : Mu ρ i) (hi : σ[i]? = some (some (.ref a))) (m : Same (aaY W H) (aaY W' H')) (sub : ∀ b, W b -> W' b) (wl : ∀ b, W' b -> Lt H' b)
  (tb : TbS t.K H') (fr : ∀ b o, H b = some o -> b ≠ a -> ¬ Tb t.K b -> H' b = some o) (dom : ∀ b, H' b = none -> H b = none) (h0 : ∀ o, t.H0 a = some o -> t.R a) (ha : H' a = some (.lst xs)) (r : aa1 t.K (aaY W' H') xs us) : EOk t W' (abw i us ρ) σ H' := by
 obtain ⟨F, e⟩ := e
 exact ⟨F, e.move mi hi m sub wl tb fr dom h0 ha r⟩
theorem EOk.put {W : Addr -> Prop} {ρ : En} {σ : St} {H : Hp} {i : Nat} {a : Addr} {xs : List V} {us : List Tr} (e : EOk t W ρ σ H) (mi : Mu ρ i) (hi : σ[i]? = some (some (.ref a))) (h0 : ∀ o, t.H0 a = some o -> t.R a) (r : aa1 t.K (aaY W H) xs us) : EOk t W (abw i us ρ) σ (upd H a (.lst xs)) /\ Stp W H (upd H a (.lst xs)) := by
 have w := e.addr mi hi
 obtain ⟨zs, hz⟩ := e.asj mi hi
 refine ⟨e.move mi hi (by rw [acF w]; exact Same.refl _) (fun _ h => h) (fun b z => ?_) (e.tab.ok.upd hz) (fun b o h n _ => by rw [aaH n]; exact h) (fun b h => ?_) h0 aa9 (by rw [acF w]; exact r), ⟨fun b o n h => ?_, fun b h => ?_⟩⟩
 ·by_cases q : b = a
  ·subst q; exact .inl ⟨xs, aa9⟩
  ·unfold Lt; rw [aaH q]; exact e.wl b z
 ·by_cases q : b = a
  ·subst q; rw [aa9] at h; cases h
  ·rw [aaH q] at h; exact h
 ·rw [aaH (fun z => n (by rw [z]; exact w))]; exact h
 ·by_cases q : b = a
  ·subst q; rw [aa9] at h; cases h
  ·rw [aaH q] at h; exact h
noncomputable abbrev GM := List Tr -> List Tr -> Rs (List Tr × Tr)
noncomputable def MtT (r : V -> List V -> Hp -> VK -> Prop) (m : GM) : Prop := ∀ (K : PySem.W.Frag) (G : Hp) a xs ts vs as H Q ts' T, H a = some (.lst xs) -> aa1 K G xs ts -> aa1 K G vs as -> m ts as = .ok (ts', T) -> (∀ xs' v, aa1 K G xs' ts' -> Rep K G v T -> Q v (upd H a (.lst xs'))) -> r (.ref a) vs H Q
noncomputable def eMt (i : Nat) (m : GM) (fa : AF) : EF := fun ρ => (con ρ i).bind fun _ => (fa ρ).bind fun p => (cls p.1).bind fun as => (con p.2 i).bind fun ts => (m ts as).bind fun z => .ok (.v z.2 false, abw i z.1 p.2)
theorem asl {K : PySem.W.Frag} {r : V -> List V -> Hp -> VK -> Prop} {m : GM} {ta : TA} {fa : AF} (i : Nat) (hm : MtT r m) (ng : ∀ ts as c, m ts as ≠ .ex c) (ha : SA t ta fa) : SE t (tBM K "list" r (akH i) ta) (eMt i m fa) := fun W ρ σ H Q e h => by
 obtain ⟨us, k0, h⟩ := abP (Rs.aaf h) (aeN _ _)
 obtain ⟨_, a, xs, hi, _, hx, _⟩ := e.con k0
 refine ⟨_, hi, .inl ⟨rfl, xs, SqL.of hx⟩, ?_⟩
 refine ha W ρ σ H _ e (Rs.aai (Rs.aaf h) fun p h vs H1 e1 s1 v1 => ?_)
 obtain ⟨as, k1, h⟩ := abP (Rs.aaf h) (afq _)
 obtain ⟨ts, k2, h⟩ := abP (Rs.aaf h) (aeN _ _)
 obtain ⟨⟨ts', T⟩, k3, h⟩ := abP (Rs.aaf h) (ng _ _)
 obtain ⟨mi, a', ys, hi', w, hy, ry, h0⟩ := e1.con k2
 rw [hi] at hi'
 cases hi'
 refine hm t.K (aaY W H1) a ys ts vs as H1 Q ts' T hy ry (ahf e.wn v1 k1) k3 fun xs' v r' rv => ?_
 obtain ⟨e2, s2⟩ := e1.put mi hi h0 r'
 refine h v _ e2 (s1.trans s2) (.low ?_)
 rw [acF w]
 exact rv
noncomputable def asn (i : Nat) (m : GM) : EF := fun ρ => (con ρ i).bind fun ts => (m ts []).bind fun z => .ok (.v z.2 false, abw i z.1 ρ)
theorem aso {K : PySem.W.Frag} {r : V -> List V -> Hp -> VK -> Prop} {m : GM} (i : Nat) (hm : MtT r m) (ng : ∀ ts as c, m ts as ≠ .ex c) : SE t (auU K "list" r (akH i)) (asn i m) := fun W ρ σ H Q e h => by
 obtain ⟨ts, k0, h⟩ := abP (Rs.aaf h) (aeN _ _)
 obtain ⟨mi, a, xs, hi, w, hx, rx, h0⟩ := e.con k0
 obtain ⟨⟨ts', T⟩, k3, h⟩ := abP (Rs.aaf h) (ng _ _)
 refine ⟨_, hi, .inl ⟨rfl, xs, SqL.of hx⟩, ?_⟩
 refine hm t.K (aaY W H) a xs ts [] [] H Q ts' T hx rx .nil k3 fun xs' v r' rv => ?_
 obtain ⟨e2, s2⟩ := e.put mi hi h0 r'
 refine h v _ e2 s2 (.low ?_)
 rw [acF w]
 exact rv
noncomputable def akc : GM := fun ts as => match as with
 | [T] => if ts.length <= 100000 then .ok (ts ++ [T], .non) else .bad
 | _ => .bad
theorem asp : MtT aja akc := fun K G a xs ts vs as H Q ts' T hx r ra q h => by
 unfold akc at q
 split at q
 ·rename_i U
  split at q
  ·rename_i c
   cases q
   cases ra with
   | cons h1 r1 =>
    cases r1
    exact ⟨a, xs, _, rfl, rfl, hx, Nat.lt_of_le_of_lt (by rw [r.length]; exact c) (by decide), h _ _ (r.app (.cons h1 .nil)) .non⟩
  ·cases q
 ·cases q
noncomputable def afI : GM := fun ts as => match as with
 | [] => .ok ([], .non)
 | _ => .bad
theorem asq : MtT alJ afI := fun K G a xs ts vs as H Q ts' T hx r ra q h => by
 unfold afI at q
 split at q
 ·cases q
  cases ra
  exact ⟨a, xs, rfl, rfl, hx, h _ _ .nil .non⟩
 ·cases q
theorem apZ (ts as : List Tr) (c : Str) : akc ts as ≠ .ex c := by
 unfold akc
 split <;> (try split) <;> (intro z; cases z)
theorem ap0 (ts as : List Tr) (c : Str) : afI ts as ≠ .ex c := by
 unfold afI
 split <;> (intro z; cases z)
theorem aa1.set {K : PySem.W.Frag} {H : Hp} {v : V} {T : Tr} (h : Rep K H v T) : ∀ {xs : List V} {ts : List Tr} (j : Nat), aa1 K H xs ts -> aa1 K H (xs.set j v) (ts.set j T)
 | _, _, _, .nil => .nil
 | _, _, 0, .cons _ r => .cons h r
 | _, _, j + 1, .cons h1 r => .cons h1 (aa1.set h j r)
noncomputable def ap1 (i : Nat) (fk fe : EF) : SF := fun ρ => (fe ρ).bind fun p => (cls [p.1]).bind fun Ts => (con p.2 i).bind fun _ => (fk p.2).bind fun q => (dr q.2 q.1).bind fun kT => (iOf kT).bind fun k => (con q.2 i).bind fun ts => match Ts, ixN ts.length k with
 | [T], some j => .ok (.nx, abw i (ts.set j T) q.2)
 | _, _ => .bad
theorem ap2 {te ti : TE} {fk fe : EF} (i : Nat) (he : SE t te fe) (hk : SE t ti fk) : SS t (aps te (awC (akH i) ti arL)) (ap1 i fk fe) := fun W ρ σ H D e h => by
 refine he W ρ σ H _ e (Rs.aai (Rs.aaf h) fun p h v H1 e1 s1 v1 => ?_)
 obtain ⟨Ts, k1, h⟩ := abP (Rs.aaf h) (afq _)
 obtain ⟨us, k2, h⟩ := abP (Rs.aaf h) (aeN _ _)
 obtain ⟨_, a, xs, hi, _, hx, _⟩ := e1.con k2
 refine ⟨_, hi, hk W p.2 σ H1 _ e1 (Rs.aai (Rs.aaf h) fun q h w H2 e2 s2 v2 => ?_)⟩
 obtain ⟨kT, k3, h⟩ := abP (Rs.aaf h) (adf _ _)
 obtain ⟨k, k4, h⟩ := abP (Rs.aaf h) (alT _)
 obtain ⟨ts, k5, h⟩ := abP (Rs.aaf h) (aeN _ _)
 obtain ⟨mi, a', ys, hi', wa, hy, ry, h0⟩ := e2.con k5
 rw [hi] at hi'
 cases hi'
 have kk : ∃ T j, Ts = [T] /\ ixN ts.length k = some j /\ ahJ t W H D (.nx, abw i (ts.set j T) q.2) := by
  cases Ts with
  | nil => exact h.elim
  | cons T r =>
   cases r with
   | cons _ _ => exact h.elim
   | nil =>
    cases kj : ixN ts.length k with
    | none => rw [kj] at h; exact h.elim
    | some j => rw [kj] at h; exact ⟨T, j, rfl, rfl, h⟩
 obtain ⟨T, j, rfl, k6, h⟩ := kk
 ·have rv : Rep t.K (aaY W H2) v T := by
   have r1 := ahf (vs := [v]) e.wn (.cons v1.1 .nil) k1
   cases r1 with
   | cons r1 _ => exact r1.mono s2.off
  obtain ⟨e3, s3⟩ := e2.put mi hi h0 (ry.set rv j)
  refine ⟨a, ys, k, j, rfl, aoR (aeY e2 e1.wn v2.1 k3) k4, hy, by rw [ry.length]; exact k6, h W σ _ e3 ?_⟩
  exact ((s1.trans s2).trans s3).nxt
noncomputable def axr (i : Nat) (p : Int -> Int -> Int) (f : EF) : SF := fun ρ => match ρ[i]? with
 | some (.sh (.int x)) => (f ρ).bind fun q => (dr q.2 q.1).bind fun yT => (iOf yT).bind fun y => .ok (.nx, q.2.set i (.sh (.int (p x y))))
 | _ => .bad
noncomputable def aoU (i j : Nat) (fa : AF) : SF := fun ρ => (fa ρ).bind fun p => (cls p.1).bind fun Ts => match Ts with
 | [T, U] => .ok (.nx, (p.2.set i (.sh T)).set j (.sh U))
 | _ => .bad
theorem alV {ta : TA} {fa : AF} (i j : Nat) (ha : SA t ta fa) : SS t (awD i j ta) (aoU i j fa) := fun W ρ σ H D e h => by
 refine ha W ρ σ H _ e (Rs.aai (Rs.aaf h) fun p h vs H1 e1 s1 v1 => ?_)
 obtain ⟨Ts, k1, h⟩ := abP (Rs.aaf h) (afq _)
 have r := ahf e.wn v1 k1
 split at h
 ·cases r with
  | cons h1 r1 =>
   cases r1 with
   | cons h2 r2 =>
    cases r2
    exact ⟨_, _, rfl, h W _ H1 ((e1.alU h1).alU h2) s1.nxt⟩
 ·exact h.elim
noncomputable def akd (c : Str) (f : EF) : SF := fun ρ => (f ρ).bind fun _ => .ex c
noncomputable def F0 (t : Tx) (H' : Hp) : Prop := (∀ b o, t.H0 b = some o -> ¬ t.R b -> H' b = some o) /\ TbS t.K H'
theorem ahL {E : XK} {C : Addr} {te : TE} {f : EF} {c : Str} (hx : ∀ H', F0 t H' -> t.EX c -> E (.ref C) none H') (he : SE t te f) : SS t (aoN E C te) (akd c f) := fun W ρ σ H D e h =>
 he W ρ σ H _ e (Rs.aai (Rs.aaf h) fun p h v H1 e1 s1 v1 => ⟨rfl, hx H1 ⟨e1.f0, e1.tab.ok⟩ h⟩)
end
end L2
end
section
set_option exponentiation.threshold 2000
namespace L2
open PySem PySem.Spec PyProof.Rows
mutual
noncomputable def ai4 : Tr -> Bool
 | .tup ts => adH ts
 | .lst _ => false
 | _ => true
noncomputable def adH : List Tr -> Bool
 | [] => true
 | t :: r => ai4 t && adH r
end
noncomputable def anK (G G' : Hp) : Prop := ∀ b xs, (G b = some (.tup xs) -> G' b = some (.tup xs)) /\ ∀ o, G b = some (.frz o (.tup xs)) -> G' b = some (.frz o (.tup xs))
mutual
theorem Rep.flat {K : PySem.W.Frag} {G G' : Hp} (m : anK G G') : ∀ {v : V} {T : Tr}, Rep K G v T -> ai4 T = true -> Rep K G' v T
 | _, _, .non, _ => .non
 | _, _, .bl b, _ => .bl b
 | _, _, .int i, _ => .int i
 | _, _, .str x, _ => .str x
 | _, _, .tup h r, n => by
  refine .tup ?_ (aa1.flat m r (by unfold ai4 at n; exact n))
  rcases h with (h | ⟨o, h⟩) | h
  ·exact .inl (.inl ((m _ _).1 h))
  ·exact .inl (.inr ⟨o, (m _ _).2 o h⟩)
  ·exact .inr h
 | _, _, .lst h r, n => by unfold ai4 at n; cases n
theorem aa1.flat {K : PySem.W.Frag} {G G' : Hp} (m : anK G G') : ∀ {v : List V} {T : List Tr}, aa1 K G v T -> adH T = true -> aa1 K G' v T
 | _, _, .nil, _ => .nil
 | _, _, .cons h r, n => by
  unfold adH at n
  rw [Bool.and_eq_true] at n
  exact .cons (Rep.flat m h n.1) (aa1.flat m r n.2)
end
theorem agt {W W' : Addr -> Prop} {H : Hp} (wl : ∀ b, W' b -> Lt H b) : anK (aaY W H) (aaY W' H) := fun b xs => by
 have key : ∀ o, aaY W H b = some o -> (∀ ys, o ≠ .lst ys) -> (∀ ys, o ≠ .tbl ys) -> aaY W' H b = some o := fun o h n n' => by
  obtain ⟨_, h⟩ := abm h
  rw [aaX]
  ·exact h
  ·intro w
   rcases wl b w with ⟨ys, e⟩ | ⟨ys, e⟩ <;> (rw [h] at e; cases e)
   ·exact n ys rfl
   ·exact n' ys rfl
 exact ⟨fun h => key _ h (fun ys z => by cases z) (fun ys z => by cases z), fun o h => key _ h (fun ys z => by cases z) (fun ys z => by cases z)⟩
theorem akT {a : Addr} {W : Addr -> Prop} {H : Hp} {xs : List V} (wl : ∀ b, W b -> Lt H b) (ha : H a = some (.lst xs)) (G : Hp) (hG : ∀ b o, G b = some o -> H b = some o) : anK G (off a (aaY W H)) := fun b ys => by
 have key : ∀ o, G b = some o -> (∀ ys, o ≠ .lst ys) -> (∀ ys, o ≠ .tbl ys) -> off a (aaY W H) b = some o := fun o h n n' => by
  have h := hG b o h
  rw [off_ne, aaX]
  ·exact h
  ·intro w
   rcases wl b w with ⟨ys, e⟩ | ⟨ys, e⟩ <;> (rw [h] at e; cases e)
   ·exact n ys rfl
   ·exact n' ys rfl
  ·rintro rfl
   rw [h] at ha
   cases ha
   exact n _ rfl
 exact ⟨fun h => key _ h (fun ys z => by cases z) (fun ys z => by cases z), fun o h => key _ h (fun ys z => by cases z) (fun ys z => by cases z)⟩
noncomputable def VRt (K : PySem.W.Frag) (Z : Addr -> Prop) (H H' : Hp) (v : V) (T : Tr) : Bool -> Prop
 | false => Rep K (aaY Z H') v T
 | true => ∃ a xs ts, v = .ref a /\ T = .lst ts /\ H a = none /\ H' a = some (.lst xs) /\ aa1 K (off a (aaY Z H')) xs ts
noncomputable def SmT (K : PySem.W.Frag) (H H' : Hp) : Prop := (∀ b o, H b = some o -> ¬ Tb K b -> H' b = some o) /\ TbS K H'
theorem SmT.dom {K : PySem.W.Frag} {H H' : Hp} (s : SmT K H H') : ∀ b, H' b = none -> H b = none := fun b h => by
 cases q : H b with
 | none => rfl
 | some o =>
  by_cases z : Tb K b
  ·obtain ⟨ps, e⟩ := s.2.tbl z
   rw [h] at e
   cases e
  ·rw [s.1 b o q z] at h
   cases h
noncomputable def anL (G G' : Hp) : Prop := ∀ b o, (∀ ps, o ≠ .tbl ps) -> G b = some o -> G' b = some o
theorem Rd.afQ {G G' : Hp} (m : anL G G') {a : Addr} {u : HO} (n : ∀ ps, u ≠ .tbl ps) (h : Rd G a u) : Rd G' a u := by
 rcases h with h | ⟨o, h⟩
 ·exact .inl (m _ _ n h)
 ·exact .inr ⟨o, m _ _ (fun _ z => by cases z) h⟩
mutual
theorem Rep.afQ {K : PySem.W.Frag} {G G' : Hp} (m : anL G G') : ∀ {v : V} {T : Tr}, Rep K G v T -> Rep K G' v T
 | _, _, .non => .non
 | _, _, .bl b => .bl b
 | _, _, .int i => .int i
 | _, _, .str x => .str x
 | _, _, .tup h r => by
  refine .tup ?_ (aa1.afQ m r)
  rcases h with h | h
  ·exact .inl (Rd.afQ m (fun _ z => by cases z) h)
  ·exact .inr h
 | _, _, .lst h r => by
  refine .lst ?_ (aa1.afQ m r)
  rcases h with h | h
  ·exact .inl (Rd.afQ m (fun _ z => by cases z) h)
  ·exact .inr h
theorem aa1.afQ {K : PySem.W.Frag} {G G' : Hp} (m : anL G G') : ∀ {v : List V} {T : List Tr}, aa1 K G v T -> aa1 K G' v T
 | _, _, .nil => .nil
 | _, _, .cons h r => .cons (Rep.afQ m h) (aa1.afQ m r)
end
theorem af8 {K : PySem.W.Frag} {Z : Addr -> Prop} {H : Hp} (tb : TbS K H) : anL (aaY Z H) (aaY (fun b => Z b \/ Tb K b) H) := fun b o n h => by
 obtain ⟨nz, h⟩ := abm h
 rw [aaX]
 ·exact h
 ·rintro (z | z)
  ·exact nz z
  ·obtain ⟨ps, e⟩ := tb.tbl z
   rw [h] at e
   cases e
   exact n _ rfl
theorem EOk.ap3 {t : Tx} {W : Addr -> Prop} {ρ : En} {σ : St} {H H' : Hp} (e : EOk t W ρ σ H) (s : SmT t.K H H') : EOk t W ρ σ H' /\ Stp W H H' := by
 have st : Stp W H H' := ⟨fun b o n q => s.1 b o q fun z => n (e.tab.w b z), s.dom⟩
 refine ⟨?_, st⟩
 have m := st.off
 obtain ⟨F, e⟩ := e
 have ls : ∀ {a : Addr} {xs : List V}, H a = some (.lst xs) -> H' a = some (.lst xs) := fun q => s.1 _ _ q fun z => e.tab.ok.ne z q rfl
 refine ⟨F, e.len, e.zw, e.z0, fun b w => ?_, fun b o h n => s.1 b o (e.f0 b o h n) fun z => n (e.tab.r b z), fun b h => e.n0 b (s.dom b h), fun i u h => ?_, fun i ts h => ?_, fun i ts h => ?_, e.dis, fun b o h => s.1 b o (e.pn b o h) fun z => (by rw [e.tab.B b z] at h; cases h), e.pd, fun i ts h => ?_, e.dd, e.dm, e.db, ⟨s.2, e.tab.w, e.tab.r, e.tab.B⟩⟩
 ·rcases e.wl b w with ⟨xs, q⟩ | ⟨ps, q⟩
  ·exact .inl ⟨xs, ls q⟩
  ·by_cases z : Tb t.K b
   ·exact .inr (s.2.tbl z)
   ·exact .inr ⟨ps, s.1 b _ q z⟩
 ·obtain ⟨v, h1, h2⟩ := e.sh i u h
  exact ⟨v, h1, h2.mono m⟩
 ·obtain ⟨a, xs, h1, h2, h3, h4, h5⟩ := e.ow i ts h
  exact ⟨a, xs, h1, h2, h3, ls h4, h5.mono m⟩
 ·obtain ⟨a, xs, h1, h2, h3, h4, h5⟩ := e.rf i ts h
  exact ⟨a, xs, h1, h2, h3, ls h4, h5.mono m⟩
 ·obtain ⟨a, xs, h1, d⟩ := e.dp i ts h
  exact ⟨a, xs, h1, d.move rfl rfl m (fun b hb => by obtain ⟨_, _, _, ww, _⟩ := d; exact (ww b hb).1) fun b o hb q => s.1 b o q fun z => d.nt e.tab.ok z hb⟩
theorem EOk.avk {t : Tx} {W : Addr -> Prop} {ρ : En} {σ : St} {H H' : Hp} {a : Addr} {xs : List V} (e : EOk t W ρ σ H) (s : SmT t.K H H') (n : H a = none) (q : H' a = some (.lst xs)) : EOh t W a ρ σ H' := by
 have na : ∀ b, W b -> b ≠ a := fun b w z => by subst z; exact e.wn b w n
 obtain ⟨e', st⟩ := e.ap3 s
 have m : Same (aaY W H') (aaY (fun b => W b \/ b = a) H') -> True := fun _ => trivial
 have mm : ∀ {v : V} {T : Tr}, Rep t.K (aaY W H) v T -> Rep t.K (aaY (fun b => W b \/ b = a) H') v T := fun r => r.mono fun b o h => by
  obtain ⟨w, h⟩ := abm h
  rw [aaX]
  ·exact st.keep b o w h
  ·rintro (z | rfl)
   ·exact w z
   ·rw [n] at h; cases h
 have mms : Same (aaY W H) (aaY (fun b => W b \/ b = a) H') := fun b o h => by
  obtain ⟨w, h⟩ := abm h
  rw [aaX]
  ·exact st.keep b o w h
  ·rintro (z | rfl)
   ·exact w z
   ·rw [n] at h; cases h
 obtain ⟨F, e⟩ := e
 have ls : ∀ {a : Addr} {xs : List V}, H a = some (.lst xs) -> H' a = some (.lst xs) := fun q => s.1 _ _ q fun z => e.tab.ok.ne z q rfl
 refine ⟨F, ⟨e.len, fun b z => .inl (e.zw b z), e.z0, fun b w => ?_, e'.f0, e'.n0, fun i u h => ?_, fun i ts h => ?_, fun i ts h => ?_, e.dis, e'.pn, e.pd, fun i ts h => ?_, e.dd, e.dm, e.db, e'.tab.wid fun b w => .inl w⟩, fun i ts h z => ?_⟩
 ·rcases w with w | rfl
  ·exact e'.wl b w
  ·exact .inl ⟨xs, q⟩
 ·obtain ⟨v, h1, h2⟩ := e.sh i u h
  exact ⟨v, h1, mm h2⟩
 ·obtain ⟨c, ys, h1, h2, h3, h4, h5⟩ := e.ow i ts h
  exact ⟨c, ys, h1, .inl h2, h3, ls h4, h5.mono mms⟩
 ·obtain ⟨c, ys, h1, h2, h3, h4, h5⟩ := e.rf i ts h
  exact ⟨c, ys, h1, .inl h2, h3, ls h4, h5.mono mms⟩
 ·obtain ⟨c, ys, h1, d⟩ := e.dp i ts h
  exact ⟨c, ys, h1, d.move rfl rfl mms (fun b hb => by obtain ⟨_, _, _, ww, _⟩ := d; exact .inl (ww b hb).1) fun b o hb q => s.1 b o q fun z => d.nt e.tab.ok z hb⟩
 ·obtain ⟨c, ys, h1, bs, _, _, ww, _⟩ := e.dp i ts h
  exact na a (ww a z).1 rfl
noncomputable abbrev FP := List Tr -> Rs (Tr × Bool)
noncomputable def spP (K : PySem.W.Frag) (cl : Str -> Addr) (n : Nat) (F : FP) : Sp := fun vs H Q E => ∃ Z ts, vs.length = n /\ aa1 (nlK K) (aaY Z H) vs ts /\ (∀ b, Z b -> Lt H b) /\ TbS (nlK K) H /\
 (F ts).post (fun c => ∀ H', SmT (nlK K) H H' -> E (.ref (cl c)) none H') (fun p => ∀ v H', SmT (nlK K) H H' -> VRt (nlK K) Z H H' v p.1 p.2 -> Q v H')
noncomputable def aaF (nl : Nat) (ts : List Tr) : En := ts.map Sl.sh ++ List.replicate (nl - ts.length) Sl.un
noncomputable def fnP (nl : Nat) (b : SF) : FP := fun ts => (b (aaF nl ts)).bind fun q => match q.1 with
 | .rt T fr => .ok (T, fr)
 | .nx => .ok (.non, false)
 | _ => .bad
theorem abJ {nl : Nat} {ts : List Tr} {i : Nat} {s : Sl} (h : (aaF nl ts)[i]? = some s) : (∃ u, ts[i]? = some u /\ s = .sh u) \/ s = .un := by
 unfold aaF at h
 by_cases l : i < ts.length
 ·rw [List.getElem?_append_left (by simpa using l), List.getElem?_map] at h
  rw [List.getElem?_eq_getElem l] at h ⊢
  cases h
  exact .inl ⟨_, rfl, rfl⟩
 ·rw [List.getElem?_append_right (by simpa using Nat.le_of_not_lt l)] at h
  rw [List.getElem?_replicate] at h
  split at h
  ·cases h; exact .inr rfl
  ·cases h
theorem ae4 {N : List Str} {vs : List V} {i : Nat} {v : V} (h : vs[i]? = some v) : (start N vs)[i]? = some (some v) := by
 unfold start
 have l : i < vs.length := (List.getElem?_eq_some_iff.mp h).1
 rw [List.getElem?_append_left (by simpa using l), List.getElem?_map, h]
 rfl
section
variable {P : Program} {w : World} {K : PySem.W.Frag} {mg : Str -> Option Value} {base : Heap}
theorem At.dfP {k : Nat} {x : Str} {st : Stmt} {N ps : List Str} {cl : Str -> Addr} {b : SF} (a : At K mg x st) (S : aaE N ps (aan st)) (hn : ps.length <= N.length)
  (hb : ∀ (kV doc pm : Value) (an : Option Addr) (cdv ct : Value) (us : List Value), us.length = ps.length -> bindArgs (PySem.W.fnOf x x (acZ st) (abY st) (aan st) .none kV doc pm an cdv ct) ⟨us, []⟩ = pure (ps.zip us))
  (hbody : ∀ (f : Addr) (cdv : Value) (A : Around) (outer : List Env) (s : Shared) (H : Hp) (E : XK), afN k (A.deeper (envOfC x (aan st) s.heap.objs.size f cdv)) ->
   ∃ ts, PSs (aj2 (CXF P w) P w K mg base N x (aan st) f cdv A outer s H E) (abY st) ts /\ ∀ t : Tx, t.K = nlK K -> (∀ c H', F0 t H' -> t.EX c -> E (.ref (cl c)) none H') -> SS t ts b) :
  DfX P w K mg base (k + 1) x ps (spP K cl ps.length (fnP N.length b)) := by
 refine a.dfx S hb (fun vs H Q E h => ?_) (fun f cdv A outer s H vs Q E hr h => ?_)
 ·obtain ⟨_, _, h, _⟩ := h; exact h
 obtain ⟨Z, as, hl, r, zl, tb, h⟩ := h
 obtain ⟨ts, h1, h2⟩ := hbody f cdv A outer s H E hr
 refine ⟨ts, h1, ?_⟩
 have sm : ∀ (b : Addr) (W : Addr -> Prop) ρ σ H', EOk ⟨nlK K, Z, Tb (nlK K), H, fun _ => none, fun c => ∀ H', SmT (nlK K) H H' -> E (.ref (cl c)) none H'⟩ W ρ σ H' -> SmT (nlK K) H H' := fun _ W ρ σ H' e => ⟨fun b o q n => e.f0 b o q n, e.tab.ok⟩
 have r := r.afQ (af8 tb)
 refine h2 ⟨nlK K, Z, Tb (nlK K), H, fun _ => none, fun c => ∀ H', SmT (nlK K) H H' -> E (.ref (cl c)) none H'⟩ rfl (fun c H' f0 q => q H' ⟨fun b o z n => f0.1 b o z n, f0.2⟩) (fun b => Z b \/ Tb (nlK K) b) (aaF N.length as) (start N vs) H _ ?_ (Rs.aai (Rs.aaf h) fun q h => ?_)
 ·have la := r.length
  have ake : ∀ (i : Nat) (us : List Tr), (aaF N.length as)[i]? = some (.dp us) -> False := fun i us q => by
   rcases abJ q with ⟨u', q1, z⟩ | z <;> cases z
  refine ⟨fun _ => [], ?_, fun _ z => .inl z, fun b z => ?_, fun b z => z.elim (zl b) (fun z => .inr (tb.tbl z)), fun b o q _ => q, fun b q => q, fun i u q => ?_, fun i us q => ?_, fun i us q => ?_, fun i j c m1 m2 => ?_, fun b o z => (by cases z), fun _ _ _ _ => rfl, fun i us q => (ake i us q).elim, fun i _ us _ _ q => (ake i us q).elim, fun i _ us _ q => (ake i us q).elim, fun i us q => (ake i us q).elim, ⟨tb, fun _ z => .inr z, fun _ z => z, fun _ _ => rfl⟩⟩
  ·unfold aaF start
   simp only [List.length_append, List.length_map, List.length_replicate]
   omega
  ·exact (zl b z).ne
  ·rcases abJ q with ⟨u', q1, z⟩ | z
   ·cases z
    obtain ⟨v, e1, e2⟩ := r.anf q1
    exact ⟨v, ae4 e1, e2⟩
   ·cases z
  ·rcases abJ q with ⟨u', q1, z⟩ | z <;> cases z
  ·rcases abJ q with ⟨u', q1, z⟩ | z <;> cases z
  ·obtain ⟨us, q | q⟩ := m1 <;> rcases abJ q with ⟨u', q1, z⟩ | z <;> cases z
 ·obtain ⟨fl, ρ'⟩ := q
  cases fl with
  | nx => exact fun W' σ' H' e n => h .non H' (sm 0 W' ρ' σ' H' e) .non
  | rt T fr =>
   refine fun v W' σ' H' e n => h v H' (sm 0 W' ρ' σ' H' e) ?_
   cases fr <;> exact n
  | bk => exact h.elim
  | ct => exact h.elim
end
section
variable {X : Cx} {k : Nat} {x : Str} {ps : List Str} {sp : Sp} {p pos : Pos} {e : Expr} {es : List Expr} {ta : TA} {E : XK}
theorem anM (D : DfX X.prog X.w X.K X.mg X.base k x ps sp) (hr : afN k X.A) (hx : Passes (CXF X.prog X.w) X E) (ha : PA X (e :: es) ta) (hg : Gl X x := by rfl) (hdb : (x == ("__debug__" : Str)) = false := by decide)
  (he : starEach (e :: es) X.env = (false, eval e X.env) :: starEach es X.env := by rfl) (hpl : (backTo pos (starEach es X.env)).any (·.1) = false := by rfl) : PE X (.Call (.Name x p) (e :: es) [] pos) (aiq sp [] E ta) := by
 obtain ⟨f, fd, h1, h2, h3, h4⟩ := D
 exact apy h1 hr hg h4 h3 h2 .nil hx ha hdb he hpl
end
section
variable {t : Tx} {K : PySem.W.Frag}
noncomputable def isS : Rv -> Bool
 | .s _ => true
 | _ => false
noncomputable def adI (z : Tr × Bool) : Bool := ai4 z.1 || (z.2 && (match z.1 with
 | .lst us => adH us
 | _ => false))
theorem VRt.voe {W W0 : Addr -> Prop} {ρ : En} {σ : St} {H H' : Hp} {v : V} {z : Tr × Bool} {Z : Addr -> Prop} (wn : ∀ b, W b -> H b ≠ none) (wl : ∀ b, W b -> Lt H' b) (zs : (∀ b, W b -> Z b) \/ adI z = true) (h : VRt t.K Z H H' v z.1 z.2)
  (ex : ∀ a xs, H a = none -> H' a = some (.lst xs) -> EOh t W a ρ σ H') : VOE t W ρ σ H H' v (.v z.1 z.2) := by
 obtain ⟨T, fr⟩ := z
 cases fr with
 | false =>
  refine .low ?_
  rcases zs with zs | zs
  ·exact Rep.mono (acn (fun b _ _ z => zs b z) fun _ _ _ h => h) h
  ·unfold adI at zs
   simp only [Bool.false_and, Bool.or_false] at zs
   exact Rep.flat (agt wl) h zs
 | true =>
  obtain ⟨a, xs, ts, rfl, e1, n, q, r⟩ := h
  have e1 : T = .lst ts := e1
  subst e1
  refine ⟨⟨a, xs, ts, rfl, rfl, n, q, ?_⟩, fun U b z eb => ?_⟩
  ·rcases zs with zs | zs
   ·refine r.mono fun b o q => ?_
    obtain ⟨ne, q⟩ := aem q
    rw [off_ne ne]
    exact acn (fun b _ _ z => zs b z) (fun _ _ _ h => h) b o q
   ·unfold adI at zs
    have zs : adH ts = true := by
     rw [Bool.or_eq_true] at zs
     rcases zs with zs | zs
     ·unfold ai4 at zs; cases zs
     ·exact zs
    exact r.flat (akT wl q _ fun b o h => abq _ _ b o (ahF _ _ b o h)) zs
  ·cases eb
   exact ex a xs n q
theorem agR.length {W : Addr -> Prop} {σ : St} {H H' : Hp} : ∀ {vs : List V} {rs : List Rv}, agR K W σ H H' vs rs -> vs.length = rs.length
 | _, _, .nil => rfl
 | _, _, .cons _ r => by rw [List.length_cons, List.length_cons, agR.length r]
theorem post_eq {α : Type} {r : Rs α} {a : α} {EX : Str -> Prop} {P : α -> Prop} (h : r = .ok a) (q : P a) : r.post EX P := by
 rw [h]
 exact q
noncomputable def aat (F : FP) (fa : AF) : EF := fun ρ => (fa ρ).bind fun p => (drs p.2 p.1).bind fun as => (F as).bind fun z => if p.1.any isS = true /\ adI z = false then .bad else .ok (.v z.1 z.2, p.2)
theorem akf {W : Addr -> Prop} {σ : St} {ρ : En} {H H' : Hp} (wn : ∀ b, W b -> H b ≠ none) : ∀ {vs : List V} {rs : List Rv} {as : List Tr}, agR t.K W σ H H' vs rs -> drs ρ rs = .ok as -> rs.any isS = false -> aa1 t.K (aaY W H') vs as
 | _, _, _, .nil, q, _ => by cases q; exact .nil
 | _, .v T fr :: _, _, .cons h r, q, n => by
  unfold drs at q
  obtain ⟨a, q1, q⟩ := aaV q
  obtain ⟨as, q2, q⟩ := aaV q
  cases q
  cases q1
  exact .cons (h.rep wn) (akf wn r q2 (by simpa [List.any_cons, isS] using n))
 | _, .s i :: _, _, .cons h r, q, n => by simp [isS] at n
theorem Rps.reps {W : Addr -> Prop} {H : Hp} : ∀ {vs : List V} {as : List Tr}, Rps K W H vs as -> aa1 K (aaY (fun _ => False) H) vs as
 | _, _, .nil => .nil
 | _, _, .cons h r => .cons (h.rep.mono fun b o q => by rw [aaX id]; exact q) (Rps.reps r)
theorem akg (hK : t.K = nlK K) {cl : Str -> Addr} {n : Nat} {F : FP} {E : XK} {ta : TA} {fa : AF} (hx : ∀ c H', F0 t H' -> t.EX c -> E (.ref (cl c)) none H') (hn : ∀ ρ p, fa ρ = .ok p -> p.1.length = n) (ha : SA t ta fa) : SE t (aiq (spP K cl n F) [] E ta) (aat F fa) := fun W ρ σ H Q e h => by
 have h := Rs.aaf h
 cases ek : fa ρ with
 | bad => rw [ek] at h; exact h.elim
 | ex c => exact ha W ρ σ H _ e (by rw [ek] at h ⊢; exact h)
 | ok p =>
 have hl := hn ρ p ek
 rw [ek] at h
 refine ha W ρ σ H _ e (post_eq ek ?_)
 intro vs H1 e1 s1 v1
 have h : ((drs p.2 p.1).bind _).post _ _ := h
 obtain ⟨as, k1, h⟩ := abP (Rs.aaf h) (agp _ _)
 have r := aj8 e1 e.wn v1 k1
 have lv : vs.length = n := v1.length.trans hl
 have fin : ∀ Z : Addr -> Prop, (∀ b, Z b -> W b) -> (∀ z, F as = .ok z -> ¬ (p.1.any isS = true /\ adI z = false) -> (∀ b, W b -> Z b) \/ adI z = true) -> aa1 (nlK K) (aaY Z H1) vs as -> spP K cl n F (vs ++ []) H1 Q E := fun Z zw zs rr => by
  rw [List.append_nil]
  refine ⟨Z, as, lv, rr, fun b z => e1.wl b (zw b z), by rw [<-hK]; exact e1.tab.ok, ?_⟩
  have h := Rs.aaf h
  cases ef : F as with
  | bad => rw [ef] at h; exact h.elim
  | ex c =>
   rw [ef] at h
   exact fun H' sm => hx c H' ⟨fun b o q nr => sm.1 b o (e1.f0 b o q nr) fun z => nr (e1.tab.r b (by rw [hK]; exact z)), by rw [hK]; exact sm.2⟩ h
  | ok z =>
   rw [ef] at h
   have h : (if p.1.any isS = true /\ adI z = false then Rs.bad else .ok (.v z.1 z.2, p.2) : Rs (Rv × En)).post _ _ := h
   split at h
   ·exact h.elim
   ·rename_i c
    intro v H' sm vr
    rw [<-hK] at vr sm
    obtain ⟨eg, sg⟩ := e1.ap3 sm
    refine h v H' eg (s1.trans sg) (VOE.back (H := H1) ?_ s1.dom)
    exact VRt.voe (W0 := W) e1.wn eg.wl (zs z ef c) vr fun a xs na qa => e1.avk sm na qa
 by_cases an : p.1.any isS = true
 ·refine fin (fun _ => False) (fun _ z => z.elim) (fun z ez c => .inr ?_) ?_
  ·cases fz : adI z with
   | true => rfl
   | false => exact (c ⟨an, fz⟩).elim
  ·rw [<-hK]
   exact r.reps
 ·refine fin W (fun _ z => z) (fun z ez c => .inl fun _ z => z) ?_
  rw [<-hK]
  exact akf e.wn v1 k1 (by simpa using an)
end
end L2
end
section
set_option exponentiation.threshold 2000
namespace L2
open PySem PySem.Spec PyProof.Rows
noncomputable abbrev FR := List Tr -> Rs ((Tr × Bool) × List Tr)
noncomputable def spR (K : PySem.W.Frag) (n r : Nat) (F : FR) : Sp := fun vs H Q E => ∃ (Z : Addr -> Prop) (ts : List Tr) (a : Addr) (xs : List V) (us : List Tr), vs.length = n /\ ts.length = n /\ vs[r]? = some (.ref a) /\ ts[r]? = some (.lst us) /\ Z a /\ H a = some (.lst xs) /\ aa1 (nlK K) (aaY Z H) xs us /\
 (∀ j v u, j ≠ r -> vs[j]? = some v -> ts[j]? = some u -> Rep (nlK K) (aaY Z H) v u) /\ (∀ b, Z b -> Lt H b) /\ TbS (nlK K) H /\
 (F ts).post (fun _ => False) (fun p => ∀ v H' ys, (∀ b o, H b = some o -> b ≠ a -> ¬ Tb (nlK K) b -> H' b = some o) -> TbS (nlK K) H' -> (∀ b, H' b = none -> H b = none) -> H' a = some (.lst ys) -> aa1 (nlK K) (aaY Z H') ys p.2 -> adH p.2 = true -> VRt (nlK K) Z H H' v p.1.1 p.1.2 -> Q v H')
noncomputable def abN {α : Type} : Rs α -> Rs α
 | .bad => .bad
 | .ex _ => .bad
 | .ok a => .ok a
theorem ae5 {α : Type} {r : Rs α} {EX : Str -> Prop} {P : α -> Prop} (h : (abN r).post EX P) : r.post (fun _ => False) P := by
 cases r <;> exact h
theorem akh {α : Type} (r : Rs α) (c : Str) : abN r ≠ .ex c := by
 cases r <;> (intro z; cases z)
theorem aki {α β : Type} {r : Rs α} {f : α -> Rs β} (h1 : ∀ c, r ≠ .ex c) (h2 : ∀ a c, f a ≠ .ex c) (c : Str) : r.bind f ≠ .ex c := by
 cases r with
 | bad => intro z; cases z
 | ex d => exact (h1 d rfl).elim
 | ok a => exact h2 a c
noncomputable def fnR (nl r : Nat) (b : SF) : FR := fun ts => match ts[r]? with
 | some (.lst us) => (abN (b ((aaF nl ts).set r (.rf us)))).bind fun q => (match q.2[r]? with
  | some (.rf ws) => if adH ws = true then (match q.1 with
   | .rt T fr => .ok ((T, fr), ws)
   | .nx => .ok ((.non, false), ws)
   | _ => .bad) else .bad
  | _ => .bad)
 | _ => .bad
theorem ap4 (nl r : Nat) (b : SF) (as : List Tr) (c : Str) : fnR nl r b as ≠ .ex c := by
 unfold fnR
 split
 ·refine aki (akh _) (fun q c => ?_) c
  split
  ·split
   ·split <;> (intro z; cases z)
   ·intro z; cases z
  ·intro z; cases z
 ·intro z; cases z
section
variable {P : Program} {w : World} {K : PySem.W.Frag} {mg : Str -> Option Value} {base : Heap}
theorem At.dfR {k : Nat} {x : Str} {st : Stmt} {N ps : List Str} {cl : Str -> Addr} {b : SF} (r : Nat) (a : At K mg x st) (S : aaE N ps (aan st)) (hn : ps.length <= N.length)
  (hb : ∀ (kV doc pm : Value) (an : Option Addr) (cdv ct : Value) (us : List Value), us.length = ps.length -> bindArgs (PySem.W.fnOf x x (acZ st) (abY st) (aan st) .none kV doc pm an cdv ct) ⟨us, []⟩ = pure (ps.zip us))
  (hbody : ∀ (f : Addr) (cdv : Value) (A : Around) (outer : List Env) (s : Shared) (H : Hp) (E : XK), afN k (A.deeper (envOfC x (aan st) s.heap.objs.size f cdv)) ->
   ∃ ts, PSs (aj2 (CXF P w) P w K mg base N x (aan st) f cdv A outer s H E) (abY st) ts /\ ∀ t : Tx, t.K = nlK K -> (∀ c H', F0 t H' -> t.EX c -> E (.ref (cl c)) none H') -> SS t ts b) :
  DfX P w K mg base (k + 1) x ps (spR K ps.length r (fnR N.length r b)) := by
 refine a.dfx S hb (fun vs H Q E h => ?_) (fun f cdv A outer s H vs Q E hr h => ?_)
 ·obtain ⟨_, _, _, _, _, h, _⟩ := h; exact h
 obtain ⟨Z, as, ad, xs, us, hl, hl2, hv, ht, hz, hx, rx, ra, zl, tb, h⟩ := h
 have rx := rx.afQ (af8 tb)
 have ra : ∀ j v u, j ≠ r -> vs[j]? = some v -> as[j]? = some u -> Rep (nlK K) (aaY (fun b => Z b \/ Tb (nlK K) b) H) v u := fun j v u n q1 q2 => (ra j v u n q1 q2).afQ (af8 tb)
 obtain ⟨ts, h1, h2⟩ := hbody f cdv A outer s H E hr
 refine ⟨ts, h1, ?_⟩
 unfold fnR at h
 rw [ht] at h
 have h : ((abN (b ((aaF N.length as).set r (.rf us)))).bind _).post _ _ := h
 refine h2 ⟨nlK K, Z, fun b => b = ad \/ Tb (nlK K) b, H, fun _ => none, fun _ => False⟩ rfl (fun c H' f0 q => q.elim) (fun b => Z b \/ Tb (nlK K) b) ((aaF N.length as).set r (.rf us)) (start N vs) H _ ?_ (Rs.aai (ae5 (Rs.aaf h)) fun q h => ?_)
 ·have lr : r < as.length := (List.getElem?_eq_some_iff.mp ht).1
  have mu : ∀ j, Mu ((aaF N.length as).set r (.rf us)) j -> j = r := fun j m => by
   obtain ⟨ws, q | q⟩ := m <;> rcases get_set q with ⟨rfl, _, _⟩ | ⟨ne, q⟩
   ·rfl
   ·rcases abJ q with ⟨u', q1, z⟩ | z <;> cases z
   ·rfl
   ·rcases abJ q with ⟨u', q1, z⟩ | z <;> cases z
  have ake : ∀ (i : Nat) (ws : List Tr), ((aaF N.length as).set r (.rf us))[i]? = some (.dp ws) -> False := fun i ws q => by
   rcases get_set q with ⟨rfl, z, _⟩ | ⟨ne, q⟩
   ·cases z
   ·rcases abJ q with ⟨u', q1, z⟩ | z <;> cases z
  refine ⟨fun _ => [], ?_, fun _ z => .inl z, fun b z => ?_, fun b z => z.elim (zl b) (fun z => .inr (tb.tbl z)), fun b o q _ => q, fun b q => q, fun i u q => ?_, fun i ws q => ?_, fun i ws q => ?_, fun i j c m1 m2 _ _ => (mu i m1).trans (mu j m2).symm, fun b o z => (by cases z), fun _ _ _ _ => rfl, fun i us q => (ake i us q).elim, fun i _ us _ _ q => (ake i us q).elim, fun i _ us _ q => (ake i us q).elim, fun i us q => (ake i us q).elim, ⟨tb, fun _ z => .inr z, fun _ z => .inr z, fun _ _ => rfl⟩⟩
  ·unfold aaF start
   simp only [List.length_append, List.length_map, List.length_replicate, List.length_set]
   omega
  ·exact (zl b z).ne
  ·rcases get_set q with ⟨rfl, z, _⟩ | ⟨ne, q⟩
   ·cases z
   ·rcases abJ q with ⟨u', q1, z⟩ | z
    ·cases z
     have lj : i < vs.length := by
      rw [hl, <-hl2]
      exact (List.getElem?_eq_some_iff.mp q1).1
     exact ⟨vs[i], ae4 (List.getElem?_eq_getElem lj), ra i _ _ ne (List.getElem?_eq_getElem lj) q1⟩
    ·cases z
  ·rcases get_set q with ⟨rfl, z, _⟩ | ⟨ne, q⟩
   ·cases z
   ·rcases abJ q with ⟨u', q1, z⟩ | z <;> cases z
  ·rcases get_set q with ⟨rfl, z, _⟩ | ⟨ne, q⟩
   ·cases z
    exact ⟨ad, xs, ae4 hv, .inl hz, .inl rfl, hx, rx⟩
   ·rcases abJ q with ⟨u', q1, z⟩ | z <;> cases z
 ·obtain ⟨fl, ρ'⟩ := q
  dsimp only at h
  split at h
  ·rename_i ws q
   split at h
   ·rename_i fl'
    have key : ∀ W' σ' H', EOk ⟨nlK K, Z, fun b => b = ad \/ Tb (nlK K) b, H, fun _ => none, fun _ => False⟩ W' ρ' σ' H' -> (∀ b o, H b = some o -> b ≠ ad -> ¬ Tb (nlK K) b -> H' b = some o) /\ TbS (nlK K) H' /\ (∀ b, H' b = none -> H b = none) /\ ∃ ys, H' ad = some (.lst ys) /\ aa1 (nlK K) (aaY Z H') ys ws := fun W' σ' H' e => by
     obtain ⟨c, ys, q1, q2, q3, q4, q5⟩ := e.rf r ws q
     have q3 : c = ad := q3.elim id fun z => (e.tab.ok.ne z q4 rfl).elim
     subst q3
     exact ⟨fun b o z n n' => e.f0 b o z fun y => y.elim n n', e.tab.ok, e.n0, ys, q4, q5.mono (aj9 e)⟩
    cases fl with
    | nx =>
     intro W' σ' H' e n
     obtain ⟨k1, k1b, k2, ys, k3, k4⟩ := key W' σ' H' e
     exact h .non H' ys k1 k1b k2 k3 k4 fl' .non
    | rt T fr =>
     intro v W' σ' H' e n
     obtain ⟨k1, k1b, k2, ys, k3, k4⟩ := key W' σ' H' e
     refine h v H' ys k1 k1b k2 k3 k4 fl' ?_
     cases fr <;> exact n
    | bk => exact h.elim
    | ct => exact h.elim
   ·exact h.elim
  ·exact h.elim
end
section
variable {t : Tx} {K : PySem.W.Frag}
theorem agR.get {W : Addr -> Prop} {σ : St} {H H' : Hp} : ∀ {vs : List V} {rs : List Rv} {j : Nat} {v : V} {r : Rv}, agR K W σ H H' vs rs -> vs[j]? = some v -> rs[j]? = some r -> VOk K W σ H H' v r
 | _, _, _, _, _, .nil, e, _ => by simp at e
 | _, _, 0, _, _, .cons h _, e, q => by simp at e q; subst e q; exact h
 | _, _, j + 1, _, _, .cons _ t, e, q => agR.get (j := j) t (by simpa using e) (by simpa using q)
theorem ajh {ρ : En} : ∀ {rs : List Rv} {as : List Tr} {j : Nat} {u : Tr}, drs ρ rs = .ok as -> as[j]? = some u -> ∃ r, rs[j]? = some r /\ dr ρ r = .ok u
 | [], _, _, _, h, e => by cases h; simp at e
 | r :: rs, as, j, u, h, e => by
  unfold drs at h
  obtain ⟨a, q1, h⟩ := aaV h
  obtain ⟨bs, q2, h⟩ := aaV h
  cases h
  cases j with
  | zero => simp at e; subst e; exact ⟨r, rfl, q1⟩
  | succ j =>
   obtain ⟨r', k1, k2⟩ := ajh (j := j) q2 (by simpa using e)
   exact ⟨r', by simpa using k1, k2⟩
theorem alW {ρ : En} : ∀ {rs : List Rv} {as : List Tr}, drs ρ rs = .ok as -> as.length = rs.length
 | [], _, h => by cases h; rfl
 | r :: rs, as, h => by
  unfold drs at h
  obtain ⟨a, q1, h⟩ := aaV h
  obtain ⟨bs, q2, h⟩ := aaV h
  cases h
  rw [List.length_cons, List.length_cons, alW q2]
theorem aoV {ρ : En} : ∀ {rs : List Rv} {as : List Tr} {j : Nat} {r : Rv}, drs ρ rs = .ok as -> rs[j]? = some r -> ∃ u, as[j]? = some u /\ dr ρ r = .ok u
 | [], _, _, _, h, e => by simp at e
 | r :: rs, as, j, u, h, e => by
  unfold drs at h
  obtain ⟨a, q1, h⟩ := aaV h
  obtain ⟨bs, q2, h⟩ := aaV h
  cases h
  cases j with
  | zero => simp at e; subst e; exact ⟨a, rfl, q1⟩
  | succ j =>
   obtain ⟨r', k1, k2⟩ := aoV (j := j) q2 (by simpa using e)
   exact ⟨r', by simpa using k1, k2⟩
noncomputable def others (r i : Nat) (rs : List Rv) : Bool := (rs.eraseIdx r).all fun x => match x with
 | .s j => j != i
 | _ => true
noncomputable def abb (r : Nat) (F : FR) (fa : AF) : EF := fun ρ => (fa ρ).bind fun p => match p.1[r]? with
 | some (.s i) => if others r i p.1 = true then ((con p.2 i).bind fun _ => (drs p.2 p.1).bind fun as => (F as).bind fun z => if (p.1.eraseIdx r).any isS = true /\ adI z.1 = false then .bad else .ok (.v z.1.1 z.1.2, abw i z.2 p.2)) else .bad
 | _ => .bad
theorem aiB {α : Type} {l : List α} {r j : Nat} {x : α} (n : j ≠ r) (h : l[j]? = some x) : x ∈ l.eraseIdx r := by
 rw [List.mem_eraseIdx_iff_getElem?]
 exact ⟨j, n, h⟩
theorem anN (hK : t.K = nlK K) {n r : Nat} {F : FR} {E : XK} {ta : TA} {fa : AF} (nF : ∀ as c, F as ≠ .ex c) (hn : ∀ ρ p, fa ρ = .ok p -> p.1.length = n) (ha : SA t ta fa) : SE t (aiq (spR K n r F) [] E ta) (abb r F fa) := fun W ρ σ H Q e h => by
 have h := Rs.aaf h
 cases ek : fa ρ with
 | bad => rw [ek] at h; exact h.elim
 | ex c => exact ha W ρ σ H _ e (by rw [ek] at h ⊢; exact h)
 | ok p =>
 have hl := hn ρ p ek
 rw [ek] at h
 refine ha W ρ σ H _ e (post_eq ek ?_)
 intro vs H1 e1 s1 v1
 have h : (match p.1[r]? with
  | some (.s i) => if others r i p.1 = true then ((con p.2 i).bind fun _ => (drs p.2 p.1).bind fun as => (F as).bind fun z => if (p.1.eraseIdx r).any isS = true /\ adI z.1 = false then .bad else .ok (.v z.1.1 z.1.2, abw i z.2 p.2)) else .bad
  | _ => .bad : Rs (Rv × En)).post _ _ := h
 split at h
 ·rename_i i er
  split at h
  ·rename_i ho
   obtain ⟨us, k0, h⟩ := abP (Rs.aaf h) (aeN _ _)
   obtain ⟨as, k1, h⟩ := abP (Rs.aaf h) (agp _ _)
   obtain ⟨z, k2, h⟩ := abP (Rs.aaf h) (nF _)
   obtain ⟨mi, a, xs, hi, wa, hx, rx, h0⟩ := e1.con k0
   have lr : r < vs.length := by rw [v1.length]; exact (List.getElem?_eq_some_iff.mp er).1
   have hvr : vs[r]? = some (.ref a) := by
    have q := v1.get (List.getElem?_eq_getElem lr) er
    have q : σ[i]? = some (some vs[r]) := q
    rw [hi] at q
    rw [List.getElem?_eq_getElem lr, Option.some.inj (Option.some.inj q)]
   have hur : as[r]? = some (.lst us) := by
    obtain ⟨u, q1, q2⟩ := aoV k1 er
    rw [q1]
    unfold L2.con at k0
    dsimp only [dr] at q2
    split at k0 <;> rename_i q3
    ·rw [q3] at q2; cases q2; cases k0; rfl
    ·rw [q3] at q2; cases q2; cases k0; rfl
    ·cases k0
   split at h
   ·exact h.elim
   ·rename_i c
    have fin : ∀ Z : Addr -> Prop, Z a -> (∀ b, Z b -> W b) -> ((∀ b, W b -> Z b) \/ adI z.1 = true) -> (∀ j v u, j ≠ r -> vs[j]? = some v -> as[j]? = some u -> Rep (nlK K) (aaY Z H1) v u) -> spR K n r F (vs ++ []) H1 Q E := fun Z za zw zs rr => by
     rw [List.append_nil]
     refine ⟨Z, as, a, xs, us, v1.length.trans hl, (alW k1).trans hl, hvr, hur, za, hx, ?_, rr, fun b z => e1.wl b (zw b z), by rw [<-hK]; exact e1.tab.ok, ?_⟩
     ·rw [<-hK]
      exact rx.mono (acn (fun b _ _ z => zw b z) fun _ _ _ h => h)
     rw [k2]
     intro v H' ys fr tb dm hy ry fl vr
     rw [<-hK] at ry vr fr tb
     have kp : ∀ b o, ¬ W b -> H1 b = some o -> H' b = some o := fun b o nw q => fr b o q (fun z => by subst z; exact nw wa) fun z => nw (e1.tab.w b z)
     have wl' : ∀ b, W b -> Lt H' b := fun b wb => by
      by_cases q : b = a
      ·subst q; exact .inl ⟨ys, hy⟩
      ·by_cases z : Tb t.K b
       ·exact .inr (tb.tbl z)
       ·rcases e1.wl b wb with ⟨zs, q2⟩ | ⟨zs, q2⟩
        ·exact .inl ⟨zs, fr b _ q2 q z⟩
        ·exact .inr ⟨zs, fr b _ q2 q z⟩
     have st : Stp W H1 H' := ⟨kp, dm⟩
     have e2 : EOk t W (abw i z.2 p.2) σ H' := e1.move mi hi st.off (fun _ h => h) wl' tb fr dm h0 hy (ry.flat (agt wl') fl)
     refine h v H' e2 (s1.trans st) (VOE.back (H := H1) ?_ s1.dom)
     refine VRt.voe (W0 := W) (z := z.1) e1.wn wl' zs vr fun b zs nb qb => ?_
     have wl2 : ∀ c, (W c \/ c = b) -> Lt H' c := fun c wc => by
      rcases wc with wc | rfl
      ·exact wl' c wc
      ·exact .inl ⟨zs, qb⟩
     obtain ⟨F, e1F⟩ := id e1
     refine ⟨F, e1F.move mi hi (fun c o q => ?_) (fun _ h => .inl h) wl2 tb fr dm h0 hy (ry.flat (agt wl2) fl), fun j us hj zj => ?_⟩
     rotate_left
     ·obtain ⟨c, ys, h1, bs, _, _, ww, _⟩ := e1F.dp j us (ad7 hj)
      exact e1.wn b (ww b zj).1 nb
     obtain ⟨nc, q⟩ := abm q
     rw [aaX]
     ·exact kp c o nc q
     ·rintro (z | rfl)
      ·exact nc z
      ·rw [nb] at q; cases q
    by_cases an : (p.1.eraseIdx r).any isS = true
    ·refine fin (fun b => b = a) rfl (fun b z => by subst z; exact wa) (.inr ?_) fun j v u nj qv qu => ?_
     ·cases fz : adI z.1 with
      | true => rfl
      | false => exact (c ⟨an, fz⟩).elim
     ·obtain ⟨x, q1, q2⟩ := ajh k1 qu
      have ok := v1.get qv q1
      rw [<-hK]
      cases x with
      | v T fr =>
       cases q2
       exact (ok.rep e.wn).mono (acn (fun b _ _ z => by subst z; exact wa) fun _ _ _ h => h)
      | s j' =>
       have nj' : j' ≠ i := by
        have := List.all_eq_true.mp ho _ (aiB nj q1)
        simpa using this
       have ok : σ[j']? = some (some v) := ok
       have q2 : dr p.2 (.s j') = .ok u := q2
       have q3 : ∃ ws, L2.con p.2 j' = .ok ws /\ u = .lst ws := by
        dsimp only [dr] at q2
        unfold L2.con
        split at q2 <;> rename_i q3
        ·cases q2; (try rw [q3]); exact ⟨_, rfl, rfl⟩
        ·cases q2; (try rw [q3]); exact ⟨_, rfl, rfl⟩
        ·cases q2
       obtain ⟨ws, q3, rfl⟩ := q3
       obtain ⟨mj, a', zs, hj, wj, hz, rz, _⟩ := e1.con q3
       rw [ok] at hj
       cases hj
       have na : a' ≠ a := fun y => by
        subst y
        exact nj' (e1.dis j' i a' mj mi ok hi)
       refine .lst (SqL.of ?_) (rz.mono (acn (fun b _ _ z => by subst z; exact wa) fun _ _ _ h => h))
       rw [aaX (W := fun b => b = a) na]
       exact hz
    ·refine fin W wa (fun _ z => z) (.inl fun _ z => z) fun j v u nj qv qu => ?_
     obtain ⟨x, q1, q2⟩ := ajh k1 qu
     have ok := v1.get qv q1
     rw [<-hK]
     cases x with
     | v T fr => cases q2; exact ok.rep e.wn
     | s j' =>
      refine (an ?_).elim
      exact List.any_eq_true.mpr ⟨_, aiB nj q1, rfl⟩
  ·exact h.elim
 ·exact h.elim
end
end L2
end
section
namespace L2
open PySem PySem.Spec PyProof.Rows
section
variable {prog : Program} {w : World} {A : Around} {R : Result -> Shared -> Prop} {s : Shared}
theorem aiC {elt target iter c : Expr} {scope : Scope} {pos : Pos} {it acc : Value} {env : Env} (I : Nat -> Shared -> Prop)
  (turn : ∀ n s, I n s -> wpAny (model prog w) A (pyNext it) (fun r s₁ => match r with
   | none => R (.ok .next) s₁
   | some v => wpAny (model prog w) A (letOwnedTupleGo target it v) (fun _ s₁' => wpAny (model prog w) A (assign target env v) (fun _ s₂ => wpAny (model prog w) A (isTrue c env (eval c env)) (fun b s₂' => if b = true then wpAny (model prog w) A (eval elt env) (fun x s₃ =>
     wpAny (model prog w) A (call (.builtin "list.append") [acc, x]) (fun _ s₄ => ∃ m, m < n /\ I m s₄) (fun _ _ => False) s₃) (fun _ _ => False) s₂' else ∃ m, m < n /\ I m s₂') (fun _ _ => False) s₂) (fun _ _ => False) s₁') (fun _ _ => False) s₁) (fun _ _ => False) s)
  (n : Nat) (h : I n s) :
  codeAny (model prog w) A (.compLoop (.ListComp elt [⟨target, iter, [c], 0⟩] scope pos) 0 it acc env) R s := by
 refine codeAny_loop rfl I (fun n s hI => ?_) n h
 show wpAny _ _ ((compTurn (.ListComp elt [⟨target, iter, [c], 0⟩] scope pos) 0 it acc env).onRaise (fun x => do noteFrame x env; theTreesLotGoes x)) _ _ s
 refine wpAny_noted (wpAny_noRaise ?_)
 rw [compTurn_list]
 refine wpAny_bind (wpAny_standAt (wpAny_bind (wpAny_mono (turn n s hI) (fun r s₁ h₁ => ?_) fun _ _ h' => h')))
 cases r with
 | none => exact wpAny_pure h₁
 | some v =>
  refine wpAny_bind (wpAny_mono h₁ (fun _ s₁' h₁' => ?_) fun _ _ h' => h')
  refine wpAny_bind (wpAny_mono h₁' (fun _ s₂ h₂ => wpAny_bind (wpAny_tests_one (wpAny_mono h₂ (fun ok s₃ h₃ => ?_) fun _ _ h' => h'))) fun _ _ h' => h')
  cases ok with
  | false => exact wpAny_pure ⟨rfl, h₃⟩
  | true =>
   exact wpAny_bind (wpAny_bind (wpAny_mono h₃ (fun x s₄ h₄ => wpAny_bind (wpAny_mono h₄ (fun _ s₅ h₅ => wpAny_pure (wpAny_pure ⟨rfl, h₅⟩)) fun _ _ h' => h')) fun _ _ h' => h'))
end
noncomputable def ahj (wi : TI) (g : TG) (src : List (Option Nat)) (tc : TT) (te : TE) : TE := fun σ H Q => wi σ H fun J H1 => ∀ D, H1 D = none ->
 ∃ W : Nat -> Nat -> St -> Hp -> Prop, (∃ m, W 0 m (aeW src σ) (upd H1 D (.lst []))) /\ ∀ i m σ' H', W i m σ' H' ->
  (J.stop i H' /\ QAt Q D H') \/ (J.go i H' /\ ∀ x H'', J.yld i H' x H'' -> g x σ' H'' fun σ2 H2 => tc σ2 H2 fun b H2' => if b = true then te σ2 H2' fun v H3 => ∃ xs, H3 D = some (.lst xs) /\ xs.length < sizeLine /\ ∃ m', m' < m /\ W (i + 1) m' σ2 (upd H3 D (.lst (xs ++ [v]))) else ∃ m', m' < m /\ W (i + 1) m' σ2 H2')
section
variable {X : Cx} {elt tg iter cnd : Expr} {scope sc : Scope} {pos : Pos} {No N : List Str} {src : List (Option Nat)} {wi : TI} {g : TG} {te : TE} {tc : TT}
theorem alX {pins : List (Addr × Obj)} {σ : St} {H : Hp} {s : Shared} {Q : VK} {RR : Value -> Addr -> Result -> Shared -> Prop} (hsc : X.env.scope = sc) (hNo : X.N = No) (S : ahd sc No N src scope) (hc : X.calm = true)
  (hi : PI X tg iter wi) (hg : ∀ C s H ex, PG (abZ X N scope C s H ex) tg g) (hq : ∀ C s H ex, PT (abZ X N scope C s H ex) cnd tc) (he : ∀ C s H ex, PE (abZ X N scope C s H ex) elt te) (I : Inv X pins σ H s) (h : ahj wi g src tc te σ H Q)
  (hRR : ∀ D C H' s' m, Inv X pins σ H' s' -> H' C = none -> C ≠ X.env.locals -> X.s₀.heap.objs.size <= C -> (∀ x c, X.env.cells.lookup x = some c -> c ≠ C) -> (∀ p ∈ X.pn ++ pins, p.1 ≠ C) -> s'.heap.Ns C m -> Q (.ref D) H' -> RR (.ref D) C (.ok .next) s') :
  wpAny (model X.prog X.w) X.A (eval iter X.env) (fun x s₁ => wpAny (model X.prog X.w) X.A (pyIter x) (fun it s₂ => wpAny (model X.prog X.w) X.A (newList []) (fun acc s₃ =>
   wpAny (model X.prog X.w) X.A (newFunctionEnv scope X.env.globals (aax X.env.cells scope.names []) [] X.env.qual none .none (some X.env)) (fun cenv s₄ =>
    codeAny (model X.prog X.w) X.A (.compStart (.ListComp elt [⟨tg, iter, [cnd], 0⟩] scope pos) 0 it acc { cenv with scope := relabel scope X.env }) (RR acc cenv.locals) s₄) X.xe s₃) X.xe s₂) X.xe s₁) X.xe s := by
 refine thn (hi pins s σ H _ I h) fun v s1 h1 => thn h1 fun itv s2 h2 => ?_
 obtain ⟨it, fp, tn, J, H2, e, I2, T, st2, f2, hW⟩ := h2
 subst e
 have hD0 : H2 s2.heap.objs.size = none := I2.hok.fresh (Nat.le_refl _)
 obtain ⟨W, ⟨m0, w0⟩, turn⟩ := hW s2.heap.objs.size hD0
 have arN : ∀ b ∈ fp, b < s2.heap.objs.size := fun b hb => by
  obtain ⟨o, e, _⟩ := T.obj 0 _ st2 b hb
  exact Heap.lt_size e
 refine wpAny_newObj_type ?_
 have I3 : Inv X pins σ (upd H2 s2.heap.objs.size (.lst [])) { s2 with heap := s2.heap.push { cls := .type "list", dict := none, data := .seq ([] : List Value).toArray } } := I2.aus (t' := s2.toks) (ys := []) .nil (Nat.zero_le _)
 have f3 : ∀ b ∈ fp, aeK X pins (upd H2 s2.heap.objs.size (.lst [])) b := fun b hb => by
  obtain ⟨q, r⟩ := f2 b hb
  exact ⟨by rw [aaH (Nat.ne_of_lt (arN b hb))]; exact q, r⟩
 have st3 : tn 0 (s2.heap.push { cls := .type "list", dict := none, data := .seq ([] : List Value).toArray }) := T.keep _ _ _ st2 fun b hb o e => Heap.get?_push_of_some _ e
 have lt3 : ∀ b ∈ fp, b < (s2.heap.push { cls := .type "list", dict := none, data := .seq ([] : List Value).toArray }).objs.size := fun b hb => by
  rw [Heap.size_push]; exact Nat.lt_succ_of_lt (arN b hb)
 generalize hD : s2.heap.objs.size = D at *
 generalize hh3 : s2.heap.push { cls := .type "list", dict := none, data := .seq ([] : List Value).toArray } = h3 at *
 generalize hH3 : upd H2 D (.lst []) = H3 at *
 refine adW fun h₁ hns old ck => ?_
 dsimp only at hns old ck ⊢
 have I4 : Inv (abZ X N scope h3.objs.size { s2 with heap := h3 } H3 fp) [] (aeW src σ) H3 { s2 with heap := h₁, toks := s2.toks + ([] : List (Str × Value)).length } := ahe (s := { s2 with heap := h3 }) hsc hNo S I3 f3 lt3 hns old ck
 have st4 : tn 0 h₁ := T.keep _ _ _ st3 fun b hb o e => old b o e
 have loop : codeAny (model X.prog X.w) X.A (.compLoop (.ListComp elt [⟨tg, iter, [cnd], 0⟩] scope pos) 0 (.ref it) (.ref D) (compEnvC scope (cellsFrom (h3.objs.size + 1) scope.names (aax X.env.cells scope.names [])) h3.objs.size X.env)) (RR (.ref D) h3.objs.size) { s2 with heap := h₁, toks := s2.toks + ([] : List (Str × Value)).length } := by
  have stat : ∀ {H' : Hp}, (∀ b ∈ fp, H' b = none) -> ∀ b ∈ fp, aeK (abZ X N scope h3.objs.size { s2 with heap := h3 } H3 fp) [] H' b := fun hn b hb => by
   obtain ⟨g0, g1, g2, g3, g4, g5⟩ := f3 b hb
   refine ⟨hn b hb, Nat.ne_of_lt (lt3 b hb), fun z => ?_, .inl hb, fun x c e => ?_, fun p hp => absurd (show p ∈ ([] : List (Addr × Obj)) from hp) (by simp)⟩
   ·rcases List.mem_cons.mp (I3.ain b z) with z | z
    ·exact g1 z
    ·exact g2 z
   ·have e : (cellsFrom (h3.objs.size + 1) scope.names (aax X.env.cells scope.names [])).lookup x = some c := e
    rw [abp, acU] at e
    split at e
    ·rename_i z
     cases e
     exact fun y => absurd (Nat.le_trans (ck.empty x c (PySem.mem_of_lookup z)).2 (y ▸ Nat.le_of_lt (lt3 b hb))) (Nat.not_succ_le_self _)
    ·rcases abx e with q | q
     ·simp at q
     ·exact g4 x c q
  refine aiC (fun n s' => ∃ i σ' H', Inv (abZ X N scope h3.objs.size { s2 with heap := h3 } H3 fp) [] σ' H' s' /\ tn i s'.heap /\ (∀ b ∈ fp, H' b = none) /\ W i n σ' H') ?_ m0 ⟨0, aeW src σ, H3, I4, st4, fun b hb => (f3 b hb).1, w0⟩
  rintro n s5 ⟨i, σ5, H5, I5, st5, fr5, w5⟩
  rcases turn i n σ5 H5 w5 with ⟨stop, qn⟩ | ⟨go, step⟩
  ·refine thn (T.done (abZ X N scope h3.objs.size { s2 with heap := h3 } H3 fp) rfl rfl rfl hc i [] s5 σ5 H5 (fun _ _ => False) I5 (stat fr5) st5 stop) fun r s6 ⟨hr, I6⟩ => ?_
   subst hr
   obtain ⟨mC, hnC, _⟩ := id I6.loc
   have I7 : Inv X pins σ H5 s6 := I3.call' (ch := fp) I6.os I6.base I6.hok I6.bare fun b hb => by
    obtain ⟨g0, g1, g2, g3, g4, g5⟩ := f3 b hb
    exact ⟨g3, g1, g4, g5⟩
   refine hRR D h3.objs.size H5 s6 mC I7 I6.free (Nat.ne_of_gt I3.lt) I3.sz (fun x c e z => ?_) (fun p hp z => ?_) hnC qn
   ·obtain ⟨v, q⟩ := I3.cell x c e
    exact absurd q.lt (by rw [z]; exact Nat.lt_irrefl _)
   ·exact absurd (Heap.lt_size (I3.pin p hp).1) (by rw [z]; exact Nat.lt_irrefl _)
  ·refine thn (T.item (abZ X N scope h3.objs.size { s2 with heap := h3 } H3 fp) rfl rfl rfl hc i [] s5 σ5 H5 (fun _ _ => False) I5 (stat fr5) st5 go) fun r s6 ⟨u, hr, h6⟩ => ?_
   subst hr
   refine thn h6 fun _ s7 ⟨x, H7, I7, r7, y7, st7, fr7⟩ => ?_
   have I7' := I7.pinned (stat fr7) (T.obj _ _ st7)
   refine thn (hg _ _ _ _ _ s7 σ5 H7 x u _ I7' r7 (step x H7 y7)) fun _ s8 ⟨σ8, H8, I8, q8⟩ => ?_
   refine thn (hq _ _ _ _ _ s8 σ8 H8 _ I8 q8) fun bb s8' ⟨H8', I8', q8'⟩ => ?_
   cases bb with
   | false =>
    rw [if_neg (by decide)] at q8' ⊢
    obtain ⟨m', hm, w9⟩ := q8'
    refine ⟨m', hm, i + 1, σ8, H8', I8'.ael (pins := []), T.keep _ _ _ st7 fun b hb o e => (I8'.pin (b, o) (List.mem_append_right _ (List.mem_append_right _ (ach hb e)))).1, fun b hb => ?_, w9⟩
    obtain ⟨o, e, d⟩ := T.obj _ _ st7 b hb
    exact (I8'.pin (b, o) (List.mem_append_right _ (List.mem_append_right _ (ach hb e)))).2.1
   | true =>
   rw [if_pos rfl] at q8' ⊢
   refine thn (he _ _ _ _ _ s8' σ8 H8' _ I8' q8') fun yv s9 ⟨y, H9, I9, r9, q9⟩ => ?_
   obtain ⟨xs, e9, l9, m', hm, w9⟩ := q9
   refine thn (adx (X := abZ X N scope h3.objs.size { s2 with heap := h3 } H3 fp) _ s9 σ8 H9 (.ref D) [y] (.ref D) [yv] (fun _ H' => W (i + 1) m' σ8 H') I9 rfl (.cons r9 .nil) ⟨D, xs, y, rfl, rfl, e9, l9, w9⟩) fun _ s10 ⟨_, H10, I10, _, q10⟩ => ?_
   refine ⟨m', hm, i + 1, σ8, H10, I10.ael (pins := []), T.keep _ _ _ st7 fun b hb o e => (I10.pin (b, o) (List.mem_append_right _ (List.mem_append_right _ (ach hb e)))).1, fun b hb => ?_, q10⟩
   obtain ⟨o, e, d⟩ := T.obj _ _ st7 b hb
   exact (I10.pin (b, o) (List.mem_append_right _ (List.mem_append_right _ (ach hb e)))).2.1
 exact codeAny_compStart_list loop (T.self _ _ _ _ _ st4 loop)
theorem ahM (hsc : X.env.scope = sc) (hNo : X.N = No) (S : ahd sc No N src scope) (hc : X.calm = true)
  (hi : PI X tg iter wi) (hg : ∀ C s H ex, PG (abZ X N scope C s H ex) tg g) (hq : ∀ C s H ex, PT (abZ X N scope C s H ex) cnd tc) (he : ∀ C s H ex, PE (abZ X N scope C s H ex) elt te)
  (hs : ∀ x, foldedSetIterable iter X.env x = pure x := by intro _; rfl) : PE X (.ListComp elt [⟨tg, iter, [cnd], 0⟩] scope pos) (ahj wi g src tc te) := by
 intro pins s σ H Q I h
 rw [eval_ListComp]
 have hcl : closureFor scope X.env = pure (aax X.env.cells scope.names []) := afn fun y hy e => by
  have k := S.free y hy e
  rw [<-hsc] at k
  obtain ⟨c, q⟩ := I.ok.has y.1 k
  rw [q]; rfl
 refine wpAny_comprehension_free (use := none) rfl hs hcl S.kind S.names (alX (RR := fun acc C => compPost (model X.prog X.w) X.A X.xe none (EP X pins σ Q) acc C) hsc hNo S hc hi hg hq he I h ?_)
 intro D C H' s' m I' n1 n2 n3 n4 n5 hn q
 refine ⟨m, hn, fun h' hs' => ⟨.ref D, H', ?_, rfl, q⟩⟩
 exact I'.turned (t' := s'.toks) (fun b o hb e => (hs'.2 b hb).trans e) n1 (Ne.symm (Ne.symm n2)) (.inr n3) n4 n5
end
end L2
end
section
set_option exponentiation.threshold 2000
namespace L2
open PySem PySem.Spec PyProof.Rows
noncomputable def acV : Sl -> Sl
 | .dp _ => .un
 | s => s
noncomputable def ab5 (src : List (Option Nat)) (ρ : En) : En := src.map fun o => match o with
 | some j => acV ((ρ[j]?).getD .un)
 | none => .un
noncomputable def abE : List (Option Nat) -> En -> En -> En
 | some j :: src, .ow ts :: ρi, ρ => abE src ρi (abw j ts ρ)
 | some j :: src, .rf ts :: ρi, ρ => abE src ρi (abw j ts ρ)
 | _ :: src, _ :: ρi, ρ => abE src ρi ρ
 | _, _, ρ => ρ
noncomputable def acM : Option Sl -> Bool
 | some (.ow _) => true
 | some (.rf _) => true
 | _ => false
noncomputable def acf : List (Option Nat) -> En -> En -> Bool
 | some j :: src, s :: ρi, ρ => (!acM ρ[j]? || acM (some s)) && acf src ρi ρ
 | none :: src, _ :: ρi, ρ => acf src ρi ρ
 | [], _, _ => true
 | _, [], _ => false
theorem akj {ρ : En} {i : Nat} : acM ρ[i]? = true ↔ Mu ρ i := by
 constructor
 ·intro h
  unfold acM at h
  split at h <;> rename_i q
  ·exact ⟨_, .inl q⟩
  ·exact ⟨_, .inr q⟩
  ·cases h
 ·rintro ⟨ts, h | h⟩ <;> rw [h] <;> rfl
theorem ahN : ∀ {src : List (Option Nat)} {ρi ρ : En} {k j : Nat}, acf src ρi ρ = true -> src[k]? = some (some j) -> Mu ρ j -> Mu ρi k
 | [], _, _, _, _, _, h, _ => by simp at h
 | some j' :: src, s :: ρi, ρ, k, j, h, hk, m => by
  unfold acf at h
  rw [Bool.and_eq_true] at h
  cases k with
  | zero =>
   simp at hk
   subst hk
   have h1 := h.1
   rw [akj.mpr m] at h1
   have h1 : acM (some s) = true := by simpa using h1
   cases s with
   | un => cases h1
   | sh _ => cases h1
   | dp _ => cases h1
   | ow ts => exact ⟨ts, .inl rfl⟩
   | rf ts => exact ⟨ts, .inr rfl⟩
  | succ k =>
   obtain ⟨ts, q⟩ := ahN (k := k) h.2 (by simpa using hk) m
   exact ⟨ts, by simpa using q⟩
 | none :: src, s :: ρi, ρ, k, j, h, hk, m => by
  unfold acf at h
  cases k with
  | zero => simp at hk
  | succ k =>
   obtain ⟨ts, q⟩ := ahN (k := k) h (by simpa using hk) m
   exact ⟨ts, by simpa using q⟩
 | some j' :: src, [], ρ, k, j, h, hk, m => by unfold acf at h; cases h
 | none :: src, [], ρ, k, j, h, hk, m => by unfold acf at h; cases h
noncomputable def Inj (src : List (Option Nat)) : Prop := ∀ (k k' j : Nat), src[k]? = some (some j) -> src[k']? = some (some j) -> k = k'
theorem adh {src : List (Option Nat)} (h : (src.filterMap id).Nodup) : Inj src := by
 induction src with
 | nil => intro k k' j h1; simp at h1
 | cons o src ih =>
  have tail : Inj src := by
   cases o with
   | none => exact ih (by simpa using h)
   | some j => exact ih (by simpa using (List.nodup_cons.mp (by simpa using h)).2)
  intro k k' j h1 h2
  have no : ∀ {m : Nat}, o = some j -> src[m]? = some (some j) -> False := fun {m} e q => by
   subst e
   have n := (List.nodup_cons.mp (show (j :: src.filterMap id).Nodup by simpa using h)).1
   exact n (List.mem_filterMap.mpr ⟨some j, List.mem_of_getElem? q, rfl⟩)
  cases k with
  | zero =>
   have e1 : o = some j := by simpa using h1
   cases k' with
   | zero => rfl
   | succ k' => exact (no e1 (by simpa using h2)).elim
  | succ k =>
   cases k' with
   | zero => exact (no (by simpa using h2) (by simpa using h1)).elim
   | succ k' => rw [tail k k' j (by simpa using h1) (by simpa using h2)]
theorem alY {ρ : En} {i j : Nat} {ts : List Tr} (h : j ≠ i) : (abw i ts ρ)[j]? = ρ[j]? := by
 unfold abw
 split
 ·exact List.getElem?_set_ne (Ne.symm h)
 ·exact List.getElem?_set_ne (Ne.symm h)
 ·rfl
theorem ap5 {ρ ρ' : En} {i : Nat} {ts : List Tr} (h : ρ[i]? = ρ'[i]?) : (abw i ts ρ)[i]? = (abw i ts ρ')[i]? := by
 unfold abw
 rw [h]
 cases q : ρ'[i]? with
 | none => dsimp only; rw [h, q]
 | some s =>
  have l' : i < ρ'.length := (List.getElem?_eq_some_iff.mp q).1
  have l : i < ρ.length := (List.getElem?_eq_some_iff.mp (h.trans q)).1
  cases s with
  | un => dsimp only; rw [h, q]
  | sh _ => dsimp only; rw [h, q]
  | dp _ => dsimp only; rw [h, q]
  | ow _ => dsimp only; rw [afr l, afr l']
  | rf _ => dsimp only; rw [afr l, afr l']
theorem agu : ∀ (src : List (Option Nat)) (ρi ρ : En), (abE src ρi ρ).length = ρ.length
 | [], ρi, ρ => by unfold abE; rfl
 | o :: src, [], ρ => by cases o <;> (unfold abE; rfl)
 | none :: src, s :: ρi, ρ => by unfold abE; exact agu src ρi ρ
 | some j :: src, .un :: ρi, ρ => by unfold abE; exact agu src ρi ρ
 | some j :: src, .sh _ :: ρi, ρ => by unfold abE; exact agu src ρi ρ
 | some j :: src, .dp _ :: ρi, ρ => by unfold abE; exact agu src ρi ρ
 | some j :: src, .ow ts :: ρi, ρ => by unfold abE; rw [agu src ρi, ahK]
 | some j :: src, .rf ts :: ρi, ρ => by unfold abE; rw [agu src ρi, ahK]
theorem agv : ∀ {src : List (Option Nat)} {ρi ρ : En} {j : Nat} {s : Sl}, Inj src -> (abE src ρi ρ)[j]? = some s ->
  (∃ (k : Nat) (ts : List Tr), src[k]? = some (some j) /\ (ρi[k]? = some (.ow ts) \/ ρi[k]? = some (.rf ts)) /\ (abw j ts ρ)[j]? = some s) \/ ((∀ k : Nat, src[k]? = some (some j) -> ¬ Mu ρi k) /\ ρ[j]? = some s)
 | [], ρi, ρ, j, s, _, h => by
  unfold abE at h
  exact .inr ⟨fun k q => by simp at q, h⟩
 | o :: src, [], ρ, j, s, _, h => by
  have h : ρ[j]? = some s := by cases o <;> (unfold abE at h; exact h)
  refine .inr ⟨fun k _ m => ?_, h⟩
  obtain ⟨_, q | q⟩ := m <;> simp at q
 | o :: src, x :: ρi, ρ, j, s, I, h => by
  have It : Inj src := fun k k' j h1 h2 => by
   have := I (k + 1) (k' + 1) j (by simpa using h1) (by simpa using h2)
   omega
  have keep : (o = none \/ acM (some x) = false) -> (abE src ρi ρ)[j]? = some s -> (∃ (k : Nat) (ts : List Tr), (o :: src)[k]? = some (some j) /\ ((x :: ρi)[k]? = some (.ow ts) \/ (x :: ρi)[k]? = some (.rf ts)) /\ (abw j ts ρ)[j]? = some s) \/ ((∀ k : Nat, (o :: src)[k]? = some (some j) -> ¬ Mu (x :: ρi) k) /\ ρ[j]? = some s) := fun c h => by
   rcases agv It h with ⟨k, ts, q1, q2, q3⟩ | ⟨n, q⟩
   ·exact .inl ⟨k + 1, ts, by simpa using q1, by simpa using q2, q3⟩
   ·refine .inr ⟨fun k qk m => ?_, q⟩
    cases k with
    | zero =>
     rcases c with c | c
     ·subst c; simp at qk
     ·rw [<-akj] at m
      have m : acM (some x) = true := m
      rw [c] at m
      cases m
    | succ k =>
     obtain ⟨ts, m⟩ := m
     exact n k (by simpa using qk) ⟨ts, by simpa using m⟩
  have put : ∀ (i : Nat) (ts : List Tr), o = some i -> (x = .ow ts \/ x = .rf ts) -> (abE src ρi (abw i ts ρ))[j]? = some s -> (∃ (k : Nat) (ts : List Tr), (o :: src)[k]? = some (some j) /\ ((x :: ρi)[k]? = some (.ow ts) \/ (x :: ρi)[k]? = some (.rf ts)) /\ (abw j ts ρ)[j]? = some s) \/ ((∀ k : Nat, (o :: src)[k]? = some (some j) -> ¬ Mu (x :: ρi) k) /\ ρ[j]? = some s) := fun i ts eo ex h => by
   rcases agv It h with ⟨k, us, q1, q2, q3⟩ | ⟨n, q⟩
   ·have ne : j ≠ i := fun z => by
     subst z
     have := I 0 (k + 1) j (by simpa using eo) (by simpa using q1)
     omega
    refine .inl ⟨k + 1, us, by simpa using q1, by simpa using q2, ?_⟩
    rw [<-ap5 (alY ne)]
    exact q3
   ·by_cases e : j = i
    ·subst e
     refine .inl ⟨0, ts, by simpa using eo, ?_, q⟩
     rcases ex with rfl | rfl
     ·exact .inl rfl
     ·exact .inr rfl
    ·rw [alY e] at q
     refine .inr ⟨fun k qk m => ?_, q⟩
     cases k with
     | zero =>
      rw [eo] at qk
      simp at qk
      exact e qk.symm
     | succ k =>
      obtain ⟨ts, m⟩ := m
      exact n k (by simpa using qk) ⟨ts, by simpa using m⟩
  cases o with
  | none => unfold abE at h; exact keep (.inl rfl) h
  | some i =>
   cases x with
   | un => unfold abE at h; exact keep (.inr rfl) h
   | sh _ => unfold abE at h; exact keep (.inr rfl) h
   | dp _ => unfold abE at h; exact keep (.inr rfl) h
   | ow ts => unfold abE at h; exact put i ts rfl (.inl rfl) h
   | rf ts => unfold abE at h; exact put i ts rfl (.inr rfl) h
theorem aiD {src : List (Option Nat)} {ρ : En} {k : Nat} {s : Sl} (h : (ab5 src ρ)[k]? = some s) (n : s ≠ .un) : ∃ j, src[k]? = some (some j) /\ ρ[j]? = some s := by
 unfold ab5 at h
 rw [List.getElem?_map] at h
 cases q : src[k]? with
 | none => rw [q] at h; cases h
 | some o =>
  rw [q] at h
  cases o with
  | none => cases h; exact (n rfl).elim
  | some j =>
   refine ⟨j, rfl, ?_⟩
   have h : acV ((ρ[j]?).getD .un) = s := Option.some.inj h
   cases z : ρ[j]? with
   | none => rw [z] at h; exact (n h.symm).elim
   | some s' =>
    rw [z] at h
    have h : acV s' = s := h
    cases s' <;> first | exact congrArg some h | exact (n h.symm).elim
theorem anO {src : List (Option Nat)} {ρ : En} {k : Nat} {ts : List Tr} (h : (ab5 src ρ)[k]? = some (.dp ts)) : False := by
 unfold ab5 at h
 rw [List.getElem?_map] at h
 cases q : src[k]? with
 | none => rw [q] at h; cases h
 | some o =>
  rw [q] at h
  cases o with
  | none => cases h
  | some j =>
   have h : acV ((ρ[j]?).getD .un) = .dp ts := Option.some.inj h
   cases z : (ρ[j]?).getD Sl.un <;> rw [z] at h <;> cases h
theorem aji {src : List (Option Nat)} {ρi ρ : En} {j : Nat} {ts : List Tr} (I : Inj src) (h : (abE src ρi ρ)[j]? = some (.dp ts)) : ρ[j]? = some (.dp ts) := by
 rcases agv I h with ⟨k, us, _, _, q⟩ | ⟨_, q⟩
 ·exact ad7 q
 ·exact q
theorem ahO {src : List (Option Nat)} {σ : St} {k j : Nat} (h : src[k]? = some (some j)) : (aeW src σ)[k]? = some ((σ[j]?).join) := by
 unfold aeW
 rw [List.getElem?_map, h]
 rfl
end L2
end
section
set_option exponentiation.threshold 2000
namespace L2
open PySem PySem.Spec PyProof.Rows
noncomputable def OU (src : List (Option Nat)) (ρ : En) (σ : St) (F : Nat -> List Addr) (b : Addr) : Prop := (∃ j : Nat, Mu ρ j /\ σ[j]? = some (some (.ref b)) /\ ∀ k : Nat, src[k]? ≠ some (some j)) \/ ∃ (j : Nat) (ts : List Tr), ρ[j]? = some (.dp ts) /\ b ∈ F j
open Classical in
noncomputable def tB' (t : Tx) (src : List (Option Nat)) (ρ : En) (σ : St) (F : Nat -> List Addr) (H1 : Hp) (D : Addr) (xs : List V) : Tx := ⟨t.K, t.Z, t.R, t.H0, fun b => if b = D then some (.lst xs) else if OU src ρ σ F b then H1 b else t.B b, fun _ => False⟩
section
variable {t : Tx} {src : List (Option Nat)} {ρ1 : En} {σ : St} {F : Nat -> List Addr} {H1 : Hp} {D : Addr} {W : Addr -> Prop}
theorem B_D {xs : List V} : (tB' t src ρ1 σ F H1 D xs).B D = some (.lst xs) := if_pos rfl
theorem aoW {xs : List V} {b : Addr} (h1 : b ≠ D) (h2 : ¬ OU src ρ1 σ F b) : (tB' t src ρ1 σ F H1 D xs).B b = t.B b := by
 unfold tB'
 dsimp only
 rw [if_neg h1, if_neg h2]
theorem aoX {xs : List V} {b : Addr} (h1 : b ≠ D) (h2 : OU src ρ1 σ F b) : (tB' t src ρ1 σ F H1 D xs).B b = H1 b := by
 unfold tB'
 dsimp only
 rw [if_neg h1, if_pos h2]
theorem ap6 {k : Nat} (h : Mu (ab5 src ρ1) k) : ∃ j, src[k]? = some (some j) /\ Mu ρ1 j := by
 obtain ⟨ts, q | q⟩ := h
 ·obtain ⟨j, h1, h2⟩ := aiD q (by intro z; cases z)
  exact ⟨j, h1, ts, .inl h2⟩
 ·obtain ⟨j, h1, h2⟩ := aiD q (by intro z; cases z)
  exact ⟨j, h1, ts, .inr h2⟩
theorem ahP {k j : Nat} {v : V} (h : src[k]? = some (some j)) (q : (aeW src σ)[k]? = some (some v)) : σ[j]? = some (some v) := by
 rw [ahO h] at q
 have q := Option.some.inj q
 cases z : σ[j]? with
 | none => rw [z] at q; cases q
 | some o =>
  rw [z] at q
  have q : o = some v := q
  rw [q]
theorem af9 {k j : Nat} {v : V} (h : src[k]? = some (some j)) (q : σ[j]? = some (some v)) : (aeW src σ)[k]? = some (some v) := by
 rw [ahO h, q]
 rfl
theorem OU.tab {b : Addr} (e1F : EOF t W ρ1 σ H1 F) (z : Tb t.K b) : ¬ OU src ρ1 σ F b := by
 rintro (⟨j, m, q, _⟩ | ⟨j, ts, d', y⟩)
 ·obtain ⟨xs, h⟩ := EOk.asj ⟨F, e1F⟩ m q
  exact e1F.tab.ok.ne z h rfl
 ·obtain ⟨a, xs, _, d⟩ := e1F.dp j ts d'
  exact d.nt e1F.tab.ok z y
theorem avl {xs : List V} {b : Addr} (e1F : EOF t W ρ1 σ H1 F) (hD : H1 D = none) (z : Tb t.K b) : (tB' t src ρ1 σ F H1 D xs).B b = none := by
 have nD : b ≠ D := fun y => by
  obtain ⟨ps, h⟩ := e1F.tab.ok.tbl z
  rw [y, hD] at h
  cases h
 rw [aoW nD (OU.tab e1F z)]
 exact e1F.tab.B b z
theorem EOF.enter (I : Inj src) (e1F : EOF t W ρ1 σ H1 F) (hD : H1 D = none) : EOk (tB' t src ρ1 σ F H1 D []) (fun b => W b \/ b = D) (ab5 src ρ1) (aeW src σ) (upd H1 D (.lst [])) := by
 have e1 : EOk t W ρ1 σ H1 := ⟨F, e1F⟩
 have e2 := (e1.hide (aaO hD (.lst [])) hD aa9).ok
 have tf := e2.tab
 refine ⟨fun _ => [], ?_, e2.zw, e2.z0, e2.wl, e2.f0, e2.n0, fun k u h => ?_, fun k ts h => ?_, fun k ts h => ?_, fun k k' a m1 m2 q1 q2 => ?_, fun b o h => ?_, fun k a m q => ?_, fun k ts h => (anO h).elim, fun k _ ts _ _ h => (anO h).elim, fun k _ ts _ h => (anO h).elim, fun k ts h => (anO h).elim, ⟨tf.ok, tf.w, tf.r, fun b z => avl e1F hD z⟩⟩
 ·unfold ab5 aeW
  rw [List.length_map, List.length_map]
 ·obtain ⟨j, h1, h2⟩ := aiD h (by intro z; cases z)
  obtain ⟨v, q1, q2⟩ := e2.sh j u h2
  exact ⟨v, af9 h1 q1, q2⟩
 ·obtain ⟨j, h1, h2⟩ := aiD h (by intro z; cases z)
  obtain ⟨a, xs, q1, q2⟩ := e2.ow j ts h2
  exact ⟨a, xs, af9 h1 q1, q2⟩
 ·obtain ⟨j, h1, h2⟩ := aiD h (by intro z; cases z)
  obtain ⟨a, xs, q1, q2⟩ := e2.rf j ts h2
  exact ⟨a, xs, af9 h1 q1, q2⟩
 ·obtain ⟨j, h1, n1⟩ := ap6 m1
  obtain ⟨j', h2, n2⟩ := ap6 m2
  have := e2.dis j j' a n1 n2 (ahP h1 q1) (ahP h2 q2)
  subst this
  exact I k k' j h1 h2
 ·by_cases h1 : b = D
  ·subst h1
   rw [B_D] at h
   rw [aa9]
   exact h
  ·by_cases h2 : OU src ρ1 σ F b
   ·rw [aoX h1 h2] at h
    rw [aaH h1]
    exact h
   ·rw [aoW h1 h2] at h
    exact e2.pn b o h
 ·obtain ⟨j, h1, n1⟩ := ap6 m
  have q := ahP h1 q
  have wa := e1.addr n1 q
  have nD : a ≠ D := fun z => by subst z; exact e1.wn a wa hD
  have nO : ¬ OU src ρ1 σ F a := by
   rintro (⟨j', m', q', u'⟩ | ⟨j', ts, d', z⟩)
   ·have := e1.dis j j' a n1 m' q q'
    subst this
    exact u' k h1
   ·exact e1F.dm j' j ts a d' n1 q z
  rw [aoW nD nO]
  exact e1.pd j a n1 q
theorem EOk.asr {xs ys : List V} {ρ : En} {τ : St} {H : Hp} {W' : Addr -> Prop} (e : EOk (tB' t src ρ1 σ F H1 D xs) W' ρ τ H) (w : W' D) (h0 : t.H0 D = none) : EOk (tB' t src ρ1 σ F H1 D ys) W' ρ τ (upd H D (.lst ys)) := by
 have ne : ∀ i a, Mu ρ i -> τ[i]? = some (some (.ref a)) -> a ≠ D := fun i a m q z => by
  subst z
  have := e.pd i a m q
  rw [B_D] at this
  cases this
 obtain ⟨F', e⟩ := e
 have neD : ∀ i ts, ρ[i]? = some (Sl.dp ts) -> ∀ b ∈ F' i, b ≠ D := fun i ts h b hb z => by
  subst z
  have := e.db i ts h b hb
  rw [B_D] at this
  cases this
 refine ⟨F', e.len, e.zw, e.z0, fun b z => ?_, fun b o h n => ?_, fun b h => ?_, fun i u h => ?_, fun i ts h => ?_, fun i ts h => ?_, e.dis, fun b o h => ?_, fun i a m q => ?_, fun i ts h => ?_, e.dd, e.dm, fun i ts h b hb => ?_, ⟨e.tab.ok.upd (e.pn D _ B_D), e.tab.w, e.tab.r, fun b z => ?_⟩⟩
 ·by_cases q : b = D
  ·subst q; exact .inl ⟨ys, aa9⟩
  ·unfold Lt; rw [aaH q]; exact e.wl b z
 ·rw [aaH]
  ·exact e.f0 b o h n
  ·rintro rfl
   have h : t.H0 b = some o := h
   rw [h0] at h
   cases h
 ·by_cases q : b = D
  ·subst q; exact h0
  ·rw [aaH q] at h; exact e.n0 b h
 ·rw [acF w]
  exact e.sh i u h
 ·obtain ⟨a, zs, q1, q2, q3, q4, q5⟩ := e.ow i ts h
  rw [acF w]
  exact ⟨a, zs, q1, q2, q3, by rw [aaH (ne i a ⟨ts, .inl h⟩ q1)]; exact q4, q5⟩
 ·obtain ⟨a, zs, q1, q2, q3, q4, q5⟩ := e.rf i ts h
  rw [acF w]
  exact ⟨a, zs, q1, q2, q3, by rw [aaH (ne i a ⟨ts, .inr h⟩ q1)]; exact q4, q5⟩
 ·by_cases h1 : b = D
  ·subst h1
   rw [B_D] at h
   rw [aa9]
   exact h
  ·rw [aaH h1]
   refine e.pn b o ?_
   by_cases h2 : OU src ρ1 σ F b
   ·rw [aoX h1 h2] at h ⊢; exact h
   ·rw [aoW h1 h2] at h ⊢; exact h
 ·have nD := ne i a m q
  have z := e.pd i a m q
  by_cases h2 : OU src ρ1 σ F a
  ·rw [aoX nD h2] at z ⊢; exact z
  ·rw [aoW nD h2] at z ⊢; exact z
 ·obtain ⟨a, zs, q1, d⟩ := e.dp i ts h
  exact ⟨a, zs, q1, d.move rfl rfl (by rw [acF w]; exact Same.refl _) (fun b hb => by obtain ⟨_, _, _, ww, _⟩ := d; exact (ww b hb).1) fun b o hb q => by rw [aaH (neD i ts h b hb)]; exact q⟩
 ·have nD := neD i ts h b hb
  have z := e.db i ts h b hb
  by_cases h2 : OU src ρ1 σ F b
  ·rw [aoX nD h2] at z ⊢; exact z
  ·rw [aoW nD h2] at z ⊢; exact z
 ·have y := e.tab.B b z
  have nD : b ≠ D := fun q => by
   subst q
   rw [B_D] at y
   cases y
  by_cases h2 : OU src ρ1 σ F b
  ·rw [aoX nD h2] at y ⊢; exact y
  ·rw [aoW nD h2] at y ⊢; exact y
theorem EOF.leave {xs : List V} {ρ : En} {τ : St} {H : Hp} {Wx : Addr -> Prop} {js : List Nat} (I : Inj src) (e1F : EOF t W ρ1 σ H1 F) (hD : H1 D = none) (e : EOk (tB' t src ρ1 σ F H1 D xs) (fun b => W b \/ b = D) ρ τ H) (nx : ∀ b o, ¬ W b -> H1 b = some o -> H b = some o)
  (hj : ∀ k j : Nat, src[k]? = some (some j) -> k ∉ js) (ag : ∀ k, k ∉ js -> τ[k]? = (aeW src σ)[k]?) (so : acf src ρ ρ1 = true) (w1 : ∀ b, W b -> Wx b) (w2 : ∀ b, Wx b -> W b \/ b = D) : EOF t Wx (abE src ρ ρ1) σ H F := by
 have e1 : EOk t W ρ1 σ H1 := ⟨F, e1F⟩
 have m1 : Same (aaY W H1) (aaY Wx H) := fun b o h => by
  obtain ⟨n, h⟩ := abm h
  rw [aaX]
  ·exact nx b o n h
  ·intro z
   rcases w2 b z with z | rfl
   ·exact n z
   ·rw [hD] at h; cases h
 have m2 : Same (aaY (fun b => W b \/ b = D) H) (aaY Wx H) := acn (fun b _ _ z => w2 b z) fun _ _ _ h => h
 have muo : ∀ j, Mu (abE src ρ ρ1) j -> Mu ρ1 j := fun j m => by
  obtain ⟨ts, m | m⟩ := m <;> rcases agv I m with ⟨k, us, q1, q2, q3⟩ | ⟨n, q⟩
  ·exact afs ⟨ts, .inl q3⟩
  ·exact ⟨ts, .inl q⟩
  ·exact afs ⟨ts, .inr q3⟩
  ·exact ⟨ts, .inr q⟩
 have inner : ∀ (k j : Nat) (ts : List Tr) (a : Addr), src[k]? = some (some j) -> (ρ[k]? = some (.ow ts) \/ ρ[k]? = some (.rf ts)) -> σ[j]? = some (some (.ref a)) -> ∃ ys, H a = some (.lst ys) /\ aa1 t.K (aaY Wx H) ys ts := fun k j ts a q1 q2 q3 => by
  have z := ag k (hj k j q1)
  rw [af9 q1 q3] at z
  rcases q2 with q2 | q2
  ·obtain ⟨c, ys, h1, h2, h3, h4, h5⟩ := e.ow k ts q2
   rw [z] at h1
   cases h1
   exact ⟨ys, h4, h5.mono m2⟩
  ·obtain ⟨c, ys, h1, h2, h3, h4, h5⟩ := e.rf k ts q2
   rw [z] at h1
   cases h1
   exact ⟨ys, h4, h5.mono m2⟩
 have outer : ∀ (j : Nat) (a : Addr) (ys : List V), Mu ρ1 j -> (∀ k, src[k]? = some (some j) -> ¬ Mu ρ k) -> σ[j]? = some (some (.ref a)) -> H1 a = some (.lst ys) -> H a = some (.lst ys) := fun j a ys m n q h => by
  have wa := e1.addr m q
  have nD : a ≠ D := fun z => by subst z; exact e1.wn a wa hD
  refine e.pn a _ ?_
  rw [aoX nD (.inl ⟨j, m, q, fun k z => n k z (ahN so z m)⟩)]
  exact h
 refine ⟨by rw [agu]; exact e1.len, fun b z => w1 b (e1.zw b z), e1.z0, fun b z => e.wl b (w2 b z), e.f0, e.n0, fun j u h => ?_, fun j ts h => ?_, fun j ts h => ?_, fun j k a n1 n2 => e1.dis j k a (muo j n1) (muo k n2), fun b o h => ?_, fun j a m => e1.pd j a (muo j m), fun j ts h => ?_, fun j k ts us n h1 h2 => e1F.dd j k ts us n (aji I h1) (aji I h2), fun j k ts c h1 m q => e1F.dm j k ts c (aji I h1) (muo k m) q, fun j ts h => e1F.db j ts (aji I h), ⟨e.tab.ok, fun b z => w1 b (e1.tab.w b z), e1.tab.r, e1.tab.B⟩⟩
 ·have h' : ρ1[j]? = some (.sh u) := by
   rcases agv I h with ⟨k, us, q1, q2, q3⟩ | ⟨n, q⟩
   ·rcases adG q3 with ⟨ne, _⟩ | ⟨_, ⟨_, _, z⟩ | ⟨_, _, z⟩ | ⟨_, q⟩⟩
    ·exact (ne rfl).elim
    ·cases z
    ·cases z
    ·exact q
   ·exact q
  obtain ⟨v, q1, q2⟩ := e1.sh j u h'
  exact ⟨v, q1, q2.mono m1⟩
 ·rcases agv I h with ⟨k, us, q1, q2, q3⟩ | ⟨n, q⟩
  ·rcases adG q3 with ⟨ne, _⟩ | ⟨_, ⟨ts0, q0, z⟩ | ⟨_, _, z⟩ | ⟨nm, q⟩⟩
   ·exact (ne rfl).elim
   ·cases z
    obtain ⟨a, ys, h1, h2, h3, h4, h5⟩ := e1.ow j ts0 q0
    obtain ⟨zs, k1, k2⟩ := inner k j ts a q1 q2 h1
    exact ⟨a, zs, h1, w1 a h2, h3, k1, k2⟩
   ·cases z
   ·exact (nm ⟨ts, .inl q⟩).elim
  ·obtain ⟨a, ys, h1, h2, h3, h4, h5⟩ := e1.ow j ts q
   exact ⟨a, ys, h1, w1 a h2, h3, outer j a ys ⟨ts, .inl q⟩ n h1 h4, h5.mono m1⟩
 ·rcases agv I h with ⟨k, us, q1, q2, q3⟩ | ⟨n, q⟩
  ·rcases adG q3 with ⟨ne, _⟩ | ⟨_, ⟨_, _, z⟩ | ⟨ts0, q0, z⟩ | ⟨nm, q⟩⟩
   ·exact (ne rfl).elim
   ·cases z
   ·cases z
    obtain ⟨a, ys, h1, h2, h3, h4, h5⟩ := e1.rf j ts0 q0
    obtain ⟨zs, k1, k2⟩ := inner k j ts a q1 q2 h1
    exact ⟨a, zs, h1, w1 a h2, h3, k1, k2⟩
   ·exact (nm ⟨ts, .inr q⟩).elim
  ·obtain ⟨a, ys, h1, h2, h3, h4, h5⟩ := e1.rf j ts q
   exact ⟨a, ys, h1, w1 a h2, h3, outer j a ys ⟨ts, .inr q⟩ n h1 h4, h5.mono m1⟩
 ·have nD : b ≠ D := fun z => by
   subst z
   rw [e1.noB hD] at h
   cases h
  have nO : ¬ OU src ρ1 σ F b := by
   rintro (⟨j, m, q, _⟩ | ⟨j, ts, d', z⟩)
   ·rw [e1.pd j b m q] at h
    cases h
   ·rw [e1F.db j ts d' b z] at h
    cases h
  refine e.pn b o ?_
  rw [aoW nD nO]
  exact h
 ·have hd := aji I h
  obtain ⟨a, ys, q1, d⟩ := e1F.dp j ts hd
  have ww : ∀ b ∈ F j, W b := fun b hb => by obtain ⟨_, _, _, ww, _⟩ := d; exact (ww b hb).1
  refine ⟨a, ys, q1, d.move rfl rfl m1 (fun b hb => w1 b (ww b hb)) fun b o hb q => ?_⟩
  have nD : b ≠ D := fun z => by subst z; exact e1.wn b (ww b hb) hD
  refine e.pn b o ?_
  rw [aoX nD (.inr ⟨j, ts, hd, hb⟩)]
  exact q
end
noncomputable def clV : Rv -> Rs Tr
 | .v T _ => .ok T
 | .s _ => .bad
theorem alZ (r : Rv) (c : Str) : clV r ≠ .ex c := by cases r <;> (intro z; cases z)
noncomputable def ad8 (g : GF) (c : BF) (f : EF) : List Tr -> En -> Rs (List Tr × En)
 | [], ρ => .ok ([], ρ)
 | u :: us, ρ => (g u ρ).bind fun ρ1 => (c ρ1).bind fun b => if b.1 = true then (f b.2).bind fun p => (clV p.1).bind fun T => (ad8 g c f us p.2).bind fun z => .ok (T :: z.1, z.2) else ad8 g c f us b.2
noncomputable def abF (src : List (Option Nat)) (fi : IF) (g : GF) (c : BF) (f : EF) : EF := fun ρ => (fi ρ).bind fun p => if p.1.length <= 100000 then (abN (ad8 g c f p.1 (ab5 src p.2))).bind fun z => if acf src z.2 p.2 = true then .ok (.v (.lst z.1) true, abE src z.2 p.2) else .bad else .bad
theorem ahQ {t : Tx} {wi : TI} {g : TG} {src : List (Option Nat)} {tc : TT} {te : TE} {fi : IF} {gf : GF} {c : BF} {f : EF} {js : List Nat} (hi : SI t wi fi) (I : Inj src) (hj : ∀ k j : Nat, src[k]? = some (some j) -> k ∉ js) (ng : ∀ T ρ c, gf T ρ ≠ .ex c)
  (hg : ∀ t' : Tx, t'.K = t.K -> (∀ c, ¬ t'.EX c) -> SG t' g gf js) (hc : ∀ t' : Tx, t'.K = t.K -> (∀ c, ¬ t'.EX c) -> ST t' tc c) (he : ∀ t' : Tx, t'.K = t.K -> (∀ c, ¬ t'.EX c) -> SE t' te f) : SE t (ahj wi g src tc te) (abF src fi gf c f) := fun W ρ σ H Q e h => by
 refine hi W ρ σ H _ e (Rs.aai (Rs.aaf h) fun p h J H1 e1 s1 it => ?_)
 obtain ⟨us, ρ1⟩ := p
 dsimp only at h it e1
 split at h
 case isFalse => exact h.elim
 rename_i hlen
 intro D hD
 have h := ae5 (Rs.aaf h)
 obtain ⟨F, e1F⟩ := id e1
 have wD : ∀ b, W b -> b ≠ D := fun b w z => by subst z; exact e1.wn b w hD
 have h0D : t.H0 D = none := e1.n0 D hD
 refine ⟨fun i m τ H' => m = us.length - i /\ i <= us.length /\ ∃ ρ' xs acc, EOk (tB' t src ρ1 σ F H1 D xs) (fun b => W b \/ b = D) ρ' τ H' /\ aa1 t.K (aaY (fun b => W b \/ b = D) H') xs acc /\ xs.length <= i /\ (∀ b o, ¬ W b -> H1 b = some o -> H' b = some o) /\ (∀ k, k ∉ js -> τ[k]? = (aeW src σ)[k]?) /\
   (ad8 gf c f (us.drop i) ρ').post (fun _ => False) (fun z => (if acf src z.2 ρ1 = true then .ok (.v (.lst (acc ++ z.1)) true, abE src z.2 ρ1) else .bad : Rs (Rv × En)).post t.EX (fun p => ∀ v H', EOk t W p.2 σ H' -> Stp W H H' -> VOE t W p.2 σ H H' v p.1 -> Q v H')), ?_, ?_⟩
 ·refine ⟨us.length, by simp, Nat.zero_le _, ab5 src ρ1, [], [], e1F.enter I hD, .nil, Nat.le_refl _, fun b o _ q => ?_, fun _ _ => rfl, ?_⟩
  ·rw [aaH (aaT q hD)]; exact q
  ·rw [List.drop_zero]; exact h
 ·rintro i m τ H2 ⟨rfl, hi, ρ2, xs, acc, e2, r2, l2, n2, a2, h2⟩
  have sm : Same (aaY W H1) (aaY (fun b => W b \/ b = D) H2) := fun b o q => by
   obtain ⟨nw, q⟩ := abm q
   rw [aaX]
   ·exact n2 b o nw q
   ·rintro (z | rfl)
    ·exact nw z
    ·rw [hD] at q; cases q
  have q := it _ H2 sm e2.wl i
  by_cases hlt : i < us.length
  ·rw [List.drop_eq_getElem_cons hlt] at h2
   obtain ⟨go, y⟩ := q.2 us[i] (by simp [hlt])
   refine .inr ⟨go, fun x H3 yl => ?_⟩
   obtain ⟨s3, r3⟩ := y x H3 yl
   have e3 := e2.grow s3
   refine hg (tB' t src ρ1 σ F H1 D xs) rfl (fun _ => id) _ ρ2 τ H3 x us[i] _ e3 r3 (Rs.aai (ai6 (Rs.aaf h2) (ng _ _)) fun ρ4 h σ4 e4 a4 => ?_)
   refine hc (tB' t src ρ1 σ F H1 D xs) rfl (fun _ => id) _ ρ4 σ4 H3 _ e4 (Rs.aai (Rs.aaf h) fun b h H5 e5 s5 => ?_)
   have st5 : Stp (fun b => W b \/ b = D) H2 H5 := (Stp.of s3).trans s5
   have n5 : ∀ b o, ¬ W b -> H1 b = some o -> H5 b = some o := fun b o nw qb => by
    have nD : b ≠ D := aaT qb hD
    refine st5.keep b o ?_ (n2 b o nw qb)
    rintro (z | z)
    ·exact nw z
    ·exact nD z
   have a5 : ∀ k, k ∉ js -> σ4[k]? = (aeW src σ)[k]? := fun k nk => (a4 k nk).trans (a2 k nk)
   split at h
   ·rename_i cb
    rw [if_pos cb]
    refine he (tB' t src ρ1 σ F H1 D xs) rfl (fun _ => id) _ b.2 σ4 H5 _ e5 (Rs.aai (Rs.aaf h) fun p h v H6 e6 s6 v6 => ?_)
    obtain ⟨T, kT, h⟩ := abP (Rs.aaf h) (alZ _)
    have rv : Rep t.K (aaY (fun b => W b \/ b = D) H6) v T := by
     obtain ⟨r, ρ7⟩ := p
     cases r with
     | s i => cases kT
     | v U fr =>
      cases kT
      exact VOk.rep (K := t.K) e5.wn v6.1
    refine ⟨xs, e6.pn D _ B_D, Nat.lt_of_le_of_lt (show xs.length <= 100000 by omega) (by decide), us.length - (i + 1), by omega, rfl, hlt, p.2, xs ++ [v], acc ++ [T], e6.asr (.inr rfl) h0D, ?_, by rw [List.length_append]; simp; omega, fun b o nw q => ?_, a5, ?_⟩
    ·rw [acF (.inr rfl)]
     exact (r2.mono (st5.trans s6).off).app (.cons rv .nil)
    ·have nD : b ≠ D := aaT q hD
     rw [aaH nD]
     refine s6.keep b o ?_ (n5 b o nw q)
     rintro (z | z)
     ·exact nw z
     ·exact nD z
    ·refine Rs.aai (Rs.aaf h) fun z h => ?_
     rw [List.append_assoc]
     exact h
   ·rename_i cb
    rw [if_neg cb]
    exact ⟨us.length - (i + 1), by omega, rfl, hlt, b.2, xs, acc, e5, r2.mono st5.off, by omega, n5, a5, h⟩
  ·have z : i = us.length := by omega
   subst z
   rw [List.drop_length] at h2
   have h2 : (if acf src ρ2 ρ1 = true then .ok (.v (.lst (acc ++ [])) true, abE src ρ2 ρ1) else .bad : Rs (Rv × En)).post t.EX _ := h2
   refine .inl ⟨q.1 rfl, ?_⟩
   split at h2
   ·rename_i so
    rw [List.append_nil] at h2
    have hxs : H2 D = some (.lst xs) := e2.pn D _ B_D
    have eW : EOk t W (abE src ρ2 ρ1) σ H2 := ⟨F, e1F.leave (Wx := W) I hD e2 n2 hj a2 so (fun _ w => w) fun _ w => .inl w⟩
    have eD : EOh t W D (abE src ρ2 ρ1) σ H2 := ⟨F, e1F.leave (Wx := fun b => W b \/ b = D) I hD e2 n2 hj a2 so (fun _ w => .inl w) fun _ w => w, fun i ts hi z => by
     obtain ⟨c, ys, _, bs, _, _, ww, _⟩ := e1F.dp i ts (aji I hi)
     exact wD D (ww D z).1 rfl⟩
    have st : Stp W H1 H2 := ⟨n2, fun b q => by
     cases z : H1 b with
     | none => rfl
     | some o =>
      by_cases w : W b
      ·exact ((e2.wl b (.inl w)).ne q).elim
      ·rw [n2 b o w z] at q
       cases q⟩
    refine h2 (.ref D) H2 eW (s1.trans st) ⟨⟨D, xs, acc, rfl, rfl, s1.dom D hD, hxs, r2.mono fun b o q => ?_⟩, fun U a _ ea => ?_⟩
    ·obtain ⟨nb, q⟩ := abm q
     rw [off_ne fun z => nb (.inr z), aaX fun z => nb (.inl z)]
     exact q
    ·cases ea
     exact eD
   ·exact h2.elim
noncomputable def aeH : BF := fun ρ => .ok (true, ρ)
theorem anP {wi : TI} {g : TG} {src : List (Option Nat)} {te : TE} : alM wi g src te = ahj wi g src (fun _ H Q => Q true H) te := by
 funext σ H Q
 simp only [alM, ahj, if_true]
theorem ac2 {t : Tx} {wi : TI} {g : TG} {src : List (Option Nat)} {te : TE} {fi : IF} {gf : GF} {f : EF} {js : List Nat} (hi : SI t wi fi) (I : Inj src) (hj : ∀ k j : Nat, src[k]? = some (some j) -> k ∉ js) (ng : ∀ T ρ c, gf T ρ ≠ .ex c)
  (hg : ∀ t' : Tx, t'.K = t.K -> (∀ c, ¬ t'.EX c) -> SG t' g gf js) (he : ∀ t' : Tx, t'.K = t.K -> (∀ c, ¬ t'.EX c) -> SE t' te f) : SE t (alM wi g src te) (abF src fi gf aeH f) := by
 rw [anP]
 exact ahQ hi I hj ng hg (fun t' _ _ W ρ σ H Q e h => h H e (Stp.refl _ _)) he
end L2
end
section
set_option exponentiation.threshold 2000
namespace L2
open PySem PySem.Spec PyProof.Rows
theorem PS.nox {X : Cx} {st : Stmt} {t : TS} (h : PS X.nox st t) : PS X st t := fun pins s σ H D I hw =>
 wpAny_mono (h pins s σ H D (I.wish _) hw) (fun _ _ q => q.afE) fun _ _ z => False.elim z
theorem EOk.ex {t : Tx} {EX : Str -> Prop} {W : Addr -> Prop} {ρ : En} {σ : St} {H : Hp} (e : EOk t W ρ σ H) : EOk { t with EX := EX } W ρ σ H := e.elim fun F e => ⟨F, e.len, e.zw, e.z0, e.wl, e.f0, e.n0, e.sh, e.ow, e.rf, e.dis, e.pn, e.pd, e.dp, e.dd, e.dm, e.db, ⟨e.tab.ok, e.tab.w, e.tab.r, e.tab.B⟩⟩
theorem EOk.auy {t : Tx} {EX : Str -> Prop} {W : Addr -> Prop} {ρ : En} {σ : St} {H : Hp} (e : EOk { t with EX := EX } W ρ σ H) : EOk t W ρ σ H := e.elim fun F e => ⟨F, e.len, e.zw, e.z0, e.wl, e.f0, e.n0, e.sh, e.ow, e.rf, e.dis, e.pn, e.pd, e.dp, e.dd, e.dm, e.db, ⟨e.tab.ok, e.tab.w, e.tab.r, e.tab.B⟩⟩
noncomputable def ada (f : SF) : SF := fun ρ => abN (f ρ)
theorem ad9 {t : Tx} {ts : TS} {f : SF} (h : ∀ t' : Tx, t'.K = t.K -> (∀ c, ¬ t'.EX c) -> SS t' ts f) : SS t ts (ada f) := fun W ρ σ H D e q => by
 refine h { t with EX := fun _ => False } rfl (fun _ => id) W ρ σ H D e.ex (Rs.aai (ae5 q) fun p q => ?_)
 obtain ⟨fl, ρ'⟩ := p
 cases fl with
 | nx => exact fun W' σ' H' e' n => q W' σ' H' e'.auy n
 | rt T fr =>
  refine fun v W' σ' H' e' n => q v W' σ' H' e'.auy ?_
  cases fr <;> exact n
 | bk => exact fun W' σ' H' e' n => q W' σ' H' e'.auy n
 | ct => exact fun W' σ' H' e' n => q W' σ' H' e'.auy n
theorem axt {p : Int -> Int -> Int} (a b : Tr) (c : Str) : gI p a b ≠ .ex c := by
 cases a <;> cases b <;> (intro z; cases z)
theorem ap7 {q : Int -> Int -> Bool} {p : Int -> Int -> Int} (a b : Tr) (c : Str) : gIC q p a b ≠ .ex c := by
 cases a <;> cases b <;> first | (intro z; cases z; done) | (dsimp only [gIC]; split <;> (intro z; cases z))
theorem avm {p : Int -> Int -> Bool} (a b : Tr) (c : Str) : gB p a b ≠ .ex c := by
 cases a <;> cases b <;> (intro z; cases z)
theorem avn (a b : Tr) (c : Str) : gEq a b ≠ .ex c := by unfold gEq; split <;> (intro z; cases z)
theorem avo (a b : Tr) (c : Str) : gNe a b ≠ .ex c := by unfold gNe; split <;> (intro z; cases z)
theorem avp {f : Bool -> Bool} (a b : Tr) (c : Str) : gIn f a b ≠ .ex c := by
 cases b <;> first | (intro z; cases z; done) | (dsimp only [gIn]; split <;> (intro z; cases z))
theorem asu (a b : Tr) (c : Str) : abB a b ≠ .ex c := by
 cases a <;> cases b <;> first | (intro z; cases z; done) | (dsimp only [abB]; split <;> (intro z; cases z))
theorem asv (a b : Tr) (c : Str) : abI a b ≠ .ex c := by
 cases a <;> cases b <;> first | (intro z; cases z; done) | (dsimp only [abI]; split <;> (intro z; cases z))
theorem asw (a b : Tr) (c : Str) : acB a b ≠ .ex c := ap7 a b c
theorem asx (a b : Tr) (c : Str) : acz a b ≠ .ex c := ap7 a b c
theorem asy (a b : Tr) (c : Str) : acy a b ≠ .ex c := ap7 a b c
theorem asz (a b : Tr) (c : Str) : ab3 a b ≠ .ex c := axt a b c
theorem avq (a b : Tr) (c : Str) : gGt a b ≠ .ex c := avm a b c
theorem ahR (a b : Tr) (c : Str) : gLe a b ≠ .ex c := avm a b c
theorem avr (a b : Tr) (c : Str) : gGe a b ≠ .ex c := avm a b c
theorem avs (a b : Tr) (c : Str) : gLt a b ≠ .ex c := by
 cases a <;> cases b <;> first | (intro z; cases z; done) | (dsimp only [gLt]; split <;> (intro z; cases z))
theorem avt (a b : Tr) (c : Str) : gIx a b ≠ .ex c := by
 cases a <;> cases b <;> first | (intro z; cases z; done) | (dsimp only [gIx]; split <;> first | (intro z; cases z; done) | (split <;> (intro z; cases z)))
theorem asA (a : Tr) (c : Str) : alR a ≠ .ex c := by cases a <;> (intro z; cases z)
theorem asB (a : Tr) (c : Str) : abf a ≠ .ex c := by
 cases a <;> first | (intro z; cases z; done) | (dsimp only [abf]; split <;> (intro z; cases z))
theorem asC (a : Tr) (c : Str) : adb a ≠ .ex c := by cases a <;> (intro z; cases z)
theorem asD (a : Tr) (c : Str) : ajg a ≠ .ex c := by cases a <;> (intro z; cases z)
theorem ap8 (a : Tr) (c : Str) : abk a ≠ .ex c := by cases a <;> (intro z; cases z)
theorem asF (a b : Tr) (c : Str) : ac9 a b ≠ .ex c := by cases a <;> cases b <;> (intro z; cases z)
theorem asG (a : Tr) (c : Str) : acq a ≠ .ex c := by
 cases a <;> first | (intro z; cases z; done) | (dsimp only [acq]; split <;> (intro z; cases z))
theorem ab6 {i : Nat} (T : Tr) (ρ : En) (c : Str) : gN i T ρ ≠ .ex c := by intro z; cases z
theorem ae6 (Ts : List Tr) (ρ : En) (c : Str) : acr Ts ρ ≠ .ex c := by cases Ts <;> (intro z; cases z)
theorem ad0 {f : GF} {g : GFs} (h1 : ∀ T ρ c, f T ρ ≠ .ex c) (h2 : ∀ T ρ c, g T ρ ≠ .ex c) (Ts : List Tr) (ρ : En) (c : Str) : aaJ f g Ts ρ ≠ .ex c := by
 cases Ts with
 | nil => intro z; cases z
 | cons T r => exact aki (h1 T ρ) (fun ρ' => h2 r ρ') c
theorem anQ {n : Nat} {f : GFs} (h : ∀ T ρ c, f T ρ ≠ .ex c) (T : Tr) (ρ : En) (c : Str) : gT n f T ρ ≠ .ex c := by
 cases T <;> first | (intro z; cases z; done) | (dsimp only [gT]; split <;> first | exact h _ _ _ | (intro z; cases z))
noncomputable def arb (f : AF) (n : Nat) : Prop := ∀ ρ p, f ρ = .ok p -> p.1.length = n
theorem aaA : arb aar 0 := fun ρ p h => by cases h; rfl
theorem aah {f : EF} {g : AF} {n : Nat} (h : arb g n) : arb (aae f g) (n + 1) := fun ρ p q => by
 unfold aae at q
 obtain ⟨a, q1, q⟩ := aaV q
 obtain ⟨b, q2, q⟩ := aaV q
 cases q
 rw [List.length_cons, h _ _ q2]
noncomputable def Gk (K : PySem.W.Frag) (mg : Str -> Option Value) (x : Str) (v : V) (T : Tr) : Prop := ∃ u, mg x = some u /\ RelV v u /\ ∀ H, Rep (nlK K) H v T
theorem avu {X : Cx} {x : Str} {v : V} {T : Tr} {pos : Pos} (h : Gk X.K X.mg x v T) (hg : Gl X x := by rfl) (hd : (x == ("__debug__" : Str)) = false := by decide) : PE X (.Name x pos) (tC v) := by
 obtain ⟨u, h1, h2, _⟩ := h
 exact apn hg h1 h2 hd
theorem ap9 {t : Tx} {K : PySem.W.Frag} {mg : Str -> Option Value} {x : Str} {v : V} {T : Tr} (hK : t.K = nlK K) (h : Gk K mg x v T) : SE t (tC v) (eC T) := by
 obtain ⟨u, _, _, h⟩ := h
 exact auw fun H => by rw [hK]; exact h H
end L2
end
section
set_option exponentiation.threshold 2000
namespace L2
open PySem PySem.Spec PyProof.Rows
section
variable {t : Tx} {K : PySem.W.Frag} {ta tb tc : TE} {fa fb fc : EF}
theorem ad1 (hK : t.K = nlK K) (ha : SE t ta fa) (hb : SE t tb fb) : SE t (tOp (apP K) ta tb) (eOp abB fa fb) := aeZ (by rw [hK]; exact arW) asu ha hb
theorem aiE (hK : t.K = nlK K) (ha : SE t ta fa) (hb : SE t tb fb) : SE t (tOp (rI0 fun i j => .int (i - j)) ta tb) (eOp ab3 fa fb) := aeZ (by rw [hK]; exact ar4) asz ha hb
theorem adq (hK : t.K = nlK K) (ha : SE t ta fa) (hb : SE t tb fb) : SE t (tOp (apQ K) ta tb) (eOp abI fa fb) := aeZ (by rw [hK]; exact arY (K := K)) asv ha hb
theorem ajj (hK : t.K = nlK K) (ha : SE t ta fa) (hb : SE t tb fb) : SE t (tOp (rI anD fun i j => .int (i.fdiv j)) ta tb) (eOp acB fa fb) := aeZ (by rw [hK]; exact arZ) asw ha hb
theorem ajk (hK : t.K = nlK K) (ha : SE t ta fa) (hb : SE t tb fb) : SE t (tOp (rI (fun _ j => j ≠ 0) fun i j => .int (i.fmod j)) ta tb) (eOp acz fa fb) := aeZ (by rw [hK]; exact ar0) asx ha hb
theorem al0 (hK : t.K = nlK K) (ha : SE t ta fa) (hb : SE t tb fb) : SE t (tOp (rI auR fun i j => .int (i ^ j.toNat)) ta tb) (eOp acy fa fb) := aeZ (by rw [hK]; exact ar3) asy ha hb
theorem x_eq (hK : t.K = nlK K) (ha : SE t ta fa) (hb : SE t tb fb) : SE t (tOp (auX K) ta tb) (eOp gEq fa fb) := aeZ (by rw [hK]; exact au7) avn ha hb
theorem aoY (hK : t.K = nlK K) (ha : SE t ta fa) (hb : SE t tb fb) : SE t (tOp (au4 K) ta tb) (eOp gNe fa fb) := aeZ (by rw [hK]; exact au8) avo ha hb
theorem awT (hK : t.K = nlK K) (ha : SE t ta fa) (hb : SE t tb fb) : SE t (tOp (auZ K) ta tb) (eOp (gIn id) fa fb) := aeZ (by rw [hK]; exact au9) avp ha hb
theorem x_lt (hK : t.K = nlK K) (ha : SE t ta fa) (hb : SE t tb fb) : SE t (tOp (avc K) ta tb) (eOp gLt fa fb) := aeZ (by rw [hK]; exact avd) avs ha hb
theorem axu (hK : t.K = nlK K) (ha : SE t ta fa) (hb : SE t tb fb) : SE t (tOp (rI0 fun i j => .bl (decide (i <= j))) ta tb) (eOp gLe fa fb) := aeZ (by rw [hK]; exact ahG) ahR ha hb
theorem axv (hK : t.K = nlK K) (ha : SE t ta fa) (hb : SE t tb fb) : SE t (tOp (rI0 fun i j => .bl (decide (j < i))) ta tb) (eOp gGt fa fb) := aeZ (by rw [hK]; exact ava) avq ha hb
theorem x_ge (hK : t.K = nlK K) (ha : SE t ta fa) (hb : SE t tb fb) : SE t (tOp (rI0 fun i j => .bl (decide (j <= i))) ta tb) (eOp gGe fa fb) := aeZ (by rw [hK]; exact avb) avr ha hb
theorem abV (hK : t.K = nlK K) (ha : SE t ta fa) (hb : SE t tb fb) : SE t (tOp (rIx K) ta tb) (eOp gIx fa fb) := aeZ (by rw [hK]; exact ar5) avt ha hb
theorem ahS (hK : t.K = nlK K) {r r' : R2} {g g' : G2} (o : OpT (nlK K) r g) (o' : OpT (nlK K) r' g') (n : ∀ a b c, g a b ≠ .ex c) (n' : ∀ a b c, g' a b ≠ .ex c) (ha : SE t ta fa) (hb : SE t tb fb) (hc : SE t tc fc) : SE t (ajZ r r' ta tb tc) (agr g g' fa fb fc) := anF (by rw [hK]; exact o) (by rw [hK]; exact o') n n' ha hb hc
theorem asH (ha : SE t ta fa) : SE t (tUn (rU fun i => .int (-i)) ta) (eUn alR fa) := ave aoQ asA ha
variable {tl : TA} {fl : AF}
theorem x_len (hK : t.K = nlK K) (ha : SA t tl fl) : SE t (tCB (apU K) tl) (eCB (g1 abf) fl) := ajf (by rw [hK]; exact aq9 asa) (ahh asB) ha
theorem avv (hK : t.K = nlK K) (ha : SA t tl fl) : SE t (tCB (fun xs H Q => ∃ i, xs = [.int i] /\ Q (.int (if i < 0 then -i else i)) H) tl) (eCB (g1 adb) fl) := ajf (by rw [hK]; exact aq9 asb) (ahh asC) ha
theorem aqa (hK : t.K = nlK K) (ha : SA t tl fl) : SE t (tCB (fun xs H Q => (∃ i, xs = [.int i] /\ Q (.int i) H) \/ ∃ k, xs = [.bl k] /\ Q (.int (if k then 1 else 0)) H) tl) (eCB (g1 ajg) fl) := ajf (by rw [hK]; exact aq9 asd) (ahh asD) ha
theorem al1 (hK : t.K = nlK K) (ha : SA t tl fl) : SE t (tCB (fun xs H Q => ∃ p ys, xs = [.ref p] /\ (SqL K H p ys \/ SqT K H p ys) /\ ∀ l, H l = none -> Q (.ref l) (upd H l (.lst ys))) tl) (eCB (g1 abk) fl) := ajf (by rw [hK]; exact aq9 apV) (ahh ap8) ha
theorem anR (hK : t.K = nlK K) (ha : SA t tl fl) : SE t (tCB (au0 K) tl) (eCB (g1 acq) fl) := ajf (by rw [hK]; exact aq9 asf) (ahh asG) ha
theorem avw (hK : t.K = nlK K) (ha : SA t tl fl) : SE t (tCB (fun xs H Q => ∃ i j, xs = [.int i, .int j] /\ Q (.int (if j < i then j else i)) H) tl) (eCB (g2 ac9) fl) := ajf (by rw [hK]; exact axq ase) (ar9 asF) ha
theorem abr (hK : t.K = nlK K) {cl : Str -> Addr} {n : Nat} {F : FP} {E : XK} (hx : ∀ c H', F0 t H' -> t.EX c -> E (.ref (cl c)) none H') (hn : arb fl n) (ha : SA t tl fl) : SE t (aiq (spP K cl n F) [] E tl) (aat F fl) := akg hK hx hn ha
theorem aa2 (hK : t.K = nlK K) {cl : Str -> Addr} {n : Nat} {F : FP} {E : XK} (hx : ∀ c, ¬ t.EX c) (hn : arb fl n) (ha : SA t tl fl) : SE t (aiq (spP K cl n F) [] E tl) (aat F fl) := akg hK (fun c H' _ q => (hx c q).elim) hn ha
theorem abT (hK : t.K = nlK K) {n r nl : Nat} {b : SF} {E : XK} (hn : arb fl n) (ha : SA t tl fl) : SE t (aiq (spR K n r (fnR nl r b)) [] E tl) (abb r (fnR nl r b) fl) := anN hK (ap4 nl r b) hn ha
theorem anS {te : TE} {f : EF} (i : Nat) (h : SE t te f) : SE t (tBM K "list" aja (akH i) (afl te aoI)) (eMt i akc (aae f aar)) := asl i asp apZ (aad h aak)
theorem aqb (i : Nat) : SE t (auU K "list" alJ (akH i)) (asn i afI) := aso i asq ap0
end
end L2
end
section
set_option exponentiation.threshold 2000
namespace L2
open PySem PySem.Spec PyProof.Rows
noncomputable def fuI (i : Nat) (ρ : En) : Nat := match ρ[i]? with
 | some (.sh (.int n)) => n.natAbs + 1
 | _ => 0
theorem adi {src : List (Option Nat)} {js : List Nat} (h : js.all (fun k => (src[k]?).join.isNone) = true) : ∀ k j : Nat, src[k]? = some (some j) -> k ∉ js := fun k j q m => by
 have := List.all_eq_true.mp h k m
 rw [q] at this
 cases this
abbrev bmV : List Value := [.type "ValueError", .type "Exception", .type "BaseException", .type "object"]
noncomputable def awU : G1
 | .lst ts => .ok (.lst ts.reverse, true)
 | _ => .bad
noncomputable def axw (fa : EF) : EF := fun ρ => (fa ρ).bind fun p => (dr p.2 p.1).bind fun a => (awU a).bind fun z => .ok (.v z.1 z.2, p.2)
end L2
end
section
set_option exponentiation.threshold 2000
namespace L2
open PySem PySem.Spec PyProof.Rows
noncomputable def aqc (i : Int) : TE := fun _ H Q => Q (.int i) H
noncomputable def kI : Const -> Option Int
 | .int i => some i
 | _ => none
noncomputable def bI (o : Operator) (i j : Int) : Option Int := match o with
 | .Sub => some (i - j)
 | .Add => some (i + j)
 | .Pow => if 0 <= j /\ j <= 100 /\ i.natAbs <= 1000 then some (i ^ j.toNat) else none
 | _ => none
noncomputable def uI (o : UnaryOp) (i : Int) : Option Int := match o with
 | .USub => some (-i)
 | _ => none
noncomputable def cI : Expr -> Option Int
 | .Constant c _ _ => kI c
 | .UnaryOp o e _ => (cI e).bind (uI o)
 | .BinOp a o b _ => (cI a).bind fun i => (cI b).bind fun j => bI o i j
 | _ => none
theorem avx {X : Cx} {c : Const} {k : Nat} {p : Pos} {i : Int} (h : kI c = some i) : PE X (.Constant c k p) (aqc i) := by
 cases c <;> first | (cases h; exact aal) | cases h
theorem avy {X : Cx} {o : UnaryOp} {e : Expr} {p : Pos} {i k : Int} (h : uI o i = some k) (he : PE X e (aqc i)) : PE X (.UnaryOp o e p) (aqc k) := by
 cases o <;> first | (cases h; exact (ank ajY he).imp fun σ H Q q => ⟨i, rfl, q⟩) | cases h
theorem avz {X : Cx} {o : Operator} {a b : Expr} {p : Pos} {i j k : Int} (h : bI o i j = some k) (ha : PE X a (aqc i)) (hb : PE X b (aqc j)) : PE X (.BinOp a o b p) (aqc k) := by
 cases o <;> try cases h
 ·exact (aaU aoH ha hb).imp fun σ H Q q => ⟨i, j, rfl, rfl, q⟩
 ·exact (aaU aeV ha hb).imp fun σ H Q q => ⟨i, j, rfl, rfl, q⟩
 ·dsimp only [bI] at h
  split at h
  ·rename_i c
   cases h
   have z : (2 : Nat) ^ 64 = 18446744073709551616 := by decide
   exact (aaU aha ha hb).imp fun σ H Q q => ⟨i, j, rfl, rfl, ⟨c.1, by omega, by omega⟩, q⟩
  ·cases h
theorem anT {X : Cx} (e : Expr) (k : Int) (h : cI e = some k) : PE X e (aqc k) := by
 cases e with
 | Constant c _ _ => exact avx h
 | UnaryOp o a _ =>
  have h : (cI a).bind (uI o) = some k := h
  cases e1 : cI a with
  | none => rw [e1] at h; cases h
  | some i => rw [e1] at h; exact avy h (anT a i e1)
 | BinOp a o b _ =>
  have h : ((cI a).bind fun i => (cI b).bind fun j => bI o i j) = some k := h
  cases e1 : cI a with
  | none => rw [e1] at h; cases h
  | some i =>
   cases e2 : cI b with
   | none => rw [e1, e2] at h; cases h
   | some j => rw [e1, e2] at h; exact avz h (anT a i e1) (anT b j e2)
 | _ => cases h
noncomputable def kT : Const -> Option Tr
 | .none => some .non
 | .bool b => some (.bl b)
 | .str x => some (.str x)
 | .int i => some (.int i)
 | _ => none
mutual
noncomputable def cT : Expr -> Option Tr
 | .Constant c _ _ => kT c
 | .Tuple es _ _ => (cTs es).map .tup
 | .List es _ => (cTs es).map .lst
 | .UnaryOp o a p => (cI (.UnaryOp o a p)).map .int
 | .BinOp a o b p => (cI (.BinOp a o b p)).map .int
 | _ => none
noncomputable def cTs : List Expr -> Option (List Tr)
 | [] => some []
 | e :: r => match cT e, cTs r with
  | some T, some Ts => if Ts.length < 1000 then some (T :: Ts) else none
  | _, _ => none
end
theorem ahT : ∀ {es : List Expr} {Ts : List Tr}, cTs es = some Ts -> Ts.length <= 1000
 | [], Ts, h => by
  unfold cTs at h
  cases h
  decide
 | e :: r, Ts, h => by
  unfold cTs at h
  split at h
  ·split at h
   ·cases h
    rename_i h1
    rw [List.length_cons]
    omega
   ·cases h
  ·cases h
section
variable {X : Cx} {e : Expr} {es : List Expr} {T : Tr} {Ts : List Tr} {pos : Pos} {k : Nat} {G : PySem.W.Frag}
theorem anU : PA X [] (aq8 G []) := aaj.imp fun σ H Q q => q [] H (Same.refl _) fun _ _ => .nil
theorem al2 (h : PE X e (tEv G T)) (r : PA X es (aq8 G Ts)) (hs : starEach (e :: es) X.env = (false, eval e X.env) :: starEach es X.env) : PA X (e :: es) (aq8 G (T :: Ts)) :=
 (acY h r hs).imp fun σ H Q q v H1 s1 rv vs H2 s2 rs => q (v :: vs) H2 (s1.trans s2) fun Pr p => .cons ((rv Pr p).mono (p.mono s2)) (rs Pr (p.le s1))
theorem akk (h : PA X es (aq8 G Ts)) (hl : Ts.length <= 1000) : PE X (.Tuple es k pos) (tEv G (.tup Ts)) :=
 (aeD h).imp fun σ H Q q vs H1 s1 rs => by
  by_cases hv : vs.length <= sizeLine
  ·exact ⟨hv, fun a ha => q (.ref a) _ (s1.trans (aaO ha _)) fun Pr p => .tup (SqT.of ((p.le s1).new (Same.refl _) ha)) ((rs Pr p).mono (p.mono (aaO ha _)))⟩
  ·exact absurd (Nat.le_of_lt (agk (by rw [(rs _ (Pj.id H)).length]; exact hl))) hv
theorem aiF (h : PA X es (aq8 G Ts)) (hl : Ts.length <= 1000) : PE X (.List es pos) (auu G Ts) :=
 (ade h).imp fun σ H Q q vs H1 s1 rs => by
  have e := (rs _ (Pj.id H)).length
  exact ⟨Nat.le_of_lt (agk (by rw [e]; exact hl)), fun a ha => q a vs H1 s1 ha rs e⟩
theorem anV (h : PE X e (auu G Ts)) : PE X e (tEv G (.lst Ts)) :=
 h.imp fun σ H Q q a xs H1 s1 ha rs _ => q (.ref a) _ (s1.trans (aaO ha _)) fun Pr p => .lst (SqL.of ((p.le s1).new (Same.refl _) ha)) ((rs Pr p).mono (p.mono (aaO ha _)))
theorem aoZ (h : (cI e).map Tr.int = some T) : PE X e (tEv G T) := by
 cases e1 : cI e with
 | none => rw [e1] at h; cases h
 | some i =>
  rw [e1] at h; cases h
  exact (anT e i e1).imp fun σ H Q q => q _ H (Same.refl _) fun _ _ => .int i
end
theorem aqd {e : Expr} {es : List Expr} {env : Env} {T : Tr} (h : cT e = some T) : starEach (e :: es) env = (false, eval e env) :: starEach es env := by
 cases e <;> first | rfl | (unfold cT at h; cases h)
theorem avA {X : Cx} {G : PySem.W.Frag} {c : Const} {k : Nat} {p : Pos} {T : Tr} (h : kT c = some T) : PE X (.Constant c k p) (tEv G T) := by
 cases c <;> try cases h
 ·exact arn.imp fun σ H Q q => q _ H (Same.refl _) fun _ _ => .non
 ·exact aeR.imp fun σ H Q q => q _ H (Same.refl _) fun _ _ => .bl _
 ·exact aal.imp fun σ H Q q => q _ H (Same.refl _) fun _ _ => .int _
 ·exact acA.imp fun σ H Q q => q _ H (Same.refl _) fun _ _ => .str _
mutual
theorem avB {X : Cx} {G : PySem.W.Frag} (e : Expr) (T : Tr) (h : cT e = some T) : PE X e (tEv G T) := by
 cases e with
 | Constant c _ _ => exact avA (by unfold cT at h; exact h)
 | Tuple es _ _ =>
  unfold cT at h
  cases e : cTs es with
  | none => rw [e] at h; cases h
  | some Ts =>
   rw [e] at h
   cases h
   exact akk (al3 es Ts e) (ahT e)
 | List es _ =>
  unfold cT at h
  cases e : cTs es with
  | none => rw [e] at h; cases h
  | some Ts =>
   rw [e] at h
   cases h
   exact anV (aiF (al3 es Ts e) (ahT e))
 | UnaryOp o a p => exact aoZ (by unfold cT at h; exact h)
 | BinOp a o b p => exact aoZ (by unfold cT at h; exact h)
 | _ => unfold cT at h; cases h
theorem al3 {X : Cx} {G : PySem.W.Frag} : ∀ (es : List Expr) (Ts : List Tr), cTs es = some Ts -> PA X es (aq8 G Ts)
 | [], Ts, h => by
  unfold cTs at h; cases h
  exact anU
 | e :: r, Ts, h => by
  unfold cTs at h
  cases e1 : cT e with
  | none => rw [e1] at h; cases h
  | some T =>
   cases e2 : cTs r with
   | none => rw [e1, e2] at h; cases h
   | some Us =>
    rw [e1, e2] at h
    dsimp only at h
    split at h
    ·cases h
     exact al2 (avB e T e1) (al3 r Us e2) (aqd e1)
    ·cases h
end
theorem asI {X : Cx} {G : PySem.W.Frag} {es : List Expr} {pos : Pos} {Ts : List Tr} (h : cTs es = some Ts) : PE X (.List es pos) (auu G Ts) := aiF (al3 es Ts h) (ahT h)
theorem ahU {X : Cx} {G : PySem.W.Frag} {es : List Expr} {k : Nat} {pos : Pos} {Ts : List Tr} (h : cTs es = some Ts) : PE X (.Tuple es k pos) (tEv G (.tup Ts)) := akk (al3 es Ts h) (ahT h)
end L2
end
section
set_option exponentiation.threshold 2000
namespace L2
open PySem PySem.Spec PyProof.Rows
theorem Pj.aaY {W : Addr -> Prop} {H : Hp} (hw : ∀ b, W b -> H b ≠ none) : Pj (L2.aaY W) H where
 mono := fun s => (Stp.of s).off
 sub := fun H => abq W H
 new := fun {H' r o} s h => by
  rw [aaX fun w => hw r w (s.free h)]
  exact aa9
noncomputable def eCL (Ts : List Tr) : EF := fun ρ => .ok (.v (.lst Ts) true, ρ)
theorem anW {t : Tx} {K : PySem.W.Frag} (hK : t.K = nlK K) {T : Tr} : SE t (tEv (nlK K) T) (eC T) := fun W ρ σ H Q e h => fun v H' s r => by
 rw [<-hK] at r
 exact h v H' (e.grow s) (Stp.of s) (.low (r _ (Pj.aaY e.wn)))
theorem asJ {t : Tx} {K : PySem.W.Frag} (hK : t.K = nlK K) {Ts : List Tr} : SE t (auu (nlK K) Ts) (eCL Ts) := fun W ρ σ H Q e h => fun a xs H1 s ha r _ => by
 rw [<-hK] at r
 have e1 := e.grow s
 exact h _ _ (e1.grow (aaO ha _)) ((Stp.of s).trans (Stp.of (aaO ha _))) ((VOE.of (σ' := σ) e1 (aaO ha _) (VOk.new ha (r _ (Pj.aaY e.wn)))).back fun b q => s.free q)
end L2
end
section
set_option exponentiation.threshold 2000
namespace L2
open PySem PySem.Spec PyProof.Rows
noncomputable def agw : Expr -> Bool
 | .ListComp .. => false
 | .SetComp .. => false
 | .DictComp .. => false
 | _ => true
theorem ahV {e : Expr} {t : Option Expr} {l : Nat} {env : Env} (h : agw e = true) : swapsWith e t l env = pure false := by
 cases e <;> first | rfl | (unfold agw at h; cases h)
section
variable {X : Cx} {x : Str} {e : Expr} {es : List Expr} {te : TE} {ta : TA} {pos pos' p : Pos} {k : Nat} {ps : List Str} {sp : Sp} {E : XK}
theorem pvL (i : Nat) (hN : X.N[i]? = some x := by kernel_rfl) (hv : X.env.scope.names.lookup x = some .local := by kernel_rfl) (hd : (x == ("__debug__" : Str)) = false := by kernel_rfl) (hc : (x == ("__classdict__" : Str)) = false := by kernel_rfl) : PE X (.Name x pos) (akH i) := alw hN (.inl hv) hd hc
theorem pvC (i : Nat) (hN : X.N[i]? = some x := by kernel_rfl) (hv : X.env.scope.names.lookup x = some .cell := by kernel_rfl) (hd : (x == ("__debug__" : Str)) = false := by kernel_rfl) (hc : (x == ("__classdict__" : Str)) = false := by kernel_rfl) : PE X (.Name x pos) (akH i) := alw hN (.inr (.inl hv)) hd hc
theorem pvF (i : Nat) (hN : X.N[i]? = some x := by kernel_rfl) (hv : X.env.scope.names.lookup x = some .free := by kernel_rfl) (hd : (x == ("__debug__" : Str)) = false := by kernel_rfl) (hc : (x == ("__classdict__" : Str)) = false := by kernel_rfl) : PE X (.Name x pos) (akH i) := alw hN (.inr (.inr hv)) hd hc
theorem psL (i : Nat) (hN : X.N.Nodup) (he : PE X e te) (hi : X.N[i]? = some x := by kernel_rfl) (hx : X.env.scope.names.lookup x = some .local := by kernel_rfl) (h : agw e = true := by kernel_rfl) : PS X (.Assign [.Name x pos'] e pos) (aps te (acX i)) := aoF hN hi (.inl hx) he (ahV h) (.inr hx)
theorem psC (i : Nat) (hN : X.N.Nodup) (hf : X.fn x = true) (he : PE X e te) (hi : X.N[i]? = some x := by kernel_rfl) (hx : X.env.scope.names.lookup x = some .cell := by kernel_rfl) (h : agw e = true := by kernel_rfl) : PS X (.Assign [.Name x pos'] e pos) (aps te (acX i)) := aoF hN hi (.inr hx) he (ahV h) (.inl hf)
theorem ae7 {K : PySem.W.Frag} (ha : PE X e te) (hK : X.K = K) (he : ∀ whole, isTrue e X.env whole = (do let v <-whole; standAt e.pos; holding [v] (truthy v))) : PT X e (fun σ H Q => te σ H fun x H' => ∃ k, arx K x H' k /\ Q k H') := hK ▸ abH ha he
theorem psE (he : PE X e te) (h : agw e = true := by kernel_rfl) : PS X (.Expr e pos) (apq te) := apr he (ahV h)
theorem pgL (i : Nat) (hN : X.N.Nodup) (hi : X.N[i]? = some x := by kernel_rfl) (hx : X.env.scope.names.lookup x = some .local := by kernel_rfl) : PG X (.Name x pos) (acX i) := alx hN hi (.inl hx) (.inr hx)
theorem pgC (i : Nat) (hN : X.N.Nodup) (hf : X.fn x = true) (hi : X.N[i]? = some x := by kernel_rfl) (hx : X.env.scope.names.lookup x = some .cell := by kernel_rfl) : PG X (.Name x pos) (acX i) := alx hN hi (.inr hx) (.inl hf)
theorem pcF (D : DfX X.prog X.w X.K X.mg X.base k x ps sp) (hr : afN k X.A) (hx : Passes (CXF X.prog X.w) X E) (ha : PA X (e :: es) ta) (hg : X.env.kindOf x = some .globalImplicit := by kernel_rfl) (hdb : (x == ("__debug__" : Str)) = false := by kernel_rfl)
  (he : notStar e = true := by kernel_rfl) (hpl : (backTo pos (starEach es X.env)).any (·.1) = false := by kernel_rfl) : PE X (.Call (.Name x p) (e :: es) [] pos) (aiq sp [] E ta) := anM D hr hx ha hg hdb (ad3 he) hpl
theorem pcB {r : List V -> Hp -> VK -> Prop} {id : String} (hc : adD X (.builtin id) r) (hm : X.mg x = none) (ha : PA X (e :: es) ta) (hv : bootBuiltins x = some (.builtin id) := by decide +kernel) (hg : X.env.kindOf x = some .globalImplicit := by kernel_rfl) (hn : x ≠ "__name__" := by decide +kernel) (hdb : (x == ("__debug__" : Str)) = false := by kernel_rfl)
  (he : notStar e = true := by kernel_rfl) (hpl : (backTo pos (starEach es X.env)).any (·.1) = false := by kernel_rfl) : PE X (.Call (.Name x p) (e :: es) [] pos) (tCB r ta) := aj4 hc hg hm hv ha hn hdb (ad3 he) hpl
theorem ard {r : List V -> Hp -> VK -> Prop} {T : String} (hc : adD X (.type T) r) (hm : X.mg x = none) (ha : PA X (e :: es) ta) (hv : bootBuiltins x = some (.type T) := by decide +kernel) (hg : X.env.kindOf x = some .globalImplicit := by kernel_rfl) (hn : x ≠ "__name__" := by decide +kernel) (hdb : (x == ("__debug__" : Str)) = false := by kernel_rfl)
  (he : notStar e = true := by kernel_rfl) (hpl : (backTo pos (starEach es X.env)).any (·.1) = false := by kernel_rfl) : PE X (.Call (.Name x p) (e :: es) [] pos) (tCB r ta) := alE hc hg hm hv ha hn hdb (ad3 he) hpl
theorem pcI (c : Ty) {q : Pos} (he : PE X e te) (h1 : X.mg "isinstance" = none) (h2 : X.mg x = none) (hb : bootBuiltins x = some (.type c.name) := by decide +kernel) (hg1 : X.env.kindOf "isinstance" = some .globalImplicit := by kernel_rfl) (hg2 : X.env.kindOf x = some .globalImplicit := by kernel_rfl) (hn : x ≠ "__name__" := by decide +kernel) (hd : (x == ("__debug__" : Str)) = false := by kernel_rfl)
  (hs : notStar e = true := by kernel_rfl) : PE X (.Call (.Name "isinstance" p) [e, .Name x q] [] pos) (tCB (aut X.K) (afl te (afl (tC (.ty c.name)) aoI))) := arP c he h1 h2 hb hg1 hg2 hn hd (ad3 hs)
theorem paK {t : TA} (ha : PE X e te) (hr : PA X es t) (h : notStar e = true := by kernel_rfl) : PA X (e :: es) (afl te t) := acY ha hr (ad3 h)
theorem pGk {v : V} {T : Tr} (h : Gk X.K X.mg x v T) (hg : X.env.kindOf x = some .globalImplicit := by kernel_rfl) (hd : (x == ("__debug__" : Str)) = false := by kernel_rfl) : PE X (.Name x pos) (tC v) := avu h hg hd
theorem piR {a tg : Expr} (hm : X.mg "range" = none) (ha : PA X [a] ta) (hg : X.env.kindOf "range" = some .globalImplicit := by kernel_rfl) (hs : notStar a = true := by kernel_rfl) : PI X tg (.Call (.Name "range" p) [a] [] pos) (apv ta) := alA hg hm ha (ad3 hs)
end
end L2
end
section
set_option exponentiation.threshold 2000
namespace L2
open PySem PySem.Spec PyProof.Rows
section
variable {t : Tx} {W : Addr -> Prop} {ρ : En} {σ : St} {H : Hp}
noncomputable def acQ (ρ : En) (i : Nat) : Rs (List Tr) := match ρ[i]? with
 | some (.dp ts) => .ok ts
 | _ => .bad
end
end L2
end
section
set_option exponentiation.threshold 2000
namespace L2
open PySem PySem.Spec PyProof.Rows
noncomputable abbrev QF := En -> Rs Tr
section
variable {t : Tx} {K : PySem.W.Frag}
noncomputable def axx (i : Nat) : QF := fun ρ => match ρ[i]? with
 | some (.sh T) => .ok T
 | _ => .bad
noncomputable def qC (T : Tr) : QF := fun _ => .ok T
noncomputable def ixT (ts : List Tr) (k : Tr) : Rs (Nat × Tr) := match k with
 | .int i => (match ixN ts.length i with
  | some j => (match ts[j]? with
   | some u => .ok (j, u)
   | none => .bad)
  | none => .bad)
 | _ => .bad
noncomputable def axy (i : Nat) (fk fj : QF) : QF := fun ρ => (acQ ρ i).bind fun ts => (fk ρ).bind fun k => (ixT ts k).bind fun z => match z.2 with
 | .lst us => (fj ρ).bind fun j => (ixT us j).bind fun y => .ok y.2
 | _ => .bad
noncomputable def axz (i : Nat) (fk : QF) (m : GM) (fa : QF) : SF := fun ρ => (acQ ρ i).bind fun ts => (abN (fk ρ)).bind fun k => (ixT ts k).bind fun z => match z.2 with
 | .lst us => (abN (fa ρ)).bind fun T => (m us [T]).bind fun y => .ok (.nx, ρ.set i (.dp (ts.set z.1 (.lst y.1))))
 | _ => .bad
noncomputable def avC (i : Nat) (fk fj : QF) (fe : EF) : SF := fun ρ => (fe ρ).bind fun p => (clV p.1).bind fun T => (acQ p.2 i).bind fun ts => (abN (fk p.2)).bind fun k => (ixT ts k).bind fun z => match z.2 with
 | .lst us => (abN (fj p.2)).bind fun j => (ixT us j).bind fun y => .ok (.nx, p.2.set i (.dp (ts.set z.1 (.lst (us.set y.1 T)))))
 | _ => .bad
noncomputable def dow (i : Nat) (ρ : En) : En := match ρ[i]? with
 | some (.dp ts) => ρ.set i (.ow ts)
 | _ => ρ
noncomputable def axA (i : Nat) (f : SF) : SF := fun ρ => f (dow i ρ)
end
end L2
end
section
set_option exponentiation.threshold 2000
namespace L2
open PySem PySem.Spec PyProof.Rows
section
variable {t : Tx} {src : List (Option Nat)} {ρ1 : En} {σ : St} {F : Nat -> List Addr} {H1 P : Hp} {D : Addr} {W : Addr -> Prop}
end
end L2
end
section
set_option exponentiation.threshold 2000
namespace L2
open PySem PySem.Spec PyProof.Rows
noncomputable def adk : Rv -> Rs Tr
 | .v (.lst us) true => .ok (.lst us)
 | _ => .bad
noncomputable def anY (g : GF) (c : BF) (f : EF) : List Tr -> En -> Rs (List Tr × En)
 | [], ρ => .ok ([], ρ)
 | u :: us, ρ => (g u ρ).bind fun ρ1 => (c ρ1).bind fun b => if b.1 = true then (f b.2).bind fun p => (adk p.1).bind fun T => (anY g c f us p.2).bind fun z => .ok (T :: z.1, z.2) else anY g c f us b.2
noncomputable def asK (i : Nat) (src : List (Option Nat)) (fi : IF) (g : GF) (c : BF) (f : EF) : SF := fun ρ => (fi ρ).bind fun p => if p.1.length <= 100000 then (abN (anY g c f p.1 (ab5 src p.2))).bind fun z => if acf src z.2 p.2 = true then .ok (.nx, (abE src z.2 p.2).set i (.dp z.1)) else .bad else .bad
end L2
end
section
namespace L2
open PySem PySem.Spec PyProof.Rows
variable {t : Tx}
noncomputable def ao0 (us vs : List Tr) : List Tr := (us.zip vs).map fun p => .tup [p.1, p.2]
theorem asL {K : PySem.W.Frag} {W : Addr -> Prop} {H : Hp} {a b : Addr} {xs ys : List V} {us vs : List Tr} (q1 : SqL (nlK K) (aaY W H) a xs) (r1 : aa1 (nlK K) (aaY W H) xs us) (q2 : SqL (nlK K) (aaY W H) b ys) (r2 : aa1 (nlK K) (aaY W H) ys vs) : apW (nlK K) W H (Itz K a b) (ao0 us vs) := fun W' H' m hw i => by
 have q1' : SqL K H' a xs := ((abq W' H').seq (m.seq q1)).toK
 have q2' : SqL K H' b ys := ((abq W' H').seq (m.seq q2)).toK
 refine ⟨fun z => ⟨xs, ys, q1', q2', by rw [r1.length, r2.length, z]; simp [ao0]⟩, fun u hu => ?_⟩
 unfold ao0 at hu
 rw [List.getElem?_map] at hu
 obtain ⟨p, hp, rfl⟩ := Option.map_eq_some_iff.mp hu
 obtain ⟨h1, h2⟩ := List.getElem?_zip_eq_some.mp hp
 obtain ⟨x, hx, rx⟩ := r1.anf h1
 obtain ⟨y, hy, ry⟩ := r2.anf h2
 refine ⟨⟨xs, ys, x, y, q1', q2', hx, hy⟩, fun v H'' yl => ?_⟩
 obtain ⟨T, x', y', rfl, fT, rfl, z⟩ := yl
 obtain ⟨z1, z2⟩ := z xs ys q1' q2'
 rw [hx] at z1
 rw [hy] at z2
 cases z1
 cases z2
 have nW : ¬ W' T := fun w => (hw T w).ne fT
 have sm : Same H' (upd H' T (.tup [x, y])) := aaO fT _
 have so : Same (aaY W' H') (aaY W' (upd H' T (.tup [x, y]))) := fun b u q => (af7 (o := .tup [x, y]) fT b u q |> fun z => (ahF _ _ b u z))
 refine ⟨sm, .tup (xs := [x, y]) (.inl (.inl ?_)) (.cons ((rx.mono m).mono so) (.cons ((ry.mono m).mono so) .nil))⟩
 unfold aaY
 rw [if_neg nW, aa9]
noncomputable def asM (fa : AF) : IF := fun ρ => (fa ρ).bind fun p => match p.1 with
 | [.v (.lst us) _, .v (.lst vs) _] => .ok (ao0 us vs, p.2)
 | _ => .bad
theorem asN {K : PySem.W.Frag} (hK : t.K = nlK K) {ta : TA} {fa : AF} (ha : SA t ta fa) : SI t (awR K ta) (asM fa) := fun W ρ σ H R e h => by
 refine ha W ρ σ H _ e (Rs.aai (Rs.aaf h) fun p h vs H1 e1 s1 v1 => ?_)
 split at h
 ·rename_i us _ ws _ ep
  rw [ep] at v1
  cases v1 with
  | cons h1 r1 =>
   cases r1 with
   | cons h2 r2 =>
    cases r2
    have h1 := h1.rep e.wn
    have h2 := h2.rep e.wn
    rw [hK] at h1 h2
    cases h1 with
    | lst q1 p1 =>
     cases h2 with
     | lst q2 p2 =>
      refine ⟨_, _, rfl, ⟨_, ((abq _ _).seq q1).toK⟩, ⟨_, ((abq _ _).seq q2).toK⟩, h _ H1 e1 s1 ?_⟩
      rw [hK]
      exact asL q1 p1 q2 p2
 ·exact h.elim
end L2
end
section
namespace L2
open PySem PySem.Spec PyProof.Rows
section
variable {K : PySem.W.Frag}
end
end L2
end
section
namespace L2
open PySem PySem.Spec PyProof.Rows
section
variable {kf : Value -> Int × Int}
noncomputable def q1 (kf : Value -> Int × Int) (xs : Array Keyed) (i : Nat) : Int := match xs[i]? with | some p => (kf p.1).1 | none => 0
noncomputable def q2 (kf : Value -> Int × Int) (xs : Array Keyed) (i : Nat) : Int := match xs[i]? with | some p => (kf p.1).2 | none => 0
noncomputable def qr (xs : Array Keyed) (i : Nat) : Int := match xs[i]? with | some p => numOf p.2 | none => 0
noncomputable def Kl (kf : Value -> Int × Int) (xs : Array Keyed) (i j : Nat) : Prop := q1 kf xs i < q1 kf xs j \/ (q1 kf xs i = q1 kf xs j /\ q2 kf xs i < q2 kf xs j)
noncomputable instance {kf : Value -> Int × Int} {xs : Array Keyed} {i j : Nat} : Decidable (Kl kf xs i j) := by unfold Kl; infer_instance
noncomputable def Ke (kf : Value -> Int × Int) (xs : Array Keyed) (i j : Nat) : Prop := q1 kf xs i = q1 kf xs j /\ q2 kf xs i = q2 kf xs j
noncomputable def Lq (kf : Value -> Int × Int) (xs : Array Keyed) (i j : Nat) : Prop := Kl kf xs i j \/ (Ke kf xs i j /\ qr xs i < qr xs j)
noncomputable def Sta (kf : Value -> Int × Int) (xs : Array Keyed) (m : Nat) : Prop := ∀ i j, i < j -> j < m -> Lq kf xs i j
noncomputable def Dsc (kf : Value -> Int × Int) (xs : Array Keyed) (m : Nat) : Prop := ∀ i j, i < j -> j < m -> Lq kf xs j i
noncomputable def Des (kf : Value -> Int × Int) (xs : Array Keyed) (m q : Nat) : Prop := (∀ i j, i < j -> j < m -> i < q -> Lq kf xs j i /\ (q <= j -> Kl kf xs j i)) /\ ∀ i j, q <= i -> i < j -> j < m -> Ke kf xs i j /\ qr xs i < qr xs j
noncomputable def Pre (N : Nat) (xs : Array Keyed) (m : Nat) : Prop := (∀ k : Nat, k < m -> qr xs k < m) /\ ∀ k : Nat, m <= k -> k < N -> qr xs k = k
theorem anZ {xs ys : Array Keyed} {i j : Nat} (h : xs[i]? = ys[j]?) : qr xs i = qr ys j := by unfold qr; rw [h]
theorem auz {xs ys : Array Keyed} {i j : Nat} (h : xs[i]? = ys[j]?) : q1 kf xs i = q1 kf ys j := by unfold q1; rw [h]
theorem auA {xs ys : Array Keyed} {i j : Nat} (h : xs[i]? = ys[j]?) : q2 kf xs i = q2 kf ys j := by unfold q2; rw [h]
theorem mir {xs : Array Keyed} {i j : Nat} (hj : j <= xs.size) (k : Nat) : (i <= k /\ k < j /\ (mirror xs i j ((j - i) / 2))[k]? = xs[i + j - 1 - k]?) \/ (¬ (i <= k /\ k < j) /\ (mirror xs i j ((j - i) / 2))[k]? = xs[k]?) := by
 have e := getElem?_mirror_all (i := i) hj k
 by_cases h : i <= k /\ k < j
 ·rw [if_pos h] at e; exact .inl ⟨h.1, h.2, e⟩
 ·rw [if_neg h] at e; exact .inr ⟨h, e⟩
theorem an0 {xs ys : Array Keyed} {i j i' j' : Nat} (h1 : xs[i]? = ys[i']?) (h2 : xs[j]? = ys[j']?) : Lq kf xs i j ↔ Lq kf ys i' j' := by
 unfold Lq Kl Ke; rw [anZ h1, anZ h2, auz h1, auz h2, auA h1, auA h2]
theorem auB {xs ys : Array Keyed} {i j i' j' : Nat} (h1 : xs[i]? = ys[i']?) (h2 : xs[j]? = ys[j']?) : Kl kf xs i j ↔ Kl kf ys i' j' := by
 unfold Kl; rw [auz h1, auz h2, auA h1, auA h2]
theorem Kl.tr {xs : Array Keyed} {i j k : Nat} (a : Kl kf xs i j) (b : Kl kf xs j k) : Kl kf xs i k := by
 unfold Kl at *
 generalize q1 kf xs i = a1, q2 kf xs i = a2, q1 kf xs j = b1, q2 kf xs j = b2, q1 kf xs k = c1, q2 kf xs k = c2 at *
 omega
theorem Kl.no {xs : Array Keyed} {i j : Nat} (a : ¬ Kl kf xs i j) (b : ¬ Kl kf xs j i) : Ke kf xs i j := by
 unfold Kl at *
 unfold Ke
 generalize q1 kf xs i = a1, q2 kf xs i = a2, q1 kf xs j = b1, q2 kf xs j = b2 at *
 omega
theorem Ke.s {xs : Array Keyed} {i j : Nat} (a : Ke kf xs i j) : Ke kf xs j i := ⟨a.1.symm, a.2.symm⟩
theorem Ke.t {xs : Array Keyed} {i j k : Nat} (a : Ke kf xs i j) (b : Ke kf xs j k) : Ke kf xs i k := ⟨a.1.trans b.1, a.2.trans b.2⟩
theorem Ke.l {xs : Array Keyed} {i j k : Nat} (a : Ke kf xs i j) (b : Kl kf xs j k) : Kl kf xs i k := by
 unfold Kl at *
 rw [a.1, a.2]
 exact b
theorem Ke.r {xs : Array Keyed} {i j k : Nat} (a : Kl kf xs i j) (b : Ke kf xs j k) : Kl kf xs i k := by
 unfold Kl at *
 rw [<-b.1, <-b.2]
 exact a
theorem Kl.tq {xs : Array Keyed} {i j k : Nat} (a : Kl kf xs i j) (b : Lq kf xs j k) : Kl kf xs i k := b.elim a.tr fun z => Ke.r a z.1
theorem Kl.qt {xs : Array Keyed} {i j k : Nat} (a : Lq kf xs i j) (b : Kl kf xs j k) : Kl kf xs i k := a.elim (fun z => z.tr b) fun z => z.1.l b
theorem Lq.mk {xs : Array Keyed} {i j : Nat} (a : ¬ Kl kf xs j i) (b : qr xs i < qr xs j) : Lq kf xs i j := by
 by_cases h : Kl kf xs i j
 ·exact .inl h
 ·exact .inr ⟨Kl.no h a, b⟩
theorem Pre.mir {N : Nat} {xs : Array Keyed} {m i j : Nat} (h : Pre N xs m) (hj : j <= xs.size) (hm : j <= m) : Pre N (mirror xs i j ((j - i) / 2)) m := by
 refine ⟨fun k hk => ?_, fun k hk hN => ?_⟩
 ·rcases L2.mir hj k with ⟨a, b, e⟩ | ⟨n, e⟩
  ·rw [anZ e]; exact h.1 _ (by omega)
  ·rw [anZ e]; exact h.1 _ hk
 ·rcases L2.mir hj k with ⟨a, b, e⟩ | ⟨n, e⟩
  ·omega
  ·rw [anZ e]; exact h.2 _ hk hN
theorem Dsc.turn {xs : Array Keyed} {m : Nat} (h : Dsc kf xs m) (hm : m <= xs.size) : Sta kf (mirror xs 0 m ((m - 0) / 2)) m := fun i j hij hj => by
 rcases mir (i := 0) hm i with ⟨_, _, e1⟩ | ⟨n, _⟩
 ·rcases mir (i := 0) hm j with ⟨_, _, e2⟩ | ⟨n, _⟩
  ·rw [an0 e1 e2]; exact h _ _ (by omega) (by omega)
  ·omega
 ·omega
theorem Des.turn {xs : Array Keyed} {m q : Nat} (h : Des kf xs m q) (hm : m <= xs.size) (hq : q < m) : Dsc kf (mirror xs q m ((m - q) / 2)) m := fun i j hij hj => by
 rcases mir (i := q) hm i with ⟨a, b, e1⟩ | ⟨n, e1⟩ <;> rcases mir (i := q) hm j with ⟨a', b', e2⟩ | ⟨n', e2⟩
 ·rw [an0 e2 e1]
  have z := h.2 (q + m - 1 - j) (q + m - 1 - i) (by omega) (by omega) (by omega)
  exact .inr z
 ·omega
 ·rw [an0 e2 e1]
  exact (h.1 i (q + m - 1 - j) (by omega) (by omega) (by omega)).1
 ·rw [an0 e2 e1]
  exact (h.1 i j hij hj (by omega)).1
theorem Des.one {xs : Array Keyed} {m q : Nat} (h : Des kf xs m q) (hq : m <= q + 1) : Dsc kf xs m := fun i j hij hj => (h.1 i j hij hj (by omega)).1
end
section
variable {prog : Program} {w : World} {A : Around} {E : Value -> Shared -> Prop} {s : Shared} {N : Nat} {kd : SortKind} {kf : Value -> Int × Int}
structure SB (a₀ : Array Keyed) (kd : SortKind) (st : SortSt) : Prop where
 pm : (arrOf st).Perm a₀
 kn : kindOf st = kd
 fl : failedOf st = none
 pd : pendingOf st = #[]
theorem SB.sz {a₀ : Array Keyed} {st : SortSt} (h : SB a₀ kd st) : (arrOf st).size = a₀.size := h.pm.size_eq
theorem SB.put {a₀ : Array Keyed} {st : SortSt} (h : SB a₀ kd st) {xs : Array Keyed} (p : xs.Perm (arrOf st)) : SB a₀ kd (setArr st xs) := ⟨p.trans h.pm, h.kn, h.fl, h.pd⟩
noncomputable def Asks (prog : Program) (w : World) (A : Around) (E : Value -> Shared -> Prop) (s : Shared) (a₀ : Array Keyed) (kd : SortKind) (kf : Value -> Int × Int) : Prop :=
 ∀ (st : SortSt) (i j : Nat) (Q : Option Bool -> SortSt -> Prop), SB a₀ kd st -> i < a₀.size -> j < a₀.size -> Q (some (decide (Kl kf (arrOf st) i j))) st -> wpS (model prog w) A E s (ltAt' i j) Q st
variable {a₀ : Array Keyed} (ask : Asks prog w A E s a₀ kd kf)
include ask
theorem ao1 {st : SortSt} {a n : Nat} {Q : AscSt -> SortSt -> Prop} (hn : n <= a₀.size) (ha : 1 <= a) (han : a <= n) (B : SB a₀ kd st) (p : Pre a₀.size (arrOf st) a) (h0 : Sta kf (arrOf st) a)
  (h : ∀ m, a <= m -> m <= n -> Sta kf (arrOf st) m -> Pre a₀.size (arrOf st) m -> (m = n \/ (m < n /\ Kl kf (arrOf st) m (m - 1))) -> Q (none, m) st) : wpS (model prog w) A E s (ascLoop a n) Q st := by
 unfold ascLoop
 have up : ∀ x, a <= x -> x <= n -> Pre a₀.size (arrOf st) x := fun x h1 h2 => ⟨fun k hk => by
  by_cases z : k < a
  ·have := p.1 k z; omega
  ·rw [p.2 k (by omega) (by omega)]; omega, fun k h3 h4 => p.2 k (by omega) h4⟩
 refine wpS_forRange (I := fun x c t => t = st /\ c = (none, x) /\ x <= n /\ Sta kf (arrOf st) x) ?_ ?_ ⟨rfl, rfl, han, h0⟩
 ·rintro x c t h1 h2 ⟨rfl, rfl, _, hs⟩
  refine wpS_bind (ask _ _ _ _ B (by omega) (by omega) ?_)
  by_cases l : Kl kf (arrOf t) x (x - 1)
  ·rw [decide_eq_true l]
   exact wpS_pure (h x h1 (by omega) hs (up x h1 (by omega)) (.inr ⟨h2, l⟩))
  ·rw [decide_eq_false l]
   refine wpS_pure ⟨rfl, rfl, h2, fun i j hij hj => ?_⟩
   by_cases z : j < x
   ·exact hs i j hij z
   ·have ej : j = x := by omega
    subst ej
    have r1 := (up j h1 (by omega)).1 i hij
    have r2 := (up j h1 (by omega)).2 j (Nat.le_refl _) (by omega)
    by_cases z : i = j - 1
    ·subst z
     exact Lq.mk l (by rw [r2]; exact r1)
    ·have y := hs i (j - 1) (by omega) (by omega)
     exact Lq.mk (fun z => l (z.tq y)) (by rw [r2]; exact r1)
 ·rintro c t ⟨rfl, rfl, _, hs⟩
  rw [show max a n = n by omega] at hs ⊢
  exact h n han (Nat.le_refl _) hs (up n han (Nat.le_refl _)) (.inl rfl)
theorem al4 {st : SortSt} {m n : Nat} {Q : Option Nat -> SortSt -> Prop} (hn : n <= a₀.size) (h1 : 1 <= m) (hm : m <= n) (B : SB a₀ kd st) (p : Pre a₀.size (arrOf st) m) (d : Dsc kf (arrOf st) m)
  (h : ∀ m t, SB a₀ kd t -> 1 <= m -> m <= n -> Sta kf (arrOf t) m -> Pre a₀.size (arrOf t) m -> Q (some m) t) : wpS (model prog w) A E s (tail3 m n) Q st := by
 unfold tail3
 have z : m <= (arrOf st).size := by rw [B.sz]; omega
 refine wpS_bind (wpS_reverse ?_)
 have B' : SB a₀ kd (setArr st (mirror (arrOf st) 0 m ((m - 0) / 2))) := B.put (mirror_perm _ _ _ _)
 exact wpS_bind (ao1 ask hn h1 hm B' (p.mir z (Nat.le_refl _)) (d.turn z) fun k k1 k2 k3 k4 _ => wpS_pure (h k _ B' (by omega) k2 k3 k4))
theorem aqe {st : SortSt} {m n : Nat} {Q : DescSt -> SortSt -> Prop} (hn : n <= a₀.size) (h1 : 1 <= m) (hm : m <= n) (B : SB a₀ kd st) (p : Pre a₀.size (arrOf st) m) (d : Des kf (arrOf st) m (m - 1))
  (h : ∀ x e t, SB a₀ kd t -> m <= x -> x <= n -> e + 1 <= x -> Des kf (arrOf t) x (x - (e + 1)) -> Pre a₀.size (arrOf t) x -> Q (none, x, e) t) : wpS (model prog w) A E s (descLoop m n) Q st := by
 unfold descLoop
 refine wpS_forRange (I := fun x c t => ∃ e, c = (none, x, e) /\ SB a₀ kd t /\ x <= n /\ e + 1 <= x /\ Des kf (arrOf t) x (x - (e + 1)) /\ Pre a₀.size (arrOf t) x) ?_ ?_ ⟨0, rfl, B, hm, by omega, d, p⟩
 ·rintro x c t k1 k2 ⟨e, rfl, B', _, ke, d', p'⟩
  dsimp only
  have z : x <= (arrOf t).size := by rw [B'.sz]; omega
  have pu : ∀ ys : Array Keyed, Pre a₀.size ys x -> Pre a₀.size ys (x + 1) := fun ys q => ⟨fun k hk => by
   by_cases y : k < x
   ·have := q.1 k y; omega
   ·rw [q.2 k (by omega) (by omega)]; omega, fun k h3 h4 => q.2 k (by omega) h4⟩
  refine wpS_bind (ask _ _ _ _ B' (by omega) (by omega) ?_)
  by_cases l : Kl kf (arrOf t) x (x - 1)
  ·rw [decide_eq_true l]
   have next : ∀ ys : Array Keyed, Dsc kf ys x -> (∀ i, i < x -> Kl kf ys x i) -> Des kf ys (x + 1) x := fun ys y1 y2 => ⟨fun i j hij hj hi => by
    by_cases y : j < x
    ·exact ⟨y1 i j hij y, fun z => by omega⟩
    ·have : j = x := by omega
     subst this
     exact ⟨.inl (y2 i hi), fun _ => y2 i hi⟩, fun i j h1 h2 h3 => by omega⟩
   have low : ∀ i, i < x -> Kl kf (arrOf t) x i := fun i hi => by
    by_cases y : i = x - 1
    ·rw [y]; exact l
    ·by_cases y2 : i < x - (e + 1)
     ·exact l.tq (d'.1 i (x - 1) (by omega) (by omega) y2).1
     ·exact Ke.r l (d'.2 i (x - 1) (by omega) (by omega) (by omega)).1.s
   show wpS _ _ _ _ (if e > 0 then _ else _) _ _
   by_cases g : e > 0
   ·rw [if_pos g]
    refine wpS_bind (wpS_reverse (wpS_pure ⟨0, rfl, B'.put (mirror_perm _ _ _ _), k2, by omega, ?_, pu _ (p'.mir z (Nat.le_refl _))⟩))
    rw [show x + 1 - (0 + 1) = x by omega]
    refine next _ (d'.turn z (by omega)) fun i hi => ?_
    rcases mir (i := x - (e + 1)) z x with ⟨_, b, _⟩ | ⟨_, e1⟩
    ·omega
    ·rcases mir (i := x - (e + 1)) z i with ⟨_, _, e2⟩ | ⟨_, e2⟩
     ·rw [auB e1 e2]; exact low _ (by omega)
     ·rw [auB e1 e2]; exact low _ hi
   ·rw [if_neg g]
    refine wpS_pure ⟨0, rfl, B', k2, by omega, ?_, pu _ p'⟩
    rw [show x + 1 - (0 + 1) = x by omega]
    exact next _ (d'.one (by omega)) low
  ·rw [decide_eq_false l]
   show wpS _ _ _ _ (ltAt' (x - 1) x >>= _) _ _
   refine wpS_bind (ask _ _ _ _ B' (by omega) (by omega) ?_)
   by_cases g : Kl kf (arrOf t) (x - 1) x
   ·rw [decide_eq_true g]
    exact wpS_pure (h x e t B' k1 (by omega) ke d' p')
   ·rw [decide_eq_false g]
    have eq : Ke kf (arrOf t) (x - 1) x := Kl.no g l
    refine wpS_pure ⟨e + 1, rfl, B', k2, by omega, ?_, pu _ p'⟩
    rw [show x + 1 - (e + 1 + 1) = x - (e + 1) by omega]
    refine ⟨fun i j hij hj hi => ?_, fun i j hi hij hj => ?_⟩
    ·by_cases y : j < x
     ·exact d'.1 i j hij y hi
     ·have : j = x := by omega
      subst this
      have y := (d'.1 i (j - 1) (by omega) (by omega) hi).2 (by omega)
      have y' : Kl kf (arrOf t) j i := eq.s.l y
      exact ⟨.inl y', fun _ => y'⟩
    ·by_cases y : j < x
     ·exact d'.2 i j hi hij y
     ·have : j = x := by omega
      subst this
      have r1 := p'.1 i hij
      have r2 := p'.2 j (Nat.le_refl _) (by omega)
      refine ⟨?_, by omega⟩
      by_cases y : i = j - 1
      ·rw [y]; exact eq
      ·exact (d'.2 i (j - 1) hi (by omega) (by omega)).1.t eq
 ·rintro c t ⟨e, rfl, B', _, ke, d', p'⟩
  rw [show max m n = n by omega] at ke d' p' ⊢
  exact h n e t B' hm (Nat.le_refl _) ke d' p'
theorem akl {st : SortSt} {m n : Nat} {Q : Option Nat -> SortSt -> Prop} (hn : n <= a₀.size) (hm : m + 1 <= n) (B : SB a₀ kd st) (p : Pre a₀.size (arrOf st) (m + 1)) (d : Des kf (arrOf st) (m + 1) m)
  (h : ∀ m t, SB a₀ kd t -> 1 <= m -> m <= n -> Sta kf (arrOf t) m -> Pre a₀.size (arrOf t) m -> Q (some m) t) : wpS (model prog w) A E s (descPart m n) Q st := by
 unfold descPart
 refine wpS_bind (wpS_lift (wpAny_rule ⟨rfl, ?_⟩))
 refine wpS_bind (aqe ask hn (by omega) hm B p (by rw [show m + 1 - 1 = m by omega]; exact d) fun x e t B' k1 k2 ke d' p' => ?_)
 have z : x <= (arrOf t).size := by rw [B'.sz]; omega
 show wpS _ _ _ _ (if e > 0 then (reverseSlice' (x - (e + 1)) x >>= fun _ => tail3 x n) else tail3 x n) _ _
 by_cases g : e > 0
 ·rw [if_pos g]
  exact wpS_bind (wpS_reverse (al4 ask hn (by omega) k2 (B'.put (mirror_perm _ _ _ _)) (p'.mir z (Nat.le_refl _)) (d'.turn z (by omega)) h))
 ·rw [if_neg g]
  exact al4 ask hn (by omega) k2 B' p' (d'.one (by omega)) h
theorem an1 {st : SortSt} {n : Nat} {Q : Option Nat -> SortSt -> Prop} (hn : n <= a₀.size) (h1 : 1 <= n) (B : SB a₀ kd st) (p : Pre a₀.size (arrOf st) 0)
  (h : ∀ m t, SB a₀ kd t -> 1 <= m -> m <= n -> Sta kf (arrOf t) m -> Pre a₀.size (arrOf t) m -> Q (some m) t) : wpS (model prog w) A E s (countRun' 0 n) Q st := by
 rw [countRun0_eq]
 have p1 : Pre a₀.size (arrOf st) 1 := ⟨fun k hk => by rw [p.2 k (by omega) (by omega)]; omega, fun k h3 h4 => p.2 k (by omega) h4⟩
 refine wpS_bind (ao1 ask hn (Nat.le_refl 1) h1 B p1 (fun i j _ _ => by omega) fun m m1 m2 hs hp ho => ?_)
 show wpS _ _ _ _ (if (m == n) = true then _ else _) _ _
 by_cases e : m = n
 ·rw [if_pos (by simpa using e)]
  exact wpS_pure (h m st B m1 m2 hs hp)
 ·rw [if_neg (by simpa using e)]
  obtain ⟨ml, l⟩ := ho.resolve_left e
  have pn : ∀ ys : Array Keyed, Pre a₀.size ys m -> Pre a₀.size ys (m + 1) := fun ys q => ⟨fun k hk => by
   by_cases y : k < m
   ·have := q.1 k y; omega
   ·rw [q.2 k (by omega) (by omega)]; omega, fun k h3 h4 => q.2 k (by omega) h4⟩
  by_cases g : m > 1
  ·rw [if_pos g]
   refine wpS_bind (ask _ _ _ _ B (by omega) (by omega) ?_)
   by_cases r : Kl kf (arrOf st) 0 (m - 1)
   ·rw [decide_eq_true r]
    exact wpS_pure (h m st B m1 m2 hs hp)
   ·rw [decide_eq_false r]
    have z : m <= (arrOf st).size := by rw [B.sz]; omega
    have all : ∀ i j, i < j -> j < m -> Ke kf (arrOf st) i j /\ qr (arrOf st) i < qr (arrOf st) j := fun i j hij hj => by
     have a1 := hs i j hij hj
     have a2 : i = 0 \/ Lq kf (arrOf st) 0 i := by
      by_cases y : i = 0
      ·exact .inl y
      ·exact .inr (hs 0 i (by omega) (by omega))
     have a3 : j = m - 1 \/ Lq kf (arrOf st) j (m - 1) := by
      by_cases y : j = m - 1
      ·exact .inl y
      ·exact .inr (hs j (m - 1) (by omega) (by omega))
     rcases a1 with k1 | k1
     ·have k2 : Kl kf (arrOf st) 0 j := by
       rcases a2 with y | y
       ·rw [y] at k1; exact k1
       ·exact Kl.qt y k1
      refine absurd ?_ r
      rcases a3 with y | y
      ·rw [y] at k2; exact k2
      ·exact k2.tq y
     ·exact k1
    have ds : Des kf (arrOf st) m 0 := ⟨fun i j _ _ hi => by omega, fun i j _ hij hj => all i j hij hj⟩
    show wpS _ _ _ _ (reverseSlice' 0 m >>= fun _ => descPart m n) _ _
    refine wpS_bind (wpS_reverse (akl ask hn (by omega) (B.put (mirror_perm _ _ _ _)) (pn _ (hp.mir z (Nat.le_refl _))) ?_ h))
    have dd := ds.turn z (by omega)
    have low : ∀ i, i < m -> Kl kf (arrOf st) m i := fun i hi => by
     by_cases y : i = m - 1
     ·rw [y]; exact l
     ·exact Ke.r l (all i (m - 1) (by omega) (by omega)).1.s
    have awV : ∀ i, i < m -> Kl kf (mirror (arrOf st) 0 m ((m - 0) / 2)) m i := fun i hi => by
     rcases mir (i := 0) z m with ⟨_, b, _⟩ | ⟨_, e1⟩
     ·omega
     ·rcases mir (i := 0) z i with ⟨_, _, e2⟩ | ⟨_, e2⟩
      ·rw [auB e1 e2]; exact low _ (by omega)
      ·rw [auB e1 e2]; exact low _ hi
    refine ⟨fun i j hij hj hi => ?_, fun i j _ _ _ => by omega⟩
    by_cases y : j < m
    ·exact ⟨dd i j hij y, fun z => by omega⟩
    ·have : j = m := by omega
     subst this
     exact ⟨.inl (awV i hi), fun _ => awV i hi⟩
  ·rw [if_neg g]
   have e1 : m = 1 := by omega
   subst e1
   refine akl ask hn (by omega) B (pn _ hp) ⟨fun i j hij hj hi => ?_, fun i j _ _ _ => by omega⟩ h
   have i0 : i = 0 := by omega
   have j1 : j = 1 := by omega
   subst i0 j1
   exact ⟨.inl l, fun _ => l⟩
theorem asO {st : SortSt} {n ok : Nat} {Q : Bool -> SortSt -> Prop} (hn : n <= a₀.size) (h1 : 1 <= ok) (hok : ok <= n) (B : SB a₀ kd st) (p : Pre a₀.size (arrOf st) ok) (d : Sta kf (arrOf st) ok)
  (h : ∀ t, SB a₀ kd t -> Sta kf (arrOf t) n -> Q true t) : wpS (model prog w) A E s (binarySort' 0 n ok) Q st := by
 rw [binarySort'_eq]
 simp only [Nat.zero_add]
 refine wpS_bind (wpS_mono (wpS_forRange (I := fun k c t => c = (none, ()) /\ SB a₀ kd t /\ k <= n /\ Sta kf (arrOf t) k /\ Pre a₀.size (arrOf t) k) (Q := fun c t => c = (none, ()) /\ SB a₀ kd t /\ Sta kf (arrOf t) n) ?_ ?_ ?_) ?_)
 ·rintro k c t k1 k2 ⟨rfl, B', _, d', p'⟩
  have hk : k < a₀.size := by omega
  have rk := p'.2 k (Nat.le_refl _) hk
  refine wpS_bind (wpS_mono (wpS_forRange (I := fun x c u => u = t /\ ∃ l r, c = (none, l, r) /\ l <= r /\ r <= k /\ r - l <= k - x /\ (∀ i, i < l -> ¬ Kl kf (arrOf t) k i) /\ ∀ i, r <= i -> i < k -> Kl kf (arrOf t) k i)
   (Q := fun c u => u = t /\ ∃ l r, c = (none, l, r) /\ l <= k /\ (∀ i, i < l -> ¬ Kl kf (arrOf t) k i) /\ ∀ i, l <= i -> i < k -> Kl kf (arrOf t) k i) ?_ ?_ ?_) ?_)
  ·rintro x c u _ hx ⟨rfl, l, r, rfl, g1, g2, g3, lo, hi⟩
   dsimp only
   by_cases g : l >= r
   ·rw [if_pos g]
    have : l = r := by omega
    subst this
    exact wpS_pure ⟨rfl, l, l, rfl, g2, lo, hi⟩
   ·rw [if_neg g]
    refine wpS_bind (ask _ _ _ _ B' hk (by omega) ?_)
    by_cases le : Kl kf (arrOf u) k ((l + r) / 2)
    ·rw [decide_eq_true le]
     refine wpS_pure ⟨rfl, l, (l + r) / 2, rfl, by omega, by omega, by omega, lo, fun i h1 h2 => ?_⟩
     by_cases y : i = (l + r) / 2
     ·rw [y]; exact le
     ·exact le.tq (d' ((l + r) / 2) i (by omega) h2)
    ·rw [decide_eq_false le]
     refine wpS_pure ⟨rfl, (l + r) / 2 + 1, r, rfl, by omega, by omega, by omega, fun i h1 => ?_, hi⟩
     by_cases y : i = (l + r) / 2
     ·rw [y]; exact le
     ·exact fun z => le (z.tq (d' i ((l + r) / 2) (by omega) (by omega)))
  ·rintro c u ⟨rfl, l, r, rfl, g1, g2, g3, lo, hi⟩
   have : l = r := by omega
   subst this
   exact ⟨rfl, l, l, rfl, g2, lo, hi⟩
  ·exact ⟨rfl, 0, k, rfl, by omega, by omega, by omega, fun i hi => by omega, fun i g1 g2 => by omega⟩
  ·rintro c u ⟨rfl, l, r, rfl, lk, lo, hi⟩
   show wpS _ _ _ _ (moveDown' k l >>= fun _ => pure (ForInStep.yield (none, ()))) _ _
   rw [moveDown'_eq]
   refine wpS_bind (wpS_modify (wpS_pure ⟨rfl, B'.put (bubble_perm _ _ _), k2, ?_, ?_⟩))
   all_goals
    have ks : k < (arrOf u).size := by rw [B'.sz]; exact hk
    have bb := getElem?_bubble ks (k - l) (by omega)
    rw [show k - (k - l) = l by omega] at bb
    have b1 : (bubble (arrOf u) k (k - l))[l]? = (arrOf u)[k]? := by rw [bb, if_pos rfl]
    have b2 : ∀ i, l < i -> i <= k -> (bubble (arrOf u) k (k - l))[i]? = (arrOf u)[i - 1]? := fun i g1 g2 => by rw [bb, if_neg (by omega), if_pos ⟨g1, g2⟩]
    have b3 : ∀ i, i < l -> (bubble (arrOf u) k (k - l))[i]? = (arrOf u)[i]? := fun i g1 => by rw [bb, if_neg (by omega), if_neg (by omega)]
    have b4 : ∀ i, k < i -> (bubble (arrOf u) k (k - l))[i]? = (arrOf u)[i]? := fun i g1 => by rw [bb, if_neg (by omega), if_neg (by omega)]
   ·intro i j hij hj
    show Lq kf (bubble (arrOf u) k (k - l)) i j
    rcases Nat.lt_trichotomy i l with y | y | y <;> rcases Nat.lt_trichotomy j l with y' | y' | y'
    ·rw [an0 (b3 i y) (b3 j y')]; exact d' i j hij (by omega)
    ·subst y'
     rw [an0 (b3 i y) b1]
     exact Lq.mk (lo i y) (by rw [rk]; exact p'.1 i (by omega))
    ·rw [an0 (b3 i y) (b2 j y' (by omega))]; exact d' i (j - 1) (by omega) (by omega)
    ·omega
    ·omega
    ·subst y
     rw [an0 b1 (b2 j y' (by omega))]
     exact .inl (hi _ (by omega) (by omega))
    ·omega
    ·omega
    ·rw [an0 (b2 i y (by omega)) (b2 j y' (by omega))]; exact d' _ _ (by omega) (by omega)
   ·refine ⟨fun i hi' => ?_, fun i g1 g2 => ?_⟩
    ·show qr (bubble (arrOf u) k (k - l)) i < _
     rcases Nat.lt_trichotomy i l with y | y | y
     ·rw [anZ (b3 i y)]; have := p'.1 i (by omega); omega
     ·subst y; rw [anZ b1, rk]; omega
     ·rw [anZ (b2 i y (by omega))]; have := p'.1 (i - 1) (by omega); omega
    ·show qr (bubble (arrOf u) k (k - l)) i = _
     rw [anZ (b4 i (by omega))]
     exact p'.2 i (by omega) g2
 ·rintro c t ⟨rfl, B', kn, d', p'⟩
  refine ⟨rfl, B', ?_⟩
  rwa [show max (max ok 1) n = n by omega] at d'
 ·rw [show max ok 1 = ok by omega]
  exact ⟨rfl, B, hok, d, p⟩
 ·rintro c t ⟨rfl, B', d'⟩
  exact wpS_pure (h t B' d')
theorem aqf {st : SortSt} {Q : Unit -> SortSt -> Prop} (B : SB a₀ kd st) (h2 : 2 <= a₀.size) (h64 : a₀.size < 64) (p : Pre a₀.size (arrOf st) 0)
  (h : ∀ t, (arrOf t).Perm a₀ -> failedOf t = none -> Sta kf (arrOf t) a₀.size -> Q () t) : wpS (model prog w) A E s sortRuns' Q st := by
 rw [sortRuns'_eq]
 refine wpS_bind (wpS_get ?_)
 have mr : minRun' (arrOf st).size (arrOf st).size 0 = a₀.size := by
  rw [B.sz]
  obtain ⟨f, hf⟩ : ∃ f, a₀.size = f + 1 := ⟨a₀.size - 1, by omega⟩
  have : minRun' (f + 1) (f + 1) 0 = f + 1 := by rw [minRun'_succ, if_pos (by omega)]
  rw [hf]; exact this
 dsimp only
 rw [mr, B.sz]
 have fin : ∀ t, SB a₀ kd t -> Sta kf (arrOf t) a₀.size -> (arrOf (setPending t ((pendingOf t).push (0, a₀.size, 0)))).Perm a₀ /\ failedOf (setPending t ((pendingOf t).push (0, a₀.size, 0))) = none /\ pendingOf (setPending t ((pendingOf t).push (0, a₀.size, 0))) = #[(0, a₀.size, 0)] /\ Sta kf (arrOf (setPending t ((pendingOf t).push (0, a₀.size, 0)))) a₀.size :=
  fun t B' d' => ⟨B'.pm, B'.fl, by show (pendingOf t).push _ = _; rw [B'.pd]; rfl, d'⟩
 refine wpS_bind (wpS_mono (wpS_forRange (I := fun x c t => (x = 0 /\ c = (none, 0) /\ SB a₀ kd t /\ Pre a₀.size (arrOf t) 0) \/ (1 <= x /\ c = (none, a₀.size) /\ (arrOf t).Perm a₀ /\ failedOf t = none /\ pendingOf t = #[(0, a₀.size, 0)] /\ Sta kf (arrOf t) a₀.size))
  (Q := fun c t => c = (none, a₀.size) /\ (arrOf t).Perm a₀ /\ failedOf t = none /\ pendingOf t = #[(0, a₀.size, 0)] /\ Sta kf (arrOf t) a₀.size) ?_ ?_ (.inl ⟨rfl, rfl, B, p⟩)) ?_)
 ·rintro x c t _ hx (⟨rfl, rfl, B', p'⟩ | ⟨hx1, rfl, D⟩)
  ·show wpS _ _ _ _ (if 0 >= a₀.size then _ else _) _ _
   rw [if_neg (by omega)]
   simp only [Nat.sub_zero, Nat.min_self, Nat.zero_add]
   refine wpS_bind (an1 ask (Nat.le_refl _) (by omega) B' p' fun m u B2 m1 m2 d2 p2 => ?_)
   show wpS _ _ _ _ (if m < a₀.size then _ else _) _ _
   by_cases g : m < a₀.size
   ·rw [if_pos g]
    refine wpS_bind (wpS_lift (wpAny_rule ⟨rfl, ?_⟩))
    refine wpS_bind (asO ask (Nat.le_refl _) m1 m2 B2 p2 d2 fun v B3 d3 => ?_)
    simp only [Bool.not_true, Bool.false_eq_true, if_false]
    refine wpS_bind (wpS_get ?_)
    rw [show (pendingOf v).back? = none by rw [B3.pd]; rfl]
    exact wpS_bind (wpS_modify (wpS_pure (.inr ⟨by omega, rfl, fin v B3 d3⟩)))
   ·rw [if_neg g]
    have e : m = a₀.size := by omega
    subst e
    refine wpS_bind (wpS_get ?_)
    rw [show (pendingOf u).back? = none by rw [B2.pd]; rfl]
    exact wpS_bind (wpS_modify (wpS_pure (.inr ⟨by omega, rfl, fin u B2 d2⟩)))
  ·show wpS _ _ _ _ (if a₀.size >= a₀.size then _ else _) _ _
   rw [if_pos (Nat.le_refl _)]
   exact wpS_pure ⟨rfl, D⟩
 ·rintro c t (⟨hx, _, _⟩ | ⟨_, hc, D⟩)
  ·omega
  ·exact ⟨hc, D⟩
 ·rintro c t ⟨rfl, D⟩
  refine wpS_bind (wpS_mono (wpS_forRange (I := fun _ c u => u = t /\ c = (none, ())) (Q := fun c u => u = t /\ c = (none, ())) ?_ (fun _ _ z => z) ⟨rfl, rfl⟩) ?_)
  ·rintro x c u _ _ ⟨rfl, rfl⟩
   refine wpS_bind (wpS_get ?_)
   rw [if_pos (by rw [D.2.2.1]; exact Nat.le_refl 1)]
   exact wpS_pure ⟨rfl, rfl⟩
  ·rintro c u ⟨rfl, rfl⟩
   exact wpS_pure (h _ D.1 D.2.1 D.2.2.2)
end
end L2
end
section
namespace L2
open PySem PySem.Spec PyProof.Rows PySem.W
section
variable {X : Cx} {pins : List (Addr × Obj)} {σ : St} {H : Hp} {s : Shared}
theorem Inv.track {a : Addr} {xs : List V} {its : List Value} {n : Nat} (I : Inv X pins σ H s) (f : aeK X pins H a) (e : s.heap.get? a = some { cls := .type "list", data := .seq its.toArray n }) (r : Vals xs its) (hz : xs.length <= sizeLine) : Inv X pins σ (upd H a (.lst xs)) s := by
 obtain ⟨f0, f1, f2, f3, f4, f5⟩ := f
 have ok : HOk X.prog X.w (upd H a (.lst xs)) s.heap := fun b u q => by
  by_cases hb : b = a
  ·subst hb; rw [aa9] at q; cases q; exact ⟨hz, its, n, r, e⟩
  ·rw [aaH hb] at q
   exact (I.hok b u q).stay (fun c v _ z => z) (fun c z => by rw [aaH (aaT z f0)]; exact z) fun c ys z => by rw [aaH (aaT z f0)]; exact z
 exact I.step (h' := s.heap) (g' := s.gens) (t' := s.toks) (d' := s.drawn) (ch := [a]) (fun b hb => by
   have : b = a := by simpa using hb
   subst this
   exact ⟨f3, f1, f4, f5⟩) (fun b o _ _ _ q _ => q) (fun b o _ _ _ q _ => ⟨o.slots, q⟩) (fun b o hb _ q => by rw [aaH (by simpa using hb)]; exact q) (fun b o _ q => ⟨o, q⟩)
  (fun b ys q => by rw [aaH (aaT q f0)]; exact q) (fun b o u q => by rw [aaH (aaT q f0)]; exact q) (fun b ps q => ⟨#[], by rw [aaH (aaT q f0), q]; simp⟩) (fun m q => q) ok I.bare
theorem Inv.sub {agS : List (Addr × Obj)} (I : Inv X pins σ H s) (h : ∀ p ∈ agS, p ∈ pins) : Inv X agS σ H s := I.ahw fun p hp => I.pin p (List.mem_append_right _ (h p hp))
theorem Inv.aqg {a : Addr} {o : Obj} (I : Inv X pins σ H s) (f : aeK X pins H a) (e : s.heap.get? a = some o) (d : ∀ v, o.data ≠ .cell v) : Inv X ((a, o) :: pins) σ H s := I.ahw fun p hp => by
 rcases List.mem_cons.mp hp with rfl | hp
 ·exact ⟨e, f.1, f.2.1, f.2.2.1, d⟩
 ·exact I.pin p (List.mem_append_right _ hp)
theorem aeK.aqg {a b : Addr} {o : Obj} (f : aeK X pins H b) (n : a ≠ b) : aeK X ((a, o) :: pins) H b := ⟨f.1, f.2.1, f.2.2.1, f.2.2.2.1, f.2.2.2.2.1, fun p hp => by
 rcases List.mem_append.mp hp with hp | hp
 ·exact f.2.2.2.2.2 p (List.mem_append_left _ hp)
 ·rcases List.mem_cons.mp hp with rfl | hp
  ·exact n
  ·exact f.2.2.2.2.2 p (List.mem_append_right _ hp)⟩
theorem Inv.wr {a : Addr} {g : Array Value -> Array Value} {t' : Nat} (I : Inv X pins σ H s) (f : aeK X pins H a) : Inv X pins σ H { s with heap := s.heap.update a (Obj.mapSeq g), toks := t' } := by
 obtain ⟨f0, f1, f2, f3, f4, f5⟩ := f
 exact I.turned (it := a) (fun b o hb e => ((Heap.SameBut.update s.heap a _).2 b hb).trans e) f0 f1 f3 f4 f5
end
noncomputable def Srt (n : Nat) (kz : Nat -> Int × Int) (ys : List Nat) : Prop := ys.Perm (List.range n) /\ ys.Pairwise fun i j => ((kz i).1 < (kz j).1 \/ ((kz i).1 = (kz j).1 /\ (kz i).2 < (kz j).2)) \/ (((kz i).1 = (kz j).1 /\ (kz i).2 = (kz j).2) /\ i < j)
structure ajl (X : Cx) (Kv : Hp -> Value -> Int × Int -> Prop) (kd : SortKind) : Prop where
 kind : ∀ (H : Hp) (keys : Array Value) (kz : Nat -> Int × Int), 2 <= keys.size -> (∀ i v, keys[i]? = some v -> Kv H v (kz i)) -> ∀ {pins σ s Q E}, Inv X pins σ H s -> Q kd s -> wpAny (model X.prog X.w) X.A.in1.in1 (keyKind' keys) Q E s
 ask : ∀ {pins σ H s} {E : Value -> Shared -> Prop} (a₀ : Array Keyed) (kf : Value -> Int × Int), Inv X pins σ H s -> (∀ p, p ∈ a₀.toList -> Kv H p.1 (kf p.1)) -> Asks X.prog X.w X.A.in1.in1 E s a₀ kd kf
section
variable {X : Cx}
theorem asQ : ajl X (fun _ v k => ∃ t, v = .int k.1 t /\ k.2 = 0) oneType' where
 kind := fun H keys kz h2 hk pins σ s Q E I q => by
  have hi : IntsAre keys.toList (keys.toList.map numOf) := by
   refine intsAre_map _ fun v hv => ?_
   obtain ⟨i, hi, e⟩ := List.getElem_of_mem hv
   obtain ⟨t, z, _⟩ := hk i v (by rw [<-e]; simp [Array.getElem?_eq_getElem (show i < keys.size by simpa using hi)])
   exact ⟨_, t, z⟩
  rw [ksk_kind hi h2]
  exact wpAny_pure q
 ask := fun a₀ kf I h st i j Q B hi hj q => by
  have h0 : IntKeys a₀ := fun p hp => by
   obtain ⟨t, z, _⟩ := h p hp
   exact ⟨_, t, z⟩
  have B' : SBase a₀ st := ⟨B.pm, B.kn, B.fl, B.pd⟩
  have at_ : ∀ i, i < a₀.size -> q1 kf (arrOf st) i = K (arrOf st) i /\ q2 kf (arrOf st) i = 0 := fun i hi => by
   obtain ⟨t, p, e⟩ := B'.at h0 hi
   have hi' : i < (arrOf st).size := by rw [B.sz]; exact hi
   have hm : (arrOf st)[i] ∈ a₀.toList := (Array.perm_iff_toList_perm.mp B.pm).mem_iff.mp (by simp)
   obtain ⟨t', z, z2⟩ := h _ hm
   have e' : (arrOf st)[i]? = some (arrOf st)[i] := getElem?_pos _ i hi'
   have e2 : (arrOf st)[i] = (Value.int (K (arrOf st) i) t, p) := by rw [e'] at e; exact Option.some.inj e
   rw [e2] at z z2
   unfold q1 q2
   rw [e]
   refine ⟨?_, z2⟩
   have z : Value.int (K (arrOf st) i) t = Value.int (kf (Value.int (K (arrOf st) i) t)).1 t' := z
   injection z with z
   exact z.symm
  refine wpS_ltK B' h0 hi hj ?_
  have : decide (Kl kf (arrOf st) i j) = decide (K (arrOf st) i < K (arrOf st) j) := by
   rw [decide_eq_decide]
   unfold Kl
   rw [(at_ i hi).1, (at_ j hj).1, (at_ i hi).2, (at_ j hj).2]
   omega
  rw [this] at q
  exact q
end
section
variable {X : Cx} {pins : List (Addr × Obj)} {σ : St} {H : Hp} {s : Shared} {Kv : Hp -> Value -> Int × Int -> Prop} {kd : SortKind} {a kS : Addr} {n : Nat} {kz : Nat -> Int × Int} {vs : List Value}
theorem al5 {e1 : Nat} {keys : Array Value} {e : Nat} {st : SortSt} {P : PySem.Fin -> Shared -> Prop} {E : Value -> Shared -> Prop} (I : Inv X pins σ H s) (fk : aeK X pins H kS) (fa : aeK X pins H a) (ne : kS ≠ a) (hk : s.heap.get? kS = some (seqObj "list" keys e)) (ha : s.heap.get? a = some (seqObj "list" #[] e1)) (hks : keys.size <= 64) (hst : (arrOf st).size <= 64) (fl : failedOf st = none)
  (h : ∀ s' c, Inv X pins σ H s' -> s'.heap.get? a = some (seqObj "list" ((arrOf st).map (·.2)) c) -> P (.done (.ret .none)) s') : wpAny (model X.prog X.w) X.A.in1.in1 (ksk_tail a false e1 (.ref kS) st) P E s := by
 unfold ksk_tail
 refine wpAny_bind (listUpdate_at hk rfl ?_ (by rw [sizeLine_eq]; omega) (Nat.zero_le _))
 refine wpAny_bind (wpAny_letGo ?_)
 have I1 := I.wr (g := fun _ => #[]) (t' := s.toks) fk
 have ha1 : (s.heap.update kS (Obj.mapSeq fun _ => (#[] : Array Value))).get? a = some (seqObj "list" #[] e1) := ((Heap.SameBut.update s.heap kS _).2 a (Ne.symm ne)).trans ha
 refine wpAny_bind (seqEpoch_at ha1 rfl ?_)
 refine wpAny_bind (listUpdate_at ha1 rfl ?_ (Nat.zero_le _) (by simp only [Bool.false_eq_true, if_false, Array.size_map]; rw [sizeLine_eq]; omega))
 rw [fl]
 simp only [bne_self_eq_false, Bool.false_eq_true, if_false]
 exact wpAny_pure (h _ _ (I1.wr (t' := s.toks) fa) (get?_update_seq ha1 _))
theorem asR {e1 : Nat} {keys : Array Value} {e : Nat} {P : PySem.Fin -> Shared -> Prop} {E : Value -> Shared -> Prop} (T : ajl X Kv kd) (I : Inv X pins σ H s) (fk : aeK X pins H kS) (fa : aeK X pins H a) (ne : kS ≠ a) (hk : s.heap.get? kS = some (seqObj "list" keys e)) (ha : s.heap.get? a = some (seqObj "list" #[] e1))
  (hv : ∀ (i : Nat) (v : Value), vs[i]? = some v -> ∃ t, v = Value.int i t) (hl : vs.length = n) (hkn : keys.size = n) (h64 : n < 64) (hK : ∀ i v, keys[i]? = some v -> Kv H v (kz i)) (inj : ∀ v k k', Kv H v k -> Kv H v k' -> k = k')
  (h : ∀ s' c out, Inv X pins σ H s' -> s'.heap.get? a = some (seqObj "list" out c) -> (∃ ys, Srt n kz ys /\ Vals (ys.map fun i : Nat => V.int i) out.toList) -> P (.done (.ret .none)) s') : wpAny (model X.prog X.w) X.A.in1.in1 (ksk_end a false vs.toArray e1 (.ref kS) keys) P E s := by
 have zsz : (keys.zip vs.toArray).size = n := by rw [Array.size_zip, hkn, List.size_toArray, hl, Nat.min_self]
 have zat : ∀ i, i < n -> ∃ v t, (keys.zip vs.toArray)[i]? = some (v, .int i t) /\ Kv H v (kz i) := fun i hi => by
  obtain ⟨t, e2⟩ := hv i vs[i] (by simp [hl, hi])
  have e1 : keys[i]? = some keys[i] := getElem?_pos _ _ (by omega)
  refine ⟨keys[i], t, ?_, hK i _ e1⟩
  rw [<-Array.getElem?_toList, ksk_zip, List.getElem?_zip_eq_some]
  refine ⟨by simp [Array.getElem?_toList, e1], ?_⟩
  show vs[i]? = some (Value.int i t)
  rw [List.getElem?_eq_getElem (by omega), e2]
 -- what the sorted array says
 have fin : ∀ (kf : Value -> Int × Int) (xs : Array Keyed), (∀ (i : Nat) v t, (keys.zip vs.toArray)[i]? = some (v, Value.int i t) -> kf v = kz i) -> xs.Perm (keys.zip vs.toArray) -> Sta kf xs n -> ∃ ys, Srt n kz ys /\ Vals (ys.map fun i : Nat => V.int i) (xs.map (·.2)).toList := fun kf xs hkf hp hs => by
  have hpl := Array.perm_iff_toList_perm.mp hp
  have mem : ∀ p ∈ xs.toList, ∃ i t, i < n /\ p.2 = .int (i : Nat) t /\ kf p.1 = kz i := fun p hp' => by
   obtain ⟨i, hi, e⟩ := List.getElem_of_mem (hpl.mem_iff.mp hp')
   have hi' : i < n := by rw [Array.length_toList, zsz] at hi; exact hi
   obtain ⟨v, t, e1, _⟩ := zat i hi'
   have e2 : (keys.zip vs.toArray)[i]? = some p := by rw [<-Array.getElem?_toList, List.getElem?_eq_getElem hi, e]
   rw [e1] at e2
   cases e2
   exact ⟨i, t, hi', rfl, hkf i v t e1⟩
  refine ⟨xs.toList.map fun p => (numOf p.2).toNat, ⟨?_, ?_⟩, ?_⟩
  ·have h1 := hpl.map fun p : Keyed => (numOf p.2).toNat
   refine h1.trans (List.Perm.of_eq ?_)
   refine List.ext_getElem? fun i => ?_
   by_cases hi : i < n
   ·obtain ⟨v, t, e1, _⟩ := zat i hi
    rw [List.getElem?_map, Array.getElem?_toList, e1, List.getElem?_range hi]
    simp [numOf]
   ·rw [List.getElem?_eq_none (by simp [zsz]; omega), List.getElem?_eq_none (by simp; omega)]
  ·rw [List.pairwise_map, List.pairwise_iff_getElem]
   intro i j hi hj hij
   have sz : xs.size = n := by rw [hp.size_eq, zsz]
   have hi' : i < xs.size := by simpa using hi
   have hj' : j < xs.size := by simpa using hj
   have z := hs i j hij (by omega)
   obtain ⟨a1, t1, _, b1, c1⟩ := mem _ (List.getElem_mem hi)
   obtain ⟨a2, t2, _, b2, c2⟩ := mem _ (List.getElem_mem hj)
   have x1 : xs[i]? = some xs.toList[i] := by rw [<-Array.getElem?_toList, List.getElem?_eq_getElem hi]
   have x2 : xs[j]? = some xs.toList[j] := by rw [<-Array.getElem?_toList, List.getElem?_eq_getElem hj]
   unfold Lq Kl Ke q1 q2 qr at z
   rw [x1, x2] at z
   dsimp only at z
   rw [b1, b2, c1, c2] at z
   rw [b1, b2]
   simp only [numOf, Int.toNat_natCast] at z ⊢
   omega
  ·rw [Array.toList_map, List.map_map]
   have go : ∀ l : List Keyed, (∀ p ∈ l, ∃ i t, i < n /\ p.2 = .int (i : Nat) t /\ kf p.1 = kz i) -> Vals (l.map ((fun i : Nat => V.int i) ∘ fun p : Keyed => (numOf p.2).toNat)) (l.map (·.2)) := fun l => by
    induction l with
    | nil => intro _; exact .nil
    | cons p r ih =>
     intro hm
     refine .cons ?_ (ih fun q hq => hm q (List.mem_cons_of_mem _ hq))
     obtain ⟨i, t, _, e, _⟩ := hm p (List.mem_cons_self ..)
     exact ⟨t, by simp [e, numOf]⟩
   exact go _ mem
 -- a function of the keys
 obtain ⟨kf, hkf⟩ : ∃ kf : Value -> Int × Int, ∀ v k, Kv H v k -> kf v = k := by
  classical
  refine ⟨fun v => if q : ∃ k, Kv H v k then q.choose else (0, 0), fun v k hk => ?_⟩
  have q : ∃ k, Kv H v k := ⟨k, hk⟩
  dsimp only
  rw [dif_pos q]
  exact inj v _ _ q.choose_spec hk
 have awW : ∀ (i : Nat) v t, (keys.zip vs.toArray)[i]? = some (v, Value.int i t) -> kf v = kz i := fun i v t e => by
  have hi : i < n := by
   have := (Array.getElem?_eq_some_iff.mp e).1
   omega
  obtain ⟨v', t', e1, q⟩ := zat i hi
  rw [e1] at e
  cases e
  exact hkf _ _ q
 unfold ksk_end
 simp only [Bool.false_eq_true, if_false]
 rw [List.size_toArray, hl]
 by_cases h2 : n < 2
 ·rw [if_pos h2, if_pos h2]
  refine wpAny_bind (wpAny_pure ?_)
  rw [StateT.run_pure]
  refine wpAny_bind (wpAny_pure ?_)
  refine al5 (st := SortSt.mk' general' (keys.zip vs.toArray) #[] 7 none) I fk fa ne hk ha (by omega) (by show (keys.zip vs.toArray).size <= 64; omega) rfl fun s' c I' e' => h s' c _ I' e' (fin kf _ awW (Array.Perm.refl _) fun i j hij hj => by omega)
 ·rw [if_neg h2, if_neg h2]
  refine wpAny_bind (T.kind H keys kz (by omega) hK I ?_)
  have ask := T.ask (E := E) (s := s) (keys.zip vs.toArray) kf I (fun p hp => by
   obtain ⟨i, hi, e⟩ := List.getElem_of_mem hp
   have hi' : i < n := by rw [Array.length_toList, zsz] at hi; exact hi
   obtain ⟨v, t, e1, q⟩ := zat i hi'
   have e2 : (keys.zip vs.toArray)[i]? = some p := by rw [<-Array.getElem?_toList, List.getElem?_eq_getElem hi, e]
   rw [e1] at e2
   cases e2
   rw [hkf _ _ q]
   exact q)
  have B : SB (keys.zip vs.toArray) kd (SortSt.mk' kd (keys.zip vs.toArray) #[] 7 none) := ⟨Array.Perm.refl _, rfl, rfl, rfl⟩
  have p0 : Pre (keys.zip vs.toArray).size (arrOf (SortSt.mk' kd (keys.zip vs.toArray) #[] 7 none)) 0 := ⟨fun k hk => by omega, fun k _ hk => by
   obtain ⟨v, t, e1, _⟩ := zat k (by omega)
   show qr (keys.zip vs.toArray) k = k
   unfold qr
   rw [e1]
   rfl⟩
  refine wpAny_bind (wpAny_mono (aqf (Q := fun _ t => (arrOf t).Perm (keys.zip vs.toArray) /\ failedOf t = none /\ Sta kf (arrOf t) (keys.zip vs.toArray).size) ask B (by omega) (by omega) p0 fun t a1 a2 a3 => ⟨a1, a2, a3⟩) ?_ fun _ _ z => z)
  rintro ⟨⟨⟩, t⟩ s' ⟨rfl, hp, hf, hs⟩
  rw [zsz] at hs
  exact al5 I fk fa ne hk ha (by omega) (by rw [hp.size_eq, zsz]; omega) hf fun s' c I' e' => h s' c _ I' e' (fin kf _ awW hp hs)
end
end L2
end
section
namespace L2
open PySem PySem.Spec PyProof.Rows PySem.W
section
variable {X : Cx} {pins : List (Addr × Obj)} {σ : St} {H : Hp} {s : Shared} {Kv : Hp -> Value -> Int × Int -> Prop} {kd : SortKind} {n : Nat} {kz : Nat -> Int × Int} {vs : List Value} {f : Value}
theorem aeK.up {H' : Hp} {b : Addr} (h : aeK X pins H b) (e : H' b = none) : aeK X pins H' b := ⟨e, h.2⟩
noncomputable def aqh (X : Cx) (pins : List (Addr × Obj)) (σ : St) (H : Hp) (Kv : Hp -> Value -> Int × Int -> Prop) (n : Nat) (kz : Nat -> Int × Int) (f : Value) : Prop :=
 ∀ (agS : List (Addr × Obj)) (i : Nat) (t : Tok) (s' : Shared) (H' : Hp), i < n -> (∀ p ∈ pins, p ∈ agS) -> Same H H' -> Inv X agS σ H' s' ->
  wpAny (model X.prog X.w) X.A.in1.in1 (call f [.int i t]) (fun v s'' => ∃ H'', Same H' H'' /\ Kv H'' v (kz i) /\ Inv X agS σ H'' s'') (fun _ _ => False) s'
theorem aqi {a kS : Addr} {e1 : Nat} {P : PySem.Fin -> Shared -> Prop} {E : Value -> Shared -> Prop} (T : ajl X Kv kd) (mono : ∀ {H H' : Hp} {v k}, Same H H' -> Kv H v k -> Kv H' v k) (inj : ∀ (H : Hp) v k k', Kv H v k -> Kv H v k' -> k = k')
  (I : Inv X pins σ H s) (fk : aeK X pins H kS) (fa : aeK X pins H a) (ne : kS ≠ a) (hk : s.heap.get? kS = some (seqObj "list" #[] 0)) (ha : s.heap.get? a = some (seqObj "list" #[] e1))
  (hv : ∀ (i : Nat) (v : Value), vs[i]? = some v -> ∃ t, v = Value.int i t) (hl : vs.length = n) (h64 : n < 64) (key : aqh X pins σ H Kv n kz f)
  (h : ∀ s' c out H', Same H H' -> H' a = none -> Inv X pins σ H' s' -> s'.heap.get? a = some (seqObj "list" out c) -> (∃ ys, Srt n kz ys /\ Vals (ys.map fun i : Nat => V.int i) out.toList) -> P (.done (.ret .none)) s') :
  wpAny (model X.prog X.w) X.A.in1.in1 (ksk_rest a f false vs.toArray e1 (.ref kS)) P E s := by
 unfold ksk_rest
 refine wpAny_bind (wpAny_rule ?_)
 rw [<-Array.forIn_toList]
 simp only [List.toList_toArray]
 refine wpAny_bind (ksk_fold (fun i s' => ∃ H' kA e, Same H H' ∧ H' kS = none ∧ H' a = none ∧ Inv X pins σ H' s' ∧ s'.heap.get? kS = some (seqObj "list" kA e) ∧ s'.heap.get? a = some (seqObj "list" #[] e1) ∧ kA.size = i ∧ ∀ (j : Nat) v, kA[j]? = some v → Kv H' v (kz j)) vs 0 s
  ⟨H, #[], 0, Same.refl _, fk.1, fa.1, I, hk, ha, rfl, fun j v z => by simp at z⟩ ?_ ?_)
 ·rintro j x s' hx ⟨H', kA, e, sm, nk, na, I', hk', ha', sz, hK⟩
  rw [Nat.zero_add] at sz ⊢
  have hj : j < vs.length := (List.getElem?_eq_some_iff.mp hx).1
  obtain ⟨t, rfl⟩ := hv j x hx
  have fk' := fk.up nk
  have fa' := fa.up na
  have I2 : Inv X ((kS, seqObj "list" kA e) :: (a, seqObj "list" #[] e1) :: pins) σ H' s' := (I'.aqg fa' ha' (fun v z => by cases z)).aqg (fk'.aqg (Ne.symm ne)) hk' (fun v z => by cases z)
  refine wpAny_bind (wpAny_attempt (wpAny_mono (key _ j t s' H' (by omega) (fun p hp => List.mem_cons_of_mem _ (List.mem_cons_of_mem _ hp)) sm I2) (fun v s'' he => ?_) fun _ _ z => z.elim))
  obtain ⟨H'', sm2, kv, I3⟩ := he
  have p1 := I3.pin (kS, seqObj "list" kA e) (List.mem_append_right _ (List.mem_cons_self ..))
  have p2 := I3.pin (a, seqObj "list" #[] e1) (List.mem_append_right _ (List.mem_cons_of_mem _ (List.mem_cons_self ..)))
  have I4 : Inv X pins σ H'' s'' := I3.sub fun p hp => List.mem_cons_of_mem _ (List.mem_cons_of_mem _ hp)
  show wpAny _ _ (Builtin.List.listUpdate (.ref kS) (·.push v) >>= fun _ => pure (ForInStep.yield PUnit.unit)) _ _ _
  refine wpAny_bind (listUpdate_at p1.1 rfl ?_ (by rw [sizeLine_eq]; omega) (Nat.le_trans (Nat.le_of_eq (Array.size_push ..)) (by rw [sizeLine_eq]; omega)))
  refine wpAny_pure ⟨rfl, H'', kA.push v, _, sm.trans sm2, p1.2.1, p2.2.1, I4.wr (t' := s''.toks) (fk.up p1.2.1), get?_update_seq p1.1 _, ((Heap.SameBut.update s''.heap kS _).2 a (Ne.symm ne)).trans p2.1, by rw [Array.size_push, sz], fun i u q => ?_⟩
  rw [Array.getElem?_push] at q
  split at q
  ·rename_i z
   cases q
   rw [z, sz]
   exact kv
  ·exact mono sm2 (hK i u q)
 ·rintro s' ⟨H', kA, e, sm, nk, na, I', hk', ha', sz, hK⟩
  refine wpAny_bind (listItems_at hk' rfl ?_)
  exact asR T I' (fk.up nk) (fa.up na) ne hk' ha' hv hl (by omega) h64 hK (inj H') fun s'' c out I'' e'' q => h s'' c out H' sm na I'' e'' q
theorem aqj {a : Addr} {c0 : Nat} {P : PySem.Fin -> Shared -> Prop} {E : Value -> Shared -> Prop} (T : ajl X Kv kd) (mono : ∀ {H H' : Hp} {v k}, Same H H' -> Kv H v k -> Kv H' v k) (inj : ∀ (H : Hp) v k k', Kv H v k -> Kv H v k' -> k = k')
  (I : Inv X pins σ H s) (fa : aeK X pins H a) (ha : s.heap.get? a = some (seqObj "list" vs.toArray c0))
  (hv : ∀ (i : Nat) (v : Value), vs[i]? = some v -> ∃ t, v = Value.int i t) (hl : vs.length = n) (h64 : n < 64) (key : aqh X pins σ H Kv n kz f)
  (h : ∀ s' c out H', Same H H' -> H' a = none -> Inv X pins σ H' s' -> s'.heap.get? a = some (seqObj "list" out c) -> (∃ ys, Srt n kz ys /\ Vals (ys.map fun i : Nat => V.int i) out.toList) -> P (.done (.ret .none)) s') :
  wpAny (model X.prog X.w) X.A.in1.in1 (ksk_tree a f false) P E s := by
 unfold ksk_tree
 refine wpAny_bind (listItems_at ha rfl ?_)
 refine wpAny_bind (listUpdate_at ha rfl ?_ (by rw [List.size_toArray, sizeLine_eq]; omega) (Nat.zero_le _))
 have I1 := I.wr (g := fun _ => #[]) (t' := s.toks) fa
 obtain ⟨e1, ha1⟩ : ∃ e1, (s.heap.update a (Obj.mapSeq fun _ => (#[] : Array Value))).get? a = some (seqObj "list" #[] e1) := ⟨_, get?_update_seq ha _⟩
 refine wpAny_bind (seqEpoch_at ha1 rfl ?_)
 refine wpAny_bind (wpAny_newTuple ?_ (by show vs.toArray.toList.length <= _; rw [List.toList_toArray, sizeLine_eq]; omega))
 refine wpAny_bind (wpAny_newList ?_ (Nat.zero_le _))
 have I2 : Inv X pins σ H { s with heap := (s.heap.update a (Obj.mapSeq fun _ => (#[] : Array Value))).push { cls := .type "tuple", data := .seq vs.toArray.toList.toArray } } := I1.kept (t' := s.toks) fun b o e => Heap.get?_push_of_some _ e
 have I3 : Inv X pins σ H { s with heap := ((s.heap.update a (Obj.mapSeq fun _ => (#[] : Array Value))).push { cls := .type "tuple", data := .seq vs.toArray.toList.toArray }).push { cls := .type "list", data := .seq ([] : List Value).toArray } } := I2.kept (t' := s.toks) fun b o e => Heap.get?_push_of_some _ e
 have lt : a < ((s.heap.update a (Obj.mapSeq fun _ => (#[] : Array Value))).push { cls := .type "tuple", data := .seq vs.toArray.toList.toArray }).objs.size := by
  rw [size_push', Heap.size_update]
  exact Nat.lt_succ_of_lt (Heap.lt_size ha)
 refine wpAny_holding ?_
 exact aqi T mono inj I3 (I2.anc (Nat.le_refl _) (I2.hok.fresh (Nat.le_refl _))) fa (Nat.ne_of_gt lt) (Heap.get?_push_size _ rfl) (Heap.get?_push_of_some _ (Heap.get?_push_of_some _ ha1)) hv hl h64 key h
theorem ajm {A : Around} {r : Addr} {n : Nat} {t u v : Tok} {Q : List Value -> Shared -> Prop} {E : Value -> Shared -> Prop} {P : Program} {w : World} (hh : A.handled = none) (hr : IsRange s.heap r 0 n 1 t u v) (hn : n <= 1000)
  (h : ∀ h' tk (vs : List Value), (∀ b o, s.heap.get? b = some o -> h'.get? b = some o) -> vs.length = n -> (∀ (i : Nat) (v : Value), vs[i]? = some v -> ∃ t, v = Value.int i t) -> Q vs { s with heap := h', toks := tk }) :
  wpAny (model P w) A (collect (.ref r)) Q E s := by
 unfold collect
 refine wpAny_bind (wpAny_runValue (codeAny_builtin F.entry_proto_collect ?_))
 rw [Around.under_plainId F.plain_proto_collect _]
 show wpAny _ A.in1 (newList [] >>= fun l => again (.builtin "list.__iadd__" ⟨[l, .ref r], []⟩)) _ _ s
 refine wpAny_bind (wpAny_newList ?_ (Nat.zero_le _))
 refine wpAny_pure ⟨plainId_quiet F.plain_list_iadd _, codeAny_builtin F.entry_list_iadd ?_⟩
 rw [Around.under_plainId F.plain_list_iadd _]
 have sz1 : Builtin.Range.rangeSize 0 (n : Int) 1 = n := by rw [rangeSize_one]; split <;> omega
 have keep : ∀ b o, s.heap.get? b = some o -> (s.heap.push { cls := .type "list", data := .seq ([] : List Value).toArray }).get? b = some o := fun b o e => Heap.get?_push_of_some _ e
 show wpAny _ A.in1 (Builtin.List.listExtendWith (.ref s.heap.objs.size) (.ref r) (.ref s.heap.objs.size)) _ _ { s with heap := s.heap.push { cls := .type "list", data := .seq ([] : List Value).toArray } }
 refine wpAny_extend_range (A := A) (R := fun r s' => match r with
  | Except.ok (Flow.ret v) => wpAny (model P w) A (match v with
   | Value.ref a => do
    let __do_lift <-load a
    match __do_lift.data with
     | Data.seq xs epoch => pure xs.toList
     | x => unsupported "internal:collect"
   | x => unsupported "internal:collect") Q E s'
  | Except.ok a => False
  | Except.error e => E e s') (s := { s with heap := s.heap.push { cls := .type "list", data := .seq ([] : List Value).toArray } }) hh (keep _ _ hr) (small_one (by omega) (by omega) (by omega) (by omega)) sz1 (by omega) s.heap.objs.size (.ref s.heap.objs.size) 0 (Heap.get?_push_size _ rfl) fun h' tk acc c hk hS hi => ?_
 show wpAny _ A (load s.heap.objs.size >>= _) _ _ _
 refine wpAny_bind (wpAny_load hS ?_)
 refine wpAny_pure (h h' tk acc.toList (fun b o e => hk b o (Nat.ne_of_lt (Heap.lt_size e)) (keep b o e)) (by rw [Array.length_toList]; exact hi.1) fun i v e => ?_)
 rw [Array.getElem?_toList] at e
 obtain ⟨t, z⟩ := hi.2 i v e
 exact ⟨t, by rw [z]; simp⟩
theorem al6 {r : Addr} {t u v : Tok} {q : Addr} {Q : Value -> Shared -> Prop} {E : Value -> Shared -> Prop} (T : ajl X Kv kd) (mono : ∀ {H H' : Hp} {v k}, Same H H' -> Kv H v k -> Kv H' v k) (inj : ∀ (H : Hp) v k k', Kv H v k -> Kv H v k' -> k = k')
  (I : Inv X pins σ H s) (hh : X.A.handled = none) (hr : IsRange s.heap r 0 n 1 t u v) (h64 : n < 64) (key : aqh X pins σ H Kv n kz (.ref q))
  (h : ∀ s' D ys H', Same H H' -> H' D = none -> Inv X pins σ (upd H' D (.lst (ys.map fun i : Nat => V.int i))) s' -> Srt n kz ys -> Q (.ref D) s') :
  wpAny (model X.prog X.w) X.A (call (.builtin "sorted") [.ref r] [(Str.ofString "key", .ref q)]) Q E s := by
 refine call_function_entry_kw kind_sorted plain_sorted entry_sorted (ksk_s1 _ _) ?_
 unfold Builtin.«sorted»
 refine wpAny_bind (m := checkCount "sorted" 1 1 _) (wpAny_pure ?_)
 refine wpAny_bind (ajm (A := X.A.in1) hh hr (by omega) fun h1 tk vs keep hl hv => ?_)
 have I1 : Inv X pins σ H { s with heap := h1, toks := tk } := I.kept keep
 refine wpAny_bind (wpAny_newList ?_ (by rw [sizeLine_eq]; omega))
 have I2 : Inv X pins σ H { s with heap := h1.push { cls := .type "list", data := .seq vs.toArray }, toks := tk } := I1.kept (t' := tk) fun b o e => Heap.get?_push_of_some _ e
 have ha : (h1.push { cls := .type "list", data := .seq vs.toArray }).get? h1.objs.size = some (seqObj "list" vs.toArray 0) := Heap.get?_push_size _ rfl
 refine wpAny_bind (wpAny_holding (wpAny_call_entry_kw slot_list_sort ⟨_, ha, rfl⟩ entry_list_sort ?_ (ksk_l1 _ _)))
 show wpAny (model X.prog X.w) X.A.in1.in1 (Builtin.«list.sort» ⟨[.ref h1.objs.size], [(Str.ofString "key", .ref q)]⟩) _ _ _
 rw [ksk_t1]
 have fa : aeK X pins H h1.objs.size := I1.anc (Nat.le_refl _) (I1.hok.fresh (Nat.le_refl _))
 refine aqj T mono inj I2 fa ha hv hl h64 key fun s' c out H' sm na I' e' ⟨ys, hs, hv'⟩ => ⟨_, rfl, ?_⟩
 refine wpAny_pure ⟨_, rfl, h s' _ ys H' sm na (I'.track (its := out.toList) (n := c) (fa.up na) e' hv' ?_) hs⟩
 have := hs.1.length_eq
 rw [List.length_map, this, List.length_range, sizeLine_eq]
 omega
end
end L2
end
section
namespace L2
open PySem PySem.Spec PyProof.Rows PySem.W
noncomputable def aqk (X : Cx) (A : Around) (N : List Str) (qual : Str) (scope : Scope) (f : Addr) (cd : Value) (s : Shared) (H : Hp) : Cx where
 prog := X.prog
 w := X.w
 K := X.K
 mg := X.mg
 base := X.base
 A := A.deeper (envX qual scope s.heap.objs.size f cd (aax X.env.cells scope.names []))
 N := N
 s₀ := s
 H₀ := H
 env := envX qual scope s.heap.objs.size f cd (aax X.env.cells scope.names [])
 outer := X.stack
 stack := envX qual scope s.heap.objs.size f cd (aax X.env.cells scope.names []) :: X.stack
 ex := []
 fn := fun _ => false
 calm := true
 pn := []
 xe := fun _ _ => False
structure an2 (sc : Scope) (No : List Str) (x : Str) (Ns : List Str) (src : List (Option Nat)) (scope : Scope) : Prop where
 c : ahd sc No (x :: Ns) (none :: src) scope
 ao2 : ∀ y ∈ scope.names, y.2 ≠ .cell
 par : scope.names.lookup x = some .local
 co : scope.isCoroutine = false
 gen : scope.isGenerator = false
section
variable {X : Cx} {pins : List (Addr × Obj)} {σ : St} {H : Hp} {s : Shared} {sc scope : Scope} {No Ns : List Str} {src : List (Option Nat)} {x qual : Str}
theorem al7 {A : Around} {f : Addr} {cd : Value} {h₁ : Heap} {tk : Nat} {v : V} {u : Value} (hsc : X.env.scope = sc) (hNo : X.N = No) (S : an2 sc No x Ns src scope) (hfr : A.frames = some X.stack) (hhd : A.handled = none) (I : Inv X pins σ H s) (rv : RelV v u)
  (hns : h₁.Ns s.heap.objs.size (fun y => ([(x, u)] : List (Str × Value)).reverse.lookup y)) (old : ∀ b o, s.heap.get? b = some o -> h₁.get? b = some o) :
  Inv (aqk X A (x :: Ns) qual scope f cd s H) [] (some v :: aeW src σ) H { s with heap := h₁, toks := tk } := by
 subst hsc
 subst hNo
 have agx : ∀ x c, (aax X.env.cells scope.names []).lookup x = some c -> X.env.cells.lookup x = some c := fun x c h => by
  rcases abx h with q | q
  ·simp at q
  ·exact q
 refine ⟨⟨I.ok.mod, S.c.kind, rfl, rfl, Nat.le_refl _, fun x y c h1 h2 => I.ok.inj x y c (agx _ _ h1) (agx _ _ h2), fun y hy => ?_, fun x c h => (Bool.false_ne_true h).elim, fun _ => hhd, Around.frames_deeper hfr, .inr ⟨rfl, rfl⟩, fun b hb => absurd (show b ∈ ([] : List Addr) from hb) (by simp),
   I.bs, Nat.le_trans I.ok.bsz I.sz, fun b o e => by intro hb; exact absurd (show b ∈ ([] : List Addr) from hb) (by simp), fun b hb => absurd (show b ∈ ([] : List Addr) from hb) (by simp), I.stack, I.ahv⟩,
  rfl, I.bare, Un.kept old, ⟨_, hns, fun i y w' h1 h2 h3 => ?_⟩, fun y c e => ?_, I.hok.fresh (Nat.le_refl _), fun y c e => I.agf y c (agx y c e), fun p hp => absurd (show p ∈ ([] : List (Addr × Obj)) from hp) (by simp), I.hok.kept old, ?_⟩
 ·have hy : scope.names.lookup y = some .cell \/ scope.names.lookup y = some .free := hy
  have m : (y, NameKind.free) ∈ scope.names := by
   rcases hy with z | z
   ·exact absurd rfl (S.ao2 _ (PySem.mem_of_lookup z))
   ·exact PySem.mem_of_lookup z
  have q := abC (cells := X.env.cells) (acc := []) (.inr ⟨m, by
   obtain ⟨c, e⟩ := I.ok.has y (S.c.free _ m rfl)
   rw [e]; rfl⟩)
  exact Option.isSome_iff_exists.mp q
 ·cases i with
  | zero =>
   have h1 : some x = some y := h1
   cases h1
   have h2 : some (some v) = some (some w') := h2
   cases h2
   exact ⟨u, rv, .inl ⟨S.par, by show ([(x, u)] : List (Str × Value)).reverse.lookup x = some u; simp⟩⟩
  | succ i =>
   have h1 : Ns[i]? = some y := h1
   have h2 : (aeW src σ)[i]? = some (some w') := h2
   have hi : i < src.length := by
    unfold aeW at h2
    have := (List.getElem?_eq_some_iff.mp h2).1
    simpa using this
   have h2' : ((src[i]).bind fun j => (σ[j]?).join) = some w' := by
    unfold aeW at h2
    rw [List.getElem?_map, List.getElem?_eq_getElem hi] at h2
    exact Option.some.inj h2
   cases es : src[i] with
   | none => rw [es] at h2'; cases h2'
   | some j =>
    rw [es] at h2'
    have hj : σ[j]? = some (some w') := by
     have z : (σ[j]?).join = some w' := h2'
     cases q : σ[j]? with
     | none => rw [q] at z; cases z
     | some o => rw [q] at z; have z' : o = some w' := z; rw [z']
    have hz : (y, some j) ∈ (x :: Ns).zip (none :: src) := by
     refine List.mem_of_getElem? (i := i + 1) ?_
     rw [List.getElem?_zip_eq_some]
     exact ⟨by simpa using h1, by simp [List.getElem?_eq_getElem hi, es]⟩
    obtain ⟨u1, u2⟩ := S.c.up _ hz j rfl
    have m : (y, NameKind.free) ∈ scope.names := PySem.mem_of_lookup u2
    have kx := S.c.free _ m rfl
    obtain ⟨m0, hn0, hl0⟩ := id I.loc
    obtain ⟨u', r, lk⟩ := hl0 j y w' u1 hj (kx.elim (fun z => .inr (.inl z)) fun z => .inr (.inr z))
    refine ⟨u', r, ?_⟩
    rcases lk with ⟨k, _⟩ | ⟨_, c, e, ic⟩
    ·have k' : X.env.scope.names.lookup y = some .local := k
     rcases kx with z | z <;> (rw [z] at k'; cases k')
    ·refine .inr ⟨.inr u2, c, ?_, ?_⟩
     ·have q := abC (cells := X.env.cells) (acc := []) (.inr ⟨m, by rw [e]; rfl⟩)
      obtain ⟨c', e'⟩ := Option.isSome_iff_exists.mp q
      have e2 := agx y c' e'
      rw [e] at e2; cases e2
      exact e'
     ·obtain ⟨o, ho, hd⟩ := ic
      exact ⟨o, old _ _ ho, hd⟩
 ·obtain ⟨v, o, ho, hd⟩ := I.cell y c (agx y c e)
  exact ⟨v, o, old _ _ ho, hd⟩
 ·have := S.c.len
  show _ = (x :: Ns).length
  rw [List.length_cons] at this ⊢
  rw [List.length_cons]
  unfold aeW
  rw [List.length_map]
  exact this
theorem an3 {A : Around} {f c' : Addr} {params : Arguments} {body : Expr} {pm ctv : Value} {v : V} {u : Value} {te : TE} {Q : VK} {E : Value -> Shared -> Prop} (hsc : X.env.scope = sc) (hNo : X.N = No) (S : an2 sc No x Ns src scope) (hfr : A.frames = some X.stack) (hhd : A.handled = none) (hroom : A.depth < recursionLimit)
  (I : Inv X pins σ H s) (ho : s.heap.get? f = some (kla_obj "<lambda>" qual params body scope (aax X.env.cells scope.names []) pm c' ctv)) (hcd : s.heap.CodeRec (.ref c') qual) (rv : RelV v u)
  (hbind : bindArgs (kla_fn "<lambda>" qual params body scope (aax X.env.cells scope.names []) pm (.ref c') ctv) ⟨[u], []⟩ = pure [(x, u)])
  (he : ∀ s H, PE (aqk X A (x :: Ns) qual scope f (.ref c') s H) body te) (hq : te (some v :: aeW src σ) H Q) : wpAny (model X.prog X.w) A (call (.ref f) [u]) (EP X pins σ Q) E s := by
 refine wpAny_call (kla_callFunE hroom ho rfl S.co S.gen rfl hcd ?_)
 rw [hbind]
 refine wpAny_pure (wpAny_newFunctionEnv S.ao2 (fun y hy => ?_) (fun h₁ hns hsb => ⟨I.nolimit.fresh _ hsb, ?_⟩) S.c.kind)
 ·have : y = (x, u) := by simpa using hy
  subst this
  exact S.par
 have old : ∀ b o, s.heap.get? b = some o -> h₁.get? b = some o := fun b o e => hsb.extBut b o (Nat.ne_of_lt (Heap.lt_size e)) (Heap.get?_push_of_some _ e)
 have J := al7 (A := A) (f := f) (cd := .ref c') (qual := qual) (tk := s.toks + [(x, u)].length) hsc hNo S hfr hhd I rv hns old
 show codeAny _ _ (.expr body (envX qual scope s.heap.objs.size f (.ref c') (aax X.env.cells scope.names []))) _ _
 refine kla_codeExpr (wpAny_mono (he s H [] _ _ H Q J hq) (fun w' s' hw => ?_) fun _ _ z => z.elim)
 obtain ⟨v', H', J', r', q'⟩ := hw
 exact ⟨v', H', I.call' (ch := []) J'.os J'.base J'.hok J'.bare (fun b hb => absurd hb (by simp)), r', q'⟩
end
end L2
end
section
namespace L2
open PySem PySem.Spec PyProof.Rows PySem.W
noncomputable def an4 (mg : Str → Option Value) (base : Heap) : Prop := ∃ bm ob, mg "__builtins__" = some (.ref bm) ∧ bm ≠ builtinsNs ∧ bm ≠ mainGlobals ∧ base.get? bm = some ob ∧ ob.cls = .type "module" ∧ ob.dict = some builtinsNs ∧ ob.data = .plain
theorem aiG {a b : Int} {t u : Tok} {c : Value} : ∀ {l : List Value}, TriplesOk l -> TriplesOk (l ++ [.int a t, .int b u, c])
 | [], _ => trivial
 | .int _ _ :: .int _ _ :: _ :: r, h => aiG (l := r) h
theorem ahk {a b : Int} {t u : Tok} {c v : Value} {pos : Pos} : ∀ {l : List Value}, TriplesOk l -> codeAmong pos (l ++ [.int a t, .int b u, c]) = some v -> codeAmong pos l = some v \/ v = c
 | [], _, h => by
  have h : (if _ then some c else none) = some v := h
  split at h
  ·cases h; exact .inr rfl
  ·cases h
 | .int x _ :: .int y _ :: z :: r, o, h => by
  have h : (if (x == pos.line && y == pos.col) = true then some z else codeAmong pos (r ++ [.int a t, .int b u, c])) = some v := h
  show (if (x == pos.line && y == pos.col) = true then some z else codeAmong pos r) = some v \/ _
  split at h
  ·rename_i q
   rw [if_pos q]
   exact .inl h
  ·rename_i q
   rw [if_neg q]
   exact ahk (l := r) o h
section
variable {X : Cx} {pins : List (Addr × Obj)} {σ : St} {H : Hp} {s : Shared} {sc scope : Scope} {No Ns : List Str} {src : List (Option Nat)} {x : Str}
structure auC (P : Addr) (q : Str) (H H' : Hp) : Prop where
 kp : ∀ b o, H b = some o -> b ≠ P -> H' b = some o
 tb : ∃ ps, H' P = some (.tbl ps) /\ auv H' q ps
theorem an5 {A : Around} {c P : Addr} {ps : Array Value} {params : Arguments} {body : Expr} {pos : Pos} {Q : Value -> Shared -> Prop} {E : Value -> Shared -> Prop} (hsc : X.env.scope = sc) (S : an2 sc No x Ns src scope) (hcode : X.env.code = .ref c) (C : CodeHd X.base c P) (B : an4 X.mg X.base)
  (hdef : defaultsOf params X.env = ([], [])) (I : Inv X pins σ H s) (hP : H P = some (.tbl ps)) (ok : auv H (X.env.qual ++ ("<lambda>" : Str)) ps)
  (h : ∀ f c' ctv pm H' s' oc, auC P (X.env.qual ++ ("<lambda>" : Str)) H H' → Inv X ((f, kla_obj "<lambda>" (X.env.qual ++ ("<lambda>" : Str)) params body scope (aax X.env.cells scope.names []) pm c' ctv) :: pins) σ H' s' → H' c' = some (.frz oc (.own 0)) → aoP oc (X.env.qual ++ ("<lambda>" : Str)) → Q (.ref f) s') :
  wpAny (model X.prog X.w) A (eval (.Lambda params body scope pos) X.env) Q E s := by
 have hcl : closureFor scope X.env = pure (aax X.env.cells scope.names []) := afn fun y hy e => by
  have k := S.c.free y hy e
  rw [<-hsc] at k
  obtain ⟨c, q⟩ := I.ok.has y.1 k
  rw [q]; rfl
 have oP : s.heap.get? P = some (tabObj ps) := I.hok P _ hP
 have nP : mainGlobals ≠ P := fun z => by
  obtain ⟨o, es, ep, e, hd, _⟩ := I.ok.mod.glob
  have := (I.bs _ _ e).2
  rw [z, hP] at this
  cases this
 have hg : s.heap.Ns mainGlobals X.mg := let ⟨o, es, ep, e, r⟩ := I.ok.mod.glob; ⟨o, es, ep, I.bk _ _ e, r⟩
 have hB : s.heap.BuiltinsAt X.mg P := by
  obtain ⟨bm, ob, b1, b2, b3, b4, b5, b6, b7⟩ := B
  refine ⟨bm, ob, b1, b2, b3, fun z => ?_, I.bk _ _ b4, b5, b6, b7⟩
  have := (I.bs _ _ b4).2
  rw [z, hP] at this
  cases this
 have C' : CodeHd s.heap c P := C.keeps I.bk
 refine kla_eval hdef ?_
 cases hf : codeAmong pos ps.toList with
 | some cv =>
  obtain ⟨c', oc, rfl, e1, e2⟩ := ok.2 pos cv hf
  refine kla_makeFunctionHit (mg := X.mg) hcl I.ok.glob hg hcode C' oP ok.1 hf hB fun ctv h' tk keep hsz => ?_
  have I1 : Inv X pins σ H { s with heap := h', toks := tk } := I.kept keep
  have I2 : Inv X pins σ H { s with heap := h'.push (kla_obj "<lambda>" (X.env.qual ++ ("<lambda>" : Str)) params body scope (aax X.env.cells scope.names []) ((X.mg "__name__").getD .none) c' ctv), toks := tk } := I1.kept (t' := tk) fun b o e => Heap.get?_push_of_some _ e
  refine h _ c' ctv _ H _ oc ⟨fun _ _ q _ => q, ps, hP, ok⟩ (I2.aqg (I1.anc (Nat.le_refl _) (I1.hok.fresh (Nat.le_refl _))) (Heap.get?_push_size _ rfl) (fun v z => by cases z)) e1 e2
 | none =>
  refine kla_makeFunction (mg := X.mg) hcl I.ok.glob hg hcode C' oP ok.1 hf nP hB fun c' ctv h' tk ext hge hlt hrec htb => ?_
  obtain ⟨c2, oc, vs, t, e2, hoc, hd, hv⟩ := hrec
  cases e2
  have nc : H c' = none := I.hok.fresh hge
  have cP : c' ≠ P := fun z => by rw [z, hP] at nc; cases nc
  have ne : ∀ b u, H b = some u -> b ≠ c' := fun b u q => aaT q nc
  have up : ∀ b u, H b = some u -> b ≠ P -> (upd (upd H P (.tbl (ps ++ #[rawInt pos.line, rawInt pos.col, .ref c']))) c' (.frz oc (.own 0))) b = some u := fun b u q z => by rw [aaH (ne b u q), aaH z]; exact q
  have upP : (upd (upd H P (.tbl (ps ++ #[rawInt pos.line, rawInt pos.col, .ref c']))) c' (.frz oc (.own 0))) P = some (.tbl (ps ++ #[rawInt pos.line, rawInt pos.col, .ref c'])) := by rw [aaH (Ne.symm cP)]; exact aa9
  have keep : ∀ b o, b ≠ P -> s.heap.get? b = some o -> h'.get? b = some o := fun b o z e => ext b o z e
  have hok : HOk X.prog X.w (upd (upd H P (.tbl (ps ++ #[rawInt pos.line, rawInt pos.col, .ref c']))) c' (.frz oc (.own 0))) h' := fun b u q => by
   by_cases z1 : b = c'
   ·subst z1
    rw [aa9] at q
    cases q
    exact ⟨hoc, oc, hoc⟩
   ·by_cases z2 : b = P
    ·subst z2
     rw [upP] at q
     cases q
     exact htb
    ·rw [aaH z1, aaH z2] at q
     refine (I.hok b u q).stay (fun d v hd' e => keep d v ?_ e) (fun d z => up d _ z ?_) fun d ys z => up d _ z ?_
     ·rcases hd' with rfl | hd'
      ·exact z2
      ·rintro rfl
       rw [hP] at hd'
       cases hd'
     ·rintro rfl
      rw [hP] at z
      cases z
     ·rintro rfl
      rw [hP] at z
      cases z
  have aq6 : ∀ b, H b = none -> b ≠ P := fun b n z => by rw [z, hP] at n; cases n
  have I1 : Inv X pins σ (upd (upd H P (.tbl (ps ++ #[rawInt pos.line, rawInt pos.col, .ref c']))) c' (.frz oc (.own 0))) { s with heap := h', toks := tk } :=
   I.step (h' := h') (g' := s.gens) (d' := s.drawn) (t' := tk) (ch := []) (fun _ z => nomatch z) (fun b o _ _ _ e n => keep b o (aq6 b n) e) (fun b o _ _ _ e n => ⟨o.slots, keep b o (aq6 b n) e⟩)
    (fun b o _ e n => by
     rw [aaH (fun z => by rw [z] at e; exact absurd (Heap.lt_size e) (Nat.not_lt.mpr hge)), aaH (aq6 b n)]; exact n)
    (fun b o _ e => by
     by_cases z : b = P
     ·subst z; exact ⟨_, htb⟩
     ·exact ⟨o, keep b o z e⟩)
    (fun b ys q => up b _ q (by rintro rfl; rw [hP] at q; cases q)) (fun b o u q => up b _ q (by rintro rfl; rw [hP] at q; cases q))
    (fun b qs q => by
     by_cases z : b = P
     ·subst z
      rw [hP] at q
      cases q
      exact ⟨_, upP⟩
     ·exact ⟨#[], by rw [up b _ q z]; simp⟩)
    (fun m q => q.extBut ext (aq6 _ I.free)) hok I.bare
  have I2 := I1.kept (t' := tk) (h' := h'.push (kla_obj "<lambda>" (X.env.qual ++ ("<lambda>" : Str)) params body scope (aax X.env.cells scope.names []) ((X.mg "__name__").getD .none) c' ctv)) fun b o e => Heap.get?_push_of_some _ e
  refine h _ c' ctv _ _ _ oc ⟨up, _, upP, ?_, fun pos' v q => ?_⟩ (I2.aqg (I1.anc (Nat.le_refl _) (I1.hok.fresh (Nat.le_refl _))) (Heap.get?_push_size _ rfl) (fun v z => by cases z)) aa9 ⟨vs, t, hd, hv⟩
  ·have : (ps ++ #[rawInt pos.line, rawInt pos.col, .ref c']).toList = ps.toList ++ [rawInt pos.line, rawInt pos.col, .ref c'] := by simp
   rw [this]
   exact aiG ok.1
  ·have : (ps ++ #[rawInt pos.line, rawInt pos.col, .ref c']).toList = ps.toList ++ [rawInt pos.line, rawInt pos.col, .ref c'] := by simp
   rw [this] at q
   rcases ahk ok.1 q with q | q
   ·obtain ⟨d, o, z1, z2, z3⟩ := ok.2 pos' v q
    exact ⟨d, o, z1, up d _ z2 (by rintro rfl; rw [hP] at z2; cases z2), z3⟩
   ·exact ⟨c', oc, q, aa9, vs, t, hd, hv⟩
end
end L2
end
section
namespace L2
open PySem PySem.Spec PyProof.Rows PySem.W
noncomputable abbrev KW := Hp -> V -> Int × Int -> Prop
noncomputable def kwI : KW := fun _ v k => v = .int k.1 /\ k.2 = 0
noncomputable def al8 (Kw : KW) (P : Addr) (q : Str) (src : List (Option Nat)) (ta : TA) (te : TE) : TE := fun σ H Q => ta σ H fun vs H1 => ∃ (n : Nat) (kz : Nat -> Int × Int), vs = [.int n] /\ n < 64 /\ (∃ ps, H1 P = some (.tbl ps) /\ auv H1 q ps) /\ ∀ H2, auC P q H1 H2 ->
 (∀ (i : Nat), i < n -> ∀ H3, Same H2 H3 -> te (some (.int i) :: aeW src σ) H3 fun v H4 => Kw H4 v (kz i) /\ Same H3 H4) /\ ∀ D (ys : List Nat) H3, Same H2 H3 -> H3 D = none -> Srt n kz ys -> Q (.ref D) (upd H3 D (.lst (ys.map fun i : Nat => V.int i)))
section
variable {X : Cx} {sc scope : Scope} {No Ns : List Str} {src : List (Option Nat)} {x : Str} {Kw : KW} {kd : SortKind}
theorem an6 {k : Nat} {c P : Addr} {e : Expr} {params : Arguments} {body : Expr} {p p2 pos pos2 axB kp : Pos} {ta : TA} {te : TE} (T : ajl X (fun H u k => ∃ v, RelV v u /\ Kw H v k) kd) (mono : ∀ {H H' : Hp} {v k}, Same H H' -> Kw H v k -> Kw H' v k) (inj : ∀ (H : Hp) u k k', (∃ v, RelV v u /\ Kw H v k) -> (∃ v, RelV v u /\ Kw H v k') -> k = k')
  (hr : afN k X.A) (h1 : X.mg "sorted" = none) (h2 : X.mg "range" = none) (hsc : X.env.scope = sc) (hNo : X.N = No) (S : an2 sc No x Ns src scope) (hcode : X.env.code = .ref c) (C : CodeHd X.base c P) (B : an4 X.mg X.base) (hdef : defaultsOf params X.env = ([], []))
  (ha : PA X [e] ta) (hbind : ∀ (pm cd ctv u : Value), bindArgs (kla_fn "<lambda>" (X.env.qual ++ ("<lambda>" : Str)) params body scope (aax X.env.cells scope.names []) pm cd ctv) ⟨[u], []⟩ = pure [(x, u)])
  (he : ∀ A f cd s H, PE (aqk X A (x :: Ns) (X.env.qual ++ ("<lambda>" : Str)) scope f cd s H) body te)
  (hg : X.env.kindOf "sorted" = some .globalImplicit := by kernel_rfl) (hg2 : X.env.kindOf "range" = some .globalImplicit := by kernel_rfl) (hs : notStar e = true := by kernel_rfl) :
  PE X (.Call (.Name "sorted" p) [.Call (.Name "range" p2) [e] [] pos2] [⟨some (Str.ofString "key"), .Lambda params body scope axB, kp⟩] pos) (al8 Kw P (X.env.qual ++ ("<lambda>" : Str)) src ta te) := by
 intro pins s σ H Q I h
 refine wpAny_Call_Name_kw (afD I hg h1 (by decide +kernel : bootBuiltins "sorted" = some (.builtin "sorted")) ?_ (by decide +kernel) (by kernel_rfl))
 refine callWith_kw (Calls.spliced_cons (wpAny_Call_Name_kw (afD I hg2 h2 boot_range (PyProof.Rows.callWith_type1 (thn (ha pos2 pins s σ H _ I h) fun us s1 ⟨vs, H1, I1, r1, q1⟩ => ?_) (ad3 hs) rfl) (by decide +kernel) (by kernel_rfl))))
 obtain ⟨n, kz, rfl, h64, ⟨ps, hP, ok⟩, hq⟩ := q1
 obtain ⟨u1, rfl, t1, rfl⟩ := vals1 r1
 refine call_range_1 ?_
 have rfp : aeK X pins H1 s1.heap.objs.size := I1.anc (Nat.le_refl _) (I1.hok.fresh (Nat.le_refl _))
 have I2 : Inv X pins σ H1 { s1 with heap := s1.heap.push { cls := .type "range", data := .fields #[.int 0 s1.toks, .int n t1, .int 1 (s1.toks + 1)] }, toks := s1.toks + 1 + 1 } := I1.kept fun b o e => Heap.get?_push_of_some _ e
 have I3 := I2.aqg rfp (Heap.get?_push_size _ rfl) (fun v z => by cases z)
 refine Calls.spliced_nil ?_
 refine kws_cons (an5 hsc S hcode C B hdef I3 hP ok fun f c' ctv pm H2 s2 oc lh I4 e1 e2 => ?_)
 refine kws_nil ?_
 have pr := I4.pin _ (List.mem_append_right _ (List.mem_cons_of_mem _ (List.mem_cons_self ..)))
 obtain ⟨key, fin⟩ := hq H2 lh
 show wpAny _ _ (call (.builtin "sorted") [.ref s1.heap.objs.size] [(Str.ofString "key", .ref f)]) _ _ _
 refine al6 T (fun {H H' u k} sm ⟨v, a1, a2⟩ => ⟨v, a1, mono sm a2⟩) inj I4 hr.hd pr.1 h64 (fun agS i t s' H' hi sub sm I' => ?_) fun s' D ys H3 sm nD I' hs' => ⟨.ref D, _, I'.sub fun p hp => List.mem_cons_of_mem _ (List.mem_cons_of_mem _ hp), rfl, fin D ys H3 sm nD hs'⟩
 have pf := I'.pin _ (List.mem_append_right _ (sub _ (List.mem_cons_self ..)))
 have hcd : s'.heap.CodeRec (.ref c') (X.env.qual ++ ("<lambda>" : Str)) := by
  obtain ⟨vs, t, a1, a2⟩ := e2
  exact ⟨c', oc, vs, t, rfl, (I'.hok c' _ (sm _ _ e1)).1, a1, a2⟩
 refine thn (an3 (A := X.A.in1.in1) (v := .int i) (te := te) (Q := fun v H4 => Kw H4 v (kz i) /\ Same H' H4) hsc hNo S I.ok.frames hr.hd hr.depth I' pf.1 hcd ⟨t, rfl⟩ (hbind _ _ _ _) (fun s H => he _ _ _ _ _) (key i hi H' sm)) fun u s'' ⟨v, H4, I'', rv, q1, q2⟩ => ⟨H4, q2, ⟨v, rv, q1⟩, I''⟩
theorem asS : ajl X (fun H u k => ∃ v, RelV v u /\ kwI H v k) oneType' where
 kind := fun H keys kz h2 hk pins σ s Q E I q => asQ.kind H keys kz h2 (fun i v e => by
  obtain ⟨w, r, rfl, z⟩ := hk i v e
  obtain ⟨t, rfl⟩ := r
  exact ⟨t, rfl, z⟩) I q
 ask := fun a₀ kf I h => asQ.ask a₀ kf I fun p hp => by
  obtain ⟨w, r, z1, z⟩ := h p hp
  subst z1
  obtain ⟨t, r⟩ := r
  exact ⟨t, r, z⟩
theorem aql (H : Hp) (u : Value) (k k' : Int × Int) (h : ∃ v, RelV v u /\ kwI H v k) (h' : ∃ v, RelV v u /\ kwI H v k') : k = k' := by
 obtain ⟨v, r, rfl, z⟩ := h
 obtain ⟨v', r', rfl, z'⟩ := h'
 obtain ⟨t, rfl⟩ := r
 obtain ⟨t', r'⟩ := r'
 injection r' with r' _
 exact Prod.ext r' (z.trans z'.symm)
end
end L2
end
section
namespace L2
open PySem PySem.Spec PyProof.Rows PySem.W
noncomputable def bfr (kz : Nat -> Int × Int) (i j : Nat) : Prop := ((kz i).1 < (kz j).1 \/ ((kz i).1 = (kz j).1 /\ (kz i).2 < (kz j).2)) \/ (((kz i).1 = (kz j).1 /\ (kz i).2 = (kz j).2) /\ i < j)
noncomputable instance {kz : Nat -> Int × Int} {i j : Nat} : Decidable (bfr kz i j) := by unfold bfr; infer_instance
noncomputable def an7 (kz : Nat -> Int × Int) (i : Nat) : List Nat -> List Nat
 | [] => [i]
 | j :: r => if bfr kz i j then i :: j :: r else j :: an7 kz i r
noncomputable def al9 (n : Nat) (kz : Nat -> Int × Int) : List Nat := (List.range n).foldr (an7 kz) []
theorem agy (kz : Nat -> Int × Int) (i : Nat) : ∀ l, (an7 kz i l).Perm (i :: l)
 | [] => .refl _
 | j :: r => by
  unfold an7
  split
  ·exact .refl _
  ·exact ((agy kz i r).cons j).trans (.swap i j r)
theorem ama (kz : Nat -> Int × Int) (i : Nat) : ∀ l, (∀ j ∈ l, i ≠ j) -> l.Pairwise (bfr kz) -> (an7 kz i l).Pairwise (bfr kz)
 | [], _, _ => by simp [an7]
 | j :: r, hn, hp => by
  have hp' := List.pairwise_cons.mp hp
  unfold an7
  split
  ·rename_i b
   refine List.pairwise_cons.mpr ⟨fun k hk => ?_, hp⟩
   rcases List.mem_cons.mp hk with rfl | hk
   ·exact b
   ·have := hp'.1 k hk
    unfold bfr at b this ⊢
    omega
  ·rename_i b
   refine List.pairwise_cons.mpr ⟨fun k hk => ?_, ama kz i r (fun k hk => hn k (List.mem_cons_of_mem _ hk)) hp'.2⟩
   rcases List.mem_cons.mp ((agy kz i r).mem_iff.mp hk) with rfl | hk
   ·have := hn j (List.mem_cons_self ..)
    unfold bfr at b ⊢
    omega
   ·exact hp'.1 k hk
theorem aiH (kz : Nat -> Int × Int) : ∀ l : List Nat, l.Nodup -> (l.foldr (an7 kz) []).Perm l /\ (l.foldr (an7 kz) []).Pairwise (bfr kz)
 | [], _ => ⟨.refl _, .nil⟩
 | i :: r, nd => by
  have nd' := List.nodup_cons.mp nd
  obtain ⟨h1, h2⟩ := aiH kz r nd'.2
  exact ⟨(agy kz i _).trans (h1.cons i), ama kz i _ (fun j hj z => nd'.1 (by rw [z]; exact h1.mem_iff.mp hj)) h2⟩
theorem aiI (n : Nat) (kz : Nat -> Int × Int) : Srt n kz (al9 n kz) := aiH kz _ List.nodup_range
theorem amb {R : Nat -> Nat -> Prop} (as : ∀ a b, R a b -> ¬ R b a) : ∀ {l m : List Nat}, l.Perm m -> l.Pairwise R -> m.Pairwise R -> l = m
 | [], m, p, _, _ => by rw [List.nil_perm.mp p]
 | a :: l, [], p, _, _ => by simpa using p.length_eq
 | a :: l, b :: m, p, h1, h2 => by
  have h1' := List.pairwise_cons.mp h1
  have h2' := List.pairwise_cons.mp h2
  have e : a = b := by
   rcases List.mem_cons.mp (p.mem_iff.mp (List.mem_cons_self ..)) with z | z
   ·exact z
   ·rcases List.mem_cons.mp (p.mem_iff.mpr (List.mem_cons_self (a := b))) with y | y
    ·exact y.symm
    ·exact (as _ _ (h1'.1 b y) (h2'.1 a z)).elim
  subst e
  rw [amb as p.cons_inv h1'.2 h2'.2]
theorem Srt.eq {n : Nat} {kz : Nat -> Int × Int} {ys : List Nat} (h : Srt n kz ys) : ys = al9 n kz := by
 have g := aiI n kz
 refine amb (R := bfr kz) (fun a b h1 h2 => ?_) (h.1.trans g.1.symm) h.2 g.2
 unfold bfr at h1 h2
 omega
noncomputable abbrev RF := List (Option Tr) -> Rs Tr
noncomputable def QS (K : PySem.W.Frag) (te : TE) (f : RF) : Prop := ∀ (W : Addr -> Prop) (σ : St) (H : Hp) (Q : VK) (ts : List (Option Tr)) (T : Tr), (∀ b, W b -> Lt H b) -> (∀ (i : Nat) U, ts[i]? = some (some U) -> ∃ v, σ[i]? = some (some v) /\ Rp K W H v U) -> f ts = .ok T ->
 (∀ v H', Same H H' -> Rp K W H' v T -> Q v H') -> te σ H Q
theorem Rp.up {K : PySem.W.Frag} {W : Addr -> Prop} {H H' : Hp} {v : V} {T : Tr} (h : Rp K W H v T) (s : Same H H') : Rp K W H' v T := by
 have m : Same (aaY W H) (aaY W H') := (Stp.of s).off
 rcases h with h | ⟨a, xs, ts, e1, e2, e, r⟩
 ·exact .inl (h.mono m)
 ·exact .inr ⟨a, xs, ts, e1, e2, s _ _ e, r.mono m⟩
section
variable {K : PySem.W.Frag} {ta tb : TE} {fa fb : RF}
noncomputable def an8 (i : Nat) : RF := fun ts => match ts[i]? with
 | some (some U) => .ok U
 | _ => .bad
theorem ao3 (i : Nat) : QS K (akH i) (an8 i) := fun W σ H Q ts T hw h e q => by
 unfold an8 at e
 split at e
 ·rename_i U z
  cases e
  obtain ⟨v, h1, h2⟩ := h i _ z
  exact ⟨v, h1, q v H (Same.refl _) h2⟩
 ·cases e
noncomputable def rOp (g : G2) (fa fb : RF) : RF := fun ts => (fa ts).bind fun a => (fb ts).bind fun b => (g a b).bind fun z => .ok z.1
theorem avD {r : R2} {g : G2} (o : OpT K r g) (ha : QS K ta fa) (hb : QS K tb fb) : QS K (tOp r ta tb) (rOp g fa fb) := fun W σ H Q ts T hw h e q => by
 unfold rOp at e
 obtain ⟨a, e1, e⟩ := aaV e
 obtain ⟨b, e2, e⟩ := aaV e
 obtain ⟨z, e3, e⟩ := aaV e
 cases e
 refine ha W σ H _ ts a hw h e1 fun x H1 s1 r1 => ?_
 refine hb W σ H1 _ ts b (fun b w => (hw b w).grow s1) (fun i U z => let ⟨v, h1, h2⟩ := h i U z; ⟨v, h1, h2.up s1⟩) e2 fun y H2 s2 r2 => ?_
 refine o W x y a b H2 Q (fun b w => (hw b w).grow (s1.trans s2)) (r1.up s2) r2 ?_
 rw [e3]
 intro v H3 s3 v3
 refine q v H3 ((s1.trans s2).trans s3) (.inl ?_)
 exact VOk.rep (fun b w => ((hw b w).grow (s1.trans s2)).ne) v3
noncomputable def rUn (g : G1) (fa : RF) : RF := fun ts => (fa ts).bind fun a => (g a).bind fun z => .ok z.1
theorem avE {r : V -> Hp -> VK -> Prop} {g : G1} (o : UnT K r g) (ha : QS K ta fa) : QS K (tUn r ta) (rUn g fa) := fun W σ H Q ts T hw h e q => by
 unfold rUn at e
 obtain ⟨a, e1, e⟩ := aaV e
 obtain ⟨z, e3, e⟩ := aaV e
 cases e
 refine ha W σ H _ ts a hw h e1 fun x H1 s1 r1 => ?_
 refine o W x a H1 Q (fun b w => (hw b w).grow s1) r1 ?_
 rw [e3]
 intro v H3 s3 v3
 refine q v H3 (s1.trans s3) (.inl ?_)
 exact VOk.rep (fun b w => ((hw b w).grow s1).ne) v3
end
noncomputable def slT (ρ : En) (j : Nat) : Option Tr := match ρ[j]? with
 | some (.sh T) => some T
 | some (.ow ts) => some (.lst ts)
 | some (.rf ts) => some (.lst ts)
 | _ => none
noncomputable def amc (src : List (Option Nat)) (ρ : En) : List (Option Tr) := src.map fun o => o.bind (slT ρ)
noncomputable def asT : Tr -> Option (Int × Int)
 | .int i => some (i, 0)
 | _ => none
noncomputable def ajn (kt : Tr -> Option (Int × Int)) (fb : RF) (ts : List (Option Tr)) : List Nat -> Rs (List (Int × Int))
 | [] => .ok []
 | i :: r => (fb (some (Tr.int i) :: ts)).bind fun T => match kt T with
  | some k => (ajn kt fb ts r).bind fun ks => .ok (k :: ks)
  | none => .bad
theorem aiJ {kt : Tr -> Option (Int × Int)} {fb : RF} {ts : List (Option Tr)} : ∀ {l : List Nat} {ks : List (Int × Int)}, ajn kt fb ts l = .ok ks -> ks.length = l.length /\ ∀ (j i : Nat), l[j]? = some i -> ∃ T k, fb (some (Tr.int i) :: ts) = .ok T /\ kt T = some k /\ ks[j]? = some k
 | [], ks, h => by cases h; exact ⟨rfl, fun j i z => by simp at z⟩
 | a :: l, ks, h => by
  unfold ajn at h
  obtain ⟨T, e1, h⟩ := aaV h
  split at h
  ·rename_i k e2
   obtain ⟨ks', e3, h⟩ := aaV h
   cases h
   obtain ⟨h1, h2⟩ := aiJ e3
   refine ⟨by simp [h1], fun j i z => ?_⟩
   cases j with
   | zero => simp at z; subst z; exact ⟨T, k, e1, e2, by simp⟩
   | succ j => simpa using h2 j i (by simpa using z)
  ·cases h
noncomputable def akm (kt : Tr -> Option (Int × Int)) (src : List (Option Nat)) (fa : AF) (fb : RF) : EF := fun ρ => (fa ρ).bind fun p => match p.1 with
 | [.v (.int n) _] => if 0 <= n /\ n < 64 then (abN (ajn kt fb (amc src p.2) (List.range n.toNat))).bind fun ks => .ok (.v (.lst ((al9 n.toNat fun i => ks.getD i (0, 0)).map fun i : Nat => Tr.int i)) true, p.2) else .bad
 | _ => .bad
theorem akn {K : PySem.W.Frag} {H : Hp} : ∀ l : List Nat, aa1 K H (l.map fun i : Nat => V.int i) (l.map fun i : Nat => Tr.int i)
 | [] => .nil
 | n :: l => .cons (.int n) (akn l)
theorem asU {t : Tx} {W : Addr -> Prop} {ρ : En} {σ : St} {H : Hp} {j : Nat} {U : Tr} (e : EOk t W ρ σ H) (h : slT ρ j = some U) : ∃ v, σ[j]? = some (some v) /\ Rp t.K W H v U := by
 unfold slT at h
 split at h
 ·rename_i T q
  cases h
  obtain ⟨v, h1, h2⟩ := e.sh j _ q
  exact ⟨v, h1, .inl h2⟩
 ·rename_i ts q
  cases h
  obtain ⟨a, xs, h1, _, _, h4, h5⟩ := e.ow j _ q
  exact ⟨_, h1, .inr ⟨a, xs, ts, rfl, rfl, h4, h5⟩⟩
 ·rename_i ts q
  cases h
  obtain ⟨a, xs, h1, _, _, h4, h5⟩ := e.rf j _ q
  exact ⟨_, h1, .inr ⟨a, xs, ts, rfl, rfl, h4, h5⟩⟩
 ·cases h
theorem auC.smt {K : PySem.W.Frag} {P c : Addr} {x : Str} {H H' : Hp} (tb : TbS K H) (hx : x ∈ abu) (ht : tabIn K x = some (c, P)) (hu : ∀ x' ∈ abu, ∀ c', tabIn K x' = some (c', P) -> x' = x) (l : auC P (ahE x) H H') : SmT K H H' := by
 refine ⟨fun b o q n => l.kp b o q fun z => n ?_, fun x' hx' c' b e => ?_⟩
 ·subst z
  exact ⟨x, hx, c, ht⟩
 ·by_cases z : b = P
  ·subst z
   have := hu x' hx' c' e
   subst this
   exact l.tb
  ·obtain ⟨ps, q, t1, t2⟩ := tb x' hx' c' b e
   refine ⟨ps, l.kp _ _ q z, t1, fun pos v k => ?_⟩
   obtain ⟨d, o, e1, e2, e3⟩ := t2 pos v k
   refine ⟨d, o, e1, l.kp _ _ e2 ?_, e3⟩
   rintro rfl
   obtain ⟨qs, y, _⟩ := tb x hx c d ht
   rw [y] at e2
   cases e2
theorem an9 {t : Tx} {Kw : KW} {kt : Tr -> Option (Int × Int)} {c P : Addr} {x : Str} {src : List (Option Nat)} {ta : TA} {fa : AF} {te : TE} {fb : RF} (hx : x ∈ abu) (ht : tabIn t.K x = some (c, P)) (hu : ∀ x' ∈ abu, ∀ c', tabIn t.K x' = some (c', P) -> x' = x)
  (hkt : ∀ (W : Addr -> Prop) (H : Hp) v T k, Rp t.K W H v T -> kt T = some k -> Kw H v k) (ha : SA t ta fa) (hb : QS t.K te fb) : SE t (al8 Kw P (ahE x) src ta te) (akm kt src fa fb) := fun W ρ σ H Q e h => by
 refine ha W ρ σ H _ e (Rs.aai (Rs.aaf h) fun p h vs H1 e1 s1 v1 => ?_)
 obtain ⟨rs, ρ1⟩ := p
 dsimp only at h e1 v1
 split at h
 case h_2 => exact h.elim
 rename_i n fr
 split at h
 case isFalse => exact h.elim
 rename_i hn
 have ev : vs = [.int n] := by
  cases v1 with
  | cons h1 r1 =>
   cases r1
   cases fr with
   | false =>
    have h1 : Rep _ _ _ (Tr.int n) := h1
    cases h1
    rfl
   | true =>
    obtain ⟨_, _, _, _, z, _⟩ := h1
    cases z
 obtain ⟨ks, k1, h⟩ := abP (Rs.aaf h) (akh _)
 have un : ∀ {α : Type} {x : Rs α} {a : α}, abN x = .ok a -> x = .ok a := fun {α x a} z => by cases x <;> first | exact z | cases z
 obtain ⟨kl, kg⟩ := aiJ (un k1)
 have nn : ((n.toNat : Nat) : Int) = n := by omega
 refine ⟨n.toNat, fun i => ks.getD i (0, 0), by rw [ev, nn], by omega, e1.tab.ok x hx c P ht, fun H2 lh => ?_⟩
 obtain ⟨e2, s2⟩ := e1.ap3 (lh.smt e1.tab.ok hx ht hu)
 refine ⟨fun i hi H3 s3 => ?_, fun D ys H3 s3 nD hs => ?_⟩
 ·obtain ⟨T, k, f1, f2, f3⟩ := kg i i (List.getElem?_range hi)
  have e3 := e2.grow s3
  refine hb W _ H3 _ _ T e3.wl (fun j U z => ?_) f1 fun v H4 s4 r4 => ⟨hkt W H4 v T _ r4 ?_, s4⟩
  ·cases j with
   | zero => simp at z; subst z; exact ⟨.int i, by simp, .inl (.int i)⟩
   | succ j =>
    have z : (amc src ρ1)[j]? = some (some U) := z
    unfold amc at z
    rw [List.getElem?_map] at z
    cases eq : src[j]? with
    | none => rw [eq] at z; cases z
    | some o =>
     rw [eq] at z
     have z : o.bind (slT ρ1) = some U := Option.some.inj z
     cases o with
     | none => cases z
     | some l =>
      obtain ⟨v, h1, h2⟩ := asU e3 (show slT ρ1 l = some U from z)
      refine ⟨v, ?_, h2⟩
      show (aeW src σ)[j]? = some (some v)
      rw [ahO eq, h1]
      rfl
  ·rw [f2]
   show some k = some (ks.getD i (0, 0))
   rw [List.getD_eq_getElem?_getD, f3]
   rfl
 ·have e3 := e2.grow s3
  have hs' := hs.eq
  have st : Stp W H1 H3 := s2.trans (Stp.of s3)
  refine h (.ref D) _ (e3.grow (aaO nD _)) ((s1.trans st).trans (Stp.of (aaO nD _))) (VOE.back (H := H3) (VOE.of (σ' := σ) e3 (aaO nD _) (VOk.new nD ?_)) fun b q => (s1.trans st).dom b q)
  rw [hs']
  exact akn _
theorem asV (K : PySem.W.Frag) (W : Addr -> Prop) (H : Hp) (v : V) (T : Tr) (k : Int × Int) (r : Rp K W H v T) (e : asT T = some k) : kwI H v k := by
 unfold asT at e
 split at e
 ·cases e
  exact ⟨r.int, rfl⟩
 ·cases e
end L2
end
section
namespace L2
open PySem PySem.Spec PyProof.Rows PySem.W
noncomputable def AtL (K : PySem.W.Frag) (mg : Str -> Option Value) (x : Str) (st : Stmt) (c : Addr) : Prop := ∃ f fd, Fun K x x st f fd /\ mg x = some (.ref f) /\ fd.code = .ref c
section
variable {P : Program} {w : World} {K : PySem.W.Frag} {mg : Str -> Option Value} {base : Heap}
theorem AtL.axC {c : Addr} {k : Nat} {x : Str} {st : Stmt} {N ps : List Str} {sp : Sp} (a : AtL K mg x st c) (S : aaE N ps (aan st))
  (hb : ∀ (kV doc pm : Value) (an : Option Addr) (cdv ct : Value) (us : List Value), us.length = ps.length -> bindArgs (fnOf x x (acZ st) (abY st) (aan st) .none kV doc pm an cdv ct) ⟨us, []⟩ = pure (ps.zip us))
  (len : ∀ vs H Q E, sp vs H Q E -> vs.length = ps.length)
  (hbody : ∀ (f : Addr) (A : Around) (outer : List Env) (s : Shared) (H : Hp) (vs : List V) (Q : VK) (E : XK), afN k (A.deeper (envOfC x (aan st) s.heap.objs.size f (.ref c))) -> sp vs H Q E ->
   ∃ t, PSs (aj2 (CXF P w) P w K mg base N x (aan st) f (.ref c) A outer s H E) (abY st) t /\ t { nx := fun _ H' => Q .non H', rt := Q } (start N vs) H) : DfX P w K mg base (k + 1) x ps sp := by
 obtain ⟨f, fd, F, m, hc⟩ := a
 refine ⟨f, fd, ?_, F.binds hb, F.kp, m⟩
 obtain ⟨oc, od, kV, doc, pm, an, cdv, ct, osl, rfl, lk, hcd⟩ := F.ex
 have hc : cdv = .ref c := hc
 subst hc
 exact arC lk hcd S len fun A outer s H vs Q E hr h => hbody f A outer s H vs Q E hr h
theorem AtL.axD {c : Addr} {k : Nat} {x : Str} {st : Stmt} {N ps : List Str} {cl : Str -> Addr} {b : SF} (a : AtL K mg x st c) (S : aaE N ps (aan st)) (hn : ps.length <= N.length)
  (hb : ∀ (kV doc pm : Value) (an : Option Addr) (cdv ct : Value) (us : List Value), us.length = ps.length -> bindArgs (PySem.W.fnOf x x (acZ st) (abY st) (aan st) .none kV doc pm an cdv ct) ⟨us, []⟩ = pure (ps.zip us))
  (hbody : ∀ (f : Addr) (A : Around) (outer : List Env) (s : Shared) (H : Hp) (E : XK), afN k (A.deeper (envOfC x (aan st) s.heap.objs.size f (.ref c))) ->
   ∃ ts, PSs (aj2 (CXF P w) P w K mg base N x (aan st) f (.ref c) A outer s H E) (abY st) ts /\ ∀ t : Tx, t.K = nlK K -> (∀ c H', F0 t H' -> t.EX c -> E (.ref (cl c)) none H') -> SS t ts b) :
  DfX P w K mg base (k + 1) x ps (spP K cl ps.length (fnP N.length b)) := by
 refine a.axC S hb (fun vs H Q E h => ?_) (fun f A outer s H vs Q E hr h => ?_)
 ·obtain ⟨_, _, h, _⟩ := h; exact h
 obtain ⟨Z, as, hl, r, zl, tb, h⟩ := h
 obtain ⟨ts, h1, h2⟩ := hbody f A outer s H E hr
 refine ⟨ts, h1, ?_⟩
 have sm : ∀ (b : Addr) (W : Addr -> Prop) ρ σ H', EOk ⟨nlK K, Z, Tb (nlK K), H, fun _ => none, fun c => ∀ H', SmT (nlK K) H H' -> E (.ref (cl c)) none H'⟩ W ρ σ H' -> SmT (nlK K) H H' := fun _ W ρ σ H' e => ⟨fun b o q n => e.f0 b o q n, e.tab.ok⟩
 have r := r.afQ (af8 tb)
 refine h2 ⟨nlK K, Z, Tb (nlK K), H, fun _ => none, fun c => ∀ H', SmT (nlK K) H H' -> E (.ref (cl c)) none H'⟩ rfl (fun c H' f0 q => q H' ⟨fun b o z n => f0.1 b o z n, f0.2⟩) (fun b => Z b \/ Tb (nlK K) b) (aaF N.length as) (start N vs) H _ ?_ (Rs.aai (Rs.aaf h) fun q h => ?_)
 ·have la := r.length
  have ake : ∀ (i : Nat) (us : List Tr), (aaF N.length as)[i]? = some (.dp us) -> False := fun i us q => by
   rcases abJ q with ⟨u', q1, z⟩ | z <;> cases z
  refine ⟨fun _ => [], ?_, fun _ z => .inl z, fun b z => ?_, fun b z => z.elim (zl b) (fun z => .inr (tb.tbl z)), fun b o q _ => q, fun b q => q, fun i u q => ?_, fun i us q => ?_, fun i us q => ?_, fun i j c m1 m2 => ?_, fun b o z => (by cases z), fun _ _ _ _ => rfl, fun i us q => (ake i us q).elim, fun i _ us _ _ q => (ake i us q).elim, fun i _ us _ q => (ake i us q).elim, fun i us q => (ake i us q).elim, ⟨tb, fun _ z => .inr z, fun _ z => z, fun _ _ => rfl⟩⟩
  ·unfold aaF start
   simp only [List.length_append, List.length_map, List.length_replicate]
   omega
  ·exact (zl b z).ne
  ·rcases abJ q with ⟨u', q1, z⟩ | z
   ·cases z
    obtain ⟨v, e1, e2⟩ := r.anf q1
    exact ⟨v, ae4 e1, e2⟩
   ·cases z
  ·rcases abJ q with ⟨u', q1, z⟩ | z <;> cases z
  ·rcases abJ q with ⟨u', q1, z⟩ | z <;> cases z
  ·obtain ⟨us, q | q⟩ := m1 <;> rcases abJ q with ⟨u', q1, z⟩ | z <;> cases z
 ·obtain ⟨fl, ρ'⟩ := q
  cases fl with
  | nx => exact fun W' σ' H' e n => h .non H' (sm 0 W' ρ' σ' H' e) .non
  | rt T fr =>
   refine fun v W' σ' H' e n => h v H' (sm 0 W' ρ' σ' H' e) ?_
   cases fr <;> exact n
  | bk => exact h.elim
  | ct => exact h.elim
end
noncomputable def asW (K : PySem.W.Frag) (x : Str) : Option (Addr × Addr) := match K.lookup mainGlobals with
 | some o => if o.cls == .type "list" then none else (match nsIn K mainGlobals x with
  | some (some (.ref f)) => (match K.lookup f with
   | some o => if o.cls == .type "list" then none else (match o.data with
    | .func fd => (match fd.code with
     | .ref c => (match K.lookup c with
      | some o => if o.cls == .type "list" then none else tabIn K x
      | _ => none)
     | _ => none)
    | _ => none)
   | _ => none)
  | _ => none)
 | _ => none
theorem ahW {o : Obj} (h : (o.cls == .type "list") = false) : noL o = o := by
 unfold noL
 rw [if_neg]
 rintro ⟨z, _⟩
 rw [z] at h
 exact absurd h (by decide +kernel)
theorem aqm {K : PySem.W.Frag} {x : Str} {o : Obj} (h : K.lookup mainGlobals = some o) (n : (o.cls == .type "list") = false) : nsIn (nlK K) mainGlobals x = nsIn K mainGlobals x := by
 have e : (nlK K).lookup mainGlobals = K.lookup mainGlobals := by
  rw [abM, h]
  show some (noL o) = some o
  rw [ahW n]
 unfold nsIn
 rw [e]
theorem amd {K : PySem.W.Frag} {x : Str} {z : Addr × Addr} (h : asW K x = some z) : tabIn K x = some z /\ tabIn (nlK K) x = some z := by
 unfold asW at h
 split at h
 ·rename_i o1 h1
  split at h
  ·cases h
  ·rename_i n1
   split at h
   ·rename_i f hf
    split at h
    ·rename_i o2 h2
     split at h
     ·cases h
     ·rename_i n2
      split at h
      ·rename_i fd hd
       split at h
       ·rename_i c hc
        split at h
        ·rename_i o3 h3
         split at h
         ·cases h
         ·rename_i n3
          refine ⟨h, ?_⟩
          rw [<-h]
          unfold tabIn
          rw [aqm h1 (by simpa using n1), hf]
          dsimp only
          rw [abM, h2]
          dsimp only [Option.map]
          rw [ahW (by simpa using n2)]
          obtain ⟨a1, a2, a3, a4⟩ := o2
          dsimp only at hd
          subst hd
          dsimp only
          rw [hc]
          dsimp only
          rw [abM, h3]
          dsimp only [Option.map]
          rw [ahW (by simpa using n3)]
        ·cases h
       ·cases h
      ·cases h
    ·cases h
   ·cases h
 ·cases h
theorem ame {o : Obj} {d : Data} (h : (noL o).data = d) (n : d ≠ .fields #[]) : noL o = o := by
 unfold noL at h ⊢
 split at h
 ·exact (n h.symm).elim
 ·rename_i q
  rw [if_neg q]
theorem ako {K : PySem.W.Frag} {x : Str} {z : Addr × Addr} (h : tabIn (nlK K) x = some z) : tabIn K x = some z := by
 unfold tabIn at h
 split at h
 ·rename_i f hf
  have g1 : nsIn K mainGlobals x = some (some (.ref f)) := by
   unfold nsIn at hf
   rw [abM] at hf
   cases e : K.lookup mainGlobals with
   | none => rw [e] at hf; cases hf
   | some o =>
    rw [e] at hf
    unfold nsIn
    rw [e]
    have q : noL o = o := by
     dsimp only [Option.map] at hf
     split at hf
     ·rename_i a b es ep c eq
      have eq : noL o = ⟨a, b, .dict es ep, c⟩ := Option.some.inj eq
      exact ame (d := .dict es ep) (by rw [eq]) (by intro z; cases z)
     ·cases hf
    dsimp only [Option.map] at hf
    rw [q] at hf
    exact hf
  split at h
  ·rename_i a b fd osl hfo
   have g2 : K.lookup f = some ⟨a, b, .func fd, osl⟩ := by
    rw [abM] at hfo
    cases e : K.lookup f with
    | none => rw [e] at hfo; cases hfo
    | some o =>
     rw [e] at hfo
     have eq : noL o = ⟨a, b, .func fd, osl⟩ := Option.some.inj hfo
     rw [ame (d := .func fd) (by rw [eq]) (by intro z; cases z)] at eq
     rw [eq]
   split at h
   ·rename_i c hc
    split at h
    ·rename_i a' b' vs awX hco
     split at h
     ·rename_i Pp hv
      cases h
      have g3 : K.lookup c = some ⟨a', b', .fields vs, awX⟩ := by
       rw [abM] at hco
       cases e : K.lookup c with
       | none => rw [e] at hco; cases hco
       | some o =>
        rw [e] at hco
        have eq : noL o = ⟨a', b', .fields vs, awX⟩ := Option.some.inj hco
        rw [ame (d := .fields vs) (by rw [eq]) (by intro z; injection z with z; subst z; simp at hv)] at eq
        rw [eq]
      unfold tabIn
      rw [g1]
      dsimp only
      rw [g2]
      dsimp only
      rw [hc]
      dsimp only
      rw [g3]
      dsimp only
      rw [hv]
     ·cases h
    ·cases h
   ·cases h
  ·cases h
 ·cases h
structure aoa (K : PySem.W.Frag) (mg : Str -> Option Value) (base : Heap) (x : Str) (c P : Addr) : Prop where
 nm : x ∈ abu
 hd : CodeHd base c P
 bm : an4 mg base
 tab : tabIn (nlK K) x = some (c, P)
 un : ∀ x' ∈ abu, ∀ c', tabIn (nlK K) x' = some (c', P) -> x' = x
theorem aqn {t : Tx} {K : PySem.W.Frag} {mg : Str -> Option Value} {base : Heap} {x : Str} {c P : Addr} {src : List (Option Nat)} {ta : TA} {fa : AF} {te : TE} {fb : RF} (L : aoa K mg base x c P) (hK : t.K = nlK K) (ha : SA t ta fa) (hb : QS (nlK K) te fb) : SE t (al8 kwI P (ahE x) src ta te) (akm asT src fa fb) :=
 an9 (c := c) L.nm (by rw [hK]; exact L.tab) (by rw [hK]; exact L.un) (asV _) ha (by rw [hK]; exact hb)
theorem aqo {K : PySem.W.Frag} {x : Str} {f c P : Addr} {o1 : Obj} {oc : Value} {od : Option Addr} {fd : FuncData} {sl : Array (Option Value)} {cc : Value} {cd : Option Addr} {vs : Array Value} {cs : Array (Option Value)} (a : nsIn K mainGlobals x = some (some (.ref f))) (l1 : K.lookup mainGlobals = some o1) (n1 : (o1.cls == .type "list") = false)
  (l2 : K.lookup f = some ⟨oc, od, .func fd, sl⟩) (n2 : (oc == .type "list") = false) (hc : fd.code = .ref c) (l3 : K.lookup c = some ⟨cc, cd, .fields vs, cs⟩) (n3 : (cc == .type "list") = false) (hv : vs[11]? = some (.ref P)) : asW K x = some (c, P) := by
 unfold asW
 rw [l1]
 dsimp only
 rw [if_neg (by rw [n1]; exact Bool.false_ne_true), a]
 dsimp only
 rw [l2]
 dsimp only
 rw [if_neg (by rw [n2]; exact Bool.false_ne_true), hc]
 dsimp only
 rw [l3]
 dsimp only
 rw [if_neg (by rw [n3]; exact Bool.false_ne_true)]
 unfold tabIn
 rw [a]
 dsimp only
 rw [l2]
 dsimp only
 rw [hc]
 dsimp only
 rw [l3]
 dsimp only
 rw [hv]
theorem akp {K : PySem.W.Frag} {x : Str} (a : nsIn K mainGlobals x = some none) : tabIn K x = none := by
 unfold tabIn
 rw [a]
theorem aob {K : PySem.W.Frag} {mg : Str -> Option Value} {base : Heap} {x : Str} {c P : Addr} (nm : x ∈ abu) (hc : ∀ x ∈ abu, ∀ c b, tabIn K x = some (c, b) -> CodeHd base c b) (bm : an4 mg base) (q : asW K x = some (c, P)) (ho : ∀ x' ∈ abu, x' = x \/ ∀ c', tabIn K x' ≠ some (c', P)) : aoa K mg base x c P :=
 ⟨nm, hc x nm c P (amd q).1, bm, (amd q).2, fun x' hx' c' e => (ho x' hx').elim id fun z => (z c' (ako e)).elim⟩
end L2
end
section
namespace L2
open PySem PySem.Spec PyProof.Rows PySem.W
section
variable {X : Cx}
end
noncomputable def ahX : List Tr -> Option (List Int)
 | [] => some []
 | .int i :: r => (ahX r).map (i :: ·)
 | _ :: _ => none
theorem akq : ∀ {ts : List Tr} {ns : List Int}, ahX ts = some ns -> ts = ns.map Tr.int
 | [], _, h => by cases h; rfl
 | .int i :: r, ns, h => by
  unfold ahX at h
  cases e : ahX r with
  | none => rw [e] at h; cases h
  | some m => rw [e] at h; cases h; rw [akq e]; rfl
 | .non :: _, _, h => by cases h
 | .bl _ :: _, _, h => by cases h
 | .str _ :: _, _, h => by cases h
 | .tup _ :: _, _, h => by cases h
 | .lst _ :: _, _, h => by cases h
theorem ahl {K : PySem.W.Frag} {H : Hp} : ∀ {ns : List Int} {vs : List V}, aa1 K H vs (ns.map Tr.int) -> vs = ns.map V.int
 | [], _, h => by cases h; rfl
 | n :: ns, _, h => by
  cases h with
  | cons h1 h2 =>
   cases h1
   rw [ahl h2]
   rfl
noncomputable def eLR (fa : AF) : EF := fun ρ => (fa ρ).bind fun p => match p.1 with
 | [.v (.int n) _] => if 0 <= n /\ n <= 1000 then .ok (.v (.lst ((List.range n.toNat).map fun i : Nat => Tr.int i)) true, p.2) else .bad
 | _ => .bad
end L2
end
section
namespace L2
open PySem PySem.Spec PyProof.Rows
section
variable {t : Tx} {K : PySem.W.Frag}
noncomputable def aqp (F : FR) (fa : EF) : EF := fun ρ => (fa ρ).bind fun p => match p.1 with
 | .v (.lst us) true => (F [.lst us]).bind fun z => .ok (.v z.1.1 z.1.2, p.2)
 | _ => .bad
end
end L2
end
section
namespace L2
open PySem PySem.Spec PyProof.Rows
section
variable {X : Cx}
noncomputable def ajo : V -> List V -> Hp -> VK -> Prop := fun x vs H Q => ∃ (l : Addr) (xs : List V) (k : Nat) (y : V), x = .ref l /\ vs = [.int (k : Int), y] /\ H l = some (.lst xs) /\ k <= xs.length /\ xs.length <= 100000 /\ Q .non (upd H l (.lst (xs.take k ++ y :: xs.drop k)))
theorem amf : MtM X "list.insert" ajo := by
 intro pins s σ H x vs v us Q I rx rv h
 obtain ⟨l, xs, k, y, rfl, rfl, hH, hk, hz, q⟩ := h
 cases rx
 cases rv with
 | cons r1 rv =>
 cases rv with
 | cons ru rv =>
 cases rv
 obtain ⟨t, rfl⟩ := r1
 rename_i u
 obtain ⟨z, its, n, r, hl, e⟩ := I.auW hH
 have big : 100000 + 1 <= sizeLine := Nat.le_of_lt (show 100001 < sizeLine from by unfold sizeLine; omega)
 have hs1 : its.toArray.size <= sizeLine := by rw [List.size_toArray]; omega
 have hk' : (if (k : Int) < 0 then ((k : Int) + (its.toArray.size : Int)).toNat else min (k : Int).toNat its.toArray.size) = k := by
  rw [if_neg (by omega), Int.toNat_natCast, List.size_toArray]
  omega
 have h1 : -(2 ^ 63) <= (k : Int) := by omega
 have h2 : (k : Int) < 2 ^ 63 := by omega
 have hfit : ¬ (!Builtin.List.listFitsIndex (k : Int)) = true := by rw [fitsIndex_both h1 h2]; exact Bool.false_ne_true
 have hlen : (xs.take k ++ y :: xs.drop k).length <= sizeLine := by
  rw [List.length_append, List.length_cons, List.length_take, List.length_drop]
  omega
 clear h1 h2 big
 generalize (k : Int) = i at *
 refine call_meets F.slot_list_insert ⟨_, e, rfl⟩ F.entry_list_insert (F.args_list_insert_3 _ _ _)
  (AutoSeq1.list_insert_list_int_val_1 l its.toArray n i t u hfit hs1) ⟨e, ?_⟩
 refine ⟨.non, _, I.auV (its' := its.take k ++ u :: its.drop k) hH e ?_ (Vals.append (r.take _) (.cons ru (r.drop _))) hlen, rfl, q⟩
 show (its.toArray.extract 0 (if i < 0 then (i + (its.toArray.size : Int)).toNat else min i.toNat its.toArray.size)).push u ++ its.toArray.extract (if i < 0 then (i + (its.toArray.size : Int)).toNat else min i.toNat its.toArray.size) = _
 rw [hk']
 exact PySem.W.kl_ins_eq its k u
end
noncomputable def ao4 : GM := fun ts as => match as with
 | [.int i, T] => if 0 <= i /\ i.toNat <= ts.length /\ ts.length <= 100000 then .ok (ts.take i.toNat ++ T :: ts.drop i.toNat, .non) else .bad
 | _ => .bad
theorem asY : MtT ajo ao4 := fun K G a xs ts vs as H Q ts' T hx r ra q h => by
 unfold ao4 at q
 split at q
 ·rename_i i U
  split at q
  ·rename_i c
   cases q
   cases ra with
   | cons h1 r1 =>
    cases r1 with
    | cons h2 r2 =>
     cases r2
     cases h1
     obtain ⟨k, rfl⟩ : ∃ k : Nat, (k : Int) = i := ⟨i.toNat, by omega⟩
     rw [Int.toNat_natCast] at c h
     exact ⟨a, xs, k, _, rfl, rfl, hx, by rw [r.length]; exact c.2.1, by rw [r.length]; exact c.2.2, h _ _ ((r.take k).app (.cons h2 (r.drop k))) .non⟩
  ·cases q
 ·cases q
theorem aqq (ts as : List Tr) (c : Str) : ao4 ts as ≠ .ex c := by
 unfold ao4
 split <;> (try split) <;> (intro z; cases z)
theorem avF {t : Tx} {K : PySem.W.Frag} {te te2 : TE} {f f2 : EF} (i : Nat) (h : SE t te f) (h2 : SE t te2 f2) : SE t (tBM K "list" ajo (akH i) (afl te (afl te2 aoI))) (eMt i ao4 (aae f (aae f2 aar))) := asl i asY aqq (aad h (aad h2 aak))
end L2
end
section
namespace L2
open PySem PySem.Spec PyProof.Rows
noncomputable def Ite (K : PySem.W.Frag) (l : Addr) : It where
 go := fun i H => ∃ xs x, SqL K H l xs /\ xs[i]? = some x
 yld := fun i H v H' => ∃ (T : Addr) (x : V), v = .ref T /\ H T = none /\ H' = upd H T (.tup [.int (i : Int), x]) /\ ∀ xs, SqL K H l xs -> xs[i]? = some x
 stop := fun i H => ∃ xs, SqL K H l xs /\ i = xs.length
noncomputable def axE (l e it : Addr) (i : Nat) (h : Heap) : Prop := (∃ old, IsEnum h e it i old) /\ h.IsListIter it l i
section
variable {P : Program} {w : World} {K : PySem.W.Frag}
theorem amg {elts : List Expr} {k : Nat} {pos : Pos} (l e it : Addr) (hei : e ≠ it) (hle : l ≠ e) (hli : l ≠ it) : Turn P w K (.Tuple elts k pos) (Ite K l) [e, it] e (axE l e it) where
 mem := by simp
 obj := fun i h st b hb => by
  obtain ⟨⟨old, he⟩, ⟨o1, e1, _, d1⟩⟩ := st
  have hb' : b = e \/ b = it := by simpa using hb
  rcases hb' with rfl | rfl
  ·exact ⟨_, he, fun v q => nomatch q⟩
  ·exact ⟨o1, e1, fun v q => by rw [d1] at q; cases q⟩
 keep := fun i h h' st kp => by
  obtain ⟨⟨old, he⟩, h1⟩ := st
  exact ⟨⟨old, kp e (by simp) _ he⟩, h1.at fun o q => kp it (by simp) o q⟩
 item := by
  intro X hP hw hK hc i pins s σ H E I hf st hg
  subst hP hw hK
  obtain ⟨xs, x, q1, hx⟩ := hg
  obtain ⟨aje, rv1, p1, _⟩ := I.list q1
  obtain ⟨u, hu, ru⟩ := rv1.get hx
  have W := WalksT.enumerate (prog := X.prog) (w := X.w) (A := X.A) (I.ok.hd hc) e it l hei hle hli aje.toArray
  have lt1 : i < aje.length := (List.getElem?_eq_some_iff.mp hu).1
  refine W.item i s _ E (by simp; omega) ⟨st.1, st.2, p1.isList⟩ fun T vals h' tk hp hT ht mid kk => ?_
  obtain ⟨t0, u', e1, rfl⟩ := hp
  have eu : u' = u := by
   have : aje[i]? = some u' := by simpa using e1
   rw [hu] at this; cases this; rfl
  subst eu
  refine ⟨.ref T, rfl, ?_⟩
  refine W.go elts k pos i T _ _ E mid fun h'' st' kk' => ?_
  have nT := W.apart i T _ mid
  have ob : ∀ b ∈ [e, it], b < s.heap.objs.size := fun b hb => by
   obtain ⟨⟨old, he⟩, ⟨o1, e1, _, d1⟩⟩ := st
   have hb' : b = e \/ b = it := by simpa using hb
   rcases hb' with rfl | rfl
   ·exact Heap.lt_size he
   ·exact Heap.lt_size e1
  have nTf : T ∉ [e, it] := fun m => absurd (ob T m) (Nat.not_lt.mpr hT)
  have au2 : IsTup h'' T #[.int i t0, u'] := by
   obtain ⟨o, e', r⟩ := ht
   exact ⟨o, kk' T o nT e', r⟩
  have th : ∀ b ∈ [e, it], ∃ o, h''.get? b = some o := fun b hb => by
   obtain ⟨⟨old, he⟩, ⟨o1, e1, _, d1⟩, _⟩ := st'
   have hb' : b = e \/ b = it := by simpa using hb
   rcases hb' with rfl | rfl
   ·exact ⟨_, he⟩
   ·exact ⟨_, e1⟩
  have I' : Inv X pins σ (upd H T (.tup [.int (i : Int), x])) { s with heap := h'', toks := tk } := I.arR (its := [.int i t0, u']) hf (fun b o n e => kk' b o n (kk b o n e)) th hT au2 (.cons ⟨_, rfl⟩ (.cons ru .nil)) (by show 2 <= sizeLine; decide)
  refine ⟨.ref T, _, I', rfl, ⟨T, x, rfl, I.hok.fresh hT, rfl, fun xs' a1 => ?_⟩, ⟨st'.1, st'.2.1⟩, fun b hb => ?_⟩
  ·rw [I.aeT a1 q1]
   exact hx
  ·have nb : b ≠ T := by
    intro e0
    rw [e0] at hb
    exact nTf hb
   rw [aaH nb]
   exact (hf b hb).1
 done := by
  intro X hP hw hK hc i pins s σ H E I hf st hg
  subst hP hw hK
  obtain ⟨xs, q1, e1⟩ := hg
  obtain ⟨aje, rv1, p1, _⟩ := I.list q1
  have W := WalksT.enumerate (prog := X.prog) (w := X.w) (A := X.A) (I.ok.hd hc) e it l hei hle hli aje.toArray
  have ei : i = aje.toArray.size := by simp [e1, rv1.length]
  subst ei
  exact W.done s _ E ⟨st.1, st.2, p1.isList⟩ fun h' tk kk => ⟨rfl, I.alP hf fun b o n e => kk b o n e⟩
 self := fun A i s Q E st h => by
  obtain ⟨⟨old, he⟩, _⟩ := st
  exact wpAny_pyIter_enum he h
end
section
variable {X : Cx}
noncomputable def asZ (K : PySem.W.Frag) (ta : TA) : TI := fun σ H R => ta σ H fun vs H1 => ∃ l, vs = [.ref l] /\ (∃ xs, SqL K H1 l xs) /\ R (Ite K l) H1
theorem aqr {elts : List Expr} {k : Nat} {tpos : Pos} {a : Expr} {ta : TA} {p pos : Pos} (hm : X.mg "enumerate" = none) (ha : PA X [a] ta) (hg : X.env.kindOf "enumerate" = some .globalImplicit := by kernel_rfl) (hs : notStar a = true := by kernel_rfl) :
  PI X (.Tuple elts k tpos) (.Call (.Name "enumerate" p) [a] [] pos) (asZ X.K ta) := by
 intro pins s σ H R I h
 refine Call_ (afD I hg hm (show bootBuiltins "enumerate" = some (.type "enumerate") by decide +kernel) (PyProof.Rows.callWith_type1 (thn (ha pos pins s σ H _ I h) fun us s1 ⟨vs, H1, I1, r1, q1⟩ => ?_) (ad3 hs) rfl) (by decide +kernel) (by kernel_rfl))
 obtain ⟨l, e, ⟨xs, h1⟩, q⟩ := q1
 subst e
 cases r1 with
 | cons r rr =>
  cases rr
  cases r
  obtain ⟨aje, rv1, p1, _⟩ := I1.list h1
  obtain ⟨o1, e1, _⟩ := p1.isList
  have lt := Heap.lt_size e1
  refine call_enumerate_list p1.isList fun h' he hit hsz hk => ?_
  refine wpAny_pyIter_enum he ?_
  refine ⟨_, [_, _], _, _, H1, rfl, I1.kept (t' := s1.toks) hk, amg l _ _ (Nat.succ_ne_self _) (Nat.ne_of_lt (Nat.lt_succ_of_lt lt)) (Nat.ne_of_lt lt), ⟨⟨_, he⟩, hit⟩, fun c hc => ?_, q⟩
  have hc' : c = s1.heap.objs.size + 1 \/ c = s1.heap.objs.size := by simpa using hc
  have hge : s1.heap.objs.size <= c := by rcases hc' with rfl | rfl <;> omega
  exact I1.anc hge (I1.hok.fresh hge)
end
section
variable {t : Tx}
noncomputable def aiK (us : List Tr) : List Tr := us.zipIdx.map fun p => .tup [.int (p.2 : Nat), p.1]
theorem aqs {K : PySem.W.Frag} {W : Addr -> Prop} {H : Hp} {a : Addr} {xs : List V} {us : List Tr} (q1 : SqL (nlK K) (aaY W H) a xs) (r1 : aa1 (nlK K) (aaY W H) xs us) : apW (nlK K) W H (Ite K a) (aiK us) := fun W' H' m hw i => by
 have q1' : SqL K H' a xs := ((abq W' H').seq (m.seq q1)).toK
 refine ⟨fun z => ⟨xs, q1', by rw [r1.length, z]; simp [aiK]⟩, fun u hu => ?_⟩
 unfold aiK at hu
 rw [List.getElem?_map] at hu
 obtain ⟨p, hp, rfl⟩ := Option.map_eq_some_iff.mp hu
 rw [List.getElem?_zipIdx] at hp
 obtain ⟨y, hy, rfl⟩ := Option.map_eq_some_iff.mp hp
 obtain ⟨x, hx, rx⟩ := r1.anf hy
 refine ⟨⟨xs, x, q1', hx⟩, fun v H'' yl => ?_⟩
 obtain ⟨T, x', rfl, fT, rfl, z⟩ := yl
 have z1 := z xs q1'
 rw [hx] at z1
 cases z1
 have nW : ¬ W' T := fun w => (hw T w).ne fT
 have sm : Same H' (upd H' T (.tup [.int (i : Int), x])) := aaO fT _
 have so : Same (aaY W' H') (aaY W' (upd H' T (.tup [.int (i : Int), x]))) := fun b u q => (af7 (o := .tup [.int (i : Int), x]) fT b u q |> fun z => (ahF _ _ b u z))
 refine ⟨sm, ?_⟩
 show Rep _ _ (.ref T) (.tup [.int ((0 + i : Nat) : Int), y])
 rw [Nat.zero_add]
 refine .tup (xs := [.int (i : Int), x]) (.inl (.inl ?_)) (.cons (.int _) (.cons ((rx.mono m).mono so) .nil))
 unfold aaY
 rw [if_neg nW, aa9]
noncomputable def aoc (fa : AF) : IF := fun ρ => (fa ρ).bind fun p => match p.1 with
 | [.v (.lst us) _] => .ok (aiK us, p.2)
 | _ => .bad
theorem aqt {K : PySem.W.Frag} (hK : t.K = nlK K) {ta : TA} {fa : AF} (ha : SA t ta fa) : SI t (asZ K ta) (aoc fa) := fun W ρ σ H R e h => by
 refine ha W ρ σ H _ e (Rs.aai (Rs.aaf h) fun p h vs H1 e1 s1 v1 => ?_)
 split at h
 ·rename_i us _ ep
  rw [ep] at v1
  cases v1 with
  | cons h1 r1 =>
   cases r1
   have h1 := h1.rep e.wn
   rw [hK] at h1
   cases h1 with
   | lst q1 p1 =>
    refine ⟨_, rfl, ⟨_, ((abq _ _).seq q1).toK⟩, h _ H1 e1 s1 ?_⟩
    rw [hK]
    exact aqs q1 p1
 ·exact h.elim
end
noncomputable def mxI : List Int -> Int
 | [] => 0
 | n :: r => r.foldl (fun a b => if a < b then b else a) n
theorem amh : ∀ (l : List Int) (z : Int), (l.foldl (fun a b => if a < b then b else a) z = z \/ l.foldl (fun a b => if a < b then b else a) z ∈ l) /\ z <= l.foldl (fun a b => if a < b then b else a) z /\ ∀ x ∈ l, x <= l.foldl (fun a b => if a < b then b else a) z
 | [], z => ⟨.inl rfl, Int.le_refl _, by simp⟩
 | y :: l, z => by
  obtain ⟨h1, h2, h3⟩ := amh l (if z < y then y else z)
  rw [List.foldl_cons]
  generalize l.foldl (fun a b => if a < b then b else a) (if z < y then y else z) = m at *
  by_cases c : z < y
  ·rw [if_pos c] at h1 h2
   refine ⟨.inr ?_, by omega, fun x hx => ?_⟩
   ·rcases h1 with e | e
    ·rw [e]; exact List.mem_cons_self
    ·exact List.mem_cons_of_mem _ e
   ·rcases List.mem_cons.mp hx with rfl | hx
    ·exact h2
    ·exact h3 x hx
  ·rw [if_neg c] at h1 h2
   refine ⟨?_, h2, fun x hx => ?_⟩
   ·rcases h1 with e | e
    ·exact .inl e
    ·exact .inr (List.mem_cons_of_mem _ e)
   ·rcases List.mem_cons.mp hx with rfl | hx
    ·omega
    ·exact h3 x hx
theorem ao5 {ns : List Int} (h : ns ≠ []) : mxI ns ∈ ns /\ ∀ x ∈ ns, x <= mxI ns := by
 cases ns with
 | nil => exact absurd rfl h
 | cons n r =>
  obtain ⟨h1, h2, h3⟩ := amh r n
  refine ⟨?_, fun x hx => ?_⟩
  ·rcases h1 with e | e
   ·show r.foldl _ n ∈ _
    rw [e]; exact List.mem_cons_self
   ·exact List.mem_cons_of_mem _ e
  ·rcases List.mem_cons.mp hx with rfl | hx
   ·exact h2
   ·exact h3 x hx
theorem as3 {ns : List Int} {m : Int} (h : m ∈ ns) (h' : ∀ x ∈ ns, x <= m) : mxI ns = m := by
 obtain ⟨a, b⟩ := ao5 (ns := ns) (fun z => by rw [z] at h; simp at h)
 exact Int.le_antisymm (h' _ a) (b _ h)
theorem ahm : ∀ {ns : List Int} {vs : List Value}, Vals (ns.map V.int) vs -> ∃ ps : List (Int × Tok), vs = ps.map (fun p => .int p.1 p.2) /\ ps.map (·.1) = ns
 | [], _, h => by cases h; exact ⟨[], rfl, rfl⟩
 | n :: ns, _, h => by
  cases h with
  | cons h1 h2 =>
   obtain ⟨t, rfl⟩ := h1
   obtain ⟨ps, rfl, rfl⟩ := ahm h2
   exact ⟨(n, t) :: ps, rfl, rfl⟩
section
variable {X : Cx}
noncomputable def aqu (K : PySem.W.Frag) : List V -> Hp -> VK -> Prop := fun xs H Q => ∃ p ns, xs = [.ref p] /\ SqL K H p (ns.map V.int) /\ ns ≠ [] /\ Q (.int (mxI ns)) H
theorem ami (hc : X.calm = true) : adD X (.builtin "max") (aqu X.K) := by
 intro pins s σ H xs us Q I r h
 obtain ⟨p, ns, rfl, hq, hne, q⟩ := h
 obtain ⟨u, rfl, rx⟩ := vals1 r
 cases rx
 obtain ⟨its, r', pl, hz⟩ := I.list hq
 obtain ⟨ps, rfl, rfl⟩ := ahm r'
 have hlen : 0 < ps.length := by
  cases ps with
  | nil => exact absurd rfl hne
  | cons a b => simp
 have hl : s.heap.IsList p (intItems ps.toArray) := by
  have : intItems ps.toArray = (ps.map fun p => Value.int p.1 p.2).toArray := by unfold intItems; simp
  rw [this]; exact pl.isList
 refine max_intList (I.ok.hd hc) hl (by simpa using hlen) fun v h' tk hv k => ?_
 obtain ⟨t, rfl⟩ := intItems_at hv
 have hb := argBest_gt (numAt ps.toArray) (ps.toArray.size - 1)
 generalize argBest (fun i j => decide (numAt ps.toArray i > numAt ps.toArray j)) (ps.toArray.size - 1) = b at *
 have sz : ps.toArray.size = ps.length := by simp
 have na : ∀ i (hi : i < ps.length), numAt ps.toArray i = ps[i].1 := fun i hi => by unfold numAt; simp [hi]
 have e : mxI (ps.map (·.1)) = numAt ps.toArray b := by
  refine as3 ?_ fun x hx => ?_
  ·rw [na b (by omega)]
   exact List.mem_map.mpr ⟨_, List.getElem_mem _, rfl⟩
  ·obtain ⟨y, hy, rfl⟩ := List.mem_map.mp hx
   obtain ⟨i, hi, rfl⟩ := List.getElem_of_mem hy
   have := hb.2 i (by omega)
   rw [na i hi] at this
   exact this
 refine ⟨.int (mxI (ps.map (·.1))), H, I.kept k, ?_, q⟩
 rw [e]
 exact ⟨_, rfl⟩
end
noncomputable def ahY : G1
 | .lst ts => match ahX ts with
  | some ns => if ns = [] then .bad else .ok (.int (mxI ns), false)
  | none => .bad
 | _ => .bad
section
variable {K : PySem.W.Frag}
theorem aqv : UnT (nlK K) (fun x => aqu K [x]) ahY := fun W x a H Q hw rx h => by
 cases a <;> try exact h.elim
 dsimp only [ahY] at h
 split at h
 ·rename_i ns e
  split at h
  ·exact h.elim
  ·rename_i hne
   rw [akq e] at rx
   obtain ⟨p, xs, rfl, q, r⟩ := rx.lst
   have z := ahl r
   subst z
   exact ⟨p, ns, rfl, q.toK, hne, h _ H (Same.refl _) (.atm (.int _))⟩
 ·exact h.elim
theorem aqw (a : Tr) (c : Str) : ahY a ≠ .ex c := by
 cases a <;> first | (intro z; cases z; done) | (dsimp only [ahY]; split <;> (try split) <;> (intro z; cases z))
end
theorem as4 {t : Tx} {K : PySem.W.Frag} {tl : TA} {fl : AF} (hK : t.K = nlK K) (ha : SA t tl fl) : SE t (tCB (aqu K) tl) (eCB (g1 ahY) fl) := ajf (by rw [hK]; exact aq9 aqv) (ahh aqw) ha
end L2
end
section
namespace L2
open PySem PySem.Spec PyProof.Rows
noncomputable def ahn (src : List (Option Nat)) (n : Nat) (g : GF) (c : BF) (f : EF) : EF := fun ρ => (con ρ n).bind fun us => if us.length <= 100000 then (abN (ad8 g c f us (ab5 src ρ))).bind fun z => if acf src z.2 ρ = true then .ok (.v (.lst z.1) true, abE src z.2 ρ) else .bad else .bad
theorem amj {t : Tx} {K : PySem.W.Frag} (hK : t.K = nlK K) {g : TG} {src : List (Option Nat)} {tc : TT} {te : TE} {gf : GF} {c : BF} {f : EF} {js : List Nat} (n : Nat) (hn : ∀ k : Nat, src[k]? ≠ some (some n)) (I : Inj src) (hj : ∀ k j : Nat, src[k]? = some (some j) -> k ∉ js) (ng : ∀ T ρ c, gf T ρ ≠ .ex c)
  (hg : ∀ t' : Tx, t'.K = t.K -> (∀ c, ¬ t'.EX c) -> SG t' g gf js) (hc : ∀ t' : Tx, t'.K = t.K -> (∀ c, ¬ t'.EX c) -> ST t' tc c) (he : ∀ t' : Tx, t'.K = t.K -> (∀ c, ¬ t'.EX c) -> SE t' te f) : SE t (ahj (iSq K (akH n)) g src tc te) (ahn src n gf c f) := fun W ρ σ H Q e h => by
 obtain ⟨us, kc, h⟩ := abP (Rs.aaf h) (aeN _ _)
 obtain ⟨mu, a, ys, hσ, wa, ha, ra, _⟩ := e.con kc
 refine .inl ⟨.ref a, hσ, a, rfl, ⟨ys, SqL.of ha⟩, ?_⟩
 split at h
 case isFalse => exact h.elim
 rename_i hlen
 intro D hD
 have h := ae5 (Rs.aaf h)
 obtain ⟨F, eF⟩ := id e
 have wD : ∀ b, W b -> b ≠ D := fun b w z => by subst z; exact e.wn b w hD
 have h0D : t.H0 D = none := e.n0 D hD
 refine ⟨fun i m τ H' => m = us.length - i /\ i <= us.length /\ ∃ ρ' xs acc, EOk (tB' t src ρ σ F H D xs) (fun b => W b \/ b = D) ρ' τ H' /\ aa1 t.K (aaY (fun b => W b \/ b = D) H') xs acc /\ xs.length <= i /\ (∀ b o, ¬ W b -> H b = some o -> H' b = some o) /\ (∀ k, k ∉ js -> τ[k]? = (aeW src σ)[k]?) /\
   (ad8 gf c f (us.drop i) ρ').post (fun _ => False) (fun z => (if acf src z.2 ρ = true then .ok (.v (.lst (acc ++ z.1)) true, abE src z.2 ρ) else .bad : Rs (Rv × En)).post t.EX (fun p => ∀ v H', EOk t W p.2 σ H' -> Stp W H H' -> VOE t W p.2 σ H H' v p.1 -> Q v H')), ?_, ?_⟩
 ·refine ⟨us.length, by simp, Nat.zero_le _, ab5 src ρ, [], [], eF.enter I hD, .nil, Nat.le_refl _, fun b o _ q => ?_, fun _ _ => rfl, ?_⟩
  ·rw [aaH (aaT q hD)]; exact q
  ·rw [List.drop_zero]; exact h
 ·rintro i m τ H2 ⟨rfl, hi, ρ2, xs, acc, e2, r2, l2, n2, a2, h2⟩
  have sm : Same (aaY W H) (aaY (fun b => W b \/ b = D) H2) := fun b o q => by
   obtain ⟨nw, q⟩ := abm q
   rw [aaX]
   ·exact n2 b o nw q
   ·rintro (z | rfl)
    ·exact nw z
    ·rw [hD] at q; cases q
  have nD0 : a ≠ D := wD a wa
  have h2a : H2 a = some (.lst ys) := e2.pn a _ ((aoX nD0 (.inl ⟨n, mu, hσ, hn⟩)).trans ha)
  have q' : SqL K H2 a ys := SqL.of h2a
  have q : (i = us.length -> (Itl K a).stop i H2) /\ ∀ u, us[i]? = some u -> (Itl K a).go i H2 /\ ∀ x H'', (Itl K a).yld i H2 x H'' -> Same H2 H'' /\ Rep t.K (aaY (fun b => W b \/ b = D) H'') x u := by
   refine ⟨fun z => ⟨ys, q', by rw [ra.length]; omega⟩, fun u hu => ?_⟩
   obtain ⟨x, hx, rx⟩ := ra.anf hu
   refine ⟨⟨ys, x, q', hx⟩, fun y H'' yl => ?_⟩
   obtain ⟨rfl, z⟩ := yl
   have := z ys q'
   rw [hx] at this
   cases this
   exact ⟨Same.refl _, rx.mono sm⟩
  by_cases hlt : i < us.length
  ·rw [List.drop_eq_getElem_cons hlt] at h2
   obtain ⟨go, y⟩ := q.2 us[i] (by simp [hlt])
   refine .inr ⟨go, fun x H3 yl => ?_⟩
   obtain ⟨s3, r3⟩ := y x H3 yl
   have e3 := e2.grow s3
   refine hg (tB' t src ρ σ F H D xs) rfl (fun _ => id) _ ρ2 τ H3 x us[i] _ e3 r3 (Rs.aai (ai6 (Rs.aaf h2) (ng _ _)) fun ρ4 h σ4 e4 a4 => ?_)
   refine hc (tB' t src ρ σ F H D xs) rfl (fun _ => id) _ ρ4 σ4 H3 _ e4 (Rs.aai (Rs.aaf h) fun b h H5 e5 s5 => ?_)
   have st5 : Stp (fun b => W b \/ b = D) H2 H5 := (Stp.of s3).trans s5
   have n5 : ∀ b o, ¬ W b -> H b = some o -> H5 b = some o := fun b o nw qb => by
    have nD : b ≠ D := aaT qb hD
    refine st5.keep b o ?_ (n2 b o nw qb)
    rintro (z | z)
    ·exact nw z
    ·exact nD z
   have a5 : ∀ k, k ∉ js -> σ4[k]? = (aeW src σ)[k]? := fun k nk => (a4 k nk).trans (a2 k nk)
   split at h
   ·rename_i cb
    rw [if_pos cb]
    refine he (tB' t src ρ σ F H D xs) rfl (fun _ => id) _ b.2 σ4 H5 _ e5 (Rs.aai (Rs.aaf h) fun p h v H6 e6 s6 v6 => ?_)
    obtain ⟨T, kT, h⟩ := abP (Rs.aaf h) (alZ _)
    have rv : Rep t.K (aaY (fun b => W b \/ b = D) H6) v T := by
     obtain ⟨r, ρ7⟩ := p
     cases r with
     | s i => cases kT
     | v U fr =>
      cases kT
      exact VOk.rep (K := t.K) e5.wn v6.1
    refine ⟨xs, e6.pn D _ B_D, Nat.lt_of_le_of_lt (show xs.length <= 100000 by omega) (by decide), us.length - (i + 1), by omega, rfl, hlt, p.2, xs ++ [v], acc ++ [T], e6.asr (.inr rfl) h0D, ?_, by rw [List.length_append]; simp; omega, fun b o nw q => ?_, a5, ?_⟩
    ·rw [acF (.inr rfl)]
     exact (r2.mono (st5.trans s6).off).app (.cons rv .nil)
    ·have nD : b ≠ D := aaT q hD
     rw [aaH nD]
     refine s6.keep b o ?_ (n5 b o nw q)
     rintro (z | z)
     ·exact nw z
     ·exact nD z
    ·refine Rs.aai (Rs.aaf h) fun z h => ?_
     rw [List.append_assoc]
     exact h
   ·rename_i cb
    rw [if_neg cb]
    exact ⟨us.length - (i + 1), by omega, rfl, hlt, b.2, xs, acc, e5, r2.mono st5.off, by omega, n5, a5, h⟩
  ·have z : i = us.length := by omega
   subst z
   rw [List.drop_length] at h2
   have h2 : (if acf src ρ2 ρ = true then .ok (.v (.lst (acc ++ [])) true, abE src ρ2 ρ) else .bad : Rs (Rv × En)).post t.EX _ := h2
   refine .inl ⟨q.1 rfl, ?_⟩
   split at h2
   ·rename_i so
    rw [List.append_nil] at h2
    have hxs : H2 D = some (.lst xs) := e2.pn D _ B_D
    have eW : EOk t W (abE src ρ2 ρ) σ H2 := ⟨F, eF.leave (Wx := W) I hD e2 n2 hj a2 so (fun _ w => w) fun _ w => .inl w⟩
    have eD : EOh t W D (abE src ρ2 ρ) σ H2 := ⟨F, eF.leave (Wx := fun b => W b \/ b = D) I hD e2 n2 hj a2 so (fun _ w => .inl w) fun _ w => w, fun i ts hi z => by
     obtain ⟨c, ys, _, bs, _, _, ww, _⟩ := eF.dp i ts (aji I hi)
     exact wD D (ww D z).1 rfl⟩
    have st : Stp W H H2 := ⟨n2, fun b q => by
     cases z : H b with
     | none => rfl
     | some o =>
      by_cases w : W b
      ·exact ((e2.wl b (.inl w)).ne q).elim
      ·rw [n2 b o w z] at q
       cases q⟩
    refine h2 (.ref D) H2 eW st ⟨⟨D, xs, acc, rfl, rfl, hD, hxs, r2.mono fun b o q => ?_⟩, fun U a _ ea => ?_⟩
    ·obtain ⟨nb, q⟩ := abm q
     rw [off_ne fun z => nb (.inr z), aaX fun z => nb (.inl z)]
     exact q
    ·cases ea
     exact eD
   ·exact h2.elim
theorem as5 {src : List (Option Nat)} {n : Nat} (h : src.all (fun o => o != some n) = true) : ∀ k : Nat, src[k]? ≠ some (some n) := fun k e => by
 have := List.all_eq_true.mp h _ (List.mem_of_getElem? e)
 simp at this
end L2
end
section
set_option exponentiation.threshold 2000
namespace BH
open PySem L2
noncomputable def afR : SF := (aaP (ada (adX (fuI 1) (aa8 (eOp gNe (aag 1) (eC (.int 0)))) (aoU 0 1 (aae (aag 1) (aae (eOp acz (aag 0) (aag 1)) aar))))) (abn (eCB (g1 adb) (aae (aag 0) aar))))
noncomputable def aaZ : FP := fnP 2 afR
noncomputable def ae8 : SF := (aaP (sIf (aa8 (eOp gEq (aag 1) (eC (.int 0)))) (akd "NoBottom" (eC (.str "a fraction has no bottom of 0"))) acC) (aaP (ab9 (aat aaZ (aae (aag 0) (aae (aag 1) aar))) (gN 2)) (aaP (sIf (aa8 (eOp gLt (aag 1) (eC (.int 0)))) (ab9 (eUn alR (aag 2)) (gN 2)) acC) (abn (ahH (aae (eOp acB (aag 0) (aag 2)) (aae (eOp acB (aag 1) (aag 2)) aar)))))))
noncomputable def abQ : FP := fnP 3 ae8
noncomputable def aho : SF := (abn (aat abQ (aae (eOp abB (eOp abI (eOp gIx (aag 0) (eC (.int 0))) (eOp gIx (aag 1) (eC (.int 1)))) (eOp abI (eOp gIx (aag 1) (eC (.int 0))) (eOp gIx (aag 0) (eC (.int 1))))) (aae (eOp abI (eOp gIx (aag 0) (eC (.int 1))) (eOp gIx (aag 1) (eC (.int 1)))) aar))))
noncomputable def acW : FP := fnP 2 aho
noncomputable def afJ : SF := (abn (aat abQ (aae (eOp abI (eOp gIx (aag 0) (eC (.int 0))) (eOp gIx (aag 1) (eC (.int 0)))) (aae (eOp abI (eOp gIx (aag 0) (eC (.int 1))) (eOp gIx (aag 1) (eC (.int 1)))) aar))))
noncomputable def aby : FP := fnP 2 afJ
noncomputable def akU : SF := (abn (anE (ahi .int (aag 0)) (avf (ahi .bool (aag 0)))))
noncomputable def acD : FP := fnP 1 akU
noncomputable def ae9 : SF := (aaP (sIf (bOr (ae1 (aeM (ahi .tuple (aag 0)))) (aa8 (eOp gNe (eCB (g1 abf) (aae (aag 0) aar)) (eC (.int 2))))) (abn (eC (.bl false))) acC) (aaP (ab9 (aag 0) (gT 2 (aaJ (gN 1) (aaJ (gN 2) acr)))) (aaP (sIf (bOr (ae1 (aeM (aat acD (aae (aag 1) aar)))) (ae1 (aeM (aat acD (aae (aag 2) aar))))) (abn (eC (.bl false))) acC) (abn (anE (eOp gGe (aag 2) (eC (.int 1))) (eOp gEq (aat aaZ (aae (aag 1) (aae (aag 2) aar))) (eC (.int 1))))))))
noncomputable def abz : FP := fnP 3 ae9
noncomputable def ahp : SF := (abn (anE (aat abz (aae (aag 0) aar)) (agr gLe gLe (eC (.int 0)) (eOp gIx (aag 0) (eC (.int 0))) (eOp gIx (aag 0) (eC (.int 1))))))
noncomputable def ab4 : FP := fnP 1 ahp
noncomputable def afK : SF := (aaP (sIf (bOr (ae1 (aeM (ahi .list (aag 0)))) (ae1 (aa8 (agr gLe gLe (eC (.int 1)) (eCB (g1 abf) (aae (aag 0) aar)) (aag 1))))) (abn (eC (.bl false))) acC) (abn (eCB (g1 acq) (aae (abF [none] (fSq (aag 0)) (gN 0) aeH (aat ab4 (aae (aag 0) aar))) aar))))
noncomputable def ab1 : FP := fnP 2 afK
noncomputable def aiL : SF := (aaP (sIf (bOr (ae1 (aeM (ahi .list (aag 0)))) (ae1 (aa8 (agr gLe gLe (eC (.int 1)) (eCB (g1 abf) (aae (aag 0) aar)) (eC (.int 4)))))) (abn (eC (.bl false))) acC) (aaP (sIf (ae1 (aeM (eCB (g1 acq) (aae (abF [none] (fSq (aag 0)) (gN 0) aeH (aat ab1 (aae (aag 0) (aae (eC (.int 12)) aar)))) aar)))) (abn (eC (.bl false))) acC) (abn (eCB (g1 acq) (aae (abF [none, some 0] (fSq (aag 0)) (gN 0) aeH (eOp gEq (eCB (g1 abf) (aae (aag 0) aar)) (eCB (g1 abf) (aae (eOp gIx (aag 1) (eC (.int 0))) aar)))) aar)))))
noncomputable def aea : FP := fnP 1 aiL
noncomputable def agz : SF := (aaP (ab9 (eC (.int 1)) (gN 1)) (aaP (ada (aeF (fSq (aag 0)) (gT 2 (aaJ (gN 2) (aaJ (gN 3) acr))) (ab9 (eOp acB (eOp abI (aag 1) (aag 3)) (aat aaZ (aae (aag 1) (aae (aag 3) aar)))) (gN 1)))) (abn (aag 1))))
noncomputable def ab2 : FP := fnP 4 agz
noncomputable def aev : SF := (aaP (ab9 (aat ab2 (aae (aag 0) aar)) (gN 1)) (abn (abF [none, none, some 1] (fSq (aag 0)) (gT 2 (aaJ (gN 0) (aaJ (gN 1) acr))) aeH (eOp abI (aag 0) (eOp acB (aag 2) (aag 1))))))
noncomputable def abK : FP := fnP 2 aev
noncomputable def adY : SF := (aaP (ab9 (aat abK (aae (aag 0) aar)) (gN 1)) (abn (akm asT [some 1] (aae (eCB (g1 abf) (aae (aag 1) aar)) aar) (rUn alR (rOp gIx (an8 1) (an8 0))))))
noncomputable def abl : FP := fnP 2 adY
noncomputable def agA : SF := (sIf (ae1 (aeM (aat aea (aae (aag 0) aar)))) (akd "NoBook" (eC (.str "this is no book"))) acC)
noncomputable def ac3 : FP := fnP 1 agA
noncomputable def ahZ : SF := (aaP (sIf (bOr (ae1 (aeM (ahi .list (aag 0)))) (aa8 (eOp gNe (eCB (g1 abf) (aae (aag 0) aar)) (aag 1)))) (abn (eC (.bl false))) acC) (abn (eCB (g1 acq) (aae (abF [none] (fSq (aag 0)) (gN 0) aeH (anE (aat abz (aae (aag 0) aar)) (eOp gGe (eOp gIx (aag 0) (eC (.int 0))) (eC (.int 0))))) aar))))
noncomputable def acR : FP := fnP 2 ahZ
noncomputable def aeb : SF := (aaP (sIf (ae1 (aeM (ahi .tuple (aag 0)))) (abn (eC (.bl false))) acC) (aaP (sIf (aa8 (eOp gNe (eCB (g1 abf) (aae (aag 0) aar)) (eC (.int 2)))) (abn (eOp (gIn id) (aag 0) (eC (.tup [(.tup [(.str "least")]), (.tup [(.str "greatest")]), (.tup [(.str "product")])])))) acC) (aaP (ab9 (aag 0) (gT 2 (aaJ (gN 2) (aaJ (gN 3) acr)))) (aaP (sIf (aa8 (eOp gEq (aag 2) (eC (.str "shares")))) (abn (aat acR (aae (aag 3) (aae (aag 1) aar)))) acC) (abn (anE (eOp gEq (aag 2) (eC (.str "middle"))) (anE (aat acD (aae (aag 3) aar)) (agr gLe gLe (eC (.int 1)) (aag 3) (aag 1)))))))))
noncomputable def ac4 : FP := fnP 4 aeb
noncomputable def agX : SF := (aaP (ab9 (eC (.tup [.int 0, .int 1])) (gN 2)) (aaP (ada (aeF (asM (aae (aag 0) (aae (aag 1) aar))) (gT 2 (aaJ (gN 3) (aaJ (gN 4) acr))) (ab9 (aat acW (aae (aag 2) (aae (aat aby (aae (aag 3) (aae (aag 4) aar))) aar))) (gN 2)))) (abn (aag 2))))
noncomputable def acG : FP := fnP 5 agX
noncomputable def agB : SF := (aaP (ab9 (eC (.tup [.int 1, .int 1])) (gN 1)) (aaP (ada (aeF (fSq (aag 0)) (gN 2) (ab9 (aat aby (aae (aag 1) (aae (aag 2) aar))) (gN 1)))) (abn (aag 1))))
noncomputable def acs : FP := fnP 3 agB
noncomputable def aen : SF := (aaP (sIf (aa8 (eOp gEq (eOp gIx (aag 0) (eC (.int 0))) (eC (.str "greatest")))) (abn (eC (.int 1))) acC) (aaP (sIf (aa8 (eOp gEq (eOp gIx (aag 0) (eC (.int 0))) (eC (.str "least")))) (abn (aag 1)) acC) (abn (eOp gIx (aag 0) (eC (.int 1))))))
noncomputable def aci : FP := fnP 2 aen
noncomputable def adA : SF := (aaP (sIf (aa8 (eOp gEq (eOp gIx (aag 0) (eC (.int 0))) (eC (.str "shares")))) (abn (aat acG (aae (eOp gIx (aag 0) (eC (.int 1))) (aae (aag 1) aar)))) acC) (aaP (sIf (aa8 (eOp gEq (eOp gIx (aag 0) (eC (.int 0))) (eC (.str "product")))) (abn (aat acs (aae (aag 1) aar))) acC) (abn (eOp gIx (aag 1) (eOp gIx (aat abl (aae (aag 1) aar)) (eOp ab3 (aat aci (aae (aag 0) (aae (eCB (g1 abf) (aae (aag 1) aar)) aar))) (eC (.int 1))))))))
noncomputable def abh : FP := fnP 2 adA
noncomputable def acN : SF := (aaP (aeu (aat ac3 (aae (aag 0) aar))) (sIf (ae1 (aeM (aat ac4 (aae (aag 1) (aae (eCB (g1 abf) (aae (aag 0) aar)) aar))))) (akd "NoRule" (eC (.str "this is no rule for the book's lists"))) acC))
noncomputable def abo : FP := fnP 2 acN
noncomputable def ajp : SF := (abn (abF [none, some 1] (fSq (aag 0)) (gN 0) aeH (eOp gIx (aag 0) (aag 1))))
noncomputable def ac5 : FP := fnP 2 ajp
noncomputable def ajq : SF := (abn (abF [none, some 1, some 0] (afP (aae (eCB (g1 abf) (aae (eOp gIx (aag 0) (eC (.int 0))) aar)) aar)) (gN 0) aeH (aat abh (aae (aag 1) (aae (aat ac5 (aae (aag 2) (aae (aag 0) aar))) aar)))))
noncomputable def adJ : FP := fnP 2 ajq
noncomputable def aeI : SF := (aaP (aeu (aat abo (aae (aag 0) (aae (aag 1) aar)))) (abn (aat adJ (aae (aag 0) (aae (aag 1) aar)))))
noncomputable def aaM : FP := fnP 2 aeI
end BH
end
section
set_option exponentiation.threshold 2000
namespace K15
open PySem L2 BH
noncomputable def top (i : Nat) : Stmt := PySem.Challenge.pw_bestheads_k15_worths_of_things.main.body.getD i (.Pass ⟨0, 0, 0, 0⟩)
noncomputable abbrev aft : Stmt := top 6
noncomputable abbrev acJ : Stmt := top 7
noncomputable abbrev adK : Stmt := top 8
noncomputable abbrev afu : Stmt := top 9
noncomputable abbrev aec : Stmt := top 10
noncomputable abbrev adL : Stmt := top 11
noncomputable abbrev ac6 : Stmt := top 12
noncomputable abbrev abL : Stmt := top 13
noncomputable abbrev acg : Stmt := top 14
noncomputable abbrev afv : Stmt := top 18
noncomputable abbrev adl : Stmt := top 19
noncomputable abbrev aed : Stmt := top 20
noncomputable abbrev aeO : Stmt := top 21
noncomputable abbrev acS : Stmt := top 24
noncomputable abbrev agC : Stmt := top 25
noncomputable abbrev adt : Stmt := top 26
noncomputable abbrev ac7 : Stmt := top 27
noncomputable abbrev afw : Stmt := top 28
noncomputable abbrev afx : Stmt := top 29
noncomputable abbrev ab7 : Stmt := top 30
noncomputable abbrev adM : Stmt := top 32
noncomputable abbrev adN : Stmt := top 33
noncomputable abbrev adu : Stmt := top 34
noncomputable abbrev ajr : Stmt := top 36
noncomputable abbrev amk : Stmt := top 37
noncomputable abbrev aml : Stmt := top 38
noncomputable abbrev ajs : Stmt := top 39
noncomputable abbrev ajt : Stmt := top 40
noncomputable abbrev amm : Stmt := top 41
noncomputable abbrev amn : Stmt := top 42
noncomputable abbrev aga : Stmt := top 43
noncomputable abbrev adO : Stmt := top 44
noncomputable abbrev amo : Stmt := top 45
noncomputable abbrev auD : Stmt := top 46
noncomputable abbrev afa : Stmt := top 47
noncomputable abbrev akr : Stmt := top 48
noncomputable abbrev aks : Stmt := top 49
noncomputable abbrev aod : Stmt := top 50
structure Nm (mg : Str -> Option Value) : Prop where
 avG : mg "abs" = none
 aoe : mg "all" = none
 ao6 : mg "bool" = none
 aju : mg "enumerate" = none
 amq : mg "int" = none
 abe : mg "isinstance" = none
 ac8 : mg "len" = none
 agD : mg "list" = none
 avH : mg "max" = none
 avI : mg "min" = none
 adP : mg "range" = none
 aof : mg "sorted" = none
 ajv : mg "tuple" = none
 avJ : mg "zip" = none
noncomputable def amr : SF := (aaP (ab9 (eOp abB (eSl (aag 0) oNo (anG (eC (.int 63)))) (afi (aae (eCB (g1 abf) (aae (aag 0) aar)) aar))) (gN 1)) (aaP (ab9 (eC (.int 1)) (gN 2)) (aaP (ada (aeF (afP (aae (eC (.int 160)) aar)) (gN 3) (aaP (ab9 (eOp acz (eOp abB (eOp abB (eOp gIx (aag 1) (eOp acz (aag 3) (eCB (g1 abf) (aae (aag 1) aar)))) (eOp abI (eC (.int 48271)) (aag 3))) (eC (.int 7))) (eC (.int 2147483629))) (gN 4)) (aaP (ab9 (eOp acz (eOp abB (eOp abI (aag 4) (aag 4)) (eOp abI (eC (.int 69621)) (aag 3))) (eC (.int 2147483587))) (gN 4)) (ab9 (eOp abB (eOp abI (aag 2) (eC (.int 2147483587))) (eOp acz (eOp abI (aag 4) (aag 4)) (eC (.int 2147483563)))) (gN 2)))))) (aaP (sIf (aa8 (eOp gGe (eOp gIx (aag 1) (eC (.int 0))) (eOp acy (eC (.int 10)) (eC (.int 18))))) (abn (afi (aae (eOp ab3 (eOp gIx (aag 1) (eC (.int 0))) (eOp acy (eC (.int 10)) (eC (.int 18)))) (aae (aag 2) aar)))) acC) (abn (afi (aae (eC (.int 0)) (aae (aag 2) aar))))))))
noncomputable def afy : FP := fnP 5 amr
noncomputable def ams : SF := (aaP (ab9 (eCB (g1 ajg) (aae (eOp gEq (eOp gIx (aag 0) (eC (.int 0))) (eC (.int 0))) aar)) (gN 2)) (aaP (ab9 (eOp acz (eOp gIx (aag 0) (aag 2)) (aag 1)) (gN 3)) (aaP (ap1 0 (aag 2) (eOp acB (eOp gIx (aag 0) (aag 2)) (aag 1))) (abn (aag 3)))))
noncomputable def abj : FR := fnR 4 0 ams
noncomputable def as6 : SF := (aaP (ab9 (aag 0) (gN 2)) (aaP (ab9 (aag 1) (gN 3)) (aaP (ada (adX (fuI 3) (aa8 (eOp gGt (aag 3) (eC (.int 0)))) (aoU 2 3 (aae (aag 3) (aae (eOp acz (aag 2) (aag 3)) aar))))) (abn (ahH (aae (eOp acB (aag 0) (aag 2)) (aae (eOp acB (aag 1) (aag 2)) aar)))))))
noncomputable def acu : FP := fnP 4 as6
noncomputable def amt : SF := (aaP (ab9 (abb 0 abj (aae (aag 0) (aae (eC (.int 8)) aar))) (gN 2)) (aaP (sIf (aa8 (eOp gLt (aag 2) (eC (.int 2)))) (abn (ahH (aae (aag 2) (aae (eC (.int 1)) aar)))) acC) (aaP (sIf (aa8 (eOp gLt (aag 2) (eC (.int 5)))) (abn (aat acu (aae (abb 0 abj (aae (aag 0) (aae (eC (.int 5)) aar))) (aae (eC (.int 4)) aar)))) acC) (aaP (sIf (aa8 (eOp gEq (aag 2) (eC (.int 5)))) (aaP (ab9 (eOp abB (eC (.int 1)) (abb 0 abj (aae (aag 0) (aae (eOp ab3 (eOp acy (eC (.int 10)) (eC (.int 12))) (eC (.int 1))) aar)))) (gN 3)) (abn (aat acu (aae (abb 0 abj (aae (aag 0) (aae (eOp abB (aag 3) (eC (.int 1))) aar))) (aae (aag 3) aar))))) acC) (aaP (ab9 (eOp gIx (eOp abB (aag 1) (eCL [.tup [.int 1, .int 2]])) (abb 0 abj (aae (aag 0) (aae (eOp abB (eCB (g1 abf) (aae (aag 1) aar)) (eC (.int 1))) aar)))) (gT 2 (aaJ (gN 4) (aaJ (gN 3) acr)))) (aaP (sIf (aa8 (eOp gEq (aag 2) (eC (.int 6)))) (abn (ahH (aae (aag 4) (aae (aag 3) aar)))) acC) (abn (aat acu (aae (eCB (g2 ac9) (aae (eOp abB (aag 4) (eC (.int 1))) (aae (aag 3) aar))) (aae (aag 3) aar))))))))))
noncomputable def aeP : FR := fnR 5 0 amt
noncomputable def aqx : SF := (aaP (ai3 3 (afi aar)) (aaP (ai3 4 (afi aar)) (aaP (ada (aeF (afP (aae (aag 1) aar)) (gN 5) (aaP (ai3 6 (afi aar)) (aaP (aeF (afP (aae (aag 2) aar)) (gN 7) (aaP (aeu (eMt 6 akc (aae (abb 0 aeP (aae (aag 0) (aae (aag 4) aar))) aar))) (aeu (eMt 4 akc (aae (eOp gIx (aag 6) (eUn alR (eC (.int 1)))) aar))))) (ara 6 (aeu (eMt 3 akc (aae (aag 6) aar)))))))) (abn (aag 3)))))
noncomputable def ah0 : FR := fnR 8 0 aqx
noncomputable def ao7 : SF := (abn (abb 0 ah0 (aae (aag 0) (aae (eOp abB (eC (.int 1)) (abb 0 abj (aae (aag 0) (aae (eC (.int 4)) aar)))) (aae (eOp abB (eC (.int 1)) (abb 0 abj (aae (aag 0) (aae (eC (.int 12)) aar)))) aar)))))
noncomputable def ahq : FR := fnR 1 0 ao7
noncomputable def ao8 : SF := (aaP (ab9 (abb 0 abj (aae (aag 0) (aae (eC (.int 7)) aar))) (gN 2)) (aaP (sIf (aa8 (eOp gEq (aag 2) (eC (.int 0)))) (abn (ahH (aae (eC (.str "middle")) (aae (eOp abB (eC (.int 1)) (abb 0 abj (aae (aag 0) (aae (aag 1) aar)))) aar)))) acC) (aaP (sIf (aa8 (eOp gLt (aag 2) (eC (.int 4)))) (abn (eOp gIx (eCL [.tup [.str "least"], .tup [.str "greatest"], .tup [.str "product"]]) (eOp ab3 (aag 2) (eC (.int 1))))) acC) (aaP (ai3 3 (afi aar)) (aaP (ada (aeF (afP (aae (aag 1) aar)) (gN 4) (aaP (ab9 (abb 0 abj (aae (aag 0) (aae (eC (.int 4)) aar))) (gN 5)) (aaP (ab9 (eOp gIx (afi (aae (eC (.int 0)) (aae (eC (.int 1)) (aae (eOp abB (eC (.int 1)) (abb 0 abj (aae (aag 0) (aae (eC (.int 9)) aar)))) (aae (abb 0 abj (aae (aag 0) (aae (eOp acy (eC (.int 10)) (eC (.int 12))) aar))) aar))))) (aag 5)) (gN 6)) (aeu (eMt 3 akc (aae (aat acu (aae (aag 6) (aae (eOp gIx (afi (aae (eC (.int 1)) (aae (eC (.int 1)) (aae (eOp abB (eC (.int 1)) (abb 0 abj (aae (aag 0) (aae (eC (.int 9)) aar)))) (aae (eOp abB (eC (.int 1)) (abb 0 abj (aae (aag 0) (aae (eOp ab3 (eOp acy (eC (.int 10)) (eC (.int 12))) (eC (.int 1))) aar)))) aar))))) (aag 5)) aar))) aar))))))) (ara 3 (abn (ahH (aae (eC (.str "shares")) (aae (aag 3) aar))))))))))
noncomputable def ahr : FR := fnR 7 0 ao8
noncomputable def aog : SF := (abn (abF [none] (fSq (aag 0)) (gN 0) aeH (eCB (g1 abk) (aae (aag 0) aar))))
noncomputable def afb : FP := fnP 1 aog
noncomputable def adQ : SF := (aaP (sIf (aa8 (eOp gEq (eOp gIx (aag 0) (eC (.int 0))) (eC (.str "shares")))) (abn (ahH (aae (eOp gIx (aag 0) (eC (.int 0))) (aae (eCB (g1 abk) (aae (eOp gIx (aag 0) (eC (.int 1))) aar)) aar)))) acC) (abn (aag 0)))
noncomputable def abA : FP := fnP 1 adQ
noncomputable def ao9 : SF := (abn (eOp gLt (eOp abI (eOp gIx (aag 0) (eC (.int 0))) (eOp gIx (aag 1) (eC (.int 1)))) (eOp abI (eOp gIx (aag 1) (eC (.int 0))) (eOp gIx (aag 0) (eC (.int 1))))))
noncomputable def ahs : FP := fnP 2 ao9
noncomputable def awY : SF := (aaP (aoU 2 3 (aae (eCB (g1 ajg) (aae (eOp gEq (eOp gIx (aag 0) (eC (.int 0))) (eC (.str "product"))) aar)) (aae (eC (.int 1)) aar))) (aaP (ada (aeF (aoc (aae (aag 1) aar)) (gT 2 (aaJ (gN 4) (aaJ (gN 5) acr))) (aaP (sIf (aa8 (eOp gEq (eOp gIx (aag 0) (eC (.int 0))) (eC (.str "product")))) (ab9 (aat acu (aae (eOp abI (aag 2) (eOp gIx (aag 5) (eC (.int 0)))) (aae (eOp abI (aag 3) (eOp gIx (aag 5) (eC (.int 1)))) aar))) (gT 2 (aaJ (gN 2) (aaJ (gN 3) acr)))) acC) (sIf (aa8 (eOp gEq (eOp gIx (aag 0) (eC (.int 0))) (eC (.str "shares")))) (aaP (ab9 (ahH (aae (eOp abI (eOp gIx (eOp gIx (eOp gIx (aag 0) (eC (.int 1))) (aag 4)) (eC (.int 0))) (eOp gIx (aag 5) (eC (.int 0)))) (aae (eOp abI (eOp gIx (eOp gIx (eOp gIx (aag 0) (eC (.int 1))) (aag 4)) (eC (.int 1))) (eOp gIx (aag 5) (eC (.int 1)))) aar))) (gN 6)) (ab9 (aat acu (aae (eOp abB (eOp abI (aag 2) (eOp gIx (aag 6) (eC (.int 1)))) (eOp abI (eOp gIx (aag 6) (eC (.int 0))) (aag 3))) (aae (eOp abI (aag 3) (eOp gIx (aag 6) (eC (.int 1)))) aar))) (gT 2 (aaJ (gN 2) (aaJ (gN 3) acr))))) acC)))) (aaP (sIf (aa8 (eOp (gIn id) (eOp gIx (aag 0) (eC (.int 0))) (eC (.tup [.str "product", .str "shares"])))) (abn (ahH (aae (aag 2) (aae (aag 3) aar)))) acC) (aaP (ai3 7 (afi aar)) (aaP (ada (aeF (fSq (aag 1)) (gN 5) (aeu (eMt 7 ao4 (aae (eCB (g1 abf) (aae (ahn [none, some 5] 7 (gN 0) (aeM (aat ahs (aae (aag 1) (aae (aag 0) aar)))) (aag 0)) aar)) (aae (aag 5) aar)))))) (aaP (sIf (aa8 (eOp gEq (eOp gIx (aag 0) (eC (.int 0))) (eC (.str "middle")))) (abn (eOp gIx (aag 7) (eOp ab3 (eOp gIx (aag 0) (eC (.int 1))) (eC (.int 1))))) acC) (abn (eOp gIx (aag 7) (eOp ab3 (eCB (g1 ajg) (aae (eOp gEq (eOp gIx (aag 0) (eC (.int 0))) (eC (.str "greatest"))) aar)) (eC (.int 1)))))))))))
noncomputable def amu : FP := fnP 8 awY
noncomputable def aoh : SF := (abn (abF [none, some 1, some 0] (afP (aae (eCB (g1 abf) (aae (eOp gIx (aag 0) (eC (.int 0))) aar)) aar)) (gN 0) aeH (aat amu (aae (aag 1) (aae (abF [none, some 0] (fSq (aag 2)) (gN 0) aeH (eOp gIx (aag 0) (aag 1))) aar)))))
noncomputable def aeo : FP := fnP 2 aoh
noncomputable def as7 : SF := (aaP (sIf (bOr (ae1 (aeM (ahi .tuple (aag 0)))) (bOr (aa8 (eOp gNe (eCB (g1 abf) (aae (aag 0) aar)) (eC (.int 2)))) (aa8 (eOp gNe (aag 0) (aag 1))))) (abn (eC (.bl false))) acC) (abn (eOp gEq (eCB (g1 abf) (aae (abF [none] (fSq (aag 0)) (gN 0) (bOr (ae1 (aeM (ahi .int (aag 0)))) (aeM (ahi .bool (aag 0)))) (aag 0)) aar)) (eC (.int 0)))))
noncomputable def aiM : FP := fnP 2 as7
noncomputable def as8 : SF := (aaP (sIf (bOr (ae1 (aeM (ahi .list (aag 0)))) (aa8 (eOp gNe (eCB (g1 abf) (aae (aag 0) aar)) (eCB (g1 abf) (aae (aag 1) aar))))) (abn (eC (.bl false))) acC) (abn (eOp gEq (eCB (g1 abf) (aae (abF [none, some 0, some 1] (afP (aae (eCB (g1 abf) (aae (aag 1) aar)) aar)) (gN 0) (ae1 (aeM (aat aiM (aae (eOp gIx (aag 1) (aag 0)) (aae (eOp gIx (aag 2) (aag 0)) aar))))) (aag 0)) aar)) (eC (.int 0)))))
noncomputable def afc : FP := fnP 2 as8
noncomputable def as9 : SF := (aaP (ai3 1 (aat afy (aae (aag 0) aar))) (aaP (ada (aeF (afP (aae (eC (.int 3)) aar)) (gN 2) (aaP (ab9 (abb 0 ahq (aae (aag 1) aar)) (gN 3)) (aaP (ab9 (abb 0 ahr (aae (aag 1) (aae (eCB (g1 abf) (aae (aag 3) aar)) aar))) (gN 4)) (aaP (ab9 (afi (aae (aat afb (aae (aag 3) aar)) (aae (aat abA (aae (aag 4) aar)) aar))) (gN 5)) (aaP (ab9 (aat aeo (aae (aag 3) (aae (aag 4) aar))) (gN 6)) (aaP (ai3 7 (aat aaM (aae (eOp gIx (aag 5) (eC (.int 0))) (aae (eOp gIx (aag 5) (eC (.int 1))) aar)))) (aaP (sIf (bOr (ae1 (aeM (aat afc (aae (aag 7) (aae (aag 6) aar))))) (aa8 (eOp gNe (aag 5) (afi (aae (aag 3) (aae (aag 4) aar)))))) (abn (eC (.bl false))) acC) (aaP (sIf (aa8 (eOp gLe (eCB (g1 ahY) (aae (abF [none] (fSq (aag 6)) (gN 0) aeH (eOp ab3 (eOp gIx (aag 0) (eC (.int 0))) (eOp gIx (aag 0) (eC (.int 1))))) aar)) (eC (.int 0)))) (sIf (ae1 (aeM (aat afc (aae (aat aaM (aae (afi (aae (eCB (g1 abk) (aae (aag 7) aar)) aar)) (aae (eC (.tup [.str "least"])) aar))) (aae (aag 6) aar))))) (abn (eC (.bl false))) acC) acC) (aaP (aeu (asn 7 afI)) (sIf (ae1 (aeM (aat afc (aae (aat aaM (aae (eOp gIx (aag 5) (eC (.int 0))) (aae (eOp gIx (aag 5) (eC (.int 1))) aar))) (aae (aag 6) aar))))) (abn (eC (.bl false))) acC))))))))))) (abn (eC (.bl true)))))
noncomputable def akV : FP := fnP 8 as9
end K15
end
section
set_option exponentiation.threshold 2000
namespace K15
open PySem L2 BH
section
variable {P : Program} {w : World} {K : PySem.W.Frag} {mg : Str -> Option Value} {base : Heap} {cl : Str -> Addr}
theorem ata (a : At K mg "_law_book" amm) (M : Nm mg) (aqy : DfX P w K mg base 3 "_law_lists" (["_law_purse_here", "_law_lists_here", "_law_many"] : List Str) (spR K 3 0 ah0)) (acO : DfX P w K mg base 1 "_law_draw" (["_law_purse_here", "_law_many"] : List Str) (spR K 2 0 abj)) : DfX P w K mg base 4 "_law_book" (["_law_purse_here"] : List Str) (spR K 1 0 ahq) := by
 have S : aaE (["_law_purse_here"] : List Str) (["_law_purse_here"] : List Str) (aan amm) := ⟨rfl, rfl, rfl, by decide +kernel, rfl, by decide +kernel, by decide +kernel⟩
 exact a.dfR 0 S (cl := fun _ => 0) (by decide) (fun _ _ _ _ _ _ us hl => match us, hl with | [_], _ => by kernel_rfl) (fun f cdv A outer s H E hr => ⟨_, (aap (aaB (pcF (E := E) (aqy.mono (by decide)) hr aay (paK (pvL 0) (paK (aaU abS aal (pcF (E := E) (acO.mono (by decide)) hr aay (paK (pvL 0) (paK aal aaj)))) (paK (aaU abS aal (pcF (E := E) (acO.mono (by decide)) hr aay (paK (pvL 0) (paK aal aaj)))) aaj)))))), fun t hK hx => (aaC (abT hK (aah (aah (aah aaA))) (aad (aac 0) (aad (ad1 hK (aao _) (abT hK (aah (aah aaA)) (aad (aac 0) (aad (aao _) aak)))) (aad (ad1 hK (aao _) (abT hK (aah (aah aaA)) (aad (aac 0) (aad (aao _) aak)))) aak)))))⟩)
theorem aoi (a : At K mg "_law_copied" aga) (M : Nm mg) : DfX P w K mg base 1 "_law_copied" (["_law_book_here"] : List Str) (spP K cl 1 afb) := by
 have S : aaE (["_law_book_here"] : List Str) (["_law_book_here"] : List Str) (aan aga) := ⟨rfl, rfl, rfl, by decide +kernel, rfl, by decide +kernel, by decide +kernel⟩
 exact a.dfP S (cl := cl) (by decide) (fun _ _ _ _ _ _ us hl => match us, hl with | [_], _ => by kernel_rfl) (fun f cdv A outer s H E hr => ⟨_, (aap (aaB (ac1 (sc := aan aga) (No := (["_law_book_here"] : List Str)) (N := (["_law_worths_here"] : List Str)) (src := [none]) (g := (acX 0)) rfl rfl ⟨by rfl, by decide +kernel, by decide +kernel, by decide +kernel, by rfl, by decide +kernel⟩ rfl (adg (pvL 0)) (fun C s H ex => (pgL 0 (show List.Nodup (["_law_worths_here"] : List Str) by decide +kernel))) (fun C s H ex => (ard ad2 M.agD (paK (pvL 0) aaj)))))), fun t hK hx => (aaC (ac2 (adz hK (aac 0)) (adh (by decide)) (adi (js := [0]) (by decide)) ab6 (fun t1 h1 k1 => (aas 0)) (fun t1 h1 k1 => (al1 (h1.trans hK) (aad (aac 0) aak)))))⟩)
theorem atb (a : At K mg "_law_draw" amk) (M : Nm mg) : DfX P w K mg base 1 "_law_draw" (["_law_purse_here", "_law_many"] : List Str) (spR K 2 0 abj) := by
 have S : aaE (["_law_purse_here", "_law_many", "_law_at", "_law_found"] : List Str) (["_law_purse_here", "_law_many"] : List Str) (aan amk) := ⟨rfl, rfl, rfl, by decide +kernel, rfl, by decide +kernel, by decide +kernel⟩
 exact a.dfR 0 S (cl := fun _ => 0) (by decide) (fun _ _ _ _ _ _ us hl => match us, hl with | [_, _], _ => by kernel_rfl) (fun f cdv A outer s H E hr => ⟨_, (aam (psL 2 S.nd (ard agh M.amq (paK (acI (acd hr.units) (aaN aaw (pvL 0) aal (fun _ _ => rfl)) aal (aa6 _)) aaj))) (aam (psL 3 S.nd (aaU aeL (aaN aaw (pvL 0) (pvL 2) (fun _ _ => rfl)) (pvL 1))) (aam (ag9 (aaU adE (aaN aaw (pvL 0) (pvL 2) (fun _ _ => rfl)) (pvL 1)) (aru (pvL 0) (pvL 2) set_list)) (aap (aaB (pvL 3)))))), fun t hK hx => (aau (abg (aqa hK (aad (x_eq hK (abV hK (aac 0) (aao _)) (aao _)) aak)) (aas 2) ab6) (aau (abg (ajk hK (abV hK (aac 0) (aac 2)) (aac 1)) (aas 3) ab6) (aau (ap2 0 (ajj hK (abV hK (aac 0) (aac 2)) (aac 1)) (aac 2)) (aaC (aac 3)))))⟩)
theorem atc (a : At K mg "_law_frac" aml) (M : Nm mg) : DfX P w K mg base 1 "_law_frac" (["_law_top", "_law_bottom"] : List Str) (spP K cl 2 acu) := by
 have S : aaE (["_law_top", "_law_bottom", "_law_one", "_law_other"] : List Str) (["_law_top", "_law_bottom"] : List Str) (aan aml) := ⟨rfl, rfl, rfl, by decide +kernel, rfl, by decide +kernel, by decide +kernel⟩
 exact a.dfP S (cl := cl) (by decide) (fun _ _ _ _ _ _ us hl => match us, hl with | [_, _], _ => by kernel_rfl) (fun f cdv A outer s H E hr => ⟨_, (aam (psL 2 S.nd (pvL 0)) (aam (psL 3 S.nd (pvL 1)) (aam (PS.nox (ajW PassesOwn.never (aa7 auT (pvL 3) aal (aa6 _)) (aap (aly (i := 2) (j := 3) rfl S.nd rfl rfl (by decide) rfl rfl (paK (pvL 3) (paK (aaU aeL (pvL 2) (pvL 3)) aaj)) rfl)))) (aap (aaB (aeD (paK (aaU adE (pvL 0) (pvL 2)) (paK (aaU adE (pvL 1) (pvL 2)) aaj)))))))), fun t hK hx => (aau (abg (aac 0) (aas 2) ab6) (aau (abg (aac 1) (aas 3) ab6) (aau (ad9 (fun t1 h1 k1 => (akb (fuI 3) (aaW (axv (h1.trans hK) (aac 3) (aao _))) (alV 2 3 (aad (aac 3) (aad (ajk (h1.trans hK) (aac 2) (aac 3)) aak)))))) (aaC (ae0 (aad (ajj hK (aac 0) (aac 2)) (aad (ajj hK (aac 1) (aac 2)) aak)))))))⟩)
theorem atd (a : At K mg "_law_less" amo) (M : Nm mg) : DfX P w K mg base 1 "_law_less" (["_law_one", "_law_other"] : List Str) (spP K cl 2 ahs) := by
 have S : aaE (["_law_one", "_law_other"] : List Str) (["_law_one", "_law_other"] : List Str) (aan amo) := ⟨rfl, rfl, rfl, by decide +kernel, rfl, by decide +kernel, by decide +kernel⟩
 exact a.dfP S (cl := cl) (by decide) (fun _ _ _ _ _ _ us hl => match us, hl with | [_, _], _ => by kernel_rfl) (fun f cdv A outer s H E hr => ⟨_, (aap (aaB (acI (aiA hr.units) (aaU abD (aaN aaw (pvL 0) aal (fun _ _ => rfl)) (aaN aaw (pvL 1) aal (fun _ _ => rfl))) (aaU abD (aaN aaw (pvL 1) aal (fun _ _ => rfl)) (aaN aaw (pvL 0) aal (fun _ _ => rfl))) (aa6 _)))), fun t hK hx => (aaC (x_lt hK (adq hK (abV hK (aac 0) (aao _)) (abV hK (aac 1) (aao _))) (adq hK (abV hK (aac 1) (aao _)) (abV hK (aac 0) (aao _)))))⟩)
theorem aqz (a : At K mg "_law_lists" ajt) (M : Nm mg) (aqA : DfX P w K mg base 2 "_law_worth" (["_law_purse_here", "_law_before"] : List Str) (spR K 2 0 aeP)) : DfX P w K mg base 3 "_law_lists" (["_law_purse_here", "_law_lists_here", "_law_many"] : List Str) (spR K 3 0 ah0) := by
 have S : aaE (["_law_purse_here", "_law_lists_here", "_law_many", "_law_found", "_law_before", "_law_place", "_law_worths_here", "_law_thing"] : List Str) (["_law_purse_here", "_law_lists_here", "_law_many"] : List Str) (aan ajt) := ⟨rfl, rfl, rfl, by decide +kernel, rfl, by decide +kernel, by decide +kernel⟩
 exact a.dfR 0 S (cl := fun _ => 0) (by decide) (fun _ _ _ _ _ _ us hl => match us, hl with | [_, _, _], _ => by kernel_rfl) (fun f cdv A outer s H E hr => ⟨_, (aam (psL 3 S.nd (ade aaj)) (aam (psL 4 S.nd (ade aaj)) (aam (PS.nox (aeC PassesOwn.never rfl (piR M.adP (paK (pvL 1) aaj)) (pgL 5 S.nd) (aam (psL 6 S.nd (ade aaj)) (aam (aeC PassesOwn.never rfl (piR M.adP (paK (pvL 2) aaj)) (pgL 7 S.nd) (aam (psE (alI PySem.F.plainAttrs_list PySem.F.slot_list_append PySem.F.type_list_append adx (pvL 6) (acY (pcF (E := E0) (aqA.mono (by decide)) hr ace (paK (pvL 0) (paK (pvL 4) aaj))) aaj))) (aap (psE (alI PySem.F.plainAttrs_list PySem.F.slot_list_append PySem.F.type_list_append adx (pvL 4) (acY (aaN aaw (pvL 6) (ank ajY aal) (fun _ _ => rfl)) aaj)))))) (aap (psE (alI PySem.F.plainAttrs_list PySem.F.slot_list_append PySem.F.type_list_append adx (pvL 3) (acY (pvL 6) aaj)))))))) (aap (aaB (pvL 3)))))), fun t hK hx => (aau (ags 3 (ady aak)) (aau (ags 4 (ady aak)) (aau (ad9 (fun t1 h1 k1 => (aeG (afH (aad (aac 1) aak)) (aas 5) ab6 (aau (ags 6 (ady aak)) (aau (aeG (afH (aad (aac 2) aak)) (aas 7) ab6 (aau (ad6 (anS 6 (abT (h1.trans hK) (aah (aah aaA)) (aad (aac 0) (aad (aac 4) aak))))) (ad6 (anS 4 (abV (h1.trans hK) (aac 6) (asH (aao _))))))) (aoT 6 (ad6 (anS 3 (aac 6))))))))) (aaC (aac 3)))))⟩)
theorem axF (a : At K mg "_law_of" auD) (M : Nm mg) (afL : DfX P w K mg base 1 "_law_frac" (["_law_top", "_law_bottom"] : List Str) (spP K cl 2 acu)) (ate : DfX P w K mg base 1 "_law_less" (["_law_one", "_law_other"] : List Str) (spP K cl 2 ahs)) : DfX P w K mg base 2 "_law_of" (["_law_rule_here", "_law_worths_here"] : List Str) (spP K cl 2 amu) := by
 have S : aaE (["_law_rule_here", "_law_worths_here", "_law_top", "_law_bottom", "_law_place", "_law_worth_here", "_law_more", "_law_order"] : List Str) (["_law_rule_here", "_law_worths_here"] : List Str) (aan auD) := ⟨rfl, rfl, rfl, by decide +kernel, rfl, by decide +kernel, by decide +kernel⟩
 exact a.dfP S (cl := cl) (by decide) (fun _ _ _ _ _ _ us hl => match us, hl with | [_, _], _ => by kernel_rfl) (fun f cdv A outer s H E hr => ⟨_, (aam (aly (i := 2) (j := 3) rfl S.nd rfl rfl (by decide) rfl rfl (paK (ard agh M.amq (paK (acI (acd hr.units) (aaN aaw (pvL 0) aal (fun _ _ => rfl)) acA (aa6 _)) aaj)) (paK aal aaj)) rfl) (aam (PS.nox (aeC PassesOwn.never rfl (aqr M.aju (paK (pvL 1) aaj)) (aeU rfl (abt (pgL 4 S.nd) (abt (pgC 5 S.nd rfl) adC))) (aam (abX (aa7 (acd hr.units) (aaN aaw (pvL 0) aal (fun _ _ => rfl)) acA (aa6 _)) (aap (ag9 (pcF (E := E0) (afL.mono (by decide)) hr ace (paK (aaU abD (pvL 2) (aaN aaw (pvC 5) aal (fun _ _ => rfl))) (paK (aaU abD (pvL 3) (aaN aaw (pvC 5) aal (fun _ _ => rfl))) aaj))) (aeU rfl (abt (pgL 2 S.nd) (abt (pgL 3 S.nd) adC))))) aaQ) (aap (abX (aa7 (acd hr.units) (aaN aaw (pvL 0) aal (fun _ _ => rfl)) acA (aa6 _)) (aam (psL 6 S.nd (aeD (paK (aaU abD (aaN aaw (aaN aaw (aaN aaw (pvL 0) aal (fun _ _ => rfl)) (pvL 4) (fun _ _ => rfl)) aal (fun _ _ => rfl)) (aaN aaw (pvC 5) aal (fun _ _ => rfl))) (paK (aaU abD (aaN aaw (aaN aaw (aaN aaw (pvL 0) aal (fun _ _ => rfl)) (pvL 4) (fun _ _ => rfl)) aal (fun _ _ => rfl)) (aaN aaw (pvC 5) aal (fun _ _ => rfl))) aaj)))) (aap (ag9 (pcF (E := E0) (afL.mono (by decide)) hr ace (paK (aaU abS (aaU abD (pvL 2) (aaN aaw (pvL 6) aal (fun _ _ => rfl))) (aaU abD (aaN aaw (pvL 6) aal (fun _ _ => rfl)) (pvL 3))) (paK (aaU abD (pvL 3) (aaN aaw (pvL 6) aal (fun _ _ => rfl))) aaj))) (aeU rfl (abt (pgL 2 S.nd) (abt (pgL 3 S.nd) adC)))))) aaQ))))) (aam (abX (aa7 (aoM hr.units) (aaN aaw (pvL 0) aal (fun _ _ => rfl)) (ahU (G := nlK K) (Ts := [.str "product", .str "shares"]) (by kernel_rfl)) (by with_unfolding_all rfl)) (aap (aaB (aeD (paK (pvL 2) (paK (pvL 3) aaj))))) aaQ) (aam (psL 7 S.nd (ade aaj)) (aam (PS.nox (aeC PassesOwn.never rfl (adg (pvL 1)) (pgC 5 S.nd rfl) (aap (psE (alI PySem.F.plainAttrs_list PySem.F.slot_list_insert PySem.F.type_list_insert amf (pvL 7) (acY (pcB aaR M.ac8 (paK (ahM (sc := aan auD) (No := (["_law_rule_here", "_law_worths_here", "_law_top", "_law_bottom", "_law_place", "_law_worth_here", "_law_more", "_law_order"] : List Str)) (N := (["_law_one", "_law_worth_here"] : List Str)) (src := [none, some 5]) (g := (acX 0)) rfl rfl ⟨by rfl, by decide +kernel, by decide +kernel, by decide +kernel, by rfl, by decide +kernel⟩ rfl (adg (pvL 7)) (fun C s H ex => (pgL 0 (show List.Nodup (["_law_one", "_law_worth_here"] : List Str) by decide +kernel))) (fun C s H ex => (ae7 (K := K) (pcF (E := E0) (ate.mono (by decide)) hr ace (paK (pvC 1) (paK (pvL 0) aaj))) rfl (by intro _; rfl))) (fun C s H ex => (pvL 0))) aaj)) (acY (pvC 5) aaj))))))) (aam (abX (aa7 (acd hr.units) (aaN aaw (pvL 0) aal (fun _ _ => rfl)) acA (aa6 _)) (aap (aaB (aaN aaw (pvL 7) (aaU aeV (aaN aaw (pvL 0) aal (fun _ _ => rfl)) aal) (fun _ _ => rfl)))) aaQ) (aap (aaB (aaN aaw (pvL 7) (aaU aeV (ard agh M.amq (paK (acI (acd hr.units) (aaN aaw (pvL 0) aal (fun _ _ => rfl)) acA (aa6 _)) aaj)) aal) (fun _ _ => rfl)))))))))), fun t hK hx => (aau (alV 2 3 (aad (aqa hK (aad (x_eq hK (abV hK (aac 0) (aao _)) (acH _)) aak)) (aad (aao _) aak))) (aau (ad9 (fun t1 h1 k1 => (aeG (aqt (h1.trans hK) (aad (aac 1) aak)) (ae2 (h1.trans hK) (abv (aas 4) (abv (aas 5) adF))) (anQ (ad0 ab6 (ad0 ab6 ae6))) (aau (ab0 (aaW (x_eq (h1.trans hK) (abV (h1.trans hK) (aac 0) (aao _)) (acH _))) (abg (aa2 (h1.trans hK) k1 (aah (aah aaA)) (aad (adq (h1.trans hK) (aac 2) (abV (h1.trans hK) (aac 5) (aao _))) (aad (adq (h1.trans hK) (aac 3) (abV (h1.trans hK) (aac 5) (aao _))) aak))) (ae2 (h1.trans hK) (abv (aas 2) (abv (aas 3) adF))) (anQ (ad0 ab6 (ad0 ab6 ae6)))) abd) (ab0 (aaW (x_eq (h1.trans hK) (abV (h1.trans hK) (aac 0) (aao _)) (acH _))) (aau (abg (ae0 (aad (adq (h1.trans hK) (abV (h1.trans hK) (abV (h1.trans hK) (abV (h1.trans hK) (aac 0) (aao _)) (aac 4)) (aao _)) (abV (h1.trans hK) (aac 5) (aao _))) (aad (adq (h1.trans hK) (abV (h1.trans hK) (abV (h1.trans hK) (abV (h1.trans hK) (aac 0) (aao _)) (aac 4)) (aao _)) (abV (h1.trans hK) (aac 5) (aao _))) aak))) (aas 6) ab6) (abg (aa2 (h1.trans hK) k1 (aah (aah aaA)) (aad (ad1 (h1.trans hK) (adq (h1.trans hK) (aac 2) (abV (h1.trans hK) (aac 6) (aao _))) (adq (h1.trans hK) (abV (h1.trans hK) (aac 6) (aao _)) (aac 3))) (aad (adq (h1.trans hK) (aac 3) (abV (h1.trans hK) (aac 6) (aao _))) aak))) (ae2 (h1.trans hK) (abv (aas 2) (abv (aas 3) adF))) (anQ (ad0 ab6 (ad0 ab6 ae6))))) abd))))) (aau (ab0 (aaW (awT hK (abV hK (aac 0) (aao _)) (anW hK))) (aaC (ae0 (aad (aac 2) (aad (aac 3) aak)))) abd) (aau (ags 7 (ady aak)) (aau (ad9 (fun t2 h2 k2 => (aeG (adz (h2.trans hK) (aac 1)) (aas 5) ab6 (ad6 (avF 7 (x_len (h2.trans hK) (aad (amj (h2.trans hK) 7 (as5 (by decide)) (adh (by decide)) (adi (js := [0]) (by decide)) ab6 (fun t3 h3 k3 => (aas 0)) (fun t3 h3 k3 => (aco (h3.trans (h2.trans hK)) (aa2 (h3.trans (h2.trans hK)) k3 (aah (aah aaA)) (aad (aac 1) (aad (aac 0) aak))))) (fun t3 h3 k3 => (aac 0))) aak)) (aac 5)))))) (aau (ab0 (aaW (x_eq hK (abV hK (aac 0) (aao _)) (acH _))) (aaC (abV hK (aac 7) (aiE hK (abV hK (aac 0) (aao _)) (aao _)))) abd) (aaC (abV hK (aac 7) (aiE hK (aqa hK (aad (x_eq hK (abV hK (aac 0) (aao _)) (acH _)) aak)) (aao _))))))))))⟩)
theorem atf (a : At K mg "_law_pair" akr) (M : Nm mg) : DfX P w K mg base 1 "_law_pair" (["_law_found", "_law_due"] : List Str) (spP K cl 2 aiM) := by
 have S : aaE (["_law_found", "_law_due"] : List Str) (["_law_found", "_law_due"] : List Str) (aan akr) := ⟨rfl, rfl, rfl, by decide +kernel, rfl, by decide +kernel, by decide +kernel⟩
 exact a.dfP S (cl := cl) (by decide) (fun _ _ _ _ _ _ us hl => match us, hl with | [_, _], _ => by kernel_rfl) (fun f cdv A outer s H E hr => ⟨_, (aam (abX (PW.pt (agT (acj (abH (pcI .tuple (pvL 0) M.abe M.ajv) (by intro _; rfl))) (agT (aa7 (afG hr.units) (pcB aaR M.ac8 (paK (pvL 0) aaj)) aal (aa6 _)) (aeS (aa7 (afG hr.units) (pvL 0) (pvL 1) (aa6 _)))))) (aap (aaB aeR)) aaQ) (aap (aaB (acI (acd hr.units) (pcB aaR M.ac8 (paK (ahM (sc := aan akr) (No := (["_law_found", "_law_due"] : List Str)) (N := (["_law_one"] : List Str)) (src := [none]) (g := (acX 0)) rfl rfl ⟨by rfl, by decide +kernel, by decide +kernel, by decide +kernel, by rfl, by decide +kernel⟩ rfl (adg (pvL 0)) (fun C s H ex => (pgL 0 (show List.Nodup (["_law_one"] : List Str) by decide +kernel))) (fun C s H ex => (PW.pt (agT (acj (ae7 (K := K) (pcI .int (pvL 0) M.abe M.amq) rfl (by intro _; rfl))) (aeS (ae7 (K := K) (pcI .bool (pvL 0) M.abe M.ao6) rfl (by intro _; rfl)))))) (fun C s H ex => (pvL 0))) aaj)) aal (aa6 _))))), fun t hK hx => (aau (ab0 (agW (acp (aco hK (ad5 hK .tuple (aac 0)))) (agW (aaW (aoY hK (x_len hK (aad (aac 0) aak)) (aao _))) (aaW (aoY hK (aac 0) (aac 1))))) (aaC (afp _)) abd) (aaC (x_eq hK (x_len hK (aad (ahQ (adz hK (aac 0)) (adh (by decide)) (adi (js := [0]) (by decide)) ab6 (fun t1 h1 k1 => (aas 0)) (fun t1 h1 k1 => (agW (acp (aco (h1.trans hK) (ad5 (h1.trans hK) .int (aac 0)))) (aco (h1.trans hK) (ad5 (h1.trans hK) .bool (aac 0))))) (fun t1 h1 k1 => (aac 0))) aak)) (aao _))))⟩)
theorem aqB (a : At K mg "_law_purse" ajr) (M : Nm mg) : DfX P w K mg base 1 "_law_purse" (["_law_script"] : List Str) (spP K cl 1 afy) := by
 have S : aaE (["_law_script", "_law_cells", "_law_mixed", "_law_k", "_law_number"] : List Str) (["_law_script"] : List Str) (aan ajr) := ⟨rfl, rfl, rfl, by decide +kernel, rfl, by decide +kernel, by decide +kernel⟩
 exact a.dfP S (cl := cl) (by decide) (fun _ _ _ _ _ _ us hl => match us, hl with | [_], _ => by kernel_rfl) (fun f cdv A outer s H E hr => ⟨_, (aam (psL 1 S.nd (aaU abS (anr axp (pvL 0) apA (apB aal)) (ade (paK (pcB aaR M.ac8 (paK (pvL 0) aaj)) aaj)))) (aam (psL 2 S.nd aal) (aam (PS.nox (aeC PassesOwn.never rfl (piR M.adP (paK aal aaj)) (pgL 3 S.nd) (aam (psL 4 S.nd (aaU aeL (aaU abS (aaU abS (aaN aaw (pvL 1) (aaU aeL (pvL 3) (pcB aaR M.ac8 (paK (pvL 1) aaj))) (fun _ _ => rfl)) (aaU abD aal (pvL 3))) aal) aal)) (aam (psL 4 S.nd (aaU aeL (aaU abS (aaU abD (pvL 4) (pvL 4)) (aaU abD aal (pvL 3))) aal)) (aap (psL 2 S.nd (aaU abS (aaU abD (pvL 2) aal) (aaU aeL (aaU abD (pvL 4) (pvL 4)) aal)))))))) (aam (abX (aa7 apw (aaN aaw (pvL 1) aal (fun _ _ => rfl)) (aaU aha aal aal) (aa6 _)) (aap (aaB (ade (paK (aaU aeV (aaN aaw (pvL 1) aal (fun _ _ => rfl)) (aaU aha aal aal)) (paK (pvL 2) aaj))))) aaQ) (aap (aaB (ade (paK aal (paK (pvL 2) aaj))))))))), fun t hK hx => (aau (abg (ad1 hK (avi hK (aac 0) avh (apS (aao _))) (ady (aad (x_len hK (aad (aac 0) aak)) aak))) (aas 1) ab6) (aau (abg (aao _) (aas 2) ab6) (aau (ad9 (fun t1 h1 k1 => (aeG (afH (aad (aao _) aak)) (aas 3) ab6 (aau (abg (ajk (h1.trans hK) (ad1 (h1.trans hK) (ad1 (h1.trans hK) (abV (h1.trans hK) (aac 1) (ajk (h1.trans hK) (aac 3) (x_len (h1.trans hK) (aad (aac 1) aak)))) (adq (h1.trans hK) (aao _) (aac 3))) (aao _)) (aao _)) (aas 4) ab6) (aau (abg (ajk (h1.trans hK) (ad1 (h1.trans hK) (adq (h1.trans hK) (aac 4) (aac 4)) (adq (h1.trans hK) (aao _) (aac 3))) (aao _)) (aas 4) ab6) (abg (ad1 (h1.trans hK) (adq (h1.trans hK) (aac 2) (aao _)) (ajk (h1.trans hK) (adq (h1.trans hK) (aac 4) (aac 4)) (aao _))) (aas 2) ab6)))))) (aau (ab0 (aaW (x_ge hK (abV hK (aac 1) (aao _)) (al0 hK (aao _) (aao _)))) (aaC (ady (aad (aiE hK (abV hK (aac 1) (aao _)) (al0 hK (aao _) (aao _))) (aad (aac 2) aak)))) abd) (aaC (ady (aad (aao _) (aad (aac 2) aak))))))))⟩)
theorem atg (a : At K mg "_law_rows" aks) (M : Nm mg) (ath : DfX P w K mg base 1 "_law_pair" (["_law_found", "_law_due"] : List Str) (spP K cl 2 aiM)) : DfX P w K mg base 2 "_law_rows" (["_law_found", "_law_due"] : List Str) (spP K cl 2 afc) := by
 have S : aaE (["_law_found", "_law_due"] : List Str) (["_law_found", "_law_due"] : List Str) (aan aks) := ⟨rfl, rfl, rfl, by decide +kernel, rfl, by decide +kernel, by decide +kernel⟩
 exact a.dfP S (cl := cl) (by decide) (fun _ _ _ _ _ _ us hl => match us, hl with | [_, _], _ => by kernel_rfl) (fun f cdv A outer s H E hr => ⟨_, (aam (abX (PW.pt (agT (acj (abH (pcI .list (pvC 0) M.abe M.agD) (by intro _; rfl))) (aeS (aa7 (afG hr.units) (pcB aaR M.ac8 (paK (pvC 0) aaj)) (pcB aaR M.ac8 (paK (pvC 1) aaj)) (aa6 _))))) (aap (aaB aeR)) aaQ) (aap (aaB (acI (acd hr.units) (pcB aaR M.ac8 (paK (ahM (sc := aan aks) (No := (["_law_found", "_law_due"] : List Str)) (N := (["_law_k", "_law_found", "_law_due"] : List Str)) (src := [none, some 0, some 1]) (g := (acX 0)) rfl rfl ⟨by rfl, by decide +kernel, by decide +kernel, by decide +kernel, by rfl, by decide +kernel⟩ rfl (piR M.adP (paK (pcB aaR M.ac8 (paK (pvC 1) aaj)) aaj)) (fun C s H ex => (pgL 0 (show List.Nodup (["_law_k", "_law_found", "_law_due"] : List Str) by decide +kernel))) (fun C s H ex => (acj (ae7 (K := K) (pcF (E := E0) (ath.mono (by decide)) hr ace (paK (aaN aaw (pvC 1) (pvL 0) (fun _ _ => rfl)) (paK (aaN aaw (pvC 2) (pvL 0) (fun _ _ => rfl)) aaj))) rfl (by intro _; rfl)))) (fun C s H ex => (pvL 0))) aaj)) aal (aa6 _))))), fun t hK hx => (aau (ab0 (agW (acp (aco hK (ad5 hK .list (aac 0)))) (aaW (aoY hK (x_len hK (aad (aac 0) aak)) (x_len hK (aad (aac 1) aak))))) (aaC (afp _)) abd) (aaC (x_eq hK (x_len hK (aad (ahQ (afH (aad (x_len hK (aad (aac 1) aak)) aak)) (adh (by decide)) (adi (js := [0]) (by decide)) ab6 (fun t1 h1 k1 => (aas 0)) (fun t1 h1 k1 => (acp (aco (h1.trans hK) (aa2 (h1.trans hK) k1 (aah (aah aaA)) (aad (abV (h1.trans hK) (aac 1) (aac 0)) (aad (abV (h1.trans hK) (aac 2) (aac 0)) aak)))))) (fun t1 h1 k1 => (aac 0))) aak)) (aao _))))⟩)
theorem ati (a : At K mg "_law_rule" amn) (M : Nm mg) (acO : DfX P w K mg base 1 "_law_draw" (["_law_purse_here", "_law_many"] : List Str) (spR K 2 0 abj)) (afL : DfX P w K mg base 1 "_law_frac" (["_law_top", "_law_bottom"] : List Str) (spP K cl 2 acu)) : DfX P w K mg base 2 "_law_rule" (["_law_purse_here", "_law_lists_here"] : List Str) (spR K 2 0 ahr) := by
 have S : aaE (["_law_purse_here", "_law_lists_here", "_law_way", "_law_weights", "_law_place", "_law_kind", "_law_top"] : List Str) (["_law_purse_here", "_law_lists_here"] : List Str) (aan amn) := ⟨rfl, rfl, rfl, by decide +kernel, rfl, by decide +kernel, by decide +kernel⟩
 exact a.dfR 0 S (cl := cl) (by decide) (fun _ _ _ _ _ _ us hl => match us, hl with | [_, _], _ => by kernel_rfl) (fun f cdv A outer s H E hr => ⟨_, (aam (psL 2 S.nd (pcF (E := E) (acO.mono (by decide)) hr aay (paK (pvL 0) (paK aal aaj)))) (aam (abX (aa7 (acd hr.units) (pvL 2) aal (aa6 _)) (aap (aaB (aeD (paK acA (paK (aaU abS aal (pcF (E := E) (acO.mono (by decide)) hr aay (paK (pvL 0) (paK (pvL 1) aaj)))) aaj))))) aaQ) (aam (abX (aa7 (aiA hr.units) (pvL 2) aal (aa6 _)) (aap (aaB (aaN aaw (asI (G := nlK K) (Ts := [.tup [.str "least"], .tup [.str "greatest"], .tup [.str "product"]]) (by kernel_rfl)) (aaU aeV (pvL 2) aal) (fun _ _ => rfl)))) aaQ) (aam (psL 3 S.nd (ade aaj)) (aam (PS.nox (aeC PassesOwn.never rfl (piR M.adP (paK (pvL 1) aaj)) (pgL 4 S.nd) (aam (psL 5 S.nd (pcF (E := E0) (acO.mono (by decide)) hr ace (paK (pvL 0) (paK aal aaj)))) (aam (psL 6 S.nd (aaN aaw (ade (paK aal (paK aal (paK (aaU abS aal (pcF (E := E0) (acO.mono (by decide)) hr ace (paK (pvL 0) (paK aal aaj)))) (paK (pcF (E := E0) (acO.mono (by decide)) hr ace (paK (pvL 0) (paK (aaU aha aal aal) aaj))) aaj))))) (pvL 5) (fun _ _ => rfl))) (aap (psE (alI PySem.F.plainAttrs_list PySem.F.slot_list_append PySem.F.type_list_append adx (pvL 3) (acY (pcF (E := E0) (afL.mono (by decide)) hr ace (paK (pvL 6) (paK (aaN aaw (ade (paK aal (paK aal (paK (aaU abS aal (pcF (E := E0) (acO.mono (by decide)) hr ace (paK (pvL 0) (paK aal aaj)))) (paK (aaU abS aal (pcF (E := E0) (acO.mono (by decide)) hr ace (paK (pvL 0) (paK (aaU aeV (aaU aha aal aal) aal) aaj)))) aaj))))) (pvL 5) (fun _ _ => rfl)) aaj))) aaj)))))))) (aap (aaB (aeD (paK acA (paK (pvL 3) aaj)))))))))), fun t hK hx => (aau (abg (abT hK (aah (aah aaA)) (aad (aac 0) (aad (aao _) aak))) (aas 2) ab6) (aau (ab0 (aaW (x_eq hK (aac 2) (aao _))) (aaC (ae0 (aad (acH _) (aad (ad1 hK (aao _) (abT hK (aah (aah aaA)) (aad (aac 0) (aad (aac 1) aak)))) aak)))) abd) (aau (ab0 (aaW (x_lt hK (aac 2) (aao _))) (aaC (abV hK (asJ hK) (aiE hK (aac 2) (aao _)))) abd) (aau (ags 3 (ady aak)) (aau (ad9 (fun t1 h1 k1 => (aeG (afH (aad (aac 1) aak)) (aas 4) ab6 (aau (abg (abT (h1.trans hK) (aah (aah aaA)) (aad (aac 0) (aad (aao _) aak))) (aas 5) ab6) (aau (abg (abV (h1.trans hK) (ady (aad (aao _) (aad (aao _) (aad (ad1 (h1.trans hK) (aao _) (abT (h1.trans hK) (aah (aah aaA)) (aad (aac 0) (aad (aao _) aak)))) (aad (abT (h1.trans hK) (aah (aah aaA)) (aad (aac 0) (aad (al0 (h1.trans hK) (aao _) (aao _)) aak))) aak))))) (aac 5)) (aas 6) ab6) (ad6 (anS 3 (aa2 (h1.trans hK) k1 (aah (aah aaA)) (aad (aac 6) (aad (abV (h1.trans hK) (ady (aad (aao _) (aad (aao _) (aad (ad1 (h1.trans hK) (aao _) (abT (h1.trans hK) (aah (aah aaA)) (aad (aac 0) (aad (aao _) aak)))) (aad (ad1 (h1.trans hK) (aao _) (abT (h1.trans hK) (aah (aah aaA)) (aad (aac 0) (aad (aiE (h1.trans hK) (al0 (h1.trans hK) (aao _) (aao _)) (aao _)) aak)))) aak))))) (aac 5)) aak)))))))))) (aoT 3 (aaC (ae0 (aad (acH _) (aad (aac 3) aak))))))))))⟩)
theorem ah1 (a : At K mg "_law_rule_copied" adO) (M : Nm mg) : DfX P w K mg base 1 "_law_rule_copied" (["_law_rule_here"] : List Str) (spP K cl 1 abA) := by
 have S : aaE (["_law_rule_here"] : List Str) (["_law_rule_here"] : List Str) (aan adO) := ⟨rfl, rfl, rfl, by decide +kernel, rfl, by decide +kernel, by decide +kernel⟩
 exact a.dfP S (cl := cl) (by decide) (fun _ _ _ _ _ _ us hl => match us, hl with | [_], _ => by kernel_rfl) (fun f cdv A outer s H E hr => ⟨_, (aam (abX (aa7 (acd hr.units) (aaN aaw (pvL 0) aal (fun _ _ => rfl)) acA (aa6 _)) (aap (aaB (aeD (paK (aaN aaw (pvL 0) aal (fun _ _ => rfl)) (paK (ard ad2 M.agD (paK (aaN aaw (pvL 0) aal (fun _ _ => rfl)) aaj)) aaj))))) aaQ) (aap (aaB (pvL 0)))), fun t hK hx => (aau (ab0 (aaW (x_eq hK (abV hK (aac 0) (aao _)) (acH _))) (aaC (ae0 (aad (abV hK (aac 0) (aao _)) (aad (al1 hK (aad (abV hK (aac 0) (aao _)) aak)) aak)))) abd) (aaC (aac 0)))⟩)
theorem aqC (a : At K mg "_law_worth" ajs) (M : Nm mg) (acO : DfX P w K mg base 1 "_law_draw" (["_law_purse_here", "_law_many"] : List Str) (spR K 2 0 abj)) (afL : DfX P w K mg base 1 "_law_frac" (["_law_top", "_law_bottom"] : List Str) (spP K cl 2 acu)) : DfX P w K mg base 2 "_law_worth" (["_law_purse_here", "_law_before"] : List Str) (spR K 2 0 aeP) := by
 have S : aaE (["_law_purse_here", "_law_before", "_law_way", "_law_bottom", "_law_top"] : List Str) (["_law_purse_here", "_law_before"] : List Str) (aan ajs) := ⟨rfl, rfl, rfl, by decide +kernel, rfl, by decide +kernel, by decide +kernel⟩
 exact a.dfR 0 S (cl := cl) (by decide) (fun _ _ _ _ _ _ us hl => match us, hl with | [_, _], _ => by kernel_rfl) (fun f cdv A outer s H E hr => ⟨_, (aam (psL 2 S.nd (pcF (E := E) (acO.mono (by decide)) hr aay (paK (pvL 0) (paK aal aaj)))) (aam (abX (aa7 (aiA hr.units) (pvL 2) aal (aa6 _)) (aap (aaB (aeD (paK (pvL 2) (paK aal aaj))))) aaQ) (aam (abX (aa7 (aiA hr.units) (pvL 2) aal (aa6 _)) (aap (aaB (pcF (E := E) (afL.mono (by decide)) hr aay (paK (pcF (E := E) (acO.mono (by decide)) hr aay (paK (pvL 0) (paK aal aaj))) (paK aal aaj))))) aaQ) (aam (abX (aa7 (acd hr.units) (pvL 2) aal (aa6 _)) (aam (psL 3 S.nd (aaU abS aal (pcF (E := E) (acO.mono (by decide)) hr aay (paK (pvL 0) (paK (aaU aeV (aaU aha aal aal) aal) aaj))))) (aap (aaB (pcF (E := E) (afL.mono (by decide)) hr aay (paK (pcF (E := E) (acO.mono (by decide)) hr aay (paK (pvL 0) (paK (aaU abS (pvL 3) aal) aaj))) (paK (pvL 3) aaj)))))) aaQ) (aam (ag9 (aaN aaw (aaU abS (pvL 1) (asI (G := nlK K) (Ts := [.tup [.int 1, .int 2]]) (by kernel_rfl))) (pcF (E := E) (acO.mono (by decide)) hr aay (paK (pvL 0) (paK (aaU abS (pcB aaR M.ac8 (paK (pvL 1) aaj)) aal) aaj))) (fun _ _ => rfl)) (aeU rfl (abt (pgL 4 S.nd) (abt (pgL 3 S.nd) adC)))) (aam (abX (aa7 (acd hr.units) (pvL 2) aal (aa6 _)) (aap (aaB (aeD (paK (pvL 4) (paK (pvL 3) aaj))))) aaQ) (aap (aaB (pcF (E := E) (afL.mono (by decide)) hr aay (paK (pcB (alC rfl) M.avI (paK (aaU abS (pvL 4) aal) (paK (pvL 3) aaj))) (paK (pvL 3) aaj))))))))))), fun t hK hx => (aau (abg (abT hK (aah (aah aaA)) (aad (aac 0) (aad (aao _) aak))) (aas 2) ab6) (aau (ab0 (aaW (x_lt hK (aac 2) (aao _))) (aaC (ae0 (aad (aac 2) (aad (aao _) aak)))) abd) (aau (ab0 (aaW (x_lt hK (aac 2) (aao _))) (aaC (abr hK hx (aah (aah aaA)) (aad (abT hK (aah (aah aaA)) (aad (aac 0) (aad (aao _) aak))) (aad (aao _) aak)))) abd) (aau (ab0 (aaW (x_eq hK (aac 2) (aao _))) (aau (abg (ad1 hK (aao _) (abT hK (aah (aah aaA)) (aad (aac 0) (aad (aiE hK (al0 hK (aao _) (aao _)) (aao _)) aak)))) (aas 3) ab6) (aaC (abr hK hx (aah (aah aaA)) (aad (abT hK (aah (aah aaA)) (aad (aac 0) (aad (ad1 hK (aac 3) (aao _)) aak))) (aad (aac 3) aak))))) abd) (aau (abg (abV hK (ad1 hK (aac 1) (asJ hK)) (abT hK (aah (aah aaA)) (aad (aac 0) (aad (ad1 hK (x_len hK (aad (aac 1) aak)) (aao _)) aak)))) (ae2 hK (abv (aas 4) (abv (aas 3) adF))) (anQ (ad0 ab6 (ad0 ab6 ae6)))) (aau (ab0 (aaW (x_eq hK (aac 2) (aao _))) (aaC (ae0 (aad (aac 4) (aad (aac 3) aak)))) abd) (aaC (abr hK hx (aah (aah aaA)) (aad (avw hK (aad (ad1 hK (aac 4) (aao _)) (aad (aac 3) aak))) (aad (aac 3) aak))))))))))⟩)
theorem aoj (a : At K mg "_law_worths" afa) (M : Nm mg) (axG : DfX P w K mg base 2 "_law_of" (["_law_rule_here", "_law_worths_here"] : List Str) (spP K cl 2 amu)) : DfX P w K mg base 3 "_law_worths" (["_law_book_here", "_law_rule_here"] : List Str) (spP K cl 2 aeo) := by
 have S : aaE (["_law_book_here", "_law_rule_here"] : List Str) (["_law_book_here", "_law_rule_here"] : List Str) (aan afa) := ⟨rfl, rfl, rfl, by decide +kernel, rfl, by decide +kernel, by decide +kernel⟩
 exact a.dfP S (cl := cl) (by decide) (fun _ _ _ _ _ _ us hl => match us, hl with | [_, _], _ => by kernel_rfl) (fun f cdv A outer s H E hr => ⟨_, (aap (aaB (ac1 (sc := aan afa) (No := (["_law_book_here", "_law_rule_here"] : List Str)) (N := (["_law_thing", "_law_rule_here", "_law_book_here"] : List Str)) (src := [none, some 1, some 0]) (g := (acX 0)) rfl rfl ⟨by rfl, by decide +kernel, by decide +kernel, by decide +kernel, by rfl, by decide +kernel⟩ rfl (piR M.adP (paK (pcB aaR M.ac8 (paK (aaN aaw (pvC 0) aal (fun _ _ => rfl)) aaj)) aaj)) (fun C s H ex => (pgC 0 (show List.Nodup (["_law_thing", "_law_rule_here", "_law_book_here"] : List Str) by decide +kernel) rfl)) (fun C s H ex => (pcF (E := E0) (axG.mono (by decide)) hr ace (paK (pvC 1) (paK (ac1 (sc := anv _ (aan afa)) (No := (["_law_thing", "_law_rule_here", "_law_book_here"] : List Str)) (N := (["_law_worths_here", "_law_thing"] : List Str)) (src := [none, some 0]) (g := (acX 0)) rfl rfl ⟨by rfl, by decide +kernel, by decide +kernel, by decide +kernel, by rfl, by decide +kernel⟩ rfl (adg (pvC 2)) (fun C s H ex => (pgL 0 (show List.Nodup (["_law_worths_here", "_law_thing"] : List Str) by decide +kernel))) (fun C s H ex => (aaN aaw (pvL 0) (pvC 1) (fun _ _ => rfl)))) aaj))))))), fun t hK hx => (aaC (ac2 (afH (aad (x_len hK (aad (abV hK (aac 0) (aao _)) aak)) aak)) (adh (by decide)) (adi (js := [0]) (by decide)) ab6 (fun t1 h1 k1 => (aas 0)) (fun t1 h1 k1 => (aa2 (h1.trans hK) k1 (aah (aah aaA)) (aad (aac 1) (aad (ac2 (adz (h1.trans hK) (aac 2)) (adh (by decide)) (adi (js := [0]) (by decide)) ab6 (fun t2 h2 k2 => (aas 0)) (fun t2 h2 k2 => (abV (h2.trans (h1.trans hK)) (aac 0) (aac 1)))) aak))))))⟩)
theorem agY (a : At K mg "are_weights" acS) (M : Nm mg) (adR : DfX P w K mg base 2 "is_fraction" (["thing"] : List Str) (spP K cl 1 abz)) : DfX P w K mg base 3 "are_weights" (["thing", "many"] : List Str) (spP K cl 2 acR) := by
 have S : aaE (["thing", "many"] : List Str) (["thing", "many"] : List Str) (aan acS) := ⟨rfl, rfl, rfl, by decide +kernel, rfl, by decide +kernel, by decide +kernel⟩
 exact a.dfP S (cl := cl) (by decide) (fun _ _ _ _ _ _ us hl => match us, hl with | [_, _], _ => by kernel_rfl) (fun f cdv A outer s H E hr => ⟨_, (aam (abX (PW.pt (agT (acj (abH (pcI .list (pvL 0) M.abe M.agD) (by intro _; rfl))) (aeS (aa7 (afG hr.units) (pcB aaR M.ac8 (paK (pvL 0) aaj)) (pvL 1) (aa6 _))))) (aap (aaB aeR)) aaQ) (aap (aaB (pcB (af6 rfl) M.aoe (paK (ac1 (sc := aan acS) (No := (["thing", "many"] : List Str)) (N := (["part"] : List Str)) (src := [none]) (g := (acX 0)) rfl rfl ⟨by rfl, by decide +kernel, by decide +kernel, by decide +kernel, by rfl, by decide +kernel⟩ rfl (adg (pvL 0)) (fun C s H ex => (pgL 0 (show List.Nodup (["part"] : List Str) by decide +kernel))) (fun C s H ex => (ag8 (pcF (E := E0) (adR.mono (by decide)) hr ace (paK (pvL 0) aaj)) (aio (acI apw (aaN aaw (pvL 0) aal (fun _ _ => rfl)) aal (aa6 _)))))) aaj))))), fun t hK hx => (aau (ab0 (agW (acp (aco hK (ad5 hK .list (aac 0)))) (aaW (aoY hK (x_len hK (aad (aac 0) aak)) (aac 1)))) (aaC (afp _)) abd) (aaC (anR hK (aad (ac2 (adz hK (aac 0)) (adh (by decide)) (adi (js := [0]) (by decide)) ab6 (fun t1 h1 k1 => (aas 0)) (fun t1 h1 k1 => (ahg (aa2 (h1.trans hK) k1 (aah aaA) (aad (aac 0) aak)) (x_ge (h1.trans hK) (abV (h1.trans hK) (aac 0) (aao _)) (aao _))))) aak))))⟩)
theorem ah2 (a : At K mg "are_worths" adl) (M : Nm mg) (akW : DfX P w K mg base 3 "is_worth" (["thing"] : List Str) (spP K cl 1 ab4)) : DfX P w K mg base 4 "are_worths" (["thing", "most"] : List Str) (spP K cl 2 ab1) := by
 have S : aaE (["thing", "most"] : List Str) (["thing", "most"] : List Str) (aan adl) := ⟨rfl, rfl, rfl, by decide +kernel, rfl, by decide +kernel, by decide +kernel⟩
 exact a.dfP S (cl := cl) (by decide) (fun _ _ _ _ _ _ us hl => match us, hl with | [_, _], _ => by kernel_rfl) (fun f cdv A outer s H E hr => ⟨_, (aam (abX (PW.pt (agT (acj (abH (pcI .list (pvL 0) M.abe M.agD) (by intro _; rfl))) (aeS (acj (aj1 ahx ahx aal (pcB aaR M.ac8 (paK (pvL 0) aaj)) (pvL 1)))))) (aap (aaB aeR)) aaQ) (aap (aaB (pcB (af6 rfl) M.aoe (paK (ac1 (sc := aan adl) (No := (["thing", "most"] : List Str)) (N := (["part"] : List Str)) (src := [none]) (g := (acX 0)) rfl rfl ⟨by rfl, by decide +kernel, by decide +kernel, by decide +kernel, by rfl, by decide +kernel⟩ rfl (adg (pvL 0)) (fun C s H ex => (pgL 0 (show List.Nodup (["part"] : List Str) by decide +kernel))) (fun C s H ex => (pcF (E := E0) (akW.mono (by decide)) hr ace (paK (pvL 0) aaj)))) aaj))))), fun t hK hx => (aau (ab0 (agW (acp (aco hK (ad5 hK .list (aac 0)))) (acp (aaW (ahS hK ahG ahG ahR ahR (aao _) (x_len hK (aad (aac 0) aak)) (aac 1))))) (aaC (afp _)) abd) (aaC (anR hK (aad (ac2 (adz hK (aac 0)) (adh (by decide)) (adi (js := [0]) (by decide)) ab6 (fun t1 h1 k1 => (aas 0)) (fun t1 h1 k1 => (aa2 (h1.trans hK) k1 (aah aaA) (aad (aac 0) aak)))) aak))))⟩)
theorem afS (a : At K mg "common_bottom" ac6) (M : Nm mg) (abR : DfX P w K mg base 1 "common_divisor" (["one", "other"] : List Str) (spP K cl 2 aaZ)) : DfX P w K mg base 2 "common_bottom" (["fractions"] : List Str) (spP K cl 1 ab2) := by
 have S : aaE (["fractions", "bottom", "top", "own"] : List Str) (["fractions"] : List Str) (aan ac6) := ⟨rfl, rfl, rfl, by decide +kernel, rfl, by decide +kernel, by decide +kernel⟩
 exact a.dfP S (cl := cl) (by decide) (fun _ _ _ _ _ _ us hl => match us, hl with | [_], _ => by kernel_rfl) (fun f cdv A outer s H E hr => ⟨_, (aam (psL 1 S.nd aal) (aam (PS.nox (aeC PassesOwn.never rfl (adg (pvL 0)) (aeU rfl (abt (pgL 2 S.nd) (abt (pgL 3 S.nd) adC))) (aap (psL 1 S.nd (aaU adE (aaU abD (pvL 1) (pvL 3)) (pcF (E := E0) (abR.mono (by decide)) hr ace (paK (pvL 1) (paK (pvL 3) aaj)))))))) (aap (aaB (pvL 1))))), fun t hK hx => (aau (abg (aao _) (aas 1) ab6) (aau (ad9 (fun t1 h1 k1 => (aeG (adz (h1.trans hK) (aac 0)) (ae2 (h1.trans hK) (abv (aas 2) (abv (aas 3) adF))) (anQ (ad0 ab6 (ad0 ab6 ae6))) (abg (ajj (h1.trans hK) (adq (h1.trans hK) (aac 1) (aac 3)) (aa2 (h1.trans hK) k1 (aah (aah aaA)) (aad (aac 1) (aad (aac 3) aak)))) (aas 1) ab6)))) (aaC (aac 1))))⟩)
theorem afz (a : At K mg "common_divisor" acJ) (M : Nm mg) : DfX P w K mg base 1 "common_divisor" (["one", "other"] : List Str) (spP K cl 2 aaZ) := by
 have S : aaE (["one", "other"] : List Str) (["one", "other"] : List Str) (aan acJ) := ⟨rfl, rfl, rfl, by decide +kernel, rfl, by decide +kernel, by decide +kernel⟩
 exact a.dfP S (cl := cl) (by decide) (fun _ _ _ _ _ _ us hl => match us, hl with | [_, _], _ => by kernel_rfl) (fun f cdv A outer s H E hr => ⟨_, (aam (PS.nox (ajW PassesOwn.never (aa7 (afG hr.units) (pvL 1) aal (aa6 _)) (aap (aly (i := 0) (j := 1) rfl S.nd rfl rfl (by decide) rfl rfl (paK (pvL 1) (paK (aaU aeL (pvL 0) (pvL 1)) aaj)) rfl)))) (aap (aaB (pcB anl M.avG (paK (pvL 0) aaj))))), fun t hK hx => (aau (ad9 (fun t1 h1 k1 => (akb (fuI 1) (aaW (aoY (h1.trans hK) (aac 1) (aao _))) (alV 0 1 (aad (aac 1) (aad (ajk (h1.trans hK) (aac 0) (aac 1)) aak)))))) (aaC (avv hK (aad (aac 0) aak))))⟩)
theorem afA {c_ P_ : Addr} (a : AtL K mg "falling_places" acg c_) (L : aoa K mg base "falling_places" c_ P_) (M : Nm mg) (aew : DfX P w K mg base 3 "tops_on_one_bottom" (["fractions"] : List Str) (spP K cl 1 abK)) : DfX P w K mg base 4 "falling_places" (["fractions"] : List Str) (spP K cl 1 abl) := by
 have S : aaE (["fractions", "tops"] : List Str) (["fractions"] : List Str) (aan acg) := ⟨rfl, rfl, rfl, by decide +kernel, rfl, by decide +kernel, by decide +kernel⟩
 exact a.axD S (cl := cl) (by decide) (fun _ _ _ _ _ _ us hl => match us, hl with | [_], _ => by kernel_rfl) (fun f A outer s H E hr => ⟨_, (aam (psC 1 S.nd rfl (pcF (E := E) (aew.mono (by decide)) hr aay (paK (pvL 0) aaj))) (aap (aaB (an6 (sc := aan acg) (No := (["fractions", "tops"] : List Str)) (x := "place") (Ns := (["tops"] : List Str)) (src := [some 1]) asS (fun _ h => h) aql hr M.aof M.adP rfl rfl ⟨⟨by rfl, by decide +kernel, by decide +kernel, by decide +kernel, by rfl, by decide +kernel⟩, by decide +kernel, by rfl, by rfl, by rfl⟩ rfl L.hd L.bm rfl (paK (pcB aaR M.ac8 (paK (pvC 1) aaj)) aaj) (fun _ _ _ _ => by kernel_rfl) (fun A f cd s H => (ank ajY (aaN aaw (pvF 1) (pvL 0) (fun _ _ => rfl)))))))), fun t hK hx => (aau (abg (abr hK hx (aah aaA) (aad (aac 0) aak)) (aas 1) ab6) (aaC (aqn L hK (aad (x_len hK (aad (aac 1) aak)) aak) (avE aoQ (avD ar5 (ao3 1) (ao3 0))))))⟩)
theorem ajw (a : At K mg "frac_sum" afu) (M : Nm mg) (adS : DfX P w K mg base 2 "fraction_of" (["top", "bottom"] : List Str) (spP K cl 2 abQ)) : DfX P w K mg base 3 "frac_sum" (["one", "other"] : List Str) (spP K cl 2 acW) := by
 have S : aaE (["one", "other"] : List Str) (["one", "other"] : List Str) (aan afu) := ⟨rfl, rfl, rfl, by decide +kernel, rfl, by decide +kernel, by decide +kernel⟩
 exact a.dfP S (cl := cl) (by decide) (fun _ _ _ _ _ _ us hl => match us, hl with | [_, _], _ => by kernel_rfl) (fun f cdv A outer s H E hr => ⟨_, (aap (aaB (pcF (E := E) (adS.mono (by decide)) hr aay (paK (aaU abS (aaU abD (aaN aaw (pvL 0) aal (fun _ _ => rfl)) (aaN aaw (pvL 1) aal (fun _ _ => rfl))) (aaU abD (aaN aaw (pvL 1) aal (fun _ _ => rfl)) (aaN aaw (pvL 0) aal (fun _ _ => rfl)))) (paK (aaU abD (aaN aaw (pvL 0) aal (fun _ _ => rfl)) (aaN aaw (pvL 1) aal (fun _ _ => rfl))) aaj))))), fun t hK hx => (aaC (abr hK hx (aah (aah aaA)) (aad (ad1 hK (adq hK (abV hK (aac 0) (aao _)) (abV hK (aac 1) (aao _))) (adq hK (abV hK (aac 1) (aao _)) (abV hK (aac 0) (aao _)))) (aad (adq hK (abV hK (aac 0) (aao _)) (abV hK (aac 1) (aao _))) aak))))⟩)
theorem ah3 (a : At K mg "frac_times" aec) (M : Nm mg) (adS : DfX P w K mg base 2 "fraction_of" (["top", "bottom"] : List Str) (spP K cl 2 abQ)) : DfX P w K mg base 3 "frac_times" (["one", "other"] : List Str) (spP K cl 2 aby) := by
 have S : aaE (["one", "other"] : List Str) (["one", "other"] : List Str) (aan aec) := ⟨rfl, rfl, rfl, by decide +kernel, rfl, by decide +kernel, by decide +kernel⟩
 exact a.dfP S (cl := cl) (by decide) (fun _ _ _ _ _ _ us hl => match us, hl with | [_, _], _ => by kernel_rfl) (fun f cdv A outer s H E hr => ⟨_, (aap (aaB (pcF (E := E) (adS.mono (by decide)) hr aay (paK (aaU abD (aaN aaw (pvL 0) aal (fun _ _ => rfl)) (aaN aaw (pvL 1) aal (fun _ _ => rfl))) (paK (aaU abD (aaN aaw (pvL 0) aal (fun _ _ => rfl)) (aaN aaw (pvL 1) aal (fun _ _ => rfl))) aaj))))), fun t hK hx => (aaC (abr hK hx (aah (aah aaA)) (aad (adq hK (abV hK (aac 0) (aao _)) (abV hK (aac 1) (aao _))) (aad (adq hK (abV hK (aac 0) (aao _)) (abV hK (aac 1) (aao _))) aak))))⟩)
theorem agZ (a : At K mg "fraction_of" adK) (M : Nm mg) (aep : PyProof.Rows.OwnCls "NoBottom" (cl "NoBottom") bmV "ValueError.__new__" mg base) (abR : DfX P w K mg base 1 "common_divisor" (["one", "other"] : List Str) (spP K cl 2 aaZ)) : DfX P w K mg base 2 "fraction_of" (["top", "bottom"] : List Str) (spP K cl 2 abQ) := by
 have S : aaE (["top", "bottom", "divisor"] : List Str) (["top", "bottom"] : List Str) (aan adK) := ⟨rfl, rfl, rfl, by decide +kernel, rfl, by decide +kernel, by decide +kernel⟩
 exact a.dfP S (cl := cl) (by decide) (fun _ _ _ _ _ _ us hl => match us, hl with | [_, _], _ => by kernel_rfl) (fun f cdv A outer s H E hr => ⟨_, (aam (abX (aa7 (acd hr.units) (pvL 1) aal (aa6 _)) (aap (ahC ago aep PySem.F.excBase_ValueError rfl acA)) aaQ) (aam (psL 2 S.nd (pcF (E := E) (abR.mono (by decide)) hr aay (paK (pvL 0) (paK (pvL 1) aaj)))) (aam (abX (aa7 (aiA hr.units) (pvL 1) aal (aa6 _)) (aap (psL 2 S.nd (ank ajY (pvL 2)))) aaQ) (aap (aaB (aeD (paK (aaU adE (pvL 0) (pvL 2)) (paK (aaU adE (pvL 1) (pvL 2)) aaj)))))))), fun t hK hx => (aau (ab0 (aaW (x_eq hK (aac 1) (aao _))) (ahL (fun H' => hx "NoBottom" H') (acH _)) abd) (aau (abg (abr hK hx (aah (aah aaA)) (aad (aac 0) (aad (aac 1) aak))) (aas 2) ab6) (aau (ab0 (aaW (x_lt hK (aac 1) (aao _))) (abg (asH (aac 2)) (aas 2) ab6) abd) (aaC (ae0 (aad (ajj hK (aac 0) (aac 2)) (aad (ajj hK (aac 1) (aac 2)) aak)))))))⟩)
theorem akX (a : At K mg "is_book" aed) (M : Nm mg) {aee : V} (adn : Gk K mg "MOST_LISTS" aee (.int 4)) {adT : V} (acT : Gk K mg "MOST_THINGS" adT (.int 12)) (aiN : DfX P w K mg base 4 "are_worths" (["thing", "most"] : List Str) (spP K cl 2 ab1)) : DfX P w K mg base 5 "is_book" (["thing"] : List Str) (spP K cl 1 aea) := by
 have S : aaE (["thing"] : List Str) (["thing"] : List Str) (aan aed) := ⟨rfl, rfl, rfl, by decide +kernel, rfl, by decide +kernel, by decide +kernel⟩
 exact a.dfP S (cl := cl) (by decide) (fun _ _ _ _ _ _ us hl => match us, hl with | [_], _ => by kernel_rfl) (fun f cdv A outer s H E hr => ⟨_, (aam (abX (PW.pt (agT (acj (abH (pcI .list (pvC 0) M.abe M.agD) (by intro _; rfl))) (aeS (acj (aj1 ahx ahx aal (pcB aaR M.ac8 (paK (pvC 0) aaj)) (pGk adn)))))) (aap (aaB aeR)) aaQ) (aam (abX (acj (abH (pcB (af6 rfl) M.aoe (paK (ac1 (sc := aan aed) (No := (["thing"] : List Str)) (N := (["row"] : List Str)) (src := [none]) (g := (acX 0)) rfl rfl ⟨by rfl, by decide +kernel, by decide +kernel, by decide +kernel, by rfl, by decide +kernel⟩ rfl (adg (pvC 0)) (fun C s H ex => (pgL 0 (show List.Nodup (["row"] : List Str) by decide +kernel))) (fun C s H ex => (pcF (E := E0) (aiN.mono (by decide)) hr ace (paK (pvL 0) (paK (pGk acT) aaj))))) aaj)) (by intro _; rfl))) (aap (aaB aeR)) aaQ) (aap (aaB (pcB (af6 rfl) M.aoe (paK (ac1 (sc := aan aed) (No := (["thing"] : List Str)) (N := (["row", "thing"] : List Str)) (src := [none, some 0]) (g := (acX 0)) rfl rfl ⟨by rfl, by decide +kernel, by decide +kernel, by decide +kernel, by rfl, by decide +kernel⟩ rfl (adg (pvC 0)) (fun C s H ex => (pgL 0 (show List.Nodup (["row", "thing"] : List Str) by decide +kernel))) (fun C s H ex => (acI (acd hr.units) (pcB aaR M.ac8 (paK (pvL 0) aaj)) (pcB aaR M.ac8 (paK (aaN aaw (pvC 1) aal (fun _ _ => rfl)) aaj)) (aa6 _)))) aaj)))))), fun t hK hx => (aau (ab0 (agW (acp (aco hK (ad5 hK .list (aac 0)))) (acp (aaW (ahS hK ahG ahG ahR ahR (aao _) (x_len hK (aad (aac 0) aak)) (ap9 hK adn))))) (aaC (afp _)) abd) (aau (ab0 (acp (aco hK (anR hK (aad (ac2 (adz hK (aac 0)) (adh (by decide)) (adi (js := [0]) (by decide)) ab6 (fun t1 h1 k1 => (aas 0)) (fun t1 h1 k1 => (aa2 (h1.trans hK) k1 (aah (aah aaA)) (aad (aac 0) (aad (ap9 (h1.trans hK) acT) aak))))) aak)))) (aaC (afp _)) abd) (aaC (anR hK (aad (ac2 (adz hK (aac 0)) (adh (by decide)) (adi (js := [0]) (by decide)) ab6 (fun t2 h2 k2 => (aas 0)) (fun t2 h2 k2 => (x_eq (h2.trans hK) (x_len (h2.trans hK) (aad (aac 0) aak)) (x_len (h2.trans hK) (aad (abV (h2.trans hK) (aac 1) (aao _)) aak))))) aak)))))⟩)
theorem ag0 (a : At K mg "is_fraction" adL) (M : Nm mg) (aer : DfX P w K mg base 1 "is_whole" (["thing"] : List Str) (spP K cl 1 acD)) (abR : DfX P w K mg base 1 "common_divisor" (["one", "other"] : List Str) (spP K cl 2 aaZ)) : DfX P w K mg base 2 "is_fraction" (["thing"] : List Str) (spP K cl 1 abz) := by
 have S : aaE (["thing", "top", "bottom"] : List Str) (["thing"] : List Str) (aan adL) := ⟨rfl, rfl, rfl, by decide +kernel, rfl, by decide +kernel, by decide +kernel⟩
 exact a.dfP S (cl := cl) (by decide) (fun _ _ _ _ _ _ us hl => match us, hl with | [_], _ => by kernel_rfl) (fun f cdv A outer s H E hr => ⟨_, (aam (abX (PW.pt (agT (acj (abH (pcI .tuple (pvL 0) M.abe M.ajv) (by intro _; rfl))) (aeS (aa7 (afG hr.units) (pcB aaR M.ac8 (paK (pvL 0) aaj)) aal (aa6 _))))) (aap (aaB aeR)) aaQ) (aam (ag9 (pvL 0) (aeU rfl (abt (pgL 1 S.nd) (abt (pgL 2 S.nd) adC)))) (aam (abX (PW.pt (agT (acj (abH (pcF (E := E) (aer.mono (by decide)) hr aay (paK (pvL 1) aaj)) (by intro _; rfl))) (aeS (acj (abH (pcF (E := E) (aer.mono (by decide)) hr aay (paK (pvL 2) aaj)) (by intro _; rfl)))))) (aap (aaB aeR)) aaQ) (aap (aaB (ag8 (acI apw (pvL 2) aal (aa6 _)) (aio (acI (acd hr.units) (pcF (E := E) (abR.mono (by decide)) hr aay (paK (pvL 1) (paK (pvL 2) aaj))) aal (aa6 _))))))))), fun t hK hx => (aau (ab0 (agW (acp (aco hK (ad5 hK .tuple (aac 0)))) (aaW (aoY hK (x_len hK (aad (aac 0) aak)) (aao _)))) (aaC (afp _)) abd) (aau (abg (aac 0) (ae2 hK (abv (aas 1) (abv (aas 2) adF))) (anQ (ad0 ab6 (ad0 ab6 ae6)))) (aau (ab0 (agW (acp (aco hK (abr hK hx (aah aaA) (aad (aac 1) aak)))) (acp (aco hK (abr hK hx (aah aaA) (aad (aac 2) aak))))) (aaC (afp _)) abd) (aaC (ahg (x_ge hK (aac 2) (aao _)) (x_eq hK (abr hK hx (aah (aah aaA)) (aad (aac 1) (aad (aac 2) aak))) (aao _)))))))⟩)
theorem akY (a : At K mg "is_rule" agC) (M : Nm mg) {aef : V} (ado : Gk K mg "BARE_RULES" aef (.tup [(.tup [(.str "least")]), (.tup [(.str "greatest")]), (.tup [(.str "product")])])) (ah4 : DfX P w K mg base 3 "are_weights" (["thing", "many"] : List Str) (spP K cl 2 acR)) (aer : DfX P w K mg base 1 "is_whole" (["thing"] : List Str) (spP K cl 1 acD)) : DfX P w K mg base 4 "is_rule" (["thing", "many"] : List Str) (spP K cl 2 ac4) := by
 have S : aaE (["thing", "many", "word", "rest"] : List Str) (["thing", "many"] : List Str) (aan agC) := ⟨rfl, rfl, rfl, by decide +kernel, rfl, by decide +kernel, by decide +kernel⟩
 exact a.dfP S (cl := cl) (by decide) (fun _ _ _ _ _ _ us hl => match us, hl with | [_, _], _ => by kernel_rfl) (fun f cdv A outer s H E hr => ⟨_, (aam (abX (acj (abH (pcI .tuple (pvL 0) M.abe M.ajv) (by intro _; rfl))) (aap (aaB aeR)) aaQ) (aam (abX (aa7 (afG hr.units) (pcB aaR M.ac8 (paK (pvL 0) aaj)) aal (aa6 _)) (aap (aaB (acI (aoM hr.units) (pvL 0) (pGk ado) (by with_unfolding_all rfl)))) aaQ) (aam (ag9 (pvL 0) (aeU rfl (abt (pgL 2 S.nd) (abt (pgL 3 S.nd) adC)))) (aam (abX (aa7 (acd hr.units) (pvL 2) acA (aa6 _)) (aap (aaB (pcF (E := E) (ah4.mono (by decide)) hr aay (paK (pvL 3) (paK (pvL 1) aaj))))) aaQ) (aap (aaB (ag8 (acI (acd hr.units) (pvL 2) acA (aa6 _)) (ag8 (pcF (E := E) (aer.mono (by decide)) hr aay (paK (pvL 3) aaj)) (aio (aj0 ahx ahx aal (pvL 3) (pvL 1))))))))))), fun t hK hx => (aau (ab0 (acp (aco hK (ad5 hK .tuple (aac 0)))) (aaC (afp _)) abd) (aau (ab0 (aaW (aoY hK (x_len hK (aad (aac 0) aak)) (aao _))) (aaC (awT hK (aac 0) (ap9 hK ado))) abd) (aau (abg (aac 0) (ae2 hK (abv (aas 2) (abv (aas 3) adF))) (anQ (ad0 ab6 (ad0 ab6 ae6)))) (aau (ab0 (aaW (x_eq hK (aac 2) (acH _))) (aaC (abr hK hx (aah (aah aaA)) (aad (aac 3) (aad (aac 1) aak)))) abd) (aaC (ahg (x_eq hK (aac 2) (acH _)) (ahg (abr hK hx (aah aaA) (aad (aac 3) aak)) (ahS hK ahG ahG ahR ahR (aao _) (aac 3) (aac 1)))))))))⟩)
theorem ajx (a : At K mg "is_whole" aft) (M : Nm mg) : DfX P w K mg base 1 "is_whole" (["thing"] : List Str) (spP K cl 1 acD) := by
 have S : aaE (["thing"] : List Str) (["thing"] : List Str) (aan aft) := ⟨rfl, rfl, rfl, by decide +kernel, rfl, by decide +kernel, by decide +kernel⟩
 exact a.dfP S (cl := cl) (by decide) (fun _ _ _ _ _ _ us hl => match us, hl with | [_], _ => by kernel_rfl) (fun f cdv A outer s H E hr => ⟨_, (aap (aaB (ag8 (pcI .int (pvL 0) M.abe M.amq) (aio (arq (pcI .bool (pvL 0) M.abe M.ao6)))))), fun t hK hx => (aaC (ahg (ad5 hK .int (aac 0)) (ar8 (ad5 hK .bool (aac 0)))))⟩)
theorem ajy (a : At K mg "is_worth" afv) (M : Nm mg) (adR : DfX P w K mg base 2 "is_fraction" (["thing"] : List Str) (spP K cl 1 abz)) : DfX P w K mg base 3 "is_worth" (["thing"] : List Str) (spP K cl 1 ab4) := by
 have S : aaE (["thing"] : List Str) (["thing"] : List Str) (aan afv) := ⟨rfl, rfl, rfl, by decide +kernel, rfl, by decide +kernel, by decide +kernel⟩
 exact a.dfP S (cl := cl) (by decide) (fun _ _ _ _ _ _ us hl => match us, hl with | [_], _ => by kernel_rfl) (fun f cdv A outer s H E hr => ⟨_, (aap (aaB (ag8 (pcF (E := E) (adR.mono (by decide)) hr aay (paK (pvL 0) aaj)) (aio (aj0 ahx ahx aal (aaN aaw (pvL 0) aal (fun _ _ => rfl)) (aaN aaw (pvL 0) aal (fun _ _ => rfl))))))), fun t hK hx => (aaC (ahg (abr hK hx (aah aaA) (aad (aac 0) aak)) (ahS hK ahG ahG ahR ahR (aao _) (abV hK (aac 0) (aao _)) (abV hK (aac 0) (aao _)))))⟩)
theorem atj (a : At K mg "law" aod) (M : Nm mg) (aqD : DfX P w K mg base 1 "_law_purse" (["_law_script"] : List Str) (spP K cl 1 afy)) (atk : DfX P w K mg base 4 "_law_book" (["_law_purse_here"] : List Str) (spR K 1 0 ahq)) (atl : DfX P w K mg base 2 "_law_rule" (["_law_purse_here", "_law_lists_here"] : List Str) (spR K 2 0 ahr)) (aok : DfX P w K mg base 3 "_law_worths" (["_law_book_here", "_law_rule_here"] : List Str) (spP K cl 2 aeo)) (adv : DfX P w K mg base 8 "thing_worths" (["book", "rule"] : List Str) (spP K cl 2 aaM)) (aol : DfX P w K mg base 1 "_law_copied" (["_law_book_here"] : List Str) (spP K cl 1 afb)) (ah5 : DfX P w K mg base 1 "_law_rule_copied" (["_law_rule_here"] : List Str) (spP K cl 1 abA)) (amv : DfX P w K mg base 2 "_law_rows" (["_law_found", "_law_due"] : List Str) (spP K cl 2 afc)) : DfX P w K mg base 9 "law" (["_law_script"] : List Str) (spP K cl 1 akV) := by
 have S : aaE (["_law_script", "_law_purse_here", "_law_time", "_law_book_here", "_law_rule_here", "_law_handed", "_law_due", "_law_found"] : List Str) (["_law_script"] : List Str) (aan aod) := ⟨rfl, rfl, rfl, by decide +kernel, rfl, by decide +kernel, by decide +kernel⟩
 exact a.dfP S (cl := cl) (by decide) (fun _ _ _ _ _ _ us hl => match us, hl with | [_], _ => by kernel_rfl) (fun f cdv A outer s H E hr => ⟨_, (aam (psL 1 S.nd (pcF (E := E) (aqD.mono (by decide)) hr aay (paK (pvL 0) aaj))) (aam (PS.nox (aeC PassesOwn.never rfl (piR M.adP (paK aal aaj)) (pgL 2 S.nd) (aam (psL 3 S.nd (pcF (E := E0) (atk.mono (by decide)) hr ace (paK (pvL 1) aaj))) (aam (psL 4 S.nd (pcF (E := E0) (atl.mono (by decide)) hr ace (paK (pvL 1) (paK (pcB aaR M.ac8 (paK (pvL 3) aaj)) aaj)))) (aam (psL 5 S.nd (ade (paK (pcF (E := E0) (aol.mono (by decide)) hr ace (paK (pvL 3) aaj)) (paK (pcF (E := E0) (ah5.mono (by decide)) hr ace (paK (pvL 4) aaj)) aaj)))) (aam (psL 6 S.nd (pcF (E := E0) (aok.mono (by decide)) hr ace (paK (pvL 3) (paK (pvL 4) aaj)))) (aam (psL 7 S.nd (pcF (E := E0) (adv.mono (by decide)) hr ace (paK (aaN aaw (pvL 5) aal (fun _ _ => rfl)) (paK (aaN aaw (pvL 5) aal (fun _ _ => rfl)) aaj)))) (aam (abX (PW.pt (agT (acj (abH (pcF (E := E0) (amv.mono (by decide)) hr ace (paK (pvL 7) (paK (pvL 6) aaj))) (by intro _; rfl))) (aeS (aa7 (afG hr.units) (pvL 5) (ade (paK (pvL 3) (paK (pvL 4) aaj))) (aa6 _))))) (aap (aaB aeR)) aaQ) (aam (abX (aa7 ahx (pcB (ami rfl) M.avH (paK (ac1 (sc := aan aod) (No := (["_law_script", "_law_purse_here", "_law_time", "_law_book_here", "_law_rule_here", "_law_handed", "_law_due", "_law_found"] : List Str)) (N := (["_law_one"] : List Str)) (src := [none]) (g := (acX 0)) rfl rfl ⟨by rfl, by decide +kernel, by decide +kernel, by decide +kernel, by rfl, by decide +kernel⟩ rfl (adg (pvL 6)) (fun C s H ex => (pgL 0 (show List.Nodup (["_law_one"] : List Str) by decide +kernel))) (fun C s H ex => (aaU aeV (aaN aaw (pvL 0) aal (fun _ _ => rfl)) (aaN aaw (pvL 0) aal (fun _ _ => rfl))))) aaj)) aal (aa6 _)) (aap (abX (acj (abH (pcF (E := E0) (amv.mono (by decide)) hr ace (paK (pcF (E := E0) (adv.mono (by decide)) hr ace (paK (ade (paK (ard ad2 M.agD (paK (pvL 7) aaj)) aaj)) (paK (ahU (G := nlK K) (Ts := [.str "least"]) (by kernel_rfl)) aaj))) (paK (pvL 6) aaj))) (by intro _; rfl))) (aap (aaB aeR)) aaQ)) aaQ) (aam (psE (arM PySem.F.plainAttrs_list PySem.F.slot_list_clear PySem.F.type_list_clear anu (pvL 7))) (aap (abX (acj (abH (pcF (E := E0) (amv.mono (by decide)) hr ace (paK (pcF (E := E0) (adv.mono (by decide)) hr ace (paK (aaN aaw (pvL 5) aal (fun _ _ => rfl)) (paK (aaN aaw (pvL 5) aal (fun _ _ => rfl)) aaj))) (paK (pvL 6) aaj))) (by intro _; rfl))) (aap (aaB aeR)) aaQ)))))))))))) (aap (aaB aeR)))), fun t hK hx => (aau (ags 1 (abr hK hx (aah aaA) (aad (aac 0) aak))) (aau (ad9 (fun t1 h1 k1 => (aeG (afH (aad (aao _) aak)) (aas 2) ab6 (aau (abg (abT (h1.trans hK) (aah aaA) (aad (aac 1) aak)) (aas 3) ab6) (aau (abg (abT (h1.trans hK) (aah (aah aaA)) (aad (aac 1) (aad (x_len (h1.trans hK) (aad (aac 3) aak)) aak))) (aas 4) ab6) (aau (abg (ady (aad (aa2 (h1.trans hK) k1 (aah aaA) (aad (aac 3) aak)) (aad (aa2 (h1.trans hK) k1 (aah aaA) (aad (aac 4) aak)) aak))) (aas 5) ab6) (aau (abg (aa2 (h1.trans hK) k1 (aah (aah aaA)) (aad (aac 3) (aad (aac 4) aak))) (aas 6) ab6) (aau (ags 7 (aa2 (h1.trans hK) k1 (aah (aah aaA)) (aad (abV (h1.trans hK) (aac 5) (aao _)) (aad (abV (h1.trans hK) (aac 5) (aao _)) aak)))) (aau (ab0 (agW (acp (aco (h1.trans hK) (aa2 (h1.trans hK) k1 (aah (aah aaA)) (aad (aac 7) (aad (aac 6) aak))))) (aaW (aoY (h1.trans hK) (aac 5) (ady (aad (aac 3) (aad (aac 4) aak)))))) (aaC (afp _)) abd) (aau (ab0 (aaW (axu (h1.trans hK) (as4 (h1.trans hK) (aad (ac2 (adz (h1.trans hK) (aac 6)) (adh (by decide)) (adi (js := [0]) (by decide)) ab6 (fun t2 h2 k2 => (aas 0)) (fun t2 h2 k2 => (aiE (h2.trans (h1.trans hK)) (abV (h2.trans (h1.trans hK)) (aac 0) (aao _)) (abV (h2.trans (h1.trans hK)) (aac 0) (aao _))))) aak)) (aao _))) (ab0 (acp (aco (h1.trans hK) (aa2 (h1.trans hK) k1 (aah (aah aaA)) (aad (aa2 (h1.trans hK) k1 (aah (aah aaA)) (aad (ady (aad (al1 (h1.trans hK) (aad (aac 7) aak)) aak)) (aad (anW (h1.trans hK)) aak))) (aad (aac 6) aak))))) (aaC (afp _)) abd) abd) (aau (ad6 (aqb 7)) (ab0 (acp (aco (h1.trans hK) (aa2 (h1.trans hK) k1 (aah (aah aaA)) (aad (aa2 (h1.trans hK) k1 (aah (aah aaA)) (aad (abV (h1.trans hK) (aac 5) (aao _)) (aad (abV (h1.trans hK) (aac 5) (aao _)) aak))) (aad (aac 6) aak))))) (aaC (afp _)) abd)))))))))))) (aaC (afp _))))⟩)
theorem aiO (a : At K mg "need_book" aeO) (M : Nm mg) (agb : PyProof.Rows.OwnCls "NoBook" (cl "NoBook") bmV "ValueError.__new__" mg base) (amw : DfX P w K mg base 5 "is_book" (["thing"] : List Str) (spP K cl 1 aea)) : DfX P w K mg base 6 "need_book" (["book"] : List Str) (spP K cl 1 ac3) := by
 have S : aaE (["book"] : List Str) (["book"] : List Str) (aan aeO) := ⟨rfl, rfl, rfl, by decide +kernel, rfl, by decide +kernel, by decide +kernel⟩
 exact a.dfP S (cl := cl) (by decide) (fun _ _ _ _ _ _ us hl => match us, hl with | [_], _ => by kernel_rfl) (fun f cdv A outer s H E hr => ⟨_, (aap (abX (acj (abH (pcF (E := E) (amw.mono (by decide)) hr aay (paK (pvL 0) aaj)) (by intro _; rfl))) (aap (ahC ago agb PySem.F.excBase_ValueError rfl acA)) aaQ)), fun t hK hx => (ab0 (acp (aco hK (abr hK hx (aah aaA) (aad (aac 0) aak)))) (ahL (fun H' => hx "NoBook" H') (acH _)) abd)⟩)
theorem aeg (a : At K mg "need_book_and_rule" ab7) (M : Nm mg) (agc : PyProof.Rows.OwnCls "NoRule" (cl "NoRule") bmV "ValueError.__new__" mg base) (ajz : DfX P w K mg base 6 "need_book" (["book"] : List Str) (spP K cl 1 ac3)) (amx : DfX P w K mg base 4 "is_rule" (["thing", "many"] : List Str) (spP K cl 2 ac4)) : DfX P w K mg base 7 "need_book_and_rule" (["book", "rule"] : List Str) (spP K cl 2 abo) := by
 have S : aaE (["book", "rule"] : List Str) (["book", "rule"] : List Str) (aan ab7) := ⟨rfl, rfl, rfl, by decide +kernel, rfl, by decide +kernel, by decide +kernel⟩
 exact a.dfP S (cl := cl) (by decide) (fun _ _ _ _ _ _ us hl => match us, hl with | [_, _], _ => by kernel_rfl) (fun f cdv A outer s H E hr => ⟨_, (aam (psE (pcF (E := E) (ajz.mono (by decide)) hr aay (paK (pvL 0) aaj))) (aap (abX (acj (abH (pcF (E := E) (amx.mono (by decide)) hr aay (paK (pvL 1) (paK (pcB aaR M.ac8 (paK (pvL 0) aaj)) aaj))) (by intro _; rfl))) (aap (ahC ago agc PySem.F.excBase_ValueError rfl acA)) aaQ))), fun t hK hx => (aau (ad6 (abr hK hx (aah aaA) (aad (aac 0) aak))) (ab0 (acp (aco hK (abr hK hx (aah (aah aaA)) (aad (aac 1) (aad (x_len hK (aad (aac 0) aak)) aak))))) (ahL (fun H' => hx "NoRule" H') (acH _)) abd))⟩)
theorem ajA (a : At K mg "place_of" afw) (M : Nm mg) : DfX P w K mg base 1 "place_of" (["rule", "many"] : List Str) (spP K cl 2 aci) := by
 have S : aaE (["rule", "many"] : List Str) (["rule", "many"] : List Str) (aan afw) := ⟨rfl, rfl, rfl, by decide +kernel, rfl, by decide +kernel, by decide +kernel⟩
 exact a.dfP S (cl := cl) (by decide) (fun _ _ _ _ _ _ us hl => match us, hl with | [_, _], _ => by kernel_rfl) (fun f cdv A outer s H E hr => ⟨_, (aam (abX (aa7 (acd hr.units) (aaN aaw (pvL 0) aal (fun _ _ => rfl)) acA (aa6 _)) (aap (aaB aal)) aaQ) (aam (abX (aa7 (acd hr.units) (aaN aaw (pvL 0) aal (fun _ _ => rfl)) acA (aa6 _)) (aap (aaB (pvL 1))) aaQ) (aap (aaB (aaN aaw (pvL 0) aal (fun _ _ => rfl)))))), fun t hK hx => (aau (ab0 (aaW (x_eq hK (abV hK (aac 0) (aao _)) (acH _))) (aaC (aao _)) abd) (aau (ab0 (aaW (x_eq hK (abV hK (aac 0) (aao _)) (acH _))) (aaC (aac 1)) abd) (aaC (abV hK (aac 0) (aao _)))))⟩)
theorem afT (a : At K mg "product_worth" ac7) (M : Nm mg) (aeh : DfX P w K mg base 3 "frac_times" (["one", "other"] : List Str) (spP K cl 2 aby)) : DfX P w K mg base 4 "product_worth" (["worths"] : List Str) (spP K cl 1 acs) := by
 have S : aaE (["worths", "product", "worth"] : List Str) (["worths"] : List Str) (aan ac7) := ⟨rfl, rfl, rfl, by decide +kernel, rfl, by decide +kernel, by decide +kernel⟩
 exact a.dfP S (cl := cl) (by decide) (fun _ _ _ _ _ _ us hl => match us, hl with | [_], _ => by kernel_rfl) (fun f cdv A outer s H E hr => ⟨_, (aam (psL 1 S.nd (ahU (G := nlK K) (Ts := [.int 1, .int 1]) (by kernel_rfl))) (aam (PS.nox (aeC PassesOwn.never rfl (adg (pvL 0)) (pgL 2 S.nd) (aap (psL 1 S.nd (pcF (E := E0) (aeh.mono (by decide)) hr ace (paK (pvL 1) (paK (pvL 2) aaj))))))) (aap (aaB (pvL 1))))), fun t hK hx => (aau (abg (anW hK) (aas 1) ab6) (aau (ad9 (fun t1 h1 k1 => (aeG (adz (h1.trans hK) (aac 0)) (aas 2) ab6 (abg (aa2 (h1.trans hK) k1 (aah (aah aaA)) (aad (aac 1) (aad (aac 2) aak))) (aas 1) ab6)))) (aaC (aac 1))))⟩)
theorem agE (a : At K mg "shares_worth" adt) (M : Nm mg) (akZ : DfX P w K mg base 3 "frac_sum" (["one", "other"] : List Str) (spP K cl 2 acW)) (aeh : DfX P w K mg base 3 "frac_times" (["one", "other"] : List Str) (spP K cl 2 aby)) : DfX P w K mg base 4 "shares_worth" (["weights", "worths"] : List Str) (spP K cl 2 acG) := by
 have S : aaE (["weights", "worths", "total", "weight", "worth"] : List Str) (["weights", "worths"] : List Str) (aan adt) := ⟨rfl, rfl, rfl, by decide +kernel, rfl, by decide +kernel, by decide +kernel⟩
 exact a.dfP S (cl := cl) (by decide) (fun _ _ _ _ _ _ us hl => match us, hl with | [_, _], _ => by kernel_rfl) (fun f cdv A outer s H E hr => ⟨_, (aam (psL 2 S.nd (ahU (G := nlK K) (Ts := [.int 0, .int 1]) (by kernel_rfl))) (aam (PS.nox (aeC PassesOwn.never rfl (arS M.avJ (paK (pvL 0) (paK (pvL 1) aaj))) (aeU rfl (abt (pgL 3 S.nd) (abt (pgL 4 S.nd) adC))) (aap (psL 2 S.nd (pcF (E := E0) (akZ.mono (by decide)) hr ace (paK (pvL 2) (paK (pcF (E := E0) (aeh.mono (by decide)) hr ace (paK (pvL 3) (paK (pvL 4) aaj))) aaj))))))) (aap (aaB (pvL 2))))), fun t hK hx => (aau (abg (anW hK) (aas 2) ab6) (aau (ad9 (fun t1 h1 k1 => (aeG (asN (h1.trans hK) (aad (aac 0) (aad (aac 1) aak))) (ae2 (h1.trans hK) (abv (aas 3) (abv (aas 4) adF))) (anQ (ad0 ab6 (ad0 ab6 ae6))) (abg (aa2 (h1.trans hK) k1 (aah (aah aaA)) (aad (aac 2) (aad (aa2 (h1.trans hK) k1 (aah (aah aaA)) (aad (aac 3) (aad (aac 4) aak))) aak))) (aas 2) ab6)))) (aaC (aac 2))))⟩)
theorem agF (a : At K mg "thing_worths" adu) (M : Nm mg) (aex : DfX P w K mg base 7 "need_book_and_rule" (["book", "rule"] : List Str) (spP K cl 2 abo)) (ajB : DfX P w K mg base 6 "worths_by" (["book", "rule"] : List Str) (spP K cl 2 adJ)) : DfX P w K mg base 8 "thing_worths" (["book", "rule"] : List Str) (spP K cl 2 aaM) := by
 have S : aaE (["book", "rule"] : List Str) (["book", "rule"] : List Str) (aan adu) := ⟨rfl, rfl, rfl, by decide +kernel, rfl, by decide +kernel, by decide +kernel⟩
 exact a.dfP S (cl := cl) (by decide) (fun _ _ _ _ _ _ us hl => match us, hl with | [_, _], _ => by kernel_rfl) (fun f cdv A outer s H E hr => ⟨_, (aam (psE (pcF (E := E) (aex.mono (by decide)) hr aay (paK (pvL 0) (paK (pvL 1) aaj)))) (aap (aaB (pcF (E := E) (ajB.mono (by decide)) hr aay (paK (pvL 0) (paK (pvL 1) aaj)))))), fun t hK hx => (aau (ad6 (abr hK hx (aah (aah aaA)) (aad (aac 0) (aad (aac 1) aak)))) (aaC (abr hK hx (aah (aah aaA)) (aad (aac 0) (aad (aac 1) aak)))))⟩)
theorem aei (a : At K mg "tops_on_one_bottom" abL) (M : Nm mg) (agG : DfX P w K mg base 2 "common_bottom" (["fractions"] : List Str) (spP K cl 1 ab2)) : DfX P w K mg base 3 "tops_on_one_bottom" (["fractions"] : List Str) (spP K cl 1 abK) := by
 have S : aaE (["fractions", "bottom"] : List Str) (["fractions"] : List Str) (aan abL) := ⟨rfl, rfl, rfl, by decide +kernel, rfl, by decide +kernel, by decide +kernel⟩
 exact a.dfP S (cl := cl) (by decide) (fun _ _ _ _ _ _ us hl => match us, hl with | [_], _ => by kernel_rfl) (fun f cdv A outer s H E hr => ⟨_, (aam (psC 1 S.nd rfl (pcF (E := E) (agG.mono (by decide)) hr aay (paK (pvL 0) aaj))) (aap (aaB (ac1 (sc := aan abL) (No := (["fractions", "bottom"] : List Str)) (N := (["top", "own", "bottom"] : List Str)) (src := [none, none, some 1]) (g := (auP K 2 (ani (acX 0) (ani (acX 1) auO)))) rfl rfl ⟨by rfl, by decide +kernel, by decide +kernel, by decide +kernel, by rfl, by decide +kernel⟩ rfl (adg (pvL 0)) (fun C s H ex => (aeU rfl (abt (pgL 0 (show List.Nodup (["top", "own", "bottom"] : List Str) by decide +kernel)) (abt (pgL 1 (show List.Nodup (["top", "own", "bottom"] : List Str) by decide +kernel)) adC)))) (fun C s H ex => (aaU abD (pvL 0) (aaU adE (pvC 2) (pvL 1)))))))), fun t hK hx => (aau (abg (abr hK hx (aah aaA) (aad (aac 0) aak)) (aas 1) ab6) (aaC (ac2 (adz hK (aac 0)) (adh (by decide)) (adi (js := [0, 1]) (by decide)) (anQ (ad0 ab6 (ad0 ab6 ae6))) (fun t1 h1 k1 => (ae2 (h1.trans hK) (abv (aas 0) (abv (aas 1) adF)))) (fun t1 h1 k1 => (adq (h1.trans hK) (aac 0) (ajj (h1.trans hK) (aac 2) (aac 1)))))))⟩)
theorem ajC (a : At K mg "worth_by" afx) (M : Nm mg) (ag1 : DfX P w K mg base 4 "shares_worth" (["weights", "worths"] : List Str) (spP K cl 2 acG)) (agH : DfX P w K mg base 4 "product_worth" (["worths"] : List Str) (spP K cl 1 acs)) (afU : DfX P w K mg base 4 "falling_places" (["fractions"] : List Str) (spP K cl 1 abl)) (ak0 : DfX P w K mg base 1 "place_of" (["rule", "many"] : List Str) (spP K cl 2 aci)) : DfX P w K mg base 5 "worth_by" (["rule", "worths"] : List Str) (spP K cl 2 abh) := by
 have S : aaE (["rule", "worths"] : List Str) (["rule", "worths"] : List Str) (aan afx) := ⟨rfl, rfl, rfl, by decide +kernel, rfl, by decide +kernel, by decide +kernel⟩
 exact a.dfP S (cl := cl) (by decide) (fun _ _ _ _ _ _ us hl => match us, hl with | [_, _], _ => by kernel_rfl) (fun f cdv A outer s H E hr => ⟨_, (aam (abX (aa7 (acd hr.units) (aaN aaw (pvL 0) aal (fun _ _ => rfl)) acA (aa6 _)) (aap (aaB (pcF (E := E) (ag1.mono (by decide)) hr aay (paK (aaN aaw (pvL 0) aal (fun _ _ => rfl)) (paK (pvL 1) aaj))))) aaQ) (aam (abX (aa7 (acd hr.units) (aaN aaw (pvL 0) aal (fun _ _ => rfl)) acA (aa6 _)) (aap (aaB (pcF (E := E) (agH.mono (by decide)) hr aay (paK (pvL 1) aaj)))) aaQ) (aap (aaB (aaN aaw (pvL 1) (aaN aaw (pcF (E := E) (afU.mono (by decide)) hr aay (paK (pvL 1) aaj)) (aaU aeV (pcF (E := E) (ak0.mono (by decide)) hr aay (paK (pvL 0) (paK (pcB aaR M.ac8 (paK (pvL 1) aaj)) aaj))) aal) (fun _ _ => rfl)) (fun _ _ => rfl)))))), fun t hK hx => (aau (ab0 (aaW (x_eq hK (abV hK (aac 0) (aao _)) (acH _))) (aaC (abr hK hx (aah (aah aaA)) (aad (abV hK (aac 0) (aao _)) (aad (aac 1) aak)))) abd) (aau (ab0 (aaW (x_eq hK (abV hK (aac 0) (aao _)) (acH _))) (aaC (abr hK hx (aah aaA) (aad (aac 1) aak))) abd) (aaC (abV hK (aac 1) (abV hK (abr hK hx (aah aaA) (aad (aac 1) aak)) (aiE hK (abr hK hx (aah (aah aaA)) (aad (aac 0) (aad (x_len hK (aad (aac 1) aak)) aak))) (aao _)))))))⟩)
theorem aiP (a : At K mg "worths_by" adN) (M : Nm mg) (ak1 : DfX P w K mg base 5 "worth_by" (["rule", "worths"] : List Str) (spP K cl 2 abh)) (ajD : DfX P w K mg base 1 "worths_of" (["book", "thing"] : List Str) (spP K cl 2 ac5)) : DfX P w K mg base 6 "worths_by" (["book", "rule"] : List Str) (spP K cl 2 adJ) := by
 have S : aaE (["book", "rule"] : List Str) (["book", "rule"] : List Str) (aan adN) := ⟨rfl, rfl, rfl, by decide +kernel, rfl, by decide +kernel, by decide +kernel⟩
 exact a.dfP S (cl := cl) (by decide) (fun _ _ _ _ _ _ us hl => match us, hl with | [_, _], _ => by kernel_rfl) (fun f cdv A outer s H E hr => ⟨_, (aap (aaB (ac1 (sc := aan adN) (No := (["book", "rule"] : List Str)) (N := (["thing", "rule", "book"] : List Str)) (src := [none, some 1, some 0]) (g := (acX 0)) rfl rfl ⟨by rfl, by decide +kernel, by decide +kernel, by decide +kernel, by rfl, by decide +kernel⟩ rfl (piR M.adP (paK (pcB aaR M.ac8 (paK (aaN aaw (pvC 0) aal (fun _ _ => rfl)) aaj)) aaj)) (fun C s H ex => (pgL 0 (show List.Nodup (["thing", "rule", "book"] : List Str) by decide +kernel))) (fun C s H ex => (pcF (E := E0) (ak1.mono (by decide)) hr ace (paK (pvC 1) (paK (pcF (E := E0) (ajD.mono (by decide)) hr ace (paK (pvC 2) (paK (pvL 0) aaj))) aaj))))))), fun t hK hx => (aaC (ac2 (afH (aad (x_len hK (aad (abV hK (aac 0) (aao _)) aak)) aak)) (adh (by decide)) (adi (js := [0]) (by decide)) ab6 (fun t1 h1 k1 => (aas 0)) (fun t1 h1 k1 => (aa2 (h1.trans hK) k1 (aah (aah aaA)) (aad (aac 1) (aad (aa2 (h1.trans hK) k1 (aah (aah aaA)) (aad (aac 2) (aad (aac 0) aak))) aak))))))⟩)
theorem aiQ (a : At K mg "worths_of" adM) (M : Nm mg) : DfX P w K mg base 1 "worths_of" (["book", "thing"] : List Str) (spP K cl 2 ac5) := by
 have S : aaE (["book", "thing"] : List Str) (["book", "thing"] : List Str) (aan adM) := ⟨rfl, rfl, rfl, by decide +kernel, rfl, by decide +kernel, by decide +kernel⟩
 exact a.dfP S (cl := cl) (by decide) (fun _ _ _ _ _ _ us hl => match us, hl with | [_, _], _ => by kernel_rfl) (fun f cdv A outer s H E hr => ⟨_, (aap (aaB (ac1 (sc := aan adM) (No := (["book", "thing"] : List Str)) (N := (["row", "thing"] : List Str)) (src := [none, some 1]) (g := (acX 0)) rfl rfl ⟨by rfl, by decide +kernel, by decide +kernel, by decide +kernel, by rfl, by decide +kernel⟩ rfl (adg (pvL 0)) (fun C s H ex => (pgL 0 (show List.Nodup (["row", "thing"] : List Str) by decide +kernel))) (fun C s H ex => (aaN aaw (pvL 0) (pvC 1) (fun _ _ => rfl)))))), fun t hK hx => (aaC (ac2 (adz hK (aac 0)) (adh (by decide)) (adi (js := [0]) (by decide)) ab6 (fun t1 h1 k1 => (aas 0)) (fun t1 h1 k1 => (abV (h1.trans hK) (aac 0) (aac 1)))))⟩)
end
end K15
end
section
namespace L2
open PySem
@[simp] theorem Rs.aaV {α β : Type} (a : α) (f : α -> Rs β) : (Rs.ok a).bind f = f a := rfl
@[simp] theorem Rs.auE {α β : Type} (f : α -> Rs β) : (Rs.bad : Rs α).bind f = .bad := rfl
@[simp] theorem Rs.avK {α β : Type} (c : Str) (f : α -> Rs β) : (Rs.ex c : Rs α).bind f = .ex c := rfl
inductive Tg {α β : Type} (f : α -> Rs β) : Type
 | mk
noncomputable def bd {α β : Type} (r : Rs α) (f : α -> Rs β) (_ : Tg f) : Rs β := r.bind f
@[simp] theorem ajE {α β : Type} (f : α -> Rs β) (a : α) (u : Tg f) : bd (.ok a) f u = f a := rfl
@[simp] theorem awZ {α β : Type} (f : α -> Rs β) (u : Tg f) : bd .bad f u = .bad := rfl
@[simp] theorem axH {α β : Type} (f : α -> Rs β) (c : Str) (u : Tg f) : bd (.ex c) f u = .ex c := rfl
@[simp] theorem aqE (f g : SF) (ρ : En) : aaP f g ρ = ((bd (f ρ) (fun p => match p.1 with
 | .nx => g p.2
 | fl => .ok (fl, p.2)) .mk)) := rfl
@[simp] theorem atn (c : BF) (f g : SF) (ρ : En) : sIf c f g ρ = ((bd (c ρ) (fun p => if p.1 = true then f p.2 else g p.2) .mk)) := rfl
@[simp] theorem amy (f : EF) (ρ : En) : abn f ρ = ((bd (f ρ) (fun p => match p.1 with
 | .v T fr => .ok (.rt T fr, p.2)
 | .s i => match p.2[i]? with
  | some (.ow ts) => .ok (.rt (.lst ts) true, p.2)
  | _ => .bad) .mk)) := rfl
@[simp] theorem avL (f : EF) (g : GF) (ρ : En) : ab9 f g ρ = ((bd (f ρ) (fun p => match p.1 with
 | .v T _ => (bd (g T p.2) (fun ρ' => .ok (.nx, ρ')) .mk)
 | .s _ => .bad) .mk)) := rfl
@[simp] theorem avM (i : Nat) (f : EF) (ρ : En) : ai3 i f ρ = ((bd (f ρ) (fun p => match p.1 with
 | .v (.lst ts) true => .ok (.nx, p.2.set i (.ow ts))
 | _ => .bad) .mk)) := rfl
@[simp] theorem aqF  (ρ : En) : acC  ρ = (.ok (.nx, ρ)) := rfl
@[simp] theorem avN (f : SF) (ρ : En) : ada f ρ = (abN (f ρ)) := rfl
@[simp] theorem avO (i j : Nat) (fa : AF) (ρ : En) : aoU i j fa ρ = ((bd (fa ρ) (fun p => (bd (cls p.1) (fun Ts => match Ts with
 | [T, U] => .ok (.nx, (p.2.set i (.sh T)).set j (.sh U))
 | _ => .bad) .mk)) .mk)) := rfl
@[simp] theorem auF (i : Nat) (fk fe : EF) (ρ : En) : ap1 i fk fe ρ = ((bd (fe ρ) (fun p => (bd (cls [p.1]) (fun Ts => (bd (con p.2 i) (fun _ => (bd (fk p.2) (fun q => (bd (dr q.2 q.1) (fun kT => (bd (iOf kT) (fun k => (bd (con q.2 i) (fun ts => match Ts, ixN ts.length k with
 | [T], some j => .ok (.nx, abw i (ts.set j T) q.2)
 | _, _ => .bad) .mk)) .mk)) .mk)) .mk)) .mk)) .mk)) .mk)) := rfl
@[simp] theorem auG (f : EF) (ρ : En) : aeu f ρ = ((bd (f ρ) (fun p => .ok (.nx, p.2)) .mk)) := rfl
@[simp] theorem avP (fi : IF) (g : GF) (b : SF) (ρ : En) : aeF fi g b ρ = ((bd (fi ρ) (fun p => abW g b p.1 p.2) .mk)) := rfl
@[simp] theorem avQ (i : Nat) (f : SF) (ρ : En) : ara i f ρ = (f (frz i ρ)) := rfl
@[simp] theorem avR (i : Nat) (f : SF) (ρ : En) : axA i f ρ = (f (dow i ρ)) := rfl
@[simp] theorem avS (i : Nat) (p : Int -> Int -> Int) (f : EF) (ρ : En) : axr i p f ρ = (match ρ[i]? with
 | some (.sh (.int x)) => (bd (f ρ) (fun q => (bd (dr q.2 q.1) (fun yT => (bd (iOf yT) (fun y => .ok (.nx, q.2.set i (.sh (.int (p x y))))) .mk)) .mk)) .mk)
 | _ => .bad) := rfl
@[simp] theorem avT (i : Nat) (fk : QF) (m : GM) (fa : QF) (ρ : En) : axz i fk m fa ρ = ((bd (acQ ρ i) (fun ts => (bd (abN (fk ρ)) (fun k => (bd (ixT ts k) (fun z => match z.2 with
 | .lst us => (bd (abN (fa ρ)) (fun T => (bd (m us [T]) (fun y => .ok (.nx, ρ.set i (.dp (ts.set z.1 (.lst y.1))))) .mk)) .mk)
 | _ => .bad) .mk)) .mk)) .mk)) := rfl
@[simp] theorem auH (i : Nat) (fk fj : QF) (fe : EF) (ρ : En) : avC i fk fj fe ρ = ((bd (fe ρ) (fun p => (bd (clV p.1) (fun T => (bd (acQ p.2 i) (fun ts => (bd (abN (fk p.2)) (fun k => (bd (ixT ts k) (fun z => match z.2 with
 | .lst us => (bd (abN (fj p.2)) (fun j => (bd (ixT us j) (fun y => .ok (.nx, p.2.set i (.dp (ts.set z.1 (.lst (us.set y.1 T)))))) .mk)) .mk)
 | _ => .bad) .mk)) .mk)) .mk)) .mk)) .mk)) := rfl
@[simp] theorem ato (i : Nat) (src : List (Option Nat)) (fi : IF) (g : GF) (c : BF) (f : EF) (ρ : En) : asK i src fi g c f ρ = ((bd (fi ρ) (fun p => if p.1.length <= 100000 then (bd (abN (anY g c f p.1 (ab5 src p.2))) (fun z => if acf src z.2 p.2 = true then .ok (.nx, (abE src z.2 p.2).set i (.dp z.1)) else .bad) .mk) else .bad) .mk)) := rfl
@[simp] theorem avU (i : Nat) (ρ : En) : axx i ρ = (match ρ[i]? with
 | some (.sh T) => .ok T
 | _ => .bad) := rfl
@[simp] theorem axI (T : Tr) (ρ : En) : qC T ρ = .ok T := rfl
@[simp] theorem avV (i : Nat) (fk fj : QF) (ρ : En) : axy i fk fj ρ = ((bd (acQ ρ i) (fun ts => (bd (fk ρ) (fun k => (bd (ixT ts k) (fun z => match z.2 with
 | .lst us => (bd (fj ρ) (fun j => (bd (ixT us j) (fun y => .ok y.2) .mk)) .mk)
 | _ => .bad) .mk)) .mk)) .mk)) := rfl
@[simp] theorem aqG (i : Nat) (ρ : En) : aag i ρ = (match ρ[i]? with
 | some (.sh T) => .ok (.v T false, ρ)
 | some (.ow _) => .ok (.s i, ρ)
 | some (.rf _) => .ok (.s i, ρ)
 | _ => .bad) := rfl
@[simp] theorem avW (T : Tr) (ρ : En) : eC T ρ = (.ok (.v T false, ρ)) := rfl
@[simp] theorem aw0 (Ts : List Tr) (ρ : En) : eCL Ts ρ = .ok (.v (.lst Ts) true, ρ) := rfl
@[simp] theorem atp (g : G2) (fa fb : EF) (ρ : En) : eOp g fa fb ρ = ((bd (fa ρ) (fun p => (bd (fb p.2) (fun q => (bd (dr q.2 p.1) (fun a => (bd (dr q.2 q.1) (fun b => (bd (g a b) (fun z => .ok (.v z.1 z.2, q.2)) .mk)) .mk)) .mk)) .mk)) .mk)) := rfl
@[simp] theorem aw1 (g : G1) (fa : EF) (ρ : En) : eUn g fa ρ = ((bd (fa ρ) (fun p => (bd (dr p.2 p.1) (fun a => (bd (g a) (fun z => .ok (.v z.1 z.2, p.2)) .mk)) .mk)) .mk)) := rfl
@[simp] theorem atq (g : GN) (fa : AF) (ρ : En) : eCB g fa ρ = ((bd (fa ρ) (fun p => (bd (drs p.2 p.1) (fun as => (bd (g as) (fun z => .ok (.v z.1 z.2, p.2)) .mk)) .mk)) .mk)) := rfl
@[simp] theorem amz (F : FP) (fa : AF) (ρ : En) : aat F fa ρ = ((bd (fa ρ) (fun p => (bd (drs p.2 p.1) (fun as => (bd (F as) (fun z => if p.1.any isS = true /\ adI z = false then .bad else .ok (.v z.1 z.2, p.2)) .mk)) .mk)) .mk)) := rfl
@[simp] theorem atr (r : Nat) (F : FR) (fa : AF) (ρ : En) : abb r F fa ρ = ((bd (fa ρ) (fun p => match p.1[r]? with
 | some (.s i) => if others r i p.1 = true then ((bd (con p.2 i) (fun _ => (bd (drs p.2 p.1) (fun as => (bd (F as) (fun z => if (p.1.eraseIdx r).any isS = true /\ adI z.1 = false then .bad else .ok (.v z.1.1 z.1.2, abw i z.2 p.2)) .mk)) .mk)) .mk)) else .bad
 | _ => .bad) .mk)) := rfl
@[simp] theorem avX (g : AF) (ρ : En) : afi g ρ = ((bd (g ρ) (fun p => (bd (cls p.1) (fun ts => if ts.length <= 1000 then .ok (.v (.lst ts) true, p.2) else .bad) .mk)) .mk)) := rfl
@[simp] theorem avY (g : AF) (ρ : En) : ahH g ρ = ((bd (g ρ) (fun p => (bd (cls p.1) (fun ts => if ts.length <= 1000 then .ok (.v (.tup ts) false, p.2) else .bad) .mk)) .mk)) := rfl
@[simp] theorem avZ (f g : EF) (ρ : En) : anE f g ρ = ((bd (aa8 f ρ) (fun p => if p.1 = true then g p.2 else .ok (eB false, p.2)) .mk)) := rfl
@[simp] theorem aw2 (f g : EF) (ρ : En) : eOr f g ρ = ((bd (aa8 f ρ) (fun p => if p.1 = true then .ok (eB true, p.2) else g p.2) .mk)) := rfl
@[simp] theorem av0 (f : EF) (ρ : En) : avf f ρ = ((bd (aa8 f ρ) (fun p => .ok (eB (!p.1), p.2)) .mk)) := rfl
@[simp] theorem aw3 (c : BF) (f g : EF) (ρ : En) : eIf c f g ρ = ((bd (c ρ) (fun p => if p.1 = true then f p.2 else g p.2) .mk)) := rfl
@[simp] theorem av1 (c : Ty) (fa : EF) (ρ : En) : ahi c fa ρ = ((bd (fa ρ) (fun p => (bd (dr p.2 p.1) (fun a => .ok (eB (acL a c), p.2)) .mk)) .mk)) := rfl
@[simp] theorem atu (g g' : G2) (fa fb fc : EF) (ρ : En) : agr g g' fa fb fc ρ = ((bd (fa ρ) (fun p => (bd (fb p.2) (fun q => (bd (dr q.2 p.1) (fun a => (bd (dr q.2 q.1) (fun b => (bd (g a b) (fun z => (bd (bOf z.1) (fun k => if k = true then (bd (fc q.2) (fun s => (bd (dr s.2 q.1) (fun b => (bd (dr s.2 s.1) (fun c => (bd (g' b c) (fun z => .ok (.v z.1 z.2, s.2)) .mk)) .mk)) .mk)) .mk) else .ok (eB false, q.2)) .mk)) .mk)) .mk)) .mk)) .mk)) .mk)) := rfl
@[simp] theorem aw4 (fa : EF) (fl fh : OF) (ρ : En) : eSl fa fl fh ρ = ((bd (fa ρ) (fun p => (bd (fl p.2) (fun l => (bd (fh l.2) (fun h => (bd (dr h.2 p.1) (fun a => (bd (gSl l.1 h.1 a) (fun z => .ok (.v z.1 z.2, h.2)) .mk)) .mk)) .mk)) .mk)) .mk)) := rfl
@[simp] theorem akt (src : List (Option Nat)) (fi : IF) (g : GF) (c : BF) (f : EF) (ρ : En) : abF src fi g c f ρ = ((bd (fi ρ) (fun p => if p.1.length <= 100000 then (bd (abN (ad8 g c f p.1 (ab5 src p.2))) (fun z => if acf src z.2 p.2 = true then .ok (.v (.lst z.1) true, abE src z.2 p.2) else .bad) .mk) else .bad) .mk)) := rfl
@[simp] theorem aw5 (i : Nat) (m : GM) (fa : AF) (ρ : En) : eMt i m fa ρ = ((bd (con ρ i) (fun _ => (bd (fa ρ) (fun p => (bd (cls p.1) (fun as => (bd (con p.2 i) (fun ts => (bd (m ts as) (fun z => .ok (.v z.2 false, abw i z.1 p.2)) .mk)) .mk)) .mk)) .mk)) .mk)) := rfl
@[simp] theorem av2 (i : Nat) (m : GM) (ρ : En) : asn i m ρ = ((bd (con ρ i) (fun ts => (bd (m ts []) (fun z => .ok (.v z.2 false, abw i z.1 ρ)) .mk)) .mk)) := rfl
@[simp] theorem aom (fa : EF) (ρ : En) : aa8 fa ρ = ((bd (fa ρ) (fun p => (bd (dr p.2 p.1) (fun a => (bd (bOf a) (fun b => .ok (b, p.2)) .mk)) .mk)) .mk)) := rfl
@[simp] theorem av3 (fa : EF) (ρ : En) : aeM fa ρ = ((bd (fa ρ) (fun p => (bd (dr p.2 p.1) (fun a => (bd (tru a) (fun b => .ok (b, p.2)) .mk)) .mk)) .mk)) := rfl
@[simp] theorem av4 (f g : BF) (ρ : En) : axo f g ρ = ((bd (f ρ) (fun p => if p.1 = true then g p.2 else .ok (false, p.2)) .mk)) := rfl
@[simp] theorem aw6 (f g : BF) (ρ : En) : bOr f g ρ = ((bd (f ρ) (fun p => if p.1 = true then .ok (true, p.2) else g p.2) .mk)) := rfl
@[simp] theorem av5 (f : BF) (ρ : En) : ae1 f ρ = ((bd (f ρ) (fun p => .ok (!p.1, p.2)) .mk)) := rfl
@[simp] theorem aqH  (ρ : En) : aeH  ρ = (.ok (true, ρ)) := rfl
@[simp] theorem aqI  (ρ : En) : aar  ρ = (.ok ([], ρ)) := rfl
@[simp] theorem aon (f : EF) (g : AF) (ρ : En) : aae f g ρ = ((bd (f ρ) (fun p => (bd (g p.2) (fun q => .ok (p.1 :: q.1, q.2)) .mk)) .mk)) := rfl
@[simp] theorem aw7 (f : EF) (ρ : En) : fSq f ρ = ((bd (f ρ) (fun p => (bd (acP p.1) (fun z => .ok (z.1, p.2)) .mk)) .mk)) := rfl
@[simp] theorem av6 (fa : AF) (ρ : En) : afP fa ρ = ((bd (fa ρ) (fun p => (bd (drs p.2 p.1) (fun as => match as with
 | [.int j] => if okR j = true then .ok (upTo 0 j.toNat, p.2) else .bad
 | _ => .bad) .mk)) .mk)) := rfl
@[simp] theorem auI (fa : AF) (ρ : En) : avj fa ρ = ((bd (fa ρ) (fun p => (bd (drs p.2 p.1) (fun as => match as with
 | [.int i, .int j] => if okR i = true /\ okR j = true then .ok (upTo i (j - i).toNat, p.2) else .bad
 | _ => .bad) .mk)) .mk)) := rfl
@[simp] theorem av7 (fa : AF) (ρ : En) : asM fa ρ = ((bd (fa ρ) (fun p => match p.1 with
 | [.v (.lst us) _, .v (.lst vs) _] => .ok (ao0 us vs, p.2)
 | _ => .bad) .mk)) := rfl
@[simp] theorem aw8  (ρ : En) : oNo  ρ = (.ok (none, ρ)) := rfl
@[simp] theorem auJ (fa : EF) (ρ : En) : anG fa ρ = ((bd (fa ρ) (fun p => (bd (dr p.2 p.1) (fun a => (bd (iOf a) (fun b => .ok (some b, p.2)) .mk)) .mk)) .mk)) := rfl
@[simp] theorem axJ (i : Nat) (T : Tr) (ρ : En) : gN i T ρ = (.ok (ρ.set i (.sh T))) := rfl
@[simp] theorem axK (n : Nat) (f : GFs) (T : Tr) (ρ : En) : gT n f T ρ = (match T with
 | .tup Ts => if Ts.length = n then f Ts ρ else .bad
 | _ => .bad) := rfl
@[simp] theorem auK  (Ts : List Tr) (ρ : En) : acr  Ts ρ = (match Ts with
 | [] => .ok ρ
 | _ => .bad) := rfl
@[simp] theorem atv (f : GF) (g : GFs) (Ts : List Tr) (ρ : En) : aaJ f g Ts ρ = (match Ts with
 | T :: r => (bd (f T ρ) (fun ρ' => g r ρ') .mk)
 | [] => .bad) := rfl
@[simp] theorem aw9 (a : Tr) : aaF 1 [a] = [.sh a] := rfl
end L2
end
section
namespace BH
open PySem L2
theorem aaz (i : Int) : dep (.int i) = 0 := rfl
theorem aa4 (i : Bool) : dep (.bl i) = 0 := rfl
theorem aaD (i : Str) : dep (.str i) = 0 := rfl
theorem aaK : dep .non = 0 := rfl
theorem aaG (ts : List Tr) : dep (.tup ts) = deps ts + 1 := by simp only [dep]
theorem aaI (ts : List Tr) : dep (.lst ts) = deps ts + 1 := by simp only [dep]
theorem aav : deps [] = 0 := rfl
theorem aaq (t : Tr) (ts : List Tr) : deps (t :: ts) = max (dep t) (deps ts) := by simp only [deps]
theorem aaS (i j : Int) : eqT (.int i) (.int j) = (i == j) := by simp only [eqT]
theorem aa5 (i j : Bool) : eqT (.bl i) (.bl j) = (i == j) := by simp only [eqT]
theorem aa0 (i j : Str) : eqT (.str i) (.str j) = (i == j) := by simp only [eqT]
noncomputable def isW : Tr -> Bool
 | .int _ => true
 | _ => false
theorem agI (T : Tr) : acD [T] = .ok (.bl (isW T), false) := by cases T <;> rfl
noncomputable def wc : BF := aa8 (eOp gNe (aag 1) (eC (.int 0)))
noncomputable def wb : SF := aoU 0 1 (aae (aag 1) (aae (eOp acz (aag 0) (aag 1)) aar))
theorem av8 (a b : Int) : wc [.sh (.int a), .sh (.int b)] = .ok (!(b == 0), [.sh (.int a), .sh (.int b)]) := rfl
theorem av9 (a b : Int) (h : b ≠ 0) : wb [.sh (.int a), .sh (.int b)] = .ok (.nx, [.sh (.int b), .sh (.int (a.fmod b))]) := by
 unfold wb; simp -dsimp [abN, frz, dow, abw, con, acQ, eB, bOf, tru, dr, drs, cls, clV, adk, g1, g2, gI, gIC, gB, gEq, gNe, gIn, abB, abI, acB, acz, acy, ab3, gLt, gGt, gLe, gGe, gIx, abf, adb, abk, aa3, ac9, adB, acq, acP, okR, iOf, isS, others, ab5, abE, acf, acM, acV, aaz, aa4, aaD, aaK, aaG, aaI, aav, aaq, aaS, aa5, aa0, acL, atI, ixN, aaF, h]
theorem aku : ∀ (n : Nat) (a b : Int), b.natAbs < n -> ∃ g : Int, ae3 wc wb n [.sh (.int a), .sh (.int b)] = .ok (.nx, [.sh (.int g), .sh (.int 0)]) /\ (if g < 0 then -g else g) = ((Int.gcd a b : Nat) : Int)
 | 0, a, b, h => by omega
 | n + 1, a, b, h => by
  unfold ae3
  rw [av8]
  by_cases z : b = 0
  ·subst z
   exact ⟨a, rfl, apH a⟩
  ·obtain ⟨g, h1, h2⟩ := aku n b (a.fmod b) (by have := akS a b z; omega)
   refine ⟨g, ?_, by rw [h2, aj6]⟩
   have e : (!(b == 0)) = true := by simp [z]
   simp only [Rs.bind, e, if_true]
   rw [av9 a b z]
   exact h1
noncomputable def axa : SF := (aaP (ada (adX (fuI 1) wc wb)) (abn (eCB (g1 adb) (aae (aag 0) aar))))
theorem aqJ (a b : Int) : fnP 2 axa [.int a, .int b] = .ok (.int (Int.gcd a b : Nat), false) := by
 obtain ⟨g, h1, h2⟩ := aku (b.natAbs + 1) a b (by omega)
 have h0 : aaF 2 [.int a, .int b] = [.sh (.int a), .sh (.int b)] := rfl
 have h3 : ada (adX (fuI 1) wc wb) [.sh (.int a), .sh (.int b)] = .ok (.nx, [.sh (.int g), .sh (.int 0)]) := by
  unfold ada adX
  rw [show fuI 1 [.sh (.int a), .sh (.int b)] = b.natAbs + 1 from rfl, h1]
  rfl
 rw [<-h2]
 unfold fnP axa aaP
 rw [h0, h3]
 rfl
theorem acE (a b : Int) : aaZ [.int a, .int b] = .ok (.int (Int.gcd a b : Nat), false) := aqJ a b
noncomputable def aoo : Tr -> Tr -> Bool
 | .int p, .int q => decide (1 <= q) && (Int.gcd p q == 1)
 | _, _ => false
noncomputable def alp : Tr -> Bool
 | .tup [a, b] => aoo a b
 | _ => false
theorem aqK (n : Nat) : ((n : Int) == 1) = (n == 1) := by
 rw [Bool.eq_iff_iff]; simp; omega
theorem abG (T : Tr) : abz [T] = .ok (.bl (alp T), false) := by
 unfold abz ae9 fnP
 cases T with
 | tup ts =>
  match ts with
  | [] => rfl
  | [_] => rfl
  | [a, b] =>
   cases a <;> cases b <;> try rfl
   rename_i p q
   simp -dsimp [abN, frz, dow, abw, con, acQ, eB, bOf, tru, dr, drs, cls, clV, adk, g1, g2, gI, gIC, gB, gEq, gNe, gIn, abB, abI, acB, acz, acy, ab3, gLt, gGt, gLe, gGe, gIx, abf, adb, abk, aa3, ac9, adB, acq, acP, okR, iOf, isS, others, ab5, abE, acf, acM, acV, aaz, aa4, aaD, aaK, aaG, aaI, aav, aaq, aaS, aa5, aa0, acL, atI, ixN, aaF, agI, isW, acE, alp, aoo, aqK]
   by_cases h : 1 <= q <;> simp [h]
  | a :: b :: c :: r =>
   have : ((r.length : Int) + 1 + 1 + 1 == 2) = false := by simp; omega
   simp -dsimp [abN, frz, dow, abw, con, acQ, eB, bOf, tru, dr, drs, cls, clV, adk, g1, g2, gI, gIC, gB, gEq, gNe, gIn, abB, abI, acB, acz, acy, ab3, gLt, gGt, gLe, gGe, gIx, abf, adb, abk, aa3, ac9, adB, acq, acP, okR, iOf, isS, others, ab5, abE, acf, acM, acV, aaz, aa4, aaD, aaK, aaG, aaI, aav, aaq, aaS, aa5, aa0, acL, atI, ixN, aaF, alp, this]
 | _ => rfl
noncomputable def aqL : Tr -> Tr -> Bool
 | .int p, .int q => decide (0 <= p) && decide (p <= q) && decide (1 <= q) && (Int.gcd p q == 1)
 | _, _ => false
noncomputable def akv : Tr -> Bool
 | .tup [a, b] => aqL a b
 | _ => false
theorem ajF (T : Tr) : ab4 [T] = .ok (.bl (akv T), false) := by
 unfold ab4 ahp fnP
 cases T with
 | tup ts =>
  match ts with
  | [] => simp -dsimp [abN, frz, dow, abw, con, acQ, eB, bOf, tru, dr, drs, cls, clV, adk, g1, g2, gI, gIC, gB, gEq, gNe, gIn, abB, abI, acB, acz, acy, ab3, gLt, gGt, gLe, gGe, gIx, abf, adb, abk, aa3, ac9, adB, acq, acP, okR, iOf, isS, others, ab5, abE, acf, acM, acV, aaz, aa4, aaD, aaK, aaG, aaI, aav, aaq, aaS, aa5, aa0, acL, atI, ixN, aaF, abG, alp, akv]
  | [_] => simp -dsimp [abN, frz, dow, abw, con, acQ, eB, bOf, tru, dr, drs, cls, clV, adk, g1, g2, gI, gIC, gB, gEq, gNe, gIn, abB, abI, acB, acz, acy, ab3, gLt, gGt, gLe, gGe, gIx, abf, adb, abk, aa3, ac9, adB, acq, acP, okR, iOf, isS, others, ab5, abE, acf, acM, acV, aaz, aa4, aaD, aaK, aaG, aaI, aav, aaq, aaS, aa5, aa0, acL, atI, ixN, aaF, abG, alp, akv]
  | [a, b] =>
   by_cases w : isW a = true /\ isW b = true
   case neg =>
    have w1 : aoo a b = false := by cases a <;> cases b <;> first | rfl | exact absurd ⟨rfl, rfl⟩ w
    have w2 : aqL a b = false := by cases a <;> cases b <;> first | rfl | exact absurd ⟨rfl, rfl⟩ w
    simp -dsimp [abN, frz, dow, abw, con, acQ, eB, bOf, tru, dr, drs, cls, clV, adk, g1, g2, gI, gIC, gB, gEq, gNe, gIn, abB, abI, acB, acz, acy, ab3, gLt, gGt, gLe, gGe, gIx, abf, adb, abk, aa3, ac9, adB, acq, acP, okR, iOf, isS, others, ab5, abE, acf, acM, acV, aaz, aa4, aaD, aaK, aaG, aaI, aav, aaq, aaS, aa5, aa0, acL, atI, ixN, aaF, abG, alp, akv, w1, w2]
   cases a <;> try cases w.1
   cases b <;> try cases w.2
   rename_i p q
   simp -dsimp [abN, frz, dow, abw, con, acQ, eB, bOf, tru, dr, drs, cls, clV, adk, g1, g2, gI, gIC, gB, gEq, gNe, gIn, abB, abI, acB, acz, acy, ab3, gLt, gGt, gLe, gGe, gIx, abf, adb, abk, aa3, ac9, adB, acq, acP, okR, iOf, isS, others, ab5, abE, acf, acM, acV, aaz, aa4, aaD, aaK, aaG, aaI, aav, aaq, aaS, aa5, aa0, acL, atI, ixN, aaF, abG, alp, akv, aoo, aqL]
   by_cases h : 1 <= q <;> by_cases h2 : p.gcd q = 1 <;> by_cases h3 : 0 <= p <;> simp [h, h2, h3]
  | a :: b :: c :: r => simp -dsimp [abN, frz, dow, abw, con, acQ, eB, bOf, tru, dr, drs, cls, clV, adk, g1, g2, gI, gIC, gB, gEq, gNe, gIn, abB, abI, acB, acz, acy, ab3, gLt, gGt, gLe, gGe, gIx, abf, adb, abk, aa3, ac9, adB, acq, acP, okR, iOf, isS, others, ab5, abE, acf, acM, acV, aaz, aa4, aaD, aaK, aaG, aaI, aav, aaq, aaS, aa5, aa0, acL, atI, ixN, aaF, abG, alp, akv]
 | _ => simp -dsimp [abN, frz, dow, abw, con, acQ, eB, bOf, tru, dr, drs, cls, clV, adk, g1, g2, gI, gIC, gB, gEq, gNe, gIn, abB, abI, acB, acz, acy, ab3, gLt, gGt, gLe, gGe, gIx, abf, adb, abk, aa3, ac9, adB, acq, acP, okR, iOf, isS, others, ab5, abE, acf, acM, acV, aaz, aa4, aaD, aaK, aaG, aaI, aav, aaq, aaS, aa5, aa0, acL, atI, ixN, aaF, abG, alp, akv]
end BH
end
section
namespace BH
open PySem L2
theorem comp_map {f : EF} {h : Tr -> Tr} {τ : En} : ∀ (us : List Tr) (s : Sl), (∀ u ∈ us, ∃ fr, f (.sh u :: τ) = .ok (.v (h u) fr, .sh u :: τ)) -> ∃ s', ad8 (gN 0) aeH f us (s :: τ) = .ok (us.map h, s' :: τ)
 | [], s, _ => ⟨s, rfl⟩
 | u :: us, s, q => by
  obtain ⟨fr, e⟩ := q u (by simp)
  obtain ⟨s', e'⟩ := comp_map us (.sh u) fun v hv => q v (by simp [hv])
  refine ⟨s', ?_⟩
  unfold ad8
  simp [e, clV, e']
theorem ajG {p : Tr -> Bool} : ∀ us : List Tr, ahI (us.map fun u => .bl (p u)) = some (us.map p)
 | [] => rfl
 | u :: us => by simp [ahI, ajG us]
theorem akx {F : FP} {p : Tr -> Bool} {us : List Tr} {ρ : En} {i : IF} {fe : EF} (hl : us.length <= 100000) (hi : i ρ = .ok (us, ρ)) (hf : ∀ u ∈ us, ∃ fr, fe [.sh u] = .ok (.v (.bl (p u)) fr, [.sh u])) : eCB (g1 acq) (aae (abF [none] i (gN 0) aeH fe) aar) ρ = .ok (.v (.bl (us.all p)) false, ρ) := by
 obtain ⟨s', e⟩ := comp_map (h := fun u => .bl (p u)) us .un hf
 simp -dsimp [abN, frz, dow, abw, con, acQ, eB, bOf, tru, dr, drs, cls, clV, adk, g1, g2, gI, gIC, gB, gEq, gNe, gIn, abB, abI, acB, acz, acy, ab3, gLt, gGt, gLe, gGe, gIx, abf, adb, abk, aa3, ac9, adB, acq, acP, okR, iOf, isS, others, ab5, abE, acf, acM, acV, aaz, aa4, aaD, aaK, aaG, aaI, aav, aaq, aaS, aa5, aa0, acL, atI, ixN, aaF, hi, hl, e, ajG]
theorem amA {p : Tr -> Bool} {us : List Tr} {ρ : En} {i : IF} {fe : EF} {j : Nat} {T : Tr} (hl : us.length <= 100000) (hi : i ρ = .ok (us, ρ)) (hj : ρ[j]? = some (.sh T)) (hf : ∀ u ∈ us, ∃ fr, fe [.sh u, .sh T] = .ok (.v (.bl (p u)) fr, [.sh u, .sh T])) : eCB (g1 acq) (aae (abF [none, some j] i (gN 0) aeH fe) aar) ρ = .ok (.v (.bl (us.all p)) false, ρ) := by
 obtain ⟨s', e⟩ := comp_map (h := fun u => .bl (p u)) us .un hf
 simp -dsimp [abN, frz, dow, abw, con, acQ, eB, bOf, tru, dr, drs, cls, clV, adk, g1, g2, gI, gIC, gB, gEq, gNe, gIn, abB, abI, acB, acz, acy, ab3, gLt, gGt, gLe, gGe, gIx, abf, adb, abk, aa3, ac9, adB, acq, acP, okR, iOf, isS, others, ab5, abE, acf, acM, acV, aaz, aa4, aaD, aaK, aaG, aaI, aav, aaq, aaS, aa5, aa0, acL, atI, ixN, aaF, hi, hl, hj, e, ajG]
noncomputable def afd (m : Int) : Tr -> Bool
 | .lst ts => decide (1 <= (ts.length : Int)) && decide ((ts.length : Int) <= m) && ts.all akv
 | _ => false
theorem ah6 (T : Tr) (m : Int) (hm : m <= 1000) : ab1 [T, .int m] = .ok (.bl (afd m T), false) := by
 unfold ab1 afK fnP
 cases T with
 | lst ts =>
  by_cases h1 : 1 <= (ts.length : Int)
  ·by_cases h2 : (ts.length : Int) <= m
   ·have e := akx (F := ab4) (p := akv) (us := ts) (ρ := [.sh (.lst ts), .sh (.int m)]) (i := fSq (aag 0)) (fe := aat ab4 (aae (aag 0) aar)) (by omega) rfl (fun u _ => ⟨false, by simp -dsimp [abN, frz, dow, abw, con, acQ, eB, bOf, tru, dr, drs, cls, clV, adk, g1, g2, gI, gIC, gB, gEq, gNe, gIn, abB, abI, acB, acz, acy, ab3, gLt, gGt, gLe, gGe, gIx, abf, adb, abk, aa3, ac9, adB, acq, acP, okR, iOf, isS, others, ab5, abE, acf, acM, acV, aaz, aa4, aaD, aaK, aaG, aaI, aav, aaq, aaS, aa5, aa0, acL, atI, ixN, aaF, ajF]⟩)
    generalize eCB (g1 acq) (aae (abF [none] (fSq (aag 0)) (gN 0) aeH (aat ab4 (aae (aag 0) aar))) aar) = G at e ⊢
    simp -dsimp [abN, frz, dow, abw, con, acQ, eB, bOf, tru, dr, drs, cls, clV, adk, g1, g2, gI, gIC, gB, gEq, gNe, gIn, abB, abI, acB, acz, acy, ab3, gLt, gGt, gLe, gGe, gIx, abf, adb, abk, aa3, ac9, adB, acq, acP, okR, iOf, isS, others, ab5, abE, acf, acM, acV, aaz, aa4, aaD, aaK, aaG, aaI, aav, aaq, aaS, aa5, aa0, acL, atI, ixN, aaF, h1, h2, e, afd]
   ·simp -dsimp [abN, frz, dow, abw, con, acQ, eB, bOf, tru, dr, drs, cls, clV, adk, g1, g2, gI, gIC, gB, gEq, gNe, gIn, abB, abI, acB, acz, acy, ab3, gLt, gGt, gLe, gGe, gIx, abf, adb, abk, aa3, ac9, adB, acq, acP, okR, iOf, isS, others, ab5, abE, acf, acM, acV, aaz, aa4, aaD, aaK, aaG, aaI, aav, aaq, aaS, aa5, aa0, acL, atI, ixN, aaF, h1, h2, afd]
  ·simp -dsimp [abN, frz, dow, abw, con, acQ, eB, bOf, tru, dr, drs, cls, clV, adk, g1, g2, gI, gIC, gB, gEq, gNe, gIn, abB, abI, acB, acz, acy, ab3, gLt, gGt, gLe, gGe, gIx, abf, adb, abk, aa3, ac9, adB, acq, acP, okR, iOf, isS, others, ab5, abE, acf, acM, acV, aaz, aa4, aaD, aaK, aaG, aaI, aav, aaq, aaS, aa5, aa0, acL, atI, ixN, aaF, h1, afd]
 | _ => simp -dsimp [abN, frz, dow, abw, con, acQ, eB, bOf, tru, dr, drs, cls, clV, adk, g1, g2, gI, gIC, gB, gEq, gNe, gIn, abB, abI, acB, acz, acy, ab3, gLt, gGt, gLe, gGe, gIx, abf, adb, abk, aa3, ac9, adB, acq, acP, okR, iOf, isS, others, ab5, abE, acf, acM, acV, aaz, aa4, aaD, aaK, aaG, aaI, aav, aaq, aaS, aa5, aa0, acL, atI, ixN, aaF, afd]
noncomputable def aky : Tr -> Int
 | .lst ts => ts.length
 | _ => -1
noncomputable def alq : Tr -> Bool
 | .lst rs => decide (1 <= (rs.length : Int)) && decide ((rs.length : Int) <= 4) && rs.all (afd 12) && rs.all fun r => aky r == aky (rs.headD .non)
 | _ => false
theorem aiR {m : Int} {T : Tr} (h : afd m T = true) : ∃ ts, T = .lst ts := by
 cases T <;> first | exact ⟨_, rfl⟩ | cases h
theorem ak2 (T : Tr) : aea [T] = .ok (.bl (alq T), false) := by
 unfold aea aiL fnP
 cases T with
 | lst ts =>
  by_cases h1 : 1 <= (ts.length : Int)
  ·by_cases h2 : (ts.length : Int) <= 4
   ·have e := akx (F := ab4) (p := afd 12) (us := ts) (ρ := [.sh (.lst ts)]) (i := fSq (aag 0)) (fe := (aat ab1 (aae (aag 0) (aae (eC (.int 12)) aar)))) (by omega) rfl (fun u _ => ⟨false, by simp -dsimp [abN, frz, dow, abw, con, acQ, eB, bOf, tru, dr, drs, cls, clV, adk, g1, g2, gI, gIC, gB, gEq, gNe, gIn, abB, abI, acB, acz, acy, ab3, gLt, gGt, gLe, gGe, gIx, abf, adb, abk, aa3, ac9, adB, acq, acP, okR, iOf, isS, others, ab5, abE, acf, acM, acV, aaz, aa4, aaD, aaK, aaG, aaI, aav, aaq, aaS, aa5, aa0, acL, atI, ixN, aaF, ah6]⟩)
    generalize eCB (g1 acq) (aae (abF [none] (fSq (aag 0)) (gN 0) aeH (aat ab1 (aae (aag 0) (aae (eC (.int 12)) aar)))) aar) = G at e ⊢
    cases h3 : ts.all (afd 12) with
    | false => rw [h3] at e; simp -dsimp [abN, frz, dow, abw, con, acQ, eB, bOf, tru, dr, drs, cls, clV, adk, g1, g2, gI, gIC, gB, gEq, gNe, gIn, abB, abI, acB, acz, acy, ab3, gLt, gGt, gLe, gGe, gIx, abf, adb, abk, aa3, ac9, adB, acq, acP, okR, iOf, isS, others, ab5, abE, acf, acM, acV, aaz, aa4, aaD, aaK, aaG, aaI, aav, aaq, aaS, aa5, aa0, acL, atI, ixN, aaF, h1, h2, e, alq, h3]
    | true =>
     have h4 := List.all_eq_true.mp h3
     obtain ⟨r0, rs, rfl⟩ : ∃ r0 rs, ts = r0 :: rs := by cases ts with
      | nil => simp at h1
      | cons a b => exact ⟨a, b, rfl⟩
     obtain ⟨l0, rfl⟩ := aiR (h4 r0 (by simp))
     have e2 := amA (p := fun r => aky r == (l0.length : Int)) (us := .lst l0 :: rs) (ρ := [.sh (.lst (.lst l0 :: rs))]) (j := 0) (T := .lst (.lst l0 :: rs)) (i := fSq (aag 0)) (fe := (eOp gEq (eCB (g1 abf) (aae (aag 0) aar)) (eCB (g1 abf) (aae (eOp gIx (aag 1) (eC (.int 0))) aar)))) (by omega) rfl rfl (fun u hu => ⟨false, by
      obtain ⟨l, rfl⟩ := aiR (h4 u hu)
      have : (0 : Int) < (rs.length : Int) + 1 := by omega
      simp -dsimp [abN, frz, dow, abw, con, acQ, eB, bOf, tru, dr, drs, cls, clV, adk, g1, g2, gI, gIC, gB, gEq, gNe, gIn, abB, abI, acB, acz, acy, ab3, gLt, gGt, gLe, gGe, gIx, abf, adb, abk, aa3, ac9, adB, acq, acP, okR, iOf, isS, others, ab5, abE, acf, acM, acV, aaz, aa4, aaD, aaK, aaG, aaI, aav, aaq, aaS, aa5, aa0, acL, atI, ixN, aaF, aky, this]⟩)
     generalize eCB (g1 acq) (aae (abF [none, some 0] (fSq (aag 0)) (gN 0) aeH (eOp gEq (eCB (g1 abf) (aae (aag 0) aar)) (eCB (g1 abf) (aae (eOp gIx (aag 1) (eC (.int 0))) aar)))) aar) = G2 at e2 ⊢
     rw [h3] at e
     have e3 : alq (.lst (.lst l0 :: rs)) = (Tr.lst l0 :: rs).all (fun r => aky r == (l0.length : Int)) := by
      show (decide (1 <= ((Tr.lst l0 :: rs).length : Int)) && decide (((Tr.lst l0 :: rs).length : Int) <= 4) && (Tr.lst l0 :: rs).all (afd 12) && (Tr.lst l0 :: rs).all fun r => aky r == aky (.lst l0)) = _
      rw [h3, decide_eq_true h1, decide_eq_true h2]
      rfl
     rw [e3]
     generalize (Tr.lst l0 :: rs).all (fun r => aky r == (l0.length : Int)) = bb at e2
     have h1' : (1 : Int) <= (rs.length : Int) + 1 := by omega
     have h2' : (rs.length : Int) + 1 <= 4 := by simp only [List.length_cons] at h2; omega
     simp -dsimp [abN, frz, dow, abw, con, acQ, eB, bOf, tru, dr, drs, cls, clV, adk, g1, g2, gI, gIC, gB, gEq, gNe, gIn, abB, abI, acB, acz, acy, ab3, gLt, gGt, gLe, gGe, gIx, abf, adb, abk, aa3, ac9, adB, acq, acP, okR, iOf, isS, others, ab5, abE, acf, acM, acV, aaz, aa4, aaD, aaK, aaG, aaI, aav, aaq, aaS, aa5, aa0, acL, atI, ixN, aaF, h1', h2', e, e2]
   ·simp -dsimp [abN, frz, dow, abw, con, acQ, eB, bOf, tru, dr, drs, cls, clV, adk, g1, g2, gI, gIC, gB, gEq, gNe, gIn, abB, abI, acB, acz, acy, ab3, gLt, gGt, gLe, gGe, gIx, abf, adb, abk, aa3, ac9, adB, acq, acP, okR, iOf, isS, others, ab5, abE, acf, acM, acV, aaz, aa4, aaD, aaK, aaG, aaI, aav, aaq, aaS, aa5, aa0, acL, atI, ixN, aaF, h1, h2, alq]
  ·simp -dsimp [abN, frz, dow, abw, con, acQ, eB, bOf, tru, dr, drs, cls, clV, adk, g1, g2, gI, gIC, gB, gEq, gNe, gIn, abB, abI, acB, acz, acy, ab3, gLt, gGt, gLe, gGe, gIx, abf, adb, abk, aa3, ac9, adB, acq, acP, okR, iOf, isS, others, ab5, abE, acf, acM, acV, aaz, aa4, aaD, aaK, aaG, aaI, aav, aaq, aaS, aa5, aa0, acL, atI, ixN, aaF, h1, alq]
 | _ => simp -dsimp [abN, frz, dow, abw, con, acQ, eB, bOf, tru, dr, drs, cls, clV, adk, g1, g2, gI, gIC, gB, gEq, gNe, gIn, abB, abI, acB, acz, acy, ab3, gLt, gGt, gLe, gGe, gIx, abf, adb, abk, aa3, ac9, adB, acq, acP, okR, iOf, isS, others, ab5, abE, acf, acM, acV, aaz, aa4, aaD, aaK, aaG, aaI, aav, aaq, aaS, aa5, aa0, acL, atI, ixN, aaF, alq]
end BH
end
section
set_option exponentiation.threshold 6000
namespace L2
open PySem
@[simp] theorem axb (fa : AF) (ρ : En) : eLR fa ρ = bd (fa ρ) (fun p => match p.1 with
 | [.v (.int n) _] => if 0 <= n /\ n <= 1000 then .ok (.v (.lst ((List.range n.toNat).map fun i : Nat => Tr.int i)) true, p.2) else .bad
 | _ => .bad) .mk := rfl
@[simp] theorem arf (F : FR) (fa : EF) (ρ : En) : aqp F fa ρ = bd (fa ρ) (fun p => match p.1 with
 | .v (.lst us) true => bd (F [.lst us]) (fun z => .ok (.v z.1.1 z.1.2, p.2)) .mk
 | _ => .bad) .mk := rfl
@[simp] theorem atw (kt : Tr -> Option (Int × Int)) (src : List (Option Nat)) (fa : AF) (fb : RF) (ρ : En) : akm kt src fa fb ρ = bd (fa ρ) (fun p => match p.1 with
 | [.v (.int n) _] => if 0 <= n /\ n < 64 then bd (abN (ajn kt fb (amc src p.2) (List.range n.toNat))) (fun ks => .ok (.v (.lst ((al9 n.toNat fun i => ks.getD i (0, 0)).map fun i : Nat => Tr.int i)) true, p.2)) .mk else .bad
 | _ => .bad) .mk := rfl
end L2
namespace BH
open PySem L2
noncomputable def fT (x : Int × Int) : Tr := .tup [.int x.1, .int x.2]
theorem lg2 {k : Int} {M : Nat} (h : k.natAbs < 2 ^ M) (hM : M <= 8000) : k.natAbs.log2 < 9000 := by
 by_cases z : k.natAbs = 0
 ·rw [z]; decide
 ·have := (Nat.log2_lt (n := k.natAbs) (k := M) z).mpr h
  omega
theorem apa {k : Int} {M : Nat} (h : k.natAbs < 2 ^ M) (hM : M <= 8000) : fit k = true := by
 have := lg2 h hM
 unfold fit
 rw [decide_eq_true_eq]
 omega
theorem ab8 {i j : Int} {M N : Nat} (h1 : i.natAbs < 2 ^ M) (hM : M <= 8000) (h2 : j.natAbs < 2 ^ N) (hN : N <= 8000) : aeE i j = true := by
 unfold aeE
 rw [apa h1 hM, apa h2 hN]
 rfl
theorem aeQ {i j : Int} {M : Nat} (h0 : j ≠ 0) (h : j.natAbs < 2 ^ M) (hM : M <= 8000) : alo i j = true := by
 unfold alo
 rw [Bool.and_eq_true, decide_eq_true_eq, decide_eq_true_eq]
 exact ⟨h0, lg2 h hM⟩
theorem aop {B q : Int} (hB : 1 <= B) (hq : 1 <= q) : let B' := (B * q).fdiv ((Int.gcd B q : Nat) : Int); 1 <= B' /\ B ∣ B' /\ q ∣ B' /\ B' <= B * q := by
 have g0 : 0 < Int.gcd B q := Int.gcd_pos_of_ne_zero_left _ (by omega)
 obtain ⟨b, hb⟩ := Int.gcd_dvd_left (a := B) (b := q)
 obtain ⟨o, ho⟩ := Int.gcd_dvd_right (a := B) (b := q)
 generalize hg : ((Int.gcd B q : Nat) : Int) = g at hb ho
 have g1 : 0 < g := by omega
 have b1 : 0 < b := by
  rcases Int.lt_or_le 0 b with z | z
  ·exact z
  ·have := Int.mul_nonpos_of_nonneg_of_nonpos (a := g) (b := b) (by omega) z; omega
 have o1 : 0 < o := by
  rcases Int.lt_or_le 0 o with z | z
  ·exact z
  ·have := Int.mul_nonpos_of_nonneg_of_nonpos (a := g) (b := o) (by omega) z; omega
 have e : (B * q).fdiv g = B * o := by
  rw [Int.fdiv_eq_ediv_of_nonneg _ (by omega)]
  have : B * q = g * (B * o) := by rw [ho]; ac_rfl
  rw [this]
  exact Int.mul_ediv_cancel_left _ (by omega)
 dsimp only
 rw [e]
 refine ⟨?_, ⟨o, rfl⟩, ⟨b, ?_⟩, ?_⟩
 ·have := Int.mul_pos (a := B) (b := o) (by omega) o1; omega
 ·conv => lhs; rw [hb]
  conv => rhs; rw [ho]
  ac_rfl
 ·refine Int.mul_le_mul_of_nonneg_left ?_ (by omega)
  rw [ho]
  have := Int.mul_le_mul_of_nonneg_right (a := 1) (b := g) (c := o) (by omega) (by omega)
  omega
noncomputable def cbB : SF := (ab9 (eOp acB (eOp abI (aag 1) (aag 3)) (aat aaZ (aae (aag 1) (aae (aag 3) aar)))) (gN 1))
theorem atx (s0 : Sl) (B p q : Int) {M N : Nat} (hB : 1 <= B) (hq : 1 <= q) (hB2 : B < 2 ^ M) (hM : M <= 8000) (hq2 : q < 2 ^ N) (hN : N <= 8000) : cbB [s0, .sh (.int B), .sh (.int p), .sh (.int q)] = .ok (.nx, [s0, .sh (.int ((B * q).fdiv ((Int.gcd B q : Nat) : Int))), .sh (.int p), .sh (.int q)]) := by
 have g0 : 0 < Int.gcd B q := Int.gcd_pos_of_ne_zero_left _ (by omega)
 have gl : Int.gcd B q <= q.natAbs := Nat.le_of_dvd (by omega) (Int.gcd_dvd_natAbs_right ..)
 have eM : ((2 ^ M : Nat) : Int) = 2 ^ M := by push_cast; rfl
 have eN : ((2 ^ N : Nat) : Int) = 2 ^ N := by push_cast; rfl
 have c1 : aeE B q = true := ab8 (M := M) (N := N) (by omega) hM (by omega) hN
 have c2 : ∀ i, alo i ((Int.gcd B q : Nat) : Int) = true := fun i => aeQ (M := N) (by omega) (by omega) hN
 unfold cbB
 simp -dsimp [abN, frz, dow, abw, con, acQ, eB, bOf, tru, dr, drs, cls, clV, adk, g1, g2, gI, gIC, gB, gEq, gNe, gIn, abB, abI, acB, acz, acy, ab3, gLt, gGt, gLe, gGe, gIx, abf, adb, abk, aa3, ac9, adB, acq, acP, okR, iOf, isS, others, ab5, abE, acf, acM, acV, aaz, aa4, aaD, aaK, aaG, aaI, aav, aaq, aaS, aa5, aa0, acL, atI, ixN, aaF, acE, c1, c2]
noncomputable def Fr (N : Nat) (l : List (Int × Int)) : Prop := ∀ x ∈ l, 1 <= x.2 /\ x.2 < 2 ^ N
theorem amB {N : Nat} (s0 : Sl) : ∀ (l : List (Int × Int)) (B : Int) (M : Nat) (s2 s3 : Sl), Fr N l -> 1 <= B -> B < 2 ^ M -> M + N * l.length <= 8000 -> N <= 8000 -> ∃ B' t2 t3, abW (gT 2 (aaJ (gN 2) (aaJ (gN 3) acr))) cbB (l.map fT) [s0, .sh (.int B), s2, s3] = .ok (.nx, [s0, .sh (.int B'), t2, t3]) /\ 1 <= B' /\ B' < 2 ^ (M + N * l.length) /\ B ∣ B' /\ ∀ x ∈ l, x.2 ∣ B'
 | [], B, M, s2, s3, _, h1, h2, _, _ => ⟨B, s2, s3, rfl, h1, by simpa using h2, Int.dvd_refl _, by simp⟩
 | x :: l, B, M, s2, s3, h, h1, h2, h3, h4 => by
  obtain ⟨a1, a2⟩ := h x (by simp)
  obtain ⟨b1, b2, b3, b4⟩ := aop h1 a1
  have e := atx s0 B x.1 x.2 h1 a1 h2 (by omega) a2 h4
  generalize (B * x.2).fdiv ((Int.gcd B x.2 : Nat) : Int) = B1 at b1 b2 b3 b4 e
  have lt : B1 < 2 ^ (M + N) := by
   have p1 : (0 : Int) < 2 ^ N := Int.pow_pos (by omega)
   have q1 : B * x.2 <= B * 2 ^ N := Int.mul_le_mul_of_nonneg_left (by omega) (by omega)
   have q2 : B * 2 ^ N < 2 ^ M * 2 ^ N := Int.mul_lt_mul_of_pos_right h2 p1
   rw [Int.pow_add]
   omega
  rw [List.length_cons] at h3
  have hm : M + N + N * l.length = M + N * (l.length + 1) := by rw [Nat.mul_succ]; omega
  obtain ⟨B', t2, t3, e', c1, c2, c3, c4⟩ := amB s0 l B1 (M + N) (.sh (.int x.1)) (.sh (.int x.2)) (fun y hy => h y (by simp [hy])) b1 lt (by omega) h4
  refine ⟨B', t2, t3, ?_, c1, by rw [List.length_cons, <-hm]; exact c2, Int.dvd_trans b2 c3, fun y hy => ?_⟩
  ·show abW _ cbB (fT x :: l.map fT) _ = _
   unfold abW
   rw [show (gT 2 (aaJ (gN 2) (aaJ (gN 3) acr))) (fT x) [s0, .sh (.int B), s2, s3] = .ok [s0, .sh (.int B), .sh (.int x.1), .sh (.int x.2)] from rfl]
   simp only [Rs.aaV]
   rw [e]
   exact e'
  ·rcases List.mem_cons.mp hy with rfl | hy
   ·exact Int.dvd_trans b3 c3
   ·exact c4 y hy
theorem afV {N : Nat} (l : List (Int × Int)) (h : Fr N l) (hl : 1 + N * l.length <= 8000) (hN : N <= 8000) : ∃ B, ab2 [.lst (l.map fT)] = .ok (.int B, false) /\ 1 <= B /\ B < 2 ^ (1 + N * l.length) /\ ∀ x ∈ l, x.2 ∣ B := by
 obtain ⟨B, t2, t3, e, h1, h2, _, h3⟩ := amB (.sh (.lst (l.map fT))) l 1 1 .un .un h (by omega) (by omega) hl hN
 refine ⟨B, ?_, h1, h2, h3⟩
 show fnP 4 (aaP (ab9 (eC (.int 1)) (gN 1)) (aaP (ada (aeF (fSq (aag 0)) (gT 2 (aaJ (gN 2) (aaJ (gN 3) acr))) cbB)) (abn (aag 1)))) [.lst (l.map fT)] = _
 have e1 : ada (aeF (fSq (aag 0)) (gT 2 (aaJ (gN 2) (aaJ (gN 3) acr))) cbB) [.sh (.lst (l.map fT)), .sh (.int 1), .un, .un] = .ok (.nx, [.sh (.lst (l.map fT)), .sh (.int B), t2, t3]) := by
  unfold ada aeF
  show abN (abW _ cbB (l.map fT) _) = _
  rw [e]
  rfl
 generalize ada _ = G at e1 ⊢
 generalize Tr.lst (l.map fT) = T at e1 ⊢
 unfold fnP
 simp -dsimp [abN, frz, dow, abw, con, acQ, eB, bOf, tru, dr, drs, cls, clV, adk, g1, g2, gI, gIC, gB, gEq, gNe, gIn, abB, abI, acB, acz, acy, ab3, gLt, gGt, gLe, gGe, gIx, abf, adb, abk, aa3, ac9, adB, acq, acP, okR, iOf, isS, others, ab5, abE, acf, acM, acV, aaz, aa4, aaD, aaK, aaG, aaI, aav, aaq, aaS, aa5, aa0, acL, atI, ixN, aaF, e1]
noncomputable def tpE : EF := (eOp abI (aag 0) (eOp acB (aag 2) (aag 1)))
theorem aiS {B : Int} {M N : Nat} (hB : 1 <= B) (hB2 : B < 2 ^ M) (hM : M <= 8000) (hN : N <= 8000) : ∀ (l : List (Int × Int)) (s0 s1 : Sl), Fr N l -> (∀ x ∈ l, x.1.natAbs < 2 ^ N) -> ∃ t0 t1, ad8 (gT 2 (aaJ (gN 0) (aaJ (gN 1) acr))) aeH tpE (l.map fT) [s0, s1, .sh (.int B)] = .ok (l.map fun x => .int (x.1 * (B / x.2)), [t0, t1, .sh (.int B)])
 | [], s0, s1, _, _ => ⟨s0, s1, rfl⟩
 | x :: l, s0, s1, h, h' => by
  obtain ⟨a1, a2⟩ := h x (by simp)
  have a3 := h' x (by simp)
  obtain ⟨t0, t1, e⟩ := aiS hB hB2 hM hN l (.sh (.int x.1)) (.sh (.int x.2)) (fun y hy => h y (by simp [hy])) (fun y hy => h' y (by simp [hy]))
  refine ⟨t0, t1, ?_⟩
  have eM : ((2 ^ M : Nat) : Int) = 2 ^ M := by push_cast; rfl
  have eN : ((2 ^ N : Nat) : Int) = 2 ^ N := by push_cast; rfl
  have d0 := Int.ediv_nonneg (a := B) (b := x.2) (by omega) (by omega)
  have d1 := Int.ediv_le_self (a := B) x.2 (by omega)
  have c1 : alo B x.2 = true := aeQ (M := N) (by omega) (by omega) hN
  have c2 : aeE x.1 (B / x.2) = true := ab8 (M := N) (N := M) a3 hN (by omega) hM
  have e1 : tpE [.sh (.int x.1), .sh (.int x.2), .sh (.int B)] = .ok (.v (.int (x.1 * (B / x.2))) false, [.sh (.int x.1), .sh (.int x.2), .sh (.int B)]) := by
   unfold tpE
   have fe : B.fdiv x.2 = B / x.2 := Int.fdiv_eq_ediv_of_nonneg _ (by omega)
   simp -dsimp [abN, frz, dow, abw, con, acQ, eB, bOf, tru, dr, drs, cls, clV, adk, g1, g2, gI, gIC, gB, gEq, gNe, gIn, abB, abI, acB, acz, acy, ab3, gLt, gGt, gLe, gGe, gIx, abf, adb, abk, aa3, ac9, adB, acq, acP, okR, iOf, isS, others, ab5, abE, acf, acM, acV, aaz, aa4, aaD, aaK, aaG, aaI, aav, aaq, aaS, aa5, aa0, acL, atI, ixN, aaF, c1, fe, c2]
  show ad8 _ aeH tpE (fT x :: l.map fT) _ = _
  unfold ad8
  rw [show (gT 2 (aaJ (gN 0) (aaJ (gN 1) acr))) (fT x) [s0, s1, .sh (.int B)] = .ok [.sh (.int x.1), .sh (.int x.2), .sh (.int B)] from rfl]
  simp only [Rs.aaV, aqH, if_true]
  rw [e1]
  simp only [Rs.aaV, clV]
  rw [e]
  rfl
noncomputable def Frs (N : Nat) (l : List (Int × Int)) : Prop := ∀ x ∈ l, 1 <= x.2 /\ x.2 < 2 ^ N /\ x.1.natAbs < 2 ^ N
theorem Frs.fr {N : Nat} {l : List (Int × Int)} (h : Frs N l) : Fr N l := fun x hx => ⟨(h x hx).1, (h x hx).2.1⟩
theorem aqM {N : Nat} (l : List (Int × Int)) (h : Frs N l) (hl : 1 + N * l.length <= 8000) (hN : N <= 8000) (hl2 : l.length <= 1000) : ∃ B, abK [.lst (l.map fT)] = .ok (.lst (l.map fun x => .int (x.1 * (B / x.2))), true) /\ 1 <= B /\ ∀ x ∈ l, x.2 ∣ B := by
 obtain ⟨B, e, h1, h2, h3⟩ := afV l h.fr hl hN
 obtain ⟨t0, t1, e2⟩ := aiS h1 h2 hl hN l .un .un h.fr fun x hx => (h x hx).2.2
 refine ⟨B, ?_, h1, h3⟩
 show fnP 2 (aaP (ab9 (aat ab2 (aae (aag 0) aar)) (gN 1)) (abn (abF [none, none, some 1] (fSq (aag 0)) (gT 2 (aaJ (gN 0) (aaJ (gN 1) acr))) aeH tpE))) [.lst (l.map fT)] = _
 unfold fnP
 simp -dsimp [abN, frz, dow, abw, con, acQ, eB, bOf, tru, dr, drs, cls, clV, adk, g1, g2, gI, gIC, gB, gEq, gNe, gIn, abB, abI, acB, acz, acy, ab3, gLt, gGt, gLe, gGe, gIx, abf, adb, abk, aa3, ac9, adB, acq, acP, okR, iOf, isS, others, ab5, abE, acf, acM, acV, aaz, aa4, aaD, aaK, aaG, aaI, aav, aaq, aaS, aa5, aa0, acL, atI, ixN, aaF, e, e2, show l.length <= 100000 by omega]
noncomputable def Bfr (l : List (Int × Int)) (i j : Nat) : Prop := (l.getD j (0, 1)).1 * (l.getD i (0, 1)).2 < (l.getD i (0, 1)).1 * (l.getD j (0, 1)).2 \/ ((l.getD j (0, 1)).1 * (l.getD i (0, 1)).2 = (l.getD i (0, 1)).1 * (l.getD j (0, 1)).2 /\ i < j)
noncomputable def Fall (l : List (Int × Int)) (ys : List Nat) : Prop := ys.Perm (List.range l.length) /\ ys.Pairwise (Bfr l)
theorem akz (ts : List Int) : ∀ (is : List Nat), (∀ i ∈ is, i < ts.length) -> ajn asT (rUn alR (rOp gIx (an8 1) (an8 0))) [some (.lst (ts.map Tr.int))] is = .ok (is.map fun i => (-(ts.getD i 0), 0))
 | [], _ => rfl
 | i :: is, h => by
  have hi := h i (by simp)
  have e : (rUn alR (rOp gIx (an8 1) (an8 0))) [some (Tr.int i), some (.lst (ts.map Tr.int))] = .ok (.int (-(ts.getD i 0))) := by
   unfold rUn rOp an8
   have a : atI (ts.map Tr.int) (i : Int) = some (.int (ts.getD i 0)) := by
    unfold atI ixN
    simp [hi]
   simp [gIx, a, alR]
  unfold ajn
  rw [e, akz ts is fun j hj => h j (by simp [hj])]
  rfl
theorem top_lt {B p q r s : Int} (hB : 1 <= B) (hq : 1 <= q) (hs : 1 <= s) (dq : q ∣ B) (ds : s ∣ B) : (p * (B / q) < r * (B / s) ↔ p * s < r * q) /\ (p * (B / q) = r * (B / s) ↔ p * s = r * q) := by
 obtain ⟨a, ha⟩ := dq
 obtain ⟨b, hb⟩ := ds
 have e1 : B / q = a := by rw [ha]; exact Int.mul_ediv_cancel_left _ (by omega)
 have e2 : B / s = b := by rw [hb]; exact Int.mul_ediv_cancel_left _ (by omega)
 rw [e1, e2]
 have x1 : (p * a) * (q * s) = (p * s) * B := by rw [ha]; ac_rfl
 have x2 : (r * b) * (q * s) = (r * q) * B := by rw [hb]; ac_rfl
 have qs : 0 < q * s := Int.mul_pos (by omega) (by omega)
 constructor
 ·constructor
  ·intro h
   have := Int.mul_lt_mul_of_pos_right h qs
   rw [x1, x2] at this
   exact Int.lt_of_mul_lt_mul_right this (by omega)
  ·intro h
   have := Int.mul_lt_mul_of_pos_right h (show 0 < B by omega)
   rw [<-x1, <-x2] at this
   exact Int.lt_of_mul_lt_mul_right this (by omega)
 ·constructor
  ·intro h
   rw [h, x2] at x1
   exact (Int.eq_of_mul_eq_mul_right (by omega) x1).symm
  ·intro h
   rw [h, <-x2] at x1
   exact Int.eq_of_mul_eq_mul_right (by omega) x1
theorem aht {N : Nat} (l : List (Int × Int)) (h : Frs N l) (hl : 1 + N * l.length <= 8000) (hN : N <= 8000) (h64 : l.length < 64) : ∃ ys, abl [.lst (l.map fT)] = .ok (.lst (ys.map fun i : Nat => Tr.int i), true) /\ Fall l ys := by
 obtain ⟨B, e, h1, h3⟩ := aqM l h hl hN (by omega)
 have ek := akz (l.map fun x => x.1 * (B / x.2)) (List.range l.length) fun i hi => by simpa using hi
 refine ⟨al9 l.length fun i => ((List.range l.length).map fun i => (-((l.map fun x => x.1 * (B / x.2)).getD i 0), (0 : Int))).getD i (0, 0), ?_, ?_⟩
 ·unfold abl adY fnP
  have z1 : (l.map fun x => Tr.int (x.1 * (B / x.2))) = (l.map fun x => x.1 * (B / x.2)).map Tr.int := by rw [List.map_map]; rfl
  rw [z1] at e
  generalize hts : (l.map fun x => x.1 * (B / x.2)) = ts at e ek ⊢
  have tl : ts.length = l.length := by rw [<-hts, List.length_map]
  generalize Tr.lst (l.map fT) = T at e ⊢
  have q1 : (l.length : Int) < 64 := by omega
  simp -dsimp [abN, frz, dow, abw, con, acQ, eB, bOf, tru, dr, drs, cls, clV, adk, g1, g2, gI, gIC, gB, gEq, gNe, gIn, abB, abI, acB, acz, acy, ab3, gLt, gGt, gLe, gGe, gIx, abf, adb, abk, aa3, ac9, adB, acq, acP, okR, iOf, isS, others, ab5, abE, acf, acM, acV, aaz, aa4, aaD, aaK, aaG, aaI, aav, aaq, aaS, aa5, aa0, acL, atI, ixN, aaF, e, tl, q1, amc, slT, ek]
 ·have hs := aiI l.length fun i => ((List.range l.length).map fun i => (-((l.map fun x => x.1 * (B / x.2)).getD i 0), (0 : Int))).getD i (0, 0)
  refine ⟨hs.1, ?_⟩
  refine hs.2.imp_of_mem fun {i j} hi hj hb => ?_
  have hi' : i < l.length := by simpa using hs.1.mem_iff.mp hi
  have hj' : j < l.length := by simpa using hs.1.mem_iff.mp hj
  have k : ∀ i, i < l.length -> ((List.range l.length).map fun i => (-((l.map fun x => x.1 * (B / x.2)).getD i 0), (0 : Int))).getD i (0, 0) = (-(l[i]!.1 * (B / l[i]!.2)), 0) := fun i hi => by
   rw [List.getD_eq_getElem?_getD, List.getElem?_map, List.getElem?_range hi]
   simp [hi]
  simp only [k i hi', k j hj'] at hb
  have g : ∀ i, i < l.length -> l.getD i (0, 1) = l[i]! /\ l[i]! ∈ l := fun i hi => by
   refine ⟨by simp [hi], by simp [hi]⟩
  obtain ⟨g1, m1⟩ := g i hi'
  obtain ⟨g2, m2⟩ := g j hj'
  unfold Bfr
  rw [g1, g2]
  have t := top_lt (p := l[j]!.1) (r := l[i]!.1) h1 (h _ m2).1 (h _ m1).1 (h3 _ m2) (h3 _ m1)
  rw [<-t.1, <-t.2]
  omega
theorem aiT {T : Tr} (h : alq T = true) : ac3 [T] = .ok (.non, false) := by
 unfold ac3 agA fnP
 simp -dsimp [abN, frz, dow, abw, con, acQ, eB, bOf, tru, dr, drs, cls, clV, adk, g1, g2, gI, gIC, gB, gEq, gNe, gIn, abB, abI, acB, acz, acy, ab3, gLt, gGt, gLe, gGe, gIx, abf, adb, abk, aa3, ac9, adB, acq, acP, okR, iOf, isS, others, ab5, abE, acf, acM, acV, aaz, aa4, aaD, aaK, aaG, aaI, aav, aaq, aaS, aa5, aa0, acL, atI, ixN, aaF, ak2, h]
theorem adw {xs : List Tr} {i : Nat} {T : Tr} (h : xs[i]? = some T) : gIx (.lst xs) (.int i) = .ok (T, false) := by
 obtain ⟨hi, e⟩ := List.getElem?_eq_some_iff.mp h
 show (match atI xs i with
  | some t => Rs.ok (t, false)
  | none => .bad) = _
 have : atI xs (i : Int) = some T := by
  unfold atI ixN
  simp [hi, e]
 rw [this]
end BH
namespace BH
open PySem L2
noncomputable def Wo (x : Int × Int) : Prop := 0 <= x.1 /\ x.1 <= x.2 /\ 1 <= x.2 /\ x.2 <= 1000000000000 /\ Int.gcd x.1 x.2 = 1
noncomputable instance (x : Int × Int) : Decidable (Wo x) := by unfold Wo; infer_instance
noncomputable def aaL (l : List (Int × Int)) : Tr := .lst (l.map fT)
noncomputable def bkT (ls : List (List (Int × Int))) : Tr := .lst (ls.map aaL)
noncomputable def Shp (c : Nat) (ls : List (List (Int × Int))) : Prop := ∀ l ∈ ls, l.length = c /\ ∀ x ∈ l, Wo x
noncomputable def Bk (c : Nat) (ls : List (List (Int × Int))) : Prop := 1 <= ls.length /\ ls.length <= 4 /\ 1 <= c /\ c <= 12 /\ Shp c ls
theorem Wo.akv {x : Int × Int} (h : Wo x) : akv (fT x) = true := by
 obtain ⟨h1, h2, h3, h4, h5⟩ := h
 show (decide (0 <= x.1) && decide (x.1 <= x.2) && decide (1 <= x.2) && (Int.gcd x.1 x.2 == 1)) = true
 simp [h1, h2, h3, h5]
theorem Wo.frs {l : List (Int × Int)} (h : ∀ x ∈ l, Wo x) : Frs 40 l := fun x hx => by
 obtain ⟨h1, h2, h3, h4, h5⟩ := h x hx
 exact ⟨h3, by omega, by omega⟩
theorem aty {l : List (Int × Int)} (h : ∀ x ∈ l, Wo x) (h1 : 1 <= l.length) (h2 : l.length <= 12) : afd 12 (aaL l) = true := by
 show (decide (1 <= ((l.map fT).length : Int)) && decide (((l.map fT).length : Int) <= 12) && (l.map fT).all akv) = true
 rw [List.length_map, decide_eq_true (by omega), decide_eq_true (by omega)]
 simp only [Bool.true_and, List.all_eq_true]
 intro t ht
 obtain ⟨x, hx, rfl⟩ := List.mem_map.mp ht
 exact (h x hx).akv
theorem Bk.alq {c : Nat} {ls : List (List (Int × Int))} (h : Bk c ls) : alq (bkT ls) = true := by
 obtain ⟨h1, h2, h3, h4, h5⟩ := h
 show (decide (1 <= ((ls.map aaL).length : Int)) && decide (((ls.map aaL).length : Int) <= 4) && (ls.map aaL).all (afd 12) && (ls.map aaL).all fun r => aky r == aky ((ls.map aaL).headD .non)) = true
 rw [List.length_map, decide_eq_true (by omega), decide_eq_true (by omega)]
 simp only [Bool.true_and, Bool.and_eq_true, List.all_eq_true]
 refine ⟨fun t ht => ?_, fun t ht => ?_⟩
 ·obtain ⟨l, hl, rfl⟩ := List.mem_map.mp ht
  exact aty (h5 l hl).2 (by have := (h5 l hl).1; omega) (by have := (h5 l hl).1; omega)
 ·obtain ⟨l, hl, rfl⟩ := List.mem_map.mp ht
  cases ls with
  | nil => simp at hl
  | cons l0 r =>
   show (aky (aaL l) == aky (aaL l0)) = true
   show (((l.map fT).length : Int) == ((l0.map fT).length : Int)) = true
   rw [List.length_map, List.length_map, (h5 l hl).1, (h5 l0 (by simp)).1]
   simp
end BH
end
section
set_option exponentiation.threshold 6000
namespace L2
open PySem
@[simp] theorem awa (fa : EF) (ρ : En) : axw fa ρ = bd (fa ρ) (fun p => bd (dr p.2 p.1) (fun a => bd (awU a) (fun z => .ok (.v z.1 z.2, p.2)) .mk) .mk) .mk := rfl
end L2
namespace BH
open PySem L2
theorem atz {α : Type} (xs : List α) (k : Nat) : L2.cut xs none (some (k : Int)) = xs.take k := by
 unfold L2.cut HT.sIx
 by_cases h : (k : Int) < 0
 ·omega
 ·simp only [h, if_false, Int.toNat_natCast, Nat.sub_zero, List.drop_zero]
  by_cases z : k <= xs.length
  ·rw [Nat.min_eq_left z]
  ·rw [Nat.min_eq_right (by omega), List.take_of_length_le (by omega), List.take_of_length_le (by omega)]
noncomputable def nT (ys : List Nat) : Tr := .lst (ys.map fun i : Nat => Tr.int i)
theorem ajH {n : Nat} : ∀ {ts : List Tr}, (∀ t ∈ ts, dep t <= n) -> deps ts <= n
 | [], _ => by rw [aav]; omega
 | t :: ts, h => by
  rw [aaq]
  have h1 := h t (by simp)
  have h2 := ajH (ts := ts) fun u hu => h u (by simp [hu])
  omega
theorem amC (x : Int × Int) : dep (fT x) = 1 := by unfold fT; rw [aaG, aaq, aaq, aaz, aaz, aav]; rfl
theorem amD (l : List (Int × Int)) : dep (aaL l) <= 2 := by
 unfold aaL
 rw [aaI]
 have := ajH (n := 1) (ts := l.map fT) fun t ht => by
  obtain ⟨x, _, rfl⟩ := List.mem_map.mp ht
  rw [amC]; omega
 omega
theorem atA (ls : List (List (Int × Int))) : dep (bkT ls) <= 3 := by
 unfold bkT
 rw [aaI]
 have := ajH (n := 2) (ts := ls.map aaL) fun t ht => by
  obtain ⟨x, _, rfl⟩ := List.mem_map.mp ht
  exact amD x
 omega
theorem agd {T : Tr} (h : dep T <= 40) : gNe T T = .ok (.bl false, false) := by
 unfold gNe
 rw [if_pos h, af4]
 rfl
theorem aoq {T : Tr} (h : dep T <= 40) : gEq T T = .ok (.bl true, false) := by
 unfold gEq
 rw [if_pos h, af4]
end BH
end
section
set_option exponentiation.threshold 6000
namespace BH
open PySem L2
theorem amE {l : List (Int × Int)} {i : Nat} (h : i < l.length) : gIx (aaL l) (.int i) = .ok (fT (l.getD i (0, 1)), false) := adw (by simp [h])
theorem amF {α : Type} {r h : α -> Tr} {f : EF} {τ : En} : ∀ (xs : List α) (s : Sl), (∀ x ∈ xs, ∃ fr, f (.sh (r x) :: τ) = .ok (.v (h x) fr, .sh (r x) :: τ)) -> ∃ s', ad8 (gN 0) aeH f (xs.map r) (s :: τ) = .ok (xs.map h, s' :: τ)
 | [], s, _ => ⟨s, rfl⟩
 | x :: xs, s, q => by
  obtain ⟨fr, e⟩ := q x (by simp)
  obtain ⟨s', e'⟩ := amF xs (.sh (r x)) fun v hv => q v (by simp [hv])
  refine ⟨s', ?_⟩
  rw [List.map_cons]
  unfold ad8
  simp [e, clV, e']
theorem afB {α : Type} {r : α -> Tr} {c : BF} {p : α -> Bool} {τ : En} : ∀ (xs : List α) (s : Sl), (∀ x ∈ xs, c (.sh (r x) :: τ) = .ok (p x, .sh (r x) :: τ)) -> ∃ s', ad8 (gN 0) c (aag 0) (xs.map r) (s :: τ) = .ok ((xs.filter p).map r, s' :: τ)
 | [], s, _ => ⟨s, rfl⟩
 | x :: xs, s, q => by
  have e := q x (by simp)
  obtain ⟨s', e'⟩ := afB xs (.sh (r x)) fun v hv => q v (by simp [hv])
  refine ⟨s', ?_⟩
  rw [List.map_cons]
  unfold ad8
  cases h : p x with
  | false => rw [h] at e; simp [e, e', h]
  | true => rw [h] at e; simp [e, e', h, clV]
theorem apb {α : Type} {p : α -> Bool} : ∀ xs : List α, ahI (xs.map fun x => .bl (p x)) = some (xs.map p)
 | [] => rfl
 | x :: xs => by simp [ahI, apb xs]
theorem aqN {α : Type} {r h : α -> Tr} {xs : List α} {ρ τ : En} {rest : List (Option Nat)} {i : IF} {fe : EF} (hl : xs.length <= 100000) (hi : i ρ = .ok (xs.map r, ρ)) (hτ : ab5 rest ρ = τ) (hs : ∀ s', acf (none :: rest) (s' :: τ) ρ = true) (hd : ∀ s', abE (none :: rest) (s' :: τ) ρ = ρ)
  (hf : ∀ x ∈ xs, ∃ fr, fe (.sh (r x) :: τ) = .ok (.v (h x) fr, .sh (r x) :: τ)) : abF (none :: rest) i (gN 0) aeH fe ρ = .ok (.v (.lst (xs.map h)) true, ρ) := by
 obtain ⟨s', e⟩ := amF xs .un hf
 have hu : ab5 (none :: rest) ρ = .un :: τ := by rw [<-hτ]; rfl
 have hl' : (xs.map r).length <= 100000 := by rw [List.length_map]; exact hl
 rw [akt, hi]
 simp only [ajE]
 rw [if_pos hl', hu, e]
 simp only [abN, ajE]
 rw [if_pos (hs s'), hd s']
theorem atB {α : Type} {r : α -> Tr} {p : α -> Bool} {xs : List α} {ρ τ : En} {rest : List (Option Nat)} {i : IF} {c : BF} (hl : xs.length <= 100000) (hi : i ρ = .ok (xs.map r, ρ)) (hτ : ab5 rest ρ = τ) (hs : ∀ s', acf (none :: rest) (s' :: τ) ρ = true) (hd : ∀ s', abE (none :: rest) (s' :: τ) ρ = ρ)
  (hf : ∀ x ∈ xs, c (.sh (r x) :: τ) = .ok (p x, .sh (r x) :: τ)) : abF (none :: rest) i (gN 0) c (aag 0) ρ = .ok (.v (.lst ((xs.filter p).map r)) true, ρ) := by
 obtain ⟨s', e⟩ := afB xs .un hf
 have hu : ab5 (none :: rest) ρ = .un :: τ := by rw [<-hτ]; rfl
 have hl' : (xs.map r).length <= 100000 := by rw [List.length_map]; exact hl
 rw [akt, hi]
 simp only [ajE]
 rw [if_pos hl', hu, e]
 simp only [abN, ajE]
 rw [if_pos (hs s'), hd s']
noncomputable def lt2 (x y : Int × Int) : Bool := decide (x.1 * y.2 < y.1 * x.2)
noncomputable def at2 (l : List (Int × Int)) (i : Nat) : Int × Int := l.getD i (0, 1)
theorem aor (i j : Int) : abB (.int i) (.int j) = .ok (.int (i + j), false) := rfl
theorem ak3 (n k : Int) (h : 0 < k) : 0 <= n.fmod k /\ n.fmod k < k := ⟨Int.fmod_nonneg_of_pos n h, Int.fmod_lt_of_pos n h⟩
theorem atD {i : Int} (h : -1000000000000000000 < i /\ i < 1000000000000000000) : tiny i = true := by
 unfold tiny
 rw [Bool.and_eq_true]
 exact ⟨decide_eq_true (by omega), decide_eq_true (by omega)⟩
theorem aos {i j : Int} (h : -1000000000000000000 < i /\ i < 1000000000000000000) : aeE i j = true := by unfold aeE; rw [atD h]; simp
theorem awb {i j : Int} (h : -1000000000000000000 < j /\ j < 1000000000000000000) : aeE i j = true := by unfold aeE; rw [atD h]; simp
theorem akA : ∀ (n m : Nat), L2.upTo (m : Int) n = (List.range' m n).map fun i : Nat => Tr.int i
 | 0, _ => rfl
 | n + 1, m => by
  unfold L2.upTo
  rw [show ((m : Int) + 1) = ((m + 1 : Nat) : Int) by omega, akA n (m + 1), List.range'_succ]
  rfl
theorem aes (n : Nat) : L2.upTo 0 n = (List.range n).map fun i : Nat => Tr.int i := by
 rw [List.range_eq_range']
 exact akA n 0
end BH
end
section
set_option exponentiation.threshold 6000
namespace K15
open PySem L2 BH
theorem acv (a b k : Int) (h : 0 < k) (hk : k.natAbs < 2 ^ 60) : ∃ x a' b', abj [.lst [.int a, .int b], .int k] = .ok ((.int x, false), [.int a', .int b']) /\ 0 <= x /\ x < k := by
 have h0 : k ≠ 0 := by omega
 have h1 : ∀ n, alo n k = true := fun n => aeQ (M := 60) h0 hk (by omega)
 by_cases z : a = 0
 ·subst z
  refine ⟨b.fmod k, 0, b.fdiv k, ?_, ak3 b k h⟩
  unfold abj ams fnR
  simp -dsimp [abN, frz, dow, abw, con, acQ, eB, bOf, tru, dr, drs, cls, clV, adk, g1, g2, gI, gIC, gB, gEq, gNe, gIn, abB, abI, acB, acz, acy, ab3, gLt, gGt, gLe, gGe, gIx, abf, adb, abk, aa3, ac9, adB, acq, acP, okR, iOf, isS, others, ab5, abE, acf, acM, acV, aaz, aa4, aaD, aaK, aaG, aaI, aav, aaq, aaS, aa5, aa0, acL, atI, ixN, aaF, ajg, h0, h1, adH, ai4]
 ·refine ⟨a.fmod k, a.fdiv k, b, ?_, ak3 a k h⟩
  have z1 : (a == 0) = false := by simp [z]
  unfold abj ams fnR
  simp -dsimp [abN, frz, dow, abw, con, acQ, eB, bOf, tru, dr, drs, cls, clV, adk, g1, g2, gI, gIC, gB, gEq, gNe, gIn, abB, abI, acB, acz, acy, ab3, gLt, gGt, gLe, gGe, gIx, abf, adb, abk, aa3, ac9, adB, acq, acP, okR, iOf, isS, others, ab5, abE, acf, acM, acV, aaz, aa4, aaD, aaK, aaG, aaI, aav, aaq, aaS, aa5, aa0, acL, atI, ixN, aaF, ajg, z1, h0, h1, adH, ai4]
noncomputable def frC : BF := aa8 (eOp gGt (aag 3) (eC (.int 0)))
noncomputable def frW : SF := aoU 2 3 (aae (aag 3) (aae (eOp acz (aag 2) (aag 3)) aar))
theorem atF (s0 s1 s2 : Sl) (b : Int) : frC [s0, s1, s2, .sh (.int b)] = .ok (decide (0 < b), [s0, s1, s2, .sh (.int b)]) := by
 unfold frC
 simp -dsimp [abN, frz, dow, abw, con, acQ, eB, bOf, tru, dr, drs, cls, clV, adk, g1, g2, gI, gIC, gB, gEq, gNe, gIn, abB, abI, acB, acz, acy, ab3, gLt, gGt, gLe, gGe, gIx, abf, adb, abk, aa3, ac9, adB, acq, acP, okR, iOf, isS, others, ab5, abE, acf, acM, acV, aaz, aa4, aaD, aaK, aaG, aaI, aav, aaq, aaS, aa5, aa0, acL, atI, ixN, aaF]
theorem atG (s0 s1 : Sl) (a b : Int) (h : b ≠ 0) : frW [s0, s1, .sh (.int a), .sh (.int b)] = .ok (.nx, [s0, s1, .sh (.int b), .sh (.int (a.fmod b))]) := by
 unfold frW
 simp -dsimp [abN, frz, dow, abw, con, acQ, eB, bOf, tru, dr, drs, cls, clV, adk, g1, g2, gI, gIC, gB, gEq, gNe, gIn, abB, abI, acB, acz, acy, ab3, gLt, gGt, gLe, gGe, gIx, abf, adb, abk, aa3, ac9, adB, acq, acP, okR, iOf, isS, others, ab5, abE, acf, acM, acV, aaz, aa4, aaD, aaK, aaG, aaI, aav, aaq, aaS, aa5, aa0, acL, atI, ixN, aaF, h]
theorem ajI (s0 s1 : Sl) : ∀ (n : Nat) (a b : Int), 0 <= a -> 0 <= b -> b.natAbs < n -> ae3 frC frW n [s0, s1, .sh (.int a), .sh (.int b)] = .ok (.nx, [s0, s1, .sh (.int ((Int.gcd a b : Nat) : Int)), .sh (.int 0)])
 | 0, a, b, _, _, h => by omega
 | n + 1, a, b, ha, hb, h => by
  unfold ae3
  rw [atF]
  by_cases z : b = 0
  ·subst z
   have : ((Int.gcd a 0 : Nat) : Int) = a := by rw [Int.gcd_zero_right]; omega
   rw [this]
   rfl
  ·have r := ak3 a b (by omega)
   have e := ajI s0 s1 n b (a.fmod b) hb r.1 (by omega)
   have q : 0 < b := by omega
   simp only [Rs.aaV, q, decide_true, if_true]
   rw [atG s0 s1 a b z]
   simp only [Rs.aaV]
   rw [e, aj6]
theorem ajJ (x b : Int) (hx : 0 <= x) (hb : 1 <= b) (h1 : x <= b) (h2 : b <= 1000000000000) : ∃ y, acu [.int x, .int b] = .ok (fT y, false) /\ Wo y := by
 obtain ⟨g1, g2, g3, g4, g5, g6, g7⟩ := ad4 (a := x) (b := b) (by omega)
 have e1 : x.fdiv (Int.gcd x b : Nat) = x / (Int.gcd x b : Nat) := Int.fdiv_eq_ediv_of_nonneg _ (by omega)
 have e2 : b.fdiv (Int.gcd x b : Nat) = b / (Int.gcd x b : Nat) := Int.fdiv_eq_ediv_of_nonneg _ (by omega)
 refine ⟨(x.fdiv (Int.gcd x b : Nat), b.fdiv (Int.gcd x b : Nat)), ?_, ?_⟩
 ·have hw := ajI (.sh (.int x)) (.sh (.int b)) (b.natAbs + 1) x b hx (by omega) (by omega)
  show fnP 4 (aaP (ab9 (aag 0) (gN 2)) (aaP (ab9 (aag 1) (gN 3)) (aaP (ada (adX (fuI 3) frC frW)) (abn (ahH (aae (eOp acB (aag 0) (aag 2)) (aae (eOp acB (aag 1) (aag 2)) aar))))))) [.int x, .int b] = _
  generalize hg : ((Int.gcd x b : Nat) : Int) = g at g1 g2 hw
  have h3 : ada (adX (fuI 3) frC frW) [.sh (.int x), .sh (.int b), .sh (.int x), .sh (.int b)] = .ok (.nx, [.sh (.int x), .sh (.int b), .sh (.int g), .sh (.int 0)]) := by
   unfold ada adX
   rw [show fuI 3 [.sh (.int x), .sh (.int b), .sh (.int x), .sh (.int b)] = b.natAbs + 1 from rfl, hw]
   rfl
  generalize ada _ = G at h3 ⊢
  have c1 : alo x g = true := aeQ (M := 60) (by omega) (by omega) (by omega)
  have c2 : alo b g = true := aeQ (M := 60) (by omega) (by omega) (by omega)
  unfold fnP fT
  simp -dsimp [abN, frz, dow, abw, con, acQ, eB, bOf, tru, dr, drs, cls, clV, adk, g1, g2, gI, gIC, gB, gEq, gNe, gIn, abB, abI, acB, acz, acy, ab3, gLt, gGt, gLe, gGe, gIx, abf, adb, abk, aa3, ac9, adB, acq, acP, okR, iOf, isS, others, ab5, abE, acf, acM, acV, aaz, aa4, aaD, aaK, aaG, aaI, aav, aaq, aaS, aa5, aa0, acL, atI, ixN, aaF, h3, c1, c2]
 ·rw [e1, e2]
  refine ⟨g5 hx, Int.ediv_le_ediv g1 h1, g3, ?_, g4⟩
  have := Int.ediv_le_self (a := b) ((Int.gcd x b : Nat) : Int) (by omega)
  show b / ((Int.gcd x b : Nat) : Int) <= 1000000000000
  omega
noncomputable def w5 : SF := (aaP (ab9 (eOp abB (eC (.int 1)) (abb 0 abj (aae (aag 0) (aae (eOp ab3 (eOp acy (eC (.int 10)) (eC (.int 12))) (eC (.int 1))) aar)))) (gN 3)) (abn (aat acu (aae (abb 0 abj (aae (aag 0) (aae (eOp abB (aag 3) (eC (.int 1))) aar))) (aae (aag 3) aar)))))
noncomputable def w7 : SF := (aaP (sIf (aa8 (eOp gEq (aag 2) (eC (.int 6)))) (abn (ahH (aae (aag 4) (aae (aag 3) aar)))) acC) (abn (aat acu (aae (eCB (g2 ac9) (aae (eOp abB (aag 4) (eC (.int 1))) (aae (aag 3) aar))) (aae (aag 3) aar)))))
noncomputable def w6 : SF := (aaP (ab9 (eOp gIx (eOp abB (aag 1) (eCL [.tup [.int 1, .int 2]])) (abb 0 abj (aae (aag 0) (aae (eOp abB (eCB (g1 abf) (aae (aag 1) aar)) (eC (.int 1))) aar)))) (gT 2 (aaJ (gN 4) (aaJ (gN 3) acr)))) w7)
noncomputable def w2 : SF := (abn (aat acu (aae (abb 0 abj (aae (aag 0) (aae (eC (.int 5)) aar))) (aae (eC (.int 4)) aar))))
theorem amG : amt = (aaP (ab9 (abb 0 abj (aae (aag 0) (aae (eC (.int 8)) aar))) (gN 2)) (aaP (sIf (aa8 (eOp gLt (aag 2) (eC (.int 2)))) (abn (ahH (aae (aag 2) (aae (eC (.int 1)) aar)))) acC) (aaP (sIf (aa8 (eOp gLt (aag 2) (eC (.int 5)))) w2 acC) (aaP (sIf (aa8 (eOp gEq (aag 2) (eC (.int 5)))) w5 acC) w6)))) := rfl
theorem awc (a b : Int) (s1 s2 s3 s4 : Sl) : ∃ y a' b' ρ, w2 [.rf [.int a, .int b], s1, s2, s3, s4] = .ok (.rt (fT y) false, .rf [.int a', .int b'] :: ρ) /\ Wo y := by
 obtain ⟨x, a', b', e, x0, x1⟩ := acv a b 5 (by omega) (by decide)
 obtain ⟨y, e2, hy⟩ := ajJ x 4 x0 (by omega) (by omega) (by omega)
 refine ⟨y, a', b', [s1, s2, s3, s4], ?_, hy⟩
 unfold w2
 generalize fT y = T at e2 ⊢
 simp -dsimp [con, drs, dr, isS, others, abw, e, e2]
theorem awd (a b : Int) (s1 s2 s3 s4 : Sl) : ∃ y a' b' ρ, w5 [.rf [.int a, .int b], s1, s2, s3, s4] = .ok (.rt (fT y) false, .rf [.int a', .int b'] :: ρ) /\ Wo y := by
 obtain ⟨x, a1, b1, e, x0, x1⟩ := acv a b 999999999999 (by omega) (by decide)
 obtain ⟨z, a', b', e1, z0, z1⟩ := acv a1 b1 (1 + x + 1) (by omega) (by omega)
 obtain ⟨y, e2, hy⟩ := ajJ z (1 + x) z0 (by omega) (by omega) (by omega)
 refine ⟨y, a', b', [s1, s2, .sh (.int (1 + x)), s4], ?_, hy⟩
 unfold w5
 generalize fT y = T at e2 ⊢
 simp -dsimp [con, drs, dr, isS, others, abw, acy, gIC, arX, tiny, ab3, gI, abB, e, e1, e2]
theorem awe (s0 s1 : Sl) (k : Int) {x : Int × Int} (hx : Wo x) : ∃ y ρ, w7 [s0, s1, .sh (.int k), .sh (.int x.2), .sh (.int x.1)] = .ok (.rt (fT y) false, s0 :: ρ) /\ Wo y := by
 by_cases h6 : k = 6
 ·subst h6
  refine ⟨x, [s1, .sh (.int 6), .sh (.int x.2), .sh (.int x.1)], ?_, hx⟩
  unfold w7 fT
  simp -dsimp [abN, frz, dow, abw, con, acQ, eB, bOf, tru, dr, drs, cls, clV, adk, g1, g2, gI, gIC, gB, gEq, gNe, gIn, abB, abI, acB, acz, acy, ab3, gLt, gGt, gLe, gGe, gIx, abf, adb, abk, aa3, ac9, adB, acq, acP, okR, iOf, isS, others, ab5, abE, acf, acM, acV, aaz, aa4, aaD, aaK, aaG, aaI, aav, aaq, aaS, aa5, aa0, acL, atI, ixN, aaF]
 ·obtain ⟨h1, h2, h3, h4, h5⟩ := id hx
  obtain ⟨y, e2, hy⟩ := ajJ (if x.2 < x.1 + 1 then x.2 else x.1 + 1) x.2 (by split <;> omega) h3 (by split <;> omega) h4
  refine ⟨y, [s1, .sh (.int k), .sh (.int x.2), .sh (.int x.1)], ?_, hy⟩
  have q : (k == 6) = false := by simp [h6]
  generalize hz : (if x.2 < x.1 + 1 then x.2 else x.1 + 1) = z at e2
  unfold w7
  generalize fT y = T at e2 ⊢
  simp -dsimp only [aqE, atn, aom, atp, aqG, avW, amy, aqF, amz, aon, aqI, atq, ajE, List.getElem?_cons_succ, List.getElem?_cons_zero, dr, drs, gEq, aaz, aaS, q, bOf, abB, gI, g2, ac9, hz, e2, isS, List.any_cons, List.any_nil, Rs.aaV, Nat.zero_le, if_true, Bool.false_eq_true, if_false, Bool.or_false, false_and]
theorem awf (a b k : Int) (s3 s4 : Sl) {bs : List (Int × Int)} (hw : ∀ x ∈ bs, Wo x) (hl : bs.length <= 100) : ∃ y a' b' ρ, w6 [.rf [.int a, .int b], .sh (aaL bs), .sh (.int k), s3, s4] = .ok (.rt (fT y) false, .rf [.int a', .int b'] :: ρ) /\ Wo y := by
 obtain ⟨x, a', b', e, x0, x1⟩ := acv a b ((bs.length : Int) + 1) (by omega) (by omega)
 obtain ⟨i, rfl⟩ : ∃ i : Nat, (i : Int) = x := ⟨x.toNat, by omega⟩
 have hi : i < (bs ++ [(1, 2)]).length := by simp; omega
 have hm : (bs ++ [(1, 2)])[i] ∈ bs ++ [(1, 2)] := List.getElem_mem hi
 have ei : gIx (aaL (bs ++ [(1, 2)])) (.int i) = .ok (fT (bs ++ [(1, 2)])[i], false) := adw (by rw [List.getElem?_map, List.getElem?_eq_getElem hi]; rfl)
 have ea : abB (aaL bs) (.lst [.tup [.int 1, .int 2]]) = .ok (aaL (bs ++ [(1, 2)]), true) := by
  show (if (bs.map fT).length + [Tr.tup [.int 1, .int 2]].length <= 100000 then Rs.ok (Tr.lst (bs.map fT ++ [Tr.tup [.int 1, .int 2]]), true) else .bad) = _
  rw [if_pos (by simp; omega)]
  unfold aaL
  rw [List.map_append]
  rfl
 have el : abf (aaL bs) = .ok (.int (bs.length : Int), false) := by
  show Rs.ok (Tr.int ((bs.map fT).length : Int), false) = _
  rw [List.length_map]
 have hx : Wo (bs ++ [(1, 2)])[i] := by
  rcases List.mem_append.mp hm with z | z
  ·exact hw _ z
  ·rw [List.mem_singleton.mp z]
   decide
 generalize (bs ++ [(1, 2)])[i] = x at ei hx
 obtain ⟨y, ρ, e7, hy⟩ := awe (.rf [.int a', .int b']) (.sh (aaL bs)) k hx
 refine ⟨y, a', b', ρ, ?_, hy⟩
 unfold w6
 generalize w7 = G at e7 ⊢
 generalize aaL (bs ++ [(1, 2)]) = T2 at ea ei
 generalize aaL bs = T at ea el e7 ⊢
 generalize (bs.length : Int) = N at e el
 generalize fT y = Y at e7 ⊢
 unfold fT at ei
 simp -dsimp [con, drs, dr, isS, others, abw, ea, el, g1, aor, e, ei, e7]
theorem aot (a b : Int) {bs : List (Int × Int)} (hw : ∀ x ∈ bs, Wo x) (hl : bs.length <= 100) : ∃ y a' b', aeP [.lst [.int a, .int b], aaL bs] = .ok ((fT y, false), [.int a', .int b']) /\ Wo y := by
 obtain ⟨k, a1, b1, e, k0, k1⟩ := acv a b 8 (by omega) (by decide)
 unfold aeP
 rw [amG]
 have fin : ∀ {y : Int × Int} {a' b' : Int} {ρ : En} {S : SF}, S [.rf [.int a1, .int b1], .sh (aaL bs), .sh (.int k), .un, .un] = .ok (.rt (fT y) false, .rf [.int a', .int b'] :: ρ) ->
   fnR 5 0 (aaP (ab9 (abb 0 abj (aae (aag 0) (aae (eC (.int 8)) aar))) (gN 2)) S) [.lst [.int a, .int b], aaL bs] = .ok ((fT y, false), [.int a', .int b']) := fun {y a' b' ρ S} hS => by
  generalize aaL bs = T at hS ⊢
  generalize fT y = Y at hS ⊢
  unfold fnR
  simp -dsimp [aaF, con, drs, dr, isS, others, abw, abN, adH, ai4, e, hS]
 by_cases h2 : k < 2
 ·refine ⟨(k, 1), a1, b1, fin (ρ := [.sh (aaL bs), .sh (.int k), .un, .un]) ?_, ?_⟩
  ·generalize aaL bs = T
   simp -dsimp [dr, gLt, gB, h2, bOf, cls, fT]
  ·rcases (show k = 0 \/ k = 1 by omega) with rfl | rfl <;> decide
 ·by_cases h5 : k < 5
  ·obtain ⟨y, a', b', ρ, e2, hy⟩ := awc a1 b1 (.sh (aaL bs)) (.sh (.int k)) .un .un
   refine ⟨y, a', b', fin (ρ := ρ) ?_, hy⟩
   generalize w2 = G at e2 ⊢
   generalize aaL bs = T at e2 ⊢
   generalize fT y = Y at e2 ⊢
   simp -dsimp [dr, gLt, gB, h2, h5, bOf, e2]
  ·by_cases h6 : k = 5
   ·obtain ⟨y, a', b', ρ, e2, hy⟩ := awd a1 b1 (.sh (aaL bs)) (.sh (.int k)) .un .un
    refine ⟨y, a', b', fin (ρ := ρ) ?_, hy⟩
    generalize w5 = G at e2 ⊢
    generalize aaL bs = T at e2 ⊢
    generalize fT y = Y at e2 ⊢
    subst h6
    simp -dsimp [dr, gLt, gB, bOf, gEq, aaz, aaS, e2]
   ·obtain ⟨y, a', b', ρ, e2, hy⟩ := awf a1 b1 k .un .un hw hl
    refine ⟨y, a', b', fin (ρ := ρ) ?_, hy⟩
    generalize w6 = G at e2 ⊢
    generalize aaL bs = T at e2 ⊢
    generalize fT y = Y at e2 ⊢
    have q : (k == 5) = false := by simp [h6]
    simp -dsimp [dr, gLt, gB, h2, h5, bOf, gEq, aaz, aaS, q, e2]
noncomputable def li1 : SF := (aaP (aeu (eMt 6 akc (aae (abb 0 aeP (aae (aag 0) (aae (aag 4) aar))) aar))) (aeu (eMt 4 akc (aae (eOp gIx (aag 6) (eUn alR (eC (.int 1)))) aar))))
theorem akB (ts : List Tr) (t : Tr) : gIx (.lst (ts ++ [t])) (.int (-1)) = .ok (t, false) := by
 show (match atI (ts ++ [t]) (-1) with
  | some t => Rs.ok (t, false)
  | none => .bad) = _
 have : atI (ts ++ [t]) (-1) = some t := by
  unfold atI ixN
  have q0 : ¬ (0 : Int) <= -1 := by omega
  have q1 : -((ts ++ [t]).length : Int) <= -1 := by simp only [List.length_append, List.length_singleton]; omega
  have q2 : ((-1 : Int) + ((ts ++ [t]).length : Int)).toNat = ts.length := by simp only [List.length_append, List.length_singleton]; omega
  rw [if_neg q0, if_pos q1, q2]
  simp
 rw [this]
theorem ah7 {ts : List Tr} {t : Tr} (h : ts.length <= 100000) : akc ts [t] = .ok (ts ++ [t], .non) := by
 show (if ts.length <= 100000 then _ else _) = _
 rw [if_pos h]
theorem atH (a b : Int) (s1 s2 s3 s5 s7 : Sl) {bs ws : List (Int × Int)} (hb : ∀ x ∈ bs, Wo x) (hbl : bs.length <= 100) (hwl : ws.length <= 100) : ∃ (y : Int × Int) (a' b' : Int), li1 [.rf [.int a, .int b], s1, s2, s3, .ow (bs.map fT), s5, .ow (ws.map fT), s7] = .ok (.nx, [.rf [.int a', .int b'], s1, s2, s3, .ow ((bs ++ [y]).map fT), s5, .ow ((ws ++ [y]).map fT), s7]) /\ Wo y := by
 obtain ⟨y, a', b', e, hy⟩ := aot a b hb hbl
 refine ⟨y, a', b', ?_, hy⟩
 have e' : aeP [.lst [.int a, .int b], .lst (bs.map fT)] = .ok ((fT y, false), [.int a', .int b']) := e
 have m1 := ah7 (ts := ws.map fT) (t := fT y) (by rw [List.length_map]; omega)
 have m2 := ah7 (ts := bs.map fT) (t := fT y) (by rw [List.length_map]; omega)
 have g := akB (ws.map fT) (fT y)
 have fl : ai4 (fT y) = true := rfl
 rw [List.map_append, List.map_append, List.map_singleton]
 generalize bs.map fT = B at *
 generalize ws.map fT = W at *
 generalize fT y = Y at *
 unfold li1
 simp -dsimp [con, drs, dr, cls, isS, others, abw, adI, fl, e', m1, alR, g, m2]
theorem amH (s1 s2 s3 s5 : Sl) : ∀ (us : List Tr) (a b : Int) (s7 : Sl) (bs ws : List (Int × Int)), (∀ x ∈ bs, Wo x) -> (∀ x ∈ ws, Wo x) -> bs.length + us.length <= 100 -> ws.length + us.length <= 100 ->
  ∃ (a' b' : Int) (s7' : Sl) (bs' ws' : List (Int × Int)), abW (gN 7) li1 us [.rf [.int a, .int b], s1, s2, s3, .ow (bs.map fT), s5, .ow (ws.map fT), s7] = .ok (.nx, [.rf [.int a', .int b'], s1, s2, s3, .ow (bs'.map fT), s5, .ow (ws'.map fT), s7']) /\ (∀ x ∈ bs', Wo x) /\ (∀ x ∈ ws', Wo x) /\ bs'.length = bs.length + us.length /\ ws'.length = ws.length + us.length
 | [], a, b, s7, bs, ws, h1, h2, _, _ => ⟨a, b, s7, bs, ws, rfl, h1, h2, rfl, rfl⟩
 | u :: us, a, b, s7, bs, ws, h1, h2, h3, h4 => by
  rw [List.length_cons] at h3 h4
  obtain ⟨y, a1, b1, e, hy⟩ := atH a b s1 s2 s3 s5 (.sh u) h1 (by omega) (by omega : ws.length <= 100)
  have q1 : ∀ x ∈ bs ++ [y], Wo x := fun x hx => (List.mem_append.mp hx).elim (h1 x) fun z => (List.mem_singleton.mp z) ▸ hy
  have q2 : ∀ x ∈ ws ++ [y], Wo x := fun x hx => (List.mem_append.mp hx).elim (h2 x) fun z => (List.mem_singleton.mp z) ▸ hy
  obtain ⟨a', b', s7', bs', ws', e', g1, g2, g3, g4⟩ := amH s1 s2 s3 s5 us a1 b1 (.sh u) (bs ++ [y]) (ws ++ [y]) q1 q2 (by simp; omega) (by simp; omega)
  refine ⟨a', b', s7', bs', ws', ?_, g1, g2, by rw [g3]; simp; omega, by rw [g4]; simp; omega⟩
  unfold abW
  rw [show gN 7 u [.rf [.int a, .int b], s1, s2, s3, .ow (bs.map fT), s5, .ow (ws.map fT), s7] = .ok [.rf [.int a, .int b], s1, s2, s3, .ow (bs.map fT), s5, .ow (ws.map fT), .sh u] from rfl]
  simp only [Rs.aaV]
  rw [e]
  exact e'
noncomputable def li2 : SF := (aaP (ai3 6 (afi aar)) (aaP (aeF (afP (aae (aag 2) aar)) (gN 7) li1) (ara 6 (aeu (eMt 3 akc (aae (aag 6) aar))))))
theorem adU : ∀ (n : Nat) (lo : Int), (L2.upTo lo n).length = n
 | 0, _ => rfl
 | n + 1, lo => by unfold L2.upTo; rw [List.length_cons, adU n]
theorem atJ (a b : Int) (s1 s5 s6 s7 : Sl) (c : Nat) (hc : c <= 12) {bs : List (Int × Int)} {rows : List (List (Int × Int))} (hb : ∀ x ∈ bs, Wo x) (hbl : bs.length + 12 <= 100) (hr : rows.length <= 100) : ∃ (a' b' : Int) (s6' s7' : Sl) (bs' l : List (Int × Int)), li2 [.rf [.int a, .int b], s1, .sh (.int c), .ow (rows.map aaL), .ow (bs.map fT), s5, s6, s7] = .ok (.nx, [.rf [.int a', .int b'], s1, .sh (.int c), .ow ((rows ++ [l]).map aaL), .ow (bs'.map fT), s5, s6', s7']) /\ (∀ x ∈ bs', Wo x) /\ bs'.length = bs.length + c /\ l.length = c /\ ∀ x ∈ l, Wo x := by
 obtain ⟨a', b', s7', bs', l, e, h1, h2, h3, h4⟩ := amH s1 (.sh (.int c)) (.ow (rows.map aaL)) s5 (L2.upTo 0 c) a b s7 bs [] hb (by simp) (by rw [adU]; omega) (by rw [adU]; simp; omega)
 rw [adU] at h3 h4
 refine ⟨a', b', .sh (aaL l), s7', bs', l, ?_, h1, h3, by simpa using h4, h2⟩
 have m1 := ah7 (ts := rows.map aaL) (t := aaL l) (by rw [List.length_map]; omega)
 have ef : aeF (afP (aae (aag 2) aar)) (gN 7) li1 [.rf [.int a, .int b], s1, .sh (.int c), .ow (rows.map aaL), .ow (bs.map fT), s5, .ow [], s7] = .ok (.nx, [.rf [.int a', .int b'], s1, .sh (.int c), .ow (rows.map aaL), .ow (bs'.map fT), s5, .ow (l.map fT), s7']) := by
  have q1 : (-1000000 : Int) <= c := by omega
  have q2 : (c : Int) <= 1000000 := by omega
  have q3 : okR (c : Int) = true := by unfold okR; simp [q1, q2]
  unfold aeF
  have : afP (aae (aag 2) aar) [.rf [.int a, .int b], s1, .sh (.int c), .ow (rows.map aaL), .ow (bs.map fT), s5, .ow [], s7] = .ok (L2.upTo 0 c, [.rf [.int a, .int b], s1, .sh (.int c), .ow (rows.map aaL), .ow (bs.map fT), s5, .ow [], s7]) := by
   generalize rows.map aaL = R
   generalize bs.map fT = B
   simp -dsimp [drs, dr, q3]
  rw [this]
  exact e
 rw [List.map_append, List.map_singleton]
 have hrow : Tr.lst (l.map fT) = aaL l := rfl
 generalize rows.map aaL = R at *
 generalize bs.map fT = B at *
 generalize bs'.map fT = B' at *
 unfold li2
 generalize aeF _ _ _ = G at ef ⊢
 generalize l.map fT = L at *
 generalize aaL l = RL at *
 subst hrow
 simp -dsimp [cls, ef, frz, con, m1, abw, dr]
theorem amI (s1 : Sl) (c : Nat) (hc : c <= 12) : ∀ (us : List Tr) (a b : Int) (s5 s6 s7 : Sl) (bs : List (Int × Int)) (rows : List (List (Int × Int))), (∀ x ∈ bs, Wo x) -> bs.length + 12 * us.length <= 60 -> rows.length + us.length <= 4 -> Shp c rows ->
  ∃ (a' b' : Int) (s5' s6' s7' : Sl) (bs' : List Tr) (amJ : List (List (Int × Int))), abW (gN 5) li2 us [.rf [.int a, .int b], s1, .sh (.int c), .ow (rows.map aaL), .ow (bs.map fT), s5, s6, s7] = .ok (.nx, [.rf [.int a', .int b'], s1, .sh (.int c), .ow (amJ.map aaL), .ow bs', s5', s6', s7']) /\ amJ.length = rows.length + us.length /\ Shp c amJ
 | [], a, b, s5, s6, s7, bs, rows, h1, _, _, h4 => ⟨a, b, s5, s6, s7, bs.map fT, rows, rfl, rfl, h4⟩
 | u :: us, a, b, s5, s6, s7, bs, rows, h1, h2, h3, h4 => by
  rw [List.length_cons] at h2 h3
  obtain ⟨a1, b1, s6', s7', bs', l, e, g1, g2, g3, g4⟩ := atJ a b s1 (.sh u) s6 s7 c hc h1 (by omega) (by omega : rows.length <= 100)
  obtain ⟨a', b', r5, r6, r7, bs2, amJ, e', k1, k2⟩ := amI s1 c hc us a1 b1 (.sh u) s6' s7' bs' (rows ++ [l]) g1 (by omega) (by simp; omega) (fun r hr => (List.mem_append.mp hr).elim (h4 r) fun z => (List.mem_singleton.mp z) ▸ ⟨g3, g4⟩)
  refine ⟨a', b', r5, r6, r7, bs2, amJ, ?_, by rw [k1]; simp; omega, k2⟩
  unfold abW
  rw [show gN 5 u [.rf [.int a, .int b], s1, .sh (.int c), .ow (rows.map aaL), .ow (bs.map fT), s5, s6, s7] = .ok [.rf [.int a, .int b], s1, .sh (.int c), .ow (rows.map aaL), .ow (bs.map fT), .sh u, s6, s7] from rfl]
  simp only [Rs.aaV]
  rw [e]
  exact e'
theorem aou (a b : Int) {k c : Nat} (hk : k <= 4) (hc : c <= 12) : ∃ (a' b' : Int) (rows : List (List (Int × Int))), ah0 [.lst [.int a, .int b], .int k, .int c] = .ok ((bkT rows, true), [.int a', .int b']) /\ rows.length = k /\ Shp c rows := by
 obtain ⟨a', b', s5, s6, s7, bs, rows, e, h1, h2⟩ := amI (.sh (.int k)) c hc (L2.upTo 0 k) a b .un .un .un [] [] (by simp) (by rw [adU]; simp; omega) (by rw [adU]; simp; omega) (by intro r hr; simp at hr)
 rw [adU] at h1
 refine ⟨a', b', rows, ?_, by simpa using h1, h2⟩
 show fnR 8 0 (aaP (ai3 3 (afi aar)) (aaP (ai3 4 (afi aar)) (aaP (ada (aeF (afP (aae (aag 1) aar)) (gN 5) li2)) (abn (aag 3))))) _ = _
 have q1 : (-1000000 : Int) <= k := by omega
 have q2 : (k : Int) <= 1000000 := by omega
 have e' : abW (gN 5) li2 (L2.upTo 0 k) [.rf [.int a, .int b], .sh (.int k), .sh (.int c), .ow [], .ow [], .un, .un, .un] = .ok (.nx, [.rf [.int a', .int b'], .sh (.int k), .sh (.int c), .ow (rows.map aaL), .ow bs, s5, s6, s7]) := e
 unfold bkT
 generalize rows.map aaL = R at e' ⊢
 generalize li2 = G at e' ⊢
 unfold fnR
 simp -dsimp [abN, frz, dow, abw, con, acQ, eB, bOf, tru, dr, drs, cls, clV, adk, g1, g2, acP, okR, iOf, isS, others, ab5, abE, acf, acM, acV, aaF, adI, q1, q2, e', adH, ai4]
noncomputable def puB : SF := (aaP (ab9 (eOp acz (eOp abB (eOp abB (eOp gIx (aag 1) (eOp acz (aag 3) (eCB (g1 abf) (aae (aag 1) aar)))) (eOp abI (eC (.int 48271)) (aag 3))) (eC (.int 7))) (eC (.int 2147483629))) (gN 4)) (aaP (ab9 (eOp acz (eOp abB (eOp abI (aag 4) (aag 4)) (eOp abI (eC (.int 69621)) (aag 3))) (eC (.int 2147483587))) (gN 4)) (ab9 (eOp abB (eOp abI (aag 2) (eC (.int 2147483587))) (eOp acz (eOp abI (aag 4) (aag 4)) (eC (.int 2147483563)))) (gN 2))))
theorem atL (s0 s4 : Sl) {cs : List Int} (hc : 0 < cs.length) (mixed : Int) {k : Int} (k0 : 0 <= k) (k1 : k < 1000) : ∃ x t4, puB [s0, .sh (.lst (cs.map .int)), .sh (.int mixed), .sh (.int k), s4] = .ok (.nx, [s0, .sh (.lst (cs.map .int)), .sh (.int x), .sh (.int k), t4]) := by
 have hr := ak3 k (cs.length : Int) (by omega)
 have hn : ((cs.length : Int)) ≠ 0 := by omega
 have el : abf (.lst (cs.map .int)) = .ok (.int (cs.length : Int), false) := by
  show Rs.ok (Tr.int ((cs.map Tr.int).length : Int), false) = _
  rw [List.length_map]
 obtain ⟨v, ev⟩ : ∃ v, gIx (.lst (cs.map .int)) (.int (k.fmod (cs.length : Int))) = .ok (.int v, false) := by
  obtain ⟨i, hi⟩ : ∃ i : Nat, (i : Int) = k.fmod (cs.length : Int) := ⟨(k.fmod (cs.length : Int)).toNat, by omega⟩
  rw [<-hi]
  have hi' : i < cs.length := by omega
  exact ⟨cs[i], adw (by rw [List.getElem?_map, List.getElem?_eq_getElem hi']; rfl)⟩
 have c1 : aeE 48271 k = true := aos (by omega)
 generalize hA : (v + 48271 * k + 7).fmod 2147483629 = A
 have rA := ak3 (v + 48271 * k + 7) 2147483629 (by omega)
 rw [hA] at rA
 have c2 : aeE A A = true := aos (by omega)
 have c3 : aeE 69621 k = true := aos (by omega)
 generalize hB : (A * A + 69621 * k).fmod 2147483587 = B
 have rB := ak3 (A * A + 69621 * k) 2147483587 (by omega)
 rw [hB] at rB
 have c4 : aeE B B = true := aos (by omega)
 have c5 : aeE mixed 2147483587 = true := awb (by omega)
 generalize hC : (B * B).fmod 2147483563 = C
 refine ⟨mixed * 2147483587 + C, .sh (.int B), ?_⟩
 generalize Tr.lst (cs.map .int) = T at *
 generalize hF : k.fmod (cs.length : Int) = F at *
 generalize (cs.length : Int) = N at *
 unfold puB
 simp -dsimp [drs, dr, g1, acz, gIC, hn, hF, el, ev, abI, c1, abB, gI, hA, c2, c3, hB, c4, c5, hC]
theorem amK (s0 : Sl) {cs : List Int} (hc : 0 < cs.length) : ∀ (us : List Tr) (mixed : Int) (s3 s4 : Sl), (∀ u ∈ us, ∃ j : Int, u = .int j /\ 0 <= j /\ j < 1000) -> ∃ x t3 t4, abW (gN 3) puB us [s0, .sh (.lst (cs.map .int)), .sh (.int mixed), s3, s4] = .ok (.nx, [s0, .sh (.lst (cs.map .int)), .sh (.int x), t3, t4])
 | [], mixed, s3, s4, _ => ⟨mixed, s3, s4, rfl⟩
 | u :: us, mixed, s3, s4, h => by
  obtain ⟨j, rfl, j0, j1⟩ := h u (by simp)
  obtain ⟨y, t4, e⟩ := atL s0 s4 hc mixed j0 j1
  obtain ⟨x, r3, r4, e'⟩ := amK s0 hc us y (.sh (.int j)) t4 fun v hv => h v (by simp [hv])
  refine ⟨x, r3, r4, ?_⟩
  generalize Tr.lst (cs.map .int) = T at *
  unfold abW
  simp [e, e']
theorem aov (ns : List Int) : ∃ a b, afy [.lst (ns.map .int)] = .ok (.lst [.int a, .int b], true) := by
 obtain ⟨cs, hcs⟩ : ∃ cs : List Int, cs = ns.take 63 ++ [(ns.length : Int)] := ⟨_, rfl⟩
 have hc : 0 < cs.length := by rw [hcs]; simp
 obtain ⟨x, t3, t4, e⟩ := amK (.sh (.lst (ns.map .int))) hc (L2.upTo 0 160) 1 .un .un fun u hu => by
  rw [aes] at hu
  obtain ⟨i, hi, rfl⟩ := List.mem_map.mp hu
  have := List.mem_range.mp hi
  exact ⟨i, rfl, by omega, by omega⟩
 have es : gSl none (some 63) (.lst (ns.map .int)) = .ok (.lst ((ns.take 63).map .int), true) := by
  have c := atz (ns.map Tr.int) 63
  show Rs.ok (Tr.lst (L2.cut (ns.map Tr.int) none (some 63)), true) = _
  rw [show L2.cut (ns.map Tr.int) none (some 63) = _ from c, List.map_take]
 have ea : abB (.lst ((ns.take 63).map .int)) (.lst [.int (ns.length : Int)]) = .ok (.lst (cs.map .int), true) := by
  show (if ((ns.take 63).map Tr.int).length + [Tr.int (ns.length : Int)].length <= 100000 then Rs.ok (Tr.lst ((ns.take 63).map Tr.int ++ [Tr.int (ns.length : Int)]), true) else .bad) = _
  rw [if_pos (by simp; omega), hcs, List.map_append]
  rfl
 have el : abf (.lst (ns.map .int)) = .ok (.int (ns.length : Int), false) := by
  show Rs.ok (Tr.int ((ns.map Tr.int).length : Int), false) = _
  rw [List.length_map]
 have e0 : gIx (.lst (cs.map .int)) (.int 0) = .ok (.int cs[0], false) := adw (i := 0) (by rw [List.getElem?_map, List.getElem?_eq_getElem hc]; rfl)
 have en : ada (aeF (afP (aae (eC (.int 160)) aar)) (gN 3) puB) [.sh (.lst (ns.map .int)), .sh (.lst (cs.map .int)), .sh (.int 1), .un, .un] = .ok (.nx, [.sh (.lst (ns.map .int)), .sh (.lst (cs.map .int)), .sh (.int x), t3, t4]) := by
  show abN (abW (gN 3) puB (L2.upTo 0 160) _) = _
  rw [e]
  rfl
 have hd : amr = (aaP (ab9 (eOp abB (eSl (aag 0) oNo (anG (eC (.int 63)))) (afi (aae (eCB (g1 abf) (aae (aag 0) aar)) aar))) (gN 1)) (aaP (ab9 (eC (.int 1)) (gN 2)) (aaP (ada (aeF (afP (aae (eC (.int 160)) aar)) (gN 3) puB)) (aaP (sIf (aa8 (eOp gGe (eOp gIx (aag 1) (eC (.int 0))) (eOp acy (eC (.int 10)) (eC (.int 18))))) (abn (afi (aae (eOp ab3 (eOp gIx (aag 1) (eC (.int 0))) (eOp acy (eC (.int 10)) (eC (.int 18)))) (aae (aag 2) aar)))) acC) (abn (afi (aae (eC (.int 0)) (aae (aag 2) aar)))))))) := rfl
 unfold afy
 rw [hd]
 generalize cs[0] = v at e0
 generalize ada _ = G at en ⊢
 generalize Tr.lst (cs.map .int) = C at *
 generalize Tr.lst ((ns.take 63).map .int) = N1 at *
 generalize Tr.lst (ns.map .int) = N0 at *
 generalize (ns.length : Int) = L at *
 by_cases h : 1000000000000000000 <= v
 ·refine ⟨v - 1000000000000000000, x, ?_⟩
  unfold fnP
  simp -dsimp [aaF, drs, dr, iOf, es, el, g1, cls, ea, en, e0, acy, gIC, arX, tiny, gGe, gB, h, bOf, ab3, gI]
 ·refine ⟨0, x, ?_⟩
  unfold fnP
  simp -dsimp [aaF, drs, dr, iOf, es, el, g1, cls, ea, en, e0, acy, gIC, arX, tiny, gGe, gB, h, bOf, ab3, gI]
end K15
end
section
set_option exponentiation.threshold 6000
namespace BH
open PySem L2
noncomputable def red (a b : Int) : Int × Int := (a / ((Int.gcd a b : Nat) : Int), b / ((Int.gcd a b : Nat) : Int))
noncomputable def Fq (M : Nat) (x : Int × Int) : Prop := 0 <= x.1 /\ x.1 < 2 ^ M /\ 1 <= x.2 /\ x.2 < 2 ^ M /\ Int.gcd x.1 x.2 = 1
theorem ak4 (M : Nat) : ((2 ^ M : Nat) : Int) = 2 ^ M := by push_cast; rfl
theorem amL {a b : Int} {M : Nat} (ha : 0 <= a) (ha2 : a < 2 ^ M) (hb : 1 <= b) (hb2 : b < 2 ^ M) : Fq M (red a b) := by
 obtain ⟨g1, g2, g3, g4, g5, g6, g7⟩ := ad4 (a := a) (b := b) (by omega)
 have d1 := Int.ediv_le_self (a := a) ((Int.gcd a b : Nat) : Int) ha
 have d2 := Int.ediv_le_self (a := b) ((Int.gcd a b : Nat) : Int) (by omega)
 exact ⟨g5 ha, by unfold red; dsimp only; omega, g3, by unfold red; dsimp only; omega, g4⟩
theorem agJ {a b : Int} (hb : 1 <= b) : a * (red a b).2 = (red a b).1 * b /\ 1 <= (red a b).2 /\ Int.gcd (red a b).1 (red a b).2 = 1 := by
 obtain ⟨g1, g2, g3, g4, g5, g6, g7⟩ := ad4 (a := a) (b := b) (by omega)
 refine ⟨?_, g3, g4⟩
 show a * (b / ((Int.gcd a b : Nat) : Int)) = (a / ((Int.gcd a b : Nat) : Int)) * b
 generalize ((Int.gcd a b : Nat) : Int) = g at *
 generalize a / g = p at *
 generalize b / g = q at *
 rw [g6, g7]
 ac_rfl
noncomputable def le2 (x y : Int × Int) : Prop := x.1 * y.2 <= y.1 * x.2
theorem apc {x y : Int × Int} : lt2 x y = false ↔ le2 y x := by
 unfold lt2 le2
 rw [decide_eq_false_iff_not, Int.not_lt]
theorem aiU {x y z : Int × Int} (hx : 1 <= x.2) (hy : 1 <= y.2) (hz : 1 <= z.2) (h1 : le2 x y) (h2 : le2 y z) : le2 x z := by
 unfold le2 at *
 have a1 := Int.mul_le_mul_of_nonneg_right h1 (show 0 <= z.2 by omega)
 have a2 := Int.mul_le_mul_of_nonneg_right h2 (show 0 <= x.2 by omega)
 have e1 : x.1 * y.2 * z.2 = (x.1 * z.2) * y.2 := by ac_rfl
 have e2 : y.1 * x.2 * z.2 = y.1 * z.2 * x.2 := by ac_rfl
 have e3 : z.1 * y.2 * x.2 = (z.1 * x.2) * y.2 := by ac_rfl
 rw [e1, e2] at a1
 rw [e3] at a2
 exact Int.le_of_mul_le_mul_right (Int.le_trans a1 a2) (by omega)
theorem akC {x y : Int × Int} (hx : 1 <= x.2) (hy : 1 <= y.2) (gx : Int.gcd x.1 x.2 = 1) (gy : Int.gcd y.1 y.2 = 1) (h1 : le2 x y) (h2 : le2 y x) : x = y := by
 unfold le2 at *
 have := apI hx hy gx gy (Int.le_antisymm h1 h2)
 exact Prod.ext this.1 this.2
theorem ajK {a b c d : Int} (hb : 1 <= b) (hd : 1 <= d) (h : a * d <= c * b) : le2 (red a b) (red c d) := by
 obtain ⟨e1, p1, _⟩ := agJ (a := a) hb
 obtain ⟨e2, p2, _⟩ := agJ (a := c) hd
 generalize red a b = x at *
 generalize red c d = y at *
 unfold le2
 have a1 := Int.mul_le_mul_of_nonneg_right h (Int.mul_nonneg (show 0 <= x.2 by omega) (show 0 <= y.2 by omega))
 have e3 : a * d * (x.2 * y.2) = (a * x.2) * (d * y.2) := by ac_rfl
 have e4 : c * b * (x.2 * y.2) = (c * y.2) * (b * x.2) := by ac_rfl
 rw [e3, e4, e1, e2] at a1
 have e5 : x.1 * b * (d * y.2) = (x.1 * y.2) * (b * d) := by ac_rfl
 have e6 : y.1 * d * (b * x.2) = (y.1 * x.2) * (b * d) := by ac_rfl
 rw [e5, e6] at a1
 exact Int.le_of_mul_le_mul_right a1 (Int.mul_pos (by omega) (by omega))
noncomputable def sumF (x y : Int × Int) : Int × Int := red (x.1 * y.2 + y.1 * x.2) (x.2 * y.2)
noncomputable def afj (x y : Int × Int) : Int × Int := red (x.1 * y.1) (x.2 * y.2)
theorem acw {a b : Int} {M N : Nat} (ha : 0 <= a) (ha2 : a < 2 ^ M) (hb : 0 <= b) (hb2 : b < 2 ^ N) : a * b < 2 ^ (M + N) := by
 have p1 : (0 : Int) < 2 ^ N := Int.pow_pos (by omega)
 have q1 : a * b <= a * 2 ^ N := Int.mul_le_mul_of_nonneg_left (by omega) ha
 have q2 : a * 2 ^ N < 2 ^ M * 2 ^ N := Int.mul_lt_mul_of_pos_right ha2 p1
 rw [Int.pow_add]
 omega
theorem aej {x y : Int × Int} {M N : Nat} (hx : Fq M x) (hy : Fq N y) : Fq (M + N) (afj x y) :=
 amL (Int.mul_nonneg hx.1 hy.1) (acw hx.1 hx.2.1 hy.1 hy.2.1) (by have := Int.mul_pos (a := x.2) (b := y.2) (by have := hx.2.2.1; omega) (by have := hy.2.2.1; omega); omega) (acw (by have := hx.2.2.1; omega) hx.2.2.2.1 (by have := hy.2.2.1; omega) hy.2.2.2.1)
theorem ajL {x y : Int × Int} {M N : Nat} (hx : Fq M x) (hy : Fq N y) : Fq (M + N + 1) (sumF x y) := by
 obtain ⟨x1, x2, x3, x4, _⟩ := hx
 obtain ⟨y1, y2, y3, y4, _⟩ := hy
 have m1 := acw x1 x2 (by omega) y4
 have m2 := acw y1 y2 (by omega) x4
 have m3 := acw (by omega) x4 (by omega) y4
 rw [Nat.add_comm N M] at m2
 have p := Int.mul_pos (a := x.2) (b := y.2) (by omega) (by omega)
 have n1 := Int.mul_nonneg x1 (show 0 <= y.2 by omega)
 have n2 := Int.mul_nonneg y1 (show 0 <= x.2 by omega)
 have e : (2 : Int) ^ (M + N + 1) = 2 ^ (M + N) * 2 := Int.pow_succ ..
 exact amL (by omega) (by rw [e]; omega) (by omega) (by rw [e]; omega)
theorem awg {w x y : Int × Int} (hw : 0 <= w.1) (hw2 : 1 <= w.2) (hx : 1 <= x.2) (hy : 1 <= y.2) (h : le2 x y) : le2 (afj w x) (afj w y) := by
 have p1 := Int.mul_pos (a := w.2) (b := x.2) (by omega) (by omega)
 have p2 := Int.mul_pos (a := w.2) (b := y.2) (by omega) (by omega)
 refine ajK (by omega) (by omega) ?_
 unfold le2 at h
 have a1 := Int.mul_le_mul_of_nonneg_left h (Int.mul_nonneg hw (show 0 <= w.2 by omega))
 have e1 : w.1 * x.1 * (w.2 * y.2) = w.1 * w.2 * (x.1 * y.2) := by ac_rfl
 have e2 : w.1 * y.1 * (w.2 * x.2) = w.1 * w.2 * (y.1 * x.2) := by ac_rfl
 rw [e1, e2]
 exact a1
theorem aeJ {a b : Int} {M : Nat} (hb : 1 <= b) (hb2 : b < 2 ^ M) (hM : M <= 8000) : abQ [.int a, .int b] = .ok (fT (red a b), false) := by
 obtain ⟨g1, g2, _⟩ := ad4 (a := a) (b := b) (by omega)
 have e1 : a.fdiv (Int.gcd a b : Nat) = a / (Int.gcd a b : Nat) := Int.fdiv_eq_ediv_of_nonneg _ (by omega)
 have e2 : b.fdiv (Int.gcd a b : Nat) = b / (Int.gcd a b : Nat) := Int.fdiv_eq_ediv_of_nonneg _ (by omega)
 have hs := acE a b
 have np := ak4 M
 unfold abQ ae8 fnP fT red
 generalize hg : ((Int.gcd a b : Nat) : Int) = g at *
 have h3 : ¬ b < 0 := by omega
 have h4 : (b == 0) = false := by simp; omega
 have c1 : ∀ n, alo n g = true := fun n => aeQ (M := M) (by omega) (by omega) hM
 simp -dsimp [abN, frz, dow, abw, con, acQ, eB, bOf, tru, dr, drs, cls, clV, adk, g1, g2, gI, gIC, gB, gEq, gNe, gIn, abB, abI, acB, acz, acy, ab3, gLt, gGt, gLe, gGe, gIx, abf, adb, abk, aa3, ac9, adB, acq, acP, okR, iOf, isS, others, ab5, abE, acf, acM, acV, aaz, aa4, aaD, aaK, aaG, aaI, aav, aaq, aaS, aa5, aa0, acL, atI, ixN, aaF, hs, h3, h4, c1, e1, e2]
theorem afe {x y : Int × Int} {M N : Nat} (hx : Fq M x) (hy : Fq N y) (hM : M + N <= 8000) : aby [fT x, fT y] = .ok (fT (afj x y), false) := by
 have q := aej hx hy
 obtain ⟨x1, x2, x3, x4, _⟩ := hx
 obtain ⟨y1, y2, y3, y4, _⟩ := hy
 have nM := ak4 M
 have nN := ak4 N
 have c1 : aeE x.1 y.1 = true := ab8 (M := M) (N := N) (by omega) (by omega) (by omega) (by omega)
 have c2 : aeE x.2 y.2 = true := ab8 (M := M) (N := N) (by omega) (by omega) (by omega) (by omega)
 have p := Int.mul_pos (a := x.2) (b := y.2) (by omega) (by omega)
 have e := aeJ (a := x.1 * y.1) (b := x.2 * y.2) (M := M + N) (by omega) (acw (by omega) x4 (by omega) y4) hM
 unfold aby afJ fnP
 show _ = Rs.ok (fT (red (x.1 * y.1) (x.2 * y.2)), false)
 generalize fT (red (x.1 * y.1) (x.2 * y.2)) = R at e ⊢
 unfold fT
 simp -dsimp [abN, frz, dow, abw, con, acQ, eB, bOf, tru, dr, drs, cls, clV, adk, g1, g2, gI, gIC, gB, gEq, gNe, gIn, abB, abI, acB, acz, acy, ab3, gLt, gGt, gLe, gGe, gIx, abf, adb, abk, aa3, ac9, adB, acq, acP, okR, iOf, isS, others, ab5, abE, acf, acM, acV, aaz, aa4, aaD, aaK, aaG, aaI, aav, aaq, aaS, aa5, aa0, acL, atI, ixN, aaF, c1, c2, e]
theorem ajM {x y : Int × Int} {M N : Nat} (hx : Fq M x) (hy : Fq N y) (hM : M + N <= 8000) : acW [fT x, fT y] = .ok (fT (sumF x y), false) := by
 obtain ⟨x1, x2, x3, x4, _⟩ := hx
 obtain ⟨y1, y2, y3, y4, _⟩ := hy
 have nM := ak4 M
 have nN := ak4 N
 have c1 : aeE x.1 y.2 = true := ab8 (M := M) (N := N) (by omega) (by omega) (by omega) (by omega)
 have c2 : aeE y.1 x.2 = true := ab8 (M := N) (N := M) (by omega) (by omega) (by omega) (by omega)
 have c3 : aeE x.2 y.2 = true := ab8 (M := M) (N := N) (by omega) (by omega) (by omega) (by omega)
 have p := Int.mul_pos (a := x.2) (b := y.2) (by omega) (by omega)
 have e := aeJ (a := x.1 * y.2 + y.1 * x.2) (b := x.2 * y.2) (M := M + N) (by omega) (acw (by omega) x4 (by omega) y4) hM
 unfold acW aho fnP
 show _ = Rs.ok (fT (red (x.1 * y.2 + y.1 * x.2) (x.2 * y.2)), false)
 generalize fT (red (x.1 * y.2 + y.1 * x.2) (x.2 * y.2)) = R at e ⊢
 unfold fT
 simp -dsimp [abN, frz, dow, abw, con, acQ, eB, bOf, tru, dr, drs, cls, clV, adk, g1, g2, gI, gIC, gB, gEq, gNe, gIn, abB, abI, acB, acz, acy, ab3, gLt, gGt, gLe, gGe, gIx, abf, adb, abk, aa3, ac9, adB, acq, acP, okR, iOf, isS, others, ab5, abE, acf, acM, acV, aaz, aa4, aaD, aaK, aaG, aaI, aav, aaq, aaS, aa5, aa0, acL, atI, ixN, aaF, c1, c2, c3, e]
end BH
end
section
set_option exponentiation.threshold 6000
namespace BH
open PySem L2
noncomputable def shF (ps : List ((Int × Int) × (Int × Int))) (t : Int × Int) : Int × Int := ps.foldl (fun t p => sumF t (afj p.1 p.2)) t
noncomputable def prF (xs : List (Int × Int)) (t : Int × Int) : Int × Int := xs.foldl afj t
theorem apd : ∀ (ps : List ((Int × Int) × (Int × Int))) (t : Int × Int) (M : Nat), Fq M t -> (∀ p ∈ ps, Fq 45 p.1 /\ Fq 45 p.2) -> Fq (M + 91 * ps.length) (shF ps t)
 | [], t, M, h, _ => h
 | p :: ps, t, M, h, hp => by
  have h1 := aej (hp p (by simp)).1 (hp p (by simp)).2
  have h2 := ajL h h1
  have := apd ps _ _ h2 fun q hq => hp q (by simp [hq])
  rw [show M + 91 * (p :: ps).length = M + (45 + 45) + 1 + 91 * ps.length by rw [List.length_cons]; omega]
  exact this
theorem ape : ∀ (ps : List (Int × Int)) (t : Int × Int) (M : Nat), Fq M t -> (∀ p ∈ ps, Fq 45 p) -> Fq (M + 45 * ps.length) (prF ps t)
 | [], t, M, h, _ => h
 | p :: ps, t, M, h, hp => by
  have h2 := aej h (hp p (by simp))
  have := ape ps _ _ h2 fun q hq => hp q (by simp [hq])
  rw [show M + 45 * (p :: ps).length = M + 45 + 45 * ps.length by rw [List.length_cons]; omega]
  exact this
theorem Wo.fq {x : Int × Int} (h : Wo x) : Fq 45 x := by
 obtain ⟨h1, h2, h3, h4, h5⟩ := h
 exact ⟨h1, by omega, h3, by omega, h5⟩
noncomputable def ShB (B : SF) : Prop := ∀ (t w x : Int × Int) (M : Nat) (s0 s1 : Sl) (τ : En), Fq M t -> Fq 45 w -> Fq 45 x -> M + 90 <= 8000 -> B (s0 :: s1 :: .sh (fT t) :: .sh (fT w) :: .sh (fT x) :: τ) = .ok (.nx, s0 :: s1 :: .sh (fT (sumF t (afj w x))) :: .sh (fT w) :: .sh (fT x) :: τ)
theorem amM {B : SF} (hB : ShB B) (s0 s1 : Sl) (τ : En) : ∀ (ps : List ((Int × Int) × (Int × Int))) (t : Int × Int) (M : Nat) (s3 s4 : Sl), Fq M t -> (∀ p ∈ ps, Fq 45 p.1 /\ Fq 45 p.2) -> M + 91 * ps.length <= 8000 ->
  ∃ t3 t4, abW (gT 2 (aaJ (gN 3) (aaJ (gN 4) acr))) B (ps.map fun p => Tr.tup [fT p.1, fT p.2]) (s0 :: s1 :: .sh (fT t) :: s3 :: s4 :: τ) = .ok (.nx, s0 :: s1 :: .sh (fT (shF ps t)) :: t3 :: t4 :: τ)
 | [], t, M, s3, s4, _, _, _ => ⟨s3, s4, rfl⟩
 | p :: ps, t, M, s3, s4, h, hp, hl => by
  rw [List.length_cons] at hl
  have h1 := aej (hp p (by simp)).1 (hp p (by simp)).2
  have h2 := ajL h h1
  have e := hB t p.1 p.2 M s0 s1 τ h (hp p (by simp)).1 (hp p (by simp)).2 (by omega)
  obtain ⟨t3, t4, e'⟩ := amM hB s0 s1 τ ps _ _ (.sh (fT p.1)) (.sh (fT p.2)) h2 (fun q hq => hp q (by simp [hq])) (by omega)
  refine ⟨t3, t4, ?_⟩
  rw [List.map_cons]
  unfold abW
  rw [show (gT 2 (aaJ (gN 3) (aaJ (gN 4) acr))) (Tr.tup [fT p.1, fT p.2]) (s0 :: s1 :: .sh (fT t) :: s3 :: s4 :: τ) = .ok (s0 :: s1 :: .sh (fT t) :: .sh (fT p.1) :: .sh (fT p.2) :: τ) from rfl]
  simp only [Rs.aaV]
  rw [e]
  exact e'
theorem atM (ws xs : List (Int × Int)) : ao0 (ws.map fT) (xs.map fT) = (ws.zip xs).map fun p => Tr.tup [fT p.1, fT p.2] := by
 unfold ao0
 rw [List.zip_map, List.map_map]
 rfl
noncomputable def swB : SF := (ab9 (aat acW (aae (aag 2) (aae (aat aby (aae (aag 3) (aae (aag 4) aar))) aar))) (gN 2))
theorem atN : ShB swB := fun t w x M s0 s1 τ ht hw hx hM => by
 have e1 := afe hw hx (by omega)
 have e2 := ajM ht (aej hw hx) (by omega)
 generalize fT (sumF t (afj w x)) = R at e2 ⊢
 generalize fT (afj w x) = P at e1 e2
 generalize fT t = T at *
 generalize fT w = W at *
 generalize fT x = Y at *
 unfold swB
 simp -dsimp [drs, dr, isS, e1, e2]
theorem auL : Fq 1 (0, 1) := by unfold Fq; decide
theorem awh : Fq 1 (1, 1) := by unfold Fq; decide
theorem apf {ws xs : List (Int × Int)} (hw : ∀ w ∈ ws, Fq 45 w) (hx : ∀ x ∈ xs, Fq 45 x) : ∀ p ∈ ws.zip xs, Fq 45 p.1 /\ Fq 45 p.2 := fun p hp => ⟨hw _ (List.of_mem_zip hp).1, hx _ (List.of_mem_zip hp).2⟩
theorem agK {ws xs : List (Int × Int)} (hw : ∀ w ∈ ws, Fq 45 w) (hx : ∀ x ∈ xs, Fq 45 x) (hl : xs.length <= 12) : acG [aaL ws, aaL xs] = .ok (fT (shF (ws.zip xs) (0, 1)), false) := by
 have hz : (ws.zip xs).length <= 12 := by rw [List.length_zip]; omega
 obtain ⟨t3, t4, e⟩ := amM atN (.sh (aaL ws)) (.sh (aaL xs)) [] (ws.zip xs) (0, 1) 1 .un .un auL (apf hw hx) (by omega)
 rw [<-atM] at e
 have e1 : ada (aeF (asM (aae (aag 0) (aae (aag 1) aar))) (gT 2 (aaJ (gN 3) (aaJ (gN 4) acr))) swB) [.sh (aaL ws), .sh (aaL xs), .sh (fT (0, 1)), .un, .un] = .ok (.nx, [.sh (aaL ws), .sh (aaL xs), .sh (fT (shF (ws.zip xs) (0, 1))), t3, t4]) := by
  show abN (abW _ swB (ao0 (ws.map fT) (xs.map fT)) _) = _
  rw [e]
  rfl
 show fnP 5 (aaP (ab9 (eC (.tup [.int 0, .int 1])) (gN 2)) (aaP (ada (aeF (asM (aae (aag 0) (aae (aag 1) aar))) (gT 2 (aaJ (gN 3) (aaJ (gN 4) acr))) swB)) (abn (aag 2)))) [aaL ws, aaL xs] = _
 have e0 : Tr.tup [.int 0, .int 1] = fT (0, 1) := rfl
 rw [e0]
 generalize ada _ = G at e1 ⊢
 generalize fT (shF (ws.zip xs) (0, 1)) = R at *
 generalize fT (0, 1) = Z at *
 generalize aaL ws = W at *
 generalize aaL xs = Y at *
 unfold fnP
 simp -dsimp [aaF, e1]
noncomputable def pwB : SF := (ab9 (aat aby (aae (aag 1) (aae (aag 2) aar))) (gN 1))
theorem amN (s0 : Sl) : ∀ (xs : List (Int × Int)) (t : Int × Int) (M : Nat) (s2 : Sl), Fq M t -> (∀ p ∈ xs, Fq 45 p) -> M + 45 * xs.length <= 8000 ->
  ∃ t2, abW (gN 2) pwB (xs.map fT) [s0, .sh (fT t), s2] = .ok (.nx, [s0, .sh (fT (prF xs t)), t2])
 | [], t, M, s2, _, _, _ => ⟨s2, rfl⟩
 | x :: xs, t, M, s2, h, hp, hl => by
  rw [List.length_cons] at hl
  have e := afe h (hp x (by simp)) (by omega)
  obtain ⟨t2, e'⟩ := amN s0 xs _ _ (.sh (fT x)) (aej h (hp x (by simp))) (fun q hq => hp q (by simp [hq])) (by omega)
  refine ⟨t2, ?_⟩
  have e1 : pwB [s0, .sh (fT t), .sh (fT x)] = .ok (.nx, [s0, .sh (fT (afj t x)), .sh (fT x)]) := by
   generalize fT (afj t x) = R at e ⊢
   generalize fT t = T at *
   generalize fT x = Y at *
   unfold pwB
   simp -dsimp [drs, dr, isS, e]
  rw [List.map_cons]
  unfold abW
  rw [show gN 2 (fT x) [s0, .sh (fT t), s2] = .ok [s0, .sh (fT t), .sh (fT x)] from rfl]
  simp only [Rs.aaV]
  rw [e1]
  exact e'
theorem afW {xs : List (Int × Int)} (hx : ∀ x ∈ xs, Fq 45 x) (hl : xs.length <= 12) : acs [aaL xs] = .ok (fT (prF xs (1, 1)), false) := by
 obtain ⟨t2, e⟩ := amN (.sh (aaL xs)) xs (1, 1) 1 .un awh hx (by omega)
 have e1 : ada (aeF (fSq (aag 0)) (gN 2) pwB) [.sh (aaL xs), .sh (fT (1, 1)), .un] = .ok (.nx, [.sh (aaL xs), .sh (fT (prF xs (1, 1))), t2]) := by
  show abN (abW _ pwB (xs.map fT) _) = _
  rw [e]
  rfl
 show fnP 3 (aaP (ab9 (eC (.tup [.int 1, .int 1])) (gN 1)) (aaP (ada (aeF (fSq (aag 0)) (gN 2) pwB)) (abn (aag 1)))) [aaL xs] = _
 have e0 : Tr.tup [.int 1, .int 1] = fT (1, 1) := rfl
 rw [e0]
 generalize ada _ = G at e1 ⊢
 generalize fT (prF xs (1, 1)) = R at *
 generalize fT (1, 1) = Z at *
 generalize aaL xs = Y at *
 unfold fnP
 simp -dsimp [aaF, e1]
noncomputable def Dsc (xs zs : List (Int × Int)) : Prop := zs.Perm xs /\ zs.Pairwise fun a b => le2 b a
noncomputable def LT (xs : List (Int × Int)) : Prop := ∀ x ∈ xs, 1 <= x.2 /\ Int.gcd x.1 x.2 = 1
theorem akD : ∀ {l m : List (Int × Int)}, LT l -> l.Perm m -> l.Pairwise (fun a b => le2 b a) -> m.Pairwise (fun a b => le2 b a) -> l = m
 | [], m, _, p, _, _ => by rw [List.nil_perm.mp p]
 | a :: l, [], _, p, _, _ => by simpa using p.length_eq
 | a :: l, b :: m, hl, p, h1, h2 => by
  have h1' := List.pairwise_cons.mp h1
  have h2' := List.pairwise_cons.mp h2
  have e : a = b := by
   rcases List.mem_cons.mp (p.mem_iff.mp (List.mem_cons_self ..)) with z | z
   ·exact z
   ·rcases List.mem_cons.mp (p.mem_iff.mpr (List.mem_cons_self (a := b))) with y | y
    ·exact y.symm
    ·have a1 := h1'.1 b y
     have a2 := h2'.1 a z
     have la := hl a (by simp)
     have lb := hl b (by simp [y])
     exact akC la.1 lb.1 la.2 lb.2 a2 a1
  subst e
  rw [akD (fun x hx => hl x (by simp [hx])) p.cons_inv h1'.2 h2'.2]
theorem Dsc.uniq {xs l m : List (Int × Int)} (h : LT xs) (a : Dsc xs l) (b : Dsc xs m) : l = m := akD (fun x hx => h x (a.1.mem_iff.mp hx)) (a.1.trans b.1.symm) a.2 b.2
theorem ag2 (xs : List (Int × Int)) : (List.range xs.length).map (fun i => xs.getD i (0, 1)) = xs := by
 apply List.ext_getElem
 ·simp
 ·intro i h1 h2
  simp [List.getD_eq_getElem?_getD, h2]
theorem Fall.dsc {xs : List (Int × Int)} {ys : List Nat} (h : Fall xs ys) : Dsc xs (ys.map fun i => xs.getD i (0, 1)) := by
 refine ⟨?_, ?_⟩
 ·have := h.1.map fun i => xs.getD i (0, 1)
  rw [ag2] at this
  exact this
 ·rw [List.pairwise_map]
  refine h.2.imp fun {i j} hb => ?_
  unfold Bfr at hb
  unfold le2
  omega
noncomputable def ov (t x : Int × Int) : Bool := lt2 t x
end BH
end
section
set_option exponentiation.threshold 6000
namespace BH
open PySem L2
inductive Ru where
 | sh (ws : List (Int × Int)) | mid (k : Nat) | least | greatest | product
noncomputable def ruT : Ru -> Tr
 | .sh ws => .tup [.str "shares", aaL ws]
 | .mid k => .tup [.str "middle", .int k]
 | .least => .tup [.str "least"]
 | .greatest => .tup [.str "greatest"]
 | .product => .tup [.str "product"]
noncomputable def amO (n : Nat) : Ru -> Prop
 | .sh ws => ws.length = n /\ ∀ w ∈ ws, Fq 45 w
 | .mid k => 1 <= k /\ k <= n
 | _ => True
theorem sEq (a : Str) : gEq (.str a) (.str a) = .ok (.bl true, false) := aoq (T := .str a) (by rw [aaD]; omega)
theorem sNe {a b : Str} (h : (a == b) = false) : gEq (.str a) (.str b) = .ok (.bl false, false) := by
 unfold gEq
 rw [if_pos (by rw [aaD]; omega), aa0, h]
theorem axL {α : Type} {r : α -> Tr} {xs : List α} {ρ τ : En} {rest : List (Option Nat)} {i : IF} {fe : EF} (hl : xs.length <= 100000) (hi : i ρ = .ok (xs.map r, ρ)) (hτ : ab5 rest ρ = τ) (hs : ∀ s', acf (none :: rest) (s' :: τ) ρ = true) (hd : ∀ s', abE (none :: rest) (s' :: τ) ρ = ρ)
  (hf : ∀ x ∈ xs, ∃ fr, fe (.sh (r x) :: τ) = .ok (.v (.bl true) fr, .sh (r x) :: τ)) : eCB (g1 acq) (aae (abF (none :: rest) i (gN 0) aeH fe) aar) ρ = .ok (.v (.bl true) false, ρ) := by
 have e := aqN (h := fun x => .bl ((fun _ : α => true) x)) hl hi hτ hs hd hf
 have eg : acq (.lst (xs.map fun x => .bl ((fun _ : α => true) x))) = .ok (.bl true, false) := by
  unfold acq
  simp only [apb]
  rw [show (xs.map fun _ => true).all id = true by simp]
 generalize abF _ _ _ _ _ = G at e ⊢
 generalize Tr.lst (xs.map fun x => .bl ((fun _ : α => true) x)) = T at e eg
 simp [e, eg, drs, dr, g1]
theorem Fq.alp {M : Nat} {x : Int × Int} (h : Fq M x) : alp (fT x) = true := by
 show (decide (1 <= x.2) && (Int.gcd x.1 x.2 == 1)) = true
 simp [h.2.2.1, h.2.2.2.2]
noncomputable def awE : EF := (anE (aat abz (aae (aag 0) aar)) (eOp gGe (eOp gIx (aag 0) (eC (.int 0))) (eC (.int 0))))
theorem ag3 {ws : List (Int × Int)} (hw : ∀ w ∈ ws, Fq 45 w) (hl : ws.length <= 12) : acR [aaL ws, .int ws.length] = .ok (.bl true, false) := by
 have e1 := axL (r := fT) (xs := ws) (ρ := [.sh (aaL ws), .sh (.int ws.length)]) (rest := []) (i := fSq (aag 0)) (fe := awE) (by omega) rfl rfl (fun s' => rfl) (fun s' => rfl) (fun w hw' => ⟨false, by
  have h := hw w hw'
  have e := abG (fT w)
  rw [h.alp] at e
  have h0 := h.1
  unfold awE
  dsimp only [ab5, List.map]
  have g0 : gIx (fT w) (.int 0) = .ok (.int w.1, false) := rfl
  generalize fT w = T at *
  simp -dsimp [drs, dr, isS, e, bOf, g0, gGe, gB, h0]⟩)
 have el : abf (aaL ws) = .ok (.int (ws.length : Int), false) := by
  show Rs.ok (Tr.int ((ws.map fT).length : Int), false) = _
  rw [List.length_map]
 have ei : ahi .list (aag 0) [.sh (aaL ws), .sh (.int ws.length)] = .ok (.v (.bl true) false, [.sh (aaL ws), .sh (.int ws.length)]) := by
  simp [aaL, acL, dr, eB]
 have en := agd (T := .int (ws.length : Int)) (by rw [aaz]; omega)
 show fnP 2 (aaP (sIf (bOr (ae1 (aeM (ahi .list (aag 0)))) (aa8 (eOp gNe (eCB (g1 abf) (aae (aag 0) aar)) (aag 1)))) (abn (eC (.bl false))) acC) (abn (eCB (g1 acq) (aae (abF [none] (fSq (aag 0)) (gN 0) aeH awE) aar)))) [aaL ws, .int ws.length] = _
 generalize eCB (g1 acq) _ = G at e1 ⊢
 generalize ahi _ _ = G2 at ei ⊢
 generalize aaL ws = T at *
 generalize (ws.length : Int) = N at *
 unfold fnP
 simp -dsimp [aaF, e1, ei, dr, drs, g1, el, en, bOf, tru]
theorem aqO {T : Tr} (h : T = .tup [.str "least"] ∨ T = .tup [.str "greatest"] ∨ T = .tup [.str "product"]) : gIn id T (.tup [(.tup [(.str "least")]), (.tup [(.str "greatest")]), (.tup [(.str "product")])]) = .ok (.bl true, false) := by
 rcases h with rfl | rfl | rfl <;> kernel_rfl
theorem ak5 {r : Ru} {n : Nat} (h : amO n r) (hn : n <= 12) : ac4 [ruT r, .int n] = .ok (.bl true, false) := by
 have bare : ∀ T : Tr, (T = .tup [.str "least"] ∨ T = .tup [.str "greatest"] ∨ T = .tup [.str "product"]) → ac4 [T, .int n] = .ok (.bl true, false) := fun T hT => by
  have e := aqO hT
  have e1 : acL T .tuple = true := by rcases hT with rfl | rfl | rfl <;> rfl
  have e2 : abf T = .ok (.int 1, false) := by rcases hT with rfl | rfl | rfl <;> rfl
  have e3 : gNe (.int 1) (.int 2) = .ok (.bl true, false) := rfl
  unfold ac4 aeb fnP
  simp -dsimp [aaF, eB, e1, e2, e3, e, dr, drs, g1, bOf, tru]
 cases r with
 | least => exact bare _ (.inl rfl)
 | greatest => exact bare _ (.inr (.inl rfl))
 | product => exact bare _ (.inr (.inr rfl))
 | sh ws =>
  obtain ⟨h1, h2⟩ := h
  subst h1
  have e := ag3 h2 hn
  have e2 : ∀ N : Tr, abf (.tup [.str "shares", N]) = .ok (.int 2, false) := fun _ => rfl
  have e3 : gNe (.int 2) (.int 2) = .ok (.bl false, false) := rfl
  have e4 := sEq "shares"
  show fnP 4 aeb [.tup [.str "shares", aaL ws], .int ws.length] = _
  unfold aeb fnP
  generalize aaL ws = T at *
  simp -dsimp [aaF, eB, acL, e2, e3, e4, e, isS, dr, drs, g1, bOf, tru]
 | mid k =>
  obtain ⟨h1, h2⟩ := h
  have e2 : ∀ N : Tr, abf (.tup [.str "middle", N]) = .ok (.int 2, false) := fun _ => rfl
  have e3 : gNe (.int 2) (.int 2) = .ok (.bl false, false) := rfl
  have e4 : gEq (.str "middle") (.str "shares") = .ok (.bl false, false) := sNe (by decide +kernel)
  have e5 := sEq "middle"
  have e6 := agI (.int k)
  have q1 : (1 : Int) <= k := by omega
  have q2 : (k : Int) <= n := by omega
  unfold ac4 aeb fnP ruT
  simp -dsimp [aaF, eB, acL, e2, e3, e4, e5, e6, isW, isS, dr, drs, g1, bOf, tru, gLe, gB, q1, q2]
noncomputable def plc (n : Nat) : Ru -> Nat
 | .mid k => k
 | .least => n
 | .greatest => 1
 | _ => 0
noncomputable def Wv (r : Ru) (xs : List (Int × Int)) (v : Int × Int) : Prop := match r with
 | .sh ws => v = shF (ws.zip xs) (0, 1)
 | .product => v = prF xs (1, 1)
 | r => ∃ zs, Dsc xs zs /\ zs[plc xs.length r - 1]? = some v
noncomputable def placed : Ru -> Bool
 | .mid _ => true
 | .least => true
 | .greatest => true
 | _ => false
theorem adV (r : Ru) : ∃ w : Str, gIx (ruT r) (.int 0) = .ok (.str w, false) ∧ gEq (.str w) (.str "shares") = .ok (.bl (match r with | .sh _ => true | _ => false), false) ∧ gEq (.str w) (.str "product") = .ok (.bl (match r with | .product => true | _ => false), false) ∧
  gEq (.str w) (.str "greatest") = .ok (.bl (match r with | .greatest => true | _ => false), false) ∧ gEq (.str w) (.str "least") = .ok (.bl (match r with | .least => true | _ => false), false) ∧ gEq (.str w) (.str "middle") = .ok (.bl (match r with | .mid _ => true | _ => false), false) := by
 cases r with
 | sh ws => exact ⟨"shares", rfl, sEq _, sNe (by decide +kernel), sNe (by decide +kernel), sNe (by decide +kernel), sNe (by decide +kernel)⟩
 | mid k => exact ⟨"middle", rfl, sNe (by decide +kernel), sNe (by decide +kernel), sNe (by decide +kernel), sNe (by decide +kernel), sEq _⟩
 | least => exact ⟨"least", rfl, sNe (by decide +kernel), sNe (by decide +kernel), sNe (by decide +kernel), sEq _, sNe (by decide +kernel)⟩
 | greatest => exact ⟨"greatest", rfl, sNe (by decide +kernel), sNe (by decide +kernel), sEq _, sNe (by decide +kernel), sNe (by decide +kernel)⟩
 | product => exact ⟨"product", rfl, sNe (by decide +kernel), sEq _, sNe (by decide +kernel), sNe (by decide +kernel), sNe (by decide +kernel)⟩
theorem agL {r : Ru} {n : Nat} (h : placed r = true) : aci [ruT r, .int n] = .ok (.int (plc n r : Nat), false) := by
 obtain ⟨w, e1, _, _, e2, e3, _⟩ := adV r
 cases r with
 | sh ws => cases h
 | product => cases h
 | least =>
  unfold aci aen fnP plc
  generalize ruT .least = T at *
  simp -dsimp [aaF, dr, e1, e2, e3, bOf]
 | greatest =>
  unfold aci aen fnP plc
  generalize ruT .greatest = T at *
  simp -dsimp [aaF, dr, e1, e2, e3, bOf]
 | mid k =>
  have e4 : gIx (ruT (.mid k)) (.int 1) = .ok (.int k, false) := rfl
  unfold aci aen fnP plc
  generalize ruT (.mid k) = T at *
  simp -dsimp [aaF, dr, e1, e2, e3, e4, bOf]
theorem amP {r : Ru} {n : Nat} (h : placed r = true) (ho : amO n r) (hn : 1 <= n) : 1 <= plc n r /\ plc n r <= n := by
 cases r with
 | sh ws => cases h
 | product => cases h
 | least => exact ⟨hn, Nat.le_refl _⟩
 | greatest => exact ⟨Nat.le_refl _, hn⟩
 | mid k => exact ho
theorem ajN {r : Ru} {xs : List (Int × Int)} (hx : ∀ x ∈ xs, Wo x) (h1 : 1 <= xs.length) (h2 : xs.length <= 12) (ho : amO xs.length r) : ∃ v, abh [ruT r, aaL xs] = .ok (fT v, false) /\ Wv r xs v := by
 have hq : ∀ x ∈ xs, Fq 45 x := fun x m => (hx x m).fq
 obtain ⟨w, e1, e2, e3, _⟩ := adV r
 have pl : placed r = true -> ∃ v, abh [ruT r, aaL xs] = .ok (fT v, false) /\ ∃ zs, Dsc xs zs /\ zs[plc xs.length r - 1]? = some v := fun hp => by
  obtain ⟨ys, ef, hf⟩ := aht (N := 40) xs (Wo.frs hx) (by omega) (by omega) (by omega)
  have pr := amP hp ho h1
  have ep := agL (n := xs.length) hp
  have ly : ys.length = xs.length := by have := hf.1.length_eq; simpa using this
  obtain ⟨i, hi⟩ : ∃ i, ys[plc xs.length r - 1]? = some i := ⟨_, List.getElem?_eq_getElem (by omega)⟩
  have il : i < xs.length := by simpa using hf.1.mem_iff.mp (List.mem_of_getElem? hi)
  refine ⟨xs.getD i (0, 1), ?_, _, hf.dsc, by rw [List.getElem?_map, hi]; rfl⟩
  have gg1 : gIx (.lst (ys.map fun i : Nat => Tr.int i)) (.int ((plc xs.length r - 1 : Nat) : Int)) = .ok (.int (i : Int), false) := adw (by rw [List.getElem?_map, hi]; rfl)
  have g2 := amE il
  have el : abf (aaL xs) = .ok (.int (xs.length : Int), false) := by
   show Rs.ok (Tr.int ((xs.map fT).length : Int), false) = _
   rw [List.length_map]
  have sub : ((plc xs.length r : Nat) : Int) - 1 = ((plc xs.length r - 1 : Nat) : Int) := by omega
  have ef' : abl [aaL xs] = .ok (.lst (ys.map fun i : Nat => Tr.int i), true) := ef
  have e2 : gEq (.str w) (.str "shares") = .ok (.bl false, false) := by cases r <;> first | exact e2 | cases hp
  have e3 : gEq (.str w) (.str "product") = .ok (.bl false, false) := by cases r <;> first | exact e3 | cases hp
  unfold abh adA fnP
  generalize fT (xs.getD i (0, 1)) = R at *
  generalize Tr.lst (ys.map fun i : Nat => Tr.int i) = Y at *
  generalize ruT r = T at *
  generalize aaL xs = X at *
  rw [<-sub] at gg1
  simp -dsimp [aaF, dr, drs, isS, e1, e2, e3, bOf, ef', el, ep, g1, ab3, gI, gg1, g2]
 cases r with
 | sh ws =>
  have es := agK ho.2 hq h2
  refine ⟨_, ?_, rfl⟩
  have e4 : gIx (ruT (.sh ws)) (.int 1) = .ok (aaL ws, false) := rfl
  unfold abh adA fnP
  generalize ruT (.sh ws) = T at *
  generalize fT (shF (ws.zip xs) (0, 1)) = R at *
  generalize aaL ws = W at *
  generalize aaL xs = X at *
  simp -dsimp [aaF, dr, drs, isS, e1, e2, bOf, e4, es]
 | product =>
  have es := afW hq h2
  refine ⟨_, ?_, rfl⟩
  unfold abh adA fnP
  generalize ruT .product = T at *
  generalize fT (prF xs (1, 1)) = R at *
  generalize aaL xs = X at *
  simp -dsimp [aaF, dr, drs, isS, e1, e2, e3, bOf, es]
 | least => exact pl rfl
 | greatest => exact pl rfl
 | mid k => exact pl rfl
theorem awi {xs : List (Int × Int)} (hx : ∀ x ∈ xs, Wo x) : LT xs := fun x m => ⟨(hx x m).2.2.1, (hx x m).2.2.2.2⟩
theorem Wv.uniq {r : Ru} {xs : List (Int × Int)} {v v' : Int × Int} (hx : ∀ x ∈ xs, Wo x) (a : Wv r xs v) (b : Wv r xs v') : v = v' := by
 cases r with
 | sh ws => exact a.trans b.symm
 | product => exact a.trans b.symm
 | least =>
  obtain ⟨z, d, e⟩ := a
  obtain ⟨z', d', e'⟩ := b
  rw [d.uniq (awi hx) d', e'] at e
  exact (Option.some.inj e).symm
 | greatest =>
  obtain ⟨z, d, e⟩ := a
  obtain ⟨z', d', e'⟩ := b
  rw [d.uniq (awi hx) d', e'] at e
  exact (Option.some.inj e).symm
 | mid k =>
  obtain ⟨z, d, e⟩ := a
  obtain ⟨z', d', e'⟩ := b
  rw [d.uniq (awi hx) d', e'] at e
  exact (Option.some.inj e).symm
theorem Fq.up {M N : Nat} {x : Int × Int} (h : Fq M x) (hl : M <= N) : Fq N x := by
 obtain ⟨h1, h2, h3, h4, h5⟩ := h
 have : (2 : Int) ^ M <= 2 ^ N := by
  have := Nat.pow_le_pow_right (n := 2) (by omega) hl
  have a := ak4 M
  have b := ak4 N
  omega
 exact ⟨h1, by omega, h3, by omega, h5⟩
theorem Wv.fq {r : Ru} {xs : List (Int × Int)} {v : Int × Int} (hx : ∀ x ∈ xs, Wo x) (hl : xs.length <= 4) (ho : amO xs.length r) (a : Wv r xs v) : Fq 400 v := by
 have hq : ∀ x ∈ xs, Fq 45 x := fun x m => (hx x m).fq
 have pl : (∃ zs, Dsc xs zs /\ zs[plc xs.length r - 1]? = some v) -> Fq 400 v := fun ⟨z, d, e⟩ => (hq v (d.1.mem_iff.mp (List.mem_of_getElem? e))).up (by omega)
 cases r with
 | sh ws =>
  have a : v = shF (ws.zip xs) (0, 1) := a
  rw [a]
  exact (apd _ _ 1 auL (apf ho.2 hq)).up (by rw [List.length_zip]; omega)
 | product =>
  have a : v = prF xs (1, 1) := a
  rw [a]
  exact (ape _ _ 1 awh hq).up (by omega)
 | least => exact pl a
 | greatest => exact pl a
 | mid k => exact pl a
end BH
end
section
set_option exponentiation.threshold 6000
namespace K15
open PySem L2 BH
theorem ah8 {x b : Int} {M : Nat} (hx : 0 <= x) (hb : 1 <= b) (hb2 : b < 2 ^ M) (hM : M <= 8000) : acu [.int x, .int b] = .ok (fT (red x b), false) := by
 obtain ⟨g1, g2, _⟩ := ad4 (a := x) (b := b) (by omega)
 have e1 : x.fdiv (Int.gcd x b : Nat) = x / (Int.gcd x b : Nat) := Int.fdiv_eq_ediv_of_nonneg _ (by omega)
 have e2 : b.fdiv (Int.gcd x b : Nat) = b / (Int.gcd x b : Nat) := Int.fdiv_eq_ediv_of_nonneg _ (by omega)
 have hw := ajI (.sh (.int x)) (.sh (.int b)) (b.natAbs + 1) x b hx (by omega) (by omega)
 have np := ak4 M
 show fnP 4 (aaP (ab9 (aag 0) (gN 2)) (aaP (ab9 (aag 1) (gN 3)) (aaP (ada (adX (fuI 3) frC frW)) (abn (ahH (aae (eOp acB (aag 0) (aag 2)) (aae (eOp acB (aag 1) (aag 2)) aar))))))) [.int x, .int b] = _
 unfold red
 generalize hg : ((Int.gcd x b : Nat) : Int) = g at *
 have h3 : ada (adX (fuI 3) frC frW) [.sh (.int x), .sh (.int b), .sh (.int x), .sh (.int b)] = .ok (.nx, [.sh (.int x), .sh (.int b), .sh (.int g), .sh (.int 0)]) := by
  unfold ada adX
  rw [show fuI 3 [.sh (.int x), .sh (.int b), .sh (.int x), .sh (.int b)] = b.natAbs + 1 from rfl, hw]
  rfl
 generalize ada _ = G at h3 ⊢
 have c1 : ∀ n, alo n g = true := fun n => aeQ (M := M) (by omega) (by omega) hM
 unfold fnP fT
 simp -dsimp [abN, frz, dow, abw, con, acQ, eB, bOf, tru, dr, drs, cls, clV, adk, g1, g2, gI, gIC, gB, gEq, gNe, gIn, abB, abI, acB, acz, acy, ab3, gLt, gGt, gLe, gGe, gIx, abf, adb, abk, aa3, ac9, adB, acq, acP, okR, iOf, isS, others, ab5, abE, acf, acM, acV, aaz, aa4, aaD, aaK, aaG, aaI, aav, aaq, aaS, aa5, aa0, acL, atI, ixN, aaF, h3, c1, e1, e2]
theorem aqP (a b : Int) : ∃ (a' b' : Int) (rows : List (List (Int × Int))) (c : Nat), ahq [.lst [.int a, .int b]] = .ok ((bkT rows, true), [.int a', .int b']) /\ Bk c rows := by
 obtain ⟨x, a1, b1, e1, x0, x1⟩ := acv a b 4 (by omega) (by decide)
 obtain ⟨y, a2, b2, e2, y0, y1⟩ := acv a1 b1 12 (by omega) (by decide)
 obtain ⟨k, hk⟩ : ∃ k : Nat, (k : Int) = 1 + x := ⟨(1 + x).toNat, by omega⟩
 obtain ⟨c, hc⟩ : ∃ k : Nat, (k : Int) = 1 + y := ⟨(1 + y).toNat, by omega⟩
 obtain ⟨a', b', rows, e4, h1, h2⟩ := aou a2 b2 (k := k) (c := c) (by omega) (by omega)
 refine ⟨a', b', rows, c, ?_, by omega, by omega, by omega, by omega, h2⟩
 generalize bkT rows = T at e4 ⊢
 unfold ahq ao7 fnR
 simp -dsimp [abN, frz, dow, abw, con, acQ, eB, bOf, tru, dr, drs, cls, clV, adk, g1, g2, acP, okR, iOf, isS, others, ab5, abE, acf, acM, acV, aaF, adI, e1, e2, abB, <-hk, <-hc, e4, adH, ai4]
noncomputable def tpE : EF := (eOp gIx (afi (aae (eC (.int 0)) (aae (eC (.int 1)) (aae (eOp abB (eC (.int 1)) (abb 0 abj (aae (aag 0) (aae (eC (.int 9)) aar)))) (aae (abb 0 abj (aae (aag 0) (aae (eOp acy (eC (.int 10)) (eC (.int 12))) aar))) aar))))) (aag 5))
noncomputable def boE : EF := (eOp gIx (afi (aae (eC (.int 1)) (aae (eC (.int 1)) (aae (eOp abB (eC (.int 1)) (abb 0 abj (aae (aag 0) (aae (eC (.int 9)) aar)))) (aae (eOp abB (eC (.int 1)) (abb 0 abj (aae (aag 0) (aae (eOp ab3 (eOp acy (eC (.int 10)) (eC (.int 12))) (eC (.int 1))) aar)))) aar))))) (aag 5))
theorem four {p q r s : Int} {j : Int} (h0 : 0 <= j) (h1 : j < 4) {P : Int -> Prop} (hp : P p) (hq : P q) (hr : P r) (hs : P s) : ∃ v, gIx (.lst [.int p, .int q, .int r, .int s]) (.int j) = .ok (.int v, false) /\ P v := by
 rcases (show j = 0 \/ j = 1 \/ j = 2 \/ j = 3 by omega) with rfl | rfl | rfl | rfl
 ·exact ⟨p, rfl, hp⟩
 ·exact ⟨q, rfl, hq⟩
 ·exact ⟨r, rfl, hr⟩
 ·exact ⟨s, rfl, hs⟩
theorem atO (a b : Int) (s1 s2 s3 s4 s6 : Sl) {j : Int} (h0 : 0 <= j) (h1 : j < 4) : ∃ (v a' b' : Int), tpE [.rf [.int a, .int b], s1, s2, s3, s4, .sh (.int j), s6] = .ok (.v (.int v) false, [.rf [.int a', .int b'], s1, s2, s3, s4, .sh (.int j), s6]) /\ 0 <= v /\ v <= 1000000000000 := by
 obtain ⟨x, a1, b1, e1, x0, x1⟩ := acv a b 9 (by omega) (by decide)
 obtain ⟨y, a2, b2, e2, y0, y1⟩ := acv a1 b1 1000000000000 (by omega) (by decide)
 have p12 : acy (.int 10) (.int 12) = .ok (.int 1000000000000, false) := by kernel_rfl
 obtain ⟨v, ev, hv⟩ := four (p := 0) (q := 1) (r := 1 + x) (s := y) h0 h1 (P := fun v => 0 <= v /\ v <= 1000000000000) (by omega) (by omega) (by omega) (by omega)
 refine ⟨v, a2, b2, ?_, hv⟩
 unfold tpE
 simp -dsimp [con, drs, dr, isS, others, abw, cls, aor, e1, p12, e2, ev]
theorem atP (a b : Int) (s1 s2 s3 s4 s6 : Sl) {j : Int} (h0 : 0 <= j) (h1 : j < 4) : ∃ (v a' b' : Int), boE [.rf [.int a, .int b], s1, s2, s3, s4, .sh (.int j), s6] = .ok (.v (.int v) false, [.rf [.int a', .int b'], s1, s2, s3, s4, .sh (.int j), s6]) /\ 1 <= v /\ v <= 1000000000000 := by
 obtain ⟨x, a1, b1, e1, x0, x1⟩ := acv a b 9 (by omega) (by decide)
 obtain ⟨y, a2, b2, e2, y0, y1⟩ := acv a1 b1 999999999999 (by omega) (by decide)
 have p12 : acy (.int 10) (.int 12) = .ok (.int 1000000000000, false) := by kernel_rfl
 obtain ⟨v, ev, hv⟩ := four (p := 1) (q := 1) (r := 1 + x) (s := 1 + y) h0 h1 (P := fun v => 1 <= v /\ v <= 1000000000000) (by omega) (by omega) (by omega) (by omega)
 refine ⟨v, a2, b2, ?_, hv⟩
 unfold boE
 simp -dsimp [con, drs, dr, isS, others, abw, cls, aor, e1, p12, ab3, gI, e2, ev]
noncomputable def wtB : SF := (aaP (ab9 (abb 0 abj (aae (aag 0) (aae (eC (.int 4)) aar))) (gN 5)) (aaP (ab9 tpE (gN 6)) (aeu (eMt 3 akc (aae (aat acu (aae (aag 6) (aae boE aar))) aar)))))
theorem atQ (a b : Int) (s1 s2 s4 s5 s6 : Sl) {ws : List (Int × Int)} (hl : ws.length <= 100) : ∃ (a' b' : Int) (t5 t6 : Sl) (w : Int × Int), wtB [.rf [.int a, .int b], s1, s2, .ow (ws.map fT), s4, s5, s6] = .ok (.nx, [.rf [.int a', .int b'], s1, s2, .ow ((ws ++ [w]).map fT), s4, t5, t6]) /\ Fq 45 w := by
 obtain ⟨j, a1, b1, e1, j0, j1⟩ := acv a b 4 (by omega) (by decide)
 obtain ⟨p, a2, b2, e2, p0, p1⟩ := atO a1 b1 s1 s2 (.ow (ws.map fT)) s4 s6 j0 j1
 obtain ⟨q, a3, b3, e3, q0, q1⟩ := atP a2 b2 s1 s2 (.ow (ws.map fT)) s4 (.sh (.int p)) j0 j1
 have e4 := ah8 (x := p) (b := q) (M := 60) p0 q0 (by omega) (by omega)
 refine ⟨a3, b3, .sh (.int j), .sh (.int p), red p q, ?_, amL p0 (by omega) q0 (by omega)⟩
 have m1 := ah7 (ts := ws.map fT) (t := fT (red p q)) (by rw [List.length_map]; omega)
 rw [List.map_append, List.map_singleton]
 generalize fT (red p q) = R at *
 generalize ws.map fT = L at *
 unfold wtB
 generalize tpE = G1 at e2 ⊢
 generalize boE = G2 at e3 ⊢
 simp -dsimp [con, drs, dr, isS, others, abw, cls, e1, e2, e3, e4, m1]
theorem amQ (s1 s2 : Sl) : ∀ (us : List Tr) (a b : Int) (s4 s5 s6 : Sl) (ws : List (Int × Int)), ws.length + us.length <= 100 -> (∀ w ∈ ws, Fq 45 w) -> ∃ (a' b' : Int) (t4 t5 t6 : Sl) (vs : List (Int × Int)), abW (gN 4) wtB us [.rf [.int a, .int b], s1, s2, .ow (ws.map fT), s4, s5, s6] = .ok (.nx, [.rf [.int a', .int b'], s1, s2, .ow (vs.map fT), t4, t5, t6]) /\ vs.length = ws.length + us.length /\ ∀ w ∈ vs, Fq 45 w
 | [], a, b, s4, s5, s6, ws, _, h => ⟨a, b, s4, s5, s6, ws, rfl, rfl, h⟩
 | u :: us, a, b, s4, s5, s6, ws, hl, h => by
  rw [List.length_cons] at hl
  obtain ⟨a1, b1, t5, t6, w, e, hw⟩ := atQ a b s1 s2 (.sh u) s5 s6 (show ws.length <= 100 by omega)
  obtain ⟨a', b', r4, r5, r6, vs, e', g1, g2⟩ := amQ s1 s2 us a1 b1 (.sh u) t5 t6 (ws ++ [w]) (by simp; omega) (fun x hx => (List.mem_append.mp hx).elim (h x) fun z => (List.mem_singleton.mp z) ▸ hw)
  refine ⟨a', b', r4, r5, r6, vs, ?_, by rw [g1]; simp; omega, g2⟩
  unfold abW
  rw [show gN 4 u [.rf [.int a, .int b], s1, s2, .ow (ws.map fT), s4, s5, s6] = .ok [.rf [.int a, .int b], s1, s2, .ow (ws.map fT), .sh u, s5, s6] from rfl]
  simp only [Rs.aaV]
  rw [e]
  exact e'
noncomputable def ruW : SF := (aaP (ai3 3 (afi aar)) (aaP (ada (aeF (afP (aae (aag 1) aar)) (gN 4) wtB)) (ara 3 (abn (ahH (aae (eC (.str "shares")) (aae (aag 3) aar)))))))
theorem atR (a b : Int) {k : Nat} (hk : k <= 4) (s2 : Sl) : ∃ (a' b' : Int) (vs : List (Int × Int)) (ρ : En), ruW [.rf [.int a, .int b], .sh (.int k), s2, .un, .un, .un, .un] = .ok (.rt (ruT (.sh vs)) false, .rf [.int a', .int b'] :: ρ) /\ vs.length = k /\ ∀ w ∈ vs, Fq 45 w := by
 obtain ⟨a', b', t4, t5, t6, vs, e, h1, h2⟩ := amQ (.sh (.int k)) s2 (L2.upTo 0 k) a b .un .un .un [] (by rw [adU]; simp; omega) (by simp)
 rw [adU] at h1
 have q1 : (-1000000 : Int) <= k := by omega
 have q2 : (k : Int) <= 1000000 := by omega
 have e' : abW (gN 4) wtB (L2.upTo 0 k) [.rf [.int a, .int b], .sh (.int k), s2, .ow [], .un, .un, .un] = .ok (.nx, [.rf [.int a', .int b'], .sh (.int k), s2, .ow (vs.map fT), t4, t5, t6]) := e
 refine ⟨a', b', vs, [.sh (.int k), s2, .sh (aaL vs), t4, t5, t6], ?_, by simpa using h1, h2⟩
 show _ = Rs.ok (Fl.rt (.tup [.str "shares", .lst (vs.map fT)]) false, (.rf [.int a', .int b'] :: [.sh (.int k), s2, .sh (.lst (vs.map fT)), t4, t5, t6] : En))
 unfold ruW
 generalize wtB = G at e' ⊢
 generalize vs.map fT = L at *
 simp -dsimp [abN, frz, dow, abw, con, acQ, eB, bOf, tru, dr, drs, cls, clV, adk, g1, g2, acP, okR, iOf, isS, others, ab5, abE, acf, acM, acV, aaF, adI, q1, q2, e']
theorem aow : ao8 = (aaP (ab9 (abb 0 abj (aae (aag 0) (aae (eC (.int 7)) aar))) (gN 2)) (aaP (sIf (aa8 (eOp gEq (aag 2) (eC (.int 0)))) (abn (ahH (aae (eC (.str "middle")) (aae (eOp abB (eC (.int 1)) (abb 0 abj (aae (aag 0) (aae (aag 1) aar)))) aar)))) acC) (aaP (sIf (aa8 (eOp gLt (aag 2) (eC (.int 4)))) (abn (eOp gIx (eCL [.tup [.str "least"], .tup [.str "greatest"], .tup [.str "product"]]) (eOp ab3 (aag 2) (eC (.int 1))))) acC) ruW))) := rfl
theorem aqQ (a b : Int) {k : Nat} (h1 : 1 <= k) (h4 : k <= 4) : ∃ (r : Ru) (a' b' : Int), ahr [.lst [.int a, .int b], .int k] = .ok ((ruT r, false), [.int a', .int b']) /\ amO k r := by
 obtain ⟨x, a1, b1, e1, x0, x1⟩ := acv a b 7 (by omega) (by decide)
 unfold ahr
 rw [aow]
 by_cases h0 : x = 0
 ·subst h0
  obtain ⟨y, a2, b2, e2, y0, y1⟩ := acv a1 b1 k (by omega) (by omega)
  obtain ⟨j, hj⟩ : ∃ j : Nat, (j : Int) = 1 + y := ⟨(1 + y).toNat, by omega⟩
  refine ⟨.mid j, a2, b2, ?_, by omega, by omega⟩
  show _ = Rs.ok ((Tr.tup [.str "middle", .int j], false), [Tr.int a2, Tr.int b2])
  unfold fnR
  generalize ruW = G
  simp -dsimp [aaF, con, drs, dr, isS, others, abw, abN, adH, ai4, cls, e1, gEq, aaz, aaS, bOf, abB, e2, hj]
 ·have q : (x == 0) = false := by simp [h0]
  by_cases h3 : x < 4
  ·obtain ⟨r, er, hr⟩ : ∃ r, gIx (.lst [.tup [.str "least"], .tup [.str "greatest"], .tup [.str "product"]]) (.int (x - 1)) = .ok (ruT r, false) /\ amO k r := by
    rcases (show x = 1 \/ x = 2 \/ x = 3 by omega) with rfl | rfl | rfl
    ·exact ⟨.least, rfl, trivial⟩
    ·exact ⟨.greatest, rfl, trivial⟩
    ·exact ⟨.product, rfl, trivial⟩
   refine ⟨r, a1, b1, ?_, hr⟩
   generalize ([.tup [.str "least"], .tup [.str "greatest"], .tup [.str "product"]] : List Tr) = L at *
   generalize ruW = G
   generalize ruT r = R at *
   unfold fnR
   simp -dsimp [aaF, con, drs, dr, isS, others, abw, abN, adH, ai4, cls, e1, gEq, aaz, aaS, q, bOf, gLt, gB, h3, ab3, gI, er]
  ·obtain ⟨a', b', vs, ρ, e2, g1, g2⟩ := atR a1 b1 h4 (.sh (.int x))
   refine ⟨.sh vs, a', b', ?_, g1, g2⟩
   generalize ruW = G at e2 ⊢
   generalize ruT (.sh vs) = R at *
   unfold fnR
   simp -dsimp [aaF, con, drs, dr, isS, others, abw, abN, adH, ai4, cls, e1, gEq, aaz, aaS, q, bOf, gLt, gB, h3, e2]
end K15
end
section
set_option exponentiation.threshold 6000
namespace L2
open PySem
@[simp] theorem amR (src : List (Option Nat)) (n : Nat) (g : GF) (c : BF) (f : EF) (ρ : En) : ahn src n g c f ρ = bd (con ρ n) (fun us => if us.length <= 100000 then bd (abN (ad8 g c f us (ab5 src ρ))) (fun z => if acf src z.2 ρ = true then .ok (.v (.lst z.1) true, abE src z.2 ρ) else .bad) .mk else .bad) .mk := rfl
@[simp] theorem auM (fa : AF) (ρ : En) : aoc fa ρ = bd (fa ρ) (fun p => match p.1 with
 | [.v (.lst us) _] => .ok (aiK us, p.2)
 | _ => .bad) .mk := rfl
end L2
namespace K15
open PySem L2 BH
theorem atU {a b c d : Int} (hb : 1 <= b) (hd : 1 <= d) (h : a * d = c * b) : red a b = red c d := by
 obtain ⟨_, p1, g1⟩ := agJ (a := a) hb
 obtain ⟨_, p2, g2⟩ := agJ (a := c) hd
 exact akC p1 p2 g1 g2 (ajK hb hd (by omega)) (ajK hd hb (by omega))
theorem aqR {t w x : Int × Int} (ht : 1 <= t.2) (hw : 1 <= w.2) (hx : 1 <= x.2) : red (t.1 * (w.2 * x.2) + (w.1 * x.1) * t.2) (t.2 * (w.2 * x.2)) = sumF t (afj w x) := by
 have p := Int.mul_pos (a := w.2) (b := x.2) (by omega) (by omega)
 obtain ⟨e, py, _⟩ := agJ (a := w.1 * x.1) (b := w.2 * x.2) (by omega)
 unfold sumF
 show _ = red (t.1 * (afj w x).2 + (afj w x).1 * t.2) (t.2 * (afj w x).2)
 have e : w.1 * x.1 * (afj w x).2 = (afj w x).1 * (w.2 * x.2) := e
 have py : 1 <= (afj w x).2 := py
 generalize afj w x = y at *
 generalize w.1 * x.1 = m1 at *
 generalize w.2 * x.2 = m2 at *
 have p1 := Int.mul_pos (a := t.2) (b := m2) (by omega) (by omega)
 have p2 := Int.mul_pos (a := t.2) (b := y.2) (by omega) (by omega)
 refine atU (by omega) (by omega) ?_
 rw [Int.add_mul, Int.add_mul]
 have e1 : m1 * t.2 * (t.2 * y.2) = (m1 * y.2) * (t.2 * t.2) := by ac_rfl
 have e2 : y.1 * t.2 * (t.2 * m2) = (y.1 * m2) * (t.2 * t.2) := by ac_rfl
 have e3 : t.1 * m2 * (t.2 * y.2) = t.1 * y.2 * (t.2 * m2) := by ac_rfl
 rw [e1, e2, e3, e]
noncomputable def ofB : SF := (aaP (sIf (aa8 (eOp gEq (eOp gIx (aag 0) (eC (.int 0))) (eC (.str "product")))) (ab9 (aat acu (aae (eOp abI (aag 2) (eOp gIx (aag 5) (eC (.int 0)))) (aae (eOp abI (aag 3) (eOp gIx (aag 5) (eC (.int 1)))) aar))) (gT 2 (aaJ (gN 2) (aaJ (gN 3) acr)))) acC) (sIf (aa8 (eOp gEq (eOp gIx (aag 0) (eC (.int 0))) (eC (.str "shares")))) (aaP (ab9 (ahH (aae (eOp abI (eOp gIx (eOp gIx (eOp gIx (aag 0) (eC (.int 1))) (aag 4)) (eC (.int 0))) (eOp gIx (aag 5) (eC (.int 0)))) (aae (eOp abI (eOp gIx (eOp gIx (eOp gIx (aag 0) (eC (.int 1))) (aag 4)) (eC (.int 1))) (eOp gIx (aag 5) (eC (.int 1)))) aar))) (gN 6)) (ab9 (aat acu (aae (eOp abB (eOp abI (aag 2) (eOp gIx (aag 6) (eC (.int 1)))) (eOp abI (eOp gIx (aag 6) (eC (.int 0))) (aag 3))) (aae (eOp abI (aag 3) (eOp gIx (aag 6) (eC (.int 1)))) aar))) (gT 2 (aaJ (gN 2) (aaJ (gN 3) acr))))) acC))
noncomputable def atV (r : Ru) (st : Nat -> Int × Int -> Int × Int -> Int × Int) : Prop := ∀ (i : Nat) (x t : Int × Int) (M : Nat) (s1 s6 s7 : Sl), Fq 45 x -> Fq M t -> M + 91 <= 8000 -> (∀ ws, r = .sh ws -> i < ws.length) ->
 ∃ t6, ofB [.sh (ruT r), s1, .sh (.int t.1), .sh (.int t.2), .sh (.int i), .sh (fT x), s6, s7] = .ok (.nx, [.sh (ruT r), s1, .sh (.int (st i t x).1), .sh (.int (st i t x).2), .sh (.int i), .sh (fT x), t6, s7]) /\ Fq (M + 91) (st i t x)
theorem g0 (x : Int × Int) : gIx (fT x) (.int 0) = .ok (.int x.1, false) := rfl
theorem g1' (x : Int × Int) : gIx (fT x) (.int 1) = .ok (.int x.2, false) := rfl
theorem agM {i j : Int} (h : aeE i j = true) : abI (.int i) (.int j) = .ok (.int (i * j), false) := by
 show (if aeE i j = true then Rs.ok (Tr.int (i * j), false) else .bad) = _
 rw [if_pos h]
theorem aqS : atV .product fun _ t x => afj t x := fun i x t M s1 s6 s7 hx ht hM _ => by
 obtain ⟨w, e1, e2, e3, _⟩ := adV .product
 have e2 : gEq (.str w) (.str "shares") = .ok (.bl false, false) := e2
 have e3 : gEq (.str w) (.str "product") = .ok (.bl true, false) := e3
 have nM := ak4 M
 have f := aej ht hx
 refine ⟨s6, ?_, f.up (by omega)⟩
 have c1 : aeE t.1 x.1 = true := ab8 (M := M) (N := 45) (by have := ht.1; have := ht.2.1; omega) (by omega) (by have := hx.1; have := hx.2.1; omega) (by omega)
 have c2 : aeE t.2 x.2 = true := ab8 (M := M) (N := 45) (by have := ht.2.2.1; have := ht.2.2.2.1; omega) (by omega) (by have := hx.2.2.1; have := hx.2.2.2.1; omega) (by omega)
 have p := Int.mul_pos (a := t.2) (b := x.2) (by have := ht.2.2.1; omega) (by have := hx.2.2.1; omega)
 have e := ah8 (x := t.1 * x.1) (b := t.2 * x.2) (M := M + 45) (Int.mul_nonneg ht.1 hx.1) (by omega) (acw (by have := ht.2.2.1; omega) ht.2.2.2.1 (by have := hx.2.2.1; omega) hx.2.2.2.1) (by omega)
 have e : acu [.int (t.1 * x.1), .int (t.2 * x.2)] = .ok (fT (afj t x), false) := e
 have a0 := g0 x
 have a1 := g1' x
 dsimp only
 generalize afj t x = y at *
 unfold fT at e
 generalize fT x = X at *
 unfold ofB
 generalize ruT .product = R at *
 simp -dsimp [dr, drs, isS, e1, e2, e3, bOf, a0, a1, abI, gIC, c1, c2, e]
theorem awj (ws : List (Int × Int)) (hw : ∀ w ∈ ws, Fq 45 w) : atV (.sh ws) fun i t x => sumF t (afj (at2 ws i) x) := fun i x t M s1 s6 s7 hx ht hM hi => by
 have hi := hi ws rfl
 obtain ⟨w, e1, e2, e3, _⟩ := adV (.sh ws)
 have e2 : gEq (.str w) (.str "shares") = .ok (.bl true, false) := e2
 have e3 : gEq (.str w) (.str "product") = .ok (.bl false, false) := e3
 have nM := ak4 M
 have hwi : Fq 45 (at2 ws i) := hw _ (by unfold at2; simp [hi])
 have ew : gIx (aaL ws) (.int i) = .ok (fT (at2 ws i), false) := amE hi
 have e4 : gIx (ruT (.sh ws)) (.int 1) = .ok (aaL ws, false) := rfl
 have f := ajL ht (aej hwi hx)
 have er := aqR ht.2.2.1 hwi.2.2.1 hx.2.2.1
 have a0 := g0 x
 have a1 := g1' x
 have b0 := g0 (at2 ws i)
 have b1 := g1' (at2 ws i)
 have c1 : aeE (at2 ws i).1 x.1 = true := ab8 (M := 45) (N := 45) (by have := hwi.1; have := hwi.2.1; omega) (by omega) (by have := hx.1; have := hx.2.1; omega) (by omega)
 have c2 : aeE (at2 ws i).2 x.2 = true := ab8 (M := 45) (N := 45) (by have := hwi.2.2.1; have := hwi.2.2.2.1; omega) (by omega) (by have := hx.2.2.1; have := hx.2.2.2.1; omega) (by omega)
 have c1 := agM c1
 have c2 := agM c2
 have n1 := Int.mul_nonneg hwi.1 hx.1
 have l1 := acw hwi.1 hwi.2.1 hx.1 hx.2.1
 have n2 := Int.mul_pos (a := (at2 ws i).2) (b := x.2) (by have := hwi.2.2.1; omega) (by have := hx.2.2.1; omega)
 have l2 := acw (by have := hwi.2.2.1; omega) hwi.2.2.2.1 (by have := hx.2.2.1; omega) hx.2.2.2.1
 dsimp only
 rw [<-er] at f ⊢
 generalize (at2 ws i).1 * x.1 = m1 at *
 generalize (at2 ws i).2 * x.2 = m2 at *
 have n90 := ak4 (45 + 45)
 have c3 : aeE t.1 m2 = true := ab8 (M := M) (N := 45 + 45) (by have := ht.1; have := ht.2.1; omega) (by omega) (by omega) (by omega)
 have c4 : aeE m1 t.2 = true := ab8 (M := 45 + 45) (N := M) (by omega) (by omega) (by have := ht.2.2.1; have := ht.2.2.2.1; omega) (by omega)
 have c5 : aeE t.2 m2 = true := ab8 (M := M) (N := 45 + 45) (by have := ht.2.2.1; have := ht.2.2.2.1; omega) (by omega) (by omega) (by omega)
 have c3 := agM c3
 have c4 := agM c4
 have c5 := agM c5
 have p := Int.mul_pos (a := t.2) (b := m2) (by have := ht.2.2.1; omega) (by omega)
 have k1 := Int.mul_nonneg ht.1 (show 0 <= m2 by omega)
 have k2 := Int.mul_nonneg n1 (show 0 <= t.2 by have := ht.2.2.1; omega)
 have e := ah8 (x := t.1 * m2 + m1 * t.2) (b := t.2 * m2) (M := M + (45 + 45)) (by omega) (by omega) (acw (by have := ht.2.2.1; omega) ht.2.2.2.1 (by omega) l2) (by omega)
 refine ⟨.sh (.tup [.int m1, .int m2]), ?_, f.up (by omega)⟩
 have i0 : gIx (.tup [.int m1, .int m2]) (.int 0) = .ok (.int m1, false) := rfl
 have i1 : gIx (.tup [.int m1, .int m2]) (.int 1) = .ok (.int m2, false) := rfl
 generalize red (t.1 * m2 + m1 * t.2) (t.2 * m2) = y at *
 unfold fT at e
 generalize fT x = X at *
 generalize fT (at2 ws i) = Wt at *
 unfold ofB
 generalize ruT (.sh ws) = R at *
 generalize aaL ws = WW at *
 simp -dsimp [dr, drs, isS, e1, e2, e3, bOf, e4, ew, b0, b1, a0, a1, c1, c2, cls, i0, i1, c3, c4, c5, aor, e]
theorem awk {r : Ru} (h : placed r = true) : atV r fun _ t _ => t := fun i x t M s1 s6 s7 hx ht hM _ => by
 obtain ⟨w, e1, e2, e3, _⟩ := adV r
 have e2 : gEq (.str w) (.str "shares") = .ok (.bl false, false) := by cases r <;> first | exact e2 | cases h
 have e3 : gEq (.str w) (.str "product") = .ok (.bl false, false) := by cases r <;> first | exact e3 | cases h
 refine ⟨s6, ?_, ht.up (by omega)⟩
 dsimp only
 unfold ofB
 generalize ruT r = R at *
 simp -dsimp [dr, e1, e2, e3, bOf]
noncomputable def fin (st : Nat -> Int × Int -> Int × Int -> Int × Int) : List (Int × Int) -> Nat -> Int × Int -> Int × Int
 | [], _, t => t
 | x :: xs, n, t => fin st xs (n + 1) (st n t x)
noncomputable def eT (p : (Int × Int) × Nat) : Tr := .tup [.int (p.2 : Nat), fT p.1]
theorem amS {r : Ru} {st : Nat -> Int × Int -> Int × Int -> Int × Int} (hB : atV r st) (s1 s7 : Sl) : ∀ (xs : List (Int × Int)) (n : Nat) (t : Int × Int) (M : Nat) (s4 s5 s6 : Sl), (∀ x ∈ xs, Fq 45 x) -> Fq M t -> M + 91 * xs.length <= 8000 -> (∀ ws, r = .sh ws -> n + xs.length <= ws.length) ->
  ∃ t4 t5 t6, abW (gT 2 (aaJ (gN 4) (aaJ (gN 5) acr))) ofB ((xs.zipIdx n).map eT) [.sh (ruT r), s1, .sh (.int t.1), .sh (.int t.2), s4, s5, s6, s7] = .ok (.nx, [.sh (ruT r), s1, .sh (.int (fin st xs n t).1), .sh (.int (fin st xs n t).2), t4, t5, t6, s7])
 | [], n, t, M, s4, s5, s6, _, _, _, _ => ⟨s4, s5, s6, rfl⟩
 | x :: xs, n, t, M, s4, s5, s6, hx, ht, hl, hw => by
  rw [List.length_cons] at hl
  obtain ⟨t6, e, f⟩ := hB n x t M s1 s6 s7 (hx x (by simp)) ht (by omega) (fun ws z => by have := hw ws z; rw [List.length_cons] at this; omega)
  obtain ⟨r4, r5, r6, e'⟩ := amS hB s1 s7 xs (n + 1) (st n t x) (M + 91) (.sh (.int n)) (.sh (fT x)) t6 (fun y hy => hx y (by simp [hy])) f (by omega) (fun ws z => by have := hw ws z; rw [List.length_cons] at this; omega)
  refine ⟨r4, r5, r6, ?_⟩
  rw [List.zipIdx_cons, List.map_cons]
  unfold abW
  rw [show (gT 2 (aaJ (gN 4) (aaJ (gN 5) acr))) (eT (x, n)) [.sh (ruT r), s1, .sh (.int t.1), .sh (.int t.2), s4, s5, s6, s7] = .ok [.sh (ruT r), s1, .sh (.int t.1), .sh (.int t.2), .sh (.int n), .sh (fT x), s6, s7] from rfl]
  simp only [Rs.aaV]
  rw [e]
  exact e'
theorem aqT (xs : List (Int × Int)) : aiK (xs.map fT) = (xs.zipIdx 0).map eT := by
 unfold aiK
 rw [List.zipIdx_map, List.map_map]
 rfl
theorem akE : ∀ (xs : List (Int × Int)) (n : Nat) (t : Int × Int), fin (fun _ t x => afj t x) xs n t = prF xs t
 | [], _, _ => rfl
 | x :: xs, n, t => akE xs (n + 1) (afj t x)
theorem apg (ws : List (Int × Int)) : ∀ (xs : List (Int × Int)) (n : Nat) (t : Int × Int), n + xs.length <= ws.length -> fin (fun i t x => sumF t (afj (at2 ws i) x)) xs n t = shF ((ws.drop n).zip xs) t
 | [], n, t, _ => by simp [fin, shF]
 | x :: xs, n, t, h => by
  rw [List.length_cons] at h
  have hn : n < ws.length := by omega
  rw [List.drop_eq_getElem_cons hn]
  have e : at2 ws n = ws[n] := by unfold at2; simp [hn]
  show fin _ xs (n + 1) (sumF t (afj (at2 ws n) x)) = shF ((ws.drop (n + 1)).zip xs) (sumF t (afj ws[n] x))
  rw [apg ws xs (n + 1) _ (by omega), e]
theorem aph : ∀ (xs : List (Int × Int)) (n : Nat) (t : Int × Int), fin (fun _ t _ => t) xs n t = t
 | [], _, _ => rfl
 | x :: xs, n, t => aph xs (n + 1) t
theorem aqU {zs : List (Int × Int)} {w : Int × Int} {q : Nat} (hz : ∀ z ∈ zs, Fq 45 z) (hw : Fq 45 w) (h : zs.Pairwise fun a b => le2 b a) (hq : q <= zs.length) (h1 : ∀ j (h : j < zs.length), j < q -> le2 w zs[j]) (h2 : ∀ h : q < zs.length, le2 zs[q] w) : (zs.take q ++ w :: zs.drop q).Pairwise fun a b => le2 b a := by
 have pw := List.pairwise_iff_getElem.mp h
 rw [List.pairwise_append]
 refine ⟨h.sublist (List.take_sublist _ _), List.pairwise_cons.mpr ⟨fun b hb => ?_, h.sublist (List.drop_sublist _ _)⟩, fun a ha b hb => ?_⟩
 ·obtain ⟨j, hj, rfl⟩ := List.getElem_of_mem hb
  rw [List.getElem_drop]
  have jl : q + j < zs.length := by rw [List.length_drop] at hj; omega
  have a1 := h2 (by omega)
  by_cases z : j = 0
  ·subst z; exact a1
  ·have a2 := pw q (q + j) (by omega) jl (by omega)
   exact aiU (hz _ (List.getElem_mem jl)).2.2.1 (hz _ (List.getElem_mem (by omega))).2.2.1 hw.2.2.1 a2 a1
 ·obtain ⟨j, hj, rfl⟩ := List.getElem_of_mem ha
  rw [List.length_take] at hj
  rw [List.getElem_take]
  have a1 := h1 j (by omega) (by omega)
  rcases List.mem_cons.mp hb with rfl | hb
  ·exact a1
  ·obtain ⟨i, hi, rfl⟩ := List.getElem_of_mem hb
   rw [List.length_drop] at hi
   rw [List.getElem_drop]
   exact pw j (q + i) (by omega) (by omega) (by omega)
theorem atX {x z : Int × Int} (h : lt2 x z = true) : le2 x z := by
 unfold lt2 at h
 have := of_decide_eq_true h
 unfold le2
 omega
theorem akF {x : Int × Int} (hx : Fq 45 x) : ∀ (zs : List (Int × Int)), (∀ z ∈ zs, Fq 45 z) -> zs.Pairwise (fun a b => le2 b a) -> (∀ j (h : j < zs.length), j < (zs.filter (lt2 x)).length -> le2 x zs[j]) /\ ∀ h : (zs.filter (lt2 x)).length < zs.length, le2 zs[(zs.filter (lt2 x)).length] x
 | [], _, _ => ⟨fun j h => by simp at h, fun h => by simp at h⟩
 | z :: zs, hz, hp => by
  have hp' := List.pairwise_cons.mp hp
  obtain ⟨i1, i2⟩ := akF hx zs (fun y hy => hz y (by simp [hy])) hp'.2
  cases b : lt2 x z with
  | true =>
   have e : (z :: zs).filter (lt2 x) = z :: zs.filter (lt2 x) := by simp [b]
   rw [e]
   refine ⟨fun j h hj => ?_, fun h => ?_⟩
   ·cases j with
    | zero => exact atX b
    | succ j => exact i1 j (by simpa using h) (by simpa using hj)
   ·exact i2 (by simpa using h)
  | false =>
   have lz := apc.mp b
   have all : zs.filter (lt2 x) = [] := by
    rw [List.filter_eq_nil_iff]
    intro y hy hb
    have ly := hp'.1 y hy
    have := aiU (hz y (by simp [hy])).2.2.1 (hz z (by simp)).2.2.1 hx.2.2.1 ly lz
    rw [apc.mpr this] at hb
    cases hb
   have e : (z :: zs).filter (lt2 x) = [] := by simp [b, all]
   rw [e]
   exact ⟨fun j h hj => by simp at hj, fun h => lz⟩
end K15
end
section
set_option exponentiation.threshold 6000
namespace K15
open PySem L2 BH
theorem atY {x y : Int × Int} (hx : Fq 45 x) (hy : Fq 45 y) : ahs [fT x, fT y] = .ok (.bl (lt2 x y), false) := by
 obtain ⟨x1, x2, x3, x4, _⟩ := hx
 obtain ⟨y1, y2, y3, y4, _⟩ := hy
 have nM := ak4 45
 have c1 : aeE x.1 y.2 = true := ab8 (M := 45) (N := 45) (by omega) (by omega) (by omega) (by omega)
 have c2 : aeE y.1 x.2 = true := ab8 (M := 45) (N := 45) (by omega) (by omega) (by omega) (by omega)
 unfold ahs ao9 fnP fT
 simp -dsimp [abN, frz, dow, abw, con, acQ, eB, bOf, tru, dr, drs, cls, clV, adk, g1, g2, gI, gIC, gB, gEq, gNe, gIn, abB, abI, acB, acz, acy, ab3, gLt, gGt, gLe, gGe, gIx, abf, adb, abk, aa3, ac9, adB, acq, acP, okR, iOf, isS, others, ab5, abE, acf, acM, acV, aaz, aa4, aaD, aaK, aaG, aaI, aav, aaq, aaS, aa5, aa0, acL, atI, ixN, aaF, c1, c2, lt2]
theorem atZ {α : Type} {r : α -> Tr} {p : α -> Bool} {xs : List α} {ρ τ : En} {rest : List (Option Nat)} {n : Nat} {c : BF} (hl : xs.length <= 100000) (hi : con ρ n = .ok (xs.map r)) (hτ : ab5 rest ρ = τ) (hs : ∀ s', acf (none :: rest) (s' :: τ) ρ = true) (hd : ∀ s', abE (none :: rest) (s' :: τ) ρ = ρ)
  (hf : ∀ x ∈ xs, c (.sh (r x) :: τ) = .ok (p x, .sh (r x) :: τ)) : ahn (none :: rest) n (gN 0) c (aag 0) ρ = .ok (.v (.lst ((xs.filter p).map r)) true, ρ) := by
 obtain ⟨s', e⟩ := afB xs .un hf
 have hu : ab5 (none :: rest) ρ = .un :: τ := by rw [<-hτ]; rfl
 have hl' : (xs.map r).length <= 100000 := by rw [List.length_map]; exact hl
 rw [amR, hi]
 simp only [ajE]
 rw [if_pos hl', hu, e]
 simp only [abN, ajE]
 rw [if_pos (hs s'), hd s']
noncomputable def orC : BF := (aeM (aat ahs (aae (aag 1) (aae (aag 0) aar))))
noncomputable def orB : SF := (aeu (eMt 7 ao4 (aae (eCB (g1 abf) (aae (ahn [none, some 5] 7 (gN 0) orC (aag 0)) aar)) (aae (aag 5) aar))))
theorem at3 (s0 s1 s2 s3 s4 s6 : Sl) {zs : List (Int × Int)} {x : Int × Int} (hz : ∀ z ∈ zs, Fq 45 z) (hx : Fq 45 x) (hl : zs.length <= 100) (h : zs.Pairwise fun a b => le2 b a) : ∃ zs' : List (Int × Int), orB [s0, s1, s2, s3, s4, .sh (fT x), s6, .ow (zs.map fT)] = .ok (.nx, [s0, s1, s2, s3, s4, .sh (fT x), s6, .ow (zs'.map fT)]) /\ zs'.Perm (x :: zs) /\ zs'.Pairwise fun a b => le2 b a := by
 have ec := atZ (r := fT) (p := lt2 x) (xs := zs) (ρ := [s0, s1, s2, s3, s4, .sh (fT x), s6, .ow (zs.map fT)]) (rest := [some 5]) (n := 7) (c := orC) (by omega) rfl rfl (fun s' => rfl) (fun s' => rfl) (fun z m => by
  have e := atY hx (hz z m)
  unfold orC
  dsimp only [ab5, List.map]
  generalize lt2 x z = B at *
  generalize fT x = X at *
  generalize fT z = Z at *
  simp -dsimp [acV, drs, dr, isS, e, tru])
 obtain ⟨p1, p2⟩ := akF hx zs hz h
 have ql : (zs.filter (lt2 x)).length <= zs.length := List.length_filter_le ..
 have el : abf (.lst ((zs.filter (lt2 x)).map fT)) = .ok (.int ((zs.filter (lt2 x)).length : Int), false) := by
  show Rs.ok (Tr.int (((zs.filter (lt2 x)).map fT).length : Int), false) = _
  rw [List.length_map]
 generalize (zs.filter (lt2 x)).length = q at *
 refine ⟨zs.take q ++ x :: zs.drop q, ?_, ?_, aqU hz hx h ql p1 p2⟩
 ·have em : ao4 (zs.map fT) [.int (q : Nat), fT x] = .ok ((zs.take q ++ x :: zs.drop q).map fT, .non) := by
   show (if 0 <= (q : Int) /\ (q : Int).toNat <= (zs.map fT).length /\ (zs.map fT).length <= 100000 then Rs.ok ((zs.map fT).take (q : Int).toNat ++ fT x :: (zs.map fT).drop (q : Int).toNat, Tr.non) else .bad) = _
   rw [List.length_map, Int.toNat_natCast, if_pos (by omega), List.map_append, List.map_cons, List.map_take, List.map_drop]
  generalize (zs.take q ++ x :: zs.drop q).map fT = R at *
  unfold orB
  generalize ahn _ _ _ _ _ = G at ec ⊢
  generalize Tr.lst ((zs.filter (lt2 x)).map fT) = FL at *
  generalize zs.map fT = L at *
  generalize fT x = X at *
  simp -dsimp [con, drs, dr, cls, g1, ec, el, em, abw]
 ·have : (zs.take q ++ x :: zs.drop q).Perm (x :: (zs.take q ++ zs.drop q)) := List.perm_middle
  rw [List.take_append_drop] at this
  exact this
theorem amT (s0 s1 s2 s3 s4 s6 : Sl) : ∀ (xs zs : List (Int × Int)) (s5 : Sl), (∀ x ∈ xs, Fq 45 x) -> (∀ z ∈ zs, Fq 45 z) -> zs.length + xs.length <= 100 -> zs.Pairwise (fun a b => le2 b a) -> ∃ (zs' : List (Int × Int)) (t5 : Sl), abW (gN 5) orB (xs.map fT) [s0, s1, s2, s3, s4, s5, s6, .ow (zs.map fT)] = .ok (.nx, [s0, s1, s2, s3, s4, t5, s6, .ow (zs'.map fT)]) /\ zs'.Perm (zs ++ xs) /\ zs'.Pairwise fun a b => le2 b a
 | [], zs, s5, _, _, _, h => ⟨zs, s5, rfl, by simp, h⟩
 | x :: xs, zs, s5, hx, hz, hl, h => by
  rw [List.length_cons] at hl
  obtain ⟨zs1, e, p1, p2⟩ := at3 s0 s1 s2 s3 s4 s6 hz (hx x (by simp)) (by omega) h
  have l1 : zs1.length = zs.length + 1 := by have := p1.length_eq; simpa using this
  obtain ⟨zs', r5, e', q1, q2⟩ := amT s0 s1 s2 s3 s4 s6 xs zs1 (.sh (fT x)) (fun y hy => hx y (by simp [hy])) (fun z m => by
   rcases List.mem_cons.mp (p1.mem_iff.mp m) with rfl | m
   ·exact hx _ (by simp)
   ·exact hz z m) (by omega) p2
  refine ⟨zs', r5, ?_, ?_, q2⟩
  ·rw [List.map_cons]
   unfold abW
   rw [show gN 5 (fT x) [s0, s1, s2, s3, s4, s5, s6, .ow (zs.map fT)] = .ok [s0, s1, s2, s3, s4, .sh (fT x), s6, .ow (zs.map fT)] from rfl]
   simp only [Rs.aaV]
   rw [e]
   exact e'
  ·refine q1.trans ((p1.append_right xs).trans ?_)
   rw [List.cons_append]
   exact List.perm_middle.symm
noncomputable def ofE : SF := (aaP (sIf (aa8 (eOp gEq (eOp gIx (aag 0) (eC (.int 0))) (eC (.str "middle")))) (abn (eOp gIx (aag 7) (eOp ab3 (eOp gIx (aag 0) (eC (.int 1))) (eC (.int 1))))) acC) (abn (eOp gIx (aag 7) (eOp ab3 (eCB (g1 ajg) (aae (eOp gEq (eOp gIx (aag 0) (eC (.int 0))) (eC (.str "greatest"))) aar)) (eC (.int 1))))))
noncomputable def ofO : SF := (aaP (ai3 7 (afi aar)) (aaP (ada (aeF (fSq (aag 1)) (gN 5) orB)) ofE))
noncomputable def ofL : SF := (ada (aeF (aoc (aae (aag 1) aar)) (gT 2 (aaJ (gN 4) (aaJ (gN 5) acr))) ofB))
theorem amU : awY = (aaP (aoU 2 3 (aae (eCB (g1 ajg) (aae (eOp gEq (eOp gIx (aag 0) (eC (.int 0))) (eC (.str "product"))) aar)) (aae (eC (.int 1)) aar))) (aaP ofL (aaP (sIf (aa8 (eOp (gIn id) (eOp gIx (aag 0) (eC (.int 0))) (eC (.tup [.str "product", .str "shares"])))) (abn (ahH (aae (aag 2) (aae (aag 3) aar)))) acC) ofO))) := rfl
theorem at4 {r : Ru} (s1 s2 s3 s4 s5 s6 : Sl) {zs : List (Int × Int)} {n : Nat} (hp : placed r = true) (ho : amO n r) (hl : zs.length = n) (h1 : 1 <= n) {v : Int × Int} (hv : zs[plc n r - 1]? = some v) : ∃ ρ, ofE [.sh (ruT r), s1, s2, s3, s4, s5, s6, .ow (zs.map fT)] = .ok (.rt (fT v) false, ρ) := by
 obtain ⟨w, e1, _, _, e4, _, e6⟩ := adV r
 refine ⟨[.sh (ruT r), s1, s2, s3, s4, s5, s6, .ow (zs.map fT)], ?_⟩
 cases r with
 | sh ws => cases hp
 | product => cases hp
 | mid k =>
  have e6 : gEq (.str w) (.str "middle") = .ok (.bl true, false) := e6
  have e7 : gIx (ruT (.mid k)) (.int 1) = .ok (.int k, false) := rfl
  have hk : 1 <= k := ho.1
  have gg : gIx (.lst (zs.map fT)) (.int ((k : Int) - 1)) = .ok (fT v, false) := by
   have hv : zs[k - 1]? = some v := hv
   rw [show (k : Int) - 1 = ((k - 1 : Nat) : Int) by omega]
   exact adw (by rw [List.getElem?_map, hv]; rfl)
  unfold ofE
  generalize ruT (.mid k) = R at *
  generalize fT v = V at *
  generalize zs.map fT = L at *
  simp -dsimp [dr, e1, e6, bOf, e7, ab3, gI, gg]
 | greatest =>
  have e6 : gEq (.str w) (.str "middle") = .ok (.bl false, false) := e6
  have e4 : gEq (.str w) (.str "greatest") = .ok (.bl true, false) := e4
  have gg : gIx (.lst (zs.map fT)) (.int 0) = .ok (fT v, false) := adw (i := 0) (by
   have hv : zs[0]? = some v := hv
   rw [List.getElem?_map, hv]; rfl)
  unfold ofE
  generalize ruT .greatest = R at *
  generalize fT v = V at *
  generalize zs.map fT = L at *
  simp -dsimp [dr, drs, e1, e6, e4, bOf, g1, ajg, ab3, gI, gg]
 | least =>
  have e6 : gEq (.str w) (.str "middle") = .ok (.bl false, false) := e6
  have e4 : gEq (.str w) (.str "greatest") = .ok (.bl false, false) := e4
  have hv : zs[n - 1]? = some v := hv
  have gg : gIx (.lst (zs.map fT)) (.int (-1)) = .ok (fT v, false) := by
   have : zs = zs.dropLast ++ [v] := by
    have hne : zs ≠ [] := by intro z; rw [z] at hl; simp at hl; omega
    have := List.dropLast_concat_getLast hne
    have e : zs.getLast hne = v := by
     rw [List.getLast_eq_getElem]
     have := (List.getElem?_eq_some_iff.mp hv).2
     subst hl
     exact this
    rw [e] at this
    exact this.symm
   rw [this, List.map_append, List.map_singleton]
   exact akB _ _
  unfold ofE
  generalize ruT .least = R at *
  generalize fT v = V at *
  generalize zs.map fT = L at *
  simp -dsimp [dr, drs, e1, e6, e4, bOf, g1, ajg, ab3, gI, gg]
theorem amV {r : Ru} {st : Nat -> Int × Int -> Int × Int -> Int × Int} (hB : atV r st) {xs : List (Int × Int)} (hx : ∀ x ∈ xs, Fq 45 x) (hl : xs.length <= 12) {t : Int × Int} (ht : Fq 1 t) (hw : ∀ ws, r = .sh ws -> xs.length <= ws.length) :
  ∃ t4 t5 t6, ofL [.sh (ruT r), .sh (aaL xs), .sh (.int t.1), .sh (.int t.2), .un, .un, .un, .un] = .ok (.nx, [.sh (ruT r), .sh (aaL xs), .sh (.int (fin st xs 0 t).1), .sh (.int (fin st xs 0 t).2), t4, t5, t6, .un]) := by
 obtain ⟨t4, t5, t6, e⟩ := amS hB (.sh (aaL xs)) .un xs 0 t 1 .un .un .un hx ht (by omega) (fun ws z => by have := hw ws z; omega)
 refine ⟨t4, t5, t6, ?_⟩
 rw [<-aqT] at e
 show abN (abW _ ofB (aiK (xs.map fT)) _) = _
 rw [e]
 rfl
theorem of_eq {r : Ru} {xs : List (Int × Int)} (hx : ∀ x ∈ xs, Wo x) (h1 : 1 <= xs.length) (h2 : xs.length <= 4) (ho : amO xs.length r) : ∃ v, amu [ruT r, aaL xs] = .ok (fT v, false) /\ Wv r xs v := by
 have hq : ∀ x ∈ xs, Fq 45 x := fun x m => (hx x m).fq
 obtain ⟨w, e1, _, e3, _⟩ := adV r
 have pl : placed r = true -> ∃ v, amu [ruT r, aaL xs] = .ok (fT v, false) /\ ∃ zs, Dsc xs zs /\ zs[plc xs.length r - 1]? = some v := fun hp => by
  have e3 : gEq (.str w) (.str "product") = .ok (.bl false, false) := by cases r <;> first | exact e3 | cases hp
  have ein : gIn id (.str w) (.tup [.str "product", .str "shares"]) = .ok (.bl false, false) := by
   cases r <;> first | (cases hp; done) | (cases e1; kernel_rfl)
  obtain ⟨t4, t5, t6, eL⟩ := amV (awk hp) hq (by omega) auL (fun ws z => by rw [z] at hp; cases hp)
  rw [aph] at eL
  obtain ⟨zs, t5', eo, p1, p2⟩ := amT (.sh (ruT r)) (.sh (aaL xs)) (.sh (.int 0)) (.sh (.int 1)) t4 t6 xs [] t5 hq (by simp) (by simp; omega) .nil
  have pr := amP hp ho h1
  have d : Dsc xs zs := ⟨by simpa using p1, p2⟩
  have lz : zs.length = xs.length := d.1.length_eq
  obtain ⟨v, hv⟩ : ∃ v, zs[plc xs.length r - 1]? = some v := ⟨_, List.getElem?_eq_getElem (by omega)⟩
  refine ⟨v, ?_, zs, d, hv⟩
  obtain ⟨ρ, eE⟩ := at4 (.sh (aaL xs)) (.sh (.int 0)) (.sh (.int 1)) t4 t5' t6 hp ho lz h1 hv
  have en : ada (aeF (fSq (aag 1)) (gN 5) orB) [.sh (ruT r), .sh (aaL xs), .sh (.int 0), .sh (.int 1), t4, t5, t6, .ow []] = .ok (.nx, [.sh (ruT r), .sh (aaL xs), .sh (.int 0), .sh (.int 1), t4, t5', t6, .ow (zs.map fT)]) := by
   show abN (abW _ orB (xs.map fT) [.sh (ruT r), .sh (aaL xs), .sh (.int 0), .sh (.int 1), t4, t5, t6, .ow (([] : List (Int × Int)).map fT)]) = _
   rw [eo]
   rfl
  have eO : ofO [.sh (ruT r), .sh (aaL xs), .sh (.int 0), .sh (.int 1), t4, t5, t6, .un] = .ok (.rt (fT v) false, ρ) := by
   unfold ofO
   generalize ada _ = G at en ⊢
   generalize ofE = G2 at eE ⊢
   generalize fT v = V at *
   generalize zs.map fT = Z at *
   generalize ruT r = R at *
   generalize aaL xs = X at *
   simp -dsimp [cls, en, eE]
  unfold amu
  rw [amU]
  generalize ofL = G1 at eL ⊢
  generalize ofO = G2 at eO ⊢
  generalize fT v = V at *
  generalize ruT r = R at *
  generalize aaL xs = X at *
  unfold fnP
  simp -dsimp [aaF, dr, drs, cls, e1, e3, g1, ajg, eL, ein, bOf, eO]
 cases r with
 | sh ws =>
  have e3 : gEq (.str w) (.str "product") = .ok (.bl false, false) := e3
  have ein : gIn id (.str w) (.tup [.str "product", .str "shares"]) = .ok (.bl true, false) := by cases e1; kernel_rfl
  obtain ⟨t4, t5, t6, eL⟩ := amV (awj ws ho.2) hq (by omega) auL (fun ws' z => by cases z; rw [ho.1]; exact Nat.le_refl _)
  rw [apg ws xs 0 _ (by rw [ho.1]; omega), List.drop_zero] at eL
  refine ⟨_, ?_, rfl⟩
  unfold amu fT
  rw [amU]
  generalize ofL = G1 at eL ⊢
  generalize ofO = G2
  generalize shF (ws.zip xs) (0, 1) = y at *
  generalize ruT (.sh ws) = R at *
  generalize aaL xs = X at *
  unfold fnP
  simp -dsimp [aaF, dr, drs, cls, e1, e3, g1, ajg, eL, ein, bOf]
 | product =>
  have e3 : gEq (.str w) (.str "product") = .ok (.bl true, false) := e3
  have ein : gIn id (.str w) (.tup [.str "product", .str "shares"]) = .ok (.bl true, false) := by cases e1; kernel_rfl
  obtain ⟨t4, t5, t6, eL⟩ := amV aqS hq (by omega) awh (fun ws' z => by cases z)
  rw [akE] at eL
  refine ⟨_, ?_, rfl⟩
  unfold amu fT
  rw [amU]
  generalize ofL = G1 at eL ⊢
  generalize ofO = G2
  generalize prF xs (1, 1) = y at *
  generalize ruT .product = R at *
  generalize aaL xs = X at *
  unfold fnP
  simp -dsimp [aaF, dr, drs, cls, e1, e3, g1, ajg, eL, ein, bOf]
 | least => exact pl rfl
 | greatest => exact pl rfl
 | mid k => exact pl rfl
end K15
end
section
set_option exponentiation.threshold 6000
namespace L2
open PySem
@[simp] theorem amW (ts : List Tr) : ahY (.lst ts) = (match ahX ts with
  | some ns => if ns = [] then .bad else .ok (.int (mxI ns), false)
  | none => .bad) := rfl
end L2
namespace K15
open PySem L2 BH
noncomputable def col (rows : List (List (Int × Int))) (i : Nat) : List (Int × Int) := rows.map fun l => at2 l i
theorem akG (l : List (Int × Int)) : abf (aaL l) = .ok (.int (l.length : Int), false) := by
 show Rs.ok (Tr.int ((l.map fT).length : Int), false) = _
 rw [List.length_map]
theorem amX (rows : List (List (Int × Int))) : abf (bkT rows) = .ok (.int (rows.length : Int), false) := by
 show Rs.ok (Tr.int ((rows.map aaL).length : Int), false) = _
 rw [List.length_map]
noncomputable def Len (c : Nat) (rows : List (List (Int × Int))) : Prop := ∀ l ∈ rows, l.length = c
noncomputable def coE : EF := (eOp gIx (aag 0) (aag 1))
theorem apj {l : List (Int × Int)} {i : Nat} (h : i < l.length) : coE [.sh (aaL l), .sh (.int i)] = .ok (.v (fT (at2 l i)) false, [.sh (aaL l), .sh (.int i)]) := by
 have e : gIx (aaL l) (.int i) = .ok (fT (at2 l i), false) := amE h
 generalize fT (at2 l i) = V at *
 generalize aaL l = T at *
 unfold coE
 simp -dsimp [dr, e]
theorem amY (rows : List (List (Int × Int))) (i : Nat) : Tr.lst (rows.map fun l => fT (at2 l i)) = aaL (col rows i) := by
 unfold aaL col
 rw [List.map_map]
 rfl
theorem aiV {c : Nat} {rows : List (List (Int × Int))} (h : Len c rows) (hl : rows.length <= 100) {i : Nat} (hi : i < c) : ac5 [bkT rows, .int i] = .ok (aaL (col rows i), true) := by
 have e := aqN (r := aaL) (h := fun l => fT (at2 l i)) (xs := rows) (ρ := [.sh (bkT rows), .sh (.int i)]) (rest := [some 1]) (i := fSq (aag 0)) (fe := coE) (by omega) rfl rfl (fun s' => rfl) (fun s' => rfl) (fun l m => ⟨false, apj (by rw [h l m]; exact hi)⟩)
 rw [amY] at e
 show fnP 2 (abn (abF [none, some 1] (fSq (aag 0)) (gN 0) aeH coE)) [bkT rows, .int i] = _
 generalize abF _ _ _ _ _ = G at e ⊢
 generalize aaL (col rows i) = R at *
 generalize bkT rows = T at *
 unfold fnP
 simp -dsimp [aaF, e]
noncomputable def wbE : EF := (aat abh (aae (aag 1) (aae (aat ac5 (aae (aag 2) (aae (aag 0) aar))) aar)))
theorem aiW {c : Nat} {rows : List (List (Int × Int))} {R : Tr} {V : Nat -> Int × Int} (h : Len c rows) (h1 : 1 <= rows.length) (hl : rows.length <= 100) (hc : c <= 12) (hV : ∀ i, i < c -> abh [R, aaL (col rows i)] = .ok (fT (V i), false)) : adJ [bkT rows, R] = .ok (.lst ((List.range c).map fun i => fT (V i)), true) := by
 obtain ⟨l, hl0⟩ : ∃ l, rows[0]? = some l := ⟨_, List.getElem?_eq_getElem (by omega)⟩
 have e3 : gIx (bkT rows) (.int 0) = .ok (aaL l, false) := adw (i := 0) (by rw [List.getElem?_map, hl0]; rfl)
 have e4 := akG l
 rw [h l (List.mem_of_getElem? hl0)] at e4
 have q1 : (-1000000 : Int) <= c := by omega
 have q2 : (c : Int) <= 1000000 := by omega
 have ef : afP (aae (eCB (g1 abf) (aae (eOp gIx (aag 0) (eC (.int 0))) aar)) aar) [.sh (bkT rows), .sh R] = .ok ((List.range c).map fun i : Nat => Tr.int i, [.sh (bkT rows), .sh R]) := by
  rw [<-aes]
  generalize bkT rows = T at *
  generalize aaL l = T2 at *
  simp -dsimp [drs, dr, okR, q1, q2, e3, e4, g1]
 have e := aqN (r := fun i : Nat => Tr.int i) (h := fun i => fT (V i)) (xs := List.range c) (τ := [.sh R, .sh (bkT rows)]) (rest := [some 1, some 0]) (fe := wbE) (by simp; omega) ef rfl (fun s' => rfl) (fun s' => rfl) (fun i hi => ⟨false, by
  have hi' : i < c := by simpa using hi
  have a1 := aiV h hl hi'
  have a2 := hV i hi'
  unfold wbE
  generalize fT (V i) = Vi at *
  generalize aaL (col rows i) = C at *
  generalize bkT rows = T at *
  simp -dsimp [drs, dr, isS, a1, a2]⟩)
 show fnP 2 (abn (abF [none, some 1, some 0] (afP (aae (eCB (g1 abf) (aae (eOp gIx (aag 0) (eC (.int 0))) aar)) aar)) (gN 0) aeH wbE)) [bkT rows, R] = _
 generalize abF _ _ _ _ _ = G at e ⊢
 generalize Tr.lst ((List.range c).map fun i => fT (V i)) = L at *
 generalize bkT rows = T at *
 unfold fnP
 simp -dsimp [aaF, e]
theorem aek {c : Nat} {rows : List (List (Int × Int))} {r : Ru} {V : Nat -> Int × Int} (hb : alq (bkT rows) = true) (h : Len c rows) (h1 : 1 <= rows.length) (hl : rows.length <= 4) (hc : c <= 12) (ho : amO rows.length r) (hV : ∀ i, i < c -> abh [ruT r, aaL (col rows i)] = .ok (fT (V i), false)) : aaM [bkT rows, ruT r] = .ok (.lst ((List.range c).map fun i => fT (V i)), true) := by
 have e1 := aiW h h1 (by omega) hc hV
 have e2 := aiT hb
 have e3 := ak5 ho (by omega)
 have e4 := amX rows
 have e5 : abo [bkT rows, ruT r] = .ok (.non, false) := by
  generalize bkT rows = T at *
  generalize ruT r = R at *
  generalize (rows.length : Int) = N at *
  unfold abo acN fnP
  simp -dsimp [aaF, drs, dr, isS, e2, e4, g1, e3, tru]
 generalize Tr.lst ((List.range c).map fun i => fT (V i)) = L at *
 generalize bkT rows = T at *
 generalize ruT r = R at *
 unfold aaM aeI fnP
 simp -dsimp [aaF, drs, dr, isS, e5, e1]
noncomputable def lwE : EF := (aat amu (aae (aag 1) (aae (abF [none, some 0] (fSq (aag 2)) (gN 0) aeH coE) aar)))
theorem ak6 {c : Nat} {rows : List (List (Int × Int))} {R : Tr} {V : Nat -> Int × Int} (h : Len c rows) (h1 : 1 <= rows.length) (hl : rows.length <= 100) (hc : c <= 12) (hV : ∀ i, i < c -> amu [R, aaL (col rows i)] = .ok (fT (V i), false)) : aeo [bkT rows, R] = .ok (.lst ((List.range c).map fun i => fT (V i)), true) := by
 obtain ⟨l, hl0⟩ : ∃ l, rows[0]? = some l := ⟨_, List.getElem?_eq_getElem (by omega)⟩
 have e3 : gIx (bkT rows) (.int 0) = .ok (aaL l, false) := adw (i := 0) (by rw [List.getElem?_map, hl0]; rfl)
 have e4 := akG l
 rw [h l (List.mem_of_getElem? hl0)] at e4
 have q1 : (-1000000 : Int) <= c := by omega
 have q2 : (c : Int) <= 1000000 := by omega
 have ef : afP (aae (eCB (g1 abf) (aae (eOp gIx (aag 0) (eC (.int 0))) aar)) aar) [.sh (bkT rows), .sh R] = .ok ((List.range c).map fun i : Nat => Tr.int i, [.sh (bkT rows), .sh R]) := by
  rw [<-aes]
  generalize bkT rows = T at *
  generalize aaL l = T2 at *
  simp -dsimp [drs, dr, okR, q1, q2, e3, e4, g1]
 have e := aqN (r := fun i : Nat => Tr.int i) (h := fun i => fT (V i)) (xs := List.range c) (τ := [.sh R, .sh (bkT rows)]) (rest := [some 1, some 0]) (fe := lwE) (by simp; omega) ef rfl (fun s' => rfl) (fun s' => rfl) (fun i hi => ⟨false, by
  have hi' : i < c := by simpa using hi
  have a1 := aqN (r := aaL) (h := fun l => fT (at2 l i)) (xs := rows) (ρ := [.sh (.int (i : Nat)), .sh R, .sh (bkT rows)]) (rest := [some 0]) (i := fSq (aag 2)) (fe := coE) (by omega) rfl rfl (fun s' => rfl) (fun s' => rfl) (fun l m => ⟨false, apj (by rw [h l m]; exact hi')⟩)
  rw [amY] at a1
  have a2 := hV i hi'
  unfold lwE
  generalize abF _ _ _ _ _ = G at a1 ⊢
  generalize fT (V i) = Vi at *
  generalize aaL (col rows i) = C at *
  generalize bkT rows = T at *
  simp -dsimp [drs, dr, isS, a1, a2]⟩)
 show fnP 2 (abn (abF [none, some 1, some 0] (afP (aae (eCB (g1 abf) (aae (eOp gIx (aag 0) (eC (.int 0))) aar)) aar)) (gN 0) aeH lwE)) [bkT rows, R] = _
 generalize abF _ _ _ _ _ = G at e ⊢
 generalize Tr.lst ((List.range c).map fun i => fT (V i)) = L at *
 generalize bkT rows = T at *
 unfold fnP
 simp -dsimp [aaF, e]
theorem at5 {α : Type} (r : α -> Tr) (xs : List α) : gEq (.int (((xs.filter fun _ => false).map r).length : Int)) (.int 0) = .ok (.bl true, false) := by
 rw [show (xs.filter fun _ => false) = [] by simp]
 rfl
noncomputable def paC : BF := (bOr (ae1 (aeM (ahi .int (aag 0)))) (aeM (ahi .bool (aag 0))))
theorem aqV (x : Int × Int) : aiM [fT x, fT x] = .ok (.bl true, false) := by
 have e1 := atB (r := Tr.int) (p := fun _ => false) (xs := [x.1, x.2]) (ρ := [.sh (fT x), .sh (fT x)]) (rest := []) (i := fSq (aag 0)) (c := paC) (by simp) rfl rfl (fun s' => rfl) (fun s' => rfl) (fun i _ => rfl)
 have en := agd (T := fT x) (by rw [amC]; omega)
 have n1 := at5 Tr.int [x.1, x.2]
 have ei : acL (fT x) .tuple = true := rfl
 have el : abf (fT x) = .ok (.int 2, false) := rfl
 have e22 : gNe (.int 2) (.int 2) = .ok (.bl false, false) := rfl
 show fnP 2 (aaP (sIf (bOr (ae1 (aeM (ahi .tuple (aag 0)))) (bOr (aa8 (eOp gNe (eCB (g1 abf) (aae (aag 0) aar)) (eC (.int 2)))) (aa8 (eOp gNe (aag 0) (aag 1))))) (abn (eC (.bl false))) acC) (abn (eOp gEq (eCB (g1 abf) (aae (abF [none] (fSq (aag 0)) (gN 0) paC (aag 0)) aar)) (eC (.int 0))))) [fT x, fT x] = _
 generalize abF _ _ _ _ _ = G at e1 ⊢
 generalize ([x.1, x.2].filter fun _ => false).map Tr.int = L at *
 generalize fT x = T at *
 have gl : ∀ ts, abf (.lst ts) = .ok (.int (ts.length : Int), false) := fun _ => rfl
 unfold fnP
 simp -dsimp [aaF, e1, ei, eB, dr, drs, g1, el, e22, gl, n1, en, bOf, tru]
noncomputable def roC : BF := (ae1 (aeM (aat aiM (aae (eOp gIx (aag 1) (aag 0)) (aae (eOp gIx (aag 2) (aag 0)) aar)))))
theorem aqW {c : Nat} {V : Nat -> Int × Int} (hc : c <= 12) : afc [.lst ((List.range c).map fun i => fT (V i)), .lst ((List.range c).map fun i => fT (V i))] = .ok (.bl true, false) := by
 have el : abf (.lst ((List.range c).map fun i => fT (V i))) = .ok (.int (c : Int), false) := by
  show Rs.ok (Tr.int (((List.range c).map fun i => fT (V i)).length : Int), false) = _
  simp
 have gi : ∀ i, i < c -> gIx (.lst ((List.range c).map fun i => fT (V i))) (.int (i : Nat)) = .ok (fT (V i), false) := fun i hi => adw (by simp [hi])
 have ei : acL (.lst ((List.range c).map fun i => fT (V i))) .list = true := rfl
 generalize Tr.lst ((List.range c).map fun i => fT (V i)) = L at *
 have q1 : (-1000000 : Int) <= c := by omega
 have q2 : (c : Int) <= 1000000 := by omega
 have ef : afP (aae (eCB (g1 abf) (aae (aag 1) aar)) aar) [.sh L, .sh L] = .ok ((List.range c).map fun i : Nat => Tr.int i, [.sh L, .sh L]) := by
  rw [<-aes]
  simp -dsimp [drs, dr, okR, q1, q2, el, g1]
 have e1 := atB (r := fun i : Nat => Tr.int i) (p := fun _ => false) (xs := List.range c) (τ := [.sh L, .sh L]) (rest := [some 0, some 1]) (c := roC) (by simp; omega) ef rfl (fun s' => rfl) (fun s' => rfl) (fun i hi => by
  have a1 := gi i (by simpa using hi)
  have a2 := aqV (V i)
  unfold roC
  generalize fT (V i) = T at *
  simp -dsimp [drs, dr, isS, a1, a2, tru])
 have n1 := at5 (fun i : Nat => Tr.int i) (List.range c)
 have en := agd (T := .int (c : Int)) (by rw [aaz]; omega)
 show fnP 2 (aaP (sIf (bOr (ae1 (aeM (ahi .list (aag 0)))) (aa8 (eOp gNe (eCB (g1 abf) (aae (aag 0) aar)) (eCB (g1 abf) (aae (aag 1) aar))))) (abn (eC (.bl false))) acC) (abn (eOp gEq (eCB (g1 abf) (aae (abF [none, some 0, some 1] (afP (aae (eCB (g1 abf) (aae (aag 1) aar)) aar)) (gN 0) roC (aag 0)) aar)) (eC (.int 0))))) [L, L] = _
 generalize abF _ _ _ _ _ = G at e1 ⊢
 have gl : ∀ ts, abf (.lst ts) = .ok (.int (ts.length : Int), false) := fun _ => rfl
 generalize ((List.range c).filter fun _ => false).map (fun i : Nat => Tr.int i) = FL at *
 generalize (c : Int) = N at *
 unfold fnP
 simp -dsimp [aaF, e1, ei, eB, dr, drs, g1, el, gl, n1, en, bOf, tru]
theorem amZ {x : Int × Int} (hx : Fq 400 x) : abh [ruT .least, aaL [x]] = .ok (fT x, false) := by
 have nM := ak4 400
 obtain ⟨ys, ef, hf⟩ := aht (N := 400) [x] (fun y hy => by
  rw [List.mem_singleton.mp hy]
  exact ⟨hx.2.2.1, hx.2.2.2.1, by have := hx.1; have := hx.2.1; omega⟩) (by simp) (by omega) (by simp)
 have hy : ys = [0] := by
  have := hf.1
  simp only [List.length_singleton] at this
  exact List.perm_singleton.mp this
 subst hy
 obtain ⟨w, e1, e2, e3, _⟩ := adV .least
 have e2 : gEq (.str w) (.str "shares") = .ok (.bl false, false) := e2
 have e3 : gEq (.str w) (.str "product") = .ok (.bl false, false) := e3
 have ep : aci [ruT .least, .int 1] = .ok (.int 1, false) := agL (r := .least) (n := 1) rfl
 have ef : abl [aaL [x]] = .ok (.lst [.int 0], true) := ef
 have el : abf (aaL [x]) = .ok (.int 1, false) := rfl
 have i1 : gIx (.lst [.int 0]) (.int 0) = .ok (.int 0, false) := rfl
 have i2 : gIx (aaL [x]) (.int 0) = .ok (fT x, false) := rfl
 generalize fT x = V at *
 generalize aaL [x] = X at *
 generalize ruT .least = R at *
 unfold abh adA fnP
 simp -dsimp [aaF, dr, drs, isS, e1, e2, e3, bOf, ef, el, ep, g1, ab3, gI, i1, i2]
theorem aox {c : Nat} {V : Nat -> Int × Int} (h1 : 1 <= c) (hc : c <= 12) (hV : ∀ i, i < c -> Fq 400 (V i) /\ (V i).1 <= (V i).2) : aaM [.lst [.lst ((List.range c).map fun i => fT (V i))], .tup [.str "least"]] = .ok (.lst ((List.range c).map fun i => fT (V i)), true) := by
 have hr : Tr.lst ((List.range c).map fun i => fT (V i)) = aaL ((List.range c).map V) := by unfold aaL; rw [List.map_map]; rfl
 rw [hr]
 have hb : alq (bkT [(List.range c).map V]) = true := by
  show (decide (1 <= (([(List.range c).map V].map aaL).length : Int)) && decide ((([(List.range c).map V].map aaL).length : Int) <= 4) && ([(List.range c).map V].map aaL).all (afd 12) && ([(List.range c).map V].map aaL).all fun r => aky r == aky (aaL ((List.range c).map V))) = true
  have hw : afd 12 (aaL ((List.range c).map V)) = true := by
   show (decide (1 <= ((((List.range c).map V).map fT).length : Int)) && decide (((((List.range c).map V).map fT).length : Int) <= 12) && (((List.range c).map V).map fT).all akv) = true
   rw [List.length_map, List.length_map, List.length_range, decide_eq_true (by omega), decide_eq_true (by omega)]
   simp only [Bool.true_and, List.all_eq_true]
   intro t ht
   obtain ⟨v, hv, rfl⟩ := List.mem_map.mp ht
   obtain ⟨i, hi, rfl⟩ := List.mem_map.mp hv
   obtain ⟨a, b⟩ := hV i (by simpa using hi)
   show (decide (0 <= (V i).1) && decide ((V i).1 <= (V i).2) && decide (1 <= (V i).2) && (Int.gcd (V i).1 (V i).2 == 1)) = true
   simp [a.1, b, a.2.2.1, a.2.2.2.2]
  simp [hw]
 have := aek (c := c) (rows := [(List.range c).map V]) (r := .least) (V := V) hb (fun l m => by rw [List.mem_singleton.mp m]; simp) (by simp) (by simp) hc trivial (fun i hi => by
  have e : col [(List.range c).map V] i = [V i] := by
   unfold col at2
   simp [hi]
  rw [e]
  exact amZ (hV i hi).1)
 rw [hr] at this
 exact this
end K15
end
section
set_option exponentiation.threshold 6000
namespace K15
open PySem L2 BH
theorem am0 {rows : List (List (Int × Int))} (hl : rows.length <= 4) : afb [bkT rows] = .ok (bkT rows, true) := by
 have e := aqN (r := aaL) (h := aaL) (xs := rows) (ρ := [.sh (bkT rows)]) (rest := []) (i := fSq (aag 0)) (fe := eCB (g1 abk) (aae (aag 0) aar)) (by omega) rfl rfl (fun s' => rfl) (fun s' => rfl) (fun l _ => ⟨true, rfl⟩)
 show fnP 1 (abn (abF [none] (fSq (aag 0)) (gN 0) aeH (eCB (g1 abk) (aae (aag 0) aar)))) [bkT rows] = _
 unfold fnP
 generalize abF _ _ _ _ _ = G at e ⊢
 have hi : aaF 1 [bkT rows] = [.sh (bkT rows)] := rfl
 rw [hi, amy, e]
 rfl
theorem ak7 (r : Ru) : abA [ruT r] = .ok (ruT r, false) := by
 obtain ⟨w, e1, e2, _⟩ := adV r
 have no : gEq (.str w) (.str "shares") = .ok (.bl false, false) -> abA [ruT r] = .ok (ruT r, false) := fun e2 => by
  generalize ruT r = R at *
  unfold abA adQ fnP
  simp -dsimp [aaF, dr, e1, e2, bOf]
 cases r with
 | sh ws =>
  have e2 : gEq (.str w) (.str "shares") = .ok (.bl true, false) := e2
  have e4 : gIx (ruT (.sh ws)) (.int 1) = .ok (aaL ws, false) := rfl
  have eg : abk (aaL ws) = .ok (aaL ws, true) := rfl
  have hr : Tr.tup [.str w, aaL ws] = ruT (.sh ws) := by cases e1; rfl
  generalize ruT (.sh ws) = R at *
  generalize aaL ws = W at *
  unfold abA adQ fnP
  simp -dsimp [aaF, dr, drs, g1, e1, e2, bOf, e4, eg, cls, hr]
 | mid k => exact no e2
 | least => exact no e2
 | greatest => exact no e2
 | product => exact no e2
theorem at6 (r : Ru) : dep (ruT r) <= 3 := by
 cases r with
 | sh ws =>
  show dep (.tup [.str "shares", aaL ws]) <= 3
  rw [aaG, aaq, aaq, aav, aaD]
  have := amD ws
  omega
 | mid k =>
  show dep (.tup [.str "middle", .int k]) <= 3
  rw [aaG, aaq, aaq, aav, aaD, aaz]
  omega
 | least =>
  show dep (.tup [.str "least"]) <= 3
  rw [aaG, aaq, aav, aaD]
  omega
 | greatest =>
  show dep (.tup [.str "greatest"]) <= 3
  rw [aaG, aaq, aav, aaD]
  omega
 | product =>
  show dep (.tup [.str "product"]) <= 3
  rw [aaG, aaq, aav, aaD]
  omega
theorem found {c : Nat} {rows : List (List (Int × Int))} {r : Ru} (hb : Bk c rows) (ho : amO rows.length r) : ∃ V : Nat -> Int × Int, (∀ i, i < c -> Fq 400 (V i)) /\ aaM [bkT rows, ruT r] = .ok (.lst ((List.range c).map fun i => fT (V i)), true) /\ aeo [bkT rows, ruT r] = .ok (.lst ((List.range c).map fun i => fT (V i)), true) := by
 obtain ⟨h1, h2, h3, h4, h5⟩ := id hb
 have hlen : Len c rows := fun l m => (h5 l m).1
 have cw : ∀ i, i < c -> ∀ x ∈ col rows i, Wo x := fun i hi x m => by
  obtain ⟨l, hl, rfl⟩ := List.mem_map.mp m
  exact (h5 l hl).2 _ (by unfold at2; simp [(h5 l hl).1, hi])
 have cl : ∀ i, (col rows i).length = rows.length := fun i => by unfold col; simp
 have ex : ∀ i, ∃ v, i < c -> (abh [ruT r, aaL (col rows i)] = .ok (fT v, false) /\ amu [ruT r, aaL (col rows i)] = .ok (fT v, false)) /\ Fq 400 v := fun i => by
  by_cases hi : i < c
  ·have ho' : amO (col rows i).length r := by rw [cl]; exact ho
   obtain ⟨v, e, wv⟩ := ajN (cw i hi) (by rw [cl]; exact h1) (by rw [cl]; omega) ho'
   obtain ⟨v', e', wv'⟩ := of_eq (cw i hi) (by rw [cl]; exact h1) (by rw [cl]; omega) ho'
   have := wv.uniq (cw i hi) wv'
   subst this
   exact ⟨v, fun _ => ⟨⟨e, e'⟩, wv.fq (cw i hi) (by rw [cl]; omega) ho'⟩⟩
  ·exact ⟨(0, 1), fun z => absurd z hi⟩
 obtain ⟨V, hV⟩ := Classical.skolem.mp ex
 refine ⟨V, fun i hi => (hV i hi).2, aek hb.alq hlen h1 h2 h4 ho fun i hi => (hV i hi).1.1, ak6 hlen h1 (by omega) h4 fun i hi => (hV i hi).1.2⟩
noncomputable def mxE : EF := (eCB (g1 ahY) (aae (abF [none] (fSq (aag 6)) (gN 0) aeH (eOp ab3 (eOp gIx (aag 0) (eC (.int 0))) (eOp gIx (aag 0) (eC (.int 1))))) aar))
theorem at7 {c : Nat} {V : Nat -> Int × Int} (h1 : 1 <= c) (hc : c <= 12) (s0 s1 s2 s3 s4 s5 s7 : Sl) : ∃ m : Int, mxE [s0, s1, s2, s3, s4, s5, .sh (.lst ((List.range c).map fun i => fT (V i))), s7] = .ok (.v (.int m) false, [s0, s1, s2, s3, s4, s5, .sh (.lst ((List.range c).map fun i => fT (V i))), s7]) /\ (m <= 0 -> ∀ i, i < c -> (V i).1 <= (V i).2) := by
 have e := aqN (r := fun i => fT (V i)) (h := fun i => Tr.int ((V i).1 - (V i).2)) (xs := List.range c) (ρ := [s0, s1, s2, s3, s4, s5, .sh (.lst ((List.range c).map fun i => fT (V i))), s7]) (rest := []) (i := fSq (aag 6)) (fe := (eOp ab3 (eOp gIx (aag 0) (eC (.int 0))) (eOp gIx (aag 0) (eC (.int 1))))) (by simp; omega) rfl rfl (fun s' => rfl) (fun s' => rfl) (fun i _ => ⟨false, by
  have a0 := g0 (V i)
  have a1 := g1' (V i)
  generalize fT (V i) = T at *
  dsimp only [ab5, List.map]
  simp -dsimp [dr, a0, a1, ab3, gI]⟩)
 have hi : ahX ((List.range c).map fun i => Tr.int ((V i).1 - (V i).2)) = some ((List.range c).map fun i => (V i).1 - (V i).2) := by
  have : ∀ l : List Nat, ahX (l.map fun i => Tr.int ((V i).1 - (V i).2)) = some (l.map fun i => (V i).1 - (V i).2) := by
   intro l
   induction l with
   | nil => rfl
   | cons a l ih => simp [ahX, ih]
  exact this _
 have hne : ((List.range c).map fun i => (V i).1 - (V i).2) ≠ [] := by
  intro z
  have := congrArg List.length z
  simp at this
  omega
 have eg : ahY (.lst ((List.range c).map fun i => Tr.int ((V i).1 - (V i).2))) = .ok (.int (mxI ((List.range c).map fun i => (V i).1 - (V i).2)), false) := by
  rw [amW, hi]
  exact if_neg hne
 refine ⟨mxI ((List.range c).map fun i => (V i).1 - (V i).2), ?_, fun hm i hi => ?_⟩
 ·unfold mxE
  generalize abF _ _ _ _ _ = G at e ⊢
  generalize Tr.lst ((List.range c).map fun i => fT (V i)) = L at *
  generalize Tr.lst ((List.range c).map fun i => Tr.int ((V i).1 - (V i).2)) = L2 at *
  simp -dsimp [e, drs, dr, g1, eg]
 ·have := (ao5 hne).2 ((V i).1 - (V i).2) (List.mem_map.mpr ⟨i, by simpa using hi, rfl⟩)
  omega
noncomputable def lwA : SF := (sIf (bOr (ae1 (aeM (aat afc (aae (aag 7) (aae (aag 6) aar))))) (aa8 (eOp gNe (aag 5) (afi (aae (aag 3) (aae (aag 4) aar)))))) (abn (eC (.bl false))) acC)
noncomputable def lwM : SF := (sIf (aa8 (eOp gLe mxE (eC (.int 0)))) (sIf (ae1 (aeM (aat afc (aae (aat aaM (aae (afi (aae (eCB (g1 abk) (aae (aag 7) aar)) aar)) (aae (eC (.tup [.str "least"])) aar))) (aae (aag 6) aar))))) (abn (eC (.bl false))) acC) acC)
noncomputable def lwZ : SF := (aaP (aeu (asn 7 afI)) (sIf (ae1 (aeM (aat afc (aae (aat aaM (aae (eOp gIx (aag 5) (eC (.int 0))) (aae (eOp gIx (aag 5) (eC (.int 1))) aar))) (aae (aag 6) aar))))) (abn (eC (.bl false))) acC))
noncomputable def lwB : SF := (aaP (ab9 (abb 0 ahq (aae (aag 1) aar)) (gN 3)) (aaP (ab9 (abb 0 ahr (aae (aag 1) (aae (eCB (g1 abf) (aae (aag 3) aar)) aar))) (gN 4)) (aaP (ab9 (afi (aae (aat afb (aae (aag 3) aar)) (aae (aat abA (aae (aag 4) aar)) aar))) (gN 5)) (aaP (ab9 (aat aeo (aae (aag 3) (aae (aag 4) aar))) (gN 6)) (aaP (ai3 7 (aat aaM (aae (eOp gIx (aag 5) (eC (.int 0))) (aae (eOp gIx (aag 5) (eC (.int 1))) aar)))) (aaP lwA (aaP lwM lwZ)))))))
theorem aqX : as9 = (aaP (ai3 1 (aat afy (aae (aag 0) aar))) (aaP (ada (aeF (afP (aae (eC (.int 3)) aar)) (gN 2) lwB)) (abn (eC (.bl true))))) := rfl
theorem at8 (s0 : Sl) (a b : Int) (s2 s3 s4 s5 s6 s7 : Sl) : ∃ (a' b' : Int) (t3 t4 t5 t6 t7 : Sl), lwB [s0, .ow [.int a, .int b], s2, s3, s4, s5, s6, s7] = .ok (.nx, [s0, .ow [.int a', .int b'], s2, t3, t4, t5, t6, t7]) := by
 obtain ⟨a1, b1, rows, c, e1, hb⟩ := aqP a b
 obtain ⟨h1, h2, h3, h4, h5⟩ := id hb
 obtain ⟨r, a2, b2, e2, ho⟩ := aqQ a1 b1 (k := rows.length) h1 h2
 have e3 := am0 h2
 have e4 := ak7 r
 obtain ⟨V, fq, e5, e6⟩ := found hb ho
 have el := amX rows
 have er := aqW (V := V) h4
 have dV : ∀ i, dep (fT (V i)) = 1 := fun i => amC _
 obtain ⟨m, em, hm⟩ := at7 (V := V) h3 h4 s0 (.ow [.int a2, .int b2]) s2 (.sh (bkT rows)) (.sh (ruT r)) (.sh (.lst [bkT rows, ruT r])) (.ow ((List.range c).map fun i => fT (V i)))
 have n3 := agd (T := .lst [bkT rows, ruT r]) (by
  rw [aaI, aaq, aaq, aav]
  have := atA rows
  have := at6 r
  omega)
 have i0 : gIx (.lst [bkT rows, ruT r]) (.int 0) = .ok (bkT rows, false) := rfl
 have i1 : gIx (.lst [bkT rows, ruT r]) (.int 1) = .ok (ruT r, false) := rfl
 have o1 : m <= 0 -> aaM [.lst [.lst ((List.range c).map fun i => fT (V i))], .tup [.str "least"]] = .ok (.lst ((List.range c).map fun i => fT (V i)), true) := fun z => aox h3 h4 fun i hi => ⟨fq i hi, hm z i hi⟩
 have fl : adH ((List.range c).map fun i => fT (V i)) = true := by
  have : ∀ l : List Nat, adH (l.map fun i => fT (V i)) = true := by
   intro l
   induction l with
   | nil => rfl
   | cons a l ih => rw [List.map_cons]; unfold adH; rw [ih]; rfl
  exact this _
 have eg : ∀ L : List Tr, abk (.lst L) = .ok (.lst L, true) := fun _ => rfl
 have mc : ∀ L : List Tr, afI L [] = .ok ([], .non) := fun _ => rfl
 generalize (List.range c).map (fun i => fT (V i)) = L at *
 have eA : lwA [s0, .ow [.int a2, .int b2], s2, .sh (bkT rows), .sh (ruT r), .sh (.lst [bkT rows, ruT r]), .sh (.lst L), .ow L] = .ok (.nx, [s0, .ow [.int a2, .int b2], s2, .sh (bkT rows), .sh (ruT r), .sh (.lst [bkT rows, ruT r]), .sh (.lst L), .ow L]) := by
  generalize bkT rows = T at *
  generalize ruT r = R at *
  unfold lwA
  simp -dsimp [drs, dr, isS, er, adI, ai4, tru, cls, n3, bOf]
 have eM : lwM [s0, .ow [.int a2, .int b2], s2, .sh (bkT rows), .sh (ruT r), .sh (.lst [bkT rows, ruT r]), .sh (.lst L), .ow L] = .ok (.nx, [s0, .ow [.int a2, .int b2], s2, .sh (bkT rows), .sh (ruT r), .sh (.lst [bkT rows, ruT r]), .sh (.lst L), .ow L]) := by
  generalize bkT rows = T at *
  generalize ruT r = R at *
  unfold lwM
  generalize mxE = G at em ⊢
  by_cases z : m <= 0
  ·have o1 := o1 z
   simp -dsimp [em, dr, drs, isS, gLe, gB, z, bOf, g1, eg, cls, o1, er, tru]
  ·simp -dsimp [em, dr, gLe, gB, z, bOf]
 have eZ : lwZ [s0, .ow [.int a2, .int b2], s2, .sh (bkT rows), .sh (ruT r), .sh (.lst [bkT rows, ruT r]), .sh (.lst L), .ow L] = .ok (.nx, [s0, .ow [.int a2, .int b2], s2, .sh (bkT rows), .sh (ruT r), .sh (.lst [bkT rows, ruT r]), .sh (.lst L), .ow []]) := by
  generalize bkT rows = T at *
  generalize ruT r = R at *
  unfold lwZ
  simp -dsimp [con, mc, abw, drs, dr, isS, i0, i1, e5, er, tru]
 refine ⟨a2, b2, .sh (bkT rows), .sh (ruT r), .sh (.lst [bkT rows, ruT r]), .sh (.lst L), .ow [], ?_⟩
 unfold lwB
 generalize lwA = G1 at eA ⊢
 generalize lwM = G2 at eM ⊢
 generalize lwZ = G3 at eZ ⊢
 generalize bkT rows = T at *
 generalize ruT r = R at *
 generalize (rows.length : Int) = N at *
 simp -dsimp [con, drs, dr, isS, others, abw, cls, g1, e1, el, e2, e3, e4, e6, i0, i1, e5, eA, eM, eZ]
theorem am1 (s0 : Sl) : ∀ (us : List Tr) (a b : Int) (s2 s3 s4 s5 s6 s7 : Sl), ∃ t1 t2 t3 t4 t5 t6 t7, abW (gN 2) lwB us [s0, .ow [.int a, .int b], s2, s3, s4, s5, s6, s7] = .ok (.nx, [s0, t1, t2, t3, t4, t5, t6, t7])
 | [], a, b, s2, s3, s4, s5, s6, s7 => ⟨_, s2, s3, s4, s5, s6, s7, rfl⟩
 | u :: us, a, b, s2, s3, s4, s5, s6, s7 => by
  obtain ⟨a', b', t3, t4, t5, t6, t7, e⟩ := at8 s0 a b (.sh u) s3 s4 s5 s6 s7
  obtain ⟨r1, r2, r3, r4, r5, r6, r7, e'⟩ := am1 s0 us a' b' (.sh u) t3 t4 t5 t6 t7
  refine ⟨r1, r2, r3, r4, r5, r6, r7, ?_⟩
  unfold abW
  simp [e, e']
theorem at9 (ns : List Int) : akV [.lst (ns.map .int)] = .ok (.bl true, false) := by
 obtain ⟨a, b, e1⟩ := aov ns
 obtain ⟨t1, t2, t3, t4, t5, t6, t7, e⟩ := am1 (.sh (.lst (ns.map .int))) (L2.upTo 0 3) a b .un .un .un .un .un .un
 have e2 : ada (aeF (afP (aae (eC (.int 3)) aar)) (gN 2) lwB) [.sh (.lst (ns.map .int)), .ow [.int a, .int b], .un, .un, .un, .un, .un, .un] = .ok (.nx, [.sh (.lst (ns.map .int)), t1, t2, t3, t4, t5, t6, t7]) := by
  show abN (abW (gN 2) lwB (L2.upTo 0 3) _) = _
  rw [e]
  rfl
 unfold akV
 rw [aqX]
 generalize ada _ = G at e2 ⊢
 generalize Tr.lst (ns.map .int) = S at *
 unfold fnP
 simp -dsimp [aaF, drs, dr, isS, e1, e2]
end K15
end
section
namespace L2
open PySem PySem.Spec PyProof.Rows PySem.W
theorem am2 {P : Program} {w : World} {K : PySem.W.Frag} {mg mb : Str -> Option Value} {CX : CXT} {k : Nat} {fa a : Addr} {x : Str} {sp : Sp} {s₁ : Shared} {vs : List Value} {ns : List Int}
  (KX : K.In s₁.heap) (hns : s₁.heap.Ns mainGlobals mg) (hb : s₁.heap.Ns builtinsNs mb) (hbb : ∀ x : Str, x ≠ "__name__" -> mb x = bootBuiltins x) (hlim : s₁.heap.NoLimit) (hg : s₁.gens = #[])
  (ha : s₁.heap.get? a = some { cls := .type "list", data := .seq vs.toArray }) (hi : IntsAre vs ns) (hl : ns.length <= sizeLine) (hr : afN k callerA)
  (hT : ∀ x ∈ abu, ∀ c b, tabIn K x = some (c, b) -> CodeHd s₁.heap c b /\ s₁.heap.get? b = some (tabObj #[])) (hNT : noTabs K = true) (hB : an4 mg s₁.heap)
  (F : ∀ base : Heap, K.In base -> base.Ns mainGlobals mg -> (∀ x ∈ abu, ∀ c b, tabIn K x = some (c, b) -> CodeHd base c b) -> an4 mg base -> ∃ fd : FuncData, (∀ (s : Shared) (u : Value), K.In s.heap -> BindsTo s fd ⟨[u], []⟩ [(x, u)]) /\ akM P w K mg base CX k fa fd [x] sp)
  (hsp : ∀ H : Hp, TbS (nlK K) H -> SqX K H a (ns.map V.int) -> sp [.ref a] H (fun v _ => v = .bl true) fun _ _ _ => False)
  (hCX : ∀ H e s', CX [] H s₁ (fun _ _ _ => False) e s' -> False) :
  codeAny (model P w) callerA (.call (.ref fa) ⟨[.ref a], []⟩) (fun r s' => r = .ok (.ret (.bool true)) /\ OldK s₁.heap s'.heap /\ s'.os = s₁.os /\ AllBare s'.gens) s₁ := by
 have rv := aiy hi
 have lenV := hi.length
 -- from an abstract heap in which nothing but the script may be tracked
 have hT' : ∀ b, Tb (nlK K) b -> ∃ c, CodeHd s₁.heap c b /\ s₁.heap.get? b = some (tabObj #[]) := fun b ⟨x, hx, c, e⟩ => ⟨c, hT x hx c b (ako e)⟩
 have core : ∀ H : Hp, (∀ b, H b = none \/ (∃ o xs, H b = some (.frz o (.lst xs))) \/ (H b = some (.tbl #[]) /\ Tb (nlK K) b)) -> TbS (nlK K) H -> SqX K H a (ns.map V.int) -> HOk P w H s₁.heap -> (∀ b, H b ≠ none -> b = a \/ Tb (nlK K) b) -> (H a ≠ none -> K.lookup a = none) ->
   codeAny (model P w) callerA (.call (.ref fa) ⟨[.ref a], []⟩) (fun r s' => r = .ok (.ret (.bool true)) /\ OldK s₁.heap s'.heap /\ s'.os = s₁.os /\ AllBare s'.gens) s₁ := by
  intro H hO hTb hS hok hA hK
  have ah9 : ∀ {b : Addr} {o : Obj}, s₁.heap.get? b = some o -> H b = none -> (ang s₁.heap H).get? b = some o := fun e n => anh e n
  have noA : ∀ {b : Addr} {o : Obj} {es : Array DictEntry} {ep : Nat}, s₁.heap.get? b = some o -> o.data = .dict es ep -> H b = none := fun {b o es ep} e d => by
   cases q : H b with
   | none => rfl
   | some u =>
    rcases hA b (by rw [q]; simp) with e' | e'
    ·subst e'
     rw [ha] at e; cases e
     have d' : Data.seq vs.toArray _ = Data.dict es ep := d
     cases d'
    ·obtain ⟨c, _, z⟩ := hT' b e'
     rw [z] at e; cases e
     cases d
  have nsK : ∀ {b : Addr} {m : Str -> Option Value}, s₁.heap.Ns b m -> (ang s₁.heap H).Ns b m := fun {b m} ⟨o, es, ep, e, d, r⟩ => ⟨o, es, ep, ah9 e (noA e d), d, r⟩
  have hKb : K.In (ang s₁.heap H) := fun b o e => ah9 (KX b o e) (by
   cases q : H b with
   | none => rfl
   | some u =>
    rcases hA b (by rw [q]; simp) with e' | e'
    ·subst e'
     rw [hK (by rw [q]; simp)] at e; cases e
    ·obtain ⟨c, _, z⟩ := hT' b e'
     have z2 := KX b o e
     rw [z] at z2
     cases z2
     have h2 := List.all_eq_true.mp hNT (b, _) (mem_of_lookupK e)
     exact absurd (show false = true from h2) Bool.false_ne_true)
  have hM : Mod K mg (ang s₁.heap H) := ⟨hKb, nsK hns, ⟨mb, nsK hb, hbb⟩, let ⟨mc, h1, h2⟩ := hlim; ⟨mc, nsK h1, h2⟩⟩
  have e0 : aur P w K mg (ang s₁.heap H) callerA [] s₁ H := ⟨rfl, hM, fun b o e => apl e, Nat.le_of_eq (alu _ _), trivial, fun b hb => absurd (show b ∈ ([] : List Addr) from hb) (by simp), hok, .of_eq hg⟩
  have free : ∀ {b : Addr} {o : Obj}, s₁.heap.get? b = some o -> o.cls ≠ .none -> (∀ its n, o.data ≠ .seq its n) -> H b = none := fun {b o} e n1 n2 => by
   cases q : H b with
   | none => rfl
   | some u =>
    rcases hA b (by rw [q]; simp) with e' | e'
    ·subst e'
     rw [ha] at e; cases e
     exact (n2 _ _ rfl).elim
    ·obtain ⟨c, _, z⟩ := hT' b e'
     rw [z] at e; cases e
     exact (n1 rfl).elim
  obtain ⟨fd, hbind, F1⟩ := F _ hKb (nsK hns) (fun x hx c b e => by
   obtain ⟨o, vs', file, tf, flags, tg, inF, text, tt, e1, r1, r2, r3⟩ := (hT x hx c b e).1
   exact ⟨o, vs', file, tf, flags, tg, inF, text, tt, ah9 e1 (free e1 (by rw [r1]; intro z; cases z) (fun _ _ z => by rw [r2] at z; cases z)), r1, r2, r3⟩) (by
   obtain ⟨bm, ob, b1, b2, b3, b4, b5, b6, b7⟩ := hB
   exact ⟨bm, ob, b1, b2, b3, ah9 b4 (free b4 (by rw [b5]; intro z; cases z) (fun _ _ z => by rw [b7] at z; cases z)), b5, b6, b7⟩)
  refine codeAny_mono (F1.run callerA [] s₁ H ⟨[.ref a], []⟩ [.ref a] [.ref a] _ _ hr e0 (hbind s₁ (.ref a) KX) (.cons rfl .nil) (hsp H hTb hS)) fun r s' h => ?_
  cases r with
  | error e => exact (hCX H e s' h).elim
  | ok fl =>
   cases fl with
   | next => exact False.elim h
   | brk => exact False.elim h
   | cont => exact False.elim h
   | ret u =>
    obtain ⟨v, H', os, bare, un, hok', r', q⟩ := h
    have q' : v = .bl true := q
    subst q'
    obtain rfl : u = Value.bool true := r'
    refine ⟨rfl, ⟨fun b o e => ?_, fun b o e => un.there b o e (by simp)⟩, os, bare⟩
    cases q : H b with
    | none => exact .inl (un.keep b o e q (by intro z; exact absurd (show b ∈ ([] : List Addr) from z) (by simp)) (by simp))
    | some u =>
     rcases hO b with z | ⟨ob, xs, z⟩ | ⟨z, zt⟩
     ·rw [q] at z; cases z
     ·have z2 := un.alr b ob _ z
      obtain ⟨e1, _⟩ := hok b _ z
      obtain ⟨e2, _⟩ := hok' b _ z2
      rw [e] at e1; cases e1
      exact .inl e2
     ·obtain ⟨more, z2⟩ := un.als b _ z
      have e1 : s₁.heap.get? b = some (tabObj #[]) := hok b _ z
      have e2 : s'.heap.get? b = some (tabObj (#[] ++ more)) := hok' b _ z2
      rw [e] at e1; cases e1
      obtain ⟨c, hc, _⟩ := hT' b zt
      exact .inr (.inl ⟨(hc.tab e).isCodeTable, rfl, #[], more, rfl, e2⟩)
 classical
 have axc : ∀ H : Hp, (∀ b, Tb (nlK K) b -> H b = some (.tbl #[])) -> TbS (nlK K) H := fun H h x hx c b e => ⟨#[], h b ⟨x, hx, c, e⟩, trivial, fun pos v z => by cases z⟩
 have nTa : ¬ Tb (nlK K) a := fun z => by
  obtain ⟨c, _, e⟩ := hT' a z
  rw [ha] at e
  cases e
 cases hk : K.lookup a with
 | some o =>
  have e := KX a o hk
  rw [ha] at e
  cases e
  refine core (fun b => if Tb (nlK K) b then some (.tbl #[]) else none) (fun b => ?_) (axc _ fun b z => if_pos z) (.inr ⟨vs.toArray, _, hk, by rw [List.size_toArray, lenV]; exact hl, by simpa using rv⟩) (fun b u z => ?_) (fun b z => ?_) fun z => ?_
  ·by_cases q : Tb (nlK K) b
   ·exact .inr (.inr ⟨if_pos q, q⟩)
   ·exact .inl (if_neg q)
  ·by_cases q : Tb (nlK K) b
   ·have z' := (if_pos q).symm.trans z
    cases z'
    obtain ⟨c, _, e⟩ := hT' b q
    exact e
   ·have z' := (if_neg q).symm.trans z
    cases z'
  ·by_cases q : Tb (nlK K) b
   ·exact .inr q
   ·exact absurd (if_neg q) z
  ·exact absurd (if_neg nTa) z
 | none =>
  refine core (fun b => if b = a then some (.frz { cls := .type "list", data := .seq vs.toArray } (.lst (ns.map V.int))) else if Tb (nlK K) b then some (.tbl #[]) else none) (fun b => ?_) (axc _ fun b z => by
   have nb : ¬ b = a := fun q => nTa (by rw [<-q]; exact z)
   exact (if_neg nb).trans (if_pos z)) (.inl (.inr ⟨{ cls := .type "list", data := .seq vs.toArray }, if_pos rfl⟩)) (fun b u z => ?_) (fun b z => ?_) fun _ => hk
  ·by_cases hb : b = a
   ·exact .inr (.inl ⟨_, _, if_pos hb⟩)
   ·by_cases q : Tb (nlK K) b
    ·exact .inr (.inr ⟨(if_neg hb).trans (if_pos q), q⟩)
    ·exact .inl ((if_neg hb).trans (if_neg q))
  ·by_cases hb : b = a
   ·have z' := (if_pos hb).symm.trans z
    cases z'
    subst hb
    exact ⟨ha, by rw [List.length_map]; exact hl, vs, _, rv, ha⟩
   ·have z' := (if_neg hb).symm.trans z
    by_cases q : Tb (nlK K) b
    ·have z' := (if_pos q).symm.trans z'
     cases z'
     obtain ⟨c, _, e⟩ := hT' b q
     exact e
    ·have z' := (if_neg q).symm.trans z'
     cases z'
  ·by_cases hb : b = a
   ·exact .inl hb
   ·by_cases q : Tb (nlK K) b
    ·exact .inr q
    ·exact absurd ((if_neg hb).trans (if_neg q)) z
theorem aoy {l : PySem.W.OpenLaw} {n k : Nat} {q : Program} {loose : List Str} {XP : (Str -> Option Value) -> Heap -> Prop} {YP : World -> Heap -> Prop} {d : DefRec} {K : Params -> PySem.W.Frag} {CX : World -> CXT} {sp : World -> Sp} {x : Str}
  (hn : l.most = some n) (hn2 : n <= sizeLine) (hdf : d.params.defaults = []) (hr : afN k callerA)
  (aua : ∀ x ∈ abu, ((recsOf q).find? (fun e => e.name == x)).isSome = true \/ ∀ w : World, nsIn (K w.params) mainGlobals x = some none) (hNT : ∀ w : World, noTabs (K w.params) = true)
  (hY : ∀ (w : World) (h : Heap), YP w h -> (K w.params).In h)
  (F : ∀ (w : World) (mg : Str -> Option Value) (fa : Addr) (h : Heap), (K w.params).In h -> h.Ns mainGlobals mg -> mg d.name = some (.ref fa) ->
   ∀ base : Heap, (K w.params).In base -> base.Ns mainGlobals mg -> (∀ x ∈ abu, ∀ c b, tabIn (K w.params) x = some (c, b) -> CodeHd base c b) -> an4 mg base -> ∃ fd : FuncData, (∀ (s : Shared) (u : Value), (K w.params).In s.heap -> BindsTo s fd ⟨[u], []⟩ [(x, u)]) /\ akM l.prog w (K w.params) mg base (CX w) k fa fd [x] (sp w))
  (hsp : ∀ (w : World) (H : Hp) (a : Addr) (ns : List Int), ns.length <= n -> TbS (nlK (K w.params)) H -> SqX (K w.params) H a (ns.map V.int) -> sp w [.ref a] H (fun v _ => v = .bl true) fun _ _ _ => False)
  (hCX : ∀ (w : World) (H : Hp) (s : Shared) (e : Value) (s' : Shared), CX w [] H s (fun _ _ _ => False) e s' -> False) :
  PySem.W.WalkO q loose XP YP l.row.toRowW d [] (fun f vs => PySem.call f vs) := by
 refine Att.ajb hn hdf fun w s₀ s₁ mg mb fa o pm cd doc a vs ns G Y ho hd hcd hmg hobj hints hlen hg => ?_
 have KX := hY w _ Y
 have hT : ∀ x ∈ abu, ∀ c b, tabIn (K w.params) x = some (c, b) -> CodeHd s₁.heap c b /\ s₁.heap.get? b = some (tabObj #[]) := fun x hx c b e => by
  rcases aua x hx with z | z
  ·obtain ⟨d, z⟩ := Option.isSome_iff_exists.mp z
   exact tab_of G.T KX z e
  ·rw [akp (z w)] at e; cases e
 have hB : an4 mg s₁.heap := by
  obtain ⟨bm, ob, b1, b2, b3, b4, b5, b6⟩ := G.T.bmain
  refine ⟨bm, ob, b1, b2, fun z => ?_, b3, b4, b5, b6⟩
  obtain ⟨o, es, ep, e, hd, _⟩ := G.T.g
  rw [z, e] at b3; cases b3
  rw [hd] at b6; cases b6
 exact am2 KX G.T.g G.T.b G.T.builtins G.T.nolimit hg hobj hints (Nat.le_trans hlen hn2) hr hT (hNT w) hB (F w mg fa _ KX G.T.g hmg) (fun H hO hS => hsp w H a ns hlen hO hS) fun H e s' => hCX w H s₁ e s'
end L2
end
section
set_option exponentiation.threshold 2000
namespace K15
open PySem L2 BH PySem.W
section
variable {K : Frag} {mg : Str -> Option Value} {h : Heap}
theorem abU {x : Str} {st : Stmt} (X : K.In h) (G : h.Ns mainGlobals mg) {f : Addr} {od an : Option Addr} {sl : Array (Option Value)} {oc kV dc pm cd ct : Value}
  (a : nsIn K mainGlobals x = some (some (.ref f))) (l : K.lookup f = some ⟨oc, od, .func (fnOf x x (acZ st) (abY st) (aan st) .none kV dc pm an cd ct), sl⟩) (c : codeIn K cd x = true) (k : keepIn K (.ref f) = true) : At K mg x st :=
 ⟨f, _, aoL (st := st) l c k, mg_of X G a⟩
theorem aub {x : Str} {st : Stmt} (X : K.In h) (G : h.Ns mainGlobals mg) {f c : Addr} {od an : Option Addr} {sl : Array (Option Value)} {oc kV dc pm ct : Value}
  (a : nsIn K mainGlobals x = some (some (.ref f))) (l : K.lookup f = some ⟨oc, od, .func (fnOf x x (acZ st) (abY st) (aan st) .none kV dc pm an (.ref c) ct), sl⟩) (cc : codeIn K (.ref c) x = true) (k : keepIn K (.ref f) = true) : AtL K mg x st c :=
 ⟨f, _, aoL (st := st) l cc k, mg_of X G a, rfl⟩
theorem apk {x : Str} {i : Int} {tk : Tok} (X : K.In h) (G : h.Ns mainGlobals mg) (a : nsIn K mainGlobals x = some (some (.int i tk))) : Gk K mg x (.int i) (.int i) := ⟨.int i tk, mg_of X G a, by first | exact rfl | exact ⟨_, rfl⟩, fun _ => .int i⟩
theorem aia {H : Hp} {a : Addr} {od : Option Addr} {its : Array Value} {n : Nat} {sl : Array (Option Value)} {xs : List V} {vs : List Value} {ts : List Tr} (l : K.lookup a = some ⟨.type "tuple", od, .seq its n, sl⟩) (e : its.toList = vs) (hl : vs.length <= 1000) (r : Vals xs vs) (rr : aa1 (nlK K) H xs ts) : Rep (nlK K) H (.ref a) (.tup ts) := by
 refine .tup (xs := xs) (.inr ⟨_, its, n, arT l rfl, rfl, rfl, ?_, by rw [e]; exact r⟩) rr
 rw [<-Array.length_toList, e]
 exact Nat.le_of_lt (agk hl)
theorem aqY (X : K.In h) (G : h.Ns mainGlobals mg) {a r1 r2 r3 : Addr} {od o1 o2 o3 : Option Addr} {its i1 i2 i3 : Array Value} {n n1 n2 n3 : Nat} {sl sl1 sl2 sl3 : Array (Option Value)} {t1 t2 t3 : Tok}
  (m : nsIn K mainGlobals "BARE_RULES" = some (some (.ref a))) (l : K.lookup a = some ⟨.type "tuple", od, .seq its n, sl⟩) (e : its.toList = [.ref r1, .ref r2, .ref r3])
  (l1 : K.lookup r1 = some ⟨.type "tuple", o1, .seq i1 n1, sl1⟩) (e1 : i1.toList = [.str "least" t1]) (l2 : K.lookup r2 = some ⟨.type "tuple", o2, .seq i2 n2, sl2⟩) (e2 : i2.toList = [.str "greatest" t2]) (l3 : K.lookup r3 = some ⟨.type "tuple", o3, .seq i3 n3, sl3⟩) (e3 : i3.toList = [.str "product" t3]) : Gk K mg "BARE_RULES" (.ref a) (.tup [(.tup [(.str "least")]), (.tup [(.str "greatest")]), (.tup [(.str "product")])]) := by
 refine ⟨_, mg_of X G m, rfl, fun H => aia (xs := [.ref r1, .ref r2, .ref r3]) l e (Nat.le_of_ble_eq_true rfl) (.cons rfl (.cons rfl (.cons rfl .nil))) ?_⟩
 exact .cons (aia (xs := [.str "least"]) l1 e1 (Nat.le_of_ble_eq_true rfl) (.cons ⟨_, rfl⟩ .nil) (.cons (.str _) .nil)) (.cons (aia (xs := [.str "greatest"]) l2 e2 (Nat.le_of_ble_eq_true rfl) (.cons ⟨_, rfl⟩ .nil) (.cons (.str _) .nil)) (.cons (aia (xs := [.str "product"]) l3 e3 (Nat.le_of_ble_eq_true rfl) (.cons ⟨_, rfl⟩ .nil) (.cons (.str _) .nil)) .nil))
theorem am3 (H : Hp) : aaY (fun _ => False) H = H := by
 funext b
 exact aaX (fun z => z)
theorem aiX {K : Frag} {H : Hp} : ∀ ns : List Int, aa1 K H (ns.map V.int) (ns.map Tr.int)
 | [] => .nil
 | n :: ns => .cons (.int n) (aiX ns)
noncomputable def spL (K : Frag) (n : Nat) (F : FP) : Sp := fun vs H Q E => ∃ Z ts, vs.length = n /\ aa1 (nlK K) (aaY Z H) vs ts /\ (∀ b, Z b -> Lt H b) /\ TbS (nlK K) H /\ ∃ p, F ts = .ok p /\ ∀ v H', SmT (nlK K) H H' -> VRt (nlK K) Z H H' v p.1 p.2 -> Q v H'
theorem aqZ {K : Frag} {cl : Str -> Addr} {n : Nat} {F : FP} (vs : List V) (H : Hp) (Q : VK) (E : XK) (h : spL K n F vs H Q E) : spP K cl n F vs H Q E := by
 obtain ⟨Z, ts, h1, h2, h3, h4, p, h5, h6⟩ := h
 refine ⟨Z, ts, h1, h2, h3, h4, ?_⟩
 rw [h5]
 exact h6
theorem awl (X : K.In h) (G : h.Ns mainGlobals mg) (z0 : nsIn K mainGlobals "abs" = some none) (z1 : nsIn K mainGlobals "all" = some none) (z2 : nsIn K mainGlobals "bool" = some none) (z3 : nsIn K mainGlobals "enumerate" = some none) (z4 : nsIn K mainGlobals "int" = some none) (z5 : nsIn K mainGlobals "isinstance" = some none) (z6 : nsIn K mainGlobals "len" = some none) (z7 : nsIn K mainGlobals "list" = some none) (z8 : nsIn K mainGlobals "max" = some none) (z9 : nsIn K mainGlobals "min" = some none) (z10 : nsIn K mainGlobals "range" = some none) (z11 : nsIn K mainGlobals "sorted" = some none) (z12 : nsIn K mainGlobals "tuple" = some none) (z13 : nsIn K mainGlobals "zip" = some none) : Nm mg :=
 ⟨mg_none_of X G z0, mg_none_of X G z1, mg_none_of X G z2, mg_none_of X G z3, mg_none_of X G z4, mg_none_of X G z5, mg_none_of X G z6, mg_none_of X G z7, mg_none_of X G z8, mg_none_of X G z9, mg_none_of X G z10, mg_none_of X G z11, mg_none_of X G z12, mg_none_of X G z13⟩
end
section
variable {P : Program} {w : World} {K : Frag} {mg : Str -> Option Value} {base : Heap}
theorem awm (M : Nm mg) {afC : Addr} (aep : PyProof.Rows.OwnCls "NoBottom" afC bmV "ValueError.__new__" mg base) {aib : Addr} (agb : PyProof.Rows.OwnCls "NoBook" aib bmV "ValueError.__new__" mg base) {aic : Addr} (agc : PyProof.Rows.OwnCls "NoRule" aic bmV "ValueError.__new__" mg base) (ak8 : At K mg "is_whole" aft) (afX : At K mg "common_divisor" acJ) (aie : At K mg "fraction_of" adK) (ak9 : At K mg "frac_sum" afu) (aiY : At K mg "frac_times" aec) (aif : At K mg "is_fraction" adL) (agN : At K mg "common_bottom" ac6) (aey : At K mg "tops_on_one_bottom" abL) {adZ afY : Addr} (afZ : AtL K mg "falling_places" acg adZ) (af0 : aoa K mg base "falling_places" adZ afY) (ala : At K mg "is_worth" afv) (aiZ : At K mg "are_worths" adl) (am4 : At K mg "is_book" aed) (ajO : At K mg "need_book" aeO) (aii : At K mg "are_weights" acS) (am5 : At K mg "is_rule" agC) (ag4 : At K mg "shares_worth" adt) (agO : At K mg "product_worth" ac7) (alb : At K mg "place_of" afw) (alc : At K mg "worth_by" afx) (aez : At K mg "need_book_and_rule" ab7) (ajP : At K mg "worths_of" adM) (ajQ : At K mg "worths_by" adN) (ag5 : At K mg "thing_worths" adu) (aq0 : At K mg "_law_purse" ajr) (auc : At K mg "_law_draw" amk) (aud : At K mg "_law_frac" aml) (aq1 : At K mg "_law_worth" ajs) (aq2 : At K mg "_law_lists" ajt) (aue : At K mg "_law_book" amm) (auf : At K mg "_law_rule" amn) (aoz : At K mg "_law_copied" aga) (aij : At K mg "_law_rule_copied" adO) (auh : At K mg "_law_less" amo) (axM : At K mg "_law_of" auD) (aoA : At K mg "_law_worths" afa) (aui : At K mg "_law_pair" akr) (auj : At K mg "_law_rows" aks) (awn : At K mg "law" aod) {aee : V} (adn : Gk K mg "MOST_LISTS" aee (.int 4)) {adT : V} (acT : Gk K mg "MOST_THINGS" adT (.int 12)) {aef : V} (ado : Gk K mg "BARE_RULES" aef (.tup [(.tup [(.str "least")]), (.tup [(.str "greatest")]), (.tup [(.str "product")])])) : DfX P w K mg base 9 "law" (["_law_script"] : List Str) (spL K 1 akV) := by
 obtain ⟨cl, ald, aoB, aoC⟩ : ∃ cl : Str → Addr, cl "NoBottom" = afC ∧ cl "NoBook" = aib ∧ cl "NoRule" = aic := ⟨fun x => if x = ("NoBottom" : Str) then afC else if x = ("NoBook" : Str) then aib else if x = ("NoRule" : Str) then aic else 0, if_pos rfl, (if_neg (by decide +kernel)).trans (if_pos rfl), (if_neg (by decide +kernel)).trans ((if_neg (by decide +kernel)).trans (if_pos rfl))⟩
 rw [<-ald] at aep
 rw [<-aoB] at agb
 rw [<-aoC] at agc
 have ahu := ajx (P := P) (w := w) (base := base) (cl := cl) ak8 M
 have acK := afz (P := P) (w := w) (base := base) (cl := cl) afX M
 have afg := agZ (P := P) (w := w) (base := base) (cl := cl) aie M aep acK
 have ale := ajw (P := P) (w := w) (base := base) (cl := cl) ak9 M afg
 have afM := ah3 (P := P) (w := w) (base := base) (cl := cl) aiY M afg
 have afh := ag0 (P := P) (w := w) (base := base) (cl := cl) aif M ahu acK
 have agP := afS (P := P) (w := w) (base := base) (cl := cl) agN M acK
 have aeA := aei (P := P) (w := w) (base := base) (cl := cl) aey M agP
 have af2 := afA (P := P) (w := w) (base := base) (cl := cl) afZ af0 M aeA
 have alf := ajy (P := P) (w := w) (base := base) (cl := cl) ala M afh
 have ai0 := ah2 (P := P) (w := w) (base := base) (cl := cl) aiZ M alf
 have am6 := akX (P := P) (w := w) (base := base) (cl := cl) am4 M adn acT ai0
 have ajR := aiO (P := P) (w := w) (base := base) (cl := cl) ajO M agb am6
 have aik := agY (P := P) (w := w) (base := base) (cl := cl) aii M afh
 have am7 := akY (P := P) (w := w) (base := base) (cl := cl) am5 M ado aik ahu
 have ag6 := agE (P := P) (w := w) (base := base) (cl := cl) ag4 M ale afM
 have agQ := afT (P := P) (w := w) (base := base) (cl := cl) agO M afM
 have alg := ajA (P := P) (w := w) (base := base) (cl := cl) alb M
 have alh := ajC (P := P) (w := w) (base := base) (cl := cl) alc M ag6 agQ af2 alg
 have aeB := aeg (P := P) (w := w) (base := base) (cl := cl) aez M agc ajR am7
 have ajS := aiQ (P := P) (w := w) (base := base) (cl := cl) ajP M
 have ajT := aiP (P := P) (w := w) (base := base) (cl := cl) ajQ M alh ajS
 have ag7 := agF (P := P) (w := w) (base := base) (cl := cl) ag5 M aeB ajT
 have aq3 := aqB (P := P) (w := w) (base := base) (cl := cl) aq0 M
 have am8 := atb (P := P) (w := w) (base := base) auc M
 have am9 := atc (P := P) (w := w) (base := base) (cl := cl) aud M
 have aq4 := aqC (P := P) (w := w) (base := base) (cl := cl) aq1 M am8 am9
 have aq5 := aqz (P := P) (w := w) (base := base) aq2 M aq4
 have auk := ata (P := P) (w := w) (base := base) aue M aq5 am8
 have aul := ati (P := P) (w := w) (base := base) (cl := cl) auf M am8 am9
 have aoD := aoi (P := P) (w := w) (base := base) (cl := cl) aoz M
 have ail := ah1 (P := P) (w := w) (base := base) (cl := cl) aij M
 have aum := atd (P := P) (w := w) (base := base) (cl := cl) auh M
 have axN := axF (P := P) (w := w) (base := base) (cl := cl) axM M am9 aum
 have aoE := aoj (P := P) (w := w) (base := base) (cl := cl) aoA M axN
 have aun := atf (P := P) (w := w) (base := base) (cl := cl) aui M
 have auo := atg (P := P) (w := w) (base := base) (cl := cl) auj M aun
 have awo := atj (P := P) (w := w) (base := base) (cl := cl) awn M aq3 auk aul aoE ag7 aoD ail auo
 obtain ⟨f, fd, h1, h2⟩ := awo
 exact ⟨f, fd, h1.imp aqZ, h2⟩
end
theorem walk {l : OpenLaw} {q : Program} {loose : List Str} {XP : (Str -> Option Value) -> Heap -> Prop} {YP : World -> Heap -> Prop} {d : DefRec} {K : Params -> Frag} (hn : l.most = some 63) (hdf : d.params.defaults = []) (hd : d.name = "law")
  (aua : ∀ x ∈ abu, ((PyProof.Rows.recsOf q).find? (fun e => e.name == x)).isSome = true \/ ∀ w : World, nsIn (K w.params) mainGlobals x = some none) (hNT : ∀ w : World, noTabs (K w.params) = true)
  (hY : ∀ (w : World) (h : Heap), YP w h -> (K w.params).In h)
  (F : ∀ (w : World) (mg : Str -> Option Value) (h : Heap), (K w.params).In h -> h.Ns mainGlobals mg -> ∀ base : Heap, (K w.params).In base -> base.Ns mainGlobals mg -> (∀ x ∈ abu, ∀ c b, tabIn (K w.params) x = some (c, b) -> CodeHd base c b) -> an4 mg base -> DfX l.prog w (K w.params) mg base 9 "law" (["_law_script"] : List Str) (spL (K w.params) 1 akV)) :
  WalkO q loose XP YP l.row.toRowW d [] (fun f vs => PySem.call f vs) :=
 L2.aoy (n := 63) (k := 9) (x := "_law_script") (CX := fun w => CXF l.prog w) (sp := fun w => spL (K w.params) 1 akV) hn (by decide) hdf ⟨rfl, by decide, by decide⟩ aua hNT hY
  (fun w mg fa h KX G hm base kb gb hc bm => by
   obtain ⟨f, fd, h1, h2, _, h4⟩ := F w mg h KX G base kb gb hc bm
   rw [hd] at hm
   cases h4.symm.trans hm
   exact ⟨fd, fun s u ks => h2 s [u] ks rfl, h1⟩)
  (fun w H a ns hl hTb hS => ⟨fun _ => False, [.lst (ns.map .int)], rfl, .cons (.lst ((am3 H).symm ▸ hS.toN) (aiX ns)) .nil, fun b z => z.elim, hTb, _, at9 ns, fun v H' _ r => by
   cases r
   rfl⟩)
  fun w H s e s' h => by
   obtain ⟨_, _, _, _, _, _, z, _⟩ := h
   exact z
end K15
end
section
namespace PySem.W.Fast
end PySem.W.Fast
namespace PySem.W.Fast
end PySem.W.Fast
namespace PySem.W.Fast
theorem tw10139551818380741920 : True := ⟨⟩
theorem tw10283822949306672743 : True := ⟨⟩
theorem tw10861476715558352441 : True := ⟨⟩
theorem tw10976954740698927381 : True := ⟨⟩
theorem tw11142704279223138561 : True := ⟨⟩
theorem tw11197153697670057384 : True := ⟨⟩
theorem tw11395085251969401975 : True := ⟨⟩
theorem tw11606659962628543177 : True := ⟨⟩
theorem tw11713821280998983906 : True := ⟨⟩
theorem tw11728588369716440357 : True := ⟨⟩
theorem tw1192415478026919128 : True := ⟨⟩
theorem tw11999025944678690745 : True := ⟨⟩
theorem tw12032095413947549870 : True := ⟨⟩
theorem tw12061492686729520377 : True := ⟨⟩
theorem tw12095829188541675353 : True := ⟨⟩
theorem tw12172470112753085344 : True := ⟨⟩
theorem tw12570272775612556889 : True := ⟨⟩
theorem tw12582495887150610894 : True := ⟨⟩
theorem tw12625811372263164496 : True := ⟨⟩
theorem tw12693600279153140270 : True := ⟨⟩
theorem tw1270791137824893433 : True := ⟨⟩
theorem tw12748570694732022035 : True := ⟨⟩
theorem tw12819592606554531481 : True := ⟨⟩
theorem tw12827347671256911706 : True := ⟨⟩
theorem tw13304169858525729605 : True := ⟨⟩
theorem tw13693464640968510481 : True := ⟨⟩
theorem tw1376197008968118323 : True := ⟨⟩
theorem tw13932089983523985277 : True := ⟨⟩
theorem tw13962954865991788391 : True := ⟨⟩
theorem tw14231714283861623743 : True := ⟨⟩
theorem tw14410647519484832928 : True := ⟨⟩
theorem tw14432214672804940590 : True := ⟨⟩
theorem tw14458382774685942880 : True := ⟨⟩
theorem tw14541995271485199487 : True := ⟨⟩
theorem tw14660689993351935617 : True := ⟨⟩
theorem tw14718653842599443987 : True := ⟨⟩
theorem tw14899904090375546969 : True := ⟨⟩
theorem tw15364423905245253149 : True := ⟨⟩
theorem tw15660782372208233848 : True := ⟨⟩
theorem tw15861005786685670061 : True := ⟨⟩
theorem tw16182509092121002008 : True := ⟨⟩
theorem tw16271527757467272185 : True := ⟨⟩
theorem tw16351976973559058372 : True := ⟨⟩
theorem tw1635381315707100665 : True := ⟨⟩
theorem tw16387099151802861611 : True := ⟨⟩
theorem tw16500600377299007551 : True := ⟨⟩
theorem tw1687538333931546355 : True := ⟨⟩
theorem tw16953781167390576288 : True := ⟨⟩
theorem tw17108478412244115199 : True := ⟨⟩
theorem tw17299163355445554164 : True := ⟨⟩
theorem tw17592116499638661701 : True := ⟨⟩
theorem tw17738429917348975472 : True := ⟨⟩
theorem tw17866310601300640680 : True := ⟨⟩
theorem tw17911679324594866847 : True := ⟨⟩
theorem tw1817075805370796764 : True := ⟨⟩
theorem tw18179512696838270895 : True := ⟨⟩
theorem tw18434521730878871280 : True := ⟨⟩
theorem tw1875930690676671441 : True := ⟨⟩
theorem tw2288297490091743000 : True := ⟨⟩
theorem tw2469821325313893551 : True := ⟨⟩
theorem tw2645862151636132691 : True := ⟨⟩
theorem tw2878711039448056603 : True := ⟨⟩
theorem tw3435280311604473887 : True := ⟨⟩
theorem tw3786575305117902760 : True := ⟨⟩
theorem tw3913425012596989758 : True := ⟨⟩
theorem tw4098283515359213353 : True := ⟨⟩
theorem tw4172846875891910799 : True := ⟨⟩
theorem tw4301448903801407678 : True := ⟨⟩
theorem tw4574657952820509207 : True := ⟨⟩
theorem tw4952960422636379912 : True := ⟨⟩
theorem tw5058370579840369617 : True := ⟨⟩
theorem tw5104765711843509357 : True := ⟨⟩
theorem tw5424621841607031425 : True := ⟨⟩
theorem tw5817618877399873742 : True := ⟨⟩
theorem tw5822271304926591272 : True := ⟨⟩
theorem tw6132924515800054377 : True := ⟨⟩
theorem tw6459135141519465025 : True := ⟨⟩
theorem tw6571746385955215195 : True := ⟨⟩
theorem tw6815402729152067488 : True := ⟨⟩
theorem tw7201120865137999995 : True := ⟨⟩
theorem tw7255454205452980610 : True := ⟨⟩
theorem tw7277895255247449400 : True := ⟨⟩
theorem tw7470793171861331229 : True := ⟨⟩
theorem tw7515423365013792704 : True := ⟨⟩
theorem tw8212734628788856643 : True := ⟨⟩
theorem tw8213881767685970212 : True := ⟨⟩
theorem tw8610104717386456329 : True := ⟨⟩
theorem tw8740481715623932203 : True := ⟨⟩
theorem tw874762465718740910 : True := ⟨⟩
theorem tw8751493594289823236 : True := ⟨⟩
theorem tw882272447398365530 : True := ⟨⟩
theorem tw903607716700931801 : True := ⟨⟩
theorem tw914606254721620435 : True := ⟨⟩
theorem tw9168463881483314014 : True := ⟨⟩
theorem tw9566141479028540756 : True := ⟨⟩
theorem tw9582397253310200075 : True := ⟨⟩
theorem tw9946768220817469834 : True := ⟨⟩
theorem tw9988120858907694529 : True := ⟨⟩
end PySem.W.Fast
open PySem PySem.W PyProof.Rows
set_option maxRecDepth 100000 in
set_option maxHeartbeats 0 in
theorem PySem.Challenge.cw_bestheads_k15_worths_of_things_holds : PySem.Challenge.rw_bestheads_k15_worths_of_things.Holds := by
 w_on; o_law; k_head; (case hw => w_witness2)
 k_fill
 refine K15.walk (l := PySem.Challenge.rw_bestheads_k15_worths_of_things) rfl rfl rfl ?aua ?hNT (fun w h Y => by first | exact PySem.W.km_in_of Y | exact PySem.W.kIn_of Y) ?F
 case aua =>
  intro x hx
  rcases (List.mem_cons.mp hx) with rfl | hx
  ·exact .inl (by kernel_rfl)
  ·rw [List.mem_singleton.mp hx]
   exact .inr fun w => by k_is
 case hNT => intro w; kernel_rfl
 case F =>
  intro w mg h KX G base kb gb hcd hbm
  refine' K15.awm ?qM ?ajU ?ana ?anb ?qd1 ?qd2 ?qd3 ?qd4 ?qd5 ?qd6 ?qd7 ?qd8 ?qd9 ?qe9 ?axO ?axP ?axQ ?axR ?axS ?axT ?axU ?axV ?axW ?axX ?axY ?axZ ?ax0 ?ax1 ?ax2 ?ax3 ?ax4 ?ax5 ?ax6 ?ax7 ?ax8 ?ax9 ?aya ?ayb ?ayc ?ayd ?aye ?ayf ?ayg ?awp ?awq ?awr
  case qM =>
   refine' K15.awl KX G ?z0 ?z1 ?z2 ?z3 ?z4 ?z5 ?z6 ?z7 ?z8 ?z9 ?z10 ?z11 ?z12 ?z13
   all_goals k_is
  case qd1 =>
   refine' K15.abU KX G ?qa1 ?ql1 ?qc1 ?qk1
   (case qa1 => k_is); (case ql1 => k_is); (case qc1 => k_is); (case qk1 => k_is)
  case qd2 =>
   refine' K15.abU KX G ?qa2 ?ql2 ?qc2 ?qk2
   (case qa2 => k_is); (case ql2 => k_is); (case qc2 => k_is); (case qk2 => k_is)
  case qd3 =>
   refine' K15.abU KX G ?qa3 ?ql3 ?qc3 ?qk3
   (case qa3 => k_is); (case ql3 => k_is); (case qc3 => k_is); (case qk3 => k_is)
  case qd4 =>
   refine' K15.abU KX G ?qa4 ?ql4 ?qc4 ?qk4
   (case qa4 => k_is); (case ql4 => k_is); (case qc4 => k_is); (case qk4 => k_is)
  case qd5 =>
   refine' K15.abU KX G ?qa5 ?ql5 ?qc5 ?qk5
   (case qa5 => k_is); (case ql5 => k_is); (case qc5 => k_is); (case qk5 => k_is)
  case qd6 =>
   refine' K15.abU KX G ?qa6 ?ql6 ?qc6 ?qk6
   (case qa6 => k_is); (case ql6 => k_is); (case qc6 => k_is); (case qk6 => k_is)
  case qd7 =>
   refine' K15.abU KX G ?qa7 ?ql7 ?qc7 ?qk7
   (case qa7 => k_is); (case ql7 => k_is); (case qc7 => k_is); (case qk7 => k_is)
  case qd8 =>
   refine' K15.abU KX G ?qa8 ?ql8 ?qc8 ?qk8
   (case qa8 => k_is); (case ql8 => k_is); (case qc8 => k_is); (case qk8 => k_is)
  case axO =>
   refine' K15.abU KX G ?ayh ?ayi ?ayj ?ayk
   (case ayh => k_is); (case ayi => k_is); (case ayj => k_is); (case ayk => k_is)
  case axP =>
   refine' K15.abU KX G ?ayl ?aym ?ayn ?ayo
   (case ayl => k_is); (case aym => k_is); (case ayn => k_is); (case ayo => k_is)
  case axQ =>
   refine' K15.abU KX G ?ayp ?ayq ?ayr ?ays
   (case ayp => k_is); (case ayq => k_is); (case ayr => k_is); (case ays => k_is)
  case axR =>
   refine' K15.abU KX G ?ayt ?ayu ?ayv ?ayw
   (case ayt => k_is); (case ayu => k_is); (case ayv => k_is); (case ayw => k_is)
  case axS =>
   refine' K15.abU KX G ?ayx ?ayy ?ayz ?ayA
   (case ayx => k_is); (case ayy => k_is); (case ayz => k_is); (case ayA => k_is)
  case axT =>
   refine' K15.abU KX G ?ayB ?ayC ?ayD ?ayE
   (case ayB => k_is); (case ayC => k_is); (case ayD => k_is); (case ayE => k_is)
  case axU =>
   refine' K15.abU KX G ?ayF ?ayG ?ayH ?ayI
   (case ayF => k_is); (case ayG => k_is); (case ayH => k_is); (case ayI => k_is)
  case axV =>
   refine' K15.abU KX G ?ayJ ?ayK ?ayL ?ayM
   (case ayJ => k_is); (case ayK => k_is); (case ayL => k_is); (case ayM => k_is)
  case axW =>
   refine' K15.abU KX G ?ayN ?ayO ?ayP ?ayQ
   (case ayN => k_is); (case ayO => k_is); (case ayP => k_is); (case ayQ => k_is)
  case axX =>
   refine' K15.abU KX G ?ayR ?ayS ?ayT ?ayU
   (case ayR => k_is); (case ayS => k_is); (case ayT => k_is); (case ayU => k_is)
  case axY =>
   refine' K15.abU KX G ?ayV ?ayW ?ayX ?ayY
   (case ayV => k_is); (case ayW => k_is); (case ayX => k_is); (case ayY => k_is)
  case axZ =>
   refine' K15.abU KX G ?ayZ ?ay0 ?ay1 ?ay2
   (case ayZ => k_is); (case ay0 => k_is); (case ay1 => k_is); (case ay2 => k_is)
  case ax0 =>
   refine' K15.abU KX G ?ay3 ?ay4 ?ay5 ?ay6
   (case ay3 => k_is); (case ay4 => k_is); (case ay5 => k_is); (case ay6 => k_is)
  case ax1 =>
   refine' K15.abU KX G ?ay7 ?ay8 ?ay9 ?aza
   (case ay7 => k_is); (case ay8 => k_is); (case ay9 => k_is); (case aza => k_is)
  case ax2 =>
   refine' K15.abU KX G ?azb ?azc ?azd ?aze
   (case azb => k_is); (case azc => k_is); (case azd => k_is); (case aze => k_is)
  case ax3 =>
   refine' K15.abU KX G ?azf ?azg ?azh ?azi
   (case azf => k_is); (case azg => k_is); (case azh => k_is); (case azi => k_is)
  case ax4 =>
   refine' K15.abU KX G ?azj ?azk ?azl ?azm
   (case azj => k_is); (case azk => k_is); (case azl => k_is); (case azm => k_is)
  case ax5 =>
   refine' K15.abU KX G ?azn ?azo ?azp ?azq
   (case azn => k_is); (case azo => k_is); (case azp => k_is); (case azq => k_is)
  case ax6 =>
   refine' K15.abU KX G ?azr ?azs ?azt ?azu
   (case azr => k_is); (case azs => k_is); (case azt => k_is); (case azu => k_is)
  case ax7 =>
   refine' K15.abU KX G ?azv ?azw ?azx ?azy
   (case azv => k_is); (case azw => k_is); (case azx => k_is); (case azy => k_is)
  case ax8 =>
   refine' K15.abU KX G ?azz ?azA ?azB ?azC
   (case azz => k_is); (case azA => k_is); (case azB => k_is); (case azC => k_is)
  case ax9 =>
   refine' K15.abU KX G ?azD ?azE ?azF ?azG
   (case azD => k_is); (case azE => k_is); (case azF => k_is); (case azG => k_is)
  case aya =>
   refine' K15.abU KX G ?azH ?azI ?azJ ?azK
   (case azH => k_is); (case azI => k_is); (case azJ => k_is); (case azK => k_is)
  case ayb =>
   refine' K15.abU KX G ?azL ?azM ?azN ?azO
   (case azL => k_is); (case azM => k_is); (case azN => k_is); (case azO => k_is)
  case ayc =>
   refine' K15.abU KX G ?azP ?azQ ?azR ?azS
   (case azP => k_is); (case azQ => k_is); (case azR => k_is); (case azS => k_is)
  case ayd =>
   refine' K15.abU KX G ?azT ?azU ?azV ?azW
   (case azT => k_is); (case azU => k_is); (case azV => k_is); (case azW => k_is)
  case aye =>
   refine' K15.abU KX G ?azX ?azY ?azZ ?az0
   (case azX => k_is); (case azY => k_is); (case azZ => k_is); (case az0 => k_is)
  case ayf =>
   refine' K15.abU KX G ?az1 ?az2 ?az3 ?az4
   (case az1 => k_is); (case az2 => k_is); (case az3 => k_is); (case az4 => k_is)
  case ayg =>
   refine' K15.abU KX G ?az5 ?az6 ?az7 ?az8
   (case az5 => k_is); (case az6 => k_is); (case az7 => k_is); (case az8 => k_is)
  case qd9 =>
   refine' K15.aub KX G ?qa9 ?ql9 ?qc9 ?qk9
   (case qa9 => k_is); (case ql9 => k_is); (case qc9 => k_is); (case qk9 => k_is)
  case qe9 =>
   refine' L2.aob (by decide) hcd hbm (L2.aqo ?ra9 ?rb9 ?az9 ?rc9 ?aAa ?aAb ?rd9 ?aAc ?aAd) ?re9
   (case ra9 => k_is); (case rb9 => k_is); (case rc9 => k_is); (case aAb => exact rfl); (case rd9 => k_is); (case az9 => kernel_rfl); (case aAa => kernel_rfl); (case aAc => kernel_rfl); (case aAd => exact rfl)
   case re9 =>
    intro x' hx'
    rcases (List.mem_cons.mp hx') with rfl | hx'
    ·exact .inl rfl
    ·rw [List.mem_singleton.mp hx']
     exact .inr fun c' z => (by have y := (L2.akp (by k_is)).symm.trans z; cases y)
  case awp =>
   refine' K15.apk KX G ?aws
   (case aws => k_is)
  case awq =>
   refine' K15.apk KX G ?awt
   (case awt => k_is)
  case awr =>
   refine' K15.aqY KX G ?qbm ?qbl ?qbe ?aAe ?aAf ?aAg ?aAh ?aAi ?aAj
   (case qbm => k_is); (case qbl => k_is); (case qbe => rfl); (case aAe => k_is); (case aAf => rfl); (case aAg => k_is); (case aAh => rfl); (case aAi => k_is); (case aAj => rfl)
  case ajU =>
   refine' L2.alO kb gb ?ai1 ?ai2
   (case ai1 => k_is); (case ai2 => k_exc)
  case ana =>
   refine' L2.alO kb gb ?ali ?alj
   (case ali => k_is); (case alj => k_exc)
  case anb =>
   refine' L2.alO kb gb ?alk ?alm
   (case alk => k_is); (case alm => k_exc)
#print axioms PySem.Challenge.cw_bestheads_k15_worths_of_things_holds
end