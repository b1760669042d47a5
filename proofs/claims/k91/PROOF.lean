import PyProof.Rows.All
import Wide.All
import OpenK.KSplit
import OpenK.KApp
import KE.RegKMod
import KE.KJoinElse
import KE.KTops
import KE.RegKSuper
import KE.RegLcAnyAll
import KE.KCells
import KE.KPassesOwn
import KE.KNestStore
import KE.KStopIter
import KE.RegKBase
import KE.KDictOne
import KE.KxDecode
import KE.RegKMathGB
import KE.KNestM
import KE.KDflt
import KE.KOwnIterCall
import KE.KSortedM
import KE.KxLen
import KE.RegKMathGC
import KE.KIsClose
import KE.KDisp
import KE.KSetIn
import KE.KRevSl
import KE.KEqDeep
import KE.KAnyBase
import KE.KWhile
import KE.KRevIter
import KE.KTreeR
import KE.KxStill
import KE.KFinally
import KE.KTopLam
import KE.KWithOwn
import KE.KOpsOwn
import KE.KDictNew
import KE.KWhileD
import KE.KSumEnd
import KE.KPopAny
import KE.KGrown
import KE.KItemAt
import KE.KTextLit
import KE.KTupDict
import KE.KFmtOwn
import KE.KMinKey
import KE.KExtendNil
import KE.KMethU
import KE.KDictAnyTail
import KE.RegKStar
import KE.RegKTupTruth
import KE.RegKTupSum
import KE.KMethJoin
import KE.KPathRangeEnd
import KE.RegKParC
import KE.KxAffix
import KE.KxField
import KE.RegKMatchCls
import KE.KLcPair
import KE.KJoinL
import KE.RegKNeg
import KE.KxPercentT
import KE.KBytesCut
import KE.KCompIf
import KE.KxFormat
import KE.KTypeName
import KE.KCompText
import KE.BytesMulAny
import KE.KPairAssign
import KE.KTypeOf
import KE.KMulAny
import KE.KBytesMenu
import KE.KTextDict
import KE.KPathShort
import KE.KSplitRange
import KE.KKinds
import KE.KxPart
import KE.KRangeItem
import KE.KRangeNest
import KE.KSetAt
import KE.KxTruthy
import KE.KPairRows
import KE.KBytesMore
import KE.KRangePlain
import KE.KBitsMul
import KE.KTextTable
import KE.KForList
import KE.KIdxIf
import KE.KAssignIn
import KE.KFirstTurn
import KE.KOwnRange
import KE.KLooksOwn
import KE.KDictWord
import KE.KTurnsGround
import KE.KFinFacts
import KE.RegKTryOn
import KE.KCenter
import KE.KStrWords
import KE.KStateTextK
import KE.KStateWGiven
import KE.KCallTup
import KE.KTreeF
import KE.KEndWord
import KE.KStateBytes
import KE.KRangeEnd
import KE.KOf
import KE.KRepItem
import KE.KListLetter
import KE.KSliceSign
import KE.KToBytes
import KE.KPathText
import KE.KMinBuiltin
import KE.KFromBytes
import KE.KEqDat
import KE.KBytesUnr
import KE.KIsBytes
import KE.KCallRec
import KE.KEndW
import KE.RegLGeC
import Wide.FinOn
import Lean
import PyProof.EqAt
import PyProof.EqKinds
import PyProof.TupleCall
import PyProof.ReprRoads
import PyProof.ReprBulk
import PyProof.Rows.RegStrFacts
import PyProof.StrBlockH
import PyProof.FitsBits
import KE.KTurns
import PyProof.NeKinds
import KE.KNest
import KE.KSortKey
import PyProof.ListRange
import PyProof.Rows.SortWalk
import KE.KListMore
import KE.KSortTup
import PyProof.Rows.SumAny
import PySem.Challenge.RW_bestheads_k91_whole_sure_in_all_books
set_option exponentiation.threshold 6000
set_option Elab.async false
set_option bootstrap.genMatcherCode false
set_option genSizeOf false
set_option compiler.extract_closed false
set_option linter.all false
set_option maxRecDepth 100000
set_option maxHeartbeats 4000000
set_option hygiene false in
local macro_rules | `(tactic| walk_at "O")=>`(tactic| with_reducible repeat((first|replace h:=KH h|replace h:=KJ h|replace h:=KN h|replace h:=KQ h|replace h:=KR h|replace h:=KY h|replace h:=KZ h|replace h:=K1 h|replace h:=K3 h|replace h:=K4 h|replace h:=K5 h|replace h:=K6 h|replace h:=CK h|replace h:=K7 h|replace h:=K8 h|replace h:=K9 h|replace h:=La h|replace h:=Lb h|replace h:=Ld h|replace h:=Le h|replace h:=Lf h|replace h:=Lg h|replace h:=Lh h|replace h:=Li h|replace h:=Lj h|replace h:=Ln h|replace h:=Lp h|replace h:=Lr h|replace h:=Ls h|replace h:=Lw h); (repeat obtain⟨_,h⟩:=h); rename_i ee; first|subst ee|cases ee))
set_option hygiene false in
local macro_rules | `(tactic| walk_at "o")=>`(tactic| with_reducible repeat first|refine Zy h λ_ _ h=>?_|refine Zz h λ_ _ _ _ h=>?_|refine ZC h λ_ _ _ h=>?_|refine ZD h λ_ _ _ _ h=>?_|refine ZF h λ_ _ _ h=>?_|refine ZG h λ_ _ _ _ h=>?_|refine ZJ h λ_ _ _ h=>?_|refine ZK h λ_ _ _ h=>?_|refine ZL h λ_ _ h=>?_|refine ZM h λ_ _ _ _ h=>?_|refine ZP h λ_ _ _ _ h=>?_|refine ZQ h λ_ _ _ h=>?_|refine ZR h λ_ _ _ _ h=>?_|refine ZS h λ_ _ _ _ h=>?_|refine ZV h λ_ _ _ h=>?_|refine ZW h λ_ _ h=>?_|refine ZX h λ_ _ h=>?_|refine Z0 h λ_ _ _ _ h=>?_|refine Z1 h λ_ _ _ h=>?_|refine Z2 h λ_ _ _ _ h=>?_|refine Z4 h λ_ _ _ _ _ h=>?_|refine Z5 h λ_ _ _ _ h=>?_|refine Z6 h λ_ _ _ h=>?_|refine Z7 h λ_ _ _ h=>?_|refine Z8 h λ_ _ _ _ _ _ _ h=>?_|refine Z9 h λ_ _ h=>?_|refine aac h λh=>?_|refine aad h λ_ h=>?_|refine aae h λh=>?_|refine aaf h λh=>?_)
set_option hygiene false in
local macro_rules | `(tactic| exists $t)=>`(tactic| (refine(?h:VB ?f->SF) ?g; (case g=>exact $t); (case h=>exact λ_=>?f)))
set_option hygiene false in
local macro_rules | `(tactic| walk_at "b")=>`(tactic| first|with_reducible assumption|exact decide_eq_true (by first|assumption|omega)|exact decide_eq_false (by first|assumption|omega)|((with_reducible apply L2.xNb); walk_at "b")|((with_reducible apply L2.xNB); walk_at "b")|exact rfl)
set_option hygiene false in
local macro_rules | `(tactic| walk_at "u")=>`(tactic| fail)
set_option hygiene false in
local macro_rules | `(tactic| walk_at "q")=>`(tactic| repeat' (first|with_reducible rfl|((with_reducible change _=List.getD _ _ _); exact rfl)|(with_reducible apply L2.cn2)|(with_reducible refine congrArg L2.Sl.ow ?_)|(with_reducible refine congrArg L2.Sl.sh ?_)|(with_reducible refine congrArg L2.Sl.dp ?_)))
set_option hygiene false in
local macro_rules | `(tactic| walk_at "1")=>`(tactic| first|(with_reducible first|assumption|apply L2.wSq|apply L2.wSn|apply L2.wAs|apply L2.uG|apply L2.uH|apply L2.Ly)|walk_at "u" | ((with_reducible first | change L2.bL _ _=_ | change L2.eC _ _=_ | change L2.dU _=_ | change L2.dr _ _=_ | change L2.drs _ _=_ | change L2.con _ _=_ | change L2.cls _=_ | change L2.CN _ _=_ | change L2.CP _=_ | change L2.jw _=_ | change L2.Rs.ok _=_ | change L2.xH _=_ | change L2.CQ _=_ | change L2.m5 _=_ | change L2.qX _=_ | change _=some _ | change _=List.map _ _ | change L2.eG _ _=_ | change _=Tr.lst _ | change _=Tr.int _ | change _=Tr.tup _ | change L2.jx _ _ _=_ | change L2.Lz _ _=_ | change (_ && _)=_); exact rfl) | (with_reducible first | exact L2.st0 | exact L2.st1 | exact L2.st2 | exact L2.st3 | exact L2.pB | exact L2.iw | exact L2.st6 | exact L2.gH | apply L2.st8) | (with_reducible first | exact L2.aag | exact L2.aah | exact L2.xLt | exact L2.xGt | exact L2.xLe | exact L2.xGe | exact L2.xEq | exact L2.LC | exact L2.CT | exact L2.xSn | exact L2.CV | exact L2.xLL | exact L2.xLT | apply L2.aai | apply L2.xAb | apply L2.LK | apply L2.aaj | apply L2.LQ) | (with_reducible first | apply L2.wSr | apply L2.wSc | apply L2.aak | apply L2.wIf | apply L2.xTe | apply L2.xTr | apply L2.xBN | apply L2.xBA | apply L2.xBO | apply L2.wRt | apply L2.xC1 | apply L2.wEx | apply L2.wNo | apply L2.wFo | apply L2.xFS | apply L2.xIs | apply L2.xLs | apply L2.xTu | apply L2.xAp | apply L2.wOw | apply L2.wON | apply L2.oV1 | apply L2.oV2 | apply L2.xEI | apply L2.xEA | apply L2.xEO | apply L2.xEN | apply L2.xUn | apply L2.xC2 | apply L2.xCh | apply L2.xCk | apply L2.wPa | apply L2.wFr | apply L2.xFz | apply L2.wDw | apply L2.xVw | apply L2.xSl | apply L2.xOS | apply L2.xRg | apply L2.xMp | apply L2.xM2 | apply L2.xZi | apply L2.xFl | apply L2.xLR | apply L2.xFO | apply L2.xIn | apply L2.xG2 | apply L2.xG3 | apply L2.xGN | apply L2.wAg) | ((with_reducible first | apply L2.xT | apply L2.wT | apply L2.pT); (walk_at "b"))|((with_reducible first|apply L2.xF|apply L2.wF|apply L2.pF); (walk_at "b"))|(with_reducible first|apply L2.xOv|apply L2.xAv|apply L2.xOV|apply L2.xAV)|((with_reducible change L2.eH _=_); exact rfl)|((with_reducible change L2.vw _=_); (dsimp only[L2.vw,L2.LR,List.map] <;> exact rfl))|((with_reducible change L2.pC _ _ _=_); exact rfl)|((with_reducible change L2.aW _ _=_); exact rfl)|((with_reducible change L2.uJ _ _=_); exact rfl)|((with_reducible change L2.m7 _=_); exact rfl)|((with_reducible change L2.aal _=_); exact rfl)|((with_reducible change L2.aam _ _=_); exact rfl)|((with_reducible change L2.aan _ _=_); exact rfl)|((with_reducible change L2.aao _=_); exact rfl)|((with_reducible first|apply L2.jL|apply L2.xSN); decide +kernel)|exact λ_=>rfl|((with_reducible first|change ∀_ _,L2.eZ _ _ _=_|change ∀_ _,L2.bM _ _ _=_); exact λ_ _=>rfl)|(dsimp only; (with_reducible apply L2.exV); walk_at "q")|((change ∀_,_∈_->_=_); intro x hx; try rw[List.mem_range]at hx)|((with_reducible change L2.cX _ _=_); (first|(with_reducible first|exact c1 _|exact c2 _|exact c3 _)|exact L2.cMr (by omega)|exact L2.cMl (by omega)))|((with_reducible change L2.iy _ _=_); first|(with_reducible first|exact c1 _|exact c2 _|exact c3 _)|exact L2.Ma (by omega) (by omega))|omega|((with_reducible change _≠_); decide)|(rw[List.length_map]; exact List.length_filter_le ..)|((with_reducible first|change _<=_|change _<_); simp only[List.length_map,List.length_range,List.length_take,List.length_append,List.length_cons,List.length_nil]; omega))
set_option hygiene false in
local macro_rules | `(tactic| walk_at "p")=>`(tactic| (dsimp only[L2.pt,List.map,List.set]; (try with_reducible apply L2.wG); walk_at "r"))
set_option hygiene false in
local macro_rules | `(tactic| walk_at "r")=>`(tactic| (repeat(walk_at "1")))
set_option hygiene false in
local macro_rules | `(tactic| walk_at "e")=>`(tactic| (apply L2.wFe; (dsimp only[L2.j8,List.map,List.length,List.replicate,List.append,HAppend.hAppend,Append.append,Nat.reduceSub,Nat.reduceAdd] <;> exact rfl); walk_at "r"))
set_option hygiene false in
local macro_rules | `(tactic| walk_at "d")=>`(tactic| (apply L2.Mf; (dsimp only[L2.j8,List.map,List.length,List.replicate,List.append,HAppend.hAppend,Append.append,Nat.reduceSub,Nat.reduceAdd] <;> exact rfl); walk_at "r"))
set_option hygiene false in
local macro_rules | `(tactic| walk_at "u")=>`(tactic| with_reducible first|exact lH _|exact jy _|apply m8)
set_option hygiene false in
local macro_rules | `(tactic| walk_at "u")=>`(tactic| with_reducible first|exact lH _|exact jy _|apply m8|apply Mg)
set_option hygiene false in
local macro_rules | `(tactic| walk_at "u")=>`(tactic| with_reducible first|exact lH _|exact jy _|apply m8|apply Mg|apply CW|apply aap|apply CZ|exact aaq|exact aar|exact aas)
set_option hygiene false in
local macro_rules | `(tactic| walk_at "u")=>`(tactic| with_reducible first|exact Mh|apply xJ|exact Mi _ _ _)
set_option hygiene false in
local macro_rules | `(tactic| walk_at "u")=>`(tactic| with_reducible first|exact lH _|exact jy _|apply m8|apply jM|apply aat|exact half|exact Mi _ _ _|exact inP|exact aau|apply CW|apply CZ|exact qY|exact aav|exact pick|exact aaw|exact aax|apply m9 (0:Nat)|apply m9 ((0,1):Int × Int)|apply Bk.lt (by assumption))
section
namespace L2
open PySem PySem.Spec PyProof.Rows
inductive V where
 |non|bl (b:Bool)|int (i:Int)|str (x:Str)|uK (b:Array UInt8)|flt (b:UInt64)|ref (a:Addr)|ty (n:String)
 deriving DecidableEq
noncomputable def RelV:V->Value->Prop
 |.non,u=>u=Value.none
 |.bl b,u=>u=Value.bool b
 |.int i,u=>∃t,u=Value.int i t
 |.str x,u=>∃t,u=Value.str x t
 |.uK b,u=>∃t,u=Value.bytes b t
 |.flt b,u=>∃t,u=Value.float b t
 |.ref a,u=>u=Value.ref a
 |.ty n,u=>u=Value.type n
noncomputable abbrev Vals:List V->List Value->Prop:=Paired RelV
theorem Vals.length{xs:List V}{us:List Value}(r:Vals xs us):xs.length=us.length:=Paired.length r
theorem Vals.get:∀{xs:List V} {us:List Value} {i:Nat} {x:V},Vals xs us->xs[i]?=some x->∃u,us[i]?=some u/\RelV x u
 |_,_,_,_,.nil,e=>by simp at e
 |_,_,0,_,.cons r _,e=>by simp at e; subst e; exact⟨_,rfl,r⟩
 |_,_,i+1,x,.cons _ t,e=>by
  obtain⟨u,h1,h2⟩:=Vals.get (i:=i) (x:=x) t (by simpa using e)
  exact⟨u,by simpa using h1,h2⟩
theorem Vals.set{x:V}{u:Value}(r:RelV x u):∀{xs:List V} {us:List Value} (i:Nat),Vals xs us->Vals (xs.set i x) (us.set i u)
 |_,_,_,.nil=>.nil
 |_,_,0,.cons _ t=>.cons r t
 |_,_,i+1,.cons q t=>.cons q (Vals.set r i t)
theorem Vals.append:∀{xs ys:List V} {us ws:List Value},Vals xs us->Vals ys ws->Vals (xs++ys) (us++ws)
 |_,_,_,_,.nil,s=>s
 |_,_,_,_,.cons r t,s=>.cons r (Vals.append t s)
theorem Vals.take:∀{xs:List V} {us:List Value} (n:Nat),Vals xs us->Vals (xs.take n) (us.take n)
 |_,_,0,_=>.nil
 |_,_,_+1,.nil=>.nil
 |_,_,n+1,.cons r t=>.cons r (Vals.take n t)
theorem Vals.drop:∀{xs:List V} {us:List Value} (n:Nat),Vals xs us->Vals (xs.drop n) (us.drop n)
 |_,_,0,r=>r
 |_,_,_+1,.nil=>.nil
 |_,_,n+1,.cons _ t=>Vals.drop n t
noncomputable def amv:Option V->Option Value->Prop
 |some v,some u=>RelV v u
 |none,none=>True
 |_,_=>False
inductive HO where
 |lst (xs:List V)
 |tup (xs:List V)
 |own (x:Addr)
 |rng (lo hi:Int)
 |cZ (o:Obj) (u:HO)
 |cM (ps:Array Value)
 |ext (φ : Heap->Prop)
noncomputable abbrev Hp:=Addr->Option HO
noncomputable def upd(H:Hp)(a:Addr)(o:HO):Hp:=λb=>if b=a then some o else H b
theorem cN{H:Hp}{a:Addr}{o:HO}:upd H a o a=some o:=by unfold upd; rw[if_pos rfl]
theorem aL{H:Hp}{a b:Addr}{o:HO}(h:b≠a):upd H a o b=H b:=by unfold upd; rw[if_neg h]
theorem iz{H:Hp}{a b:Addr}{o:HO}(h:H a=some o)(h':H b=none):a≠b:=by
 intro e; subst e; rw[h]at h'; cases h'
section
variable (P:Program)(w:World)
noncomputable def je(P:Program)(w:World)(H:Hp)(h:Heap)(a:Addr):HO->Prop
 |.lst xs=>xs.length<=sizeLine/\∃(its:List Value) (n:Nat),Vals xs its/\h.get? a=some {cls:=.type "list",data:=.seq its.toArray n }
 |.tup xs=>xs.length<=sizeLine/\∃its:List Value,Vals xs its/\IsTup h a its.toArray
 |.own _=>∃o,h.get? a=some o
 |.rng lo hi=>∃t u v,h.get? a=some {cls:=.type "range",data:=.fields #[.int lo t,.int hi u,.int 1 v] }
 |.cZ o u=>h.get? a=some o/\je P w H h a u
 |.cM ps=>h.get? a=some {cls:=.none,data:=.fields ps }
 |.ext φ=>φ h/\(∃o,h.get? a=some o)/\∀h1 h2:Heap,φ h1->(∀o,h1.get? a=some o->h2.get? a=some o) -> φ h2
noncomputable def cQ(H:Hp)(h:Heap):Prop:=∀a o,H a=some o->je P w H h a o
end
section
variable {P:Program}{w:World}{H H':Hp}{h h':Heap}{a:Addr}{o:HO}
theorem je.lt(x:je P w H h a o):a<h.objs.size:=by
 cases o with
 |lst xs=>obtain⟨_,_,_,_,e⟩:=x; exact Heap.lt_size e
 |tup xs=>obtain⟨_,_,_,p⟩:=x; exact p.lt
 |own y=>obtain⟨_,e⟩:=x; exact Heap.lt_size e
 |rng lo hi=>obtain⟨_,_,_,e⟩:=x; exact Heap.lt_size e
 |cZ ob u=>obtain⟨e,_⟩:=x; exact Heap.lt_size e
 |cM ps=>exact Heap.lt_size (show h.get? a=some _ from x)
 |ext φ=>obtain⟨_,⟨_,e⟩,_⟩:=x; exact Heap.lt_size e
theorem Paired.aay{α β : Type}{F G : α -> β -> Prop}:∀{l₁ : List α} {l₂ : List β},Paired F l₁ l₂ -> (∀a b,F a b->G a b)->Paired G l₁ l₂
 |_,_,.nil,_=>.nil
 |_,_,.cons r t,f=>.cons (f _ _ r) (Paired.aay t f)
theorem je.stay(x:je P w H h a o)(k:∀b u,(b=a\/H b=some (.own a))->h.get? b=some u->h'.get? b=some u)
  (ho:∀b,H b=some (.own a)->H' b=some (.own a)) (ht:∀b xs,H b=some (.tup xs)->H' b=some (.tup xs)):je P w H' h' a o:=by
 induction o with
 |lst xs=>obtain⟨z,its,n,r,e⟩:=x; exact⟨z,its,n,r,k _ _ (.inl rfl) e⟩
 |tup xs=>obtain⟨z,its,r,ob,e,c⟩:=x; exact⟨z,its,r,ob,k _ _ (.inl rfl) e,c⟩
 |own y=>obtain⟨ob,e⟩:=x; exact⟨ob,k _ _ (.inl rfl) e⟩
 |rng lo hi=>obtain⟨t,u,v,e⟩:=x; exact⟨t,u,v,k _ _ (.inl rfl) e⟩
 |cZ ob u ih=>obtain⟨e,q⟩:=x; exact⟨k _ _ (.inl rfl) e,ih q⟩
 |cM ps =>
  have e:h.get? a=some {cls:=.none,data:=.fields ps }:=x
  show h'.get? a=some {cls:=.none,data:=.fields ps }
  exact k a _ (.inl rfl) e
 |ext φ=>obtain⟨p,⟨o,e⟩,st⟩:=x; exact⟨st _ _ p λo q=>k _ _ (.inl rfl) q,⟨o,k _ _ (.inl rfl) e⟩,st⟩
theorem cQ.lt(x:cQ P w H h)(e:H a=some o):a<h.objs.size:=(x a o e).lt
theorem cQ.fresh(x:cQ P w H h)(e:h.objs.size<=a):H a=none:=by
 cases q:H a with
 |none=>rfl
 |some u=>exact absurd (Nat.lt_of_lt_of_le (x.lt q) e) (Nat.lt_irrefl _)
theorem cQ.kept(x:cQ P w H h)(k:∀b u,h.get? b=some u->h'.get? b=some u):cQ P w H h':=λa o e =>
 (x a o e).stay (λb u _ q=>k b u q) (λ_ q=>q) λ_ _ q=>q
theorem cQ.laid(x:cQ P w H h)(k:∀b u,h.get? b=some u->h'.get? b=some u)(hp:h.objs.size<=a)(new:je P w (upd H a o) h' a o):cQ P w (upd H a o) h':=λb u e=>by
 have hn:=x.fresh hp
 by_cases hb:b=a
 .subst hb; rw[cN]at e; cases e; exact new
 .rw[aL hb]at e
  exact(x b u e).stay (λc v _ q=>k c v q) (λc q=>by rw[aL (iz q hn)]; exact q) λc xs q=>by rw[aL (iz q hn)]; exact q
end
noncomputable def Rd(H:Hp)(a:Addr)(u:HO):Prop:=H a=some u\/∃o,H a=some (.cZ o u)
theorem Rd.of(h:H a=some u):Rd H a u:=.inl h
theorem Rd.ok{P:Program}{w:World}{H:Hp}{h:Heap}{a:Addr}{u:HO}(r:Rd H a u)(x:cQ P w H h):je P w H h a u:=by
 rcases r with r|⟨o,r⟩
 .exact x a u r
 .obtain⟨_,q⟩:=x a _ r
  exact q
noncomputable def xK:Option HO->Prop
 |some (.lst _)=>True
 |some (.ext _)=>True
 |_=>False
section
variable {P:Program}{w:World}{H:Hp}{h h':Heap}{x e:Addr}{o':HO}
theorem cQ.write(ok:cQ P w H h)(mu:xK (H x))(he:e=x\/H e=some (.own x))(k:∀b u,b≠e->h.get? b=some u->h'.get? b=some u)(heo:∃u,h'.get? e=some u)
  (new:je P w (upd H x o') h' x o'):cQ P w (upd H x o') h':=λb u q=>by
 have Mj:∀c y,H c=some (.own y)->c≠x:=λc y r z=>by subst z; rw[r]at mu; exact mu
 have aaz:∀c xs,H c=some (.tup xs)->c≠x:=λc xs r z=>by subst z; rw[r]at mu; exact mu
 by_cases hb:b=x
 .subst hb; rw[cN]at q; cases q; exact new
 .rw[aL hb]at q
  by_cases hbe:b=e
  .have q':H b=some (.own x):=by
    rcases he with z|z
    .exact absurd (hbe.trans z) hb
    .rw[hbe]; exact z
   rw[q]at q'; cases q'
   obtain⟨v,hv⟩:=heo
   exact⟨v,by rw[hbe]; exact hv⟩
  .refine(ok b u q).stay (λc v hc r=>k c v ?_ r) (λc r=>by rw[aL (Mj c b r)]; exact r) λc xs r=>by rw[aL (aaz c xs r)]; exact r
   rcases hc with rfl|hc
   .exact hbe
   .rintro rfl
    rcases he with z|z
    .exact Mj c b hc z
    .rw[hc]at z; cases z; exact hb rfl
end
structure Un(fs ex:List Addr)(H H':Hp)(h h':Heap):Prop where
 keep:∀b o,h.get? b=some o->H b=none->b∉fs->b∉ex->h'.get? b=some o
 slot:∀b o,h.get? b=some o->H b=none->b∈fs->b∉ex->∃sl,h'.get? b=some {o with slots:=sl }
 free:∀b o,h.get? b=some o->H b=none->b∉ex->H' b=none
 there:∀b o,h.get? b=some o->b∉ex->∃o',h'.get? b=some o'
 tups:∀b xs,H b=some (.tup xs)->H' b=some (.tup xs)
 gJ:∀b o u,H b=some (.cZ o u)->H' b=some (.cZ o u)
 gK:∀b ps,H b=some (.cM ps)->∃more,H' b=some (.cM (ps++more))
section
variable {fs fs' ex ex':List Addr}{H H1 H2:Hp}{h h1 h2 h':Heap}{a x e:Addr}{o:HO}
theorem Un.any(u:Un fs ex H H1 h h1)(q:h.get? b=some ob)(n:H b=none)(hx:b∉ex):∃sl,h1.get? b=some {ob with slots:=sl }:=by
 by_cases hb:b∈fs
 .exact u.slot b ob q n hb hx
 .exact⟨ob.slots,u.keep b ob q n hb hx⟩
theorem Un.trans(a:Un fs ex H H1 h h1)(b:Un fs ex H1 H2 h1 h2):Un fs ex H H2 h h2 where
 keep:=λc ob q n hc hx=>b.keep c ob (a.keep c ob q n hc hx) (a.free c ob q n hx) hc hx
 slot:=λc ob q n hc hx=>by
  obtain⟨sl,e1⟩:=a.slot c ob q n hc hx
  obtain⟨sl',e2⟩:=b.slot c _ e1 (a.free c ob q n hx) hc hx
  exact⟨sl',e2⟩
 free:=λc ob q n hx=>by
  obtain⟨o',e1⟩:=a.there c ob q hx
  exact b.free c o' e1 (a.free c ob q n hx) hx
 there:=λc ob q hx=>by
  obtain⟨o',e1⟩:=a.there c ob q hx
  exact b.there c o' e1 hx
 tups:=λc xs q=>b.tups c xs (a.tups c xs q)
 gJ:=λc ob xs q=>b.gJ c ob xs (a.gJ c ob xs q)
 gK:=λc ps q=>by
  obtain⟨m1,e1⟩:=a.gK c ps q
  obtain⟨m2,e2⟩:=b.gK c _ e1
  exact⟨m1++m2,by rw[e2,Array.append_assoc]⟩
theorem Un.kept(k:∀b u,h.get? b=some u->h'.get? b=some u):Un fs ex H H h h' :=
 ⟨λb ob q _ _ _=>k b ob q,λb ob q _ _ _=>⟨ob.slots,k b ob q⟩,λ_ _ _ n _=>n,λb ob q _=>⟨ob,k b ob q⟩,λ_ _ q=>q,λ_ _ _ q=>q,λ_ ps q=>⟨#[],by rw[q]; simp⟩⟩
theorem Un.refl:Un fs ex H H h h:=Un.kept λ_ _ q=>q
theorem Un.laid(k:∀b u,h.get? b=some u->h'.get? b=some u)(hp:h.objs.size<=a)(hn:H a=none):Un fs ex H (upd H a o) h h' where
 keep:=λb u q _ _ _=>k b u q
 slot:=λb u q _ _ _=>⟨u.slots,k b u q⟩
 free:=λb u q n _=>by rw[aL (Nat.ne_of_lt (Nat.lt_of_lt_of_le (Heap.lt_size q) hp))]; exact n
 there:=λb u q _=>⟨u,k b u q⟩
 tups:=λb xs q=>by rw[aL (iz q hn)]; exact q
 gJ:=λb u xs q=>by rw[aL (iz q hn)]; exact q
 gK:=λb ps q=>⟨#[],by rw[aL (iz q hn),q]; simp⟩
theorem Un.write(mu:xK (H x))(he:e=x\/H e=some (.own x))(k:∀b u,b≠e->h.get? b=some u->h'.get? b=some u)(heo:∃u,h'.get? e=some u):Un fs ex H (upd H x o) h h':=by
 have hx:∀b,H b=none->b≠x:=λb n z=>by subst z; rw[n]at mu; exact mu
 have hb:∀b,H b=none->b≠e:=λb n z=>by
  subst z
  rcases he with r|r
  .exact hx b n r
  .rw[n]at r; cases r
 have hm:∀b u,H b=some u->¬xK (some u)->b≠x:=λb u q nm z=>by subst z; rw[q]at mu; exact nm mu
 refine⟨λb u q n _ _=>k b u (hb b n) q,λb u q n _ _=>⟨u.slots,k b u (hb b n) q⟩,λb u q n _=>by rw[aL (hx b n)]; exact n,λb u q _=>?_,
  λb xs q=>by rw[aL (hm b _ q λz=>z)]; exact q,λb u xs q=>by rw[aL (hm b _ q λz=>z)]; exact q,λb ps q=>⟨#[],by rw[aL (hm b _ q λz=>z),q]; simp⟩⟩
 by_cases hbe:b=e
 .subst hbe; exact heo
 .exact⟨u,k b u hbe q⟩
theorem Un.mono(u:Un fs ex H H1 h h1)(hs:∀b∈fs,b∈fs')(hx:∀b∈ex,b∈ex'):Un fs' ex' H H1 h h1 :=
 ⟨λb ob q n hb he=>u.keep b ob q n (λz=>hb (hs b z)) λz=>he (hx b z),λ_ _ q n _ he=>u.any q n λz=>he (hx _ z),λb ob q n he=>u.free b ob q n λz=>he (hx b z),λb ob q he=>u.there b ob q λz=>he (hx b z),u.tups,u.gJ,u.gK⟩
end
noncomputable def xM(h:Heap)(H:Hp):List Addr:=(List.range h.objs.size).filter λa=>(H a).isSome
noncomputable def lJ(h:Heap)(H:Hp):Heap:=PySem.W.hideAll h (xM h H)
theorem aaA(h:Heap)(H:Hp):(lJ h H).objs.size=h.objs.size:=PySem.W.hideAll_size _ _
theorem aaB(e:h.get? b=some o)(n:H b=none):(lJ h H).get? b=some o :=
 PySem.W.hideAll_get _ e λhm=>by
  have q:(H b).isSome=true:=(List.mem_filter.mp hm).2
  rw[n]at q; simp at q
theorem aaC(e:(lJ h H).get? b=some o):h.get? b=some o/\H b=none:=by
 have e':h.get? b=some o:=PySem.W.of_hideAll (xM h H) e
 refine⟨e',?_⟩
 cases q:H b with
 |none=>rfl
 |some x =>
  have hm:b∈xM h H:=List.mem_filter.mpr ⟨List.mem_range.mpr (Heap.lt_size e'),by simp[q]⟩
  have z:(lJ h H).get? b=none:=PySem.W.hideAll_none (xM h H) hm
  rw[z]at e; cases e
noncomputable def aaD(g h:Heap)(L:Addr):List (Addr × Obj):=(List.range h.objs.size).filterMap λa=>if a=L\/(g.get? a).isSome=true then none else(h.get? a).map λo=>(a,o)
noncomputable def rest(g h:Heap)(L d:Addr):List (Addr × Obj):=(aaD g h L).filter λp=>decide (p.1≠d)
structure Mod(K:PySem.W.Frag)(mg:Str->Option Value)(base:Heap):Prop where
 Dc:K.In base
 glob:base.Ns mainGlobals mg
 blt:∃mb,base.Ns builtinsNs mb/\∀x:Str,x ≠ "__name__" -> mb x=bootBuiltins x
 nolimit:base.NoLimit
structure Cx where
 prog:Program
 w:World
 K:PySem.W.Frag
 mg:Str->Option Value
 base:Heap
 A:Around
 N:List Str
 s₀ : Shared
 H₀ : Hp
 env:Env
 outer:List Env
 stack:List Env
 ex:List Addr
 fn:Str->Bool
 calm:Bool
 pn:List (Addr × Obj)
 xe:Value->Shared->Prop
noncomputable def frs(l:List Env):List Addr:=l.filterMap (·.frame)
noncomputable abbrev Cx.fs(X:Cx):List Addr:=frs X.outer
noncomputable def xO(sc:Scope)(x:Str):Prop:=sc.names.lookup x=some .local\/sc.names.lookup x=some .cell\/sc.names.lookup x=some .free
noncomputable def Loc(sc:Scope)(x:Str):Prop:=sc.names.lookup x=some .local\/sc.names.lookup x=some .cell
noncomputable def Look(env:Env)(h:Heap)(m:Str->Option Value)(x:Str)(u:Value):Prop :=
 (env.kindOf x=some .local/\m x=some u)\/((env.kindOf x=some .cell\/env.kindOf x=some .free)/\∃c,env.cells.lookup x=some c/\h.IsCell c (some u))
structure Cx.Ok(X:Cx):Prop where
 mod:Mod X.K X.mg X.base
 kind:X.env.scope.kind=.function
 glob:X.env.globals=mainGlobals
 blt:X.env.builtins=builtinsNs
 above:X.s₀.heap.objs.size<=X.env.locals
 inj:∀x y c,X.env.cells.lookup x=some c->X.env.cells.lookup y=some c->x=y
 has:∀x,(X.env.kindOf x=some .cell\/X.env.kindOf x=some .free)->∃c,X.env.cells.lookup x=some c
 cab:∀x c,X.fn x=true->X.env.cells.lookup x=some c->X.s₀.heap.objs.size<=c
 hd:X.calm=true->X.A.handled=none
 frames:X.A.frames=some X.stack
 stk:X.stack=X.outer\/(X.stack=X.env::X.outer/\X.env.frame=some X.env.locals)
 Ml:∀b∈X.ex,b≠X.env.locals/\∀x c,X.env.cells.lookup x=some c->c≠b
 bs:∀b o,X.base.get? b=some o->X.s₀.heap.get? b=some o/\X.H₀ b=none
 j9:X.base.objs.size<=X.s₀.heap.objs.size
 uL:∀b o,X.base.get? b=some o->b∉X.ex
 xP:∀b∈X.ex,b∉X.fs
 jf:X.s₀.heap.FunFrames X.base X.outer
 nj:∀b∈X.fs,X.H₀ b=none
structure Inv(X:Cx)(pins:List (Addr × Obj))(σ : List (Option V))(H:Hp)(s:Shared):Prop where
 ok:X.Ok
 os:s.os=X.s₀.os
 bare:AllBare s.gens
 base:Un X.fs X.ex X.H₀ H X.s₀.heap s.heap
 loc:∃m,s.heap.Ns X.env.locals m/\∀(i:Nat) (x:Str) (v:V),X.N[i]?=some x -> σ[i]?=some (some v)->xO X.env.scope x->∃u,RelV v u/\Look X.env s.heap m x u
 cell:∀x c,X.env.cells.lookup x=some c->∃v,s.heap.IsCell c v
 free:H X.env.locals=none
 jN:∀x c,X.env.cells.lookup x=some c->H c=none
 pin:∀p∈X.pn++pins,s.heap.get? p.1=some p.2/\H p.1=none/\p.1≠X.env.locals/\p.1∉X.fs/\∀v,p.2.data ≠ .cell v
 hok:cQ X.prog X.w H s.heap
 len : σ.length=X.N.length
section
variable {X:Cx}{pins:List (Addr × Obj)}{σ : List (Option V)}{H H':Hp}{s:Shared}{h':Heap}
theorem Cx.Ok.qZ(ok:X.Ok)(e:X.base.get? b=some o):b∉X.fs:=λhb=>by
 have:=(ok.jf.mem hb).1
 rw[e]at this; cases this
theorem Inv.bs(I:Inv X pins σ H s):∀b o,X.base.get? b=some o->s.heap.get? b=some o/\H b=none:=λb o e =>
 ⟨I.base.keep b o (I.ok.bs b o e).1 (I.ok.bs b o e).2 (I.ok.qZ e) (I.ok.uL b o e),I.base.free b o (I.ok.bs b o e).1 (I.ok.bs b o e).2 (I.ok.uL b o e)⟩
theorem Inv.bk(I:Inv X pins σ H s):∀b o,X.base.get? b=some o->s.heap.get? b=some o:=λb o e=>(I.bs b o e).1
theorem Inv.mod(I:Inv X pins σ H s):Mod X.K X.mg X.base:=I.ok.mod
theorem Inv.iB(I:Inv X pins σ H s):X.K.In s.heap:=I.ok.mod.Dc.keeps I.bk
theorem Inv.nolimit(I:Inv X pins σ H s):s.heap.NoLimit:=I.ok.mod.nolimit.keeps I.bk
theorem Inv.fr(I:Inv X pins σ H s):∃m,Fr X.base X.env.locals s.heap m :=
 let⟨m,hn,_⟩:=I.loc
 ⟨m,hn,I.bk,Nat.le_trans I.ok.j9 I.ok.above⟩
theorem Inv.lt(I:Inv X pins σ H s):X.env.locals<s.heap.objs.size:=let⟨_,hn,_⟩:=I.loc; hn.lt
theorem Inv.sz(I:Inv X pins σ H s):X.s₀.heap.objs.size<=s.heap.objs.size:=Nat.le_trans I.ok.above (Nat.le_of_lt I.lt)
theorem Inv.aaE(I:Inv X pins σ H s)(h:s.heap.objs.size<=a):a∉X.fs:=λhb=>by
 obtain⟨_,o,ho,_⟩:=I.ok.jf.mem hb
 exact absurd (Nat.lt_of_lt_of_le (Heap.lt_size ho) (Nat.le_trans I.sz h)) (Nat.lt_irrefl _)
theorem Inv.pG(I:Inv X pins σ H s):∀x c,X.env.cells.lookup x=some c->c≠X.env.locals:=λx c e z=>by
 obtain⟨v,o,ho,hd⟩:=I.cell x c e
 obtain⟨m,⟨o',es,ep,ho',hd',_⟩,_⟩:=I.loc
 rw[z,ho']at ho; cases ho; rw[hd']at hd; cases hd
theorem Inv.jf(I:Inv X pins σ H s):s.heap.FunFrames X.base X.outer:=by
 have all:∀(l:List Env),(∀b∈frs l,b∈X.fs)->X.s₀.heap.FunFrames X.base l->s.heap.FunFrames X.base l:=by
  intro l
  induction l with
  |nil=>intro _ _; trivial
  |cons env r ih =>
   intro hs hl
   obtain⟨hk,⟨L,o,hf,hn,ho,hd⟩,hr⟩:=hl
   have hL:L∈X.fs:=hs L (by unfold frs; rw[List.filterMap_cons,hf]; exact List.mem_cons_self)
   obtain⟨sl,e⟩:=I.base.slot L o ho (I.ok.nj L hL) hL λz=>I.ok.xP L z hL
   exact⟨hk,⟨L,_,hf,hn,e,hd⟩,ih (λb hb=>hs b (by unfold frs; rw[List.filterMap_cons,hf]; exact List.mem_cons_of_mem _ hb)) hr⟩
 exact all X.outer (λ_ hb=>hb) I.ok.jf
theorem Inv.stack(I:Inv X pins σ H s):s.heap.FunFrames X.base X.stack:=by
 rcases I.ok.stk with e|⟨e,hf⟩
 .rw[e]; exact I.jf
 .rw[e]
  obtain⟨m,hn,_⟩:=I.loc
  refine .cons (by rw[I.ok.kind]; decide) hf hn ?_ I.jf
  exact Heap.get?_none_of_le (Nat.le_trans I.ok.j9 I.ok.above)
theorem Inv.uM(I:Inv X pins σ H s):∀b∈frs X.stack,b∈X.env.locals::X.fs:=λb hb=>by
 rcases I.ok.stk with e|⟨e,hf⟩
 .rw[e]at hb; exact List.mem_cons_of_mem _ hb
 .rw[e]at hb
  unfold frs at hb
  rw[List.filterMap_cons,hf]at hb
  exact hb
theorem Inv.xQ(I:Inv X pins σ H s):∀b∈frs X.stack,H b=none:=λb hb=>by
 rcases List.mem_cons.mp (I.uM b hb)with e|hb
 .rw[e]; exact I.free
 .obtain⟨_,o,ho,_⟩:=I.ok.jf.mem hb
  exact I.base.free b o ho (I.ok.nj b hb) λz=>I.ok.xP b z hb
theorem Inv.step{g':Array GenState}{t':Nat}{d':Drawn}{ch:List Addr}(I:Inv X pins σ H s)
  (hch:∀b∈ch,(b∈X.ex\/X.s₀.heap.objs.size<=b)/\b≠X.env.locals/\(∀x c,X.env.cells.lookup x=some c->c≠b)/\∀p∈X.pn++pins,p.1≠b)
  (keep:∀b o,b≠X.env.locals->b∉X.fs->b∉ch->s.heap.get? b=some o->H b=none->h'.get? b=some o)
  (slot:∀b o,b≠X.env.locals->b∈X.fs->b∉ch->s.heap.get? b=some o->H b=none->∃sl,h'.get? b=some {o with slots:=sl }) (free:∀b o,b∉ch->s.heap.get? b=some o->H b=none->H' b=none)
  (there:∀b o,b∉ch->s.heap.get? b=some o->∃o',h'.get? b=some o')
  (tups:∀b xs,H b=some (.tup xs)->H' b=some (.tup xs)) (gJ:∀b o u,H b=some (.cZ o u)->H' b=some (.cZ o u)) (gK:∀b ps,H b=some (.cM ps)->∃more,H' b=some (.cM (ps++more)))
  (ns:∀m,s.heap.Ns X.env.locals m->h'.Ns X.env.locals m) (hok:cQ X.prog X.w H' h') (hg:AllBare g') :
  Inv X pins σ H' {s with heap:=h',gens:=g',drawn:=d',toks:=t' }:=by
 have Mp:∀b o,X.s₀.heap.get? b=some o->b≠X.env.locals:=λb o e=>Nat.ne_of_lt (Nat.lt_of_lt_of_le (Heap.lt_size e) I.ok.above)
 have xR:∀b o,X.s₀.heap.get? b=some o->b∉X.ex->b∉ch:=λb o e hx hb=>by
  rcases(hch b hb).1 with z|z
  .exact hx z
  .exact absurd (Nat.lt_of_lt_of_le (Heap.lt_size e) z) (Nat.lt_irrefl _)
 have cellK:∀x c,X.env.cells.lookup x=some c->∀v,s.heap.IsCell c v->h'.IsCell c v:=λx c e v ⟨o,ho,hd⟩=>by
  have uN:c∉ch:=λz=>(hch c z).2.2.1 x c e rfl
  by_cases hc:c∈X.fs
  .obtain⟨sl,q⟩:=slot c o (I.pG x c e) hc uN ho (I.jN x c e)
   exact⟨_,q,hd⟩
  .exact⟨o,keep c o (I.pG x c e) hc uN ho (I.jN x c e),hd⟩
 refine⟨I.ok,I.os,hg,⟨λb o e n hb hx=>?_,λb o e n hb hx=>?_,λb o e n hx=>?_,λb o e hx=>?_,λb xs e=>tups b xs (I.base.tups b xs e),λb o xs e=>gJ b o xs (I.base.gJ b o xs e),λb ps e=>?_⟩,?_,λx c e=>?_,?_,λx c e=>?_,λp hp=>?_,hok,I.len⟩
 .exact keep b o (Mp b o e) hb (xR b o e hx) (I.base.keep b o e n hb hx) (I.base.free b o e n hx)
 .obtain⟨sl,e1⟩:=I.base.slot b o e n hb hx
  obtain⟨sl',e2⟩:=slot b _ (Mp b o e) hb (xR b o e hx) e1 (I.base.free b o e n hx)
  exact⟨sl',e2⟩
 .obtain⟨o',e1⟩:=I.base.there b o e hx
  exact free b o' (xR b o e hx) e1 (I.base.free b o e n hx)
 .obtain⟨o',e1⟩:=I.base.there b o e hx
  exact there b o' (xR b o e hx) e1
 .obtain⟨m1,e1⟩:=I.base.gK b ps e
  obtain⟨m2,e2⟩:=gK b _ e1
  exact⟨m1++m2,by rw[e2,Array.append_assoc]⟩
 .obtain⟨m,hn,hl⟩:=I.loc
  refine⟨m,ns m hn,λi x v e1 e2 e3=>?_⟩
  obtain⟨u,r,l⟩:=hl i x v e1 e2 e3
  refine⟨u,r,?_⟩
  rcases l with l|⟨k,c,e,z⟩
  .exact .inl l
  .exact .inr ⟨k,c,e,cellK x c e _ z⟩
 .obtain⟨v,z⟩:=I.cell x c e
  exact⟨v,cellK x c e v z⟩
 .obtain⟨m,⟨o,_,_,ho,_⟩,_⟩:=I.loc
  exact free _ o (λz=>(hch _ z).2.1 rfl) ho I.free
 .obtain⟨v,o,ho,hd⟩:=I.cell x c e
  exact free c o (λz=>(hch c z).2.2.1 x c e rfl) ho (I.jN x c e)
 .obtain⟨e,n,ne,nf,d⟩:=I.pin p hp
  have uN:p.1∉ch:=λz=>(hch p.1 z).2.2.2 p hp rfl
  exact⟨keep p.1 p.2 ne nf uN e n,free p.1 p.2 uN e n,ne,nf,d⟩
theorem Inv.un{t':Nat}(I:Inv X pins σ H s)(u:Un X.fs [] H H' s.heap h')(hok:cQ X.prog X.w H' h'):Inv X pins σ H' {s with heap:=h',toks:=t' }:=by
 obtain⟨m,⟨o,es,ep,ho,r⟩,_⟩:=id I.loc
 obtain⟨sl,hL⟩:=u.any ho I.free (by simp)
 exact I.step (g':=s.gens) (d':=s.drawn) (ch:=[]) (λ_ z=>nomatch z) (λb o _ hb _ e n=>u.keep b o e n hb (by simp)) (λb o _ hb _ e n=>u.slot b o e n hb (by simp)) (λb o _ e n=>u.free b o e n (by simp)) (λb o _ e=>u.there b o e (by simp)) u.tups u.gJ u.gK (λm' hm=>by
  obtain⟨o',es',ep',ho',r'⟩:=hm
  rw[ho]at ho'; cases ho'
  exact⟨_,es',ep',hL,r'⟩) hok I.bare
theorem Inv.call{g':Array GenState}{t':Nat}{d':Drawn}{ch:List Addr}(I:Inv X pins σ H s)(u:Un (frs X.stack) ch H H' s.heap h')(hok:cQ X.prog X.w H' h')(hg:AllBare g')
  (hch:∀b∈ch,(b∈X.ex\/X.s₀.heap.objs.size<=b)/\b≠X.env.locals/\(∀x c,X.env.cells.lookup x=some c->c≠b)/\∀p∈X.pn++pins,p.1≠b) :
  Inv X pins σ H' {s with heap:=h',gens:=g',drawn:=d',toks:=t' }:=by
 obtain⟨m,⟨o,es,ep,ho,r⟩,_⟩:=id I.loc
 obtain⟨sl,hL⟩:=u.any ho I.free λz=>(hch _ z).2.1 rfl
 exact I.step (ch:=ch) hch (λb o hL hb hc e n=>u.keep b o e n (λz=>(List.mem_cons.mp (I.uM b z)).elim hL hb) hc) (λb o _ _ hc e n=>u.any e n hc) (λb o hc e n=>u.free b o e n hc) (λb o hc e=>u.there b o e hc) u.tups u.gJ u.gK (λm' hm=>by
  obtain⟨o',es',ep',ho',r'⟩:=hm
  rw[ho]at ho'; cases ho'
  exact⟨_,es',ep',hL,r'⟩) hok hg
theorem Inv.turned{t':Nat}{it:Addr}(I:Inv X pins σ H s)(k:∀b o,b≠it->s.heap.get? b=some o->h'.get? b=some o)(hn:H it=none)(hL:it≠X.env.locals)
  (h1:it∈X.ex\/X.s₀.heap.objs.size<=it) (h2:∀x c,X.env.cells.lookup x=some c->c≠it) (h3:∀p∈X.pn++pins,p.1≠it):Inv X pins σ H {s with heap:=h',toks:=t' }:=by
 have Mq:∀b u,H b=some u->b≠it:=λb u e z=>by rw[z,hn]at e; cases e
 refine I.step (g':=s.gens) (d':=s.drawn) (ch:=[it]) (λb hb=>?_) (λb o _ _ hc e _=>k b o (λz=>hc (by simp[z])) e) (λb o _ _ hc e _=>⟨o.slots,k b o (λz=>hc (by simp[z])) e⟩) (λ_ _ _ _ n=>n)
  (λb o hc e=>⟨o,k b o (λz=>hc (by simp[z])) e⟩) (λ_ _ e=>e) (λ_ _ _ e=>e) (λb ps e=>⟨#[],by rw[e]; simp⟩) (λm hm=>?_) (λb u e=>?_) I.bare
 .have e:b=it:=by simpa using hb
  subst e
  exact⟨h1,hL,h2,h3⟩
 .obtain⟨o,es,ep,ho,r⟩:=hm
  exact⟨o,es,ep,k _ o (Ne.symm hL) ho,r⟩
 .refine(I.hok b u e).stay (λc v hc q=>k c v ?_ q) (λ_ q=>q) λ_ _ q=>q
  rcases hc with z|z
  .rw[z]; exact Mq b u e
  .exact Mq c _ z
theorem Inv.tok(I:Inv X pins σ H s)(t:Nat):Inv X pins σ H {s with toks:=t }:=I.un (h':=s.heap) (t':=t) Un.refl I.hok
theorem Inv.kept(I:Inv X pins σ H s)(k:∀b u,s.heap.get? b=some u->h'.get? b=some u):Inv X pins σ H {s with heap:=h',toks:=t' }:=I.un (Un.kept k) (I.hok.kept k)
theorem Inv.laid{a:Addr}{o:HO}{t':Nat}(I:Inv X pins σ H s)(k:∀b u,s.heap.get? b=some u->h'.get? b=some u)(hp:s.heap.objs.size<=a)(new:je X.prog X.w (upd H a o) h' a o) :
  Inv X pins σ (upd H a o) {s with heap:=h',toks:=t' }:=I.un (Un.laid k hp (I.hok.fresh hp)) (I.hok.laid k hp new)
theorem Inv.write(I:Inv X pins σ H s)(mu:xK (H x))(he:e=x\/H e=some (.own x))(k:∀b u,b≠e->s.heap.get? b=some u->h'.get? b=some u)(heo:∃u,h'.get? e=some u)
  (new:je X.prog X.w (upd H x o) h' x o):Inv X pins σ (upd H x o) {s with heap:=h',toks:=t' }:=I.un (Un.write mu he k heo) (I.hok.write mu he k heo new)
theorem Inv.xU(I:Inv X pins σ H s)(h:∀p∈nq,s.heap.get? p.1=some p.2/\H p.1=none/\p.1≠X.env.locals/\p.1∉X.fs/\∀v,p.2.data ≠ .cell v):Inv X nq σ H s :=
 ⟨I.ok,I.os,I.bare,I.base,I.loc,I.cell,I.free,I.jN,λp hp=>(List.mem_append.mp hp).elim (λz=>I.pin p (List.mem_append_left _ z)) (h p),I.hok,I.len⟩
theorem Mr{N:List Str}(hN:N.Nodup){i j:Nat}{x:Str}(a:N[i]?=some x)(b:N[j]?=some x):i=j:=by
 obtain⟨h1,e1⟩:=List.getElem?_eq_some_iff.mp a
 obtain⟨h2,e2⟩:=List.getElem?_eq_some_iff.mp b
 exact(List.getElem_inj hN).mp (e1.trans e2.symm)
theorem Ms{M:Model}{A:Around}{E:Value->Shared->Prop}{i:Nat}{x:Str}{v:V}{u:Value}{Q:Unit->Shared->Prop}(I:Inv X pins σ H s)(hN:X.N.Nodup)(hi:X.N[i]?=some x)(hx:Loc X.env.scope x)(r:RelV v u)
  (h:∀s',Inv X pins (σ.set i (some v)) H s'->(∃a,Heap.SameBut a s.heap s'.heap/\(a=X.env.locals\/X.env.cells.lookup x=some a))->Q () s') (hf:X.fn x=true\/X.env.scope.names.lookup x=some .local:=by first|exact .inl rfl|exact .inr rfl|assumption):wpAny M A (storeName X.env x u) Q E s:=by
 obtain⟨m,hn,hl⟩:=id I.loc
 have hcls:(X.env.scope.kind == .class || (X.env.scope.kind == .module&&X.env.locals != X.env.globals))=false:=by rw[I.ok.kind]; rfl
 have Mt:i < σ.length:=by rw[I.len]; exact(List.getElem?_eq_some_iff.mp hi).1
 have pG:=I.pG
 have tracked:∀{a:Addr} {h':Heap},(∃o,s.heap.get? a=some o/\H a=none)->Heap.SameBut a s.heap h'->cQ X.prog X.w H h':=λ{a h'} ha hs b ob e=>by
  obtain⟨_,_,hfree⟩:=ha
  refine(I.hok b ob e).stay (λc w' hc q=>(hs.2 c ?_).trans q) (λ_ q=>q) λ_ _ q=>q
  rintro rfl
  rcases hc with rfl|hc
  .rw[hfree]at e; cases e
  .rw[hfree]at hc; cases hc
 rcases hx with hk|hk
 .refine wpAny_storeName_local hk hn (λh' hn' hs=>?_) hcls
  obtain⟨oL,_,_,hoL,_⟩:=id hn
  refine h _ ⟨I.ok,I.os,I.bare,⟨λb o e n hb hx=>?_,λb o e n hb hx=>?_,I.base.free,λb o e hx=>?_,I.base.tups,I.base.gJ,I.base.gK⟩,⟨_,hn',λj y v' e1 e2 e3=>?_⟩,λy c e=>?_,I.free,I.jN,λp hp=>?_,tracked ⟨oL,hoL,I.free⟩ hs,by simpa using I.len⟩ ⟨_,hs,.inl rfl⟩
  .exact(hs.2 b (Nat.ne_of_lt (Nat.lt_of_lt_of_le (Heap.lt_size e) I.ok.above))).trans (I.base.keep b o e n hb hx)
  .obtain⟨sl,e1⟩:=I.base.slot b o e n hb hx
   exact⟨sl,(hs.2 b (Nat.ne_of_lt (Nat.lt_of_lt_of_le (Heap.lt_size e) I.ok.above))).trans e1⟩
  .obtain⟨o',e1⟩:=I.base.there b o e hx
   exact⟨o',(hs.2 b (Nat.ne_of_lt (Nat.lt_of_lt_of_le (Heap.lt_size e) I.ok.above))).trans e1⟩
  .by_cases hj:j=i
   .subst hj
    rw[hi]at e1; cases e1
    rw[List.getElem?_set_self Mt]at e2
    cases e2
    exact⟨u,r,.inl ⟨hk,by simp⟩⟩
   .rw[List.getElem?_set_ne (Ne.symm hj)]at e2
    obtain⟨u',r',q⟩:=hl j y v' e1 e2 e3
    refine⟨u',r',?_⟩
    rcases q with⟨k,e⟩|⟨k,c,e,z⟩
    .refine .inl ⟨k,?_⟩
     have:y≠x:=λe=>hj (Mr hN e1 (e▸hi))
     simp[this,e]
    .exact .inr ⟨k,c,e,z.sameBut hs (pG y c e)⟩
  .obtain⟨w',z⟩:=I.cell y c e
   exact⟨w',z.sameBut hs (pG y c e)⟩
  .obtain⟨e,n,ne,nf,d⟩:=I.pin p hp
   exact⟨(hs.2 p.1 ne).trans e,n,ne,nf,d⟩
 .have hfn:X.fn x=true:=by
   rcases hf with z|z
   .exact z
   .rw[z]at hk; cases hk
  obtain⟨c,hc⟩:=I.ok.has x (.inl hk)
  obtain⟨w',z⟩:=I.cell x c hc
  refine wpAny_storeName_cell I.ok.kind hk hc z (λh' hc' hs=>?_)
  obtain⟨oc,hoc,aaF⟩:=id z
  refine h {s with heap:=h' } ⟨I.ok,I.os,I.bare,⟨λb o e n hb hx=>?_,λb o e n hb hx=>?_,I.base.free,λb o e hx=>?_,I.base.tups,I.base.gJ,I.base.gK⟩,⟨m,hn.sameBut hs (Ne.symm (pG x c hc)),λj y v' e1 e2 e3=>?_⟩,λy c' e=>?_,I.free,I.jN,λp hp=>?_,tracked ⟨oc,hoc,I.jN x c hc⟩ hs,by simpa using I.len⟩ ⟨c,hs,.inr hc⟩
  .exact(hs.2 b (Nat.ne_of_lt (Nat.lt_of_lt_of_le (Heap.lt_size e) (I.ok.cab x c hfn hc)))).trans (I.base.keep b o e n hb hx)
  .obtain⟨sl,e1⟩:=I.base.slot b o e n hb hx
   exact⟨sl,(hs.2 b (Nat.ne_of_lt (Nat.lt_of_lt_of_le (Heap.lt_size e) (I.ok.cab x c hfn hc)))).trans e1⟩
  .obtain⟨o',e1⟩:=I.base.there b o e hx
   exact⟨o',(hs.2 b (Nat.ne_of_lt (Nat.lt_of_lt_of_le (Heap.lt_size e) (I.ok.cab x c hfn hc)))).trans e1⟩
  .by_cases hj:j=i
   .subst hj
    rw[hi]at e1; cases e1
    rw[List.getElem?_set_self Mt]at e2
    cases e2
    exact⟨u,r,.inr ⟨.inl hk,c,hc,hc'⟩⟩
   .rw[List.getElem?_set_ne (Ne.symm hj)]at e2
    obtain⟨u',r',q⟩:=hl j y v' e1 e2 e3
    refine⟨u',r',?_⟩
    rcases q with q|⟨k,c',e,z'⟩
    .exact .inl q
    .refine .inr ⟨k,c',e,z'.sameBut hs ?_⟩
     rintro rfl
     exact hj (Mr hN e1 (I.ok.inj _ _ _ e hc▸hi))
  .by_cases hcc:c'=c
   .subst hcc; exact⟨_,hc'⟩
   .obtain⟨w2,z2⟩:=I.cell y c' e
    exact⟨w2,z2.sameBut hs hcc⟩
  .obtain⟨e,n,ne,nf,d⟩:=I.pin p hp
   refine⟨(hs.2 p.1 ?_).trans e,n,ne,nf,d⟩
   intro q
   rw[q,hoc]at e
   have q':oc=p.2:=Option.some.inj e
   exact d w' (by rw[<-q']; exact aaF)
theorem xV(I:Inv X pins σ H s)(hN:X.N.Nodup)(hi:X.N[i]?=some x)(hx:Loc X.env.scope x)(r:RelV v u)
  (h:∀s',Inv X pins (σ.set i (some v)) H s'->Q () s') (hf:X.fn x=true\/X.env.scope.names.lookup x=some .local:=by first|exact .inl rfl|exact .inr rfl|assumption):wpAny M A (storeName X.env x u) Q E s :=
 Ms I hN hi hx r (λs' I' _=>h s' I') hf
theorem Inv.call'(I:Inv X pins σ H s)(ho:s'.os=s.os)(u:Un (frs X.stack) ch H H' s.heap s'.heap)(hok:cQ X.prog X.w H' s'.heap)(hg:AllBare s'.gens)
  (hch:∀b∈ch,(b∈X.ex\/X.s₀.heap.objs.size<=b)/\b≠X.env.locals/\(∀x c,X.env.cells.lookup x=some c->c≠b)/\∀p∈X.pn++pins,p.1≠b):Inv X pins σ H' s':=by
 obtain⟨h',g',d',t',o'⟩:=s'
 have e:o'=s.os:=ho
 subst e
 exact I.call (g':=g') (t':=t') (d':=d') u hok hg hch
end
noncomputable abbrev XK:=Value->Option Addr->Hp->Prop
noncomputable abbrev St:=List (Option V)
noncomputable abbrev VK:=V->Hp->Prop
noncomputable abbrev TE:=St->Hp->VK->Prop
noncomputable abbrev TT:=St->Hp->(Bool->Hp->Prop)->Prop
noncomputable abbrev TA:=St->Hp->(List V->Hp->Prop)->Prop
structure Ends where
 nx:St->Hp->Prop
 rt:VK
 bk:St->Hp->Prop:=λ_ _=>False
 ct:St->Hp->Prop:=λ_ _=>False
noncomputable abbrev TS:=Ends->St->Hp->Prop
noncomputable def EP(X:Cx)(pins:List (Addr × Obj))(σ : St)(Q:VK)(u:Value)(s':Shared):Prop:=∃v H',Inv X pins σ H' s'/\RelV v u/\Q v H'
noncomputable def TP(X:Cx)(pins:List (Addr × Obj))(σ : St)(Q:Bool->Hp->Prop)(b:Bool)(s':Shared):Prop:=∃H',Inv X pins σ H' s'/\Q b H'
noncomputable def AP(X:Cx)(pins:List (Addr × Obj))(σ : St)(Q:List V->Hp->Prop)(us:List Value)(s':Shared):Prop:=∃vs H',Inv X pins σ H' s'/\Vals vs us/\Q vs H'
noncomputable def SP(X:Cx)(pins:List (Addr × Obj))(D:Ends)(f:Flow)(s':Shared):Prop :=
 match f with
 |.next=>∃σ' H',Inv X pins σ' H' s'/\D.nx σ' H'
 |.brk=>∃σ' H',Inv X pins σ' H' s'/\D.bk σ' H'
 |.cont=>∃σ' H',Inv X pins σ' H' s'/\D.ct σ' H'
 |.ret u=>∃v σ' H',Inv X pins σ' H' s'/\RelV v u/\D.rt v H'
structure PE(X:Cx)(e:Expr)(t:TE):Prop where
 run:∀(pins:List (Addr × Obj)) (s:Shared) (σ : St) (H:Hp) (Q:VK),Inv X pins σ H s->t σ H Q->wpAny (model X.prog X.w) X.A (eval e X.env) (EP X pins σ Q) X.xe s
noncomputable instance {X:Cx}{e:Expr}{t:TE}:CoeFun (PE X e t) λ_=>∀(pins:List (Addr × Obj)) (s:Shared) (σ : St) (H:Hp) (Q:VK),Inv X pins σ H s->t σ H Q->wpAny (model X.prog X.w) X.A (eval e X.env) (EP X pins σ Q) X.xe s:=⟨PE.run⟩
structure PT(X:Cx)(e:Expr)(t:TT):Prop where
 run:∀(pins:List (Addr × Obj)) (s:Shared) (σ : St) (H:Hp) (Q:Bool->Hp->Prop),Inv X pins σ H s->t σ H Q->wpAny (model X.prog X.w) X.A (isTrue e X.env (eval e X.env)) (TP X pins σ Q) X.xe s
noncomputable instance {X:Cx}{e:Expr}{t:TT}:CoeFun (PT X e t) λ_=>∀(pins:List (Addr × Obj)) (s:Shared) (σ : St) (H:Hp) (Q:Bool->Hp->Prop),Inv X pins σ H s->t σ H Q->wpAny (model X.prog X.w) X.A (isTrue e X.env (eval e X.env)) (TP X pins σ Q) X.xe s:=⟨PT.run⟩
structure PW(X:Cx)(e:Expr)(t:TT):Prop where
 run:∀(whole:Sem Value) (pins:List (Addr × Obj)) (s:Shared) (σ : St) (H:Hp) (Q:Bool->Hp->Prop),Inv X pins σ H s->t σ H Q->wpAny (model X.prog X.w) X.A (isTrue e X.env whole) (TP X pins σ Q) X.xe s
noncomputable instance {X:Cx}{e:Expr}{t:TT}:CoeFun (PW X e t) λ_=>∀(whole:Sem Value) (pins:List (Addr × Obj)) (s:Shared) (σ : St) (H:Hp) (Q:Bool->Hp->Prop),Inv X pins σ H s->t σ H Q->wpAny (model X.prog X.w) X.A (isTrue e X.env whole) (TP X pins σ Q) X.xe s:=⟨PW.run⟩
theorem PW.pt(h:PW X e t):PT X e t:=⟨h.run _⟩
structure PA(X:Cx)(es:List Expr)(t:TA):Prop where
 run:∀(pos:Pos) (pins:List (Addr × Obj)) (s:Shared) (σ : St) (H:Hp) (Q:List V->Hp->Prop),Inv X pins σ H s->t σ H Q->wpAny (model X.prog X.w) X.A (spliced (backTo pos (starEach es X.env))) (AP X pins σ Q) X.xe s
noncomputable instance {X:Cx}{es:List Expr}{t:TA}:CoeFun (PA X es t) λ_=>∀(pos:Pos) (pins:List (Addr × Obj)) (s:Shared) (σ : St) (H:Hp) (Q:List V->Hp->Prop),Inv X pins σ H s->t σ H Q->wpAny (model X.prog X.w) X.A (spliced (backTo pos (starEach es X.env))) (AP X pins σ Q) X.xe s:=⟨PA.run⟩
structure PS(X:Cx)(st:Stmt)(t:TS):Prop where
 run:∀(pins:List (Addr × Obj)) (s:Shared) (σ : St) (H:Hp) (D:Ends),Inv X pins σ H s->t D σ H->wpAny (model X.prog X.w) X.A (exec st X.env) (SP X pins D) X.xe s
noncomputable instance {X:Cx}{st:Stmt}{t:TS}:CoeFun (PS X st t) λ_=>∀(pins:List (Addr × Obj)) (s:Shared) (σ : St) (H:Hp) (D:Ends),Inv X pins σ H s->t D σ H->wpAny (model X.prog X.w) X.A (exec st X.env) (SP X pins D) X.xe s:=⟨PS.run⟩
structure dN(X:Cx)(st:List Stmt)(t:TS):Prop where
 run:∀(pins:List (Addr × Obj)) (s:Shared) (σ : St) (H:Hp) (D:Ends),Inv X pins σ H s->t D σ H->wpAny (model X.prog X.w) X.A (execs st X.env) (SP X pins D) X.xe s
noncomputable instance {X:Cx}{st:List Stmt}{t:TS}:CoeFun (dN X st t) λ_=>∀(pins:List (Addr × Obj)) (s:Shared) (σ : St) (H:Hp) (D:Ends),Inv X pins σ H s->t D σ H->wpAny (model X.prog X.w) X.A (execs st X.env) (SP X pins D) X.xe s:=⟨dN.run⟩
theorem aF{α : Type}{t:Sem α}{Q Q' : α -> Shared->Prop}{M:Model}{A:Around}{E:Value->Shared->Prop}{s:Shared}(h:wpAny M A t Q E s)(hQ:∀a s,Q a s->Q' a s):wpAny M A t Q' E s:=wpAny_mono h hQ λ_ _ x=>x
section
variable {X:Cx}
noncomputable def uO(i:Nat):TE:=λσ H Q=>∃v,σ[i]?=some (some v)/\Q v H
noncomputable def tC(v:V):TE:=λ_ H Q=>Q v H
theorem Mv(hN:X.N[i]?=some x)(hv:xO X.env.scope x)(hd:(x == ("__debug__" : Str))=false:=by decide) (hcd:(x == ("__classdict__" : Str))=false:=by decide):PE X (.Name x pos) (uO i):=by
 refine⟨λpins s σ H Q I h=>?_⟩
 obtain⟨v,e,h⟩:=h
 obtain⟨m,hn,hl⟩:=I.loc
 obtain⟨u,r,l⟩:=hl i x v hN e hv
 have fin:EP X pins σ Q u s:=⟨v,H,I,r,h⟩
 rcases l with⟨hk,hm⟩|⟨hk,c,hc,hcell⟩
 .exact wpAny_Name (wpAny_loadName_local I.ok.kind hk hn hm fin) hd
 .rcases hk with hk|hk
  .exact wpAny_Name (wpAny_loadName_cell I.ok.kind hk hc hcell fin) hd
  .exact wpAny_Name (wpAny_loadName_free I.ok.kind hk hc hcell fin hcd) hd
theorem Dd{i j pos}:PE X (.Constant (.int i) j pos) (tC (.int i)):=⟨λ_ _ _ H _ I h=>wpAny_Constant_int ⟨.int i,H,I.tok _,⟨_,rfl⟩,h⟩⟩
theorem Mw{b j pos}:PE X (.Constant (.bool b) j pos) (tC (.bl b)):=⟨λ_ _ _ H _ I h=>Constant_bool ⟨.bl b,H,I,rfl,h⟩⟩
theorem Mx{j pos}:PE X (.Constant .none j pos) (tC .non):=⟨λ_ _ _ H _ I h=>Constant_none ⟨.non,H,I,rfl,h⟩⟩
theorem Mz{x j pos}:PE X (.Constant (.str x) j pos) (tC (.str x)):=⟨λ_ _ _ H _ I h=>Calls.Constant_str ⟨.str x,H,I.tok _,⟨_,rfl⟩,h⟩⟩
noncomputable def Gl(X:Cx)(x:Str):Prop:=X.env.kindOf x=some .globalImplicit
theorem Dg(I:Inv X pins σ H s)(hg:Gl X x)(hm:X.mg x=some u)(h:Q u s)
  (hd:(x == ("__debug__" : Str))=false:=by decide):wpAny (model X.prog X.w) X.A (eval (.Name x pos) X.env) Q E s :=
 Calls.Name_function_global I.ok.kind hg (Calls.loadGlobal_global (by rw[I.ok.glob]; exact I.mod.glob.keeps I.bk) hm h) hd
theorem lK(I:Inv X pins σ H s)(hg:Gl X x)(hm:X.mg x=none)(hv:bootBuiltins x=some u)(h:Q u s)
  (hn:x ≠ "__name__" := by decide) (hd:(x == ("__debug__" : Str))=false:=by decide):wpAny (model X.prog X.w) X.A (eval (.Name x pos) X.env) Q E s:=by
 obtain⟨mb,h1,h2⟩:=I.mod.blt
 exact Calls.Name_function_global I.ok.kind hg (Calls.loadGlobal_builtin (by rw[I.ok.glob]; exact I.mod.glob.keeps I.bk) hm (by rw[I.ok.blt]; exact h1.keeps I.bk) ((h2 x hn).trans hv) h) hd
theorem aaG(hg:Gl X x)(hm:X.mg x=some u)(r:RelV v u)(hd:(x == ("__debug__" : Str))=false:=by decide):PE X (.Name x pos) (tC v) :=
 ⟨λ_ _ _ H _ I h=>Dg I hg hm ⟨v,H,I,r,h⟩ hd⟩
theorem aaH(hg:Gl X x)(hm:X.mg x=none)(hv:bootBuiltins x=some u)(r:RelV v u)(hn:x ≠ "__name__" := by decide) (hd:(x == ("__debug__" : Str))=false:=by decide):PE X (.Name x pos) (tC v) :=
 ⟨λ_ _ _ H _ I h=>lK I hg hm hv ⟨v,H,I,r,h⟩ hn hd⟩
variable {a b:Expr}{ta tb:TE}{pos:Pos}
variable {tA xW:TT}{rest:List Expr}
noncomputable def MF(t u:TT):TT:=λσ H Q=>t σ H λc H1=>if c=true then u σ H1 Q else Q false H1
noncomputable def MJ(t u:TT):TT:=λσ H Q=>t σ H λc H1=>if c=true then Q true H1 else u σ H1 Q
noncomputable def MK(t:TT):TT:=λσ H Q=>t σ H λc H1=>Q (!c) H1
theorem aaI(ha:PT X a tA):PW X (.BoolOp .And [a] pos) tA:=by
 refine⟨λwh pins s σ H Q I h=>?_⟩
 refine isTrue_and (aF (ha pins s σ H Q I h) λc s1 e=>?_)
 cases c with
 |true=>exact isTrue_and_nil e
 |false=>exact e
theorem aaJ(ha:PT X a tA):PW X (.BoolOp .Or [a] pos) tA:=by
 refine⟨λwh pins s σ H Q I h=>?_⟩
 refine isTrue_or (aF (ha pins s σ H Q I h) λc s1 e=>?_)
 cases c with
 |false=>exact isTrue_or_nil e
 |true=>exact e
theorem aaK(ha:PT X a tA)(hb:PW X (.BoolOp .And (b::rest) pos) xW):PW X (.BoolOp .And (a::b::rest) pos) (MF tA xW):=by
 refine⟨λwh pins s σ H Q I h=>?_⟩
 refine isTrue_and (aF (ha pins s σ H _ I h) λc s1 ⟨H1,I1,q1⟩=>?_)
 cases c with
 |true=>exact hb wh pins s1 σ H1 Q I1 q1
 |false=>exact⟨H1,I1,q1⟩
theorem aaL(ha:PT X a tA)(hb:PW X (.BoolOp .Or (b::rest) pos) xW):PW X (.BoolOp .Or (a::b::rest) pos) (MJ tA xW):=by
 refine⟨λwh pins s σ H Q I h=>?_⟩
 refine isTrue_or (aF (ha pins s σ H _ I h) λc s1 ⟨H1,I1,q1⟩=>?_)
 cases c with
 |true=>exact⟨H1,I1,q1⟩
 |false=>exact hb wh pins s1 σ H1 Q I1 q1
theorem aaM(ha:PT X a tA):PT X (.UnaryOp .Not a pos) (MK tA):=by
 refine⟨λpins s σ H Q I h=>?_⟩
 exact isTrue_not (ha pins s σ H (λc H1=>Q (!c) H1) I h)
noncomputable def MN(ta tb:TE):TE:=λσ H Q=>ta σ H λx H1=>∃c,x=.bl c/\if c=true then tb σ H1 Q else Q (.bl false) H1
noncomputable def MP(ta:TE):TE:=λσ H Q=>ta σ H λx H1=>∃c,x=.bl c/\Q (.bl (!c)) H1
theorem aaN{op}{t:TE}(h:PE X a t):PE X (.BoolOp op [a] pos) t:=⟨λpins s σ H Q I hw=>BoolOp_one (h pins s σ H Q I hw)⟩
theorem aaO(ha:PE X a ta)(hb:PE X (.BoolOp .And (b::rest) pos) tb):PE X (.BoolOp .And (a::b::rest) pos) (MN ta tb):=by
 refine⟨λpins s σ H Q I h=>?_⟩
 refine BoolOp_and (aF (ha pins s σ H _ I h) λv s1 ⟨x,H1,I1,r1,q1⟩=>?_)
 obtain⟨c,rfl,q1⟩:=q1
 cases r1
 refine wpAny_truthy_bool ?_
 cases c with
 |true=>exact hb pins s1 σ H1 Q I1 q1
 |false=>exact⟨.bl false,H1,I1,rfl,q1⟩
theorem aaP(ha:PE X a ta):PE X (.UnaryOp .Not a pos) (MP ta):=by
 refine⟨λpins s σ H Q I h=>?_⟩
 refine UnaryOp_ (aF (ha pins s σ H _ I h) λv s1 ⟨x,H1,I1,r1,q1⟩=>?_)
 obtain⟨c,rfl,q1⟩:=q1
 cases r1
 exact not_of (wpAny_truthy_bool ⟨.bl (!c),H1,I1,rfl,q1⟩)
noncomputable def M4(t:TT)(ta tb:TE):TE:=λσ H Q=>t σ H λc H1=>if c=true then ta σ H1 Q else tb σ H1 Q
theorem aaQ{c:Expr}(hc:PT X c tA)(ha:PE X a ta)(hb:PE X b tb):PE X (.IfExp c a b pos) (M4 tA ta tb):=by
 refine⟨λpins s σ H Q I h=>?_⟩
 refine wpAny_IfExp (aF (hc pins s σ H _ I h) λd s1 ⟨H1,I1,q1⟩=>?_)
 cases d with
 |true=>exact ha pins s1 σ H1 Q I1 q1
 |false=>exact hb pins s1 σ H1 Q I1 q1
end
noncomputable def aK(K:PySem.W.Frag)(H:Hp)(a:Addr)(xs:List V):Prop :=
 Rd H a (.lst xs) \/
  ∃(o:Obj) (its:Array Value) (n:Nat),K.lookup a=some o/\o.cls=.type "list" /\ o.dict=none/\o.data=.seq its n/\its.size<=sizeLine/\Vals xs its.toList
noncomputable def bH(K:PySem.W.Frag)(H:Hp)(a:Addr)(xs:List V):Prop :=
 Rd H a (.tup xs) \/
  ∃(o:Obj) (its:Array Value) (n:Nat),K.lookup a=some o/\o.cls=.type "tuple" /\ o.data=.seq its n/\its.size<=sizeLine/\Vals xs its.toList
noncomputable def aaR:Value->Option V
 |.none=>some .non
 |.bool b=>some (.bl b)
 |.int i _=>some (.int i)
 |.str x _=>some (.str x)
 |.bytes b _=>some (.uK b)
 |.float b _=>some (.flt b)
 |.ref a=>some (.ref a)
 |.type n=>some (.ty n)
 |_=>none
theorem RelV.abs(r:RelV x u):aaR u=some x:=by
 cases x with
 |non=>cases r; rfl
 |bl _=>cases r; rfl
 |int _=>obtain⟨t,rfl⟩:=r; rfl
 |str _=>obtain⟨t,rfl⟩:=r; rfl
 |uK _=>obtain⟨t,rfl⟩:=r; rfl
 |flt _=>obtain⟨t,rfl⟩:=r; rfl
 |ref _=>cases r; rfl
 |ty _=>cases r; rfl
theorem RelV.inj{x y:V}{u:Value}(r:RelV x u)(q:RelV y u):x=y:=Option.some.inj (r.abs.symm.trans q.abs)
theorem Vals.inj:∀{xs ys:List V} {us:List Value},Vals xs us->Vals ys us->xs=ys
 |_,_,_,.nil,.nil=>rfl
 |_,_,_,.cons r t,.cons r' t'=>by rw[r.inj r',Vals.inj t t']
section
variable {X:Cx}{pins:List (Addr × Obj)}{σ : St}{H:Hp}{s:Shared}{a:Addr}{xs ys:List V}
theorem aK.of{K:PySem.W.Frag}(h:H a=some (.lst xs)):aK K H a xs:=.inl (.inl h)
theorem bH.of{K:PySem.W.Frag}(h:H a=some (.tup xs)):bH K H a xs:=.inl (.inl h)
theorem Inv.list(I:Inv X pins σ H s)(h:aK X.K H a xs):∃its:List Value,Vals xs its/\PlainL s.heap a its.toArray/\xs.length<=sizeLine:=by
 rcases h with h|⟨o,its,n,hk,hc,hd,hs,hz,r⟩
 .obtain⟨z,its,n,r,e⟩:=h.ok I.hok
  exact⟨its,r,⟨_,n,e,rfl,rfl,rfl⟩,z⟩
 .refine⟨its.toList,r,⟨o,n,I.iB a o hk,hc,hd,by simpa using hs⟩,?_⟩
  have e:=r.length
  simp only[Array.length_toList]at e
  lia
theorem Inv.tuple(I:Inv X pins σ H s)(h:bH X.K H a xs):∃its:List Value,Vals xs its/\IsTup s.heap a its.toArray/\xs.length<=sizeLine:=by
 rcases h with h|⟨o,its,n,hk,hc,hs,hz,r⟩
 .obtain⟨z,its,r,p⟩:=h.ok I.hok
  exact⟨its,r,p,z⟩
 .refine⟨its.toList,r,⟨o,I.iB a o hk,hc,n,by simpa using hs⟩,?_⟩
  have e:=r.length
  simp only[Array.length_toList]at e
  lia
theorem Inv.nA(I:Inv X pins σ H s)(h:aK X.K H a xs)(h':aK X.K H a ys):xs=ys:=by
 obtain⟨its,r,⟨o,n,e,_,_,d⟩,_⟩:=I.list h
 obtain⟨its',r',⟨o',n',e',_,_,d'⟩,_⟩:=I.list h'
 rw[e]at e'; cases e'
 rw[d]at d'
 injection d' with d1 _
 have:its=its':=by simpa using congrArg Array.toList d1
 subst this
 exact r.inj r'
theorem Inv.M5(I:Inv X pins σ H s)(h:bH X.K H a xs)(h':bH X.K H a ys):xs=ys:=by
 obtain⟨its,r,⟨o,e,_,n,d⟩,_⟩:=I.tuple h
 obtain⟨its',r',⟨o',e',_,n',d'⟩,_⟩:=I.tuple h'
 rw[e]at e'; cases e'
 rw[d]at d'
 injection d' with d1 _
 have:its=its':=by simpa using congrArg Array.toList d1
 subst this
 exact r.inj r'
end
noncomputable abbrev Cx.wish(X:Cx)(E:Value->Shared->Prop):Cx:={X with xe:=E }
noncomputable abbrev Cx.jg(X:Cx):Cx:=X.wish λ_ _=>False
theorem Cx.Ok.wish{X:Cx}(ok:X.Ok)(E:Value->Shared->Prop):(X.wish E).Ok :=
 ⟨ok.mod,ok.kind,ok.glob,ok.blt,ok.above,ok.inj,ok.has,ok.cab,ok.hd,ok.frames,ok.stk,ok.Ml,ok.bs,ok.j9,ok.uL,ok.xP,ok.jf,ok.nj⟩
theorem Cx.Ok.jO{X:Cx}{E:Value->Shared->Prop}(ok:(X.wish E).Ok):X.Ok :=
 ⟨ok.mod,ok.kind,ok.glob,ok.blt,ok.above,ok.inj,ok.has,ok.cab,ok.hd,ok.frames,ok.stk,ok.Ml,ok.bs,ok.j9,ok.uL,ok.xP,ok.jf,ok.nj⟩
section
variable {X:Cx}{pins:List (Addr × Obj)}{σ : St}{H:Hp}{s:Shared}{E:Value->Shared->Prop}
theorem Inv.wish(I:Inv X pins σ H s)(E:Value->Shared->Prop):Inv (X.wish E) pins σ H s:=⟨I.ok.wish E,I.os,I.bare,I.base,I.loc,I.cell,I.free,I.jN,I.pin,I.hok,I.len⟩
theorem Inv.jO(I:Inv (X.wish E) pins σ H s):Inv X pins σ H s:=⟨I.ok.jO,I.os,I.bare,I.base,I.loc,I.cell,I.free,I.jN,I.pin,I.hok,I.len⟩
theorem SP.jO{D:Ends}{f:Flow}{s':Shared}(h:SP (X.wish E) pins D f s'):SP X pins D f s':=by
 cases f with
 |next=>obtain⟨σ',H',I,q⟩:=h; exact⟨σ',H',I.jO,q⟩
 |brk=>obtain⟨σ',H',I,q⟩:=h; exact⟨σ',H',I.jO,q⟩
 |cont=>obtain⟨σ',H',I,q⟩:=h; exact⟨σ',H',I.jO,q⟩
 |ret u=>obtain⟨v,σ',H',I,r,q⟩:=h; exact⟨v,σ',H',I.jO,r,q⟩
theorem PE.jg(h:PE X.jg e t):PE X e t:=⟨λpins s σ H Q I hw =>
 wpAny_mono (h pins s σ H Q (I.wish _) hw) (λ_ _ ⟨v,H',I',r,q⟩=>⟨v,H',I'.jO,r,q⟩) λ_ _ z=>False.elim z⟩
theorem PT.jg(h:PT X.jg e t):PT X e t:=⟨λpins s σ H Q I hw =>
 wpAny_mono (h pins s σ H Q (I.wish _) hw) (λ_ _ ⟨H',I',q⟩=>⟨H',I'.jO,q⟩) λ_ _ z=>False.elim z⟩
theorem dN.jg{st:List Stmt}{t:TS}(h:dN X.jg st t):dN X st t:=⟨λpins s σ H D I hw =>
 wpAny_mono (h pins s σ H D (I.wish _) hw) (λ_ _ q=>q.jO) λ_ _ z=>False.elim z⟩
end
section
variable {X:Cx}{st:Stmt}{rest:List Stmt}{t u:TS}{e:Expr}{te:TE}{pos:Pos}
noncomputable def aaS:TS:=λD σ H=>D.nx σ H
noncomputable def M6(t u:TS):TS:=λD σ H=>t {D with nx:=u D } σ H
theorem aaT:dN X [] aaS:=⟨λ_ _ σ H _ I h=>wpAny_execs_nil ⟨σ,H,I,h⟩⟩
theorem aaU(h1:PS X st t)(h2:dN X rest u):dN X (st::rest) (M6 t u):=by
 refine⟨λpins s σ H D I h=>?_⟩
 refine wpAny_execs_cons (aF (h1 pins s σ H {D with nx:=u D } I h) λf s1 q=>?_)
 cases f with
 |next =>
  obtain⟨σ',H',I',q⟩:=q
  exact h2 pins s1 σ' H' D I' q
 |ret v=>exact q
 |brk=>exact q
 |cont=>exact q
theorem aaV(h1:PS X st t):dN X [st] t:=by
 refine⟨λpins s σ H D I h=>?_⟩
 refine wpAny_execs_cons (aF (h1 pins s σ H D I h) λf s1 q=>?_)
 cases f with
 |next=>exact wpAny_execs_nil q
 |ret v=>exact q
 |brk=>exact q
 |cont=>exact q
theorem Inv.quiet{pins:List (Addr × Obj)}{σ : St}{H:Hp}{s:Shared}(I:Inv X pins σ H s):interactive X.env=false:=by simp[interactive,I.ok.kind]
noncomputable def aaW(te:TE):TS:=λD σ H=>te σ H λ_ H1=>D.nx σ H1
theorem aaX(he:PE X e te)(hs:swapsWith e none pos.line X.env=pure false:=by rfl):PS X (.Expr e pos) (aaW te):=by
 refine⟨λpins s σ H D I h=>?_⟩
 exact wpAny_Expr_any (aF (he pins s σ H _ I h) λv s1 ⟨x,H1,I1,r1,q1⟩=>⟨σ,H1,I1,q1⟩) I.quiet hs
noncomputable def aaY(te:TE):TS:=λD σ H=>te σ H D.rt
theorem aaZ(he:PE X e te):PS X (.Return (some e) pos) (aaY te):=by
 refine⟨λpins s σ H D I h=>?_⟩
 exact wpAny_Return_some (aF (he pins s σ H _ I h) λv s1 ⟨x,H1,I1,r1,q1⟩=>⟨x,σ,H1,I1,r1,q1⟩)
noncomputable def aa0(c:TT)(t u:TS):TS:=λD σ H=>c σ H λb H1=>if b=true then t D σ H1 else u D σ H1
theorem aa1{c:Expr}{a b:List Stmt}{tc:TT}(hc:PT X c tc)(ha:dN X a t)(hb:dN X b u):PS X (.If c a b pos) (aa0 tc t u):=by
 refine⟨λpins s σ H D I h=>?_⟩
 refine wpAny_If (aF (hc pins s σ H _ I h) λd s1 ⟨H1,I1,q1⟩=>?_)
 cases d with
 |true=>exact ha pins s1 σ H1 D I1 q1
 |false=>exact hb pins s1 σ H1 D I1 q1
end
noncomputable abbrev TG:=V->St->Hp->(St->Hp->Prop)->Prop
noncomputable abbrev pH:=List V->St->Hp->(St->Hp->Prop)->Prop
noncomputable def PG(X:Cx)(target:Expr)(t:TG):Prop :=
 ∀(pins:List (Addr × Obj)) (s:Shared) (σ : St) (H:Hp) (v:V) (u:Value) (Q:St->Hp->Prop),Inv X pins σ H s->RelV v u->t v σ H Q ->
  wpAny (model X.prog X.w) X.A (assign target X.env u) (λ_ s'=>∃σ' H',Inv X pins σ' H' s'/\Q σ' H') X.xe s
noncomputable def nC(X:Cx)(ts:List Expr)(t:pH):Prop :=
 ∀(pins:List (Addr × Obj)) (s:Shared) (σ : St) (H:Hp) (vs:List V) (us:List Value) (Q:St->Hp->Prop),Inv X pins σ H s->Vals vs us->t vs σ H Q ->
  wpAny (model X.prog X.w) X.A (assignInOrder ((assignEach ts X.env).map (·.2)) us) (λ_ s'=>∃σ' H',Inv X pins σ' H' s'/\Q σ' H') X.xe s
noncomputable abbrev Dh:=V->V->V->Hp->(Hp->Prop)->Prop
noncomputable def M7(X:Cx)(t:Dh):Prop :=
 ∀(pins:List (Addr × Obj)) (s:Shared) (σ : St) (H:Hp) (o i v:V) (ov iv u:Value) (Q:Hp->Prop),Inv X pins σ H s->RelV o ov->RelV i iv->RelV v u->t o i v H Q ->
  wpAny (model X.prog X.w) X.A (setItem ov iv u) (λ_ s'=>∃H',Inv X pins σ H' s'/\Q H') X.xe s
section
variable {X:Cx}{pos:Pos}
noncomputable def lM(i:Nat):TG:=λv σ H Q=>Q (σ.set i (some v)) H
theorem aa2(hN:X.N.Nodup)(hi:X.N[i]?=some x)(hx:Loc X.env.scope x)(hf:X.fn x=true\/X.env.scope.names.lookup x=some .local:=by first|exact .inl rfl|exact .inr rfl|assumption):PG X (.Name x pos) (lM i):=by
 intro pins s σ H v u Q I r h
 exact wpAny_assign_Name (xV I hN hi hx r (λs' I'=>⟨_,H,I',h⟩) hf)
noncomputable def aa3:pH:=λvs σ H Q=>vs=[]/\Q σ H
noncomputable def aa4(t:TG)(u:pH):pH:=λvs σ H Q=>∃v r,vs=v::r/\t v σ H λσ' H'=>u r σ' H' Q
theorem aa5:nC X [] aa3:=by
 intro pins s σ H vs us Q I r h
 obtain⟨e,h⟩:=h
 subst e
 cases r
 exact assignInOrder_nil ⟨σ,H,I,h⟩
theorem aa6{e:Expr}{es:List Expr}{t:TG}{u:pH}(h1:PG X e t)(h2:nC X es u)
  (hs:(assignEach (e::es) X.env).map (·.2)=assign e X.env::(assignEach es X.env).map (·.2):=by rfl):nC X (e::es) (aa4 t u):=by
 intro pins s σ H vs us Q I r h
 obtain⟨v,vr,e1,h⟩:=h
 subst e1
 cases r with
 |cons r rr =>
  rw[hs]
  refine assignInOrder_cons (aF (h1 pins s σ H _ _ _ I r h) λ_ s1 ⟨σ1,H1,I1,q1⟩=>?_)
  exact h2 pins s1 σ1 H1 _ _ Q I1 rr q1
noncomputable def aa7(K:PySem.W.Frag)(n:Nat)(t:pH):TG:=λv σ H Q=>∃a xs,v=.ref a/\bH K H a xs/\xs.length=n/\t xs σ H Q
theorem aa8(hc:X.calm=true)(h:nC X es t)
  (hn:(assignEach es X.env).length=n:=by rfl) (hst:(assignEach es X.env).findIdx? (·.1)=none:=by rfl):PG X (.Tuple es k pos) (aa7 X.K n t):=by
 intro pins s σ H v u Q I r hw
 obtain⟨a,xs,e1,hq,hl,hw⟩:=hw
 subst e1
 cases r
 obtain⟨its,rv,ht,hz⟩:=I.tuple hq
 refine assign_Tuple_tuple (I.ok.hd hc) ht (by simp[hn,<-hl,rv.length]) hst λh' hx=>?_
 have I1:Inv X pins σ H {s with heap:=h' }:=I.kept (t':=s.toks) λb o e=>hx b o (Nat.ne_of_lt (Heap.lt_size e)) e
 exact h pins _ σ H xs _ Q I1 (by simpa using rv) hw
noncomputable def aa9(to ti:TE)(t:Dh):TG:=λv σ H Q=>to σ H λo H1=>ti σ H1 λi H2=>t o i v H2 λH3=>Q σ H3
theorem M8{o i:Expr}{to ti:TE}{t:Dh}(ho:PE X o to)(hi:PE X i ti)(hs:M7 X t)
  (ha:∀v,assign (.Subscript o i pos) X.env v=(do
   let ov <-holding [v] (eval o X.env)
   let iv <-holding [v,ov] (eval i X.env)
   standAt pos
   holding [v,ov,iv] (setItem ov iv v)
   release [v,ov,iv] []):=by intro _; rfl):PG X (.Subscript o i pos) (aa9 to ti t):=by
 intro pins s σ H v u Q I r h
 rw[ha]
 refine wpAny_bind (wpAny_holding (aF (ho pins s σ H _ I h) λov s1 ⟨x,H1,I1,r1,q1⟩=>?_))
 refine wpAny_bind (wpAny_holding (aF (hi pins s1 σ H1 _ I1 q1) λiv s2 ⟨y,H2,I2,r2,q2⟩=>?_))
 refine wpAny_bind (wpAny_standAt (wpAny_bind (wpAny_holding (aF (hs pins s2 σ H2 x y v ov iv u _ I2 r1 r2 r q2) λ_ s3 ⟨H3,I3,q3⟩=>?_))))
 exact wpAny_release ⟨σ,H3,I3,q3⟩
noncomputable def lN(te:TE)(g:TG):TS:=λD σ H=>te σ H λx H1=>g x σ H1 D.nx
theorem Di{tg e:Expr}{te:TE}{g:TG}(he:PE X e te)(hg:PG X tg g)(hs:swapsWithSole [tg] e pos.line X.env=pure false:=by rfl)(hw:swappedStores [tg] e X.env=pure none:=by rfl)
  (h1:(assignEach [tg] X.env).map (·.2)=[assign tg X.env]:=by rfl):PS X (.Assign [tg] e pos) (lN te g):=by
 refine⟨λpins s σ H D I h=>?_⟩
 refine wpAny_Assign_stores (aF (he pins s σ H _ I h) λv s1 ⟨x,H1,I1,r1,q1⟩=>?_) hs hw
 rw[h1]
 exact aF (hg pins s1 σ H1 x v _ I1 r1 q1) λ_ s2 q=>q
theorem M9{i:Nat}{x:Str}{e:Expr}{te:TE}{pos':Pos}(hN:X.N.Nodup)(hi:X.N[i]?=some x)(hx:Loc X.env.scope x)(he:PE X e te)(hs:swapsWith e (some (.Name x pos')) pos.line X.env=pure false:=by rfl)(hf:X.fn x=true\/X.env.scope.names.lookup x=some .local:=by first|exact .inl rfl|exact .inr rfl|assumption) :
  PS X (.Assign [.Name x pos'] e pos) (lN te (lM i)):=by
 refine⟨λpins s σ H D I h=>?_⟩
 refine wpAny_Assign_Name (aF (he pins s σ H _ I h) λv s1 ⟨y,H1,I1,r1,q1⟩=>?_) hs
 exact xV I1 hN hi hx r1 (λs2 I2=>⟨_,H1,I2,q1⟩) hf
noncomputable def abb(i j:Nat)(ta:TA):TS:=λD σ H=>ta σ H λvs H1=>∃v w,vs=[v,w]/\D.nx ((σ.set i (some v)).set j (some w)) H1
theorem abd{kt k2 Dj}(hc:X.calm=true)(hN:X.N.Nodup)(hi:X.N[i]?=some x)(hj:X.N[j]?=some y)(hij:i≠j)
  (hx:X.env.scope.names.lookup x=some .local) (hy:X.env.scope.names.lookup y=some .local) (ha:PA X [a,b] ta)
  (hw:swappedStores [.Tuple [.Name x px,.Name y py] kt pt] (.Tuple [a,b] k2 Dj) X.env=pure (some [x,y]))
  (hs:swapsWithSole [.Tuple [.Name x px,.Name y py] kt pt] (.Tuple [a,b] k2 Dj) pos.line X.env=pure false:=by rfl) :
  PS X (.Assign [.Tuple [.Name x px,.Name y py] kt pt] (.Tuple [a,b] k2 Dj) pos) (abb i j ta):=by
 refine⟨λpins s σ H D I h=>?_⟩
 rw[exec_Assign_arm]
 refine wpAny_bind (wpAny_standAt ?_)
 rw[hs]
 refine wpAny_bind (wpAny_pure ?_)
 rw[if_neg (by decide)]
 refine wpAny_bind (Tuple_ (aF (ha _ pins s σ H _ I h) λus s1 ⟨vs,H1,I1,r1,q1⟩=>?_))
 obtain⟨v,w,e1,q1⟩:=q1
 subst e1
 obtain⟨u1,u2,rfl,rv,pI⟩:∃u1 u2,us=[u1,u2]/\RelV v u1/\RelV w u2:=by
  cases r1 with
  |cons p q =>
   cases q with
   |cons p' q' =>
    cases q'
    exact⟨_,_,rfl,p,p'⟩
 refine wpAny_newObj_type ?_ (by show 2<=sizeLine; decide)
 have I2:Inv X pins σ H1 {s1 with heap:=s1.heap.push {cls:=.type "tuple",data:=.seq [u1,u2].toArray } }:=I1.kept (t':=s1.toks) λb o e=>Heap.get?_push_of_some _ e
 rw[hw]
 refine wpAny_bind (wpAny_pure ?_)
 show wpAny (model X.prog X.w) X.A (do rule "assign.swapped-stores"; let items <-unpackItems (.ref s1.heap.objs.size) 2 none; assignInOrder [λv=>bindName X.env y v,λv=>bindName X.env x v] items.reverse; pure Flow.next) _ _ _
 refine wpAny_bind (wpAny_rule (wpAny_bind (unpackItems_tuple (items:=#[u1,u2]) (I.ok.hd hc) (IsTup.new s1.heap _) λh' hx'=>?_)))
 have I3:=I2.kept (h':=h') (t':=s1.toks) λb o e=>hx' b o (Nat.ne_of_lt (Heap.lt_size e)) e
 show wpAny _ _ (assignInOrder [λv=>bindName X.env y v,λv=>bindName X.env x v] [u2,u1] >>= λ_=>pure Flow.next) _ _ _
 refine wpAny_bind (assignInOrder_cons (wpAny_bindName (xV I3 hN hj (.inl hy) pI (λs2 I4=>?_) (.inr hy))))
 refine assignInOrder_cons (wpAny_bindName (xV I4 hN hi (.inl hx) rv (λs3 I5=>assignInOrder_nil (wpAny_pure ?_)) (.inr hx)))
 rw[List.set_comm _ _ (Ne.symm hij)]at I5
 exact⟨_,H1,I5,q1⟩
end
section
variable {X:Cx}{pos:Pos}
noncomputable def abe(c:TT)(tb:TS):TS:=λD σ H=>∃W:Nat->St->Hp->Prop,(∃m,W m σ H)/\∀m σ H,W m σ H ->
 c σ H λb H1=>if b=true then ∃N:St->Hp->Prop,(∀σ' H',N σ' H'->∃m',m'<m/\W m' σ' H')/\tb {D with nx:=N,ct:=N,bk:=D.nx } σ H1 else D.nx σ H1
theorem abf(hp:PassesOwn (model X.prog X.w) X.A X.env X.xe)(hc:PT X c tc)(hb:dN X body tb):PS X (.While c body [] pos) (abe tc tb):=by
 refine⟨λpins s σ H D I h=>?_⟩
 obtain⟨W,⟨m0,w0⟩,turn⟩:=h
 refine wpAny_While (codeAny_whileLoop (λn s'=>∃σ' H',Inv X pins σ' H' s'/\W n σ' H') ?_ m0 ⟨σ,H,I,w0⟩)
 rintro n s1 ⟨σ1,H1,I1,w1⟩
 refine wpAny_passesOwn hp (aF (hc pins s1 σ1 H1 _ I1 (turn n σ1 H1 w1)) λb s2 ⟨H2,I2,q2⟩=>?_)
 cases b with
 |true =>
  obtain⟨N,hN,q2⟩:=q2
  rw[if_pos rfl]
  refine wpAny_passesOwn hp (aF (hb pins s2 σ1 H2 _ I2 q2) λf s3 q3=>?_)
  cases f with
  |next =>
   obtain⟨σ3,H3,I3,n3⟩:=q3
   obtain⟨m',hm,w3⟩:=hN σ3 H3 n3
   exact⟨m',hm,σ3,H3,I3,w3⟩
  |cont =>
   obtain⟨σ3,H3,I3,n3⟩:=q3
   obtain⟨m',hm,w3⟩:=hN σ3 H3 n3
   exact⟨m',hm,σ3,H3,I3,w3⟩
  |brk=>exact q3
  |ret v=>exact q3
 |false =>
  rw[if_neg Bool.false_ne_true]
  exact wpAny_execs_nil ⟨σ1,H2,I2,q2⟩
end
structure It where
 go:Nat->Hp->Prop
 jP:Nat->Hp->V->Hp->Prop
 stop:Nat->Hp->Prop
noncomputable def cg(X:Cx)(pins:List (Addr × Obj))(H:Hp)(b:Addr):Prop :=
 H b=none/\b≠X.env.locals/\b∉X.fs/\(b∈X.ex\/X.s₀.heap.objs.size<=b)/\(∀x c,X.env.cells.lookup x=some c->c≠b)/\∀p∈X.pn++pins,p.1≠b
theorem Inv.jQ(I:Inv X pins σ H s)(hb:s.heap.objs.size<=b)(hn:H' b=none):cg X pins H' b:=by
 refine⟨hn,Nat.ne_of_gt (Nat.lt_of_lt_of_le I.lt hb),I.aaE hb,.inr (Nat.le_trans I.sz hb),λx c e z=>?_,λp hp z=>?_⟩
 .obtain⟨v,q⟩:=I.cell x c e
  exact absurd (Nat.lt_of_lt_of_le q.lt (by rw[z]; exact hb)) (Nat.lt_irrefl _)
 .exact absurd (Nat.lt_of_lt_of_le (Heap.lt_size (I.pin p hp).1) (by rw[z]; exact hb)) (Nat.lt_irrefl _)
structure Turn(P:Program)(w:World)(K:PySem.W.Frag)(tg:Expr)(J:It)(fp:List Addr)(it:Addr)(tn:Nat->Heap->Prop):Prop where
 mem:it∈fp
 obj:∀i h,tn i h->∀b∈fp,∃o,h.get? b=some o/\∀v,o.data ≠ .cell v
 keep:∀i h h',tn i h->(∀b∈fp,∀o,h.get? b=some o->h'.get? b=some o)->tn i h'
 item:∀(X:Cx),X.prog=P->X.w=w->X.K=K->X.calm=true->∀(i:Nat) (pins:List (Addr × Obj)) (s:Shared) (σ : St) (H:Hp) (E:Value->Shared->Prop),Inv X pins σ H s->(∀b∈fp,cg X pins H b)->tn i s.heap->J.go i H ->
  wpAny (model P w) X.A (pyNext (.ref it)) (λr s1=>∃u,r=some u /\
   wpAny (model P w) X.A (letOwnedTupleGo tg (.ref it) u) (λ_ s2=>∃x H',Inv X pins σ H' s2/\RelV x u/\J.jP i H x H'/\tn (i+1) s2.heap/\∀b∈fp,H' b=none) E s1) E s
 done:∀(X:Cx),X.prog=P->X.w=w->X.K=K->X.calm=true->∀(i:Nat) (pins:List (Addr × Obj)) (s:Shared) (σ : St) (H:Hp) (E:Value->Shared->Prop),Inv X pins σ H s->(∀b∈fp,cg X pins H b)->tn i s.heap->J.stop i H ->
  wpAny (model P w) X.A (pyNext (.ref it)) (λr s1=>r=none/\Inv X pins σ H s1) E s
 self:∀(A:Around) (i:Nat) (s:Shared) (Q:Value->Shared->Prop) (E:Value->Shared->Prop),tn i s.heap->Q (.ref it) s->wpAny (model P w) A (pyIter (.ref it)) Q E s
noncomputable abbrev TI:=St->Hp->(It->Hp->Prop)->Prop
noncomputable def PIE(X:Cx)(pins:List (Addr × Obj))(σ : St)(tg:Expr)(R:It->Hp->Prop)(itv:Value)(s2:Shared):Prop :=
 ∃(it:Addr) (fp:List Addr) (tn:Nat->Heap->Prop) (J:It) (H':Hp),itv=.ref it/\Inv X pins σ H' s2/\Turn X.prog X.w X.K tg J fp it tn/\tn 0 s2.heap/\(∀b∈fp,cg X pins H' b)/\R J H'
noncomputable def PI(X:Cx)(tg iter:Expr)(wi:TI):Prop :=
 ∀(pins:List (Addr × Obj)) (s:Shared) (σ : St) (H:Hp) (R:It->Hp->Prop),Inv X pins σ H s->wi σ H R ->
  wpAny (model X.prog X.w) X.A (eval iter X.env) (λv s1=>wpAny (model X.prog X.w) X.A (pyIter v) (PIE X pins σ tg R) X.xe s1) X.xe s
theorem Dk(ho:s.heap.get? it=some o)(hc:o.cls=.type n)(hd:o.data=.fields vs)
    (hn : ["enumerate", "zip", "dict_itemiterator", "dict_reverseitemiterator", "odict_iterator", "itertools.zip_longest", "itertools.pairwise"].contains n=false) (hQ:Q () s):wpAny M A (letOwnedTupleGo tg (.ref it) u) Q E s:=by
  unfold letOwnedTupleGo
  cases tg <;> first
    |exact wpAny_pure hQ
    | (cases u <;> first
        |exact wpAny_pure hQ
        | (refine wpAny_bind (wpAny_load ho ?_)
           rw[hc,hd]
           show wpAny M A (if(["enumerate", "zip", "dict_itemiterator", "dict_reverseitemiterator", "odict_iterator", "itertools.zip_longest", "itertools.pairwise"].contains n&&vs[0]? == some (rawInt _))=true then _ else _) Q E s
           rw[if_neg (by intro h; rw[hn,Bool.false_and]at h; cases h)]
           exact wpAny_pure hQ))
noncomputable def Dl(K:PySem.W.Frag)(a:Addr):It :=
 ⟨λi H=>∃xs x,aK K H a xs/\xs[i]?=some x,λi H x H'=>H'=H/\∀xs,aK K H a xs->xs[i]?=some x,λi H=>∃xs,aK K H a xs/\xs.length<=i⟩
noncomputable def Dm(K:PySem.W.Frag)(a:Addr):It :=
 ⟨λi H=>∃xs x,bH K H a xs/\xs[i]?=some x,λi H x H'=>H'=H/\∀xs,bH K H a xs->xs[i]?=some x,λi H=>∃xs,bH K H a xs/\xs.length<=i⟩
noncomputable def xX(lo:Int)(n:Nat):It:=⟨λi _=>i<n,λi H x H'=>H'=H/\x=.int (lo+i),λi _=>n<=i⟩
theorem abg{P:Program}{w:World}{K:PySem.W.Frag}{tg:Expr}(a it:Addr):Turn P w K tg (Dl K a) [it] it (λi h=>h.IsListIter it a i) where
 mem:=by simp
 obj:=λi h st b hb=>by
  have e:b=it:=by simpa using hb
  subst e
  obtain⟨o,e,c,d⟩:=st
  exact⟨o,e,λv z=>by rw[d]at z; cases z⟩
 keep:=λi h h' st k=>st.at λo e=>k it (by simp) o e
 item:=by
  intro X hP hw hK hc i pins s σ H E I hf st hg
  subst hP hw hK
  obtain⟨xs,x,hq,hx⟩:=hg
  obtain⟨its,rv,p,hz⟩:=I.list hq
  obtain⟨u,hu,ru⟩:=rv.get hx
  obtain⟨f0,f1,f2,f3,f4,f5⟩:=hf it (by simp)
  refine wpAny_pyNext_list_item st p.isList (x:=u) (by simpa using hu) λh' st' sb=>?_
  have I1:Inv X pins σ H {s with heap:=h' }:=I.turned (t':=s.toks) (λb o hb e=>(sb.2 b hb).trans e) f0 f1 f3 f4 f5
  obtain⟨o,e,c,d⟩:=id st'
  exact⟨u,rfl,Dk (s:={s with heap:=h' }) e c d (by decide) ⟨x,H,I1,ru,⟨rfl,λys hy=>by rw[I.nA hy hq]; exact hx⟩,st',λb hb=>(hf b hb).1⟩⟩
 done:=by
  intro X hP hw hK hc i pins s σ H E I hf st hg
  subst hP hw hK
  obtain⟨xs,hq,hx⟩:=hg
  obtain⟨its,rv,p,hz⟩:=I.list hq
  obtain⟨f0,f1,f2,f3,f4,f5⟩:=hf it (by simp)
  have hl:=rv.length
  exact wpAny_pyNext_list_end (I.ok.hd hc) st p.isList (by simp; lia) λh' eb=>⟨rfl,I.turned (t':=s.toks) (λb o hb e=>eb b o hb e) f0 f1 f3 f4 f5⟩
 self:=λ_ _ _ _ _ st h=>wpAny_pyIter_listiter st h
theorem abh{P:Program}{w:World}{K:PySem.W.Frag}{tg:Expr}(a it:Addr):Turn P w K tg (Dm K a) [it] it (λi h=>h.IsTupleIter it a i) where
 mem:=by simp
 obj:=λi h st b hb=>by
  have e:b=it:=by simpa using hb
  subst e
  obtain⟨o,e,c,d⟩:=st
  exact⟨o,e,λv z=>by rw[d]at z; cases z⟩
 keep:=λi h h' st k=>st.at λo e=>k it (by simp) o e
 item:=by
  intro X hP hw hK hc i pins s σ H E I hf st hg
  subst hP hw hK
  obtain⟨xs,x,hq,hx⟩:=hg
  obtain⟨its,rv,p,hz⟩:=I.tuple hq
  obtain⟨u,hu,ru⟩:=rv.get hx
  obtain⟨f0,f1,f2,f3,f4,f5⟩:=hf it (by simp)
  refine wpAny_pyNext_tuple_item st (show s.heap.IsTuple a its.toArray from p) (x:=u) (by simpa using hu) λh' st' sb=>?_
  have I1:Inv X pins σ H {s with heap:=h' }:=I.turned (t':=s.toks) (λb o hb e=>(sb.2 b hb).trans e) f0 f1 f3 f4 f5
  obtain⟨o,e,c,d⟩:=id st'
  exact⟨u,rfl,Dk (s:={s with heap:=h' }) e c d (by decide) ⟨x,H,I1,ru,⟨rfl,λys hy=>by rw[I.M5 hy hq]; exact hx⟩,st',λb hb=>(hf b hb).1⟩⟩
 done:=by
  intro X hP hw hK hc i pins s σ H E I hf st hg
  subst hP hw hK
  obtain⟨xs,hq,hx⟩:=hg
  obtain⟨its,rv,p,hz⟩:=I.tuple hq
  obtain⟨f0,f1,f2,f3,f4,f5⟩:=hf it (by simp)
  have hl:=rv.length
  exact wpAny_pyNext_tuple_end (I.ok.hd hc) st (show s.heap.IsTuple a its.toArray from p) (by simp; lia) λh' eb=>⟨rfl,I.turned (t':=s.toks) (λb o hb e=>eb b o hb e) f0 f1 f3 f4 f5⟩
 self:=λ_ _ _ _ _ st h=>wpAny_pyIter_tupleiter st h
theorem abj{P:Program}{w:World}{K:PySem.W.Frag}{tg:Expr}(it:Addr)(lo:Int)(n:Nat):Turn P w K tg (xX lo n) [it] it (λi h=>IsRangeIter h it (lo+(i:Nat)*1) ((n:Int)-(i:Nat)) 1) where
 mem:=by simp
 obj:=λi h st b hb=>by
  have e:b=it:=by simpa using hb
  subst e
  exact⟨_,st,λv z=>by
   have z':Data.fields _=Data.cell v:=z
   cases z'⟩
 keep:=λi h h' st k=>k it (by simp) _ st
 item:=by
  intro X hP hw hK hc i pins s σ H E I hf st hg
  subst hP hw hK
  obtain⟨f0,f1,f2,f3,f4,f5⟩:=hf it (by simp)
  have W:=Walks.range (prog:=X.prog) (w:=X.w) (I.ok.hd hc) it lo 1 n
  refine W.item i s _ _ hg st λv h' tk hv st' kk=>?_
  obtain⟨t,rfl⟩:=hv
  have I1:Inv X pins σ H {s with heap:=h',toks:=tk }:=I.turned (λb o hb e=>kk b o (by simpa using hb) e) f0 f1 f3 f4 f5
  refine⟨_,rfl,Dk (s:={s with heap:=h',toks:=tk }) (n := "range_iterator") st' rfl rfl (by decide) ⟨.int (lo+i),H,I1,⟨t,?_⟩,⟨rfl,rfl⟩,st',λb hb=>(hf b hb).1⟩⟩
  rw[Int.mul_one]
 done:=by
  intro X hP hw hK hc i pins s σ H E I hf st hg
  subst hP hw hK
  obtain⟨f0,f1,f2,f3,f4,f5⟩:=hf it (by simp)
  exact wpAny_pyNext_range_end (I.ok.hd hc) st (by have:n<=i:=hg; lia) λh' eb=>⟨rfl,I.turned (t':=s.toks) (λb o hb e=>eb b o hb e) f0 f1 f3 f4 f5⟩
 self:=λ_ _ _ _ _ st h=>wpAny_pyIter_rangeiter st h
section
variable {X:Cx}{tg:Expr}
noncomputable def Nb(K:PySem.W.Frag)(tl:TE):TI:=λσ H R=>tl σ H λx H1=>∃a,x=.ref a/\(∃xs,aK K H1 a xs)/\R (Dl K a) H1
noncomputable def Nf(K:PySem.W.Frag)(tl:TE):TI:=λσ H R=>tl σ H λx H1=>∃a,x=.ref a/\(∃xs,bH K H1 a xs)/\R (Dm K a) H1
theorem abk{l:Expr}{tl:TE}(hl:PE X l tl):PI X tg l (Nb X.K tl):=by
 intro pins s σ H R I h
 refine aF (hl pins s σ H _ I h) λv s1 ⟨x,H1,I1,r1,q1⟩=>?_
 obtain⟨a,e,⟨xs,hq⟩,q⟩:=q1
 subst e
 cases r1
 obtain⟨its,rv,p,hz⟩:=I1.list hq
 refine wpAny_pyIter_list p.isList ?_
 refine⟨s1.heap.objs.size,[s1.heap.objs.size],_,_,H1,rfl,I1.kept (t':=s1.toks) λb o e=>Heap.get?_push_of_some _ e,abg a _,⟨_,Heap.get?_push_size _ rfl,rfl,rfl⟩,λb hb=>?_,q⟩
 have e:b=s1.heap.objs.size:=by simpa using hb
 subst e
 exact I1.jQ (Nat.le_refl _) (I1.hok.fresh (Nat.le_refl _))
theorem abl{l:Expr}{tl:TE}(hl:PE X l tl):PI X tg l (Nf X.K tl):=by
 intro pins s σ H R I h
 refine aF (hl pins s σ H _ I h) λv s1 ⟨x,H1,I1,r1,q1⟩=>?_
 obtain⟨a,e,⟨xs,hq⟩,q⟩:=q1
 subst e
 cases r1
 obtain⟨its,rv,p,hz⟩:=I1.tuple hq
 refine wpAny_pyIter_tuple (show s1.heap.IsTuple a its.toArray from p) ?_
 refine⟨s1.heap.objs.size,[s1.heap.objs.size],_,_,H1,rfl,I1.kept (t':=s1.toks) λb o e=>Heap.get?_push_of_some _ e,abh a _,⟨_,Heap.get?_push_size _ rfl,rfl,rfl⟩,λb hb=>?_,q⟩
 have e:b=s1.heap.objs.size:=by simpa using hb
 subst e
 exact I1.jQ (Nat.le_refl _) (I1.hok.fresh (Nat.le_refl _))
theorem abm{pins:List (Addr × Obj)}{σ : St}{H:Hp}{s:Shared}{R:It->Hp->Prop}{E:Value->Shared->Prop}{lo hi:Int}{t u v:Tok}{tk:Nat}(I:Inv X pins σ H s)(h1 : -(2 ^ 62)<=lo)(h2:lo<2 ^ 62)(h3 : -(2 ^ 62)<=hi)(h4:hi<2 ^ 62)
  (q:R (xX lo (hi-lo).toNat) H):wpAny (model X.prog X.w) X.A (pyIter (.ref s.heap.objs.size)) (PIE X pins σ tg R) E {s with heap:=s.heap.push {cls:=.type "range",data:=.fields #[.int lo t,.int hi u,.int 1 v] },toks:=tk }:=by
 refine wpAny_pyIter_range (IsRange.new ..) (small_one h1 h2 h3 h4) ?_
 have I1:Inv X pins σ H {s with heap:=s.heap.push {cls:=.type "range",data:=.fields #[.int lo t,.int hi u,.int 1 v] },toks:=tk }:=I.kept λb o e=>Heap.get?_push_of_some _ e
 refine⟨(s.heap.push {cls:=.type "range",data:=.fields #[.int lo t,.int hi u,.int 1 v] }).objs.size,[(s.heap.push {cls:=.type "range",data:=.fields #[.int lo t,.int hi u,.int 1 v] }).objs.size],_,_,H,rfl,
  I1.kept (t':=tk) λb o e=>Heap.get?_push_of_some _ e,abj _ lo (hi-lo).toNat,?_,λb hb=>?_,q⟩
 .have e1:lo+((0:Nat):Int)*1=lo:=by simp
  have e2:(((hi-lo).toNat:Nat):Int)-((0:Nat):Int)=Builtin.Range.rangeSize lo hi 1:=by rw[rangeSize_one]; split <;> lia
  show IsRangeIter _ _ (lo+((0:Nat):Int)*1) ((((hi-lo).toNat:Nat):Int)-((0:Nat):Int)) 1
  rw[e1,e2]
  exact Heap.get?_push_size _ rfl
 .have e:b=(s.heap.push {cls:=.type "range",data:=.fields #[.int lo t,.int hi u,.int 1 v] }).objs.size:=by simpa using hb
  subst e
  exact I1.jQ (Nat.le_refl _) (I1.hok.fresh (Nat.le_refl _))
noncomputable def abn(ta:TA):TI:=λσ H R=>ta σ H λvs H1=>∃j:Int,vs=[.int j] /\ -(2 ^ 62)<=j/\j<2 ^ 62/\R (xX 0 j.toNat) H1
theorem abo{a:Expr}{ta:TA}{p pos:Pos}(hg:Gl X "range") (hm:X.mg "range" = none) (ha:PA X [a] ta) (hs:starEach [a] X.env=[(false,eval a X.env)]:=by rfl):PI X tg (.Call (.Name "range" p) [a] [] pos) (abn ta):=by
 intro pins s σ H R I h
 refine Call_ (lK I hg hm boot_range (PyProof.Rows.callWith_type1 (aF (ha pos pins s σ H _ I h) λus s1 ⟨vs,H1,I1,r1,q1⟩=>?_) hs rfl))
 obtain⟨j,e,q1,q2,q⟩:=q1
 subst e
 cases r1 with
 |cons r rr =>
  cases rr
  obtain⟨t,rfl⟩:=r
  exact call_range_1 (abm I1 (by lia) (by lia) q1 q2 (by simpa using q))
noncomputable def abp(wi:TI)(g:TG)(tb:TS):TS:=λD σ H=>wi σ H λJ H1=>∃W:Nat->Nat->St->Hp->Prop,(∃m,W 0 m σ H1)/\∀i m σ H,W i m σ H ->
 (J.stop i H/\D.nx σ H)\/(J.go i H/\∃N:St->Hp->Prop,(∀σ' H',N σ' H'->∃m',m'<m/\W (i+1) m' σ' H')/\∀x H',J.jP i H x H'->g x σ H' λσ2 H2=>tb {D with nx:=N,ct:=N,bk:=D.nx } σ2 H2)
noncomputable def xY(fp:List Addr)(h:Heap):List (Addr × Obj):=fp.filterMap λb=>(h.get? b).map λo=>(b,o)
theorem kh(hb:b∈fp)(e:h.get? b=some o):(b,o)∈xY fp h:=List.mem_filterMap.mpr ⟨b,hb,by rw[e]; rfl⟩
theorem abq(hp:p∈xY fp h):p.1∈fp/\h.get? p.1=some p.2:=by
 obtain⟨b,hb,e⟩:=List.mem_filterMap.mp hp
 cases q:h.get? b with
 |none=>rw[q]at e; cases e
 |some o =>
  rw[q]at e
  have e':(b,o)=p:=Option.some.inj e
  subst e'
  exact⟨hb,q⟩
theorem Inv.pinned(I:Inv X pins σ H s)(hf:∀b∈fp,cg X pins H b)(ho:∀b∈fp,∃o,s.heap.get? b=some o/\∀v,o.data ≠ .cell v):Inv X (pins++xY fp s.heap) σ H s :=
 I.xU λp hp=>(List.mem_append.mp hp).elim (λz=>I.pin p (List.mem_append_right _ z)) λz=>by
  obtain⟨hb,e⟩:=abq z
  obtain⟨f0,f1,f2,_⟩:=hf p.1 hb
  obtain⟨o,e',d⟩:=ho p.1 hb
  rw[e]at e'; cases e'
  exact⟨e,f0,f1,f2,d⟩
theorem Inv.pJ(I:Inv X (pins++pl) σ H s):Inv X pins σ H s:=I.xU λp hp=>I.pin p (List.mem_append_right _ (List.mem_append_left _ hp))
theorem abr(hp:PassesOwn (model X.prog X.w) X.A X.env X.xe)(hc:X.calm=true)(hi:PI X tg iter wi)(hg:PG X tg g)(hb:dN X body tb)
  (hs:∀x,foldedSetIterable iter X.env x=pure x:=by intro _; rfl):PS X (.For tg iter body [] pos) (abp wi g tb):=by
 refine⟨λpins s σ H D I h=>?_⟩
 refine wpAny_For (aF (hi pins s σ H _ I h) λv s1 h1=>aF h1 λitv s2 h2=>?_) hs
 obtain⟨it,fp,tn,J,H2,e,I2,T,st2,f2,W,⟨m0,w0⟩,turn⟩:=h2
 subst e
 -- what stays true of the iterator's objects through the loop
 have stat:∀{H':Hp},(∀b∈fp,H' b=none)->∀b∈fp,cg X pins H' b:=λhn b hb=>⟨hn b hb,(f2 b hb).2⟩
 refine codeAny_forLoop_any (λn s'=>∃i σ' H',Inv X pins σ' H' s'/\tn i s'.heap/\(∀b∈fp,H' b=none)/\W i n σ' H') ?_ m0 ⟨0,σ,H2,I2,st2,λb hb=>(f2 b hb).1,w0⟩
 rintro n s3 ⟨i,σ3,H3,I3,st3,Ng,w3⟩
 rcases turn i n σ3 H3 w3 with⟨stop,qn⟩|⟨go,N,hN,step⟩
 .refine wpAny_passesOwn hp (aF (T.done X rfl rfl rfl hc i pins s3 σ3 H3 X.xe I3 (stat Ng) st3 stop) λr s4 ⟨hr,I4⟩=>?_)
  subst hr
  exact wpAny_execs_nil ⟨σ3,H3,I4,qn⟩
 .refine wpAny_passesOwn hp (aF (T.item X rfl rfl rfl hc i pins s3 σ3 H3 X.xe I3 (stat Ng) st3 go) λr s4 ⟨u,hr,h4⟩=>?_)
  subst hr
  refine wpAny_passesOwn hp (aF h4 λ_ s5 ⟨x,H5,I5,r5,y5,iw,kj⟩=>?_)
  have I5':=I5.pinned (stat kj) (T.obj _ _ iw)
  refine wpAny_passesOwn hp (aF (hg _ s5 σ3 H5 x u _ I5' r5 (step x H5 y5)) λ_ s6 ⟨σ6,H6,I6,q6⟩=>?_)
  refine wpAny_passesOwn hp (aF (hb _ s6 σ6 H6 _ I6 q6) λf s7 q7=>?_)
  have again:∀{σ7:St} {H7:Hp},Inv X (pins++xY fp s5.heap) σ7 H7 s7->N σ7 H7->∃m,m<n/\∃i σ' H',Inv X pins σ' H' s7/\tn i s7.heap/\(∀b∈fp,H' b=none)/\W i m σ' H':=λ{σ7 H7} I7 n7=>by
   obtain⟨m',hm,w7⟩:=hN σ7 H7 n7
   refine⟨m',hm,i+1,σ7,H7,I7.pJ,T.keep _ _ _ iw λb hb o e=>(I7.pin (b,o) (List.mem_append_right _ (List.mem_append_right _ (kh hb e)))).1,λb hb=>?_,w7⟩
   obtain⟨o,e,d⟩:=T.obj _ _ iw b hb
   exact(I7.pin (b,o) (List.mem_append_right _ (List.mem_append_right _ (kh hb e)))).2.1
  cases f with
  |next=>obtain⟨σ7,H7,I7,n7⟩:=q7; exact again I7 n7
  |cont=>obtain⟨σ7,H7,I7,n7⟩:=q7; exact again I7 n7
  |brk=>obtain⟨σ7,H7,I7,q7⟩:=q7; exact⟨σ7,H7,I7.pJ,q7⟩
  |ret v=>obtain⟨x7,σ7,H7,I7,r7,q7⟩:=q7; exact⟨x7,σ7,H7,I7.pJ,r7,q7⟩
end
noncomputable abbrev R2:=V->V->Hp->VK->Prop
noncomputable def bB(X:Cx)(f:Value->Value->Sem Value)(r:R2):Prop :=
 ∀(pins:List (Addr × Obj)) (s:Shared) (σ : St) (H:Hp) (x y:V) (v u:Value) (Q:VK),Inv X pins σ H s->RelV x v->RelV y u->r x y H Q ->
  wpAny (model X.prog X.w) X.A (f v u) (EP X pins σ Q) X.xe s
noncomputable def Dn(X:Cx)(f:Value->Sem Value)(r:V->Hp->VK->Prop):Prop :=
 ∀(pins:List (Addr × Obj)) (s:Shared) (σ : St) (H:Hp) (x:V) (v:Value) (Q:VK),Inv X pins σ H s->RelV x v->r x H Q ->
  wpAny (model X.prog X.w) X.A (f v) (EP X pins σ Q) X.xe s
noncomputable def gM(X:Cx)(f:Value)(r:List V->Hp->VK->Prop):Prop :=
 ∀(pins:List (Addr × Obj)) (s:Shared) (σ : St) (H:Hp) (xs:List V) (us:List Value) (Q:VK),Inv X pins σ H s->Vals xs us->r xs H Q ->
  wpAny (model X.prog X.w) X.A (call f us) (EP X pins σ Q) X.xe s
noncomputable def abt(X:Cx)(r:V->Hp->(Bool->Hp->Prop)->Prop):Prop :=
 ∀(pins:List (Addr × Obj)) (s:Shared) (σ : St) (H:Hp) (x:V) (v:Value) (Q:Bool->Hp->Prop),Inv X pins σ H s->RelV x v->r x H Q ->
  wpAny (model X.prog X.w) X.A (truthy v) (TP X pins σ Q) X.xe s
noncomputable def uP(r:R2)(ta tb:TE):TE:=λσ H Q=>ta σ H λx H1=>tb σ H1 λy H2=>r x y H2 Q
noncomputable def Nh(r:V->Hp->VK->Prop)(ta:TE):TE:=λσ H Q=>ta σ H λx H1=>r x H1 Q
noncomputable def rI(C:Int->Int->Prop)(g:Int->Int->V):R2:=λx y H Q=>∃i j,x=.int i/\y=.int j/\C i j/\Q (g i j) H
noncomputable def dW(g:Int->Int->V):R2:=λx y H Q=>∃i j,x=.int i/\y=.int j/\Q (g i j) H
noncomputable def rU(g:Int->V):V->Hp->VK->Prop:=λx H Q=>∃i,x=.int i/\Q (g i) H
section
variable {X:Cx}{a b c:Expr}{ta tb tc:TE}{pos:Pos}
theorem Dp(ha:PE X a ta)(hb:PE X b tb){pins:List (Addr × Obj)}{s:Shared}{σ : St}{H:Hp}{R:V->V->Hp->Prop}(I:Inv X pins σ H s)
  (h:ta σ H λx H1=>tb σ H1 λy H2=>R x y H2) {Q:Value->Shared->Prop} {f:Value->Value->Sem Value}
  (hf:∀v u s2 x y H2,Inv X pins σ H2 s2->RelV x v->RelV y u->R x y H2->wpAny (model X.prog X.w) X.A (f v u) Q X.xe s2) :
  wpAny (model X.prog X.w) X.A (eval a X.env) (λv s₁=>wpAny (model X.prog X.w) X.A (eval b X.env) (λu s₂=>wpAny (model X.prog X.w) X.A (f v u) Q X.xe s₂) X.xe s₁) X.xe s:=by
 refine aF (ha pins s σ H _ I h) λv s1 ⟨x,H1,I1,r1,q1⟩=>?_
 refine aF (hb pins s1 σ H1 _ I1 q1) λu s2 ⟨y,H2,I2,r2,q2⟩=>?_
 exact hf v u s2 x y H2 I2 r1 r2 q2
theorem xZ{op:Operator}{r:R2}(ho:bB X (binaryOp op) r)(ha:PE X a ta)(hb:PE X b tb):PE X (.BinOp a op b pos) (uP r ta tb):=by
 refine⟨λpins s σ H Q I h=>?_⟩
 exact wpAny_BinOp (Dp ha hb I h λv u s2 x y H2 I2 rx ry q=>ho pins s2 σ H2 x y v u Q I2 rx ry q)
theorem Dq(ho:Dn X (unaryOp op) r)(ha:PE X a ta):PE X (.UnaryOp op a pos) (Nh r ta):=by
 refine⟨λpins s σ H Q I h=>?_⟩
 exact UnaryOp_ (aF (ha pins s σ H _ I h) λv s1 ⟨x,H1,I1,r1,q1⟩=>ho pins s1 σ H1 x v Q I1 r1 q1)
theorem yc{f:Value->Value->Sem Value}{C:Int->Int->Prop}{g:Int->Int->Int}
  (rule:∀(i j:Int) (t u:Tok) (s:Shared) (Q:Value->Shared->Prop) (E:Value->Shared->Prop),C i j->Q (.int (g i j) s.toks) {s with toks:=s.toks+1 }->wpAny (model X.prog X.w) X.A (f (.int i t) (.int j u)) Q E s) :
  bB X f (rI C λi j=>.int (g i j)):=by
 intro pins s σ H x y v u Q I rx ry h
 obtain⟨i,j,rfl,rfl,hc,q⟩:=h
 obtain⟨t,rfl⟩:=rx
 obtain⟨t',rfl⟩:=ry
 exact rule i j t t' s _ _ hc ⟨.int (g i j),H,I.tok _,⟨_,rfl⟩,q⟩
theorem Ni{f:Value->Value->Sem Value}{g:Int->Int->Int}
  (rule:∀(i j:Int) (t u:Tok) (s:Shared) (Q:Value->Shared->Prop) (E:Value->Shared->Prop),Q (.int (g i j) s.toks) {s with toks:=s.toks+1 }->wpAny (model X.prog X.w) X.A (f (.int i t) (.int j u)) Q E s) :
  bB X f (dW λi j=>.int (g i j)):=by
 intro pins s σ H x y v u Q I rx ry h
 obtain⟨i,j,rfl,rfl,q⟩:=h
 obtain⟨t,rfl⟩:=rx
 obtain⟨t',rfl⟩:=ry
 exact rule i j t t' s _ _ ⟨.int (g i j),H,I.tok _,⟨_,rfl⟩,q⟩
theorem yd{f:Value->Value->Sem Value}{g:Int->Int->Bool}
  (rule:∀(i j:Int) (t u:Tok) (s:Shared) (Q:Value->Shared->Prop) (E:Value->Shared->Prop),Q (.bool (g i j)) s->wpAny (model X.prog X.w) X.A (f (.int i t) (.int j u)) Q E s) :
  bB X f (dW λi j=>.bl (g i j)):=by
 intro pins s σ H x y v u Q I rx ry h
 obtain⟨i,j,rfl,rfl,q⟩:=h
 obtain⟨t,rfl⟩:=rx
 obtain⟨t',rfl⟩:=ry
 exact rule i j t t' s _ _ ⟨.bl (g i j),H,I,rfl,q⟩
noncomputable def yg(i j:Int):Prop:=0<=j/\j<=1000000/\i.natAbs<2 ^ 64
noncomputable def Nj(i j:Int):Prop:=(-(2 ^ 64)<i/\i<2 ^ 64)\/(-(2 ^ 64)<j/\j<2 ^ 64)
theorem Nj.ok{i j:Int}(h:Nj i j):IntMulOk i j:=by
 rcases h with⟨h1,h2⟩|⟨h1,h2⟩
 .exact .of_left (intBits_le_64 h1 h2)
 .exact .of_right (intBits_le_64 h1 h2)
theorem Nk:bB X (binaryOp .Add) (dW λi j=>.int (i+j)):=Ni λ_ _ _ _ _ _ _ q=>add_int q
theorem Nm:bB X (binaryOp .Sub) (dW λi j=>.int (i-j)):=Ni λ_ _ _ _ _ _ _ q=>sub_int q
theorem abu:bB X (binaryOp .Mod) (rI (λ_ j=>j≠0) λi j=>.int (i.fmod j)):=yc λ_ _ _ _ _ _ _ hc q=>mod_int' hc q
theorem Np:bB X (binaryOp .Pow) (rI yg λi j=>.int (i ^ j.toNat)):=yc λ_ _ _ _ _ _ _ hc q=>pow_int_small hc.1 hc.2.1 hc.2.2 q
theorem unI{f:Value->Sem Value}{g:Int->Int}
  (rule:∀(i:Int) (t:Tok) (s:Shared) (Q:Value->Shared->Prop) (E:Value->Shared->Prop),Q (.int (g i) s.toks) {s with toks:=s.toks+1 }->wpAny (model X.prog X.w) X.A (f (.int i t)) Q E s) :
  Dn X f (rU λi=>.int (g i)):=by
 intro pins s σ H x v Q I rx h
 obtain⟨i,rfl,q⟩:=h
 obtain⟨t,rfl⟩:=rx
 exact rule i t s _ _ ⟨.int (g i),H,I.tok _,⟨_,rfl⟩,q⟩
theorem Dr:Dn X (unaryOp .USub) (rU λi=>.int (-i)):=unI λ_ _ _ _ _ q=>neg_int q
end
section
variable {X:Cx}{a b c:Expr}{ta tb tc:TE}{pos:Pos}
theorem Nq(I:Inv X pins σ H s)(q:Q (.bl k) H)(e:k=k'):EP X pins σ Q (.bool k') s:=by
 subst e
 exact⟨.bl k,H,I,rfl,q⟩
theorem abv:bB X (compareOp .Lt) (dW λi j=>.bl (decide (i<j))):=yd λ_ _ _ _ _ _ _ q=>lt_int q
theorem abw:bB X (compareOp .LtE) (dW λi j=>.bl (decide (i<=j))):=yd λ_ _ _ _ _ _ _ q=>le_int q
theorem abx:bB X (compareOp .Gt) (dW λi j=>.bl (decide (j<i))):=yd λ_ _ _ _ _ _ _ q=>gt_int q
theorem aby:bB X (compareOp .GtE) (dW λi j=>.bl (decide (j<=i))):=yd λ_ _ _ _ _ _ _ q=>ge_int q
theorem abz:bB X (compareOp .Is) (λx y H Q=>y=.non/\Q (.bl (decide (x=.non))) H):=by
 intro pins s σ H x y v u Q I rx ry h
 obtain⟨rfl,q⟩:=h
 cases ry
 refine is_none_gen (Nq I q ?_)
 cases x <;> first
  |(cases rx; rfl)
  |(obtain⟨t,rfl⟩:=rx; rfl)
theorem abA:bB X (compareOp .IsNot) (λx y H Q=>y=.non/\Q (.bl (!decide (x=.non))) H):=by
 intro pins s σ H x y v u Q I rx ry h
 obtain⟨rfl,q⟩:=h
 cases ry
 refine isnot_none_gen (Nq I q ?_)
 cases x <;> first
  |(cases rx; rfl)
  |(obtain⟨t,rfl⟩:=rx; rfl)
theorem bB.or(h:bB X f r)(h':bB X f r'):bB X f (λx y H Q=>r x y H Q\/r' x y H Q):=by
 intro pins s σ H x y v u Q I rx ry q
 rcases q with q|q
 .exact h pins s σ H x y v u Q I rx ry q
 .exact h' pins s σ H x y v u Q I rx ry q
theorem abB{op:CmpOp}{r:R2}(ho:bB X (compareOp op) r)(ha:PE X a ta)(hb:PE X b tb)(hm:behindInMarks op b=false):PE X (.Compare a [op] [b] pos) (uP r ta tb):=by
 refine⟨λpins s σ H Q I h=>?_⟩
 exact wpAny_Compare1 (Dp ha hb I h λv u s2 x y H2 I2 rx ry q=>ho pins s2 σ H2 x y v u Q I2 rx ry q) hm
noncomputable def nF(t:TE):TT:=λσ H Q=>t σ H λx H'=>∃k,x=.bl k/\Q k H'
theorem abC(ho:bB X (compareOp op) r)(ha:PE X a ta)(hb:PE X b tb)(hm:behindInMarks op b=false):PT X (.Compare a [op] [b] pos) (nF (uP r ta tb)):=by
 refine⟨λpins s σ H Q I h=>?_⟩
 refine wpAny_isTrue_Compare1 (aF (ha pins s σ H _ I h) λv s1 ⟨x,H1,I1,r1,q1⟩=>aF (hb pins s1 σ H1 _ I1 q1) λu s2 ⟨y,H2,I2,r2,q2⟩ =>
  aF (ho pins s2 σ H2 x y v u _ I2 r1 r2 q2) λc s3 ⟨z,H3,I3,r3,k,e,q3⟩=>?_) hm
 subst e
 cases r3
 exact wpAny_truthy_bool ⟨H3,I3,q3⟩
noncomputable def Ds(r r':R2)(ta tb tc:TE):TE:=λσ H Q=>ta σ H λx H1=>tb σ H1 λy H2=>r x y H2 λz H3=>∃k,z=.bl k /\
 (if k=true then tc σ H3 λw' H4=>r' y w' H4 Q else Q (.bl false) H3)
theorem abD(ho:bB X (compareOp op) r)(ho':bB X (compareOp op') r')(ha:PE X a ta)(hb:PE X b tb)(hc:PE X c tc)
  (hm:lastMarks [op,op'] [b,c]=false:=by with_unfolding_all rfl):PE X (.Compare a [op,op'] [b,c] pos) (Ds r r' ta tb tc):=by
 refine⟨λpins s σ H Q I h=>?_⟩
 refine Compare_chain (aF (ha pins s σ H _ I h) λv s1 ⟨x,H1,I1,r1,q1⟩=>chain_link (aF (hb pins s1 σ H1 _ I1 q1) λu s2 ⟨y,H2,I2,r2,q2⟩ =>
  aF (ho pins s2 σ H2 x y v u _ I2 r1 r2 q2) λd s3 ⟨z,H3,I3,r3,k,e,q3⟩=>?_)) hm
 subst e
 cases r3
 refine wpAny_truthy_bool ?_
 cases k with
 |false=>exact ite_ff ⟨.bl false,H3,I3,rfl,q3⟩
 |true=>exact ite_tt (chain_last (aF (hc pins s3 σ H3 _ I3 q3) λw' s4 ⟨z',H4,I4,r4,q4⟩=>ho' pins s4 σ H4 y z' u w' Q I4 r2 r4 q4))
theorem abE(ho:bB X (compareOp op) r)(ho':bB X (compareOp op') r')(ha:PE X a ta)(hb:PE X b tb)(hc:PE X c tc)
  (hm:lastMarks [op,op'] [b,c]=false:=by with_unfolding_all rfl):PT X (.Compare a [op,op'] [b,c] pos) (nF (Ds r r' ta tb tc)):=by
 refine⟨λpins s σ H Q I h=>?_⟩
 refine isTrue_chain (aF (ha pins s σ H _ I h) λv s1 ⟨x,H1,I1,r1,q1⟩=>test_link (aF (hb pins s1 σ H1 _ I1 q1) λu s2 ⟨y,H2,I2,r2,q2⟩ =>
  aF (ho pins s2 σ H2 x y v u _ I2 r1 r2 q2) λd s3 ⟨z,H3,I3,r3,k,e,q3⟩=>?_)) hm
 subst e
 cases r3
 refine wpAny_truthy_bool ?_
 cases k with
 |false =>
  obtain⟨k',e',q'⟩:=q3
  cases e'
  exact ite_ff ⟨H3,I3,q'⟩
 |true =>
  refine ite_tt (test_last (aF (hc pins s3 σ H3 _ I3 q3) λw' s4 ⟨z',H4,I4,r4,q4⟩=>aF (ho' pins s4 σ H4 y z' u w' _ I4 r2 r4 q4) λd' s5 ⟨z2,H5,I5,r5,k2,e2,q5⟩=>?_))
  subst e2
  cases r5
  exact wpAny_truthy_bool ⟨H5,I5,q5⟩
noncomputable def Dt(K:PySem.W.Frag)(x:V)(H:Hp)(k:Bool):Prop :=
 match x with
 |.non=>k=false
 |.bl b=>k=b
 |.int i=>k=(i != 0)
 |.str y=>y.length<=sizeLine/\k=((y.length:Int) != 0)
 |.uK y=>y.size<=sizeLine/\k=((y.size:Int) != 0)
 |.ref p=>(∃xs,aK K H p xs/\k = !xs.isEmpty)\/(∃xs,bH K H p xs/\k = !xs.isEmpty)
 |_=>False
theorem Nr{xs:List V}{its:List Value}(r:Vals xs its):(!its.toArray.isEmpty) = !xs.isEmpty:=by
 cases r <;> simp
theorem pK:(sizeLine:Nat)<2 ^ 63:=by rw[sizeLine_eq]; decide
theorem abF:abt X (λx H Q=>∃k,Dt X.K x H k/\Q k H):=by
 intro pins s σ H x v Q I rx h
 obtain⟨k,e,q⟩:=h
 have hl:=pK
 have hs:sizeLine=16777216:=sizeLine_eq
 cases x with
 |non =>
  cases rx
  have e':k=false:=e
  subst e'
  exact truthy_none ⟨H,I,q⟩
 |bl b =>
  cases rx
  have e':k=b:=e
  subst e'
  exact wpAny_truthy_bool ⟨H,I,q⟩
 |int i =>
  obtain⟨t,rfl⟩:=rx
  have e':k=(i != 0):=e
  subst e'
  exact PySem.P.truthy_int ⟨H,I,q⟩
 |str y =>
  obtain⟨t,rfl⟩:=rx
  obtain⟨hy,e'⟩:y.length<=sizeLine/\k=((y.length:Int) != 0):=e
  subst e'
  exact PySem.P.truthy_str (by lia) ⟨H,I.tok _,q⟩
 |uK y =>
  obtain⟨t,rfl⟩:=rx
  obtain⟨hy,e'⟩:y.size<=sizeLine/\k=((y.size:Int) != 0):=e
  subst e'
  exact PySem.W.truthy_bytes (by lia) ⟨H,I.tok _,q⟩
 |ref p =>
  cases rx
  have e':(∃xs,aK X.K H p xs/\k = !xs.isEmpty)\/(∃xs,bH X.K H p xs/\k = !xs.isEmpty):=e
  rcases e' with⟨xs,hx,e'⟩|⟨xs,hx,e'⟩
  .subst e'
   obtain⟨its,r,pl,hz⟩:=I.list hx
   have hlen:=r.length
   exact wpAny_truthy_list pl.isList (by simp only[List.size_toArray]; lia) ⟨H,I.tok _,by rw[Nr r]; exact q⟩
  .subst e'
   obtain⟨its,r,pl,hz⟩:=I.tuple hx
   have hlen:=r.length
   exact truthy_tuple pl (by simp only[List.size_toArray]; lia) ⟨H,I.tok _,by rw[Nr r]; exact q⟩
 |_=>exact(show False from e).elim
theorem abG(ha:PE X a ta)(he:∀whole,isTrue a X.env whole=(do let v <-whole; standAt a.pos; holding [v] (truthy v))) :
  PT X a (λσ H Q=>ta σ H λx H'=>∃k,Dt X.K x H' k/\Q k H'):=by
 refine⟨λpins s σ H Q I h=>?_⟩
 exact isTrue_plain (aF (ha pins s σ H _ I h) λv s1 ⟨x,H1,I1,r1,q1⟩=>abF pins s1 σ H1 x v Q I1 r1 q1) (he _)
theorem abH:bB X (binaryOp .Add) (λx y H Q=>∃i j,x=.str i/\y=.str j/\i.length+j.length<=sizeLine/\Q (.str (i++j)) H):=by
 intro pins s σ H x y v u Q I rx ry h
 obtain⟨i,j,rfl,rfl,hz,q⟩:=h
 obtain⟨t,rfl⟩:=rx
 obtain⟨t',rfl⟩:=ry
 exact add_str (λt' tk=>⟨.str (i++j),H,I.tok _,⟨_,rfl⟩,q⟩) hz
theorem vals1(r:Vals [x] us):∃u,us=[u]/\RelV x u:=by
 cases r with
 |cons r1 r2=>cases r2; exact⟨_,rfl,r1⟩
theorem vals2(r:Vals [x,y] us):∃u w',us=[u,w']/\RelV x u/\RelV y w':=by
 cases r with
 |cons r1 r2 =>
  cases r2 with
  |cons r3 r4=>cases r4; exact⟨_,_,rfl,r1,r3⟩
theorem abI:gM X (.builtin "abs") (λxs H Q=>∃i,xs=[.int i]/\Q (.int (if i<0 then -i else i)) H):=by
 intro pins s σ H xs us Q I r h
 obtain⟨i,rfl,q⟩:=h
 obtain⟨u,rfl,t,rfl⟩:=vals1 r
 exact call_abs_int λu tk=>⟨.int (if i<0 then -i else i),H,I.tok _,⟨_,rfl⟩,q⟩
end
structure Cls(K:PySem.W.Frag)(C:Addr):Prop where
 pg:PySem.W.plainGet K C Str.empty=true
 hd:PySem.W.hasDictIn K C=true
 po:PySem.W.plainOver K C=true
 sa:PySem.W.findIn K (.ref C) "__setattr__" = some (some (.builtin "object.__setattr__"))
theorem Cls.get{K:PySem.W.Frag}{C:Addr}(c:Cls K C)(f:Str):PySem.W.plainGet K C f=true:=c.pg
structure dg(k:Nat)(A:Around):Prop where
 hd:A.handled=none
 dp:A.depth+3*k+5<recursionLimit
 un:A.units+16*k+200<cLine
 gd:A.guards=some []:=by rfl
theorem dg.mono(r:dg k A)(h:j<=k):dg j A:=⟨r.hd,by have:=r.dp; lia,by have:=r.un; lia,r.gd⟩
theorem dg.deeper(r:dg (k+1) A)(env:Env):dg k (A.deeper env) :=
 ⟨r.hd,by have:=r.dp; show A.depth+1+3*k+5<_; lia,by have:=r.un; show A.units+3+16*k+200<_; lia,r.gd⟩
theorem dg.in1(r:dg (k+1) A):dg k A.in1 :=
 ⟨r.hd,by have:=r.dp; show A.depth+3*k+5<_; lia,by have:=r.un; show A.units+1+16*k+200<_; lia,r.gd⟩
theorem dg.depth(r:dg k A):A.depth<recursionLimit:=by have:=r.dp; lia
theorem dg.units(r:dg k A):A.units+64<cLine:=by have:=r.un; lia
noncomputable def Nt:TA:=λ_ H Q=>Q [] H
noncomputable def Du(ta:TE)(tr:TA):TA:=λσ H Q=>ta σ H λx H1=>tr σ H1 λxs H2=>Q (x::xs) H2
section
variable {X:Cx}{e:Expr}{es:List Expr}{te:TE}{t:TA}{pos:Pos}
theorem uQ:PA X [] Nt:=⟨λ_ _ _ _ H Q I h=>Calls.spliced_nil ⟨[],H,I,.nil,h⟩⟩
theorem pL(ha:PE X e te)(hr:PA X es t)(hs:starEach (e::es) X.env=(false,eval e X.env)::starEach es X.env:=by rfl):PA X (e::es) (Du te t):=by
 refine⟨λpos pins s σ H Q I h=>?_⟩
 rw[hs]
 show wpAny _ _ (spliced ((false,eval e X.env)::backTo pos (starEach es X.env))) _ _ s
 refine Calls.spliced_cons (aF (ha pins s σ H _ I h) λu s1 ⟨x,H1,I1,r1,q1⟩=>?_)
 exact aF (hr pos pins s1 σ H1 _ I1 q1) λus s2 ⟨xs,H2,I2,r2,q2⟩=>⟨x::xs,H2,I2,.cons r1 r2,q2⟩
noncomputable def abJ(t:TA):TE:=λσ H Q=>t σ H λxs H1=>xs.length<=sizeLine/\∀p,H1 p=none->Q (.ref p) (upd H1 p (.tup xs))
noncomputable def abK(t:TA):TE:=λσ H Q=>t σ H λxs H1=>xs.length<=sizeLine/\∀p,H1 p=none->Q (.ref p) (upd H1 p (.lst xs))
theorem Dv{x1}(h:PA X es t):PE X (.Tuple es x1 pos) (abJ t):=by
 refine⟨λpins s σ H Q I hq=>?_⟩
 refine wpAny_Tuple_spliced (aF (h pos pins s σ H _ I hq) λus s1 ⟨xs,H1,I1,r,z,q⟩=>⟨by rw[<-r.length]; exact z,?_⟩)
 have hf:H1 s1.heap.objs.size=none:=I1.hok.fresh (Nat.le_refl _)
 refine⟨.ref s1.heap.objs.size,upd H1 s1.heap.objs.size (.tup xs),I1.laid (t':=s1.toks) (λb u e=>Heap.get?_push_of_some _ e) (Nat.le_refl _) ?_,rfl,q _ hf⟩
 exact⟨z,us,r,⟨_,Heap.get?_push_size _ rfl,rfl,_,rfl⟩⟩
theorem Nu(h:PA X es t):PE X (.List es pos) (abK t):=by
 refine⟨λpins s σ H Q I hq=>?_⟩
 refine wpAny_List_spliced (aF (h pos pins s σ H _ I hq) λus s1 ⟨xs,H1,I1,r,z,q⟩=>⟨by rw[<-r.length]; exact z,?_⟩)
 have hf:H1 s1.heap.objs.size=none:=I1.hok.fresh (Nat.le_refl _)
 refine⟨.ref s1.heap.objs.size,upd H1 s1.heap.objs.size (.lst xs),I1.laid (t':=s1.toks) (λb u e=>Heap.get?_push_of_some _ e) (Nat.le_refl _) ?_,rfl,q _ hf⟩
 exact⟨z,us,0,r,Heap.get?_push_size _ rfl⟩
end
noncomputable abbrev Sp:=List V->Hp->VK->XK->Prop
noncomputable abbrev gO:=List Env->Hp->Shared->XK->Value->Shared->Prop
structure pN(P:Program)(w:World)(K:PySem.W.Frag)(mg:Str->Option Value)(base:Heap)(A:Around)(outer:List Env)(s:Shared)(H:Hp):Prop where
 frames:A.frames=some outer
 mod:Mod K mg base
 bs:∀b o,base.get? b=some o->s.heap.get? b=some o/\H b=none
 j9:base.objs.size<=s.heap.objs.size
 jf:s.heap.FunFrames base outer
 nj:∀b∈frs outer,H b=none
 hok:cQ P w H s.heap
 bare:AllBare s.gens
noncomputable def CE(outer:List Env)(P:Program)(w:World)(H:Hp)(s:Shared)(Q:VK)(u:Value)(s':Shared):Prop :=
 ∃v H',s'.os=s.os/\AllBare s'.gens/\Un (frs outer) [] H H' s.heap s'.heap/\cQ P w H' s'.heap/\RelV v u/\Q v H'
noncomputable def CR(CX:gO)(outer:List Env)(P:Program)(w:World)(H:Hp)(s:Shared)(Q:VK)(E:XK)(r:Result)(s':Shared):Prop :=
 match r with
 |.ok (.ret u)=>CE outer P w H s Q u s'
 |.ok _=>False
 |.error e=>CX outer H s E e s'
structure gP(P:Program)(w:World)(K:PySem.W.Frag)(mg:Str->Option Value)(base:Heap)(CX:gO)(k:Nat)(f:Addr)(fd:FuncData)(ps:List Str)(sp:Sp):Prop where
 len:∀vs H Q E,sp vs H Q E->vs.length=ps.length
 run:∀(A:Around) (outer:List Env) (s:Shared) (H:Hp) (args:Args) (us:List Value) (vs:List V) (Q:VK) (E:XK),dg k A->pN P w K mg base A outer s H->BindsTo s fd args (ps.zip us)->Vals vs us->sp vs H Q E ->
  codeAny (model P w) A (.call (.ref f) args) (CR CX outer P w H s Q E) s
theorem gP.mono{P:Program}{w:World}{K:PySem.W.Frag}{mg:Str->Option Value}{base:Heap}{CX:gO}{j k:Nat}{f:Addr}{fd:FuncData}{ps:List Str}{sp:Sp}(F:gP P w K mg base CX j f fd ps sp)(h:j<=k) :
  gP P w K mg base CX k f fd ps sp:=⟨F.len,λA outer s H args us vs Q E hr=>F.run A outer s H args us vs Q E (hr.mono h)⟩
theorem gP.imp{P:Program}{w:World}{K:PySem.W.Frag}{mg:Str->Option Value}{base:Heap}{CX:gO}{k:Nat}{f:Addr}{fd:FuncData}{ps:List Str}{sp Nv:Sp}(F:gP P w K mg base CX k f fd ps sp)
  (h:∀vs H Q E,Nv vs H Q E->sp vs H Q E):gP P w K mg base CX k f fd ps Nv :=
 ⟨λvs H Q E q=>F.len vs H Q E (h _ _ _ _ q),λA outer s H args us vs Q E hr he hb hv hs=>F.run A outer s H args us vs Q E hr he hb hv (h _ _ _ _ hs)⟩
theorem pN.in1{P:Program}{w:World}{K:PySem.W.Frag}{mg:Str->Option Value}{base:Heap}{A:Around}{outer:List Env}{s:Shared}{H:Hp}(e:pN P w K mg base A outer s H) :
  pN P w K mg base A.in1 outer s H:=⟨e.frames,e.mod,e.bs,e.j9,e.jf,e.nj,e.hok,e.bare⟩
section
variable {X:Cx}{pins:List (Addr × Obj)}{σ : St}{H:Hp}{s s':Shared}
theorem Inv.env0(I:Inv X pins σ H s):pN X.prog X.w X.K X.mg X.base X.A X.stack s H :=
 ⟨I.ok.frames,I.ok.mod,I.bs,Nat.le_trans I.ok.j9 I.sz,I.stack,I.xQ,I.hok,I.bare⟩
theorem Inv.after(I:Inv X pins σ H s)(h:CE X.stack X.prog X.w H s Q u s'):EP X pins σ Q u s':=by
 obtain⟨v,H',os,bare,un,hok,r,q⟩:=h
 obtain⟨hh,g,d,t,os'⟩:=s'
 obtain rfl:os'=s.os:=os
 exact⟨v,H',I.call (h':=hh) (g':=g) (d':=d) (t':=t) (ch:=[]) un hok bare (λb z=>absurd z (by simp)),r,q⟩
end
noncomputable def Nx(sp:Sp)(nH:List V)(E:XK)(t:TA):TE:=λσ H Q=>t σ H λvs H1=>sp (vs++nH) H1 Q E
noncomputable def Binds(K:PySem.W.Frag)(fd:FuncData)(ps:List Str)(ds:List Value):Prop :=
 ∀(s:Shared) (us:List Value),K.In s.heap->(us++ds).length=ps.length->BindsTo s fd ⟨us,[]⟩ (ps.zip (us++ds))
theorem Binds.all{K:PySem.W.Frag}{fd:FuncData}{ps:List Str}(h:∀us:List Value,us.length=ps.length->bindArgs fd ⟨us,[]⟩=pure (ps.zip us)):Binds K fd ps []:=λs us _ hl=>by
 rw[List.append_nil]at hl ⊢
 exact .of_eq (h us hl)
noncomputable def Passes(CX:gO)(X:Cx)(E:XK):Prop:=∀(pins:List (Addr × Obj)) (σ : St) (H:Hp) (s:Shared) (e:Value) (s':Shared),Inv X pins σ H s->CX X.stack H s E e s'->X.xe e s'
section
variable {X:Cx}{CX:gO}{k:Nat}{f C:Addr}{fd:FuncData}{ps:List Str}{sp:Sp}{nH:List V}{ds:List Value}{E:XK}{x m:Str}{p pos apos:Pos}{e o:Expr}{es:List Expr}{ta:TE}{t:TA}
theorem abL(F:gP X.prog X.w X.K X.mg X.base CX k f fd ps sp)(hr:dg k X.A)(hb:Binds X.K fd ps ds)(hd:Vals nH ds)(hx:Passes CX X E)
  (I:Inv X pins σ H s) (r:Vals vs us) (h:sp (vs++nH) H Q E):wpAny (model X.prog X.w) X.A (call (.ref f) us) (EP X pins σ Q) X.xe s:=by
 have r2:Vals (vs++nH) (us++ds):=r.append hd
 have hl:(us++ds).length=ps.length:=by rw[<-r2.length]; exact F.len _ _ _ _ h
 refine wpAny_call (codeAny_mono (F.run X.A X.stack s H ⟨us,[]⟩ (us++ds) (vs++nH) Q E hr I.env0 (hb s us I.iB hl) r2 h) λr s' hq=>?_)
 cases r with
 |error e=>exact hx pins σ H s e s' I hq
 |ok fl =>
  cases fl with
  |ret u=>exact I.after hq
  |next=>exact False.elim hq
  |brk=>exact False.elim hq
  |cont=>exact False.elim hq
theorem abM(F:gP X.prog X.w X.K X.mg X.base CX k f fd ps sp)(hr:dg k X.A)(hg:Gl X x)(hm:X.mg x=some (.ref f))(hk:PySem.W.keepIn X.K (.ref f)=true)(hb:Binds X.K fd ps ds)(hd:Vals nH ds)(hx:Passes CX X E)
  (ha:PA X (e::es) t) (hdb:(x == ("__debug__" : Str))=false:=by decide) (he:starEach (e::es) X.env=(false,eval e X.env)::starEach es X.env:=by rfl) (hpl:(backTo pos (starEach es X.env)).any (·.1)=false:=by rfl) :
  PE X (.Call (.Name x p) (e::es) [] pos) (Nx sp nH E t):=by
 refine⟨λpins s σ H Q I h=>?_⟩
 refine wpAny_Call_Name_kw (Dg I hg hm ?_ hdb)
 refine PySem.W.callWith_K (h₀ := X.base) I.ok.mod.Dc hk (aF (ha pos pins s σ H _ I h) λus s1 ⟨vs,H1,I1,r,q⟩=>⟨I1.iB,?_⟩) he hpl
 exact abL F hr hb hd hx I1 r q
end
structure pO(N P:List Str)(sc:Scope):Prop where
 kind:sc.kind=.function
 co:sc.isCoroutine=false
 gen:sc.isGenerator=false
 nd:N.Nodup
 pre:N.take P.length=P
 par:∀x∈P,sc.names.lookup x=some .local\/sc.names.lookup x=some .cell
 abN:∀y∈sc.names,y.2 ≠ .free
theorem Ny{kindOf:Str->Option NameKind}{x:Str}:∀{binds:List (Str × Value)} {m:Str->Option Value},(∀v,(x,v)∉binds)->bindL kindOf binds m x=m x
 | [],_,_=>rfl
 |(n,v)::r,m,h=>by
  unfold bindL
  rw[Ny λw hw=>h w (List.mem_cons_of_mem _ hw)]
  split
  .have:x≠n:=by rintro rfl; exact h v List.mem_cons_self
   simp[this]
  .rfl
theorem Nz{kindOf:Str->Option NameKind}{x:Str}:∀{binds:List (Str × Value)} {m:Str->Option Value},(∀v,(x,v)∉binds)->bindC kindOf binds m x=m x
 | [],_,_=>rfl
 |(n,v)::r,m,h=>by
  unfold bindC
  rw[Nz λw hw=>h w (List.mem_cons_of_mem _ hw)]
  split
  .rfl
  .have:x≠n:=by rintro rfl; exact h v List.mem_cons_self
   simp[this]
theorem NK{kindOf:Str->Option NameKind}{x:Str}{v:Value}:∀{P:List Str} {vs:List Value} {i:Nat} {m:Str->Option Value},P.Nodup->P[i]?=some x->vs[i]?=some v->kindOf x=some .local ->
  bindL kindOf (P.zip vs) m x=some v
 | [],_,_,_,_,h,_,_=>by simp at h
 |_::_,[],_,_,_,_,h,_=>by simp at h
 |p::P,w::vs,0,m,nd,h1,h2,hk=>by
  simp at h1 h2; subst h1; subst h2
  show bindL kindOf ((p,w)::P.zip vs) m p=_
  unfold bindL
  rw[Ny λv hv=>(List.nodup_cons.mp nd).1 (List.of_mem_zip hv).1,if_pos hk]
  simp
 |p::P,w::vs,i+1,m,nd,h1,h2,hk=>by
  show bindL kindOf ((p,w)::P.zip vs) m x=_
  unfold bindL
  exact NK (i:=i) (List.nodup_cons.mp nd).2 (by simpa using h1) (by simpa using h2) hk
theorem NP{kindOf:Str->Option NameKind}{x:Str}{v:Value}:∀{P:List Str} {vs:List Value} {i:Nat} {m:Str->Option Value},P.Nodup->P[i]?=some x->vs[i]?=some v->kindOf x≠some .local ->
  bindC kindOf (P.zip vs) m x=some v
 | [],_,_,_,_,h,_,_=>by simp at h
 |_::_,[],_,_,_,_,h,_=>by simp at h
 |p::P,w::vs,0,m,nd,h1,h2,hk=>by
  simp at h1 h2; subst h1; subst h2
  show bindC kindOf ((p,w)::P.zip vs) m p=_
  unfold bindC
  rw[Nz λv hv=>(List.nodup_cons.mp nd).1 (List.of_mem_zip hv).1,if_neg hk]
  simp
 |p::P,w::vs,i+1,m,nd,h1,h2,hk=>by
  show bindC kindOf ((p,w)::P.zip vs) m x=_
  unfold bindC
  exact NP (i:=i) (List.nodup_cons.mp nd).2 (by simpa using h1) (by simpa using h2) hk
noncomputable def start(N:List Str)(vs:List V):St:=vs.map some++List.replicate (N.length-vs.length) none
noncomputable def iC(CX:gO)(P:Program)(w:World)(K:PySem.W.Frag)(mg:Str->Option Value)(base:Heap)(N:List Str)(qual:Str)(scope:Scope)(f:Addr)(cd:Value)(A:Around)(outer:List Env)(s:Shared)(H:Hp)(E:XK):Cx where
 prog:=P
 w:=w
 K:=K
 mg:=mg
 base:=base
 A:=A.deeper (envOfC qual scope s.heap.objs.size f cd)
 N:=N
 s₀ := s
 H₀ := H
 env:=envOfC qual scope s.heap.objs.size f cd
 outer:=outer
 stack:=envOfC qual scope s.heap.objs.size f cd::outer
 ex:=[]
 calm:=true
 fn:=λ_=>true
 pn:=[]
 xe:=λe s'=>wpAny (model P w) (A.deeper (envOfC qual scope s.heap.objs.size f cd)) (leaving (envOfC qual scope s.heap.objs.size f cd) e) (λ_ s''=>CX outer H s E e s'') (λe' s''=>CX outer H s E e' s'') s'
theorem NQ{sc:Scope}{n:Nat}{x:Str}(h:sc.names.lookup x=some .cell):∃c,(cellsFrom n sc.names []).lookup x=some c:=by
 have q:=PySem.W.cellsFrom_some sc.names n [] (.inl h)
 exact Option.isSome_iff_exists.mp q
theorem abO{CX:gO}{P:Program}{w:World}{K:PySem.W.Frag}{mg:Str->Option Value}{base:Heap}{N ps:List Str}{qual:Str}{scope:Scope}{f:Addr}{cd:Value}{A:Around}{outer:List Env}{s s1:Shared}{H:Hp}{E:XK}{us:List Value}{vs:List V}
  (S:pO N ps scope) (hd:A.handled=none) (e0:pN P w K mg base A outer s H) (hl:vs.length=ps.length) (r:Vals vs us)
  (x:InCallC s s.heap.objs.size (bindL (envOfC qual scope s.heap.objs.size f cd).kindOf (ps.zip us) λ_=>none) (cellsFrom (s.heap.objs.size+1) scope.names []) (bindC (envOfC qual scope s.heap.objs.size f cd).kindOf (ps.zip us) λ_=>none) s1) :
  Inv (iC CX P w K mg base N qual scope f cd A outer s H E) [] (start N vs) H s1:=by
 have hpl:ps.length<=N.length:=by have:=congrArg List.length S.pre; rw[List.length_take]at this; lia
 obtain⟨h1,tk,rfl,hk⟩:=x.done
 have uR:∀b:Addr,b∉(iC CX P w K mg base N qual scope f cd A outer s H E).ex:=λb z=>absurd (show b∈([]:List Addr)from z) (by simp)
 refine⟨⟨e0.mod,S.kind,rfl,rfl,Nat.le_refl _,λy z c h1 h2=>?_,λy hy=>?_,λy c _ h=>?_,λ_=>hd,Around.frames_deeper e0.frames,.inr ⟨rfl,rfl⟩,λb z=>absurd z (uR b),e0.bs,e0.j9,λb _ _=>uR b,λb z=>absurd z (uR b),e0.jf,e0.nj⟩,
  rfl,e0.bare,Un.kept hk,⟨_,x.toInCall.ns,λi y v h1 h2 h3=>?_⟩,λy c h=>⟨_,x.cell y c h⟩,e0.hok.fresh (Nat.le_refl _),λy c h=>?_,λp hp=>absurd (show p∈([]:List (Addr × Obj))from hp) (by simp),e0.hok.kept hk,?_⟩
 .exact name_of_addr x.apart (PySem.mem_of_lookup h1) (PySem.mem_of_lookup h2)
 .have hy:scope.names.lookup y=some .cell\/scope.names.lookup y=some .free:=hy
  rcases hy with hy|hy
  .exact NQ hy
  .exact absurd rfl (S.abN _ (PySem.mem_of_lookup hy))
 .exact Nat.le_of_lt (x.above y c (PySem.mem_of_lookup h))
 .have hi:i<vs.length:=by
   unfold start at h2
   by_cases hi:i<vs.length
   .exact hi
   .rw[List.getElem?_append_right (by simpa using hi)]at h2
    rw[List.getElem?_replicate]at h2
    split at h2 <;> cases h2
  have ha:vs[i]?=some v:=by
   unfold start at h2
   rw[List.getElem?_append_left (by simpa using hi),List.getElem?_map]at h2
   cases e:vs[i]? with
   |none=>rw[e]at h2; cases h2
   |some a=>rw[e]at h2; cases h2; rfl
  obtain⟨u,hu,rv⟩:=r.get ha
  have hp:ps[i]?=some y:=by
   rw[<-S.pre,List.getElem?_take_of_lt (by lia)]; exact h1
  have NT:ps.Nodup:=by rw[<-S.pre]; exact S.nd.sublist (List.take_sublist _ _)
  refine⟨u,rv,?_⟩
  rcases S.par y (List.mem_of_getElem? hp)with k|k
  .exact .inl ⟨k,NK NT hp hu k⟩
  .obtain⟨c,e⟩:=NQ (n:=s.heap.objs.size+1) k
   refine .inr ⟨.inl k,c,e,?_⟩
   have q:=x.cell y c e
   rw[NP NT hp hu (by show scope.names.lookup y≠_; rw[k]; decide)]at q
   exact q
 .exact e0.hok.fresh (Nat.le_of_lt (x.above y c (PySem.mem_of_lookup h)))
 .unfold start
  show _=N.length
  rw[List.length_append,List.length_map,List.length_replicate]
  lia
theorem Dw{CX:gO}{P:Program}{w:World}{K:PySem.W.Frag}{mg:Str->Option Value}{base:Heap}{k:Nat}{f:Addr}{name qual:Str}{params:Arguments}{body:List Stmt}{scope:Scope}{dV kV doc pm cdv ct oc:Value}{an od:Option Addr}
  {osl:Array (Option Value)} {N ps:List Str} {sp:Sp} (lk:K.lookup f=some ⟨oc,od,.func (PySem.W.fnOf name qual params body scope dV kV doc pm an cdv ct),osl⟩) (hcd:PySem.W.codeIn K cdv qual=true) (S:pO N ps scope)
  (len:∀vs H Q E,sp vs H Q E->vs.length=ps.length)
  (hbody:∀(A:Around) (outer:List Env) (s:Shared) (H:Hp) (vs:List V) (Q:VK) (E:XK),dg k (A.deeper (envOfC qual scope s.heap.objs.size f cdv))->sp vs H Q E ->
   ∃t,dN (iC CX P w K mg base N qual scope f cdv A outer s H E) body t/\t {nx:=λ_ H'=>Q .non H',rt:=Q } (start N vs) H) :
  gP P w K mg base CX (k+1) f (PySem.W.fnOf name qual params body scope dV kV doc pm an cdv ct) ps sp:=by
 refine⟨len,λA outer s H args us vs Q E hr e0 hb r hsp=>?_⟩
 have hl:=len _ _ _ _ hsp
 have KX:K.In s.heap:=e0.mod.Dc.keeps λb o e=>(e0.bs b o e).1
 have lim:s.heap.NoLimit:=e0.mod.nolimit.keeps λb o e=>(e0.bs b o e).1
 have hkind:∀y∈ps.zip us,scope.names.lookup y.1=some .local\/(scope.names.lookup y.1=some .cell/\((cellsFrom (s.heap.objs.size+1) scope.names []).lookup y.1).isSome=true):=λ⟨n,v⟩ hy=>by
  rcases S.par n (List.of_mem_zip hy).1 with q|q
  .exact .inl q
  .exact .inr ⟨q,PySem.W.cellsFrom_some _ _ _ (.inl q)⟩
 refine codeAny_call_function hr.depth (KX _ _ lk) rfl S.co S.gen rfl (PySem.W.codeRec_of KX hcd) (hb _ _ _ _ ?_)
 refine wpAny_newFunctionEnv_cells S.kind hkind λenv he s1 x=>?_
 subst he
 refine⟨lim.keeps x.toInCall.keep,codeAny_func ?_⟩
 obtain⟨t,ht,hq⟩:=hbody A outer s H vs Q E (hr.deeper _) hsp
 have I:Inv (iC CX P w K mg base N qual scope f cdv A outer s H E) [] (start N vs) H s1:=abO S hr.hd e0 hl r x
 refine wpAny_mono (ht [] s1 (start N vs) H _ I hq) (λfl s' hs=>?_) λe s' hs=>hs
 have fin:∀{σ':St} {H':Hp} {v:V} {u:Value},Inv (iC CX P w K mg base N qual scope f cdv A outer s H E) [] σ' H' s'->RelV v u->Q v H'->CE outer P w H s Q u s' :=
  λ{σ' H' v u} J rv q=>⟨v,H',J.os,J.bare,J.base,J.hok,rv,q⟩
 cases fl with
 |ret u =>
  obtain⟨v,σ',H',J,rv,q⟩:=hs
  exact fin J rv q
 |next =>
  obtain⟨σ',H',J,q⟩:=hs
  exact fin (v:=V.non) (u:=Value.none) J rfl q
 |brk =>
  obtain⟨_,_,_,q⟩:=hs
  exact False.elim q
 |cont =>
  obtain⟨_,_,_,q⟩:=hs
  exact False.elim q
section
variable {X:Cx}{x:Str}{p pos:Pos}{e:Expr}{es:List Expr}{t:TA}{id T:String}{r:List V->Hp->VK->Prop}
noncomputable def yh(r:List V->Hp->VK->Prop)(t:TA):TE:=λσ H Q=>t σ H λvs H1=>r vs H1 Q
theorem NZ(hc:gM X (.builtin id) r)(hg:Gl X x)(hm:X.mg x=none)(hv:bootBuiltins x=some (.builtin id))(ha:PA X (e::es) t)(hn:x ≠ "__name__" := by decide) (hdb:(x == ("__debug__" : Str))=false:=by decide)
  (he:starEach (e::es) X.env=(false,eval e X.env)::starEach es X.env:=by rfl) (hpl:(backTo pos (starEach es X.env)).any (·.1)=false:=by rfl):PE X (.Call (.Name x p) (e::es) [] pos) (yh r t):=by
 refine⟨λpins s σ H Q I h=>?_⟩
 refine wpAny_Call_Name_kw (lK I hg hm hv ?_ hn hdb)
 exact PyProof.Rows.callWith_builtin1 (aF (ha pos pins s σ H _ I h) λus s1 ⟨vs,H1,I1,r1,q1⟩=>hc pins s1 σ H1 vs us Q I1 r1 q1) he hpl
theorem abP(hc:gM X (.type T) r)(hg:Gl X x)(hm:X.mg x=none)(hv:bootBuiltins x=some (.type T))(ha:PA X (e::es) t)(hn:x ≠ "__name__" := by decide) (hdb:(x == ("__debug__" : Str))=false:=by decide)
  (he:starEach (e::es) X.env=(false,eval e X.env)::starEach es X.env:=by rfl) (hpl:(backTo pos (starEach es X.env)).any (·.1)=false:=by rfl):PE X (.Call (.Name x p) (e::es) [] pos) (yh r t):=by
 refine⟨λpins s σ H Q I h=>?_⟩
 refine wpAny_Call_Name_kw (lK I hg hm hv ?_ hn hdb)
 exact PyProof.Rows.callWith_type1 (aF (ha pos pins s σ H _ I h) λus s1 ⟨vs,H1,I1,r1,q1⟩=>hc pins s1 σ H1 vs us Q I1 r1 q1) he hpl
end
end L2
namespace HT
open PySem PyProof.Rows
noncomputable def lexLt:List Int->List Int->Bool
 | [],[]=>false
 | [],_::_=>true
 |_::_,[]=>false
 |x::xs,y::ys=>if x=y then lexLt xs ys else decide (x<y)
theorem abQ(x y:Int)(xs ys:List Int):lexLt (x::xs) (y::ys)=if x=y then lexLt xs ys else decide (x<y):=rfl
theorem abR:lexLt [] []=false:=rfl
theorem abS(y:Int)(ys:List Int):lexLt [] (y::ys)=true:=rfl
theorem abT(x:Int)(xs:List Int):lexLt (x::xs) []=false:=rfl
theorem abU(A:Around)(s:Shared)(a:Int)(t:Tok)(c:Int)(u:Tok):∃e,SeqAt.EqAt A s (.int a t) (.int c u) e/\(e=true↔a=c) :=
 ⟨(a == c),SeqAt.EqAt.int_int a t c u,by simp⟩
theorem abV(A:Around)(s:Shared)(a:Int)(t:Tok)(c:Int)(u:Tok)(prog:Program)(w:World)(E:Value->Shared->Prop)(Q:Value->Shared->Prop)(h:Q (.bool (decide (a<c))) s) :
  wpAny (model prog w) A (richCompare .Lt (.int a t) (.int c u)) Q E s :=
 (PyProof.Rows.lt_int h:wpAny (model prog w) A (compareOp .Lt (.int a t) (.int c u)) Q E s)
section
open PySem.SeqAt
open PySem.AutoSeq1 (wpAny_loadPart')
open PySem.MeetsSeq PySem.MeetsSeq2 PySem.MeetsSeq3
theorem abW(l b:Addr)(items items2:Array Value)(n n2:Nat)(dd dd2:Option Addr)(sl sl2:Array (Option Value))(ns ms:List Int)(hi:IntsAre items.toList ns)(hj:IntsAre items2.toList ms) :
  Meets (Builtin.«tuple.__lt__» ⟨[.ref l,.ref b],[]⟩)
   (λ_ R s=>s.heap.get? l=some {cls:=.type "tuple",dict:=dd,data:=.seq items n,slots:=sl }∧s.heap.get? b=some {cls:=.type "tuple",dict:=dd2,data:=.seq items2 n2,slots:=sl2 } ∧
    R (.ok (.ret (.bool (lexLt ns ms)))) s) :=
 .of_wp λprog w A R s h=>by
  obtain⟨hp,g,d,tk,os⟩:=s; obtain⟨hl,hb,h⟩:=h
  have f2:=AutoSeq1.sub_tuple_tuple
  have z1:items.size=ns.length:=by rw[<-hi.length]; simp
  have z2:items2.size=ms.length:=by rw[<-hj.length]; simp
  wp_walk using wpAny_loadPart' hl,wpAny_loadPart' hb,wpAny_forIn_list _ (λrest b s'=>b.1=none/\s'=⟨hp,g,d,tk,os⟩/\∃(vs ws:List Value) (ns' rm:List Int),rest=vs.zip ws /\
   IntsAre vs ns'/\IntsAre ws rm/\ns'.length+items2.size=rm.length+items.size/\R (.ok (.ret (.bool (lexLt ns' rm)))) ⟨hp,g,d,tk,os⟩) _
  case turn =>
   rintro⟨y,x⟩ rest b s' ⟨hb',rfl,vs,ws,ns',rm,hz,Dy,hwi,hlen,hR⟩
   cases Dy with
   |nil=>rw[List.zip_nil_left]at hz; cases hz
   |cons a t abX =>
    cases hwi with
    |nil=>rw[List.zip_nil_right]at hz; cases hz
    |cons c u abY =>
     rw[List.zip_cons_cons]at hz
     injection hz with hyx hrest
     injection hyx with hy hx
     subst hy hx
     rw[abQ]at hR
     simp only[List.length_cons]at hlen
     obtain⟨e,he,hiff⟩:=abU A.in1 ⟨hp,g,d,tk,os⟩ a t c u
     refine wpAny_bind (he prog w _ _ ?_)
     cases e with
     |true =>
      rw[if_pos (hiff.mp rfl)]at hR
      wp_walk
      exact⟨rfl,rfl,_,_,_,_,hrest,abX,abY,by lia,hR⟩
     |false =>
      rw[if_neg (λq=>absurd (hiff.mpr q) Bool.false_ne_true)]at hR
      have hri:=abV A.in1 ⟨hp,g,d,tk,os⟩ a t c u prog w
      wp_walk using hri
      exact⟨_,rfl,by simpa using hR⟩
  case fin =>
   rintro⟨b1,b2⟩ s' ⟨hb',rfl,vs,ws,ns',rm,hz,Dy,hwi,hlen,hR⟩
   simp only at hb'
   subst hb'
   have hv:lexLt ns' rm=decide (items.size<items2.size):=by
    cases Dy with
    |nil =>
     cases hwi with
     |nil =>
      simp only[List.length_nil]at hlen
      rw[abR]
      exact(decide_eq_false (by lia)).symm
     |cons c u hw =>
      simp only[List.length_nil,List.length_cons]at hlen
      rw[abS]
      exact(decide_eq_true (by lia)).symm
    |cons a t hv =>
     cases hwi with
     |nil =>
      simp only[List.length_nil,List.length_cons]at hlen
      rw[abT]
      exact(decide_eq_false (by lia)).symm
     |cons c u hw =>
      rw[List.zip_cons_cons]at hz
      cases hz
   rw[hv]at hR
   wp_walk
   exact⟨_,rfl,by simpa[Builtin.Tuple.tupleCompareSizes]using hR⟩
  case h =>
   exact⟨rfl,rfl,items.toList,items2.toList,ns,ms,rfl,hi,hj,by lia,h⟩
end
section
variable {prog:Program}{w:World}{A:Around}{E:Value->Shared->Prop}{s:Shared}
theorem abZ(hl:IsTup s.heap l items)(hb:IsTup s.heap b items2)(hi:IntsAre items.toList ns)(hj:IntsAre items2.toList ms)
  (hu:A.units<cLine) (h:Q (.bool (lexLt ns ms)) s):wpAny (model prog w) A (compareOp .Lt (.ref l) (.ref b)) Q E s:=by
 obtain⟨⟨cls,dd,data,sl⟩,ho,hc,n,hd⟩:=id hl
 obtain⟨⟨cls2,dd2,data2,sl2⟩,ho2,hc2,n2,hd2⟩:=id hb
 simp only at hc hd hc2 hd2
 subst hc hd hc2 hd2
 exact richCompare_meets_room (op:=.Lt) ⟨_,ho,rfl⟩ ⟨_,ho2,rfl⟩ PySem.F.slot_tuple_lt PySem.F.entry_tuple_lt (PySem.F.args_tuple_lt_2 _ _) (abW l b items items2 n n2 dd dd2 sl sl2 ns ms hi hj)
  ⟨ho,ho2,show Value.bool (lexLt ns ms)≠Value.notImplemented/\Q (.bool (lexLt ns ms)) s from⟨(λx=>nomatch x),h⟩⟩ hu
theorem ab0(ht:IsTup s.heap t vs.toArray)(hb:IsTup s.heap b ws.toArray)(hv:vs≠[])
  (h1:ws=[]->Q (.ref t) s) (h2:ws≠[]->Q (.ref s.heap.objs.size) {s with heap:=s.heap.push {cls:=.type "tuple",data:=.seq (vs++ws).toArray } })
  (hsz:vs.length+ws.length<=sizeLine):wpAny (model prog w) A (binaryOp .Add (.ref t) (.ref b)) Q E s:=by
 obtain⟨⟨cls,dd,data,sl⟩,ho,hc,n,hd⟩:=id ht
 obtain⟨⟨cls2,dd2,data2,sl2⟩,ho2,hc2,n2,hd2⟩:=id hb
 simp only at hc hd hc2 hd2
 subst hc hd hc2 hd2
 have e:vs.toArray++ws.toArray=(vs++ws).toArray:=by simp
 by_cases hw:ws=[]
 .exact concat_meets ⟨_,ho,rfl⟩ ⟨_,ho2,rfl⟩ noFill_tuple_add seq_tuple_add PySem.F.slot_tuple_add PySem.F.entry_tuple_add (PySem.F.args_tuple_add_2 _ _)
   (tuple_addW1 t b vs.toArray ws.toArray n n2 dd dd2 sl sl2 (by simpa using hv) (by simp[hw])) ⟨ho,ho2,h1 hw⟩
 .refine concat_meets ⟨_,ho,rfl⟩ ⟨_,ho2,rfl⟩ noFill_tuple_add seq_tuple_add PySem.F.slot_tuple_add PySem.F.entry_tuple_add (PySem.F.args_tuple_add_2 _ _)
   (tuple_addW2 t b vs.toArray ws.toArray n n2 dd dd2 sl sl2 (by simpa using hv) (by simpa using hw) (by rw[List.size_toArray,List.size_toArray]; exact hsz)) ⟨ho,ho2,?_⟩
  rw[e]
  exact h2 hw
noncomputable def aU(n d:Nat):Option Int->Nat
 |none=>d
 |some v=>if v<0 then(v+(n:Int)).toNat else min v.toNat n
theorem ab1(n d:Nat)(hd:d<=n)(o:Option Int):aU n d o<=n:=by
 cases o with
 |none=>exact hd
 |some v =>
  show(if v<0 then(v+(n:Int)).toNat else min v.toNat n)<=n
  by_cases hv:v<0
  .rw[if_pos hv]; lia
  .rw[if_neg hv]; exact Nat.min_le_right _ _
theorem N5(v:Int)(n d:Nat):(if v<0 then max (v+(n:Int)) 0 else min v (n:Int))=((aU n d (some v):Nat):Int):=by
 show(if v<0 then max (v+(n:Int)) 0 else min v (n:Int))=(((if v<0 then(v+(n:Int)).toNat else min v.toNat n):Nat):Int)
 by_cases hv:v<0
 .simp only[if_pos hv]; lia
 .simp only[if_neg hv]; lia
theorem ab2(lo hi:Option Int)(n:Nat):Builtin.Slice.sliceAdjust lo hi 1 (n:Int)=(((aU n 0 lo:Nat):Int),((aU n n hi:Nat):Int)):=by
 have h1:¬((1:Int)<0):=by lia
 unfold Builtin.Slice.sliceAdjust
 simp only[h1,if_false]
 refine Prod.ext ?_ ?_
 .cases lo with
  |none=>rfl
  |some v=>exact N5 v n 0
 .cases hi with
  |none=>rfl
  |some v=>exact N5 v n n
theorem ab3(i j:Nat):Builtin.Slice.slicePlaces (i:Int) (j:Int) 1=j-i:=by
 unfold Builtin.Slice.slicePlaces
 have h1:(1:Int) > 0:=by lia
 simp only[h1,if_true,Int.ediv_one]
 split <;> lia
theorem N6(p:IsPart v o)(h:Q o s):wpAny (model prog w) A (Builtin.Slice.slicePartIndex v) Q E s:=by
 cases p with
 |none=>exact slicePart_none h
 |int i t=>exact slicePart_int h
theorem ab4{sl:Addr}{vl vu:Value}{lo hi:Option Int}{n:Nat}{Q:Int × Int × Nat->Shared->Prop}(hs:s.heap.IsSliceOf sl vl vu .none)(pl:IsPart vl lo)(pu:IsPart vu hi)
  (h:Q (((aU n 0 lo:Nat):Int),1,aU n n hi-aU n 0 lo) s):wpAny (model prog w) A (Builtin.Slice.sliceApplied (.ref sl) (pure (n:Int))) Q E s:=by
 obtain⟨os,hos,hcs,hds⟩:=id hs
 unfold Builtin.Slice.sliceApplied Builtin.Slice.sliceFields
 refine wpAny_bind (wpAny_bind (wpAny_field hos hds (x:=vl) rfl (wpAny_bind (wpAny_field hos hds (x:=vu) rfl (wpAny_bind (wpAny_field hos hds (x:=.none) rfl (wpAny_pure ?_)))))))
 refine wpAny_bind (slicePart_none ?_)
 show wpAny _ _ (if((1:Int) == 0)=true then _ else _) _ _ s
 rw[if_neg (by decide)]
 refine wpAny_bind (N6 pl (wpAny_bind (N6 pu (wpAny_bind (wpAny_pure ?_)))))
 show wpAny _ _ (match Builtin.Slice.sliceAdjust lo hi 1 (n:Int)with|(lo,hi)=>pure (lo,(1:Int),Builtin.Slice.slicePlaces lo hi 1)) _ _ s
 rw[ab2 lo hi n]
 show wpAny _ _ (pure (((aU n 0 lo:Nat):Int),(1:Int),Builtin.Slice.slicePlaces ((aU n 0 lo:Nat):Int) ((aU n n hi:Nat):Int) 1)) _ _ s
 rw[ab3]
 exact wpAny_pure h
theorem ab5(xs:Array Value)(i k:Nat):((List.range k).filterMap λ(m:Nat)=>xs[((i:Int)+(m:Int)*1).toNat]?).toArray=((xs.toList.drop i).take k).toArray:=by
 have e:(λ(m:Nat)=>xs[((i:Int)+(m:Int)*1).toNat]?)=λm=>xs[i+m]? := by
  funext m
  have:((i:Int)+(m:Int)*1).toNat=i+m:=by lia
  rw[this]
 rw[e]
 have:=pick_run xs i k
 rw[List.filterMap_map]at this
 have e2:((λx=>xs[x]?) ∘ λx=>i+x)=λm=>xs[i+m]? := rfl
 rw[e2]at this
 rw[this]
theorem ab6{t sl:Addr}{items:Array Value}{vl vu:Value}{lo hi:Option Int}{Q:Value->Shared->Prop}(ht:IsTup s.heap t items)(hs:s.heap.IsSliceOf sl vl vu .none)(pl:IsPart vl lo)(pu:IsPart vu hi)
  (hw:¬(aU items.size 0 lo=0/\aU items.size items.size hi=items.size))
  (h:Q (.ref s.heap.objs.size) {s with heap:=s.heap.push {cls:=.type "tuple",data:=.seq ((items.toList.drop (aU items.size 0 lo)).take (aU items.size items.size hi-aU items.size 0 lo)).toArray } })
  (hsz:items.size<=sizeLine):wpAny (model prog w) A (getItem (.ref t) (.ref sl)) Q E s:=by
 have yj:sizeOk (.seq ((items.toList.drop (aU items.size 0 lo)).take (aU items.size items.size hi-aU items.size 0 lo)).toArray):=by
  show((items.toList.drop (aU items.size 0 lo)).take (aU items.size items.size hi-aU items.size 0 lo)).toArray.size<=sizeLine
  rw[List.size_toArray,List.length_take,List.length_drop,Array.length_toList]
  lia
 have hj:aU items.size items.size hi<=items.size:=ab1 _ _ (Nat.le_refl _) hi
 obtain⟨os,hos,hcs,hds⟩:=id hs
 have hTs:s.TypeIs (.ref sl) "slice" := ⟨os,hos,hcs⟩
 unfold getItem
 try with_reducible refine wpAny_holding ?_
 first|refine wpAny_bind (wpAny_pure ?_)|skip
 refine wpAny_bind (wpAny_sequenceKey ht.typeIs (by decide) ?_)
 refine wpAny_bind (wpAny_callSpecial?_slot (name:=Str.ofString "__getitem__") ht.typeIs PyProof.Rows.slot_tuple_getitem
  (wpAny_call_entry PyProof.Rows.slot_tuple_getitem ht.typeIs entry_tuple_getitem ?_ (args_tuple_getitem _ _)))
 show wpAny _ _ (Builtin.Tuple.tupleItemsOf (.ref t) >>= _) _ _ s
 refine wpAny_bind (tupleItemsOf_ ht ?_)
 refine wpAny_bind (wpAny_typeOf hTs ?_)
 rw[if_pos (by decide)]
 refine wpAny_bind (ab4 hs pl pu ?_)
 have hno:¬((((aU items.size 0 lo:Nat):Int) == 0&&(1:Int) == 1&&(aU items.size items.size hi-aU items.size 0 lo) == items.size)=true):=by
  intro q
  rw[Bool.and_eq_true,Bool.and_eq_true]at q
  have q1:((aU items.size 0 lo:Nat):Int)=0:=eq_of_beq q.1.1
  have q2:aU items.size items.size hi-aU items.size 0 lo=items.size:=eq_of_beq q.2
  exact hw ⟨by lia,by lia⟩
 show wpAny _ _ (if(((aU items.size 0 lo:Nat):Int) == 0&&(1:Int) == 1&&(aU items.size items.size hi-aU items.size 0 lo) == items.size)=true then _ else _) _ _ s
 rw[if_neg hno,ab5]
 first
  |exact wpAny_bind (m:=Builtin.Tuple.tupleExact _) (wpAny_newObj_type (wpAny_pure ⟨_,rfl,wpAny_pure h⟩) yj)
  |exact wpAny_bind (m:=Builtin.Tuple.tupleExact _) (wpAny_newObj_type (wpAny_bind (wpAny_pure (wpAny_pure ⟨_,rfl,wpAny_pure h⟩))) yj)
  |exact wpAny_bind (wpAny_bind (m:=Builtin.Tuple.tupleExact _) (wpAny_newObj_type (wpAny_pure (wpAny_pure ⟨_,rfl,wpAny_pure h⟩)) yj))
  |exact wpAny_bind (wpAny_bind (m:=Builtin.Tuple.tupleExact _) (wpAny_newObj_type (wpAny_pure ⟨_,rfl,wpAny_pure h⟩) yj))
end
end HT
namespace L2
open PySem PySem.Spec PyProof.Rows
noncomputable abbrev TO:=St->Hp->(Option Int->Hp->Prop)->Prop
noncomputable def PO(X:Cx)(e:Option Expr)(t:TO):Prop :=
 ∀(pins:List (Addr × Obj)) (s:Shared) (σ : St) (H:Hp) (Q:Option Int->Hp->Prop),Inv X pins σ H s->t σ H Q ->
  wpAny (model X.prog X.w) X.A (evalPart e X.env) (λu s'=>∃o H',Inv X pins σ H' s'/\IsPart u o/\Q o H') X.xe s
noncomputable def ab7:TO:=λ_ H Q=>Q none H
noncomputable def ab8(t:TE):TO:=λσ H Q=>t σ H λx H1=>∃i,x=.int i/\Q (some i) H1
theorem intsAre_of:∀{us:List Value},Vals (ns.map V.int) us->IntsAre us ns:=by
 induction ns with
 |nil=>intro us r; rw[List.map_nil]at r; cases r; exact .nil
 |cons n ns ih =>
  intro us r
  rw[List.map_cons]at r
  cases r with
  |cons r1 r2 =>
   obtain⟨t,e⟩:=r1
   subst e
   exact .cons n t (ih r2)
section
variable {X:Cx}{e:Expr}{te:TE}{lo hi:Option Expr}{tl th:TO}{pos p2:Pos}
theorem ab9:PO X none ab7:=by
 intro pins s σ H Q I h
 rw[evalPart_none]
 exact wpAny_pure ⟨none,H,I,.none,h⟩
theorem acd(h:PE X e te):PO X (some e) (ab8 te):=by
 intro pins s σ H Q I hw
 rw[evalPart_some]
 refine aF (h pins s σ H _ I hw) λu s1 ⟨x,H1,I1,r1,q1⟩=>?_
 obtain⟨i,rfl,q⟩:=q1
 obtain⟨t,rfl⟩:=r1
 exact⟨some i,H1,I1,.int i t,q⟩
noncomputable def lO(X:Cx)(r:V->Option Int->Option Int->Hp->VK->Prop):Prop :=
 ∀(pins:List (Addr × Obj)) (s:Shared) (σ : St) (H:Hp) (x:V) (v vl vu:Value) (lo hi:Option Int) (sl:Addr) (Q:VK),Inv X pins σ H s->RelV x v->s.heap.IsSliceOf sl vl vu .none->IsPart vl lo->IsPart vu hi->r x lo hi H Q ->
  ∃T id,typeLookup (.type T) "__getitem__" = pure (some (.builtin id))/\s.TypeIs v T/\wpAny (model X.prog X.w) X.A (getItem v (.ref sl)) (EP X pins σ Q) X.xe s
theorem lO.or(h:lO X r)(h':lO X r'):lO X (λx lo hi H Q=>r x lo hi H Q\/r' x lo hi H Q):=by
 intro pins s σ H x v vl vu lo hi sl Q I rx hs pl pu q
 rcases q with q|q
 .exact h pins s σ H x v vl vu lo hi sl Q I rx hs pl pu q
 .exact h' pins s σ H x v vl vu lo hi sl Q I rx hs pl pu q
noncomputable def tSl(r:V->Option Int->Option Int->Hp->VK->Prop)(te:TE)(tl th:TO):TE:=λσ H Q=>te σ H λx H1=>tl σ H1 λl H2=>th σ H2 λu H3=>r x l u H3 Q
theorem ace(hr:lO X r)(he:PE X e te)(hl:PO X lo tl)(hu:PO X hi th):PE X (.Subscript e (.Slice lo hi none p2) pos) (tSl r te tl th):=by
 refine⟨λpins s σ H Q I h=>?_⟩
 refine Subscript_ (aF (he pins s σ H _ I h) λv s1 ⟨x,H1,I1,r1,q1⟩=>?_)
 refine wpAny_Slice (aF (hl pins s1 σ H1 _ I1 q1) λvl s2 ⟨l,H2,I2,pl,q2⟩=>aF (hu pins s2 σ H2 _ I2 q2) λvu s3 ⟨u,H3,I3,pu,q3⟩=>?_)
 rw[evalPart_none]
 refine wpAny_pure ?_
 have I4:Inv X pins σ H3 {s3 with heap:=s3.heap.push {cls:=.type "slice",data:=.fields #[vl,vu,.none] } }:=I3.kept (t':=s3.toks) λb ob q=>Heap.get?_push_of_some _ q
 obtain⟨T,id,hT,ht,hg⟩:=hr pins {s3 with heap:=s3.heap.push {cls:=.type "slice",data:=.fields #[vl,vu,.none] } } σ H3 x v vl vu l u s3.heap.objs.size Q I4 r1 (Heap.IsSliceOf.new ..) pl pu q3
 show wpAny (model X.prog X.w) X.A (subscriptTail e (.Slice lo hi none p2) v (.ref s3.heap.objs.size)) (EP X pins σ Q) X.xe {s3 with heap:=s3.heap.push {cls:=.type "slice",data:=.fields #[vl,vu,.none] } }
 exact tail_any (ops:=[.ref s3.heap.objs.size,v]) ht hT hg (by with_unfolding_all rfl)
noncomputable def nJ(xs:List V)(lo hi:Option Int):List V:=(xs.drop (HT.aU xs.length 0 lo)).take (HT.aU xs.length xs.length hi-HT.aU xs.length 0 lo)
theorem N7(xs:List V)(lo hi:Option Int):(nJ xs lo hi).length<=xs.length:=by
 unfold nJ
 rw[List.length_take,List.length_drop]
 lia
noncomputable def N8(K:PySem.W.Frag):V->Option Int->Option Int->Hp->VK->Prop:=λx lo hi H Q=>∃a xs,x=.ref a/\bH K H a xs /\
 ¬(HT.aU xs.length 0 lo=0/\HT.aU xs.length xs.length hi=xs.length)/\∀p,H p=none->Q (.ref p) (upd H p (.tup (nJ xs lo hi)))
theorem acf:lO X (N8 X.K):=by
 intro pins s σ H x v vl vu lo hi sl Q I rx hs pl pu h
 obtain⟨a,xs,rfl,hx,hw,q⟩:=h
 cases rx
 obtain⟨its,r,ht,hz⟩:=I.tuple hx
 have hlen:its.toArray.size=xs.length:=by rw[List.size_toArray]; exact r.length.symm
 refine⟨"tuple",_,PyProof.Rows.slot_tuple_getitem.lookup,ht.typeIs,?_⟩
 refine HT.ab6 ht hs pl pu (by rw[hlen]; exact hw) ?_ (by rw[hlen]; exact hz)
 rw[hlen]
 refine⟨.ref s.heap.objs.size,_,I.laid (t':=s.toks) (o:=.tup (nJ xs lo hi)) (λb ob q=>Heap.get?_push_of_some _ q) (Nat.le_refl _) ?_,rfl,q _ (I.hok.fresh (Nat.le_refl _))⟩
 exact⟨Nat.le_trans (N7 xs lo hi) hz,_,(r.drop (HT.aU xs.length 0 lo)).take (HT.aU xs.length xs.length hi-HT.aU xs.length 0 lo),IsTup.new _ _⟩
noncomputable def Oa(K:PySem.W.Frag):R2:=λx y H Q=>∃a b ns ms,x=.ref a/\y=.ref b/\bH K H a (ns.map V.int)/\bH K H b (ms.map V.int)/\Q (.bl (HT.lexLt ns ms)) H
theorem acg(hu:X.A.units<cLine):bB X (compareOp .Lt) (Oa X.K):=by
 intro pins s σ H x y v u Q I rx ry h
 obtain⟨a,b,ns,ms,rfl,rfl,ha,hb,q⟩:=h
 cases rx
 cases ry
 obtain⟨its,r1,p1,_⟩:=I.tuple ha
 obtain⟨its2,r2,p2,_⟩:=I.tuple hb
 have i1:IntsAre its.toArray.toList ns:=intsAre_of r1
 have i2:IntsAre its2.toArray.toList ms:=intsAre_of r2
 exact HT.abZ p1 p2 i1 i2 hu ⟨.bl (HT.lexLt ns ms),H,I,rfl,q⟩
noncomputable def Oh(K:PySem.W.Frag):R2:=λx y H Q=>∃a b xs ys,x=.ref a/\y=.ref b/\bH K H a xs/\bH K H b ys/\xs≠[]/\xs.length+ys.length<=sizeLine /\
 (ys=[]->Q (.ref a) H)/\(ys≠[]->∀p,H p=none->Q (.ref p) (upd H p (.tup (xs++ys))))
theorem Vals.Dz(r:Vals xs us):us=[]↔xs=[]:=by
 cases r with
 |nil=>simp
 |cons _ _=>simp
theorem ach:bB X (binaryOp .Add) (Oh X.K):=by
 intro pins s σ H x y v u Q I rx ry h
 obtain⟨a,b,xs,ys,rfl,rfl,ha,hb,hx,hz,q1,q2⟩:=h
 cases rx
 cases ry
 obtain⟨its,r1,p1,_⟩:=I.tuple ha
 obtain⟨its2,r2,p2,_⟩:=I.tuple hb
 refine HT.ab0 p1 p2 (λz=>hx (r1.Dz.mp z)) (λz=>⟨.ref a,H,I,rfl,q1 (r2.Dz.mp z)⟩) (λz=>?_) (by rw[<-r1.length,<-r2.length]; exact hz)
 refine⟨.ref s.heap.objs.size,_,I.laid (t':=s.toks) (o:=.tup (xs++ys)) (λb ob q=>Heap.get?_push_of_some _ q) (Nat.le_refl _) ?_,rfl,q2 (λw=>z (r2.Dz.mpr w)) _ (I.hok.fresh (Nat.le_refl _))⟩
 exact⟨by rw[List.length_append]; exact hz,_,r1.append r2,IsTup.new _ _⟩
end
noncomputable def fW(n:Nat)(i:Int):Option Nat:=if 0<=i then(if i<n then some i.toNat else none)else if -(n:Int)<=i then some (i+n).toNat else none
noncomputable def dH{α : Type}(xs:List α)(i:Int):Option α := (fW xs.length i).bind λj=>xs[j]?
theorem Oi(h:fW n i=some j):seqIndex? i n=some j/\j<n /\ -(n:Int)<=i/\i<n:=by
 unfold fW at h
 by_cases h0:0<=i
 .rw[if_pos h0]at h
  by_cases h1:i<n
  .rw[if_pos h1]at h
   have e:i.toNat=j:=Option.some.inj h
   exact⟨by rw[seqIndex_of h0 h1,e],by lia,by lia,h1⟩
  .rw[if_neg h1]at h; cases h
 .rw[if_neg h0]at h
  by_cases h1 : -(n:Int)<=i
  .rw[if_pos h1]at h
   have e:(i+n).toNat=j:=Option.some.inj h
   exact⟨by rw[seqIndex_neg (by lia) h1,e],by lia,h1,by lia⟩
  .rw[if_neg h1]at h; cases h
theorem DG{α : Type}{xs:List α}{i:Int}{v : α}(h:dH xs i=some v):∃j,seqIndex? i xs.length=some j/\xs[j]?=some v/\j<xs.length /\ -(xs.length:Int)<=i/\i<xs.length:=by
 unfold dH at h
 cases e:fW xs.length i with
 |none=>rw[e]at h; cases h
 |some j =>
  rw[e]at h
  obtain⟨h1,h2,h3,h4⟩:=Oi e
  exact⟨j,h1,h,h2,h3,h4⟩
noncomputable def Oj(b:Expr):Prop:=∀o i,subscripted b false o i=operate [o,i] (getItem o i)
noncomputable def lQ(X:Cx)(r:R2):Prop :=
 ∀(value slice:Expr) (pins:List (Addr × Obj)) (s:Shared) (σ : St) (H:Hp) (x y:V) (v u:Value) (Q:VK),Inv X pins σ H s->RelV x v->RelV y u->r x y H Q ->
  subscripted slice false v u=operate [v,u] (getItem v u)->wpAny (model X.prog X.w) X.A (subscriptTail value slice v u) (EP X pins σ Q) X.xe s
noncomputable def uT(X:Cx)(id:String)(r:V->List V->Hp->VK->Prop):Prop :=
 ∀(pins:List (Addr × Obj)) (s:Shared) (σ : St) (H:Hp) (x:V) (xs:List V) (v:Value) (us:List Value) (Q:VK),Inv X pins σ H s->RelV x v->Vals xs us->r x xs H Q ->
  wpAny (model X.prog X.w) X.A (call (.builtin id) (v::us)) (EP X pins σ Q) X.xe s
section
variable {X:Cx}{a b:Expr}{ta tb:TE}{pos:Pos}
theorem lQ.or(h:lQ X r)(h':lQ X r'):lQ X (λx y H Q=>r x y H Q\/r' x y H Q):=by
 intro value slice pins s σ H x y v u Q I rx ry q hs
 rcases q with q|q
 .exact h value slice pins s σ H x y v u Q I rx ry q hs
 .exact h' value slice pins s σ H x y v u Q I rx ry q hs
theorem uT.or{id:String}{r r':V->List V->Hp->VK->Prop}(h:uT X id r)(h':uT X id r'):uT X id (λx xs H Q=>r x xs H Q\/r' x xs H Q):=by
 intro pins s σ H x xs v us Q I rx rs q
 rcases q with q|q
 .exact h pins s σ H x xs v us Q I rx rs q
 .exact h' pins s σ H x xs v us Q I rx rs q
theorem DK(hr:lQ X r)(ha:PE X a ta)(hb:PE X b tb)(hs:Oj b):PE X (.Subscript a b pos) (uP r ta tb):=by
 refine⟨λpins s σ H Q I h=>?_⟩
 exact Subscript_ (Dp ha hb I h λv u s2 x y H2 I2 rx ry q=>hr a b pins s2 σ H2 x y v u Q I2 rx ry q (hs _ _))
noncomputable def Ol(K:PySem.W.Frag):R2:=λx y H Q=>∃p xs i v,x=.ref p/\y=.int i/\aK K H p xs/\dH xs i=some v/\Q v H
noncomputable def Om(K:PySem.W.Frag):R2:=λx y H Q=>∃p xs i v,x=.ref p/\y=.int i/\bH K H p xs/\dH xs i=some v/\Q v H
noncomputable def Oo:R2:=λx y H Q=>∃z i c,x=.str z/\y=.int i/\z.length<=sizeLine/\dH z.cps.toList i=some c/\Q (.str ⟨#[c]⟩) H
theorem aci:lQ X (Ol X.K):=by
 intro value slice pins s σ H x y v u Q I rx ry h hs
 obtain⟨p,xs,i,z,rfl,rfl,hq,he,q⟩:=h
 cases rx
 obtain⟨t,rfl⟩:=ry
 obtain⟨its,r,pl,hz⟩:=I.list hq
 obtain⟨j,h1,h2,h3,h4,h5⟩:=DG he
 obtain⟨w,ew,pI⟩:=r.get h2
 have hl:=r.length
 have hn:=pK
 have fin:EP X pins σ Q w s:=⟨z,H,I,pI,q⟩
 by_cases h0:0<=i
 .have hj:i.toNat=j:=by
   rw[seqIndex_of h0 h5]at h1
   exact Option.some.inj h1
  exact item_listR pl.isList h0 (by lia) (by rw[hj]; simpa using ew) fin hs
 .have hj:(i+(its.toArray.size:Int)).toNat=j:=by
   rw[seqIndex_neg (by lia) h4]at h1
   rw[List.size_toArray,<-hl]
   exact Option.some.inj h1
  exact subscriptTail_builtinR (x:=w) pl.isList.typeIs slot_list_getitem.lookup
   (wpAny_getItem_list_neg (Q:=λr s'=>r=w/\EP X pins σ Q r s') pl.isList (by lia) (by rw[List.size_toArray] <;> lia) (by lia) (by rw[hj]; simpa using ew) ⟨rfl,fin⟩) hs
theorem acj:lQ X (Om X.K):=by
 intro value slice pins s σ H x y v u Q I rx ry h hs
 obtain⟨p,xs,i,z,rfl,rfl,hq,he,q⟩:=h
 cases rx
 obtain⟨t,rfl⟩:=ry
 obtain⟨its,r,pl,hz⟩:=I.tuple hq
 obtain⟨j,h1,h2,h3,h4,h5⟩:=DG he
 obtain⟨w,ew,pI⟩:=r.get h2
 have hl:=r.length
 have hn:=pK
 have fin:EP X pins σ Q w s:=⟨z,H,I,pI,q⟩
 exact subscriptTail_builtinR (x:=w) pl.typeIs slot_tuple_getitem.lookup
  (getItem_tuple (j:=j) (Q:=λr s'=>r=w/\EP X pins σ Q r s') pl (by lia) (by lia) (by rw[List.size_toArray,<-hl]; exact h1) (by simpa using ew) ⟨rfl,fin⟩) hs
theorem acn:lQ X Oo:=by
 intro value slice pins s σ H x y v u Q I rx ry h hs
 obtain⟨z,i,c,rfl,rfl,hz,he,q⟩:=h
 obtain⟨t,rfl⟩:=rx
 obtain⟨t',rfl⟩:=ry
 obtain⟨j,h1,h2,h3,h4,h5⟩:=DG he
 have hl:z.cps.toList.length=z.length:=by simp[Str.length]
 rw[hl]at h1 h4 h5
 have hn:=pK
 exact tail_any (typeIs_str s z t) slot_str_getitem.lookup (getItem_str (c:=c) (by
  have e1:decide (i < -(2 ^ 63:Int))=false:=decide_eq_false (by lia)
  have e2:decide (i >= 2 ^ 63)=false:=decide_eq_false (by lia)
  rw[e1,e2,Bool.or_false]) (by rw[h1]; simpa using h2) ⟨.str ⟨#[c]⟩,H,I.tok _,⟨_,rfl⟩,q⟩) hs
noncomputable def Oq(K:PySem.W.Frag):R2:=λx y H Q=>Ol K x y H Q\/Om K x y H Q\/Oo x y H Q
theorem DN:lQ X (Oq X.K):=aci.or (acj.or acn)
theorem aco(its:List Value)(n j:Nat)(u:Value):Obj.mapSeq (·.setIfInBounds j u) {cls:=.type "list",data:=.seq its.toArray n }={cls:=.type "list",data:=.seq (its.set j u).toArray n }:=by
 simp[Obj.mapSeq]
theorem Inv.lst{pins:List (Addr × Obj)}{σ : St}{H:Hp}{s:Shared}{p:Addr}{xs:List V}(I:Inv X pins σ H s)(h:H p=some (.lst xs)) :
  ∃(its:List Value) (n:Nat),Vals xs its/\s.heap.get? p=some {cls:=.type "list",data:=.seq its.toArray n }/\xs.length<=sizeLine:=by
 obtain⟨z,its,n,r,e⟩:=I.hok p _ h
 exact⟨its,n,r,e,z⟩
theorem Inv.acp{pins:List (Addr × Obj)}{σ : St}{H:Hp}{s:Shared}{p:Addr}{xs ys:List V}{its its':List Value}{n n':Nat}{f:Obj->Obj}(I:Inv X pins σ H s)(h:H p=some (.lst xs))
  (ho:s.heap.get? p=some {cls:=.type "list",data:=.seq its.toArray n }) (hf:f {cls:=.type "list",data:=.seq its.toArray n }={cls:=.type "list",data:=.seq its'.toArray n' }) (r:Vals ys its') (hz:ys.length<=sizeLine) (t:Nat) :
  Inv X pins σ (upd H p (.lst ys)) {s with heap:=s.heap.update p f,toks:=t }:=by
 have e:(s.heap.update p f).get? p=some {cls:=.type "list",data:=.seq its'.toArray n' }:=by
  rw[Heap.get?_update_self f ho (by rw[hf] <;> rfl),hf]
 refine I.write (x:=p) (e:=p) (by rw[h]; trivial) (.inl rfl) (λb u hb q=>(Heap.get?_update_other _ _ (Ne.symm hb)).trans q) ⟨_,e⟩ ?_
 exact⟨hz,its',n',r,e⟩
noncomputable def acq:V->V->V->Hp->(Hp->Prop)->Prop:=λo i v H Q=>∃p xs k j,o=.ref p/\i=.int k/\H p=some (.lst xs)/\fW xs.length k=some j/\Q (upd H p (.lst (xs.set j v)))
theorem set_list:M7 X acq:=by
 intro pins s σ H o i v ov iv u Q I ro ri rv h
 obtain⟨p,xs,k,j,rfl,rfl,hp,hj,q⟩:=h
 cases ro
 obtain⟨t,rfl⟩:=ri
 obtain⟨its,n,r,ho,hz⟩:=I.lst hp
 obtain⟨h1,h2,h3,h4⟩:=Oi hj
 have hl:=r.length
 have hn:=pK
 have I':Inv X pins σ (upd H p (.lst (xs.set j v))) {s with heap:=s.heap.update p (Obj.mapSeq (·.setIfInBounds j u)) } :=
  I.acp hp ho (aco its n j u) (r.set rv j) (by rw[List.length_set]; exact hz) s.toks
 by_cases h0:0<=k
 .have hk:k.toNat=j:=by
   rw[seqIndex_of h0 h4]at h1
   exact Option.some.inj h1
  exact PySem.W.ki_setAt ho h0 (by lia) (by rw[List.size_toArray,<-hl]; exact h4) (by rw[hk]; exact⟨_,I',q⟩)
 .have hk:(k+(its.toArray.size:Int)).toNat=j:=by
   rw[seqIndex_neg (by lia) h3]at h1
   rw[List.size_toArray,<-hl]
   exact Option.some.inj h1
  exact PySem.W.ki_setBack ho (by lia) (by rw[List.size_toArray,<-hl]; exact h3) (by lia) (by rw[hk]; exact⟨_,I',q⟩)
theorem acr(lo hi:Option Int)(n:Nat):(sliceBounds lo hi none n).1=((HT.aU n 0 lo:Nat):Int)/\(sliceBounds lo hi none n).2.1=((HT.aU n n hi:Nat):Int)/\(sliceBounds lo hi none n).2.2=1:=by
 refine⟨?_,?_,rfl⟩
 .cases lo with
  |none=>simp[sliceBounds,HT.aU]
  |some i =>
   simp only[sliceBounds,HT.aU,Option.getD_none,show(1:Int) > 0 by decide,if_true]
   by_cases h:i<0
   .simp only[h,if_true] <;> lia
   .simp only[h,if_false] <;> lia
 .cases hi with
  |none=>simp[sliceBounds,HT.aU]
  |some i =>
   simp only[sliceBounds,HT.aU,Option.getD_none,show(1:Int) > 0 by decide,if_true]
   by_cases h:i<0
   .simp only[h,if_true] <;> lia
   .simp only[h,if_false] <;> lia
theorem acs(its:List Value)(lo hi:Option Int):slicePick its.toArray lo hi none=((its.drop (HT.aU its.length 0 lo)).take (HT.aU its.length its.length hi-HT.aU its.length 0 lo)).toArray:=by
 obtain⟨h1,h2,h3⟩:=acr lo hi its.toArray.size
 unfold slicePick
 rw[h1,h2,h3]
 simp only[sliceRange_one,pick_run,List.size_toArray] <;> rfl
noncomputable def Ot(K:PySem.W.Frag):V->Option Int->Option Int->Hp->VK->Prop:=λx lo hi H Q=>∃a xs,x=.ref a/\aK K H a xs/\∀p,H p=none->Q (.ref p) (upd H p (.lst (nJ xs lo hi)))
theorem acu:lO X (Ot X.K):=by
 intro pins s σ H x v vl vu lo hi sl Q I rx hs pl pu h
 obtain⟨a,xs,rfl,hx,q⟩:=h
 cases rx
 obtain⟨its,r,ht,hz⟩:=I.list hx
 have hlen:=r.length
 refine⟨"list",_,slot_list_getitem.lookup,ht.isList.typeIs,?_⟩
 refine wpAny_getItem_list_slice ht.isList hs pl pu .none (by simp) ?_ (by rw[List.size_toArray] <;> lia)
 rw[acs,<-hlen]
 refine⟨.ref s.heap.objs.size,_,I.laid (t':=s.toks) (o:=.lst (nJ xs lo hi)) (λb ob q=>Heap.get?_push_of_some _ q) (Nat.le_refl _) ?_,rfl,q _ (I.hok.fresh (Nat.le_refl _))⟩
 exact⟨Nat.le_trans (N7 xs lo hi) hz,_,0,(r.drop (HT.aU xs.length 0 lo)).take (HT.aU xs.length xs.length hi-HT.aU xs.length 0 lo),Heap.get?_push_size _ rfl⟩
theorem acv:gM X (.builtin "len") (λxs H Q=>∃p ys,xs=[.ref p]/\(aK X.K H p ys\/bH X.K H p ys)/\Q (.int ys.length) H):=by
 intro pins s σ H xs us Q I r h
 obtain⟨p,ys,rfl,hq,q⟩:=h
 obtain⟨u,rfl,rx⟩:=vals1 r
 cases rx
 have hn:=pK
 rcases hq with hq|hq
 .obtain⟨its,r',pl,hz⟩:=I.list hq
  have hlen:=r'.length
  exact Calls.call_len_list pl.isList (by simp only[List.size_toArray] <;> lia) ⟨.int ys.length,H,I.tok _,⟨s.toks+1,by rw[List.size_toArray,hlen]⟩,q⟩
 .obtain⟨its,r',pl,hz⟩:=I.tuple hq
  have hlen:=r'.length
  exact len_tuple pl (by simp only[List.size_toArray] <;> lia) ⟨.int ys.length,H,I.tok _,⟨s.toks+1,by rw[List.size_toArray,hlen]⟩,q⟩
theorem acw:gM X (.builtin "len") (λxs H Q=>∃z,xs=[.str z]/\z.length<=sizeLine/\Q (.int z.length) H):=by
 intro pins s σ H xs us Q I r h
 obtain⟨z,rfl,hz,q⟩:=h
 obtain⟨u,rfl,t,rfl⟩:=vals1 r
 have hn:=pK
 exact len_str (by lia) ⟨.int z.length,H,I.tok _,⟨_,rfl⟩,q⟩
theorem gM.or(h:gM X f r)(h':gM X f r'):gM X f (λxs H Q=>r xs H Q\/r' xs H Q):=by
 intro pins s σ H xs us Q I rs q
 rcases q with q|q
 .exact h pins s σ H xs us Q I rs q
 .exact h' pins s σ H xs us Q I rs q
noncomputable def Ou(K:PySem.W.Frag)(T:String)(x:V)(H:Hp):Prop:=match x with
 |.str _=>T = "str"
 |.int _=>T = "int"
 | .ref p=>(T = "list" ∧ ∃xs,aK K H p xs)∨(T = "tuple" ∧ ∃o,K.lookup p=some o∧o.cls=.type "tuple" ∧ o.dict=none)
 |_=>False
theorem acy(I:Inv X pins σ H s)(r:RelV x v)(ty:Ou X.K T x H) :
  s.TypeIs v T/\∀a,v=.ref a->∃ob,s.heap.get? a=some ob/\ob.dict=none:=by
 cases x with
 |str z =>
  obtain⟨t,rfl⟩:=r
  cases(show T = "str" from ty)
  exact⟨typeIs_str s z t,λ_ e=>nomatch e⟩
 |int i =>
  obtain⟨t,rfl⟩:=r
  cases(show T = "int" from ty)
  exact⟨typeIs_int s i t,λ_ e=>nomatch e⟩
 |ref p =>
  cases r
  rcases ty with⟨rfl,xs,hq⟩|⟨rfl,o,hk,hc,hd⟩
  .obtain⟨its,_,pl,_⟩:=I.list hq
   refine⟨pl.isList.typeIs,λa e=>?_⟩
   cases e
   obtain⟨o,n,e,c,hd,_⟩:=pl
   exact⟨o,e,hd⟩
  .refine⟨⟨o,I.iB p o hk,hc⟩,λa e=>?_⟩
   cases e
   exact⟨o,I.iB _ o hk,hd⟩
 |_=>exact False.elim ty
noncomputable def tBM(K:PySem.W.Frag)(T:String)(r:V->List V->Hp->VK->Prop)(to:TE)(t:TA):TE:=λσ H Q=>to σ H λx H1=>Ou K T x H1/\t σ H1 λxs H2=>r x xs H2 Q
variable {o e:Expr}{es:List Expr}{to:TE}{t:TA}{name:Str}{apos cpos:Pos}{T id:String}{r:V->List V->Hp->VK->Prop}
theorem acz(pa:PlainAttrs T)(slot:Slot T name id)(hty:typeOf (.builtin id)=pure (.type "method_descriptor")) (hm:uT X id r) (ho:PE X o to) (ha:PA X (e::es) t)
  (hbase:attributeBase o name X.env (eval o X.env)=eval o X.env:=by rfl)
  (hfew:((backTo cpos (starEach (e::es) X.env)).all (λx=>!x.1)&&(backToKw cpos (keywordEach [] X.env)).all (λx=>x.1.isSome)
   && decide ((e::es).length+([]:List Keyword).length+(if([]:List Keyword).isEmpty then 0 else 1)<30))=true:=by rfl)
  (hline:(apos.endLine == cpos.line)=true:=by rfl) (hs:starEach (e::es) X.env=(false,eval e X.env)::starEach es X.env:=by rfl) (hplain:(backTo cpos (starEach es X.env)).any (·.1)=false:=by rfl) :
  PE X (.Call (.Attribute o name apos) (e::es) [] cpos) (tBM X.K T r to t):=by
 refine⟨λpins s σ H Q I h=>?_⟩
 refine wpAny_Call_method_late hbase hfew hline rfl (aF (ho pins s σ H _ I h) λv s1 ⟨x,H1,I1,r1,ty,q1⟩=>?_)
 obtain⟨h1,h2⟩:=acy I1 r1 ty
 refine⟨T,id,pa,slot,hty,h1,h2,?_⟩
 have hA:=ha cpos pins s1 σ H1 _ I1 q1
 rw[hs]at hA ⊢
 refine Calls.callWith_builtin (by show(false || (backTo cpos (starEach es X.env)).any (·.1))=false; rw[hplain] <;> rfl) (Calls.evalArgs_plain ?_)
 exact aF hA λus s2 ⟨vs,H2,I2,r2,q2⟩=>hm pins s2 σ H2 x vs v us Q I2 r1 r2 q2
end
noncomputable def DP(X:Cx)(id:String)(r:V->List V->Hp->VK->Prop):Prop :=
 ∀(pins:List (Addr × Obj)) (s:Shared) (σ : St) (H:Hp) (x:V) (xs:List V) (v:Value) (us:List Value) (Q:VK),Inv X pins σ H s->RelV x v->Vals xs us->r x xs H Q ->
  wpAny (model X.prog X.w) X.A (call (.builtin id) (v::us)) (EP X pins σ Q) X.xe s
theorem Vals.one:∀{x:V} {us:List Value},Vals [x] us->∃u,us=[u]/\RelV x u
 |_,_,.cons r .nil=>⟨_,rfl,r⟩
theorem Vals.zero:∀{us:List Value},Vals [] us->us=[]
 |_,.nil=>rfl
theorem Vals.reverse{xs:List V}{us:List Value}(h:Vals xs us):Vals xs.reverse us.reverse:=by
 induction h with
 |nil=>exact .nil
 |cons r t ih=>rw[List.reverse_cons,List.reverse_cons]; exact Vals.append ih (.cons r .nil)
theorem Vals.rep(h:Vals xs us):∀k:Nat,Vals (List.replicate k xs).flatten (List.replicate k us).flatten
 | 0=>.nil
 |k+1=>by
  rw[List.replicate_succ,List.replicate_succ,List.flatten_cons,List.flatten_cons]
  exact Vals.append h (Vals.rep h k)
theorem foldl_rep(its:List Value):∀(k:Nat) (acc:List Value),
  List.foldl (λx1 x2=>x1++x2) acc.toArray (List.replicate k its.toArray)=(acc++(List.replicate k its).flatten).toArray
 | 0,acc=>by simp
 |k+1,acc=>by
  have e:acc.toArray++its.toArray=(acc++its).toArray:=by simp
  have e2:(acc++its)++(List.replicate k its).flatten=acc++(List.replicate (k+1) its).flatten:=by
   rw[List.replicate_succ,List.flatten_cons,List.append_assoc]
  rw[<-e2,<-foldl_rep its k (acc++its),<-e,List.replicate_succ,List.foldl_cons]
section
variable {X:Cx}{pins:List (Addr × Obj)}{σ : St}{H:Hp}{s:Shared}{l b:Addr}{xs ys zs:List V}
theorem Inv.Ov{its its':List Value}{n:Nat}{f:Array Value->Array Value}{t':Nat}(I:Inv X pins σ H s)(hH:H l=some (.lst xs))
  (e:s.heap.get? l=some {cls:=.type "list",data:=.seq its.toArray n }) (hf:f its.toArray=its'.toArray) (hv:Vals ys its') (hz:ys.length<=sizeLine) :
  Inv X pins σ (upd H l (.lst ys)) {s with heap:=s.heap.update l (Obj.mapSeq f),toks:=t' }:=by
 have q:=PySem.IsL.update e f
 rw[hf]at q
 refine I.write (x:=l) (e:=l) (by rw[hH]; exact trivial) (.inl rfl) (λb' u hb hu=>(Heap.get?_update_other s.heap (Obj.mapSeq f) (Ne.symm hb)).trans hu) ⟨_,q⟩ ?_
 exact⟨hz,its',_,hv,q⟩
theorem Inv.yp(I:Inv X pins σ H s)(hv:Vals ys its)(hz:ys.length<=sizeLine) :
  Inv X pins σ (upd H s.heap.objs.size (.lst ys)) {s with heap:=s.heap.push {cls:=.type "list",data:=.seq its.toArray },toks:=t' } :=
 I.laid (λ_ _ q=>Heap.get?_push_of_some _ q) (Nat.le_refl _) ⟨hz,its,0,hv,Heap.get?_push_size _ rfl⟩
theorem Inv.fresh(I:Inv X pins σ H s):H s.heap.objs.size=none:=I.hok.fresh (Nat.le_refl _)
theorem Inv.Ow(I:Inv X pins σ H s)(hH:H l=some (.lst xs)):xs.length<=sizeLine/\∃(its:List Value) (n:Nat),Vals xs its/\xs.length=its.length/\s.heap.get? l=some {cls:=.type "list",data:=.seq its.toArray n }:=by
 obtain⟨z,its,n,r,e⟩:=I.hok l _ hH
 exact⟨z,its,n,r,r.length,e⟩
theorem acA{n:Nat}(h:n<=sizeLine):Builtin.List.listTooLong n=false:=by
 unfold Builtin.List.listTooLong
 exact decide_eq_false (by lia)
end
section
variable {X:Cx}
noncomputable def DQ:V->List V->Hp->VK->Prop:=λx vs H Q=>∃l xs y,x=.ref l/\vs=[y]/\H l=some (.lst xs)/\xs.length<sizeLine/\Q .non (upd H l (.lst (xs++[y])))
theorem DW:DP X "list.append" DQ:=by
 intro pins s σ H x vs v us Q I rx rv h
 obtain⟨l,xs,y,rfl,rfl,hH,hz,q⟩:=h
 cases rx
 obtain⟨u,rfl,ru⟩:=rv.one
 obtain⟨z,its,n,r,hl,e⟩:=I.Ow hH
 refine call_meets F.slot_list_append ⟨_,e,rfl⟩ F.entry_list_append (F.args_list_append_2 _ _) (PySem.list_append l its.toArray n u (by rw[List.size_toArray]; lia)) ⟨e,?_⟩
 refine⟨.non,_,I.Ov (its':=its++[u]) hH e (by simp) (r.append (.cons ru .nil)) ?_,rfl,q⟩
 rw[List.length_append,List.length_singleton]
 lia
theorem len_rep{α : Type}(xs:List α)(k:Nat):(List.replicate k xs).flatten.length=k*xs.length:=by
 induction k with
 |zero=>simp
 |succ k ih=>rw[List.replicate_succ,List.flatten_cons,List.length_append,ih,Nat.succ_mul,Nat.add_comm]
end
end L2
namespace Oz
open PySem PySem.W PySem.Calls PyProof.Rows
theorem acB:∀(ns:List Int) (vs:List Value),WellAll P h vs (ns.map WData.int)->IntsAre vs ns:=by
 intro ns
 induction ns with
 |nil =>
  intro vs w
  rw[List.map_nil]at w
  cases w
  exact .nil
 |cons n ns ih =>
  intro vs w
  rw[List.map_cons]at w
  cases w with
  |cons a b =>
   cases a
   exact .cons _ _ (ih _ b)
theorem acC{l:OpenLaw}{n:Nat}(hn:l.most=some n){P:Params}{h:Heap}{args:List WData}{vals:List Value}
  (hpre:l.row.toRowW.claim.pre args=true) (hwl:WellAll P h vals args) :
  ∃a vs ns,vals=[Value.ref a]/\args=[WData.list (ns.map WData.int)]/\h.get? a=some {cls:=.type "list",data:=.seq vs.toArray }/\IntsAre vs ns/\ns.length<=n:=by
 have hsh:WShape.hasAll [] args [.list .int]=true:=(pre_splitW hpre).1
 have hc:l.pre.holds [] {args:=args }=true:=(pre_splitW hpre).2
 obtain⟨d,r,rfl,h1,h2⟩:=hasAllW_cons hsh
 obtain rfl:=hasAllW_nil h2
 obtain⟨xs,rfl,h3⟩:=hasW_list h1
 obtain⟨ns,rfl⟩:=items_int h3
 have hlen:ns.length<=n:=by
  unfold OpenLaw.pre at hc
  have h4:(WTm.not (.lt (.lit (.int (n:Int))) (.len (.arg 0)))).holds [] {args:=[.list (ns.map .int)] }=true:=by
   have h4:=(holds_andW hc).1
   rw[hn]at h4
   exact h4
  have h5:=condW_of h4 (w_not (w_lt w_lit (w_len_list (w_arg rfl))))
  rw[List.length_map]at h5
  refine Nat.le_of_not_lt λq=>?_
  have q':(n:Int)<((ns.length:Nat):Int):=by lia
  first
   |(rw[decide_eq_true q']at h5; exact absurd h5 (by decide))
   |(simp at h5; lia)
 cases hwl with
 |cons w1 w2 =>
  cases w2
  cases w1 with
  |list ho hall=>exact⟨_,_,ns,rfl,rfl,ho,acB ns _ hall,hlen⟩
theorem acD(l:OpenLaw)(args:List WData):l.row.toRowW.claim.post args (.bool true) args=true :=
 postW_of (r:=l.row.toRowW) (X:=(true == true))
  (show WShape.has [] (.bool true) .bool=true by first|rfl|decide|simp[WShape.has,WShape.arms,WShape.armsAll])
  (show(WTm.eq .res (.lit (.bool true))).value [] {args:=args,res:=some (.bool true),after:=args }=some (.bool (true == true))from w_eq_bool (w_res rfl) w_lit) rfl
theorem acE{l:OpenLaw}{n:Nat}{q:Program}{loose:List Str}{XP:(Str->Option Value)->Heap->Prop}{YP:World->Heap->Prop}{d:DefRec}
  (hn:l.most=some n) (hdf:d.params.defaults=[])
  (call:∀(w:World) (s₀ s₁ : Shared) (mg mb:Str->Option Value) (fa:Addr) (o:Obj) (pm cd doc:Value) (a:Addr) (vs:List Value) (ns:List Int),
   Ground q loose [] XP w s₀ mg mb s₁.heap->YP w s₁.heap ->
   s₁.heap.get? fa=some o->o.data=.func (docDef d.name d.params d.body d.scope pm cd doc)->s₁.heap.CodeRec cd d.name->mg d.name=some (.ref fa) ->
   s₁.heap.get? a=some {cls:=.type "list",data:=.seq vs.toArray }->IntsAre vs ns->ns.length<=n->s₁.gens = #[] ->
   codeAny (model l.prog w) callerA (.call (.ref fa) ⟨[.ref a],[]⟩) (λr s'=>r=.ok (.ret (.bool true))/\OldK s₁.heap s'.heap/\s'.os=s₁.os/\AllBare s'.gens) s₁) :
  WalkO q loose XP YP l.row.toRowW d [] (λf vs=>PySem.call f vs):=by
 intro w s₀ s₁ mg mb G Y fa o pm cd doc dV kV ho hd hcd hD hmg hg args vals as hpre hlay hrd hwl hlo
 obtain rfl:dV=.none:=Dflts.none hD hdf
 obtain rfl:kV=.none:=Dflts.noKw hD
 obtain⟨a,vs,ns,rfl,rfl,hobj,hints,hlen⟩:=acC hn hpre hwl
 refine enter_call (codeAny_mono (call w s₀ s₁ mg mb fa o pm cd doc a vs ns G Y ho (fd_plain hd) hcd hmg hobj hints hlen hg) λr s' hq=>?_)
 obtain⟨rfl,h2,h3,h4⟩:=hq
 exact⟨.inl ⟨.bool true,.bool true,[],rfl,λ_=>rfl,.bool true,acD l _,λ_=>⟨List.Pairwise.nil,λ_ hm=>(nomatch hm)⟩⟩,h2,h3,h4⟩
end Oz
namespace L2
open PySem PySem.Spec PyProof.Rows
theorem DX:∀{vs:List Value} {ns:List Int},IntsAre vs ns->Vals (ns.map V.int) vs
 |_,_,.nil=>.nil
 |_,_,.cons n t h=>.cons ⟨t,rfl⟩ (DX h)
noncomputable def jR(s:Stmt):Arguments:=match s with
 |.FunctionDef _ a _ _ _ _ _ _ _ _=>a
 |_=>{posonlyargs:=[],args:=[],vararg:=none,kwonlyargs:=[],kw_defaults:=[],kwarg:=none,defaults:=[] }
noncomputable def gQ(s:Stmt):List Stmt:=match s with
 |.FunctionDef _ _ b _ _ _ _ _ _ _=>b
 |_=>[]
noncomputable def bU(s:Stmt):Scope:=match s with
 |.FunctionDef _ _ _ _ _ _ sc _ _ _=>sc
 |_=>{kind:=.function,names:=[],isGenerator:=false,isCoroutine:=false }
noncomputable abbrev DY:gO:=λ_ _ _ _ _ _=>False
noncomputable abbrev E0:XK:=λ_ _ _=>False
structure lU(K:PySem.W.Frag)(x qual:Str)(st:Stmt)(f:Addr)(fd:FuncData):Prop where
 ex:∃(oc:Value) (od:Option Addr) (kV doc pm:Value) (an:Option Addr) (cdv ct:Value) (osl:Array (Option Value)),
  fd=PySem.W.fnOf x qual (jR st) (gQ st) (bU st) .none kV doc pm an cdv ct/\K.lookup f=some ⟨oc,od,.func fd,osl⟩/\PySem.W.codeIn K cdv qual=true
 kp:PySem.W.keepIn K (.ref f)=true
section
variable {P:Program}{w:World}{K:PySem.W.Frag}{mg:Str->Option Value}{base:Heap}
theorem lU.ok{x qual:Str}{st:Stmt}{f:Addr}{fd:FuncData}{N ps:List Str}{k:Nat}{sp:Sp}(F:lU K x qual st f fd)(S:pO N ps (bU st))(len:∀vs H Q E,sp vs H Q E->vs.length=ps.length)
  (hbody:∀(cdv:Value) (A:Around) (outer:List Env) (s:Shared) (H:Hp) (vs:List V) (Q:VK) (E:XK),dg k (A.deeper (envOfC qual (bU st) s.heap.objs.size f cdv))->sp vs H Q E ->
   ∃t,dN (iC DY P w K mg base N qual (bU st) f cdv A outer s H E).jg (gQ st) t/\t {nx:=λ_ H'=>Q .non H',rt:=Q } (start N vs) H):gP P w K mg base DY (k+1) f fd ps sp:=by
 obtain⟨oc,od,kV,doc,pm,an,cdv,ct,osl,rfl,lk,hcd⟩:=F.ex
 refine Dw lk hcd S len λA outer s H vs Q E hr hsp=>?_
 obtain⟨t,h,q⟩:=hbody cdv A outer s H vs Q E hr hsp
 exact⟨t,h.jg,q⟩
theorem lU.binds{x qual:Str}{st:Stmt}{f:Addr}{fd:FuncData}{ps:List Str}(F:lU K x qual st f fd)
  (h:∀(kV doc pm:Value) (an:Option Addr) (cdv ct:Value) (us:List Value),us.length=ps.length->bindArgs (PySem.W.fnOf x qual (jR st) (gQ st) (bU st) .none kV doc pm an cdv ct) ⟨us,[]⟩=pure (ps.zip us)):Binds K fd ps []:=by
 obtain⟨oc,od,kV,doc,pm,an,cdv,ct,osl,rfl,lk,hcd⟩:=F.ex
 exact .all (h kV doc pm an cdv ct)
theorem OD{x qual:Str}{st:Stmt}{f:Addr}{oc:Value}{od an:Option Addr}{osl:Array (Option Value)}{kV doc pm cdv ct:Value}(l:K.lookup f=some ⟨oc,od,.func (PySem.W.fnOf x qual (jR st) (gQ st) (bU st) .none kV doc pm an cdv ct),osl⟩)
  (c:PySem.W.codeIn K cdv qual=true) (k:PySem.W.keepIn K (.ref f)=true):lU K x qual st f (PySem.W.fnOf x qual (jR st) (gQ st) (bU st) .none kV doc pm an cdv ct):=⟨⟨oc,od,kV,doc,pm,an,cdv,ct,osl,rfl,l,c⟩,k⟩
end
theorem Ea(h:n<=1000):n<sizeLine:=Nat.lt_of_le_of_lt h (by decide)
noncomputable def Same(H H':Hp):Prop:=∀b o,H b=some o->H' b=some o
theorem Same.refl(H:Hp):Same H H:=λ_ _ h=>h
theorem Same.trans(a:Same H H1)(b:Same H1 H2):Same H H2:=λc o h=>b c o (a c o h)
theorem Same.free{H H':Hp}(e:Same H H'){l:Addr}(h:H' l=Option.none):H l=Option.none:=by
 cases q:H l with
 |none=>rfl
 |some o =>
  rw[e l o q]at h
  cases h
theorem Same.seq{K:PySem.W.Frag}{H H':Hp}{a:Addr}{xs:List V}(e:Same H H')(h:aK K H a xs):aK K H' a xs:=by
 rcases h with(h|⟨o,h⟩)|h
 .exact .inl (.inl (e _ _ h))
 .exact .inl (.inr ⟨o,e _ _ h⟩)
 .exact .inr h
noncomputable def bR(cells:List (Str × Addr)):List (Str × NameKind)->List (Str × Addr)->List (Str × Addr)
 | [],acc=>acc
 |(n,k)::r,acc=>if k=.free then(match cells.lookup n with|some a=>bR cells r ((n,a)::acc)|none=>bR cells r acc)else bR cells r acc
theorem nO:∀{names:List (Str × NameKind)} {acc:List (Str × Addr)},(bR cells names acc).lookup x=some c->acc.lookup x=some c\/cells.lookup x=some c
 | [],acc,h=>.inl h
 |(n,k)::r,acc,h=>by
  unfold bR at h
  split at h
  .split at h
   .rename_i a ha
    rcases nO h with q|q
    .by_cases e:x=n
     .subst e
      rw[List.lookup_cons,beq_self_eq_true]at q
      cases q
      exact .inr ha
     .rw[List.lookup_cons,beq_false_of_ne e]at q
      exact .inl q
    .exact .inr q
   .exact nO h
  .exact nO h
theorem pP:∀{names:List (Str × NameKind)} {acc:List (Str × Addr)},((acc.lookup x).isSome=true\/((x,NameKind.free)∈names/\(cells.lookup x).isSome=true))->((bR cells names acc).lookup x).isSome=true
 | [],acc,h=>by
  rcases h with h|⟨h,_⟩
  .exact h
  .cases h
 |(n,k)::r,acc,h=>by
  have up:∀a,(acc.lookup x).isSome=true->(List.lookup x ((n,a)::acc)).isSome=true:=λa q=>by
   rw[List.lookup_cons]
   split
   .rfl
   .exact q
  unfold bR
  split
  .rename_i hk
   split
   .rename_i a ha
    refine pP ?_
    rcases h with h|⟨h,hc⟩
    .exact .inl (up a h)
    .rcases List.mem_cons.mp h with e|e
     .cases e
      refine .inl ?_
      rw[List.lookup_cons,beq_self_eq_true]
      rfl
     .exact .inr ⟨e,hc⟩
   .rename_i hn
    refine pP ?_
    rcases h with h|⟨h,hc⟩
    .exact .inl h
    .rcases List.mem_cons.mp h with e|e
     .cases e
      rw[hn]at hc; cases hc
     .exact .inr ⟨e,hc⟩
  .rename_i hk
   refine pP ?_
   rcases h with h|⟨h,hc⟩
   .exact .inl h
   .rcases List.mem_cons.mp h with e|e
    .cases e; exact absurd rfl hk
    .exact .inr ⟨e,hc⟩
theorem yq(h:∀y∈scope.names,y.2=.free->(env.cells.lookup y.1).isSome=true):closureFor scope env=pure (bR env.cells scope.names []):=by
 suffices q:∀(names:List (Str × NameKind)) (acc:List (Str × Addr)),(∀y∈names,y.2=.free->(env.cells.lookup y.1).isSome=true) ->
   (forIn names acc λx r=>do
    match x with
    |(name,kind)=>if(kind == NameKind.free)=true then do let a <-cellOf env name; pure (ForInStep.yield ((name,a)::r))else pure (ForInStep.yield r):Sem _)=pure (bR env.cells names acc) by
  have z:=q scope.names [] h
  exact(congrArg (λm=>m >>= λcs=>pure cs) z)
 intro names
 induction names with
 |nil=>intro acc _; rfl
 |cons y r ih =>
  intro acc hy
  obtain⟨n,k⟩:=y
  rw[List.forIn_cons]
  unfold bR
  by_cases hk:k=.free
  .subst hk
   have q:=hy (n,.free) List.mem_cons_self rfl
   cases e:env.cells.lookup n with
   |none=>rw[e]at q; cases q
   |some a =>
    have ec:cellOf env n=pure a:=by unfold cellOf; rw[e]
    simp only[ec]
    exact ih _ λz hz=>hy z (List.mem_cons_of_mem _ hz)
  .rw[if_neg hk]
   have hb:(k == NameKind.free)=false:=by simpa using hk
   simp only[hb]
   exact ih _ λz hz=>hy z (List.mem_cons_of_mem _ hz)
noncomputable def OJ(scope sc:Scope):Scope :=
 {scope with names:=scope.names.map λ(n,k)=>if(k == .free&&sc.kind == .function&&sc.names.lookup n == some .cell)then(n,.cell)else(n,k) }
theorem O4{env:Env}:∀{names:List (Str × NameKind)} {x:Str},names.lookup x=some .free ->
  (names.map λ(n,k)=>if(k == NameKind.free&&env.scope.kind == .function&&env.kindOf n == some .cell)then(n,NameKind.cell)else(n,k)).lookup x=some .cell \/
  (names.map λ(n,k)=>if(k == NameKind.free&&env.scope.kind == .function&&env.kindOf n == some .cell)then(n,NameKind.cell)else(n,k)).lookup x=some .free
 | [],_,h=>by simp at h
 |(n,k)::r,x,h=>by
  have ih:=@O4 env r x
  rw[List.map_cons]
  dsimp only
  cases hx:x == n with
  |true =>
   simp only[List.lookup_cons,hx]at h
   cases h
   by_cases hc:(NameKind.free == NameKind.free&&env.scope.kind == .function&&env.kindOf n == some .cell)=true
   .rw[if_pos hc]; simp[List.lookup_cons,hx]
   .rw[if_neg hc]; simp[List.lookup_cons,hx]
  |false =>
   simp only[List.lookup_cons,hx]at h
   by_cases hc:(k == NameKind.free&&env.scope.kind == .function&&env.kindOf n == some .cell)=true
   .rw[if_pos hc]; simp only[List.lookup_cons,hx]; exact ih h
   .rw[if_neg hc]; simp only[List.lookup_cons,hx]; exact ih h
theorem O5{env:Env}:∀{names:List (Str × NameKind)} {x:Str},
  ((names.map λ(n,k)=>if(k == NameKind.free&&env.scope.kind == .function&&env.kindOf n == some .cell)then(n,NameKind.cell)else(n,k)).lookup x=some .cell \/
  (names.map λ(n,k)=>if(k == NameKind.free&&env.scope.kind == .function&&env.kindOf n == some .cell)then(n,NameKind.cell)else(n,k)).lookup x=some .free)->names.lookup x=some .cell\/names.lookup x=some .free
 | [],_,h=>by simp at h
 |(n,k)::r,x,h=>by
  have ih:=@O5 env r x
  rw[List.map_cons]at h
  dsimp only at h
  cases hx:x == n with
  |true =>
   by_cases hcc:(k == NameKind.free&&env.scope.kind == .function&&env.kindOf n == some .cell)=true
   .have hk:k=.free:=by
     simp only[Bool.and_eq_true,beq_iff_eq]at hcc
     exact hcc.1.1
    subst hk
    exact .inr (by simp only[List.lookup_cons,hx])
   .rw[if_neg hcc]at h
    simp only[List.lookup_cons,hx]at h ⊢
    exact h
  |false =>
   have q:=ih (by
    by_cases hcc:(k == NameKind.free&&env.scope.kind == .function&&env.kindOf n == some .cell)=true
    .rw[if_pos hcc]at h; simp only[List.lookup_cons,hx]at h; exact h
    .rw[if_neg hcc]at h; simp only[List.lookup_cons,hx]at h; exact h)
   simp only[List.lookup_cons,hx]
   exact q
theorem lV:∀(names:List (Str × NameKind)) (n:Nat) (acc:List (Str × Addr)),cellsFrom n names acc=cellsFrom n names []++acc
 | [],_,_=>rfl
 |(x,k)::r,n,acc=>by
  unfold cellsFrom
  split
  .rw[lV r (n+1) ((x,n)::acc),lV r (n+1) [(x,n)],List.append_assoc]
   rfl
  .exact lV r n acc
theorem Eb:∀(names:List (Str × NameKind)) (n:Nat) {x:Str} {c:Addr},(x,c)∈cellsFrom n names []->(x,NameKind.cell)∈names
 | [],_,_,_,h=>by cases h
 |(y,k)::r,n,x,c,h=>by
  unfold cellsFrom at h
  split at h
  .rename_i hk
   have hk:k=.cell:=by simpa using hk
   rw[lV]at h
   rcases List.mem_append.mp h with z|z
   .exact List.mem_cons_of_mem _ (Eb r _ z)
   .have z:=List.mem_singleton.mp z
    cases z
    rw[hk]
    exact List.mem_cons_self
  .exact List.mem_cons_of_mem _ (Eb r _ h)
theorem rA(x:Str):∀(a b:List (Str × Addr)),(a++b).lookup x=(match a.lookup x with|some c=>some c|none=>b.lookup x)
 | [],_=>rfl
 |(y,c)::r,b=>by
  have ih:=rA x r b
  rw[List.cons_append,List.lookup_cons,List.lookup_cons]
  cases h:x == y with
  |true=>rfl
  |false=>exact ih
theorem O6
  (hQ:∀h',h'.Ns s.heap.objs.size (λ_=>none)->(∀b o,s.heap.get? b=some o->h'.get? b=some o)->CellsOk h' (s.heap.objs.size+1) (cellsFrom (s.heap.objs.size+1) scope.names []) ->
   Q {scope:=scope,locals:=s.heap.objs.size,globals:=globals,cells:=cellsFrom (s.heap.objs.size+1) scope.names cl,qual:=qual,func:=none,code:=env.code,frame:=env.frame,builtins:=env.builtins } {s with heap:=h',toks:=s.toks+([]:List (Str × Value)).length }) :
  wpAny M A (newFunctionEnv scope globals cl [] qual none .none (some env)) Q E s:=by
 simp only[newFunctionEnv,Option.isSome_some,if_true]
 refine wpAny_bind (wpAny_alloc ?_)
 refine wpAny_bind (wpAny_layCells _ (λname kind cells=>by cases hkc:kind == NameKind.cell <;> simp[hkc]) _ _ _ _ ?_)
 have ok:=cellsFrom_ok scope.names (s.heap.push {cls:=.type "dict",data:=.dict #[] }) (s.heap.objs.size+1) [] ⟨λ_ _ hm=>(nomatch hm),List.Pairwise.nil⟩ (by rw[Heap.size_push]; exact Nat.le_refl _)
 rw[Heap.size_push]at ok
 rw[show({s with heap:=s.heap.push {cls:=.type "dict",data:=.dict #[] } }:Shared).heap.objs.size=s.heap.objs.size+1 from Heap.size_push ..]
 exact wpAny_bind (wpAny_pure (wpAny_pure (hQ _ ((Heap.Ns.new s.heap (.type "dict")).keeps (pushCells_keeps _ _)) (λb o e=>pushCells_keeps _ _ b o (Heap.get?_push_of_some _ e)) ok)))
structure nQ(sc:Scope)(No N:List Str)(src:List (Option Nat))(scope:Scope):Prop where
 kind:scope.kind=.function
 cells:∀y∈scope.names,y.2=.cell->scope.names.lookup y.1=some .cell
 names:∀y∈scope.names,y.2=.local->scope.names.lookup y.1=some .local
 free:∀y∈scope.names,y.2=.free->sc.names.lookup y.1=some .cell\/sc.names.lookup y.1=some .free
 len:src.length=N.length
 up:∀p∈N.zip src,∀j∈p.2,No[j]?=some p.1/\scope.names.lookup p.1=some .free
noncomputable def cj(src:List (Option Nat))(σ : St):St:=src.map λo=>o.bind λj=>(σ[j]?).join
noncomputable def bx(X:Cx)(N:List Str)(scope:Scope)(C:Addr)(s:Shared)(H:Hp)(ex:List Addr):Cx where
 prog:=X.prog
 w:=X.w
 K:=X.K
 mg:=X.mg
 base:=X.base
 A:=X.A
 N:=N
 s₀ := s
 H₀ := H
 env:=compEnvC scope (cellsFrom (C+1) scope.names (bR X.env.cells scope.names [])) C X.env
 outer:=X.stack
 stack:=X.stack
 ex:=ex
 fn:=λx=>scope.names.lookup x == some .cell
 calm:=X.calm
 pn:=[]
 xe:=λ_ _=>False
noncomputable def Ec(Q:VK)(D:Addr)(H:Hp):Prop:=Q (.ref D) H
section
variable {X:Cx}{elt tg iter:Expr}{scope sc:Scope}{pos:Pos}{No N:List Str}{src:List (Option Nat)}{wi:TI}{g:TG}{te:TE}
theorem O7{pins:List (Addr × Obj)}{σ : St}{H:Hp}{s:Shared}{h₁ : Heap}{fp:List Addr}{tk:Nat}(hsc:X.env.scope=sc)(fX:X.N=No)(S:nQ sc No N src scope)(I:Inv X pins σ H s)
  (hf:∀b∈fp,cg X pins H b) (hlt:∀b∈fp,b<s.heap.objs.size)
  (hns:h₁.Ns s.heap.objs.size (λ_=>none)) (old:∀b o,s.heap.get? b=some o->h₁.get? b=some o) (ck:CellsOk h₁ (s.heap.objs.size+1) (cellsFrom (s.heap.objs.size+1) scope.names [])) :
  Inv (bx X N scope s.heap.objs.size s H fp) [] (cj src σ) H {s with heap:=h₁,toks:=tk }:=by
 subst hsc
 subst fX
 have rB:∀x c,(cellsFrom (s.heap.objs.size+1) scope.names (bR X.env.cells scope.names [])).lookup x=some c->(cellsFrom (s.heap.objs.size+1) scope.names []).lookup x=some c\/X.env.cells.lookup x=some c:=λx c h=>by
  rw[lV,rA]at h
  split at h
  .rename_i e
   exact .inl (e.trans h)
  .rcases nO h with q|q
   .simp at q
   .exact .inr q
 have big:=λx c h=>(ck.empty x c (PySem.mem_of_lookup h)).2
 have O8:∀x c,X.env.cells.lookup x=some c->c<s.heap.objs.size:=λx c e=>by
  obtain⟨v,q⟩:=I.cell x c e
  exact q.lt
 have amw:∀b∈frs X.stack,b<s.heap.objs.size:=λb hb=>by
  obtain⟨_,o,ho,_⟩:=I.stack.mem hb
  exact Heap.lt_size ho
 refine⟨⟨I.ok.mod,S.kind,I.ok.glob,I.ok.blt,Nat.le_refl _,λx y c h1 h2=>?_,λx hx=>?_,λx c hfn h=>?_,I.ok.hd,I.ok.frames,.inl rfl,λb hb=>⟨Nat.ne_of_lt (hlt b hb),λx c e=>?_⟩,
   I.bs,Nat.le_trans I.ok.j9 I.sz,λb o e hb=>?_,λb hb hb'=>?_,I.stack,I.xQ⟩,
  rfl,I.bare,Un.kept old,⟨_,hns,λi x v h1 h2 h3=>?_⟩,λx c e=>?_,I.hok.fresh (Nat.le_refl _),λx c e=>?_,λp hp=>absurd (show p∈([]:List (Addr × Obj))from hp) (by simp),I.hok.kept old,?_⟩
 .rcases rB _ _ h1 with z1|z1
  .rcases rB _ _ h2 with z2|z2
   .exact name_of_addr ck.apart (PySem.mem_of_lookup z1) (PySem.mem_of_lookup z2)
   .exact absurd (Nat.le_trans (big _ _ z1) (Nat.le_of_lt (O8 _ _ z2))) (Nat.not_succ_le_self _)
  .rcases rB _ _ h2 with z2|z2
   .exact absurd (Nat.le_trans (big _ _ z2) (Nat.le_of_lt (O8 _ _ z1))) (Nat.not_succ_le_self _)
   .exact I.ok.inj x y c z1 z2
 ·-- every cell or free name has its cell
  rcases O5 hx with m|m
  .exact Option.isSome_iff_exists.mp (PySem.W.cellsFrom_some _ _ _ (.inl m))
  .have m:=PySem.mem_of_lookup m
   have q:=pP (cells:=X.env.cells) (acc:=[]) (.inr ⟨m,by
    obtain⟨c,e⟩:=I.ok.has x (S.free _ m rfl)
    rw[e]; rfl⟩)
   exact Option.isSome_iff_exists.mp (PySem.W.cellsFrom_some _ _ _ (.inr q))
 .have hfn:scope.names.lookup x=some .cell:=by
   have z:(scope.names.lookup x == some .cell)=true:=hfn
   simpa using z
  obtain⟨c',e'⟩:=Option.isSome_iff_exists.mp (PySem.W.cellsFrom_some _ (s.heap.objs.size+1) [] (.inl hfn))
  have h:(cellsFrom (s.heap.objs.size+1) scope.names (bR X.env.cells scope.names [])).lookup x=some c:=h
  rw[lV,rA,e']at h
  cases h
  exact Nat.le_of_succ_le (big _ _ e')
 .rcases rB _ _ e with z|z
  .exact λy=>absurd (Nat.le_trans (big _ _ z) (y▸Nat.le_of_lt (hlt b hb))) (Nat.not_succ_le_self _)
  .exact(hf b hb).2.2.2.2.1 x c z
 .obtain⟨f0,f1,f2,f3,f4,f5⟩:=hf b hb
  rcases f3 with z|z
  .exact I.ok.uL b o e z
  .have q:=Heap.lt_size (I.ok.bs b o e).1
   exact absurd q (Nat.not_lt.mpr z)
 .obtain⟨f0,f1,f2,_⟩:=hf b hb
  rcases List.mem_cons.mp (I.uM b hb')with z|z
  .exact f1 z
  .exact f2 z
 .have hi:i<src.length:=by
   unfold cj at h2
   have:=(List.getElem?_eq_some_iff.mp h2).1
   simpa using this
  have h2':((src[i]).bind λj=>(σ[j]?).join)=some v:=by
   unfold cj at h2
   rw[List.getElem?_map,List.getElem?_eq_getElem hi]at h2
   exact Option.some.inj h2
  cases es:src[i]with
  |none=>rw[es]at h2'; cases h2'
  |some j =>
   rw[es]at h2'
   have hj : σ[j]?=some (some v):=by
    have z:(σ[j]?).join=some v:=h2'
    cases q : σ[j]? with
    |none=>rw[q]at z; cases z
    |some o=>rw[q]at z; have z':o=some v:=z; rw[z']
   have hz:(x,some j)∈N.zip src:=by
    refine List.mem_of_getElem? (i:=i) ?_
    rw[List.getElem?_zip_eq_some]
    exact⟨h1,by rw[List.getElem?_eq_getElem hi,es]⟩
   obtain⟨u1,u2⟩:=S.up _ hz j rfl
   have m:(x,NameKind.free)∈scope.names:=PySem.mem_of_lookup u2
   have kx:=S.free _ m rfl
   obtain⟨m0,hn0,hl0⟩:=id I.loc
   obtain⟨u,r,lk⟩:=hl0 j x v u1 hj (kx.elim (λz=>.inr (.inl z)) λz=>.inr (.inr z))
   refine⟨u,r,?_⟩
   rcases lk with⟨k,_⟩|⟨_,c,e,ic⟩
   .have k':X.env.scope.names.lookup x=some .local:=k
    rcases kx with z|z
    .rw[z]at k'; cases k'
    .rw[z]at k'; cases k'
   .refine .inr ⟨O4 u2,c,?_,?_⟩
    .have q:=pP (cells:=X.env.cells) (acc:=[]) (.inr ⟨m,by rw[e]; rfl⟩)
     obtain⟨c',e'⟩:=Option.isSome_iff_exists.mp q
     have e2:X.env.cells.lookup x=some c':=by
      rcases nO e' with q|q
      .simp at q
      .exact q
     rw[e]at e2; cases e2
     show(cellsFrom (s.heap.objs.size+1) scope.names (bR X.env.cells scope.names [])).lookup x=some c
     rw[lV,rA]
     split
     .rename_i c2 z
      have y:=S.cells _ (Eb _ _ (PySem.mem_of_lookup z)) rfl
      rw[u2]at y; cases y
     .exact e'
    .obtain⟨o,ho,hd⟩:=ic
     exact⟨o,old _ _ ho,hd⟩
 .rcases rB _ _ e with z|z
  .exact⟨_,(ck.empty x c (PySem.mem_of_lookup z)).1⟩
  .obtain⟨v,o,ho,hd⟩:=I.cell x c z
   exact⟨v,o,old _ _ ho,hd⟩
 .rcases rB _ _ e with z|z
  .exact I.hok.fresh (Nat.le_of_succ_le (big _ _ z))
  .exact I.jN x c z
 .unfold cj
  rw[List.length_map]
  exact S.len
end
noncomputable def Ed(e C:Addr)(h:Heap):Prop:=∃o vs,h.get? e=some o/\o.cls=.ref C/\o.data=.fields vs
noncomputable def yr(e C:Addr):HO:=.ext (Ed e C)
noncomputable def yt:List Str:=["NoBottom", "NoBook", "NoList", "NoRule", "NoCount", "NoLooks", "NoThings", "NotSure", "NoSlack", "NoThing", "NoWorth", "TooMany", "NoText", "NoLine"]
inductive Tr where
 |non|bl (b:Bool)|int (i:Int)|str (x:Str)|tup (ts:List Tr)|lst (ts:List Tr)|bV (c:Str)
mutual
inductive Rep(K:PySem.W.Frag)(H:Hp):V->Tr->Prop
 |non:Rep K H .non .non
 |bl (b:Bool):Rep K H (.bl b) (.bl b)
 |int (i:Int):Rep K H (.int i) (.int i)
 |str (x:Str):Rep K H (.str x) (.str x)
 |tup {a:Addr} {xs:List V} {ts:List Tr} (h:bH K H a xs) (r:aA K H xs ts):Rep K H (.ref a) (.tup ts)
 |lst {a:Addr} {xs:List V} {ts:List Tr} (h:aK K H a xs) (r:aA K H xs ts):Rep K H (.ref a) (.lst ts)
 |bV {a C:Addr} {c:Str} (h:H a=some (yr a C)) (m:c∈yt) (n:PySem.W.nsIn K mainGlobals c=some (some (.ref C))):Rep K H (.ref a) (.bV c)
inductive aA(K:PySem.W.Frag)(H:Hp):List V->List Tr->Prop
 |nil:aA K H [] []
 |cons {x:V} {t:Tr} {xs:List V} {ts:List Tr} (h:Rep K H x t) (r:aA K H xs ts):aA K H (x::xs) (t::ts)
end
theorem Rep.both{K:PySem.W.Frag}{H:Hp}{P:V->Tr->Prop}{Q:List V->List Tr->Prop}(h1:P .non .non)(h2:∀b,P (.bl b) (.bl b))(h3:∀i,P (.int i) (.int i))(h4:∀x,P (.str x) (.str x))(h5:∀a xs ts,bH K H a xs->Q xs ts->P (.ref a) (.tup ts))(h6:∀a xs ts,aK K H a xs->Q xs ts->P (.ref a) (.lst ts))(h7:∀a C c,H a=some (yr a C)->c∈yt->PySem.W.nsIn K mainGlobals c=some (some (.ref C))->P (.ref a) (.bV c))(h8:Q [] [])(h9:∀x t xs ts,P x t->Q xs ts->Q (x::xs) (t::ts)):(∀{v t},Rep K H v t->P v t)/\∀{vs ts},aA K H vs ts->Q vs ts :=
 ⟨λh=>Rep.rec (motive_1:=λv t _=>P v t) (motive_2:=λv t _=>Q v t) h1 h2 h3 h4 (λh _ q=>h5 _ _ _ h q) (λh _ q=>h6 _ _ _ h q) (λh m n=>h7 _ _ _ h m n) h8 (λ_ _ p q=>h9 _ _ _ _ p q) h,λh=>aA.rec (motive_1:=λv t _=>P v t) (motive_2:=λv t _=>Q v t) h1 h2 h3 h4 (λh _ q=>h5 _ _ _ h q) (λh _ q=>h6 _ _ _ h q) (λh m n=>h7 _ _ _ h m n) h8 (λ_ _ p q=>h9 _ _ _ _ p q) h⟩
theorem Same.pQ{K:PySem.W.Frag}{H H':Hp}{a:Addr}{xs:List V}(e:Same H H')(h:bH K H a xs):bH K H' a xs:=by
 rcases h with(h|⟨o,h⟩)|h
 .exact .inl (.inl (e _ _ h))
 .exact .inl (.inr ⟨o,e _ _ h⟩)
 .exact .inr h
theorem O9{K:PySem.W.Frag}{H H':Hp}(e:Same H H'):(∀{v t},Rep K H v t->Rep K H' v t)/\∀{vs ts},aA K H vs ts->aA K H' vs ts:=Rep.both .non .bl .int .str (λ_ _ _ h q=>.tup (e.pQ h) q) (λ_ _ _ h q=>.lst (e.seq h) q) (λ_ _ _ h m n=>.bV (e _ _ h) m n) .nil λ_ _ _ _ p q=>.cons p q
theorem Rep.mono{K:PySem.W.Frag}{H H':Hp}(e:Same H H'){v:V}{t:Tr}(h:Rep K H v t):Rep K H' v t:=(O9 e).1 h
theorem aA.mono{K:PySem.W.Frag}{H H':Hp}(e:Same H H'){v:List V}{t:List Tr}(h:aA K H v t):aA K H' v t:=(O9 e).2 h
theorem aA.length{K:PySem.W.Frag}{H:Hp}:∀{v:List V} {t:List Tr},aA K H v t->v.length=t.length
 |_,_,.nil=>rfl
 |_,_,.cons _ r=>by rw[List.length_cons,List.length_cons,aA.length r]
theorem aA.get{K:PySem.W.Frag}{H:Hp}:∀{v:List V} {t:List Tr} {i:Nat} {x:V},aA K H v t->v[i]?=some x->∃u,t[i]?=some u/\Rep K H x u
 |_,_,_,_,.nil,e=>by simp at e
 |_,_,0,_,.cons h _,e=>by
  simp at e
  subst e
  exact⟨_,rfl,h⟩
 |_,_,i+1,x,.cons _ r,e=>by
  obtain⟨u,h1,h2⟩:=aA.get (i:=i) (x:=x) r (by simpa using e)
  exact⟨u,by simpa using h1,h2⟩
theorem aA.app{K:PySem.W.Frag}{H:Hp}:∀{v w:List V} {t u:List Tr},aA K H v t->aA K H w u->aA K H (v++w) (t++u)
 |_,_,_,_,.nil,s=>s
 |_,_,_,_,.cons h r,s=>.cons h (aA.app r s)
theorem aA.take{K:PySem.W.Frag}{H:Hp}:∀{v:List V} {t:List Tr} (n:Nat),aA K H v t->aA K H (v.take n) (t.take n)
 |_,_,0,_=>by rw[List.take_zero,List.take_zero]; exact .nil
 |_,_,n+1,.nil=>by simpa using aA.nil
 |_,_,n+1,.cons h r=>by
  exact .cons h (aA.take n r)
theorem aA.drop{K:PySem.W.Frag}{H:Hp}:∀{v:List V} {t:List Tr} (n:Nat),aA K H v t->aA K H (v.drop n) (t.drop n)
 |_,_,0,r=>by rw[List.drop_zero,List.drop_zero]; exact r
 |_,_,n+1,.nil=>by simpa using aA.nil
 |_,_,n+1,.cons h r=>by
  exact aA.drop n r
mutual
noncomputable def dep:Tr->Nat
 |.tup ts=>deps ts+1
 |.lst ts=>deps ts+1
 |.bV _=>100
 |_=>0
noncomputable def deps:List Tr->Nat
 | []=>0
 |t::r=>max (dep t) (deps r)
end
mutual
noncomputable def eqT:Tr->Tr->Bool
 |.non,.non=>true
 |.bl a,.bl b=>a == b
 |.bl a,.int b=>(if a then 1 else 0) == b
 |.int a,.bl b=>a == (if b then 1 else 0)
 |.int a,.int b=>a == b
 |.str a,.str b=>a == b
 |.tup a,.tup b=>jT a b
 |.lst a,.lst b=>jT a b
 |.bV a,.bV b=>a == b
 |_,_=>false
noncomputable def jT:List Tr->List Tr->Bool
 | [],[]=>true
 |a::x,b::y=>eqT a b&&jT x y
 |_,_=>false
end
mutual
theorem yu:∀t:Tr,eqT t t=true
 |.non=>rfl
 |.bl b=>by unfold eqT; exact beq_self_eq_true b
 |.int i=>by unfold eqT; exact beq_self_eq_true i
 |.str x=>by unfold eqT; exact beq_self_eq_true x
 |.tup ts=>by unfold eqT; exact Ef ts
 |.lst ts=>by unfold eqT; exact Ef ts
 |.bV c=>by unfold eqT; exact beq_self_eq_true c
theorem Ef:∀ts:List Tr,jT ts ts=true
 | []=>rfl
 |t::r=>by unfold jT; rw[yu t,Ef r]; rfl
end
theorem uU:∀{a b:List Tr},a.length≠b.length->jT a b=false
 | [],[],h=>absurd rfl h
 | [],_::_,_=>rfl
 |_::_,[],_=>rfl
 |x::a,y::b,h=>by
  unfold jT
  rw[uU (a:=a) (b:=b) (by simpa using h),Bool.and_false]
noncomputable def lW(a b:List Tr)(j:Nat):Bool:=match a[j]?,b[j]? with
 |some x,some y=>eqT x y
 |_,_=>true
theorem uV:∀{a b:List Tr},a.length=b.length->(List.range a.length).all (lW a b)=jT a b
 | [],[],_=>rfl
 | [],_::_,h=>by cases h
 |_::_,[],h=>by cases h
 |x::a,y::b,h=>by
  have ih:=uV (a:=a) (b:=b) (by simpa using h)
  rw[List.length_cons,List.range_succ_eq_map,List.all_cons,List.all_map]
  unfold jT
  rw[<-ih]
  rfl
section
variable {X:Cx}{pins:List (Addr × Obj)}{σ : St}{H:Hp}{s:Shared}
theorem Inv.acF(I:Inv X pins σ H s)(h:H a=some (yr a C))(p:IsTup s.heap a its):False:=by
 obtain⟨o,_,e1,e2,_⟩:=(I.hok a _ h).1
 obtain⟨o',e1',e2',_⟩:=p
 rw[e1]at e1'
 cases e1'
 rw[e2]at e2'
 cases e2'
theorem Inv.acG(I:Inv X pins σ H s)(h:H a=some (yr a C))(p:PlainL s.heap a its):False:=by
 obtain⟨o,_,e1,e2,_⟩:=(I.hok a _ h).1
 obtain⟨o',_,e1',e2',_⟩:=p
 rw[e1]at e1'
 cases e1'
 rw[e2]at e2'
 cases e2'
theorem acH(I:Inv X pins σ H s):(∀{v t},Rep X.K H v t->dep t<=99->∀u,Rep X.K H v u->t=u)/\∀{vs ts},aA X.K H vs ts->deps ts<=99->∀us,aA X.K H vs us->ts=us:=by
 refine Rep.both (λ_ u h=>?_) (λ_ _ u h=>?_) (λ_ _ u h=>?_) (λ_ _ u h=>?_) (λa xs ts h q d u h'=>?_) (λa xs ts h q d u h'=>?_) (λa C c h m n d u _=>?_) (λ_ u h=>?_) λx t xs ts p q d u h=>?_
 .cases h; rfl
 .cases h; rfl
 .cases h; rfl
 .cases h; rfl
 .obtain⟨_,_,p,_⟩:=I.tuple h
  cases h' with
  |tup h' r' =>
   have e:=I.M5 h h'
   subst e
   rw[q (by unfold dep at d; lia) _ r']
  |lst h' r' =>
   obtain⟨_,_,p',_⟩:=I.list h'
   exact absurd rfl (SeqAt.ne_of_list_tuple p'.isList p)
  |bV h' _ _=>exact(I.acF h' p).elim
 .obtain⟨_,_,p,_⟩:=I.list h
  cases h' with
  |tup h' r' =>
   obtain⟨_,_,p',_⟩:=I.tuple h'
   exact absurd rfl (SeqAt.ne_of_list_tuple p.isList p')
  |lst h' r' =>
   have e:=I.nA h h'
   subst e
   rw[q (by unfold dep at d; lia) _ r']
  |bV h' _ _=>exact(I.acG h' p).elim
 .unfold dep at d; lia
 .cases h; rfl
 .cases h with
  |cons h r =>
   unfold deps at d
   rw[p (by lia) _ h,q (by lia) _ r]
theorem Rep.inj(I:Inv X pins σ H s){v:V}{t u:Tr}(d:dep t<=99)(h:Rep X.K H v t)(h':Rep X.K H v u):t=u:=(acH I).1 h d u h'
theorem in1_units(A:Around):A.in1.units<=A.units+1:=by
 show A.units+1<=_
 lia
theorem yw{xs:List V}{its:List Value}{j:Nat}(r:Vals xs its)(h:j<its.toArray.size):∃x,xs[j]?=some x/\RelV x its.toArray[j]:=by
 have h':j<its.length:=by simpa using h
 have hx:j<xs.length:=by rw[r.length]; exact h'
 obtain⟨u,h1,h2⟩:=r.get (List.getElem?_eq_getElem hx)
 refine⟨xs[j],List.getElem?_eq_getElem hx,?_⟩
 have e:u=its.toArray[j]:=by
  rw[List.getElem?_eq_getElem h']at h1
  have:=Option.some.inj h1
  simpa using this.symm
 rw[<-e]; exact h2
theorem Pa{a b:List Tr}{j:Nat}{x y:Tr}(h1:a[j]?=some x)(h2:b[j]?=some y):lW a b j=eqT x y:=by
 unfold lW
 rw[h1,h2]
theorem nU:∀{ts:List Tr} {j:Nat} {t:Tr},ts[j]?=some t->dep t<=deps ts
 | [],_,_,h=>by simp at h
 |x::r,0,t,h=>by
  simp at h
  subst h
  unfold deps
  exact Nat.le_max_left _ _
 |x::r,j+1,t,h=>by
  have:=nU (ts:=r) (j:=j) (t:=t) (by simpa using h)
  unfold deps
  exact Nat.le_trans this (Nat.le_max_right _ _)
theorem uW(I:Inv X pins σ H s)(A:Around)(t u:Tr)(x y:V)(xv yv:Value)(hu:A.units+0<cLine)(hd:dep t<=0)(du:dep u<=99)(rx:Rep X.K H x t)(ry:Rep X.K H y u)(vx:RelV x xv)(vy:RelV y yv) :
  SeqAt.RcAt A s xv yv (eqT t u)/\SeqAt.EqAt A s xv yv (eqT t u):=by
 have hu0:A.units<cLine:=by lia
 cases rx with
 |tup h r=>unfold dep at hd; lia
 |lst h r=>unfold dep at hd; lia
 |bV h m n=>unfold dep at hd; lia
 |non =>
  cases vx
  cases ry with
  |non=>cases vy; unfold eqT; exact⟨SeqAt.RcAt.none_none,.same _⟩
  |bl b2=>cases vy; unfold eqT; exact⟨SeqAt.RcAt.none_bool _,SeqAt.EqAt.none_bool _⟩
  |int i2=>obtain⟨_,rfl⟩:=vy; unfold eqT; exact⟨SeqAt.RcAt.none_int _ _,SeqAt.EqAt.none_int _ _⟩
  |str z2=>obtain⟨_,rfl⟩:=vy; unfold eqT; exact⟨SeqAt.RcAt.none_str _ _,SeqAt.EqAt.none_str _ _⟩
  |tup h r=>cases vy; obtain⟨_,_,p,_⟩:=I.tuple h; unfold eqT; exact⟨SeqAt.RcAt.none_tuple p hu0,SeqAt.EqAt.none_tuple p hu0⟩
  |lst h r=>cases vy; obtain⟨_,_,p,_⟩:=I.list h; unfold eqT; exact⟨SeqAt.RcAt.none_list p.isList hu0,SeqAt.EqAt.none_list p.isList hu0⟩
  |bV h m n=>unfold dep at du; lia
 |bl b =>
  cases vx
  cases ry with
  |non=>cases vy; unfold eqT; exact⟨SeqAt.RcAt.bool_none _,SeqAt.EqAt.bool_none _⟩
  |bl b2=>cases vy; unfold eqT; exact⟨SeqAt.RcAt.bool_bool _ _,SeqAt.EqAt.bool_bool _ _⟩
  |int i2=>obtain⟨_,rfl⟩:=vy; unfold eqT; exact⟨SeqAt.RcAt.bool_int _ _ _,SeqAt.EqAt.bool_int _ _ _⟩
  |str z2=>obtain⟨_,rfl⟩:=vy; unfold eqT; exact⟨SeqAt.RcAt.bool_str _ _ _,SeqAt.EqAt.bool_str _ _ _⟩
  |tup h r=>cases vy; obtain⟨_,_,p,_⟩:=I.tuple h; unfold eqT; exact⟨SeqAt.RcAt.bool_tuple _ p hu0,SeqAt.EqAt.bool_tuple _ p hu0⟩
  |lst h r=>cases vy; obtain⟨_,_,p,_⟩:=I.list h; unfold eqT; exact⟨SeqAt.RcAt.bool_list _ p.isList hu0,SeqAt.EqAt.bool_list _ p.isList hu0⟩
  |bV h m n=>unfold dep at du; lia
 |int i =>
  obtain⟨_,rfl⟩:=vx
  cases ry with
  |non=>cases vy; unfold eqT; exact⟨SeqAt.RcAt.int_none _ _,SeqAt.EqAt.int_none _ _⟩
  |bl b2=>cases vy; unfold eqT; exact⟨SeqAt.RcAt.int_bool _ _ _,SeqAt.EqAt.int_bool _ _ _⟩
  |int i2=>obtain⟨_,rfl⟩:=vy; unfold eqT; exact⟨SeqAt.RcAt.int_int _ _ _ _,SeqAt.EqAt.int_int _ _ _ _⟩
  |str z2=>obtain⟨_,rfl⟩:=vy; unfold eqT; exact⟨SeqAt.RcAt.int_str _ _ _ _,SeqAt.EqAt.int_str _ _ _ _⟩
  |tup h r=>cases vy; obtain⟨_,_,p,_⟩:=I.tuple h; unfold eqT; exact⟨SeqAt.RcAt.int_tuple _ _ p hu0,SeqAt.EqAt.int_tuple _ _ p hu0⟩
  |lst h r=>cases vy; obtain⟨_,_,p,_⟩:=I.list h; unfold eqT; exact⟨SeqAt.RcAt.int_list _ _ p.isList hu0,SeqAt.EqAt.int_list _ _ p.isList hu0⟩
  |bV h m n=>unfold dep at du; lia
 |str z =>
  obtain⟨_,rfl⟩:=vx
  cases ry with
  |non=>cases vy; unfold eqT; exact⟨SeqAt.RcAt.str_none _ _,SeqAt.EqAt.str_none _ _⟩
  |bl b2=>cases vy; unfold eqT; exact⟨SeqAt.RcAt.str_bool _ _ _,SeqAt.EqAt.str_bool _ _ _⟩
  |int i2=>obtain⟨_,rfl⟩:=vy; unfold eqT; exact⟨SeqAt.RcAt.str_int _ _ _ _,SeqAt.EqAt.str_int _ _ _ _⟩
  |str z2=>obtain⟨_,rfl⟩:=vy; unfold eqT; exact⟨SeqAt.RcAt.str_str _ _ _ _,SeqAt.EqAt.str_str _ _ _ _⟩
  |tup h r=>cases vy; obtain⟨_,_,p,_⟩:=I.tuple h; unfold eqT; exact⟨SeqAt.RcAt.str_tuple _ _ p hu0,SeqAt.EqAt.str_tuple _ _ p hu0⟩
  |lst h r=>cases vy; obtain⟨_,_,p,_⟩:=I.list h; unfold eqT; exact⟨SeqAt.RcAt.str_list _ _ p.isList hu0,SeqAt.EqAt.str_list _ _ p.isList hu0⟩
  |bV h m n=>unfold dep at du; lia
theorem yC(I:Inv X pins σ H s):∀(n:Nat) (A:Around) (t u:Tr) (x y:V) (xv yv:Value),A.units+n<cLine->dep t<=n->dep t<=99->dep u<=99->Rep X.K H x t->Rep X.K H y u->RelV x xv->RelV y yv ->
  SeqAt.RcAt A s xv yv (eqT t u)/\SeqAt.EqAt A s xv yv (eqT t u):=by
 intro n
 induction n with
 |zero=>exact λA t u x y xv yv hu hd _ du rx ry vx vy=>uW I A t u x y xv yv hu hd du rx ry vx vy
 |succ n ih =>
  intro A t u x y xv yv hu hd rC du rx ry vx vy
  have hu0:A.units<cLine:=by lia
  have hu1:A.in1.units+n<cLine:=by
   have:=in1_units A
   lia
  have he:∀{xs ys:List V} {ts us:List Tr} {its its2:List Value},Vals xs its->Vals ys its2->aA X.K H xs ts->aA X.K H ys us->deps ts<=n->deps ts<=99->deps us<=99->∀j (h1:j<its.toArray.size) (h2:j<its2.toArray.size),SeqAt.EqAt A.in1 s its.toArray[j] its2.toArray[j] (lW ts us j):=by
   intro xs ys ts us its its2 r1 r2 q1 q2 hde hd9 Pb j h1 h2
   obtain⟨a,ea,ra⟩:=yw r1 h1
   obtain⟨b,eb,rb⟩:=yw r2 h2
   obtain⟨ta,eta,qa⟩:=q1.get ea
   obtain⟨tb,uX,qb⟩:=q2.get eb
   rw[Pa eta uX]
   exact(ih A.in1 ta tb a b _ _ hu1 (Nat.le_trans (nU eta) hde) (Nat.le_trans (nU eta) hd9) (Nat.le_trans (nU uX) Pb) qa qb ra rb).2
  have dt:∀{ts:List Tr},dep (.tup ts)<=n+1->deps ts<=n:=λ{ts} h=>by unfold dep at h; lia
  have dl:∀{ts:List Tr},dep (.lst ts)<=n+1->deps ts<=n:=λ{ts} h=>by unfold dep at h; lia
  have nt:∀{ts:List Tr},dep (.tup ts)<=99->deps ts<=99:=λ{ts} h=>by unfold dep at h; lia
  have nl:∀{ts:List Tr},dep (.lst ts)<=99->deps ts<=99:=λ{ts} h=>by unfold dep at h; lia
  have refs:∀{a b:Addr} {t u:Tr} {k:Bool},dep t<=99->Rep X.K H (.ref a) t->Rep X.K H (.ref b) u->k=eqT t u->SeqAt.RcAt A s (.ref a) (.ref b) k->SeqAt.EqAt A s (.ref a) (.ref b) k:=λ{a b t u k} d9 r1 r2 ek h=>by
   by_cases e:a=b
   .subst e
    have:=Rep.inj I d9 r1 r2
    subst this
    rw[ek,yu]
    exact .same _
   .exact .of_refs e h
  cases rx with
  | @tup a1 xs1 ts h r =>
   cases vx
   obtain⟨its,rv,p,_⟩:=I.tuple h
   cases ry with
   | @tup a2 xs2 us h' r' =>
    cases vy
    obtain⟨its2,gq,p2,_⟩:=I.tuple h'
    have R:=SeqAt.RcAt.tuples p p2 hu0 (he rv gq r r' (dt hd) (nt rC) (nt du))
    have el:its.toArray.size=ts.length:=by simpa using(rv.length.symm.trans r.length)
    have el2:its2.toArray.size=us.length:=by simpa using(gq.length.symm.trans r'.length)
    rw[el,el2]at R
    have eb:((List.range (min ts.length us.length)).all (lW ts us)&&ts.length == us.length)=eqT (.tup ts) (.tup us):=by
     unfold eqT
     by_cases e:ts.length=us.length
     .rw[e,Nat.min_self,<-e,uV e,beq_self_eq_true,Bool.and_true]
     .rw[beq_false_of_ne e,Bool.and_false,uU e]
    rw[eb]at R
    exact⟨R,refs rC (.tup h r) (.tup h' r') rfl R⟩
   |lst h' r' =>
    cases vy
    obtain⟨_,_,p2,_⟩:=I.list h'
    unfold eqT
    exact⟨SeqAt.RcAt.tuple_list p p2.isList hu0,.tuple_list p p2.isList hu0⟩
   |bV h' m n=>unfold dep at du; lia
   |non=>cases vy; unfold eqT; exact⟨SeqAt.RcAt.tuple_none p hu0,.tuple_none p hu0⟩
   |bl b=>cases vy; unfold eqT; exact⟨SeqAt.RcAt.tuple_bool _ p hu0,.tuple_bool _ p hu0⟩
   |int i=>obtain⟨_,rfl⟩:=vy; unfold eqT; exact⟨SeqAt.RcAt.tuple_int _ _ p hu0,.tuple_int _ _ p hu0⟩
   |str z=>obtain⟨_,rfl⟩:=vy; unfold eqT; exact⟨SeqAt.RcAt.tuple_str _ _ p hu0,.tuple_str _ _ p hu0⟩
  | @lst a1 xs1 ts h r =>
   cases vx
   obtain⟨its,rv,p,_⟩:=I.list h
   cases ry with
   | @lst a2 xs2 us h' r' =>
    cases vy
    obtain⟨its2,gq,p2,_⟩:=I.list h'
    have el:its.toArray.size=ts.length:=by simpa using(rv.length.symm.trans r.length)
    have el2:its2.toArray.size=us.length:=by simpa using(gq.length.symm.trans r'.length)
    by_cases e:ts.length=us.length
    .have R:=SeqAt.RcAt.lists p.isList p2.isList (by rw[el,el2,e]) hu0 (he rv gq r r' (dl hd) (nl rC) (nl du))
     rw[el,uV e]at R
     have eb:jT ts us=eqT (.lst ts) (.lst us):=by unfold eqT; rfl
     rw[eb]at R
     exact⟨R,refs rC (.lst h r) (.lst h' r') rfl R⟩
    .have R:SeqAt.RcAt A s _ _ false:=SeqAt.RcAt.lists_lengths p.isList p2.isList (by rw[el,el2]; simpa using e) hu0
     have eb:false=eqT (.lst ts) (.lst us):=by unfold eqT; rw[uU e]
     rw[eb]at R
     exact⟨R,refs rC (.lst h r) (.lst h' r') rfl R⟩
   |tup h' r' =>
    cases vy
    obtain⟨_,_,p2,_⟩:=I.tuple h'
    unfold eqT
    exact⟨SeqAt.RcAt.list_tuple p.isList p2 hu0,.list_tuple p.isList p2 hu0⟩
   |bV h' m n=>unfold dep at du; lia
   |non=>cases vy; unfold eqT; exact⟨SeqAt.RcAt.list_none p.isList hu0,.list_none p.isList hu0⟩
   |bl b=>cases vy; unfold eqT; exact⟨SeqAt.RcAt.list_bool _ p.isList hu0,.list_bool _ p.isList hu0⟩
   |int i=>obtain⟨_,rfl⟩:=vy; unfold eqT; exact⟨SeqAt.RcAt.list_int _ _ p.isList hu0,.list_int _ _ p.isList hu0⟩
   |str z=>obtain⟨_,rfl⟩:=vy; unfold eqT; exact⟨SeqAt.RcAt.list_str _ _ p.isList hu0,.list_str _ _ p.isList hu0⟩
  |bV h m n=>unfold dep at rC; lia
  |non=>exact uW I A _ _ _ _ _ _ (by lia) (by unfold dep; lia) du .non ry vx vy
  |bl b=>exact uW I A _ _ _ _ _ _ (by lia) (by unfold dep; lia) du (.bl b) ry vx vy
  |int i=>exact uW I A _ _ _ _ _ _ (by lia) (by unfold dep; lia) du (.int i) ry vx vy
  |str z=>exact uW I A _ _ _ _ _ _ (by lia) (by unfold dep; lia) du (.str z) ry vx vy
end
section
variable {X:Cx}{a b:Expr}{ta tb:TE}{pos:Pos}
noncomputable def Eh(K:PySem.W.Frag):R2:=λx y H Q=>∃t u,Rep K H x t/\Rep K H y u/\dep t<=40/\dep u<=40/\Q (.bl (eqT t u)) H
theorem acI(hu:X.A.units+64<cLine):bB X (compareOp .Eq) (Eh X.K):=by
 intro pins s σ H x y v u Q I rx ry h
 obtain⟨t,t',q1,q2,hd,hd2,q⟩:=h
 exact(yC I 40 X.A t t' x y v u (by lia) hd (by lia) (by lia) q1 q2 rx ry).1 _ _ _ _ ⟨.bl _,H,I,rfl,q⟩
noncomputable def kE(t:Tr)(ts:List Tr):Bool:=ts.any λu=>eqT u t
noncomputable def Ei(K:PySem.W.Frag):R2:=λx y H Q=>∃t ts p xs,Rep K H x t/\y=.ref p/\(aK K H p xs\/bH K H p xs)/\aA K H xs ts/\deps ts<=40/\dep t<=40/\Q (.bl (kE t ts)) H
theorem yD{xs:List V}{its:List Value}{ts:List Tr}{K:PySem.W.Frag}{H:Hp}(f:Tr->Bool)(e:Value->Bool)(r:Vals xs its)(q:aA K H xs ts)(h:∀x v t,x∈xs->RelV x v->Rep K H x t->t∈ts->e v=f t):its.any e=ts.any f:=by
 induction r generalizing ts with
 |nil=>cases q; rfl
 |cons r1 r2 ih =>
  cases q with
  |cons q1 q2 =>
   rw[List.any_cons,List.any_cons,h _ _ _ List.mem_cons_self r1 q1 List.mem_cons_self,ih q2 λx v t hx hr hq ht=>h x v t (List.mem_cons_of_mem _ hx) hr hq (List.mem_cons_of_mem _ ht)]
theorem rD:∀{ts:List Tr} {t:Tr},t∈ts->dep t<=deps ts:=λ{ts t} h=>by
 obtain⟨i,hi,e⟩:=List.mem_iff_getElem.mp h
 exact nU (j:=i) (by rw[List.getElem?_eq_getElem hi,e])
open Classical in
theorem acJ(hu:X.A.units+64<cLine):bB X (compareOp .In) (Ei X.K):=by
 intro pins s σ H x y v u Q I rx ry h
 obtain⟨t,ts,p,xs,q1,rfl,hq,qs,hd,hd2,q⟩:=h
 cases ry
 have hu1:X.A.in1.units+40<cLine:=by
  have:=in1_units X.A
  lia
 -- what == tells of an item,by the item itself
 let e:Value->Bool:=λw'=>if h:∃z tz,z∈xs/\RelV z w'/\Rep X.K H z tz/\tz∈ts then eqT (Classical.choose (Classical.choose_spec h)) t else false
 have ee:∀z w' tz,z∈xs->RelV z w'->Rep X.K H z tz->tz∈ts->e w'=eqT tz t:=λz w' tz h1 h2 h3 h4=>by
  have hx:∃z tz,z∈xs/\RelV z w'/\Rep X.K H z tz/\tz∈ts:=⟨z,tz,h1,h2,h3,h4⟩
  show(if h:_ then _ else _)=_
  rw[dif_pos hx]
  have sp:=Classical.choose_spec (Classical.choose_spec hx)
  have key:∀z z' t1 t2,RelV z w'->RelV z' w'->dep t1<=99->Rep X.K H z t1->Rep X.K H z' t2->t1=t2:=λz z' t1 t2 a1 a2 d9 a3 a4=>by
   obtain rfl:=RelV.inj a1 a2
   exact Rep.inj I d9 a3 a4
  rw[key _ _ _ _ sp.2.1 h2 (by have:=rD sp.2.2.2; lia) sp.2.2.1 h3]
 have mem:∀{its:List Value},Vals xs its->∀w'∈its,SeqAt.EqAt X.A.in1 s w' v (e w'):=by
  intro its r w' hw
  obtain⟨j,hj,ej⟩:=List.mem_iff_getElem.mp hw
  have hjx:j<xs.length:=by rw[r.length]; exact hj
  obtain⟨u',h1,h2⟩:=r.get (List.getElem?_eq_getElem hjx)
  rw[List.getElem?_eq_getElem hj,ej]at h1
  cases h1
  obtain⟨tz,h3,h4⟩:=qs.get (List.getElem?_eq_getElem hjx)
  have hm:=List.mem_of_getElem? h3
  rw[ee _ _ tz (List.getElem_mem hjx) h2 h4 hm]
  exact(yC I 40 X.A.in1 tz t _ x _ v hu1 (Nat.le_trans (rD hm) hd) (by have:=rD hm; lia) (by lia) h4 q1 h2 rx).2
 rcases hq with hq|hq
 .obtain⟨its,r,pl,hz⟩:=I.list hq
  refine SeqAt.in_listAt e pl.isList (λw hw=>mem r w (by simpa using hw)) ⟨.bl _,H,I,rfl,?_⟩
  rw[show its.toArray.any e=its.any e by simp,yD (λz=>eqT z t) e r qs λz w' tz h1 h2 h3 h4=>ee z w' tz h1 h2 h3 h4]
  exact q
 .obtain⟨its,r,pl,hz⟩:=I.tuple hq
  refine SeqAt.in_tupleAt e pl (λw hw=>mem r w (by simpa using hw)) ⟨.bl _,H,I,rfl,?_⟩
  rw[show its.toArray.any e=its.any e by simp,yD (λz=>eqT z t) e r qs λz w' tz h1 h2 h3 h4=>ee z w' tz h1 h2 h3 h4]
  exact q
inductive Ty where|int|bool|str|tuple|list
noncomputable def Ty.name:Ty->String
 |.int => "int" |.bool => "bool" |.str => "str" |.tuple => "tuple" |.list => "list"
noncomputable def nW:Tr->Ty->Bool
 |.bl _,.bool=>true|.bl _,.int=>true|.int _,.int=>true|.str _,.str=>true|.tup _,.tuple=>true|.lst _,.list=>true
 |_,_=>false
noncomputable def Pg(K:PySem.W.Frag):List V->Hp->VK->Prop:=λxs H Q=>∃v t c,xs=[v,.ty (Ty.name c)]/\Rep K H v t/\Q (.bl (nW t c)) H
noncomputable def lX(K:PySem.W.Frag):Prop:=∀c∈yt,∀C,PySem.W.nsIn K mainGlobals c=some (some (.ref C))->(∀a,PySem.W.KitX K (.ref a) (.ref C) (Ed a C))/\∀y:Ty,PySem.W.kitOne K (.ref C) (.type y.name)=some false
theorem acK(hX:lX X.K):gM X (.builtin "isinstance") (Pg X.K):=by
 intro pins s σ H xs us Q I r h
 obtain⟨v,t,c,rfl,q1,q⟩:=h
 obtain⟨u,w',rfl,ru,pI⟩:=vals2 r
 obtain rfl:w'=Value.type (Ty.name c):=pI
 have fin:∀tk,EP X pins σ Q (.bool (nW t c)) {s with toks:=tk }:=λtk=>⟨.bl _,H,I.tok tk,rfl,q⟩
 cases q1 with
 |non=>cases ru; cases c <;> exact PySem.W.kia_one PySem.W.kitx_none I.iB True.intro (by kernel_rfl) (λz=>nomatch z) fin
 |bl y=>cases ru; cases c <;> exact PySem.W.kia_one PySem.W.kitx_bool I.iB True.intro (by kernel_rfl) (λz=>nomatch z) fin
 |int i=>obtain⟨_,rfl⟩:=ru; cases c <;> exact PySem.W.kia_one PySem.W.kitx_int I.iB True.intro (by kernel_rfl) (λz=>nomatch z) fin
 |str y=>obtain⟨_,rfl⟩:=ru; cases c <;> exact PySem.W.kia_one PySem.W.kitx_str I.iB True.intro (by kernel_rfl) (λz=>nomatch z) fin
 |tup h r =>
  cases ru
  obtain⟨_,_,⟨o,h1,h2,_⟩,_⟩:=I.tuple h
  cases c <;> exact PySem.W.kia_one PySem.W.kitx_tuple I.iB ⟨o,h1,h2⟩ (by kernel_rfl) (λz=>nomatch z) fin
 |lst h r =>
  cases ru
  obtain⟨_,_,p,_⟩:=I.list h
  obtain⟨o,h1,h2,_⟩:=p.isList
  cases c <;> exact PySem.W.kia_one PySem.W.kitx_list I.iB ⟨o,h1,h2⟩ (by kernel_rfl) (λz=>nomatch z) fin
 |bV h m n =>
  cases ru
  obtain⟨z1,z2⟩:=hX _ m _ n
  exact PySem.W.kia_one (z1 _) I.iB (I.hok _ _ h).1 (z2 c) (λz=>nomatch z) fin
noncomputable def Ej(K:PySem.W.Frag):List V->Hp->VK->Prop:=λxs H Q=>∃(p:Addr) (bs:List Bool),xs=[.ref p]/\aK K H p (bs.map V.bl)/\Q (.bl (bs.all id)) H
theorem acL(hc:X.calm=true):gM X (.builtin "all") (Ej X.K):=by
 intro pins s σ H xs us Q I r h
 obtain⟨p,bs,rfl,hq,q⟩:=h
 obtain⟨u,rfl,ru⟩:=vals1 r
 cases ru
 obtain⟨its,rv,pl,hz⟩:=I.list hq
 refine call_all_walk (wpAny_pyIter_list pl.isList ?_)
 obtain⟨ol,hol,hol'⟩:=id pl.isList
 have hlt:p<s.heap.objs.size:=Heap.lt_size hol
 have hlen:its.toArray.size=bs.length:=by simpa using rv.length.symm
 have at_:∀(i:Nat) (v:Value),its.toArray[i]?=some v->∃k,bs[i]?=some k/\v=Value.bool k:=λi v e=>by
  have e':its[i]?=some v:=by simpa using e
  have hi:i<its.length:=(List.getElem?_eq_some_iff.mp e').1
  have hb:i<(bs.map V.bl).length:=by rw[rv.length]; exact hi
  obtain⟨u',h1,h2⟩:=rv.get (List.getElem?_eq_getElem hb)
  rw[e']at h1
  cases h1
  have hb':i<bs.length:=by simpa using hb
  refine⟨bs[i],List.getElem?_eq_getElem hb',?_⟩
  rw[List.getElem_map]at h2
  exact h2
 refine⟨s.heap.objs.size,_,_,_,_,_,λi=>bs.getD i true,rfl,Walks.list (A:=X.A.in1) (I.ok.hd hc) s.heap.objs.size p (Nat.ne_of_lt hlt) its.toArray,⟨⟨_,Heap.get?_push_size _ rfl,rfl,rfl⟩,⟨ol,Heap.get?_push_of_some _ hol,hol'⟩⟩,?_,?_⟩
 .intro i v s' Q' E' hP hQ'
  obtain⟨k,h1,rfl⟩:=at_ i v hP
  have:bs.getD i true=k:=by rw[List.getD_eq_getElem?_getD,h1]; rfl
  dsimp only at hQ'
  rw[this]at hQ'
  exact wpAny_truthy_bool hQ'
 .intro h' tk hk
  have I1:Inv X pins σ H {s with heap:=h',toks:=tk }:=I.kept λb o e=>hk b o (by
   have:=Heap.lt_size e
   simp
   exact Nat.ne_of_lt this) (Heap.get?_push_of_some _ e)
  refine⟨.bl _,H,I1,rfl,?_⟩
  have eq:(List.range its.toArray.size).all (λi=>bs.getD i true)=bs.all id:=by
   rw[hlen]
   clear q hq rv at_ hlen hz
   induction bs with
   |nil=>rfl
   |cons b r ih =>
    rw[List.length_cons,List.range_succ_eq_map,List.all_cons,List.all_map,List.all_cons]
    exact congrArg (b && ·) ih
  rw[eq]
  exact q
end
noncomputable def Df(P:Program)(w:World)(K:PySem.W.Frag)(mg:Str->Option Value)(base:Heap)(k:Nat)(x:Str)(ps:List Str)(sp:Sp):Prop :=
 ∃f fd,gP P w K mg base DY k f fd ps sp/\Binds K fd ps []/\PySem.W.keepIn K (.ref f)=true/\mg x=some (.ref f)
theorem Df.mono{P:Program}{w:World}{K:PySem.W.Frag}{mg:Str->Option Value}{base:Heap}{j k:Nat}{x:Str}{ps:List Str}{sp:Sp}(D:Df P w K mg base j x ps sp)(h:j<=k):Df P w K mg base k x ps sp:=by
 obtain⟨f,fd,h1,h2⟩:=D
 exact⟨f,fd,h1.mono h,h2⟩
noncomputable def At(K:PySem.W.Frag)(mg:Str->Option Value)(x:Str)(st:Stmt):Prop:=∃f fd,lU K x x st f fd/\mg x=some (.ref f)
section
variable {X:Cx}{k:Nat}{x:Str}{ps:List Str}{sp:Sp}{p q pos:Pos}{e:Expr}{es:List Expr}{te:TE}{t:TA}
theorem acM(hX:lX X.K)(c:Ty)(he:PE X e te)(h1:X.mg "isinstance" = none) (h2:X.mg x=none) (hb:bootBuiltins x=some (.type c.name):=by decide +kernel) (hg1:Gl X "isinstance" := by rfl) (hg2:Gl X x:=by rfl) (hn:x ≠ "__name__" := by decide) (hd:(x == ("__debug__" : Str))=false:=by decide)
  (hs:starEach (e::[.Name x q]) X.env=(false,eval e X.env)::starEach [.Name x q] X.env:=by rfl):PE X (.Call (.Name "isinstance" p) [e,.Name x q] [] pos) (yh (Pg X.K) (Du te (Du (tC (.ty c.name)) Nt))) :=
 NZ (acK hX) hg1 h1 PyProof.Rows.boot_isinstance (pL he (pL (aaH hg2 h2 hb rfl hn hd) uQ) hs) (he:=hs)
end
structure Pj(Pr:Hp->Hp)(H0:Hp):Prop where
 mono:∀{H H':Hp},Same H H'->Same (Pr H) (Pr H')
 sub:∀H,Same (Pr H) H
 new:∀{H:Hp} {r:Addr} {o:HO},Same H0 H->H r=none->Pr (upd H r o) r=some o
theorem Pj.id(H0:Hp):Pj (λH=>H) H0:=⟨λs=>s,λH=>Same.refl H,λ_ _=>cN⟩
theorem Pj.le(p:Pj Pr H0)(s:Same H0 H1):Pj Pr H1:=⟨p.mono,p.sub,λs' h=>p.new (s.trans s') h⟩
theorem fY(h:H p=none)(o:HO):Same H (upd H p o):=λb u q=>by rw[aL (iz q h)]; exact q
section
variable (K:PySem.W.Frag)(Pr:Hp->Hp)(σ : St)(H0:Hp)
noncomputable def Ev(te:TE)(T:Tr):Prop:=∀(H:Hp) (Q:VK),Same H0 H->(∀v H',Same H H'->Rep K (Pr H') v T->Q v H')->te σ H Q
noncomputable def Ph(te:TE)(Ts:List Tr):Prop:=∀(H:Hp) (Q:VK),Same H0 H->(∀a xs H1,Same H H1->H1 a=none->aA K (Pr H1) xs Ts->xs.length=Ts.length->Q (.ref a) (upd H1 a (.lst xs)))->te σ H Q
end
section
variable {K:PySem.W.Frag}{Pr:Hp->Hp}{σ : St}{H0:Hp}{te tb:TE}{ta:TA}{T:Tr}{Ts Us:List Tr}
theorem Ph.ev(p:Pj Pr H0)(h:Ph K Pr σ H0 te Ts):Ev K Pr σ H0 te (.lst Ts):=λH Q s k =>
 h H _ s λa xs H1 s1 ha r _=>k (.ref a) _ (s1.trans (fY ha _)) (.lst (aK.of (p.new (s.trans s1) ha)) (r.mono (p.mono (fY ha _))))
end
noncomputable def notStar:Expr->Bool
 |.Starred _ _=>false
 |_=>true
theorem iD(h:notStar e=true):starEach (e::es) env=(false,eval e env)::starEach es env:=by
 cases e <;> first|rfl|(unfold notStar at h; cases h)
noncomputable def pR(K:PySem.W.Frag)(T:Tr):TE:=λ_ H Q=>∀v H',Same H H'->(∀Pr,Pj Pr H->Rep K (Pr H') v T)->Q v H'
noncomputable def rE(K:PySem.W.Frag)(Ts:List Tr):TA:=λ_ H Q=>∀vs H',Same H H'->(∀Pr,Pj Pr H->aA K (Pr H') vs Ts)->Q vs H'
noncomputable def Ek(K:PySem.W.Frag)(Ts:List Tr):TE:=λ_ H Q=>∀a xs H1,Same H H1->H1 a=none->(∀Pr,Pj Pr H->aA K (Pr H1) xs Ts)->xs.length=Ts.length->Q (.ref a) (upd H1 a (.lst xs))
theorem PE.imp(h:PE X e t)(i:∀σ H Q,u σ H Q->t σ H Q):PE X e u:=⟨λpins s σ H Q I q=>h pins s σ H Q I (i σ H Q q)⟩
theorem PA.imp(h:PA X e t)(i:∀σ H Q,u σ H Q->t σ H Q):PA X e u:=⟨λpos pins s σ H Q I q=>h pos pins s σ H Q I (i σ H Q q)⟩
mutual
noncomputable def pd:Tr->PyData
 |.non=>.none
 |.bl b=>.bool b
 |.int i=>.int i
 |.str x=>.str x
 |.tup ts=>.tuple (El ts)
 |.lst ts=>.list (El ts)
 |.bV _=>.none
noncomputable def El:List Tr->List PyData
 | []=>[]
 |t::r=>pd t::El r
end
noncomputable def nw(H H':Hp):Hp:=λb=>match H b with
 |none=>H' b
 |some _=>none
noncomputable def But(p:Addr)(H H':Hp):Prop:=∀b u,b≠p->H b=some u->H' b=some u
theorem But.refl(p:Addr)(H:Hp):But p H H:=λ_ _ _ e=>e
theorem But.trans(a:But p H H1)(b:But p H1 H2):But p H H2:=λx u n e=>b x u n (a x u n e)
theorem But.put(p:Addr)(H:Hp)(o:HO):But p H (upd H p o):=λb u n e=>by rw[aL n]; exact e
theorem But.new(h:H r=none)(o:HO):But p H (upd H r o):=λb u _ e=>fY h o b u e
theorem But.free(h:But p H H')(hp:H' p=some o)(e:H' b=none):H b=none:=by
 cases e':H b with
 |none=>rfl
 |some u =>
  by_cases n:b=p
  .rw[n,hp]at e; cases e
  .rw[h b u n e']at e; cases e
noncomputable def iG(P:Program)(w:World):gO:=λouter H s E e s'=>∃ea cls a0 H' B,e=.ref ea/\E cls none H'/\s'.os=s.os/\AllBare s'.gens/\Un (frs outer) [] H H' s.heap s'.heap/\cQ P w H' B /\
 Heap.FlyingW B outer ea cls a0 s'.heap/\∀b o,s.heap.get? b=some o->b∉frs outer->∃o',B.get? b=some o'
theorem acN(hf:env.frame=some L)(h:b∈frs (env::outer)):b=L\/b∈frs outer:=by
 unfold frs at h
 rw[List.filterMap_cons_some hf]at h
 exact List.mem_cons.mp h
theorem acO(h:b∈frs outer):b∈frs (env::outer):=by
 obtain⟨e,he,q⟩:=List.mem_filterMap.mp h
 exact List.mem_filterMap.mpr ⟨e,List.mem_cons_of_mem _ he,q⟩
theorem acP(x:cQ P w H h)(fr:∀b∈l,H b=none):cQ P w H (PySem.W.hideAll h l):=λa o e =>
 (x a o e).stay (λb u hb q=>PySem.W.hideAll_get _ q λhm=>by
  rcases hb with rfl|hb
  .rw[fr _ hm]at e; cases e
  .rw[fr _ hm]at hb; cases hb) (λ_ q=>q) λ_ _ q=>q
section
variable {P:Program}{w:World}{K:PySem.W.Frag}{mg:Str->Option Value}{base:Heap}{N:List Str}{qual:Str}{scope:Scope}{f:Addr}{cd:Value}{A:Around}{outer:List Env}{s:Shared}{H:Hp}{E:XK}{CX:gO}
theorem Un.left{pins:List (Addr × Obj)}{σ : St}{H1 H2:Hp}{s1:Shared}{h2 h3 B:Heap}(I:Inv (iC CX P w K mg base N qual scope f cd A outer s H E) pins σ H1 s1)
  (u:Un (frs (envOfC qual scope s.heap.objs.size f cd::outer)) [] H1 H2 s1.heap h2) (st:B.StaysIn h2) (kb:∀b o,s1.heap.get? b=some o->b∉frs (envOfC qual scope s.heap.objs.size f cd::outer)->∃o',B.get? b=some o')
  (fl:B.StaysIn h3) (sl:h2.UpToSlots h3):Un (frs outer) [] H H2 s.heap h3/\∀b o,s.heap.get? b=some o->b∉frs outer->∃o',B.get? b=some o':=by
 have ub:=I.base
 have hf:(envOfC qual scope s.heap.objs.size f cd).frame=some s.heap.objs.size:=by
  rcases I.ok.stk with z|z
  .exact absurd (congrArg List.length z) (by show outer.length+1≠outer.length; lia)
  .exact z.2
 have no:∀b o,s.heap.get? b=some o->b∉frs outer->b∉frs (envOfC qual scope s.heap.objs.size f cd::outer):=λb o e n z=>by
  rcases acN hf z with rfl|z
  .exact absurd (Heap.lt_size e) (Nat.lt_irrefl _)
  .exact n z
 have nx:∀b:Addr,b∉([]:List Addr):=λb z=>nomatch z
 have inB:∀b o,s.heap.get? b=some o->b∉frs outer->∃o',B.get? b=some o':=λb o e n=>by
  obtain⟨o1,e1⟩:=ub.there b o e (nx b)
  exact kb b o1 e1 (no b o e n)
 have slots:∀b o,s.heap.get? b=some o->H b=none->b∈frs outer->∃sl,h3.get? b=some {o with slots:=sl }:=λb o e n z=>by
  obtain⟨Pk,e1⟩:=ub.slot b o e n z (nx b)
  obtain⟨sl2,e2⟩:=u.slot b _ e1 (ub.free b o e n (nx b)) (acO z) (nx b)
  obtain⟨_,o',e',nf⟩:=I.ok.jf.mem z
  have e'':s.heap.get? b=some o':=e'
  rw[e]at e''
  cases e''
  obtain⟨Em,e3⟩:=sl b _ e2 nf
  exact⟨Em,e3⟩
 refine⟨⟨λb o e n z _=>?_,λb o e n z _=>slots b o e n z,λb o e n _=>?_,λb o e _=>?_,λb xs q=>u.tups b xs (ub.tups b xs q),λb o q z=>u.gJ b o q (ub.gJ b o q z),λb ps q=>?_⟩,inB⟩
 .have e1:=ub.keep b o e n z (nx b)
  have e2:=u.keep b o e1 (ub.free b o e n (nx b)) (no b o e z) (nx b)
  obtain⟨o',e3⟩:=inB b o e z
  have e4:=st b o' e3
  rw[e2]at e4
  cases e4
  exact fl b o e3
 .obtain⟨o1,e1⟩:=ub.there b o e (nx b)
  exact u.free b o1 e1 (ub.free b o e n (nx b)) (nx b)
 .by_cases z:b∈frs outer
  .obtain⟨sl,e1⟩:=slots b o e (I.ok.nj b z) z
   exact⟨_,e1⟩
  .obtain⟨o',e1⟩:=inB b o e z
   exact⟨o',fl b o' e1⟩
 .obtain⟨m1,e1⟩:=ub.gK b ps q
  obtain⟨m2,e2⟩:=u.gK b _ e1
  exact⟨m1++m2,by rw[e2,Array.append_assoc]⟩
end
noncomputable def Raises(X:Cx)(E:XK):Prop:=∀(pins:List (Addr × Obj)) (σ : St) (H:Hp) (s:Shared) (h':Heap) (e C:Addr) (us:List Value),Inv X pins σ H s->Heap.MadeExcOf s.heap h' e (.ref C) us->E (.ref C) none H->X.xe (.ref e) {s with heap:=h' }
theorem Pn{P:Program}{w:World}{K:PySem.W.Frag}{mg:Str->Option Value}{base:Heap}{N:List Str}{qual:Str}{scope:Scope}{f:Addr}{cd:Value}{A:Around}{outer:List Env}{s:Shared}{H:Hp}{E:XK} :
  Raises (iC (iG P w) P w K mg base N qual scope f cd A outer s H E) E:=by
 intro pins σ H1 s1 h' e C us I hx q
 have hs:=I.stack
 have hf:(envOfC qual scope s.heap.objs.size f cd).frame=some s.heap.objs.size:=by
  rcases I.ok.stk with z|z
  .exact absurd (congrArg List.length z) (by show outer.length+1≠outer.length; lia)
  .exact z.2
 have hin:∀env∈(envOfC qual scope s.heap.objs.size f cd::outer),∀a,env.frame=some a->a∈frs (envOfC qual scope s.heap.objs.size f cd::outer):=λenv he b hb=>List.mem_filterMap.mpr ⟨env,he,hb⟩
 have Pq:(PySem.W.hideAll s1.heap (frs (envOfC qual scope s.heap.objs.size f cd::outer))).StaysIn s1.heap:=λb o z=>PySem.W.of_hideAll _ z
 have stH:=λb o z=>hx.keeps b o (Pq b o z)
 refine wpAny_leaves_madeW (base:=PySem.W.hideAll s1.heap (frs (envOfC qual scope s.heap.objs.size f cd::outer))) (h:=s1.heap) I.ok.frames hf Pq (PySem.W.funFrames_hide hs hin) hx λh'' t fl _ _ sl=>?_
 obtain⟨un,ib⟩:=Un.left (B:=PySem.W.hideAll s1.heap (frs (envOfC qual scope s.heap.objs.size f cd::outer))) I (Un.kept (h':=h') hx.keeps) stH (λb o z n=>⟨o,PySem.W.hideAll_get _ z n⟩) fl.1 sl
 exact⟨e,.ref C,.ref t,H1,_,rfl,q,I.os,I.bare,un,acP I.hok I.xQ,fl,ib⟩
theorem Pu{P:Program}{w:World}{K:PySem.W.Frag}{mg:Str->Option Value}{base:Heap}{N:List Str}{qual:Str}{scope:Scope}{f:Addr}{cd:Value}{A:Around}{outer:List Env}{s:Shared}{H:Hp}{E:XK} :
  Passes (iG P w) (iC (iG P w) P w K mg base N qual scope f cd A outer s H E) E:=by
 intro pins σ H1 s1 e s' I h
 obtain⟨ea,cls,a0,H2,B,rfl,q,os,bare,un,hok,fl,kb⟩:=h
 have hf:(envOfC qual scope s.heap.objs.size f cd).frame=some s.heap.objs.size:=by
  rcases I.ok.stk with z|z
  .exact absurd (congrArg List.length z) (by show outer.length+1≠outer.length; lia)
  .exact z.2
 refine wpAny_leaves_onW (base:=B) I.ok.frames hf fl λh'' yE sl=>?_
 obtain⟨un',ib⟩:=Un.left (B:=B) I un fl.1 kb yE.1 sl
 exact⟨ea,cls,a0,H2,B,rfl,q,os.trans I.os,bare,un',hok,yE,ib⟩
noncomputable def acQ(E:XK)(C:Addr)(te:TE):TS:=λ_ σ H=>te σ H λv H1=>[v].length=1/\E (.ref C) none H1
theorem acR(R:Raises X E)(O:OwnCls x C bm newId X.mg X.base)(FB:ExcBaseFacts B newId initId bm)(hc:X.calm=true)(ha:PE X e te)
  (hg:Gl X x:=by rfl) (hd:(x == ("__debug__" : Str))=false:=by decide) (hs:starEach [e] X.env=[(false,eval e X.env)]:=by rfl) :
  PS X (.Raise (some (.Call (.Name x np) [e] [] cpos)) none pos) (acQ E C te):=by
 refine⟨λpins s σ H D I h=>?_⟩
 obtain⟨tl,N,nm,q,bs,hdct,sn,sub,ab,col,dd,k0,k1,k2,k3,k5,mN,hC,hN,hni,T⟩:=O.obj
 refine wpAny_Raise_call_subT (C:=C) (nm:=nm) (q:=q) (N:=N) (bs:=bs) (bm:=tl) (hdct:=hdct) (sn:=sn) (sub:=sub) (ab:=ab) (col:=col) (dd:=dd) (k0:=k0) (k1:=k1) (k2:=k2) (k3:=k3) (k5:=k5)
  FB (mN:=mN) (T.hasType FB.hasBase) (I.ok.hd hc) (by rw[hs]; rfl) hni (Dg I hg O.bound ⟨rfl,?_⟩ hd)
 have ga:=pL ha uQ (by rw[hs]; rfl)
 have z:=ga cpos pins s σ H (λvs H1=>vs.length=1/\E (.ref C) none H1) I (by
  exact h)
 rw[hs]at z ⊢
 refine Calls.evalArgs_plain (wpAny_mono z (λus s₂ h₂=>?_) λ_ _ y=>y)
 obtain⟨vs,H2,I2,rv,hl,hE⟩:=h₂
 refine⟨rfl,?_,I2.bk _ _ hC,hN.keeps I2.bk,T.keeps I2.bk,λh' e' hm=>R pins σ H2 s₂ h' e' C us I2 hm hE⟩
 rw[<-rv.length,hl]
 decide
noncomputable def XP(X:Cx)(pins:List (Addr × Obj))(EX:St->XK)(e:Value)(s':Shared):Prop:=∃σ H s,Inv X pins σ H s/\iG X.prog X.w X.stack H s (EX σ) e s'
noncomputable abbrev TX:=Ends->(St->XK)->St->Hp->Prop
noncomputable abbrev TEX:=(St->XK)->TE
end L2
end
section
namespace L2
open PySem PySem.Spec PyProof.Rows PySem.W PySem.Builtin PySem.Builtin.ObjectAttr PySem.Builtin.Getset_descriptor
structure nY(K:Frag)(C:Addr):Prop where
 ga:findIn K (.ref C) "__getattribute__" = some (some (.builtin "BaseException.__getattribute__"))
 gn:findIn K (.ref C) "__getattr__" = some none
 cl:findIn K (.ref C) "__class__" = some (some (.builtin "object.__class__"))
 ob:mroIn K C (.type "object")=some true
 be:mroIn K C (.type "BaseException")=some true
 is:(clsIn K C).isSome=true
section
variable {prog:Program}{w:World}{A:Around}{E:Value->Shared->Prop}{h:Heap}{g:Array GenState}{d:Drawn}{t:Nat}{os:OsState}{a C:Addr}{o:Obj}{K:Frag}
theorem acS(X:K.In h)(Z:nY K C)(hx:h.get? a=some o)(hc:o.cls=.ref C)(hq:R (.ok (.ret (.ref C))) ⟨h,g,d,t,os⟩) :
  codeAny (model prog w) A (.call (.builtin "getset_descriptor.__get__") ⟨[.builtin "object.__class__",.ref a,.ref C],[]⟩) R ⟨h,g,d,t,os⟩:=by
 have ty:Looks (model prog w) h (typeOf (.ref a)) (.ref C):=hc▸(Looks.ld hx).andThen .now
 have ms:=looks_mroIn (M:=model prog w) X Z.ob
 refine codeAny_call_builtin KF.slot_gs.plain KF.entry_gs (KF.slot_gs.check _ _ _ _ _ _ _ _ KF.type_class (KF.args_gs _ _ _) ?_)
 unfold Builtin.«getset_descriptor.__get__»
 unfold Builtin.Getset_descriptor.descrGet
 rw[dga_obj]
 refine wpAny_bind (wpAny_pure ?_)
 unfold Builtin.Getset_descriptor.descrGetter
 unfold Builtin.Getset_descriptor.descrCheckInstance
 unfold Builtin.Getset_descriptor.descrNameAndClass
 unfold isInstance
 simp only[KF.owner_class]
 repeat lk
 refine⟨Code.quiet_builtin _ (by decide +kernel),codeAny_builtin KF.entry_class ?_⟩
 unfold Builtin.«object.__class__»
 unfold shownTypeOf
 repeat lk
 all_goals first|exact hq|assumption
theorem acT(X:K.In h)(Z:nY K C)(hx:h.get? a=some o)(hc:o.cls=.ref C)(hq:Q (.done (.ret (.ref C))) ⟨h,g,d,t,os⟩) :
  wpAny (model prog w) A (Builtin.«object.__getattribute__» ⟨[.ref a,.str "__class__" tk],[]⟩) Q E ⟨h,g,d,t,os⟩:=by
 have hT5:(⟨h,g,d,t,os⟩:Shared).TypeIs (.builtin "object.__class__") "getset_descriptor" := KF.type_class
 have f6:=F.slot_gs_get.lookup
 have f7:=F.slot_gs_set.lookup
 have lc:=λA (Q:Option Value->Shared->Prop) E (q:Q (some (.builtin "object.__class__")) ⟨h,g,d,t,os⟩)=>looks_findIn (M:=model prog w) X Z.cl A Q E ⟨h,g,d,t,os⟩ (λ_ _ z=>z) q
 repeat(any_goals (first|assumption|(with_reducible refine wpAny_loadPart_at hx ?_; rw[hc])|with_reducible refine lc _ _ _ ?_|wp_step))
 refine acS X Z hx hc ?_
 repeat(any_goals (first|assumption|wp_step))
theorem acU(X:K.In h)(Z:nY K C)(hx:h.get? a=some o)(hc:o.cls=.ref C)(hq:Q () ⟨h,g,d,t,os⟩) :
  wpAny (model prog w) A (checkBuiltinCall "BaseException.__getattribute__" ⟨[.ref a,nameV],[]⟩) Q E ⟨h,g,d,t,os⟩:=by
 have b1:builtinKind "BaseException.__getattribute__" = some .slot:=by decide +kernel
 have b2:splitId "BaseException.__getattribute__" = some ("BaseException", "__getattribute__"):=by decide +kernel
 have ha:=F.args_bexc_ga (.ref a) nameV
 have lc:=λA (Q:Bool->Shared->Prop) E (q:Q true ⟨h,g,d,t,os⟩)=>looks_mroIn (M:=model prog w) X Z.be A Q E ⟨h,g,d,t,os⟩ (λ_ _ z=>z) q
 simp only[checkBuiltinCall,b1,b2]
 refine wpAny_bind ?_
 unfold isInstance
 repeat(first|(with_reducible refine wpAny_loadPart_at hx ?_; rw[hc])|with_reducible refine lc _ _ _ ?_|wp_step)
 exact hq
theorem acV(X:K.In h)(Z:nY K C)(hx:h.get? a=some o)(hc:o.cls=.ref C)(hq:R (.ok (.ret (.ref C))) ⟨h,g,d,t,os⟩) :
  codeAny (model prog w) A (.call (.builtin "BaseException.__getattribute__") ⟨[.ref a,.str "__class__" tk],[]⟩) R ⟨h,g,d,t,os⟩ :=
 codeAny_call_builtin PySem.F.attr_ValueError.ga.plain F.entry_bexc_ga (acU X Z hx hc (acT X Z hx hc hq))
theorem acW(X:K.In h)(Z:nY K C)(hx:h.get? a=some o)(hc:o.cls=.ref C)(hq:Q (.ref C) ⟨h,g,d,t,os⟩) :
  wpAny (model prog w) A (getAttrBy (.ref a) (.str "__class__" tk) false) Q E ⟨h,g,d,t,os⟩:=by
 have f3:=PySem.F.attr_ValueError.ga.bind (.ref a)
 have hx2:(Value.builtin "BaseException.__getattribute__" == Value.builtin "object.__getattribute__")=false:=by decide +kernel
 have hx1:(onTheHeap (Value.ref C)&&Value.builtin "BaseException.__getattribute__" == Value.builtin "object.__getattribute__")=false:=by rw[hx2]; rfl
 have l1:=λA (Q:Option Value->Shared->Prop) E (q:Q (some (.builtin "BaseException.__getattribute__")) ⟨h,g,d,t,os⟩)=>looks_findIn (M:=model prog w) X Z.ga A Q E ⟨h,g,d,t,os⟩ (λ_ _ z=>z) q
 have l2:=λA (Q:Option Value->Shared->Prop) E (q:Q none ⟨h,g,d,t,os⟩)=>looks_findIn (M:=model prog w) X Z.gn A Q E ⟨h,g,d,t,os⟩ (λ_ _ z=>z) q
 repeat(any_goals (first|assumption|(with_reducible refine wpAny_loadPart_at hx ?_; rw[hc])|with_reducible refine l1 _ _ _ ?_|with_reducible refine l2 _ _ _ ?_|wp_step))
 refine acV X Z hx hc ?_
 repeat(any_goals (first|assumption|wp_step))
theorem acX(X:K.In h)(Z:nY K C)(hx:h.get? a=some o)(hc:o.cls=.ref C)(hq:Q (some (.ref C)) ⟨h,g,d,t+1,os⟩) :
  wpAny (model prog w) A (getAttr? (.ref a) "__class__") Q E ⟨h,g,d,t,os⟩:=by
 repeat(any_goals (first|assumption|with_reducible apply acW X Z hx hc|wp_step))
theorem acY(Z:nY K C):KitX K (.ref a) (.ref C) (Ed a C) where
 ty:=λ_ _ _ ⟨o,_,h1,h2,_⟩=>h2▸(Looks.ld h1).andThen .now
 it:=λ_ _ X _=>by
  obtain⟨cd,e⟩:=Option.isSome_iff_exists.mp Z.is
  unfold clsIn at e
  split at e
  .rename_i ho
   intro A' Q' E' s' k q
   unfold isType loadHead
   exact wpAny_bind (wpAny_loadPart (k _ _ (X _ _ ho)) (wpAny_pure q))
  .cases e
 ne:=λh tp dd its n sl X htp=>by
  obtain⟨cd,e⟩:=Option.isSome_iff_exists.mp Z.is
  refine Bool.eq_false_iff.mpr λq=>?_
  have q':C=tp:=Value.ref.inj (beq_iff_eq.mp q)
  subst q'
  unfold clsIn at e
  split at e
  .rename_i ho
   have z:=(X _ _ ho).symm.trans htp
   cases z
  .cases e
 ca:=λ{_ _ _ _ _ s} X p k=>by
  obtain⟨h,g,d,t,os⟩:=s
  obtain⟨o,_,h1,h2,_⟩:=p
  exact acX X Z h1 h2 k
end
open PySem
theorem acZ(a b:Int):a=b*a.fdiv b+a.fmod b:=by
 have:=Int.mul_fdiv_add_fmod a b
 omega
theorem Px(a b:Int)(h:b≠0):(a.fmod b).natAbs<b.natAbs:=by
 have h1:=Int.emod_nonneg a h
 have h2:=Int.emod_lt a h
 rw[Int.fmod_eq_emod]
 split
 .omega
 .rename_i hn
  have hb:¬0<=b:=λz=>hn (.inl z)
  have hd:¬b∣a:=λz=>hn (.inr z)
  have h3:a%b≠0:=λz=>hd (Int.dvd_of_emod_eq_zero z)
  omega
theorem Py(a b:Int):Int.gcd b (a.fmod b)=Int.gcd a b:=by
 have e:=acZ a b
 apply Nat.dvd_antisymm
 .refine Int.dvd_gcd ?_ ?_
  .have h1:(Int.gcd b (a.fmod b):Int)∣b:=Int.gcd_dvd_left ..
   have h2:(Int.gcd b (a.fmod b):Int)∣a.fmod b:=Int.gcd_dvd_right ..
   have h3:=Int.dvd_add (Int.dvd_mul_of_dvd_left (c:=a.fdiv b) h1) h2
   rw[<-e]at h3
   exact h3
  .exact Int.gcd_dvd_left ..
 .refine Int.dvd_gcd ?_ ?_
  .exact Int.gcd_dvd_right ..
  .have h1:(Int.gcd a b:Int)∣a:=Int.gcd_dvd_left ..
   have h2:(Int.gcd a b:Int)∣b:=Int.gcd_dvd_right ..
   have e2:a.fmod b=a-b*a.fdiv b:=by omega
   rw[e2]
   exact Int.dvd_sub h1 (Int.dvd_mul_of_dvd_left h2)
theorem ac0(a:Int):(if a<0 then -a else a)=((Int.gcd a 0:Nat):Int):=by
 rw[Int.gcd_zero_right]
 split <;> omega
theorem pU(hb:0<b):0<((Int.gcd a b:Nat):Int)/\((Int.gcd a b:Nat):Int)<=b/\1<=b / (Int.gcd a b:Nat)/\Int.gcd (a / (Int.gcd a b:Nat)) (b / (Int.gcd a b:Nat))=1/\(0<=a->0<=a / (Int.gcd a b:Nat)) /\
  a=(a / (Int.gcd a b:Nat))*(Int.gcd a b:Nat)/\b=(b / (Int.gcd a b:Nat))*(Int.gcd a b:Nat):=by
 have hg:0<Int.gcd a b:=Int.gcd_pos_of_ne_zero_right a (by omega)
 have hgi:0<((Int.gcd a b:Nat):Int):=by omega
 have d1:(Int.gcd a b:Int)∣a:=Int.gcd_dvd_left ..
 have d2:(Int.gcd a b:Int)∣b:=Int.gcd_dvd_right ..
 have e1:=Int.ediv_mul_cancel d1
 have e2:=Int.ediv_mul_cancel d2
 refine⟨hgi,Int.le_of_dvd hb d2,?_,Int.gcd_ediv_gcd_ediv_gcd hg,λh=>Int.ediv_nonneg h (by omega),e1.symm,e2.symm⟩
 have:0<b / (Int.gcd a b:Nat):=Int.ediv_pos_of_pos_of_dvd hb (by omega) d2
 omega
open PySem.Spec PyProof.Rows
theorem ac1(h1:1<=q)(h2:1<=q')(g1:Int.gcd p q=1)(g2:Int.gcd p' q'=1)(e:p*q'=p'*q):p=p'/\q=q':=by
 have en:p.natAbs*q'.natAbs=p'.natAbs*q.natAbs:=by rw[<-Int.natAbs_mul,<-Int.natAbs_mul,e]
 have c1:Nat.Coprime q.natAbs p.natAbs:=by rw[Nat.coprime_comm]; exact g1
 have c2:Nat.Coprime q'.natAbs p'.natAbs:=by rw[Nat.coprime_comm]; exact g2
 have d1:q.natAbs∣q'.natAbs:=c1.dvd_of_dvd_mul_left ⟨p'.natAbs,by rw[en,Nat.mul_comm]⟩
 have d2:q'.natAbs∣q.natAbs:=c2.dvd_of_dvd_mul_left ⟨p.natAbs,by rw[<-en,Nat.mul_comm]⟩
 have ea:=Nat.dvd_antisymm d1 d2
 have eq:q=q':=by lia
 refine⟨?_,eq⟩
 rw[<-eq]at e
 exact Int.eq_of_mul_eq_mul_right (by lia) e
open PySem.W
theorem ac2{K:Frag}{h:Heap}{mg:Str->Option Value}{x:Str}{C:Addr}{bmB:List Value}{newId:String}(X:K.In h)(G:h.Ns mainGlobals mg)(e:nsIn K mainGlobals x=some (some (.ref C)))(q:excIn K C bmB newId=true):OwnCls x C bmB newId mg h:=by
 constructor
 .exact mg_of X G e
 unfold excIn at q
 split at q
 case h_2=>cases q
 rename_i dd cd sl lk
 split at q
 case h_2=>cases q
 rename_i c0 bm y0 y1 y2 y3 nid y5 hm hl
 rw[Bool.and_eq_true,Bool.and_eq_true,Bool.and_eq_true,Bool.and_eq_true,Bool.and_eq_true]at q
 obtain⟨⟨⟨⟨⟨q1,q2⟩,q3⟩,q4⟩,q5⟩,q6⟩:=q
 have r1:=beq_iff_eq.mp q1
 have r2:=beq_iff_eq.mp q2
 have r6:=beq_iff_eq.mp q6
 have r3:cd.hasDel=false:=by simpa using q3
 subst r1 r2
 have hsl:sl = #[y0,y1,y2,y3,some (.builtin nid),y5]:=by
  cases sl with
  |mk l=>exact congrArg Array.mk hl
 subst hsl
 cases cd with
 |mk nm bs mro ns qn hd sn sub ab col del =>
  subst hm r3
  exact⟨bm,ns,nm,qn,bs,hd,sn,sub,ab,col,dd,y0,y1,y2,y3,y5,_,X _ _ lk,.of_isNs (isNs_of_in X q5),nsMap_none_of_in X q5 r6,tail_of_in X q4⟩
section
variable {P:Program}{w:World}{K:Frag}{mg:Str->Option Value}{base:Heap}
theorem lU.okX{x qual:Str}{st:Stmt}{f:Addr}{fd:FuncData}{N ps:List Str}{k:Nat}{sp:Sp}(F:lU K x qual st f fd)(S:pO N ps (bU st))(len:∀vs H Q E,sp vs H Q E->vs.length=ps.length)
  (hbody:∀(cdv:Value) (A:Around) (outer:List Env) (s:Shared) (H:Hp) (vs:List V) (Q:VK) (E:XK),dg k (A.deeper (envOfC qual (bU st) s.heap.objs.size f cdv))->sp vs H Q E ->
   ∃t,dN (iC (iG P w) P w K mg base N qual (bU st) f cdv A outer s H E) (gQ st) t/\t {nx:=λ_ H'=>Q .non H',rt:=Q } (start N vs) H):gP P w K mg base (iG P w) (k+1) f fd ps sp:=by
 obtain⟨oc,od,kV,doc,pm,an,cdv,ct,osl,rfl,lk,hcd⟩:=F.ex
 exact Dw lk hcd S len λA outer s H vs Q E hr h=>hbody cdv A outer s H vs Q E hr h
noncomputable def kJ(P:Program)(w:World)(K:Frag)(mg:Str->Option Value)(base:Heap)(k:Nat)(x:Str)(ps:List Str)(sp:Sp):Prop :=
 ∃f fd,gP P w K mg base (iG P w) k f fd ps sp/\Binds K fd ps []/\keepIn K (.ref f)=true/\mg x=some (.ref f)
theorem kJ.mono(D:kJ P w K mg base j x ps sp)(h:j<=k):kJ P w K mg base k x ps sp:=by
 obtain⟨f,fd,h1,h2⟩:=D
 exact⟨f,fd,h1.mono h,h2⟩
theorem At.dfx{k:Nat}{x:Str}{st:Stmt}{N ps:List Str}{sp:Sp}(a:At K mg x st)(S:pO N ps (bU st))
  (hb:∀(kV doc pm:Value) (an:Option Addr) (cdv ct:Value) (us:List Value),us.length=ps.length->bindArgs (fnOf x x (jR st) (gQ st) (bU st) .none kV doc pm an cdv ct) ⟨us,[]⟩=pure (ps.zip us))
  (len:∀vs H Q E,sp vs H Q E->vs.length=ps.length)
  (hbody:∀(f:Addr) (cdv:Value) (A:Around) (outer:List Env) (s:Shared) (H:Hp) (vs:List V) (Q:VK) (E:XK),dg k (A.deeper (envOfC x (bU st) s.heap.objs.size f cdv))->sp vs H Q E ->
   ∃t,dN (iC (iG P w) P w K mg base N x (bU st) f cdv A outer s H E) (gQ st) t/\t {nx:=λ_ H'=>Q .non H',rt:=Q } (start N vs) H):kJ P w K mg base (k+1) x ps sp:=by
 obtain⟨f,fd,F,m⟩:=a
 exact⟨f,fd,F.okX S len λcdv A outer s H vs Q E hr h=>hbody f cdv A outer s H vs Q E hr h,F.binds hb,F.kp,m⟩
end
section
variable {X:Cx}{k:Nat}{x:Str}{ps:List Str}{sp:Sp}{p pos:Pos}{e:Expr}{es:List Expr}{t:TA}
theorem PB:Passes (iG P w) X E0:=λ_ _ _ _ _ _ _ h=>by
 obtain⟨_,_,_,_,_,_,q,_⟩:=h
 exact q.elim
end
noncomputable def Sx(p:Addr)(H H':Hp):Prop:=∀b o,b≠p->H b=some o->H' b=some o
theorem Sx.refl(p:Addr)(H:Hp):Sx p H H:=λ_ _ _ h=>h
theorem Sx.trans(a:Sx p H H1)(b:Sx p H1 H2):Sx p H H2:=λc o n h=>b c o n (a c o n h)
theorem Sx.put(p:Addr)(H:Hp)(o:HO):Sx p H (upd H p o):=λb u n h=>by rw[aL n]; exact h
theorem Sx.of(s:Same H H'):Sx p H H':=λb o _ h=>s b o h
end L2
end
section
namespace L2
open PySem PySem.Spec PyProof.Rows
noncomputable def PJ(K:PySem.W.Frag)(l1 l2:Addr):It where
 go:=λi H=>∃xs ys x y,aK K H l1 xs/\aK K H l2 ys/\xs[i]?=some x/\ys[i]?=some y
 jP:=λi H v H'=>∃T x y,v=.ref T/\H T=none/\H'=upd H T (.tup [x,y])/\∀xs ys,aK K H l1 xs->aK K H l2 ys->xs[i]?=some x/\ys[i]?=some y
 stop:=λi H=>∃xs ys,aK K H l1 xs/\aK K H l2 ys/\i=min xs.length ys.length
noncomputable def ac3(l1 l2 z TI TO i1 i2:Addr)(i:Nat)(h:Heap):Prop:=IsZip h z TI TO .none/\IsPair h TI (.ref i1) (.ref i2)/\(∃a b,IsPair h TO a b)/\h.IsListIter i1 l1 i/\h.IsListIter i2 l2 i
section
variable {P:Program}{w:World}{K:PySem.W.Frag}
theorem Inv.Eo{pins:List (Addr × Obj)}{tk:Nat}{fp:List Addr}{xs:List V}{its:List Value}(I:Inv X pins σ H s)(hf:∀b∈fp,cg X pins H b)(k:∀b o,b∉fp->s.heap.get? b=some o->h'.get? b=some o)
  (th:∀b∈fp,∃o,h'.get? b=some o) (hT:s.heap.objs.size<=T) (ht:IsTup h' T its.toArray) (rv:Vals xs its) (hz:xs.length<=sizeLine):Inv X pins σ (upd H T (.tup xs)) {s with heap:=h',toks:=tk }:=by
 have fT:H T=none:=I.hok.fresh hT
 have neT:∀b o,s.heap.get? b=some o->b≠T:=λb o e z=>by rw[z]at e; exact absurd (Heap.lt_size e) (Nat.not_lt.mpr hT)
 have uY:∀b o,H b=some o->b≠T:=λb o e z=>by rw[z,fT]at e; cases e
 refine I.step (g':=s.gens) (d':=s.drawn) (ch:=fp) (λb hb=>?_) (λb o _ _ hc e _=>k b o hc e) (λb o _ _ hc e _=>⟨o.slots,k b o hc e⟩) (λb o _ e n=>by rw[aL (neT b o e)]; exact n) (λb o hc e=>⟨o,k b o hc e⟩)
  (λb ys e=>by rw[aL (uY b _ e)]; exact e) (λb o u e=>by rw[aL (uY b _ e)]; exact e) (λb ps e=>⟨#[],by rw[aL (uY b _ e)]; simpa using e⟩) (λm hm=>?_) (λb u e=>?_) I.bare
 .obtain⟨f0,f1,f2,f3,f4,f5⟩:=hf b hb
  exact⟨f3,f1,f4,f5⟩
 .obtain⟨o,es,ep,ho,r⟩:=hm
  exact⟨o,es,ep,k _ o (λz=>(hf _ z).2.1 rfl) ho,r⟩
 .by_cases z:b=T
  .subst z
   rw[cN]at e
   cases e
   exact⟨hz,its,rv,ht⟩
  .rw[aL z]at e
   refine(I.hok b u e).stay (λc o hc q=>k c o (λzc=>?_) q) (λc q=>by rw[aL (uY c _ q)]; exact q) λc ys q=>by rw[aL (uY c _ q)]; exact q
   have:=(hf c zc).1
   rcases hc with rfl|hc
   .rw[this]at e; cases e
   .rw[this]at hc; cases hc
theorem Inv.Ep{pins:List (Addr × Obj)}{tk:Nat}{fp:List Addr}(I:Inv X pins σ H s)(hf:∀b∈fp,cg X pins H b)(k:∀b o,b∉fp->s.heap.get? b=some o->h'.get? b=some o):Inv X pins σ H {s with heap:=h',toks:=tk }:=by
 refine I.step (g':=s.gens) (d':=s.drawn) (ch:=fp) (λb hb=>?_) (λb o _ _ hc e _=>k b o hc e) (λb o _ _ hc e _=>⟨o.slots,k b o hc e⟩) (λb o _ e n=>n) (λb o hc e=>⟨o,k b o hc e⟩)
  (λb ys e=>e) (λb o u e=>e) (λb ps e=>⟨#[],by simpa using e⟩) (λm hm=>?_) (λb u e=>?_) I.bare
 .obtain⟨f0,f1,f2,f3,f4,f5⟩:=hf b hb
  exact⟨f3,f1,f4,f5⟩
 .obtain⟨o,es,ep,ho,r⟩:=hm
  exact⟨o,es,ep,k _ o (λz=>(hf _ z).2.1 rfl) ho,r⟩
 .refine(I.hok b u e).stay (λc o hc q=>k c o (λzc=>?_) q) (λc q=>q) λc ys q=>q
  have:=(hf c zc).1
  rcases hc with rfl|hc
  .rw[this]at e; cases e
  .rw[this]at hc; cases hc
theorem ac4{elts:List Expr}{k:Nat}(l1 l2 z TI TO i1 i2:Addr)(D:ZipApart z TI TO i1 i2 l1 l2):Turn P w K (.Tuple elts k pos) (PJ K l1 l2) [z,TI,TO,i1,i2] z (ac3 l1 l2 z TI TO i1 i2) where
 mem:=by simp
 obj:=λi h st b hb=>by
  obtain⟨hz,hTI,⟨a,c,hTO⟩,⟨o1,e1,_,d1⟩,⟨o2,e2,_,d2⟩⟩:=st
  have hb':b=z\/b=TI\/b=TO\/b=i1\/b=i2:=by simpa using hb
  rcases hb' with rfl|rfl|rfl|rfl|rfl
  .exact⟨_,hz,λv q=>nomatch q⟩
  .exact⟨_,hTI,λv q=>nomatch q⟩
  .exact⟨_,hTO,λv q=>nomatch q⟩
  .exact⟨o1,e1,λv q=>by rw[d1]at q; cases q⟩
  .exact⟨o2,e2,λv q=>by rw[d2]at q; cases q⟩
 keep:=λi h h' st kp=>by
  obtain⟨hz,hTI,⟨a,c,hTO⟩,h1,h2⟩:=st
  exact⟨kp z (by simp) _ hz,kp TI (by simp) _ hTI,⟨a,c,kp TO (by simp) _ hTO⟩,h1.at λo e=>kp i1 (by simp) o e,h2.at λo e=>kp i2 (by simp) o e⟩
 item:=by
  intro X hP hw hK hc i pins s σ H E I hf st hg
  subst hP hw hK
  obtain⟨xs,ys,x,y,q1,q2,hx,hy⟩:=hg
  obtain⟨gR,lY,p1,_⟩:=I.list q1
  obtain⟨its2,gq,p2,_⟩:=I.list q2
  obtain⟨u,hu,ru⟩:=lY.get hx
  obtain⟨v,hv,rv⟩:=gq.get hy
  have W:=WalksT.zip2 (prog:=X.prog) (w:=X.w) (A:=X.A) (I.ok.hd hc) z TI TO i1 i2 l1 l2 D gR.toArray its2.toArray
  have lt1:i<gR.length:=(List.getElem?_eq_some_iff.mp hu).1
  have aN:i<its2.length:=(List.getElem?_eq_some_iff.mp hv).1
  refine W.item i s _ E (by simp; lia) ⟨st.1,st.2.1,st.2.2.1,st.2.2.2.1,st.2.2.2.2,p1.isList,p2.isList⟩ λT vals h' tk hp hT ht mid kk=>?_
  obtain⟨u',v',e1,e2,rfl⟩:=hp
  have eu:u'=u:=by
   have:gR[i]?=some u':=by simpa using e1
   rw[hu]at this; cases this; rfl
  have ev:v'=v:=by
   have:its2[i]?=some v':=by simpa using e2
   rw[hv]at this; cases this; rfl
  subst eu ev
  refine⟨.ref T,rfl,?_⟩
  refine W.go elts k pos i T _ _ E mid λh'' st' uZ=>?_
  have nT:=W.apart i T _ mid
  have ob:=(λb hb=>(by
   obtain⟨hz,hTI,⟨a,c,hTO⟩,⟨o1,e1,_,d1⟩,⟨o2,e2,_,d2⟩⟩:=st
   have hb':b=z\/b=TI\/b=TO\/b=i1\/b=i2:=by simpa using hb
   rcases hb' with rfl|rfl|rfl|rfl|rfl
   .exact Heap.lt_size hz
   .exact Heap.lt_size hTI
   .exact Heap.lt_size hTO
   .exact Heap.lt_size e1
   .exact Heap.lt_size e2:b<s.heap.objs.size):∀b∈[z,TI,TO,i1,i2],b<s.heap.objs.size)
  have Er:T∉[z,TI,TO,i1,i2]:=λm=>absurd (ob T m) (Nat.not_lt.mpr hT)
  have sub:∀b,b∉[z,TI,TO,i1,i2]->b∉[z,TO,i1,i2]:=λb n m=>n (by simp at m ⊢; rcases m with rfl|rfl|rfl|rfl <;> simp)
  have Es:IsTup h'' T #[u',v']:=by
   obtain⟨o,e,r⟩:=ht
   exact⟨o,uZ T o nT e,r⟩
  have th:∀b∈[z,TI,TO,i1,i2],∃o,h''.get? b=some o:=λb hb=>by
   obtain⟨hz,hTI,⟨a,c,hTO⟩,⟨o1,e1,_,d1⟩,⟨o2,e2,_,d2⟩,_⟩:=st'
   have hb':b=z\/b=TI\/b=TO\/b=i1\/b=i2:=by simpa using hb
   rcases hb' with rfl|rfl|rfl|rfl|rfl
   .exact⟨_,hz⟩
   .exact⟨_,hTI⟩
   .exact⟨_,hTO⟩
   .exact⟨_,e1⟩
   .exact⟨_,e2⟩
  have I':Inv X pins σ (upd H T (.tup [x,y])) {s with heap:=h'',toks:=tk }:=I.Eo (its:=[u',v']) hf (λb o n e=>uZ b o (sub b n) (kk b o (sub b n) e)) th hT Es (.cons ru (.cons rv .nil)) (by show 2<=sizeLine; decide)
  refine⟨.ref T,_,I',rfl,⟨T,x,y,rfl,I.hok.fresh hT,rfl,λxs' ys' a1 a2=>?_⟩,⟨st'.1,st'.2.1,st'.2.2.1,st'.2.2.2.1,st'.2.2.2.2.1⟩,λb hb=>?_⟩
  .rw[I.nA a1 q1,I.nA a2 q2]
   exact⟨hx,hy⟩
  .have nb:b≠T:=by
    intro e0
    rw[e0]at hb
    exact Er hb
   rw[aL nb]
   exact(hf b hb).1
 done:=by
  intro X hP hw hK hc i pins s σ H E I hf st hg
  subst hP hw hK
  obtain⟨xs,ys,q1,q2,e⟩:=hg
  obtain⟨gR,lY,p1,_⟩:=I.list q1
  obtain⟨its2,gq,p2,_⟩:=I.list q2
  have W:=WalksT.zip2 (prog:=X.prog) (w:=X.w) (A:=X.A) (I.ok.hd hc) z TI TO i1 i2 l1 l2 D gR.toArray its2.toArray
  have ei:i=min gR.toArray.size its2.toArray.size:=by simp[e,lY.length,gq.length]
  subst ei
  have sub:∀b,b∉[z,TI,TO,i1,i2]->b∉[z,TO,i1,i2]:=λb n m=>n (by simp at m ⊢; rcases m with rfl|rfl|rfl|rfl <;> simp)
  exact W.done s _ E ⟨st.1,st.2.1,st.2.2.1,st.2.2.2.1,st.2.2.2.2,p1.isList,p2.isList⟩ λh' tk kk=>⟨rfl,I.Ep hf λb o n e=>kk b o (sub b n) e⟩
 self:=λA i s Q E st h=>wpAny_pyIter_zip st.1 h
end
section
variable {X:Cx}
noncomputable def ac5(K:PySem.W.Frag)(ta:TA):TI:=λσ H R=>ta σ H λvs H1=>∃l1 l2,vs=[.ref l1,.ref l2]/\(∃xs,aK K H1 l1 xs)/\(∃ys,aK K H1 l2 ys)/\R (PJ K l1 l2) H1
theorem ac6(hm:X.mg "zip" = none) (ha:PA X [a,b] ta) (hg:Gl X "zip" := by rfl) (hs:starEach [a,b] X.env=[(false,eval a X.env),(false,eval b X.env)]:=by rfl) (hs2:starEach [b] X.env=[(false,eval b X.env)]:=by rfl) :
  PI X (.Tuple elts k tpos) (.Call (.Name "zip" p) [a,b] [] pos) (ac5 X.K ta):=by
 intro pins s σ H R I h
 refine Call_ (lK I hg hm (show bootBuiltins "zip" = some (.type "zip") by decide +kernel) (PyProof.Rows.callWith_type1 (aF (ha pos pins s σ H _ I h) λus s1 ⟨vs,H1,I1,r1,q1⟩=>?_) (by rw[hs,hs2]) (by rw[hs2]; rfl)))
 obtain⟨l1,l2,e,⟨xs,h1⟩,⟨ys,h2⟩,q⟩:=q1
 subst e
 cases r1 with
 |cons r rr =>
  cases rr with
  |cons r' rr =>
   cases rr
   cases r
   cases r'
   obtain⟨gR,lY,p1,_⟩:=I1.list h1
   obtain⟨its2,gq,p2,_⟩:=I1.list h2
   obtain⟨o1,e1,_⟩:=p1.isList
   obtain⟨o2,e2,_⟩:=p2.isList
   refine call_zip_2 p1.isList p2.isList λh' hz hTI hTO hi1 hi2 hsz hk=>?_
   refine wpAny_pyIter_zip hz ?_
   refine⟨_,[_,_,_,_,_],_,_,H1,rfl,I1.kept (t':=s1.toks) hk,ac4 l1 l2 _ _ _ _ _ (PySem.W.ktu_apart _ _ _ (Heap.lt_size e1) (Heap.lt_size e2)),⟨hz,hTI,⟨_,_,hTO⟩,hi1,hi2⟩,λc hc=>?_,q⟩
   have hc':c=s1.heap.objs.size+4\/c=s1.heap.objs.size+2\/c=s1.heap.objs.size+3\/c=s1.heap.objs.size\/c=s1.heap.objs.size+1:=by simpa using hc
   have hge:s1.heap.objs.size<=c:=by rcases hc' with rfl|rfl|rfl|rfl|rfl <;> lia
   exact I1.jQ hge (I1.hok.fresh hge)
end
end L2
end
section
namespace L2
open PySem
noncomputable def Sz(m:Nat)(r:Rat):Prop:=r.num.natAbs<=2 ^ m/\r.den<=2 ^ m
theorem Sz.mono(h:Sz m r)(hm:m<=n):Sz n r:=⟨Nat.le_trans h.1 (Nat.pow_le_pow_right (by decide) hm),Nat.le_trans h.2 (Nat.pow_le_pow_right (by decide) hm)⟩
theorem den_pos(r:Rat):1<=(r.den:Int):=by have:=r.den_pos; omega
theorem yF(r:Rat):Rat.divInt r.num (r.den:Int)=r:=Rat.num_divInt_den r
theorem add_eq(r s:Rat):Rat.divInt (r.num*s.den+s.num*r.den) (r.den*s.den)=r+s:=by
 have h:=Rat.divInt_add_divInt r.num s.num (d₁ := r.den) (d₂ := s.den) (by have:=den_pos r; omega) (by have:=den_pos s; omega)
 rw[yF,yF]at h
 exact h.symm
theorem mul_eq(r s:Rat):Rat.divInt (r.num*s.num) (r.den*s.den)=r*s:=by
 have h:=Rat.divInt_mul_divInt r.num s.num (d₁ := r.den) (d₂ := s.den)
 rw[yF,yF]at h
 exact h.symm
theorem Sz.d(h:Sz m r):(r.den:Int).natAbs<=2 ^ m:=by rw[Int.natAbs_natCast]; exact h.2
open PySem.Spec PyProof.Rows
section
variable {X:Cx}
noncomputable def Et(K:PySem.W.Frag):R2:=λx y H Q=>∃t ts p xs,Rep K H x t/\y=.ref p/\(aK K H p xs\/bH K H p xs)/\aA K H xs ts/\deps ts<=40/\dep t<=40/\Q (.bl (!kE t ts)) H
open Classical in
theorem ac7(hu:X.A.units+64<cLine):bB X (compareOp .NotIn) (Et X.K):=by
 intro pins s σ H x y v u Q I rx ry h
 obtain⟨t,ts,p,xs,q1,rfl,hq,qs,hd,hd2,q⟩:=h
 cases ry
 have hu1:X.A.in1.units+40<cLine:=by
  have:=in1_units X.A
  lia
 -- what == tells of an item,by the item itself
 let e:Value->Bool:=λw'=>if h:∃z tz,z∈xs/\RelV z w'/\Rep X.K H z tz/\tz∈ts then eqT (Classical.choose (Classical.choose_spec h)) t else false
 have ee:∀z w' tz,z∈xs->RelV z w'->Rep X.K H z tz->tz∈ts->e w'=eqT tz t:=λz w' tz h1 h2 h3 h4=>by
  have hx:∃z tz,z∈xs/\RelV z w'/\Rep X.K H z tz/\tz∈ts:=⟨z,tz,h1,h2,h3,h4⟩
  show(if h:_ then _ else _)=_
  rw[dif_pos hx]
  have sp:=Classical.choose_spec (Classical.choose_spec hx)
  have key:∀z z' t1 t2,RelV z w'->RelV z' w'->dep t1<=99->Rep X.K H z t1->Rep X.K H z' t2->t1=t2:=λz z' t1 t2 a1 a2 d9 a3 a4=>by
   obtain rfl:=RelV.inj a1 a2
   exact Rep.inj I d9 a3 a4
  rw[key _ _ _ _ sp.2.1 h2 (by have:=rD sp.2.2.2; lia) sp.2.2.1 h3]
 have mem:∀{its:List Value},Vals xs its->∀w'∈its,SeqAt.EqAt X.A.in1 s w' v (e w'):=by
  intro its r w' hw
  obtain⟨j,hj,ej⟩:=List.mem_iff_getElem.mp hw
  have hjx:j<xs.length:=by rw[r.length]; exact hj
  obtain⟨u',h1,h2⟩:=r.get (List.getElem?_eq_getElem hjx)
  rw[List.getElem?_eq_getElem hj,ej]at h1
  cases h1
  obtain⟨tz,h3,h4⟩:=qs.get (List.getElem?_eq_getElem hjx)
  have hm:=List.mem_of_getElem? h3
  rw[ee _ _ tz (List.getElem_mem hjx) h2 h4 hm]
  exact(yC I 40 X.A.in1 tz t _ x _ v hu1 (Nat.le_trans (rD hm) hd) (by have:=rD hm; lia) (by lia) h4 q1 h2 rx).2
 rcases hq with hq|hq
 .obtain⟨its,r,pl,hz⟩:=I.list hq
  refine SeqAt.notIn_listAt e pl.isList (λw hw=>mem r w (by simpa using hw)) ⟨.bl _,H,I,rfl,?_⟩
  rw[show its.toArray.any e=its.any e by simp,yD (λz=>eqT z t) e r qs λz w' tz h1 h2 h3 h4=>ee z w' tz h1 h2 h3 h4]
  exact q
 .obtain⟨its,r,pl,hz⟩:=I.tuple hq
  refine SeqAt.notIn_tupleAt e pl (λw hw=>mem r w (by simpa using hw)) ⟨.bl _,H,I,rfl,?_⟩
  rw[show its.toArray.any e=its.any e by simp,yD (λz=>eqT z t) e r qs λz w' tz h1 h2 h3 h4=>ee z w' tz h1 h2 h3 h4]
  exact q
end
theorem _root_.L2.bH.mono{K:PySem.W.Frag}{H H':Hp}{a:Addr}{xs:List V}(s:Same H H')(h:bH K H a xs):bH K H' a xs:=by
 rcases h with(h|h)|h
 .exact .inl (.inl (s _ _ h))
 .exact .inl (.inr (by obtain⟨o,e⟩:=h; exact⟨o,s _ _ e⟩))
 .exact .inr h
section
variable {X:Cx}
noncomputable def Eu(K:PySem.W.Frag):R2:=λx y H Q=>∃t u,Rep K H x t/\Rep K H y u/\dep t<=40/\dep u<=40/\Q (.bl (!eqT t u)) H
theorem ac8(hu:X.A.units+64<cLine):bB X (compareOp .NotEq) (Eu X.K):=by
 intro pins s σ H x y v u Q I vx vy h
 obtain⟨t,t',rx,ry,hd,du,q⟩:=h
 have hu0:X.A.units<cLine:=by lia
 have hu1:X.A.in1.units+40<cLine:=by
  have:=in1_units X.A
  lia
 have fin:SeqAt.RcNeAt X.A s v u (!eqT t t')->wpAny (model X.prog X.w) X.A (compareOp .NotEq v u) (EP X pins σ Q) X.xe s:=λh=>h _ _ _ _ ⟨.bl _,H,I,rfl,q⟩
 have items:∀{xs ys:List V} {ts us:List Tr} {its its2:List Value},Vals xs its->Vals ys its2->aA X.K H xs ts->aA X.K H ys us->deps ts<=40->deps us<=40->∀j (h1:j<its.toArray.size) (h2:j<its2.toArray.size),SeqAt.EqAt X.A.in1 s its.toArray[j] its2.toArray[j] (lW ts us j):=by
  intro xs ys ts us its its2 r1 r2 q1 q2 hde Pb j h1 h2
  obtain⟨a,ea,ra⟩:=yw r1 h1
  obtain⟨b,eb,rb⟩:=yw r2 h2
  obtain⟨ta,eta,qa⟩:=q1.get ea
  obtain⟨tb,uX,qb⟩:=q2.get eb
  rw[Pa eta uX]
  exact(yC I 40 X.A.in1 ta tb a b _ _ hu1 (Nat.le_trans (nU eta) hde) (by have:=nU eta; lia) (by have:=nU uX; lia) qa qb ra rb).2
 cases rx with
 |bV h m n=>unfold dep at hd; lia
 |non =>
  cases vx
  cases ry with
  |non=>cases vy; unfold eqT at fin; exact fin .none_none
  |bl b2=>cases vy; unfold eqT at fin; exact fin (.none_bool _)
  |int i2=>obtain⟨_,rfl⟩:=vy; unfold eqT at fin; exact fin (.none_int _ _)
  |str z2=>obtain⟨_,rfl⟩:=vy; unfold eqT at fin; exact fin (.none_str _ _)
  |tup h r=>cases vy; obtain⟨_,_,p,_⟩:=I.tuple h; unfold eqT at fin; exact fin (.none_tuple p hu0)
  |lst h r=>cases vy; obtain⟨_,_,p,_⟩:=I.list h; unfold eqT at fin; exact fin (.none_list p.isList hu0)
  |bV h m n=>unfold dep at du; lia
 |bl b =>
  cases vx
  cases ry with
  |non=>cases vy; unfold eqT at fin; exact fin (.bool_none _)
  |bl b2=>cases vy; unfold eqT at fin; exact fin (.bool_bool _ _)
  |int i2=>obtain⟨_,rfl⟩:=vy; unfold eqT at fin; exact fin (.bool_int _ _ _)
  |str z2=>obtain⟨_,rfl⟩:=vy; unfold eqT at fin; exact fin (.bool_str _ _ _)
  |tup h r=>cases vy; obtain⟨_,_,p,_⟩:=I.tuple h; unfold eqT at fin; exact fin (.bool_tuple _ p hu0)
  |lst h r=>cases vy; obtain⟨_,_,p,_⟩:=I.list h; unfold eqT at fin; exact fin (.bool_list _ p.isList hu0)
  |bV h m n=>unfold dep at du; lia
 |int i =>
  obtain⟨_,rfl⟩:=vx
  cases ry with
  |non=>cases vy; unfold eqT at fin; exact fin (.int_none _ _)
  |bl b2=>cases vy; unfold eqT at fin; exact fin (.int_bool _ _ _)
  |int i2=>obtain⟨_,rfl⟩:=vy; unfold eqT at fin; exact fin (.int_int _ _ _ _)
  |str z2=>obtain⟨_,rfl⟩:=vy; unfold eqT at fin; exact fin (.int_str _ _ _ _)
  |tup h r=>cases vy; obtain⟨_,_,p,_⟩:=I.tuple h; unfold eqT at fin; exact fin (.int_tuple _ _ p hu0)
  |lst h r=>cases vy; obtain⟨_,_,p,_⟩:=I.list h; unfold eqT at fin; exact fin (.int_list _ _ p.isList hu0)
  |bV h m n=>unfold dep at du; lia
 |str z =>
  obtain⟨_,rfl⟩:=vx
  cases ry with
  |non=>cases vy; unfold eqT at fin; exact fin (.str_none _ _)
  |bl b2=>cases vy; unfold eqT at fin; exact fin (.str_bool _ _ _)
  |int i2=>obtain⟨_,rfl⟩:=vy; unfold eqT at fin; exact fin (.str_int _ _ _ _)
  |str z2=>obtain⟨_,rfl⟩:=vy; unfold eqT at fin; exact fin (.str_str _ _ _ _)
  |tup h r=>cases vy; obtain⟨_,_,p,_⟩:=I.tuple h; unfold eqT at fin; exact fin (.str_tuple _ _ p hu0)
  |lst h r=>cases vy; obtain⟨_,_,p,_⟩:=I.list h; unfold eqT at fin; exact fin (.str_list _ _ p.isList hu0)
  |bV h m n=>unfold dep at du; lia
 | @tup a1 xs1 ts h1 r1 =>
  cases vx
  obtain⟨its,rv,p,_⟩:=I.tuple h1
  have hd':deps ts<=40:=by unfold dep at hd; lia
  cases ry with
  |non=>cases vy; unfold eqT at fin; exact fin (.tuple_none p hu0)
  |bl b2=>cases vy; unfold eqT at fin; exact fin (.tuple_bool _ p hu0)
  |int i2=>obtain⟨_,rfl⟩:=vy; unfold eqT at fin; exact fin (.tuple_int _ _ p hu0)
  |str z2=>obtain⟨_,rfl⟩:=vy; unfold eqT at fin; exact fin (.tuple_str _ _ p hu0)
  |lst h r=>cases vy; obtain⟨_,_,p2,_⟩:=I.list h; unfold eqT at fin; exact fin (.tuple_list p p2.isList hu0)
  |bV h m n=>unfold dep at du; lia
  | @tup a2 xs2 us h2 r2 =>
   cases vy
   obtain⟨its2,gq,p2,_⟩:=I.tuple h2
   have R:=SeqAt.RcNeAt.tuples (A:=X.A) (e:=lW ts us) p p2 (by lia) λj k1 k2=>items rv gq r1 r2 hd' (by unfold dep at du; lia) j k1 k2
   have el:its.toArray.size=ts.length:=by simpa using(rv.length.symm.trans r1.length)
   have el2:its2.toArray.size=us.length:=by simpa using(gq.length.symm.trans r2.length)
   rw[el,el2]at R
   have eb:((List.range (min ts.length us.length)).all (lW ts us)&&ts.length == us.length)=eqT (.tup ts) (.tup us):=by
    unfold eqT
    by_cases e:ts.length=us.length
    .rw[e,Nat.min_self,<-e,uV e,beq_self_eq_true,Bool.and_true]
    .rw[beq_false_of_ne e,Bool.and_false,uU e]
   rw[eb]at R
   exact fin R
 | @lst a1 xs1 ts h1 r1 =>
  cases vx
  obtain⟨its,rv,p,_⟩:=I.list h1
  have hd':deps ts<=40:=by unfold dep at hd; lia
  cases ry with
  |non=>cases vy; unfold eqT at fin; exact fin (.list_none p.isList hu0)
  |bl b2=>cases vy; unfold eqT at fin; exact fin (.list_bool _ p.isList hu0)
  |int i2=>obtain⟨_,rfl⟩:=vy; unfold eqT at fin; exact fin (.list_int _ _ p.isList hu0)
  |str z2=>obtain⟨_,rfl⟩:=vy; unfold eqT at fin; exact fin (.list_str _ _ p.isList hu0)
  |bV h m n=>unfold dep at du; lia
  |tup h r=>cases vy; obtain⟨_,_,p2,_⟩:=I.tuple h; unfold eqT at fin; exact fin (.list_tuple p.isList p2 hu0)
  | @lst a2 xs2 us h2 r2 =>
   cases vy
   obtain⟨its2,gq,p2,_⟩:=I.list h2
   have el:its.toArray.size=ts.length:=by simpa using(rv.length.symm.trans r1.length)
   have el2:its2.toArray.size=us.length:=by simpa using(gq.length.symm.trans r2.length)
   by_cases e:ts.length=us.length
   .have R:=SeqAt.RcNeAt.lists (A:=X.A) (e:=lW ts us) p.isList p2.isList (by lia) (by lia) λj k1 k2=>items rv gq r1 r2 hd' (by unfold dep at du; lia) j k1 k2
    rw[el]at R
    rw[uV e]at R
    unfold eqT at fin
    exact fin R
   .have R:=SeqAt.RcNeAt.lists_lengths (A:=X.A) p.isList p2.isList (by rw[el,el2]; simpa using e) (by lia)
    unfold eqT at fin
    rw[uU e]at fin
    exact fin R
end
open Classical in
noncomputable def cu(o:Obj):Obj:=if o.cls=.type "list" ∧ ¬(∃its n,o={cls:=.type "list",data:=.seq its n })then{cls:=.none,data:=.fields #[] }else o
noncomputable def aC(K:PySem.W.Frag):PySem.W.Frag:=K.map λp=>(p.1,cu p.2)
theorem jz:∀(K:PySem.W.Frag) (a:Addr),(aC K).lookup a=(K.lookup a).map cu
 | [],a=>rfl
 |(c,q)::r,a=>by
  show((c,cu q)::aC r).lookup a=_
  rw[List.lookup_cons,List.lookup_cons]
  cases a == c with
  |true=>rfl
  |false=>exact jz r a
theorem ac9{K:PySem.W.Frag}{a:Addr}{o:Obj}(h:(aC K).lookup a=some o)(c:o.cls=.type "tuple"):K.lookup a=some o:=by
 rw[jz]at h
 cases e:K.lookup a with
 |none=>rw[e]at h; cases h
 |some q =>
  rw[e]at h
  have h:cu q=o:=Option.some.inj h
  unfold cu at h
  split at h
  .subst h; cases c
  .rw[h]
theorem ada{K:PySem.W.Frag}{a:Addr}{o:Obj}(h:(aC K).lookup a=some o)(c:o.cls=.type "list"):K.lookup a=some o∧∃its n,o={cls:=.type "list",data:=.seq its n }:=by
 rw[jz]at h
 cases e:K.lookup a with
 |none=>rw[e]at h; cases h
 |some q =>
  rw[e]at h
  have h:cu q=o:=Option.some.inj h
  unfold cu at h
  split at h
  .subst h; cases c
  .rename_i n
   subst h
   refine⟨rfl,?_⟩
   by_cases z:∃its n,q={cls:=.type "list",data:=.seq its n }
   .exact z
   .exact(n ⟨c,z⟩).elim
theorem adb{K:PySem.W.Frag}{a:Addr}{o:Obj}(h:K.lookup a=some o)(c:o.cls=.type "tuple"):(aC K).lookup a=some o:=by
 rw[jz,h]
 show some (cu o)=some o
 unfold cu
 rw[if_neg (by rintro⟨z,_⟩; rw[c]at z; injection z with z; exact absurd z (by decide))]
theorem bH.toK{K:PySem.W.Frag}{H:Hp}{a:Addr}{xs:List V}(h:bH (aC K) H a xs):bH K H a xs:=by
 rcases h with h|⟨o,its,n,e,c,r⟩
 .exact .inl h
 .exact .inr ⟨o,its,n,ac9 e c,c,r⟩
noncomputable def iH(K:PySem.W.Frag)(H:Hp)(a:Addr)(xs:List V):Prop:=Rd H a (.lst xs)\/∃(its:Array Value) (n:Nat),K.lookup a=some {cls:=.type "list",data:=.seq its n }/\its.size<=sizeLine/\Vals xs its.toList
theorem aK.yH{K:PySem.W.Frag}{H:Hp}{a:Addr}{xs:List V}(h:aK (aC K) H a xs):iH K H a xs:=by
 rcases h with h|⟨o,its,n,e,c,_,d,r⟩
 .exact .inl h
 .obtain⟨e2,its',n',rfl⟩:=ada e c
  injection d with d1 d2
  subst d1 d2
  exact .inr ⟨its',n',e2,r⟩
theorem iH.toK{K:PySem.W.Frag}{H:Hp}{a:Addr}{xs:List V}(h:iH K H a xs):aK K H a xs:=by
 rcases h with h|⟨its,n,e,r⟩
 .exact .inl h
 .exact .inr ⟨_,its,n,e,rfl,rfl,rfl,r⟩
theorem iH.toN{K:PySem.W.Frag}{H:Hp}{a:Addr}{xs:List V}(h:iH K H a xs):aK (aC K) H a xs:=by
 rcases h with h|⟨its,n,e,r⟩
 .exact .inl h
 .refine .inr ⟨{cls:=.type "list",data:=.seq its n },its,n,?_,rfl,rfl,rfl,r⟩
  rw[jz,e]
  show some (cu _)=_
  unfold cu
  rw[if_neg λz=>z.2 ⟨its,n,rfl⟩]
theorem aK.toK{K:PySem.W.Frag}{H:Hp}{a:Addr}{xs:List V}(h:aK (aC K) H a xs):aK K H a xs:=h.yH.toK
theorem ade{K:PySem.W.Frag}{N:Addr}{c:Str}{v:Value}(h:PySem.W.nsIn (aC K) N c=some (some v)):PySem.W.nsIn K N c=some (some v):=by
 unfold PySem.W.nsIn at h ⊢
 rw[jz]at h
 cases e:K.lookup N with
 |none=>rw[e]at h; cases h
 |some q =>
  rw[e]at h
  by_cases z:q.cls=.type "list" ∧ ¬(∃its n,q={cls:=.type "list",data:=.seq its n })
  .have:cu q={cls:=.none,data:=.fields #[] }:=by unfold cu; rw[if_pos z]
   rw[show(some q).map cu=some (cu q)from rfl,this]at h
   cases h
  .have:cu q=q:=by unfold cu; rw[if_neg z]
   rw[show(some q).map cu=some (cu q)from rfl,this]at h
   exact h
theorem PK{K:PySem.W.Frag}{H:Hp}:(∀{v t},Rep (aC K) H v t->Rep K H v t)/\∀{vs ts},aA (aC K) H vs ts->aA K H vs ts:=Rep.both .non .bl .int .str (λ_ _ _ h q=>.tup h.toK q) (λ_ _ _ h q=>.lst h.toK q) (λ_ _ _ h m n=>.bV h m (ade n)) .nil λ_ _ _ _ p q=>.cons p q
theorem Rep.toK{K:PySem.W.Frag}{H:Hp}{v:V}{t:Tr}(h:Rep (aC K) H v t):Rep K H v t:=PK.1 h
theorem aA.toK{K:PySem.W.Frag}{H:Hp}{v:List V}{t:List Tr}(h:aA (aC K) H v t):aA K H v t:=PK.2 h
section
variable {X:Cx}
theorem Inv.Ew(I:Inv X pins σ H s)(hH:iH X.K H l xs):xs.length<=sizeLine/\∃(its:List Value) (n:Nat),Vals xs its/\xs.length=its.length/\s.heap.get? l=some {cls:=.type "list",data:=.seq its.toArray n }:=by
 rcases hH with hH|⟨its,n,e,z,r⟩
 .obtain⟨z,its,n,r,e⟩:=hH.ok I.hok
  exact⟨z,its,n,r,r.length,e⟩
 .have l':=r.length.trans Array.length_toList
  exact⟨by rw[l']; exact z,its.toList,n,r,r.length,I.iB _ _ e⟩
noncomputable def PL(K:PySem.W.Frag):R2:=λx y H Q=>∃l b xs zs,x=.ref l/\y=.ref b/\iH K H l xs/\iH K H b zs/\xs.length+zs.length<=sizeLine/\∀p,H p=none->Q (.ref p) (upd H p (.lst (xs++zs)))
theorem adf:bB X (binaryOp .Add) (PL X.K):=by
 intro pins s σ H x y v u Q I rx ry h
 obtain⟨l,b,xs,zs,rfl,rfl,hH,hB,hz,q⟩:=h
 cases rx
 cases ry
 obtain⟨z,its,n,r,hl,e⟩:=I.Ew hH
 obtain⟨z2,its2,n2,r2,hl2,e2⟩:=I.Ew hB
 refine PySem.P.add_list e e2 ?_ (by rw[List.size_toArray,List.size_toArray]; lia)
 have ea:its.toArray++its2.toArray=(its++its2).toArray:=by simp
 rw[ea]
 exact⟨.ref _,_,I.yp (t':=s.toks) (r.append r2) (by rw[List.length_append]; lia),rfl,q _ I.fresh⟩
end
noncomputable def PN(K:PySem.W.Frag):R2:=λx y H Q=>∃l k xs,x=.ref l/\y=.int k/\iH K H l xs /\ -(2 ^ 63)<=k/\k<2 ^ 63/\xs.length*k.toNat<=sizeLine/\∀p,H p=none->Q (.ref p) (upd H p (.lst (List.replicate k.toNat xs).flatten))
theorem adg{X:Cx}:bB X (binaryOp .Mult) (PN X.K):=by
 intro pins s σ H x y v u Q I rx ry h
 obtain⟨l,k,xs,rfl,rfl,hH,h1,h2,hz,q⟩:=h
 cases rx
 obtain⟨t,rfl⟩:=ry
 obtain⟨z,its,n,r,hl,e⟩:=I.Ew hH
 have hlen:its.toArray.size*k.toNat<=sizeLine:=by rw[List.size_toArray,<-hl]; exact hz
 have hcap:¬its.toArray.size*k.toNat > (2 ^ 63-1) / 8:=by
  have:(sizeLine:Nat)<=(2 ^ 63-1) / 8:=by decide
  lia
 have hfit:¬(!Builtin.List.listFitsIndex k)=true:=by
  rw[fitsIndex_both h1 h2]
  exact Bool.false_ne_true
 have adh:¬Builtin.List.listTooLong (its.toArray.size*k.toNat)=true:=by
  rw[acA hlen]
  exact Bool.false_ne_true
 have hnew:List.foldl (λx1 x2=>x1++x2) #[] (List.replicate (if its.toArray.isEmpty=true then 0 else k.toNat) its.toArray)=(List.replicate k.toNat its).flatten.toArray:=by
  have f0:∀m:Nat,List.foldl (λx1 x2=>x1++x2) #[] (List.replicate m its.toArray)=(List.replicate m its).flatten.toArray:=λm=>by
   have:=foldl_rep its m []
   rw[List.nil_append]at this
   exact this
  rw[f0]
  cases its with
  |nil=>simp
  |cons a r'=>rw[if_neg (by simp)]
 refine wpAny_binaryOp_repeat_ref (T := "list") (U := "int") (by decide) ⟨_,e,rfl⟩ (λs'=>typeIs_int s' k t) noFill_list_mul F.fills_int_mul F.slot_int_rmul repeat_list F.slot_int_index.lookup
  (call_meets F.slot_int_rmul (typeIs_int s k t) F.entry_int_rmul (F.args_int_rmul_2 _ _) (int___rmul___int_list k t l its.toArray n)
   ⟨e,rfl,⟨_,e,rfl⟩,call_meets F.slot_list_mul ⟨_,e,rfl⟩ F.entry_list_mul (F.args_list_mul_2 _ _) (AutoListH.list___mul___list_int_3 l its.toArray n k t hfit hcap adh) ⟨e,?_⟩⟩)
 rw[hnew]
 exact⟨.ref _,_,I.yp (t':=s.toks) (r.rep k.toNat) (by rw[len_rep,Nat.mul_comm]; exact hz),rfl,q _ I.fresh⟩
inductive Rs(α : Type) where
 |bad|ex (c:Str)|ok (a : α)
noncomputable def Rs.bind{α β : Type}:Rs α -> (α -> Rs β)->Rs β
 |.bad,_=>.bad
 |.ex c,_=>.ex c
 |.ok a,f=>f a
noncomputable instance:Monad Rs where
 pure:=.ok
 bind:=Rs.bind
inductive Sl where
 |un|sh (t:Tr)|ow (ts:List Tr)|rf (ts:List Tr)|dp (ts:List Tr)
noncomputable abbrev En:=List Sl
inductive Rv where
 |v (T:Tr) (fr:Bool)|s (i:Nat)
noncomputable abbrev EF:=En->Rs (Rv × En)
noncomputable abbrev BF:=En->Rs (Bool × En)
noncomputable abbrev AF:=En->Rs (List Rv × En)
noncomputable abbrev OF:=En->Rs (Option Int × En)
noncomputable abbrev IF:=En->Rs (List Tr × En)
noncomputable abbrev GF:=Tr->En->Rs En
noncomputable abbrev rF:=List Tr->En->Rs En
inductive Fl where
 |nx|rt (T:Tr) (fr:Bool)|bk|ct
noncomputable abbrev SF:=En->Rs (Fl × En)
noncomputable def PX:Tr->Bool
 |.lst _=>true
 |_=>false
noncomputable def fC:List Str:=["falling_places", "order_of_bounds"]
noncomputable def Tb(K:PySem.W.Frag)(b:Addr):Prop:=∃x∈fC,∃c,PySem.W.tabIn K x=some (c,b)
noncomputable def P0(o:Obj)(q:Str):Prop:=∃vs t,o.data=.fields vs/\vs[1]?=some (.str q t)
noncomputable def yJ(x:Str):Str:=x++(".<locals>." : Str)++("<lambda>" : Str)
noncomputable def yK(H:Hp)(q:Str)(ps:Array Value):Prop:=TriplesOk ps.toList/\∀pos v,codeAmong pos ps.toList=some v->∃c o,v=.ref c/\H c=some (.cZ o (.own 0))/\P0 o q
noncomputable def bW(K:PySem.W.Frag)(H:Hp):Prop:=∀x∈fC,∀c b,PySem.W.tabIn K x=some (c,b)->∃ps,H b=some (.cM ps)/\yK H (yJ x) ps
theorem bW.cM{K:PySem.W.Frag}{H:Hp}(h:bW K H){b:Addr}(t:Tb K b):∃ps,H b=some (.cM ps):=by
 obtain⟨x,hx,c,e⟩:=t
 obtain⟨ps,q,_⟩:=h x hx c b e
 exact⟨ps,q⟩
theorem bW.nt{K:PySem.W.Frag}{H:Hp}(h:bW K H){b:Addr}{xs:List V}(e:H b=some (.lst xs)):¬Tb K b:=λt=>by
 obtain⟨ps,q⟩:=h.cM t
 rw[e]at q
 cases q
theorem bW.fr{K:PySem.W.Frag}{H H':Hp}(h:bW K H)(s:∀b o,(∀xs,o ≠ .lst xs)->H b=some o->H' b=some o):bW K H':=λx hx c b e=>by
 obtain⟨ps,q,t1,t2⟩:=h x hx c b e
 refine⟨ps,s _ _ (λ_ z=>by cases z) q,t1,λpos v k=>?_⟩
 obtain⟨c,o,e1,e2,e3⟩:=t2 pos v k
 exact⟨c,o,e1,s _ _ (λ_ z=>by cases z) e2,e3⟩
theorem bW.upd{K:PySem.W.Frag}{H:Hp}(h:bW K H){a:Addr}{xs:List V}{o:HO}(e:H a=some (.lst xs)):bW K (L2.upd H a o):=h.fr λb u n q=>by
 rw[aL]
 .exact q
 .rintro rfl
  rw[e]at q
  cases q
  exact n _ rfl
inductive DR(K:PySem.W.Frag)(G H:Hp):List V->List Tr->List Addr->Prop
 |nil:DR K G H [] [] []
 |cl {x:V} {u:Tr} {xs:List V} {ts:List Tr} {bs:List Addr} (n:PX u=false) (h:Rep K G x u) (r:DR K G H xs ts bs):DR K G H (x::xs) (u::ts) bs
 |rw {b:Addr} {ys:List V} {us:List Tr} {xs:List V} {ts:List Tr} {bs:List Addr} (h:H b=some (.lst ys)) (q:aA K G ys us) (r:DR K G H xs ts bs):DR K G H (.ref b::xs) (.lst us::ts) (b::bs)
theorem DR.mono{K:PySem.W.Frag}{G G' H H':Hp}(m:Same G G'){xs:List V}{ts:List Tr}{bs:List Addr}(h:DR K G H xs ts bs):(∀b∈bs,∀o,H b=some o->H' b=some o)->DR K G' H' xs ts bs:=by
 induction h with
 |nil=>exact λ_=>.nil
 |cl n h _ ih=>exact λk=>.cl n (h.mono m) (ih k)
 |rw h q _ ih=>exact λk=>.rw (k _ (List.mem_cons_self ..) _ h) (q.mono m) (ih λb hb=>k b (List.mem_cons_of_mem _ hb))
theorem DR.lst{K:PySem.W.Frag}{G H:Hp}{xs:List V}{ts:List Tr}{bs:List Addr}(h:DR K G H xs ts bs):∀b∈bs,∃ys,H b=some (.lst ys):=by
 induction h with
 |nil=>exact λ_ h=>by cases h
 |cl _ _ _ ih=>exact ih
 |rw q _ _ ih =>
  intro b h
  rcases List.mem_cons.mp h with rfl|h
  .exact⟨_,q⟩
  .exact ih b h
noncomputable abbrev Fp:=Nat->List Addr
noncomputable def Fn(F:Fp)(b:Addr):Prop:=∃i,b∈F i
noncomputable def Qa(K:PySem.W.Frag)(G H:Hp)(v:Option (Option V))(f:List Addr)(ts:List Tr)(P:Addr->Prop):Prop:=∃a xs,v=some (some (.ref a))/\f=[a]/\P a/\H a=some (.lst xs)/\aA K G xs ts
noncomputable def lZ(K:PySem.W.Frag)(R:Addr->Prop)(G H:Hp)(v:Option (Option V))(f:List Addr):Option Sl->Prop
 |some (.sh T)=>f=[]/\∃u,v=some (some u)/\Rep K G u T
 |some (.ow ts)=>Qa K G H v f ts λa=>¬R a
 |some (.rf ts)=>Qa K G H v f ts R
 |some (.dp ts)=>∃a xs bs,v=some (some (.ref a))/\f=a::bs/\f.Nodup/\(∀b∈f,¬R b)/\H a=some (.lst xs)/\DR K G H xs ts bs
 |_=>f=[]
theorem lZ.lst{K:PySem.W.Frag}{R:Addr->Prop}{G H:Hp}{v:Option (Option V)}{f:List Addr}{s:Option Sl}(h:lZ K R G H v f s):∀b∈f,∃ys,H b=some (.lst ys):=λb hb=>by
 unfold lZ at h
 split at h
 .rw[h.1]at hb; cases hb
 .obtain⟨a,xs,_,rfl,_,q,_⟩:=h; cases List.mem_singleton.mp hb; exact⟨_,q⟩
 .obtain⟨a,xs,_,rfl,_,q,_⟩:=h; cases List.mem_singleton.mp hb; exact⟨_,q⟩
 .obtain⟨a,xs,bs,_,rfl,_,_,q,d⟩:=h
  rcases List.mem_cons.mp hb with rfl|hb
  .exact⟨_,q⟩
  .exact d.lst b hb
 .rw[h]at hb; cases hb
theorem lZ.mono{K:PySem.W.Frag}{R:Addr->Prop}{G G' H H':Hp}{v:Option (Option V)}{f:List Addr}{s:Option Sl}(h:lZ K R G H v f s)(m:Same G G')(k:∀b∈f,∀o,H b=some o->H' b=some o):lZ K R G' H' v f s:=by
 unfold lZ at h ⊢
 split at h
 .obtain⟨h1,u,h2,h3⟩:=h; exact⟨h1,u,h2,h3.mono m⟩
 .obtain⟨a,xs,h1,rfl,n,q,r⟩:=h; exact⟨a,xs,h1,rfl,n,k _ (List.mem_singleton.mpr rfl) _ q,r.mono m⟩
 .obtain⟨a,xs,h1,rfl,n,q,r⟩:=h; exact⟨a,xs,h1,rfl,n,k _ (List.mem_singleton.mpr rfl) _ q,r.mono m⟩
 .obtain⟨a,xs,bs,h1,rfl,nd,n,q,d⟩:=h; exact⟨a,xs,bs,h1,rfl,nd,n,k _ (List.mem_cons_self ..) _ q,d.mono m λb hb=>k b (List.mem_cons_of_mem _ hb)⟩
 .exact h
structure Ok(K:PySem.W.Frag)(R:Addr->Prop)(ρ : En)(σ : St)(G H:Hp)(F:Fp):Prop where
 len : ρ.length = σ.length
 sub:Same G H
 tb:bW K H
 tg:∀b,Tb K b->G b=none
 hid:∀b,Fn F b->G b=none
 rg:∀b,R b->G b=none/\H b≠none
 di:∀i j b,b∈F i->b∈F j->i=j
 sl:∀i,lZ K R G H σ[i]? (F i) ρ[i]?
structure Fr(K:PySem.W.Frag)(H:Hp)(F:Fp)(H':Hp):Prop where
 fr:∀b o,H b=some o->¬Fn F b->¬Tb K b->H' b=some o
 tb:bW K H'
structure aH(K:PySem.W.Frag)(G H:Hp)(F:Fp)(G' H':Hp)(F':Fp):Prop where
 gg:Same G G'
 fr:∀b o,H b=some o->¬Fn F b->¬Tb K b->H' b=some o
 nw:∀b,G' b≠none->G b≠none\/H b=none\/Fn F b
 nf:∀b,Fn F' b->H b=none\/Fn F b
 dm:∀b,H' b=none->H b=none
section
variable {K:PySem.W.Frag}{R:Addr->Prop}{ρ : En}{σ : St}{G H G' H':Hp}{F F':Fp}
theorem aH.refl:aH K G H F G H F:=⟨Same.refl _,λ_ _ h _ _=>h,λ_ h=>.inl h,λ_ h=>.inr h,λ_ h=>h⟩
theorem aH.out(s:aH K G H F G' H' F')(h:H b=some o)(n:¬Fn F b):¬Fn F' b:=λz=>(s.nf b z).elim (λq=>by rw[h]at q; cases q) n
theorem aH.trans(s:aH K G H F G1 H1 F1)(u:aH K G1 H1 F1 G' H' F'):aH K G H F G' H' F' where
 gg:=s.gg.trans u.gg
 fr b o h n t:=u.fr b o (s.fr b o h n t) (s.out h n) t
 nw b h:=(u.nw b h).elim (s.nw b) λh=>.inr (h.elim (λh=>.inl (s.dm b h)) (s.nf b))
 nf b h:=(u.nf b h).elim (λh=>.inl (s.dm b h)) (s.nf b)
 dm b h:=s.dm b (u.dm b h)
theorem aH.back(s:aH K G H F G1 H1 F1)(f:Fr K H1 F1 H'):Fr K H F H':=⟨λb o h n t=>f.fr b o (s.fr b o h n t) (s.out h n) t,f.tb⟩
theorem Ok.fl(e:Ok K R ρ σ G H F)(h:Fn F b):∃ys,H b=some (.lst ys):=h.elim λi h=>(e.sl i).lst b h
theorem Ok.fs(e:Ok K R ρ σ G H F)(h:H b=none):¬Fn F b:=λz=>by
 obtain⟨ys,q⟩:=e.fl z
 rw[h]at q
 cases q
theorem Ok.rn(e:Ok K R ρ σ G H F)(h:H b=none):¬R b:=λz=>(e.rg b z).2 h
structure Gw(K:PySem.W.Frag)(G H G' H':Hp):Prop where
 gg:Same G G'
 hh:∀b o,H b=some o->¬Tb K b->H' b=some o
 sub:Same G' H'
 tb:bW K H->bW K H'
 nw:∀b,G' b≠none->G b≠none\/H b=none
theorem bW.new(h:bW K H)(q:H p=none):bW K (L2.upd H p o):=h.fr λb u _ z=>fY q _ b u z
theorem Gw.refl(s:Same G H):Gw K G H G H:=⟨Same.refl _,λ_ _ h _=>h,s,id,λ_ h=>.inl h⟩
theorem Gw.flt(s:Same G H)(h:H p=none):Gw K G H G (upd H p o):=⟨Same.refl _,λb u q _=>fY h o b u q,s.trans (fY h o),λt=>t.new h,λ_ h=>.inl h⟩
theorem Gw.new(s:Same G H)(h:H p=none):Gw K G H (upd G p o) (upd H p o):=⟨fY (s.free h) o,λb u q _=>fY h o b u q,λb u q=>by
 by_cases e:b=p
 .subst e; rw[cN]at q ⊢; exact q
 .rw[aL e]at q ⊢; exact s b u q,λt=>t.new h,λb q=>by
 by_cases e:b=p
 .subst e; exact .inr h
 .rw[aL e]at q; exact .inl q⟩
structure Gs(K:PySem.W.Frag)(G H G' H':Hp):Prop where
 gw:Gw K G H G' H'
 sm:Same H H'
theorem Gs.refl(s:Same G H):Gs K G H G H:=⟨.refl s,Same.refl _⟩
theorem Gs.flt(s:Same G H)(h:H p=none):Gs K G H G (upd H p o):=⟨.flt s h,fY h o⟩
theorem Gs.new(s:Same G H)(h:H p=none):Gs K G H (upd G p o) (upd H p o):=⟨.new s h,fY h o⟩
theorem Ok.grow(e:Ok K R ρ σ G H F)(w:Gw K G H G' H'):Ok K R ρ σ G' H' F/\aH K G H F G' H' F:=by
 have tb:=w.tb e.tb
 have dm:∀b,H' b=none->H b=none:=λb h=>by
  cases q:H b with
  |none=>rfl
  |some o =>
   by_cases t:Tb K b
   .obtain⟨ps,z⟩:=tb.cM t; rw[h]at z; cases z
   .rw[w.hh b o q t]at h; cases h
 have no:∀b,G b=none->H b≠none->G' b=none:=λb h n=>by
  cases q:G' b with
  |none=>rfl
  |some o=>exact((w.nw b (by rw[q]; exact λz=>by cases z)).elim (λz=>z h) n).elim
 refine⟨⟨e.len,w.sub,tb,λb t=>no b (e.tg b t) λz=>?_,λb h=>no b (e.hid b h) λz=>e.fs z h,λb h=>⟨no b (e.rg b h).1 (e.rg b h).2,λz=>(e.rg b h).2 (dm b z)⟩,e.di,λi=>(e.sl i).mono w.gg λb hb o q=>w.hh b o q ?_⟩,w.gg,λb o h _ t=>w.hh b o h t,λb h=>(w.nw b h).imp id .inl,λb h=>.inr h,dm⟩
 .obtain⟨ps,q⟩:=e.tb.cM t; rw[z]at q; cases q
 .obtain⟨ys,z⟩:=e.fl ⟨i,hb⟩
  exact e.tb.nt z
theorem Ok.show(e:Ok K R ρ σ G H F)(h:H a=some (.lst xs))(n:¬Fn F a)(r:¬R a):Ok K R ρ σ (upd G a (.lst xs)) H F/\Same G (upd G a (.lst xs)):=by
 have m:Same G (upd G a (.lst xs)):=λb o q=>by
  by_cases z:b=a
  .subst z; rw[cN,<-h]; exact(e.sub b o q)
  .rw[aL z]; exact q
 have no:∀b,b≠a->G b=none->upd G a (.lst xs) b=none:=λb z q=>by rw[aL z]; exact q
 refine⟨⟨e.len,λb o q=>?_,e.tb,λb t=>no b (λz=>e.tb.nt h (z▸t)) (e.tg b t),λb z=>no b (λq=>n (q▸z)) (e.hid b z),λb z=>⟨no b (λq=>r (q▸z)) (e.rg b z).1,(e.rg b z).2⟩,e.di,λi=>(e.sl i).mono m λ_ _ _ q=>q⟩,m⟩
 by_cases z:b=a
 .subst z; rw[cN]at q; rw[h]; exact q
 .rw[aL z]at q; exact e.sub b o q
noncomputable def VN(K:PySem.W.Frag)(Hs G H:Hp)(v:V)(T:Tr):Bool->Prop
 |false=>Rep K G v T
 |true=>∃a xs ts,v=.ref a/\T=.lst ts/\Hs a=none/\G a=none/\H a=some (.lst xs)/\aA K G xs ts
noncomputable def fZ(K:PySem.W.Frag)(σ : St)(Hs G H:Hp)(F:Fp)(v:V):Rv->Prop
 |.v T fr=>VN K Hs G H v T fr/\(fr=true->∀a,v=.ref a->¬Fn F a)
 |.s i=>σ[i]?=some (some v)
theorem VN.ok(h:VN K H G' H' v T fr)(e:Ok K R ρ σ G H F):fZ K τ H G' H' F v (.v T fr):=⟨h,λz a q=>by
 subst z; subst q
 obtain⟨b,_,_,z,_,n,_⟩:=h
 cases z
 exact e.fs n⟩
theorem fZ.low(h:Rep K G v T):fZ K σ Hs G H F v (.v T false):=⟨h,λz=>by cases z⟩
theorem fZ.step(h:fZ K σ Hs G H F v r)(tb:bW K H)(s:aH K G H F G' H' F'):fZ K σ Hs G' H' F' v r:=by
 match r,h with
 |.s i,h=>exact h
 |.v T false,h=>exact .low (Rep.mono s.gg h.1)
 |.v T true,⟨⟨a,xs,ts,e1,e2,n,g,q,r⟩,f⟩ =>
  have na:=f rfl a e1
  refine⟨⟨a,xs,ts,e1,e2,n,?_,s.fr a _ q na (tb.nt q),r.mono s.gg⟩,λ_ b z=>?_⟩
  .cases k:G' a with
   |none=>rfl
   |some o=>exact((s.nw a (by rw[k]; exact λz=>by cases z)).elim (λz=>z g) λz=>z.elim (λz=>by rw[q]at z; cases z) na).elim
  .rw[e1]at z; cases z
   exact s.out q na
theorem fZ.back(h:fZ K σ H1 G' H' F' v r)(d:∀b,H1 b=none->H b=none):fZ K σ H G' H' F' v r:=by
 match r,h with
 |.s i,h=>exact h
 |.v T false,h=>exact .low h.1
 |.v T true,⟨⟨a,xs,ts,e1,e2,n,q⟩,f⟩=>exact⟨⟨a,xs,ts,e1,e2,d a n,q⟩,f⟩
noncomputable def Rp(K:PySem.W.Frag)(G H:Hp)(v:V)(T:Tr):Prop:=Rep K G v T\/∃a xs ts,v=.ref a/\T=.lst ts/\H a=some (.lst xs)/\aA K G xs ts
theorem Rp.rep(s:Same G H)(h:Rp K G H v T):Rep K H v T:=by
 rcases h with h|⟨a,xs,ts,rfl,rfl,e,r⟩
 .exact h.mono s
 .exact .lst (aK.of e) (r.mono s)
theorem Rp.lst(s:Same G H)(h:Rp K G H v (.lst ts)):∃a xs,v=.ref a/\aK K H a xs/\aA K G xs ts:=by
 rcases h with h|⟨a,xs,us,rfl,e0,e,r⟩
 .cases h with
  |lst h r=>exact⟨_,_,rfl,s.seq h,r⟩
 .cases e0
  exact⟨a,xs,rfl,aK.of e,r⟩
theorem Rp.low(h:Rp K G H v T)(n:PX T=false):Rep K G v T:=by
 rcases h with h|⟨a,xs,us,rfl,rfl,_⟩
 .exact h
 .cases n
theorem Rp.tup(s:Same G H)(h:Rp K G H v (.tup ts)):∃a xs,v=.ref a/\bH K H a xs/\aA K G xs ts:=by
 have q:=h.low rfl
 cases q with
 |tup q r=>exact⟨_,_,rfl,s.pQ q,r⟩
theorem Rp.int(h:Rp K G H v (.int i)):v=.int i:=by cases h.low rfl; rfl
theorem Rp.bl(h:Rp K G H v (.bl i)):v=.bl i:=by cases h.low rfl; rfl
theorem Rp.str(h:Rp K G H v (.str i)):v=.str i:=by cases h.low rfl; rfl
theorem Rp.non(h:Rp K G H v .non):v=.non:=by cases h.low rfl; rfl
noncomputable def dr(ρ : En):Rv->Rs Tr
 |.v T _=>.ok T
 |.s i=>match ρ[i]? with
  |some (Sl.ow ts)=>.ok (.lst ts)
  |some (Sl.rf ts)=>.ok (.lst ts)
  |_=>.bad
theorem iI(ρ : En)(r:Rv)(c:Str):dr ρ r ≠ .ex c:=by
 cases r with
 |v T fr=>intro z; cases z
 |s i=>dsimp only[dr]; split <;> (intro z; cases z)
theorem iJ(e:Ok K R ρ σ G H F)(h:fZ K σ Hs G H F v r)(q:dr ρ r=.ok T):Rp K G H v T:=by
 match r,h with
 |.v U false,h=>cases q; exact .inl h.1
 |.v U true,⟨⟨a,xs,ts,e1,e2,_,_,z,r⟩,_⟩=>cases q; exact .inr ⟨a,xs,ts,e1,e2,z,r⟩
 |.s i,h =>
  dsimp only[dr]at q
  have z:=e.sl i
  split at q <;> rename_i k <;> (first|cases q; done|skip) <;> (rw[k]at z; obtain⟨a,xs,h1,_,_,h4,h5⟩:=z; rw[h]at h1; cases h1; cases q; exact .inr ⟨a,xs,_,rfl,rfl,h4,h5⟩)
end
structure Tx where
 K:PySem.W.Frag
 xe:Str->Hp->Prop
noncomputable def bY{α : Type}(t:Tx)(H:Hp)(F:Fp)(r:Rs α)(P : α -> Prop):Prop:=match r with
 |.bad=>False
 |.ex c=>∀H',Fr t.K H F H'->t.xe c H'
 |.ok a=>P a
theorem cR{C:Prop}{A B:(Addr->Prop)->En->Hp->Fp->Prop}(k:∀R ρ G F,A R ρ G F->B R ρ G F->C):(∃R ρ G F,A R ρ G F/\B R ρ G F)->C:=λz=>by
 obtain⟨R,ρ,G,F,e,h⟩:=z
 exact k R ρ G F e h
noncomputable def Te(t:Tx)(f:EF):TE:=λσ H Q=>∃R ρ G F,Ok t.K R ρ σ G H F/\bY t H F (f ρ) λp=>∀v G' H' F',Ok t.K R p.2 σ G' H' F'->aH t.K G H F G' H' F'->fZ t.K σ H G' H' F' v p.1->Q v H'
noncomputable def Tt(t:Tx)(f:BF):TT:=λσ H Q=>∃R ρ G F,Ok t.K R ρ σ G H F/\bY t H F (f ρ) λp=>∀G' H' F',Ok t.K R p.2 σ G' H' F'->aH t.K G H F G' H' F'->Q p.1 H'
noncomputable def To(t:Tx)(f:OF):TO:=λσ H Q=>∃R ρ G F,Ok t.K R ρ σ G H F/\bY t H F (f ρ) λp=>∀G' H' F',Ok t.K R p.2 σ G' H' F'->aH t.K G H F G' H' F'->Q p.1 H'
inductive dO(K:PySem.W.Frag)(σ : St)(Hs G H:Hp)(F:Fp):List V->List Rv->Prop
 |nil:dO K σ Hs G H F [] []
 |cons {v:V} {r:Rv} {vs:List V} {rs:List Rv} (h:fZ K σ Hs G H F v r) (q:dO K σ Hs G H F vs rs):dO K σ Hs G H F (v::vs) (r::rs)
noncomputable def Ta(t:Tx)(f:AF):TA:=λσ H Q=>∃R ρ G F,Ok t.K R ρ σ G H F/\bY t H F (f ρ) λp=>∀vs G' H' F',Ok t.K R p.2 σ G' H' F'->aH t.K G H F G' H' F'->dO t.K σ H G' H' F' vs p.1->Q vs H'
section
variable {t:Tx}{R:Addr->Prop}{ρ : En}{σ : St}{G H G0 H0:Hp}{F F0:Fp}
theorem bY.run{α β : Type}{r:Rs α}{g : α -> Rs β}{P : β -> Prop}{P' : α -> Prop}(s:aH t.K G0 H0 F0 G H F)(h:bY t H0 F0 (r.bind g) P)(k:∀a,bY t H0 F0 (g a) P->P' a):bY t H F r P':=by
 cases r with
 |bad=>exact h
 |ex c=>exact λH' f=>h H' (s.back f)
 |ok a=>exact k a h
theorem bY.okb{α β : Type}{r:Rs α}{g : α -> Rs β}{P : β -> Prop}(h:bY t H F (r.bind g) P)(n:∀c,r ≠ .ex c):∃a,r=.ok a/\bY t H F (g a) P:=by
 cases r with
 |bad=>exact h.elim
 |ex c=>exact(n c rfl).elim
 |ok a=>exact⟨a,rfl,h⟩
theorem dX{β : Type}{g:Rv × En->Rs β}{P : β -> Prop}(e:Ok t.K R ρ σ G H F)(s:aH t.K G0 H0 F0 G H F)(h:bY t H0 F0 ((f ρ).bind g) P)(k:∀p,bY t H0 F0 (g p) P->∀v G' H' F',Ok t.K R p.2 σ G' H' F'->aH t.K G H F G' H' F'->fZ t.K σ H G' H' F' v p.1->Q v H'):Te t f σ H Q:=⟨R,ρ,G,F,e,h.run s k⟩
theorem jU{β : Type}{g:List Rv × En->Rs β}{P : β -> Prop}(e:Ok t.K R ρ σ G H F)(s:aH t.K G0 H0 F0 G H F)(h:bY t H0 F0 ((f ρ).bind g) P)(k:∀p,bY t H0 F0 (g p) P->∀v G' H' F',Ok t.K R p.2 σ G' H' F'->aH t.K G H F G' H' F'->dO t.K σ H G' H' F' v p.1->Q v H'):Ta t f σ H Q:=⟨R,ρ,G,F,e,h.run s k⟩
theorem nZ{β : Type}{g:Bool × En->Rs β}{P : β -> Prop}(e:Ok t.K R ρ σ G H F)(s:aH t.K G0 H0 F0 G H F)(h:bY t H0 F0 ((f ρ).bind g) P)(k:∀p,bY t H0 F0 (g p) P->∀G' H' F',Ok t.K R p.2 σ G' H' F'->aH t.K G H F G' H' F'->Q p.1 H'):Tt t f σ H Q:=⟨R,ρ,G,F,e,h.run s k⟩
theorem Qc{β : Type}{g:Option Int × En->Rs β}{P : β -> Prop}(e:Ok t.K R ρ σ G H F)(s:aH t.K G0 H0 F0 G H F)(h:bY t H0 F0 ((f ρ).bind g) P)(k:∀p,bY t H0 F0 (g p) P->∀G' H' F',Ok t.K R p.2 σ G' H' F'->aH t.K G H F G' H' F'->Q p.1 H'):To t f σ H Q:=⟨R,ρ,G,F,e,h.run s k⟩
end
local macro_rules | `(tactic| walk_at "x")=>`(tactic| ((repeat' split) <;> (intro z; cases z)))
noncomputable def Pz{α : Type}(r:Rs α)(P : α -> Prop):Prop:=match r with
 |.ok a=>P a
 |_=>False
noncomputable abbrev G1:=Tr->Rs (Tr × Bool)
noncomputable abbrev G2:=Tr->Tr->Rs (Tr × Bool)
noncomputable abbrev GN:=List Tr->Rs (Tr × Bool)
structure dh(K:PySem.W.Frag)(r:R2)(g:G2):Prop where
 nx:∀a b c,g a b ≠ .ex c
 ok:∀G H x y a b Q,Same G H->Rp K G H x a->Rp K G H y b->Pz (g a b) (λp=>∀v G' H',Gs K G H G' H'->VN K H G' H' v p.1 p.2->Q v H')->r x y H Q
inductive mD(K:PySem.W.Frag)(G H:Hp):List V->List Tr->Prop
 |nil:mD K G H [] []
 |cons {x:V} {t:Tr} {xs:List V} {ts:List Tr} (h:Rp K G H x t) (r:mD K G H xs ts):mD K G H (x::xs) (t::ts)
structure Ez(K:PySem.W.Frag)(r:List V->Hp->VK->Prop)(g:GN):Prop where
 nx:∀as c,g as ≠ .ex c
 ok:∀G H xs as Q,Same G H->mD K G H xs as->Pz (g as) (λp=>∀v G' H',Gs K G H G' H'->VN K H G' H' v p.1 p.2->Q v H')->r xs H Q
section
variable {K:PySem.W.Frag}
theorem VN.flt(s:Same G H)(hz:H z=none)(r:aA K G xs ts):VN K H G (upd H z (.lst xs)) (.ref z) (.lst ts) true:=⟨z,xs,ts,rfl,rfl,hz,s.free hz,cN,r⟩
theorem VN.newT(s:Same G H)(hz:H z=none)(r:aA K G xs ts):VN K H (upd G z (.tup xs)) (upd H z (.tup xs)) (.ref z) (.tup ts) false:=Rep.tup (bH.of cN) (r.mono (fY (s.free hz) _))
theorem aA.jA:∀{v:List V} {t:List Tr} {i:Nat} {u:Tr},aA K H v t->t[i]?=some u->∃x,v[i]?=some x/\Rep K H x u
 |_,_,_,_,.nil,e=>by simp at e
 |_,_,0,_,.cons h _,e=>by simp at e; subst e; exact⟨_,rfl,h⟩
 |_,_,i+1,_,.cons _ r,e=>by
  obtain⟨x,a,b⟩:=aA.jA (i:=i) r (by simpa using e)
  exact⟨x,by simpa using a,b⟩
theorem aA.dH(r:aA K H xs ts)(h:dH ts i=some t):∃x,L2.dH xs i=some x/\Rep K H x t:=by
 unfold L2.dH at h ⊢
 rw[r.length]
 cases e:fW ts.length i with
 |none=>rw[e]at h; cases h
 |some j =>
  rw[e]at h
  exact r.jA h
theorem big(h:n<=100000):n<=sizeLine:=Nat.le_trans h (by decide)
noncomputable def gI(p:Int->Int->Int):G2
 |.int i,.int j=>.ok (.int (p i j),false)
 |_,_=>.bad
theorem adi:dh K (dW λi j=>.int (p i j)) (gI p):=⟨λa b c=>by unfold gI; walk_at "x",λG H x y a b Q s rx ry h=>by
 cases a <;> try exact h.elim
 cases b <;> try exact h.elim
 rw[rx.int,ry.int]
 exact⟨_,_,rfl,rfl,h _ G H (.refl s) (.int _)⟩⟩
noncomputable def rG(c:Int->Int->Bool)(p:Int->Int->Int):G2
 |.int i,.int j=>if c i j=true then .ok (.int (p i j),false)else .bad
 |_,_=>.bad
theorem EY(hc:∀i j,c i j=true->C i j):dh K (rI C λi j=>.int (p i j)) (rG c p):=⟨λa b c=>by unfold rG; walk_at "x",λG H x y a b Q s rx ry h=>by
 cases a <;> try exact h.elim
 cases b <;> try exact h.elim
 rw[rx.int,ry.int]
 dsimp only[rG]at h
 split at h
 .rename_i e
  exact⟨_,_,rfl,rfl,hc _ _ e,h _ G H (.refl s) (.int _)⟩
 .exact h.elim⟩
noncomputable def gB(p:Int->Int->Bool):G2
 |.int i,.int j=>.ok (.bl (p i j),false)
 |_,_=>.bad
theorem Fb:dh K (dW λi j=>.bl (p i j)) (gB p):=⟨λa b c=>by unfold gB; walk_at "x",λG H x y a b Q s rx ry h=>by
 cases a <;> try exact h.elim
 cases b <;> try exact h.elim
 rw[rx.int,ry.int]
 exact⟨_,_,rfl,rfl,h _ G H (.refl s) (.bl _)⟩⟩
noncomputable def jV:G2:=λt u=>if dep t<=40/\dep u<=40 then .ok (.bl (eqT t u),false)else .bad
theorem adk:dh (aC K) (Eh K) jV:=⟨λa b c=>by unfold jV; walk_at "x",λG H x y a b Q s rx ry h=>by
 unfold jV at h
 split at h
 .rename_i e
  exact⟨a,b,(rx.rep s).toK,(ry.rep s).toK,e.1,e.2,h _ G H (.refl s) (.bl _)⟩
 .exact h.elim⟩
noncomputable def iK:G2:=λt u=>if dep t<=40/\dep u<=40 then .ok (.bl (!eqT t u),false)else .bad
theorem adl:dh (aC K) (Eu K) iK:=⟨λa b c=>by unfold iK; walk_at "x",λG H x y a b Q s rx ry h=>by
 unfold iK at h
 split at h
 .rename_i e
  exact⟨a,b,(rx.rep s).toK,(ry.rep s).toK,e.1,e.2,h _ G H (.refl s) (.bl _)⟩
 .exact h.elim⟩
noncomputable def jW(f:Bool->Bool):G2:=λt u=>match u with
 |.lst us=>if deps us<=40/\dep t<=40 then .ok (.bl (f (kE t us)),false)else .bad
 |.tup us=>if deps us<=40/\dep t<=40 then .ok (.bl (f (kE t us)),false)else .bad
 |_=>.bad
theorem Qd(hr:∀x y H Q,(∃t ts p xs,Rep K H x t/\y=.ref p/\(aK K H p xs\/bH K H p xs)/\aA K H xs ts/\deps ts<=40/\dep t<=40/\Q (.bl (f (kE t ts))) H)->r x y H Q):dh (aC K) r (jW f):=⟨λa b c=>by unfold jW; walk_at "x",λG H x y a b Q s rx ry h=>hr x y H Q (by
 cases b <;> try exact h.elim
 all_goals
  rename_i us
  dsimp only[jW]at h
  split at h
  case isFalse=>exact h.elim
  rename_i e
 .obtain⟨p,xs,rfl,q,r⟩:=ry.tup s
  exact⟨a,us,p,xs,(rx.rep s).toK,rfl,.inr q.toK,(r.mono s).toK,e.1,e.2,h _ G H (.refl s) (.bl _)⟩
 .obtain⟨p,xs,rfl,q,r⟩:=ry.lst s
  exact⟨a,us,p,xs,(rx.rep s).toK,rfl,.inl q.toK,(r.mono s).toK,e.1,e.2,h _ G H (.refl s) (.bl _)⟩)⟩
theorem adn:dh (aC K) (Ei K) (jW id):=Qd λ_ _ _ _ h=>h
theorem ado:dh (aC K) (Et K) (jW not):=Qd λ_ _ _ _ h=>h
noncomputable def yL:Tr->Bool
 |.non=>true
 |_=>false
noncomputable def pC(f:Bool->Bool):G2:=λt u=>match u with
 |.non=>.ok (.bl (f (yL t)),false)
 |_=>.bad
theorem Qe(f:Bool->Bool):dh K (λx y H Q=>y=.non/\Q (.bl (f (decide (x=.non)))) H) (pC f):=⟨λa b c=>by unfold pC; walk_at "x",λG H x y a b Q s rx ry h=>by
 cases b <;> try exact h.elim
 have z:decide (x=.non)=yL a:=by cases rx.rep s <;> rfl
 rw[ry.non,z]
 exact⟨rfl,h _ G H (.refl s) (.bl _)⟩⟩
noncomputable def Fd(K:PySem.W.Frag):R2:=λx y H Q=>(dW λi j=>.int (i+j)) x y H Q\/PL K x y H Q\/(∃i j,x=.str i/\y=.str j/\i.length+j.length<=sizeLine/\Q (.str (i++j)) H)\/Oh K x y H Q
theorem adp:bB X (binaryOp .Add) (Fd X.K):=bB.or Nk (bB.or adf (bB.or abH ach))
noncomputable def n8:G2
 |.int i,.int j=>.ok (.int (i+j),false)
 |.lst a,.lst b=>if a.length+b.length<=100000 then .ok (.lst (a++b),true)else .bad
 |.str a,.str b=>if a.length+b.length<=100000 then .ok (.str (a++b),false)else .bad
 |.tup a,.tup b=>if 0<a.length/\a.length+b.length<=100000 then .ok (.tup (a++b),false)else .bad
 |_,_=>.bad
theorem adq:dh (aC K) (Fd K) n8:=⟨λa b c=>by unfold n8; walk_at "x",λG H x y a b Q s rx ry h=>by
 cases a <;> cases b <;> try exact h.elim
 .rw[rx.int,ry.int]
  exact .inl ⟨_,_,rfl,rfl,h _ G H (.refl s) (.int _)⟩
 all_goals
  rename_i us ws
  dsimp only[n8]at h
  split at h
  case isFalse=>exact h.elim
  rename_i e
 .rw[rx.str,ry.str]
  exact .inr (.inr (.inl ⟨us,ws,rfl,rfl,big e,h _ G H (.refl s) (.str _)⟩))
 .have rt:=rx.low rfl
  obtain⟨p,xs,rfl,q,r⟩:=rx.tup s
  obtain⟨p',ys,rfl,q',r'⟩:=ry.tup s
  have l1:=r.length
  have l2:=r'.length
  refine .inr (.inr (.inr ⟨p,p',xs,ys,rfl,rfl,q.toK,q'.toK,?_,by rw[l1,l2]; exact big e.2,λz=>h _ G H (.refl s) ?_,λ_ z hz=>h _ _ _ (.new s hz) (.newT s hz (r.app r'))⟩))
  .rintro rfl
   have e1:=e.1
   rw[<-l1]at e1
   cases e1
  .subst z
   cases r'
   rw[List.append_nil]
   exact rt
 .obtain⟨p,xs,rfl,q,r⟩:=rx.lst s
  obtain⟨p',ys,rfl,q',r'⟩:=ry.lst s
  exact .inr (.inl ⟨p,p',xs,ys,rfl,rfl,q.yH,q'.yH,by rw[r.length,r'.length]; exact big e,λz hz=>h _ _ _ (.flt s hz) (.flt s hz (r.app r'))⟩)⟩
noncomputable def fit(i:Int):Bool:=decide (i.natAbs.log2<1048575)
theorem Qf(h:fit i=true):Builtin.Int.intBits i<=2 ^ 20:=by
 have h:=of_decide_eq_true h
 unfold Builtin.Int.intBits
 split
 .decide
 .omega
noncomputable def tiny(i:Int):Bool:=decide (-18446744073709551616<i)&&decide (i<18446744073709551616)
noncomputable def cX(i j:Int):Bool:=(fit i&&fit j) || tiny i || tiny j
noncomputable def yM(i j:Int):Prop:=cX i j=true
theorem yM.ok(h:yM i j):IntMulOk i j:=by
 unfold yM cX at h
 rw[Bool.or_eq_true,Bool.or_eq_true,Bool.and_eq_true]at h
 have tn:∀{k:Int},tiny k=true -> -(2 ^ 64)<k/\k<2 ^ 64:=λ{k} h=>by
  unfold tiny at h
  rw[Bool.and_eq_true]at h
  have h1:=of_decide_eq_true h.1
  have h2:=of_decide_eq_true h.2
  omega
 rcases h with(⟨h1,h2⟩|h)|h
 .exact .of_bits (Qf h1) (Qf h2)
 .exact .of_left (intBits_le_64 (tn h).1 (tn h).2)
 .exact .of_right (intBits_le_64 (tn h).1 (tn h).2)
noncomputable def Fe(K:PySem.W.Frag):R2:=λx y H Q=>(rI yM λi j=>.int (i*j)) x y H Q\/PN K x y H Q
theorem adt:bB X (binaryOp .Mult) (Fe X.K):=bB.or (yc λ_ _ _ _ _ _ _ hc q=>mul_int q hc.ok) adg
noncomputable def pW:G2
 |.int i,.int j=>if cX i j=true then .ok (.int (i*j),false)else .bad
 |.lst a,.int k=>if(-1000<=k/\k<=1000)/\a.length<=100 then .ok (.lst (List.replicate k.toNat a).flatten,true)else .bad
 |_,_=>.bad
noncomputable def iy(_ j:Int):Bool:=decide (j≠0)&&decide (j.natAbs.log2<9000)
noncomputable def yN(i j:Int):Prop:=iy i j=true
theorem adu:bB X (binaryOp .FloorDiv) (rI yN λi j=>.int (i.fdiv j)):=yc λi j _ _ _ _ _ hc q=>by
 unfold yN iy at hc
 rw[Bool.and_eq_true]at hc
 exact floordiv_int (of_decide_eq_true hc.1) q (.inl (PyProof.noPylong_of_log2 (of_decide_eq_true hc.2)))
noncomputable def yP:G2:=rG iy Int.fdiv
noncomputable def yQ:G2:=rG (λ_ j=>decide (j≠0)) Int.fmod
noncomputable def Fg(i j:Int):Bool:=decide (0<=j)&&decide (j<=1000)&&tiny i
noncomputable def uJ:G2:=rG Fg λi j=>i ^ j.toNat
noncomputable def u0:G2:=gI λi j=>i-j
section
variable {K:PySem.W.Frag}
theorem aA.rep(r:aA K H xs ts):∀n,aA K H (List.replicate n xs).flatten (List.replicate n ts).flatten
 | 0=>.nil
 |n+1=>by
  exact r.app (aA.rep r n)
theorem adv:dh (aC K) (Fe K) pW:=⟨λa b c=>by unfold pW; walk_at "x",λG H x y a b Q s rx ry h=>by
 cases a <;> cases b <;> try exact h.elim
 all_goals
  rename_i us k
  rw[ry.int]
  dsimp only[pW]at h
  split at h
  case isFalse=>exact h.elim
  rename_i e
 .rw[rx.int]
  exact .inl ⟨_,_,rfl,rfl,e,h _ G H (.refl s) (.int _)⟩
 .obtain⟨p,xs,rfl,q,r⟩:=rx.lst s
  refine .inr ⟨p,k,xs,rfl,rfl,q.yH,by omega,by omega,?_,λz hz=>h _ _ _ (.flt s hz) (.flt s hz (r.rep _))⟩
  rw[r.length]
  exact Nat.le_trans (Nat.mul_le_mul e.2 (show k.toNat<=1000 by omega)) (by decide)⟩
theorem adw:dh K (rI yN λi j=>.int (i.fdiv j)) yP:=EY λ_ _ h=>h
theorem adx:dh K (rI (λ_ j=>j≠0) λi j=>.int (i.fmod j)) yQ:=EY λ_ _ h=>of_decide_eq_true h
theorem ady(i j:Int)(h:Fg i j=true):yg i j:=by
 simp only[Fg,tiny,Bool.and_eq_true,decide_eq_true_eq]at h
 exact⟨h.1.1,by omega,by omega⟩
theorem adz:dh K (rI yg λi j=>.int (i ^ j.toNat)) uJ:=EY ady
theorem adA:dh K (dW λi j=>.int (i-j)) u0:=adi
noncomputable def Fi:G2:=gB λi j=>decide (j<i)
noncomputable def Fj:G2:=gB λi j=>decide (i<=j)
noncomputable def Fo:G2:=gB λi j=>decide (j<=i)
theorem adB:dh K (dW λi j=>.bl (decide (j<i))) Fi:=Fb
theorem adC:dh K (dW λi j=>.bl (decide (i<=j))) Fj:=Fb
theorem adD:dh K (dW λi j=>.bl (decide (j<=i))) Fo:=Fb
noncomputable def intsOf:List Tr->Option (List Int)
 | []=>some []
 |.int i::r=>(intsOf r).map (i :: ·)
 |_::_=>none
theorem ints_of:∀{ts:List Tr} {ns:List Int} {xs:List V},intsOf ts=some ns->aA K H xs ts->xs=ns.map V.int
 | [],ns,xs,h,r=>by cases h; cases r; rfl
 |.int i::q,ns,xs,h,r=>by
  obtain⟨ms,e,rfl⟩:=Option.map_eq_some_iff.mp h
  cases r with
  |cons h1 r1 =>
   cases h1
   rw[ints_of e r1]
   rfl
noncomputable def Ft(K:PySem.W.Frag):R2:=λx y H Q=>(dW λi j=>.bl (decide (i<j))) x y H Q\/Oa K x y H Q
theorem adE(hu:X.A.units+64<cLine):bB X (compareOp .Lt) (Ft X.K):=bB.or abv (acg (by omega))
noncomputable def rH:G2
 |.int i,.int j=>.ok (.bl (decide (i<j)),false)
 |.tup a,.tup b=>match intsOf a,intsOf b with
  |some ns,some ms=>.ok (.bl (HT.lexLt ns ms),false)
  |_,_=>.bad
 |_,_=>.bad
theorem adF:dh (aC K) (Ft K) rH:=⟨λa b c=>by unfold rH; walk_at "x",λG H x y a b Q s rx ry h=>by
 cases a <;> cases b <;> try exact h.elim
 .rw[rx.int,ry.int]
  exact .inl ⟨_,_,rfl,rfl,h _ G H (.refl s) (.bl _)⟩
 .dsimp only[rH]at h
  split at h
  case h_2=>exact h.elim
  rename_i ns ms e1 e2
  obtain⟨p,xs,rfl,q,r⟩:=rx.tup s
  obtain⟨p',ys,rfl,q',r'⟩:=ry.tup s
  have z1:=ints_of e1 r
  have z2:=ints_of e2 r'
  subst z1 z2
  exact .inr ⟨p,p',ns,ms,rfl,rfl,q.toK,q'.toK,h _ G H (.refl s) (.bl _)⟩⟩
noncomputable def aW:G2
 |.lst ts,.int i=>match dH ts i with
  |some t=>.ok (t,false)
  |none=>.bad
 |.tup ts,.int i=>match dH ts i with
  |some t=>.ok (t,false)
  |none=>.bad
 | .str z,.int i=>if z.length<=100000 then (match dH z.cps.toList i with
  |some c=>.ok (.str ⟨#[c]⟩,false)
  |none=>.bad)else .bad
 |_,_=>.bad
theorem Qg:dh (aC K) (Oq K) aW:=⟨λa b c=>by unfold aW; walk_at "x",λG H x y a b Q s rx ry h=>by
 cases a <;> cases b <;> try exact h.elim
 all_goals
  rename_i z i
  rw[ry.int]
  dsimp only[aW]at h
  split at h
  rotate_left
  exact h.elim
 .rename_i e
  rw[rx.str]
  split at h
  .rename_i c ec
   exact .inr (.inr ⟨z,i,c,rfl,rfl,big e,ec,h _ G H (.refl s) (.str _)⟩)
  .exact h.elim
 .rename_i t e
  obtain⟨p,xs,rfl,q,r⟩:=rx.tup s
  obtain⟨v,ev,rv⟩:=r.dH e
  exact .inr (.inl ⟨p,xs,i,v,rfl,rfl,q.toK,ev,h _ G H (.refl s) rv⟩)
 .rename_i t e
  obtain⟨p,xs,rfl,q,r⟩:=rx.lst s
  obtain⟨v,ev,rv⟩:=r.dH e
  exact .inl ⟨p,xs,i,v,rfl,rfl,q.toK,ev,h _ G H (.refl s) rv⟩⟩
structure oh(K:PySem.W.Frag)(r:V->Hp->VK->Prop)(g:G1):Prop where
 nx:∀a c,g a ≠ .ex c
 ok:∀G H x a Q,Same G H->Rp K G H x a->Pz (g a) (λp=>∀v G' H',Gs K G H G' H'->VN K H G' H' v p.1 p.2->Q v H')->r x H Q
noncomputable def g1(g:G1):GN
 | [a]=>g a
 |_=>.bad
theorem yR{r:List V->Hp->VK->Prop}{g:G1}(h:oh K (λx=>r [x]) g):Ez K r (g1 g):=⟨λas c=>(by
 unfold g1
 split
 .exact h.nx _ c
 .intro z; cases z),λG H xs as Q s rs q=>by
 cases rs with
 |nil=>exact q.elim
 |cons h1 r1 =>
  cases r1 with
  |nil=>exact h.ok G H _ _ Q s h1 q
  |cons _ _=>exact q.elim⟩
noncomputable def g2(g:G2):GN
 | [a,b]=>g a b
 |_=>.bad
noncomputable def m7:G1
 |.int i=>.ok (.int (-i),false)
 |_=>.bad
theorem Qh:oh K (rU λi=>.int (-i)) m7:=⟨λa c=>by unfold m7; walk_at "x",λG H x a Q s rx h=>by
 cases a <;> try exact h.elim
 rw[rx.int]
 exact⟨_,rfl,h _ G H (.refl s) (.int _)⟩⟩
noncomputable def Fv(K:PySem.W.Frag):List V->Hp->VK->Prop:=λxs H Q=>(∃p ys,xs=[.ref p]/\(aK K H p ys\/bH K H p ys)/\Q (.int ys.length) H)\/(∃z,xs=[.str z]/\z.length<=sizeLine/\Q (.int z.length) H)
theorem adG:gM X (.builtin "len") (Fv X.K):=gM.or acv acw
noncomputable def eH:G1
 |.lst ts=>.ok (.int ts.length,false)
 |.tup ts=>.ok (.int ts.length,false)
 |.str z=>if z.length<=100000 then .ok (.int z.length,false)else .bad
 |_=>.bad
theorem adH:oh (aC K) (λx=>Fv K [x]) eH:=⟨λa c=>by unfold eH; walk_at "x",λG H x a Q s rx h=>by
 cases a <;> try exact h.elim
 .dsimp only[eH]at h
  split at h
  .rename_i z e
   rw[rx.str]
   exact .inr ⟨z,rfl,big e,h _ G H (.refl s) (.int _)⟩
  .exact h.elim
 .obtain⟨p,xs,rfl,q,r⟩:=rx.tup s
  refine .inl ⟨p,xs,rfl,.inr q.toK,?_⟩
  rw[r.length]
  exact h _ G H (.refl s) (.int _)
 .obtain⟨p,xs,rfl,q,r⟩:=rx.lst s
  refine .inl ⟨p,xs,rfl,.inl q.toK,?_⟩
  rw[r.length]
  exact h _ G H (.refl s) (.int _)⟩
noncomputable def u6:G1
 |.int i=>.ok (.int (if i<0 then -i else i),false)
 |_=>.bad
theorem adI:oh K (λx H Q=>∃i,[x]=[V.int i]/\Q (.int (if i<0 then -i else i)) H) u6:=⟨λa c=>by unfold u6; walk_at "x",λG H x a Q s rx h=>by
 cases a <;> try exact h.elim
 rw[rx.int]
 exact⟨_,rfl,h _ G H (.refl s) (.int _)⟩⟩
noncomputable def aal:G1
 |.int i=>.ok (.int i,false)
 |.bl b=>.ok (.int (if b then 1 else 0),false)
 |_=>.bad
noncomputable def aao:G1
 |.lst ts=>.ok (.lst ts,true)
 |.tup ts=>.ok (.lst ts,true)
 |_=>.bad
noncomputable def aam:G2
 |.int i,.int j=>.ok (.int (if j<i then j else i),false)
 |_,_=>.bad
noncomputable def aan:G2
 |.int i,.int j=>.ok (.int (if j > i then j else i),false)
 |_,_=>.bad
noncomputable def u9:List Tr->Option (List Bool)
 | []=>some []
 |.bl i::r=>(u9 r).map (i :: ·)
 |_::_=>none
theorem Qi:∀{ts:List Tr} {ns:List Bool} {xs:List V},u9 ts=some ns->aA K H xs ts->xs=ns.map V.bl
 | [],ns,xs,h,r=>by cases h; cases r; rfl
 |.bl i::q,ns,xs,h,r=>by
  obtain⟨ms,e,rfl⟩:=Option.map_eq_some_iff.mp h
  cases r with
  |cons h1 r1 =>
   cases h1
   rw[Qi e r1]
   rfl
noncomputable def rJ:G1
 |.lst ts=>match u9 ts with
  |some bs=>.ok (.bl (bs.all id),false)
  |none=>.bad
 |_=>.bad
theorem adJ:oh (aC K) (λx=>Ej K [x]) rJ:=⟨λa c=>by unfold rJ; walk_at "x",λG H x a Q s rx h=>by
 cases a <;> try exact h.elim
 dsimp only[rJ]at h
 split at h
 .rename_i bs e
  obtain⟨p,xs,rfl,q,r⟩:=rx.lst s
  have z:=Qi e r
  subst z
  exact⟨p,bs,rfl,q.toK,h _ G H (.refl s) (.bl _)⟩
 .exact h.elim⟩
noncomputable def qX:Tr->Rs Bool
 |.bl b=>.ok b
 |_=>.bad
theorem Qj(a:Tr)(c:Str):qX a ≠ .ex c:=by cases a <;> (intro z; cases z)
theorem Qk{a:Tr}(h:Rp K G H v a)(q:qX a=.ok b):v=.bl b:=by
 cases a <;> cases q
 exact h.bl
noncomputable def yS:Tr->Rs Int
 |.int i=>.ok i
 |_=>.bad
theorem Ql(a:Tr)(c:Str):yS a ≠ .ex c:=by cases a <;> (intro z; cases z)
theorem Qm{a:Tr}(h:Rp K G H v a)(q:yS a=.ok b):v=.int b:=by
 cases a <;> cases q
 exact h.int
noncomputable def m5:Tr->Rs Bool
 |.non=>.ok false
 |.bl b=>.ok b
 |.int i=>.ok (i != 0)
 |.lst ts=>.ok (!ts.isEmpty)
 |.tup ts=>.ok (!ts.isEmpty)
 |.str x=>if x.length<=100000 then .ok ((x.length:Int) != 0)else .bad
 |.bV _=>.bad
theorem adK(a:Tr)(c:Str):m5 a ≠ .ex c:=by unfold m5; walk_at "x"
theorem Qn{α β : Type}{a:List α}{b:List β}(h:a.length=b.length):a.isEmpty=b.isEmpty:=by
 cases a <;> cases b <;> first|rfl|cases h
theorem adL(s:Same G H)(h:Rp (aC K) G H v a)(q:m5 a=.ok b):Dt K v H b:=by
 cases a with
 |non=>cases q; rw[h.non]; rfl
 |bl i=>cases q; rw[h.bl]; rfl
 |int i=>cases q; rw[h.int]; rfl
 |str i =>
  dsimp only[m5]at q
  split at q
  .rename_i e
   cases q
   rw[h.str]
   exact⟨big e,rfl⟩
  .cases q
 |tup ts =>
  cases q
  obtain⟨p,xs,rfl,q,r⟩:=h.tup s
  exact .inr (id ⟨xs,q.toK,by rw[Qn r.length]⟩)
 |lst ts =>
  cases q
  obtain⟨p,xs,rfl,q,r⟩:=h.lst s
  exact .inl ⟨xs,q.toK,by rw[Qn r.length]⟩
 |bV c=>cases q
end
end
end L2
end
section
namespace L2
open PySem
@[irreducible] def atName(e:Expr)(k:Str->Pos->Bool):Bool:=match e with
 |.Name x0 x1=>k x0 x1
 |_=>false
theorem KN(h:atName e k=true):∃x0 x1,e=.Name x0 x1/\k x0 x1=true:=by unfold atName at h; cases e <;> first|exact⟨_,_,rfl,h⟩|cases h
@[elab_as_elim] theorem Zy{C:_->Prop}(h:atName e k=true)(f:∀x0 x1,k x0 x1=true->C (.Name x0 x1)):C e:=by obtain⟨_,_,rfl,h'⟩:=KN h; exact f _ _ h'
@[irreducible] def yU(e:Expr)(k:Expr->Operator->Expr->Pos->Bool):Bool:=match e with
 |.BinOp x0 x1 x2 x3=>k x0 x1 x2 x3
 |_=>false
theorem KQ(h:yU e k=true):∃x0 x1 x2 x3,e=.BinOp x0 x1 x2 x3/\k x0 x1 x2 x3=true:=by unfold yU at h; cases e <;> first|exact⟨_,_,_,_,rfl,h⟩|cases h
@[elab_as_elim] theorem Zz{C:_->Prop}(h:yU e k=true)(f:∀x0 x1 x2 x3,k x0 x1 x2 x3=true->C (.BinOp x0 x1 x2 x3)):C e:=by obtain⟨_,_,_,_,rfl,h'⟩:=KQ h; exact f _ _ _ _ h'
@[irreducible] def pX(e:Expr)(k:UnaryOp->Expr->Pos->Bool):Bool:=match e with
 |.UnaryOp x0 x1 x2=>k x0 x1 x2
 |_=>false
theorem KR(h:pX e k=true):∃x0 x1 x2,e=.UnaryOp x0 x1 x2/\k x0 x1 x2=true:=by unfold pX at h; cases e <;> first|exact⟨_,_,_,rfl,h⟩|cases h
@[elab_as_elim] theorem ZC{C:_->Prop}(h:pX e k=true)(f:∀x0 x1 x2,k x0 x1 x2=true->C (.UnaryOp x0 x1 x2)):C e:=by obtain⟨_,_,_,rfl,h'⟩:=KR h; exact f _ _ _ h'
@[irreducible] def vd(e:Expr)(k:Expr->List CmpOp->List Expr->Pos->Bool):Bool:=match e with
 |.Compare x0 x1 x2 x3=>k x0 x1 x2 x3
 |_=>false
theorem KY(h:vd e k=true):∃x0 x1 x2 x3,e=.Compare x0 x1 x2 x3/\k x0 x1 x2 x3=true:=by unfold vd at h; cases e <;> first|exact⟨_,_,_,_,rfl,h⟩|cases h
@[elab_as_elim] theorem ZD{C:_->Prop}(h:vd e k=true)(f:∀x0 x1 x2 x3,k x0 x1 x2 x3=true->C (.Compare x0 x1 x2 x3)):C e:=by obtain⟨_,_,_,_,rfl,h'⟩:=KY h; exact f _ _ _ _ h'
@[irreducible] def vf(e:Expr)(k:BoolOp->List Expr->Pos->Bool):Bool:=match e with
 |.BoolOp x0 x1 x2=>k x0 x1 x2
 |_=>false
theorem KZ(h:vf e k=true):∃x0 x1 x2,e=.BoolOp x0 x1 x2/\k x0 x1 x2=true:=by unfold vf at h; cases e <;> first|exact⟨_,_,_,rfl,h⟩|cases h
@[elab_as_elim] theorem ZF{C:_->Prop}(h:vf e k=true)(f:∀x0 x1 x2,k x0 x1 x2=true->C (.BoolOp x0 x1 x2)):C e:=by obtain⟨_,_,_,rfl,h'⟩:=KZ h; exact f _ _ _ h'
@[irreducible] def yV(e:Expr)(k:Expr->Expr->Expr->Pos->Bool):Bool:=match e with
 |.IfExp x0 x1 x2 x3=>k x0 x1 x2 x3
 |_=>false
theorem K1(h:yV e k=true):∃x0 x1 x2 x3,e=.IfExp x0 x1 x2 x3/\k x0 x1 x2 x3=true:=by unfold yV at h; cases e <;> first|exact⟨_,_,_,_,rfl,h⟩|cases h
@[elab_as_elim] theorem ZG{C:_->Prop}(h:yV e k=true)(f:∀x0 x1 x2 x3,k x0 x1 x2 x3=true->C (.IfExp x0 x1 x2 x3)):C e:=by obtain⟨_,_,_,_,rfl,h'⟩:=K1 h; exact f _ _ _ _ h'
@[irreducible] def mF(e:Expr)(k:Expr->Expr->Pos->Bool):Bool:=match e with
 |.Subscript x0 x1 x2=>k x0 x1 x2
 |_=>false
theorem K3(h:mF e k=true):∃x0 x1 x2,e=.Subscript x0 x1 x2/\k x0 x1 x2=true:=by unfold mF at h; cases e <;> first|exact⟨_,_,_,rfl,h⟩|cases h
@[elab_as_elim] theorem ZJ{C:_->Prop}(h:mF e k=true)(f:∀x0 x1 x2,k x0 x1 x2=true->C (.Subscript x0 x1 x2)):C e:=by obtain⟨_,_,_,rfl,h'⟩:=K3 h; exact f _ _ _ h'
@[irreducible] def jh(e:Expr)(k:List Expr->Nat->Pos->Bool):Bool:=match e with
 |.Tuple x0 x1 x2=>k x0 x1 x2
 |_=>false
theorem K4(h:jh e k=true):∃x0 x1 x2,e=.Tuple x0 x1 x2/\k x0 x1 x2=true:=by unfold jh at h; cases e <;> first|exact⟨_,_,_,rfl,h⟩|cases h
@[elab_as_elim] theorem ZK{C:_->Prop}(h:jh e k=true)(f:∀x0 x1 x2,k x0 x1 x2=true->C (.Tuple x0 x1 x2)):C e:=by obtain⟨_,_,_,rfl,h'⟩:=K4 h; exact f _ _ _ h'
@[irreducible] def vg(e:Expr)(k:List Expr->Pos->Bool):Bool:=match e with
 |.List x0 x1=>k x0 x1
 |_=>false
theorem K5(h:vg e k=true):∃x0 x1,e=.List x0 x1/\k x0 x1=true:=by unfold vg at h; cases e <;> first|exact⟨_,_,rfl,h⟩|cases h
@[elab_as_elim] theorem ZL{C:_->Prop}(h:vg e k=true)(f:∀x0 x1,k x0 x1=true->C (.List x0 x1)):C e:=by obtain⟨_,_,rfl,h'⟩:=K5 h; exact f _ _ h'
@[irreducible] def yW(e:Expr)(k:Option Expr->Option Expr->Option Expr->Pos->Bool):Bool:=match e with
 |.Slice x0 x1 x2 x3=>k x0 x1 x2 x3
 |_=>false
theorem K6(h:yW e k=true):∃x0 x1 x2 x3,e=.Slice x0 x1 x2 x3/\k x0 x1 x2 x3=true:=by unfold yW at h; cases e <;> first|exact⟨_,_,_,_,rfl,h⟩|cases h
@[elab_as_elim] theorem ZM{C:_->Prop}(h:yW e k=true)(f:∀x0 x1 x2 x3,k x0 x1 x2 x3=true->C (.Slice x0 x1 x2 x3)):C e:=by obtain⟨_,_,_,_,rfl,h'⟩:=K6 h; exact f _ _ _ _ h'
@[irreducible] def ji(e:Expr)(k:Expr->List Expr->List Keyword->Pos->Bool):Bool:=match e with
 |.Call x0 x1 x2 x3=>k x0 x1 x2 x3
 |_=>false
theorem CK(h:ji e k=true):∃x0 x1 x2 x3,e=.Call x0 x1 x2 x3/\k x0 x1 x2 x3=true:=by unfold ji at h; cases e <;> first|exact⟨_,_,_,_,rfl,h⟩|cases h
@[elab_as_elim] theorem ZP{C:_->Prop}(h:ji e k=true)(f:∀x0 x1 x2 x3,k x0 x1 x2 x3=true->C (.Call x0 x1 x2 x3)):C e:=by obtain⟨_,_,_,_,rfl,h'⟩:=CK h; exact f _ _ _ _ h'
@[irreducible] def yX(e:Expr)(k:Expr->Str->Pos->Bool):Bool:=match e with
 |.Attribute x0 x1 x2=>k x0 x1 x2
 |_=>false
theorem K7(h:yX e k=true):∃x0 x1 x2,e=.Attribute x0 x1 x2/\k x0 x1 x2=true:=by unfold yX at h; cases e <;> first|exact⟨_,_,_,rfl,h⟩|cases h
@[elab_as_elim] theorem ZQ{C:_->Prop}(h:yX e k=true)(f:∀x0 x1 x2,k x0 x1 x2=true->C (.Attribute x0 x1 x2)):C e:=by obtain⟨_,_,_,rfl,h'⟩:=K7 h; exact f _ _ _ h'
@[irreducible] def ou(e:Expr)(k:Expr->List Comprehension->Scope->Pos->Bool):Bool:=match e with
 |.ListComp x0 x1 x2 x3=>k x0 x1 x2 x3
 |_=>false
theorem K8(h:ou e k=true):∃x0 x1 x2 x3,e=.ListComp x0 x1 x2 x3/\k x0 x1 x2 x3=true:=by unfold ou at h; cases e <;> first|exact⟨_,_,_,_,rfl,h⟩|cases h
@[elab_as_elim] theorem ZR{C:_->Prop}(h:ou e k=true)(f:∀x0 x1 x2 x3,k x0 x1 x2 x3=true->C (.ListComp x0 x1 x2 x3)):C e:=by obtain⟨_,_,_,_,rfl,h'⟩:=K8 h; exact f _ _ _ _ h'
@[irreducible] def yZ(e:Expr)(k:Arguments->Expr->Scope->Pos->Bool):Bool:=match e with
 |.Lambda x0 x1 x2 x3=>k x0 x1 x2 x3
 |_=>false
theorem K9(h:yZ e k=true):∃x0 x1 x2 x3,e=.Lambda x0 x1 x2 x3/\k x0 x1 x2 x3=true:=by unfold yZ at h; cases e <;> first|exact⟨_,_,_,_,rfl,h⟩|cases h
@[elab_as_elim] theorem ZS{C:_->Prop}(h:yZ e k=true)(f:∀x0 x1 x2 x3,k x0 x1 x2 x3=true->C (.Lambda x0 x1 x2 x3)):C e:=by obtain⟨_,_,_,_,rfl,h'⟩:=K9 h; exact f _ _ _ _ h'
@[irreducible] def oA(e:Stmt)(k:List Expr->Expr->Pos->Bool):Bool:=match e with
 |.Assign x0 x1 x2=>k x0 x1 x2
 |_=>false
theorem La(h:oA e k=true):∃x0 x1 x2,e=.Assign x0 x1 x2/\k x0 x1 x2=true:=by unfold oA at h; cases e <;> first|exact⟨_,_,_,rfl,h⟩|cases h
@[elab_as_elim] theorem ZV{C:_->Prop}(h:oA e k=true)(f:∀x0 x1 x2,k x0 x1 x2=true->C (.Assign x0 x1 x2)):C e:=by obtain⟨_,_,_,rfl,h'⟩:=La h; exact f _ _ _ h'
@[irreducible] def zf(e:Stmt)(k:Expr->Pos->Bool):Bool:=match e with
 |.Expr x0 x1=>k x0 x1
 |_=>false
theorem Lb(h:zf e k=true):∃x0 x1,e=.Expr x0 x1/\k x0 x1=true:=by unfold zf at h; cases e <;> first|exact⟨_,_,rfl,h⟩|cases h
@[elab_as_elim] theorem ZW{C:_->Prop}(h:zf e k=true)(f:∀x0 x1,k x0 x1=true->C (.Expr x0 x1)):C e:=by obtain⟨_,_,rfl,h'⟩:=Lb h; exact f _ _ h'
@[irreducible] def zj(e:Stmt)(k:Option Expr->Pos->Bool):Bool:=match e with
 |.Return x0 x1=>k x0 x1
 |_=>false
theorem Ld(h:zj e k=true):∃x0 x1,e=.Return x0 x1/\k x0 x1=true:=by unfold zj at h; cases e <;> first|exact⟨_,_,rfl,h⟩|cases h
@[elab_as_elim] theorem ZX{C:_->Prop}(h:zj e k=true)(f:∀x0 x1,k x0 x1=true->C (.Return x0 x1)):C e:=by obtain⟨_,_,rfl,h'⟩:=Ld h; exact f _ _ h'
@[irreducible] def zm(e:Stmt)(k:Expr->List Stmt->List Stmt->Pos->Bool):Bool:=match e with
 |.If x0 x1 x2 x3=>k x0 x1 x2 x3
 |_=>false
theorem Le(h:zm e k=true):∃x0 x1 x2 x3,e=.If x0 x1 x2 x3/\k x0 x1 x2 x3=true:=by unfold zm at h; cases e <;> first|exact⟨_,_,_,_,rfl,h⟩|cases h
@[elab_as_elim] theorem Z0{C:_->Prop}(h:zm e k=true)(f:∀x0 x1 x2 x3,k x0 x1 x2 x3=true->C (.If x0 x1 x2 x3)):C e:=by obtain⟨_,_,_,_,rfl,h'⟩:=Le h; exact f _ _ _ _ h'
@[irreducible] def zq(e:Stmt)(k:Option Expr->Option Expr->Pos->Bool):Bool:=match e with
 |.Raise x0 x1 x2=>k x0 x1 x2
 |_=>false
theorem Lf(h:zq e k=true):∃x0 x1 x2,e=.Raise x0 x1 x2/\k x0 x1 x2=true:=by unfold zq at h; cases e <;> first|exact⟨_,_,_,rfl,h⟩|cases h
@[elab_as_elim] theorem Z1{C:_->Prop}(h:zq e k=true)(f:∀x0 x1 x2,k x0 x1 x2=true->C (.Raise x0 x1 x2)):C e:=by obtain⟨_,_,_,rfl,h'⟩:=Lf h; exact f _ _ _ h'
@[irreducible] def zx(e:Stmt)(k:Expr->List Stmt->List Stmt->Pos->Bool):Bool:=match e with
 |.While x0 x1 x2 x3=>k x0 x1 x2 x3
 |_=>false
theorem Lg(h:zx e k=true):∃x0 x1 x2 x3,e=.While x0 x1 x2 x3/\k x0 x1 x2 x3=true:=by unfold zx at h; cases e <;> first|exact⟨_,_,_,_,rfl,h⟩|cases h
@[elab_as_elim] theorem Z2{C:_->Prop}(h:zx e k=true)(f:∀x0 x1 x2 x3,k x0 x1 x2 x3=true->C (.While x0 x1 x2 x3)):C e:=by obtain⟨_,_,_,_,rfl,h'⟩:=Lg h; exact f _ _ _ _ h'
@[irreducible] def zA(e:Stmt)(k:Expr->Expr->List Stmt->List Stmt->Pos->Bool):Bool:=match e with
 |.For x0 x1 x2 x3 x4=>k x0 x1 x2 x3 x4
 |_=>false
theorem Lh(h:zA e k=true):∃x0 x1 x2 x3 x4,e=.For x0 x1 x2 x3 x4/\k x0 x1 x2 x3 x4=true:=by unfold zA at h; cases e <;> first|exact⟨_,_,_,_,_,rfl,h⟩|cases h
@[elab_as_elim] theorem Z4{C:_->Prop}(h:zA e k=true)(f:∀x0 x1 x2 x3 x4,k x0 x1 x2 x3 x4=true->C (.For x0 x1 x2 x3 x4)):C e:=by obtain⟨_,_,_,_,_,rfl,h'⟩:=Lh h; exact f _ _ _ _ _ h'
@[irreducible] def mG(e:Comprehension)(k:Expr->Expr->List Expr->Int->Bool):Bool:=k e.target e.iter e.ifs e.is_async
theorem Li(h:mG e k=true):∃x0 x1 x2 x3,e=⟨x0,x1,x2,x3⟩/\k x0 x1 x2 x3=true:=by unfold mG at h; cases e; exact⟨_,_,_,_,rfl,h⟩
@[elab_as_elim] theorem Z5{C:_->Prop}(h:mG e k=true)(f:∀x0 x1 x2 x3,k x0 x1 x2 x3=true->C (⟨x0,x1,x2,x3⟩)):C e:=by obtain⟨_,_,_,_,rfl,h'⟩:=Li h; exact f _ _ _ _ h'
@[irreducible] def zB(e:Keyword)(k:Option Str->Expr->Pos->Bool):Bool:=k e.arg e.value e.pos
theorem Lj(h:zB e k=true):∃x0 x1 x2,e=⟨x0,x1,x2⟩/\k x0 x1 x2=true:=by unfold zB at h; cases e; exact⟨_,_,_,rfl,h⟩
@[elab_as_elim] theorem Z6{C:_->Prop}(h:zB e k=true)(f:∀x0 x1 x2,k x0 x1 x2=true->C (⟨x0,x1,x2⟩)):C e:=by obtain⟨_,_,_,rfl,h'⟩:=Lj h; exact f _ _ _ h'
@[irreducible] def zE(e:Arg)(k:Str->Option Expr->Pos->Bool):Bool:=k e.arg e.annotation e.pos
theorem Ln(h:zE e k=true):∃x0 x1 x2,e=⟨x0,x1,x2⟩/\k x0 x1 x2=true:=by unfold zE at h; cases e; exact⟨_,_,_,rfl,h⟩
@[elab_as_elim] theorem Z7{C:_->Prop}(h:zE e k=true)(f:∀x0 x1 x2,k x0 x1 x2=true->C (⟨x0,x1,x2⟩)):C e:=by obtain⟨_,_,_,rfl,h'⟩:=Ln h; exact f _ _ _ h'
@[irreducible] def zF(e:Arguments)(k:List Arg->List Arg->Option Arg->List Arg->List (Option Expr)->Option Arg->List Expr->Bool):Bool:=k e.posonlyargs e.args e.vararg e.kwonlyargs e.kw_defaults e.kwarg e.defaults
theorem Lp(h:zF e k=true):∃x0 x1 x2 x3 x4 x5 x6,e=⟨x0,x1,x2,x3,x4,x5,x6⟩/\k x0 x1 x2 x3 x4 x5 x6=true:=by unfold zF at h; cases e; exact⟨_,_,_,_,_,_,_,rfl,h⟩
@[elab_as_elim] theorem Z8{C:_->Prop}(h:zF e k=true)(f:∀x0 x1 x2 x3 x4 x5 x6,k x0 x1 x2 x3 x4 x5 x6=true->C (⟨x0,x1,x2,x3,x4,x5,x6⟩)):C e:=by obtain⟨_,_,_,_,_,_,_,rfl,h'⟩:=Lp h; exact f _ _ _ _ _ _ _ h'
@[irreducible] def aX{α : Type}(l:List α)(k : α -> List α -> Bool):Bool:=match l with
 |x::y=>k x y
 |_=>false
theorem KH{α : Type}{l:List α}{k : α -> List α -> Bool}(h:aX l k=true):∃x y,l=x::y/\k x y=true:=by unfold aX at h; cases l <;> first|exact⟨_,_,rfl,h⟩|cases h
@[elab_as_elim] theorem Z9{α : Type}{l:List α}{k : α -> List α -> Bool}{C:_->Prop}(h:aX l k=true)(f:∀x y,k x y=true->C (x::y)):C l:=by obtain⟨_,_,rfl,h'⟩:=KH h; exact f _ _ h'
@[irreducible] def bw{α : Type}(l:List α)(k:Bool):Bool:=l.isEmpty&&k
theorem KJ{α : Type}{l:List α}{k:Bool}(h:bw l k=true):l=[]/\k=true:=by unfold bw at h; cases l <;> first|exact⟨rfl,h⟩|cases h
@[elab_as_elim] theorem aac{α : Type}{l:List α}{k:Bool}{C:_->Prop}(h:bw l k=true)(f:k=true->C ([])):C l:=by obtain⟨rfl,h'⟩:=KJ h; exact f h'
@[irreducible] def pY{α : Type}(l:Option α)(k : α -> Bool):Bool:=match l with
 |some x=>k x
 |_=>false
theorem Lr{α : Type}{l:Option α}{k : α -> Bool}(h:pY l k=true):∃x,l=some x/\k x=true:=by unfold pY at h; cases l <;> first|exact⟨_,rfl,h⟩|cases h
@[elab_as_elim] theorem aad{α : Type}{l:Option α}{k : α -> Bool}{C:_->Prop}(h:pY l k=true)(f:∀x,k x=true->C (some x)):C l:=by obtain⟨_,rfl,h'⟩:=Lr h; exact f _ h'
@[irreducible] def pZ{α : Type}(l:Option α)(k:Bool):Bool:=l.isNone&&k
theorem Ls{α : Type}{l:Option α}{k:Bool}(h:pZ l k=true):l=none/\k=true:=by unfold pZ at h; cases l <;> first|exact⟨rfl,h⟩|cases h
@[elab_as_elim] theorem aae{α : Type}{l:Option α}{k:Bool}{C:_->Prop}(h:pZ l k=true)(f:k=true->C (none)):C l:=by obtain⟨rfl,h'⟩:=Ls h; exact f h'
@[irreducible] def jk{α : Type} [DecidableEq α](a b : α)(k:Bool):Bool:=decide (a=b)&&k
theorem Lw{α : Type} [DecidableEq α]{a b : α}{k:Bool}(h:jk a b k=true):a=b/\k=true:=by simpa[jk]using h
@[elab_as_elim] theorem aaf{α : Type} [DecidableEq α]{a b : α}{k:Bool}{C : α -> Prop}(h:jk a b k=true)(f:k=true->C b):C a:=by obtain⟨e,q⟩:=Lw h; subst e; exact f q
open PySem.Spec PyProof.Rows
noncomputable def p7(i:Int):TE:=λ_ H Q=>Q (.int i) H
noncomputable def kI:Const->Option Int
 |.int i=>some i
 |_=>none
noncomputable def bI(o:Operator)(i j:Int):Option Int:=match o with
 |.Sub=>some (i-j)
 |.Add=>some (i+j)
 |.Pow=>if 0<=j/\j<=100/\i.natAbs<=1000 then some (i ^ j.toNat)else none
 |_=>none
noncomputable def uI(o:UnaryOp)(i:Int):Option Int:=match o with
 |.USub=>some (-i)
 |_=>none
noncomputable def cI:Expr->Option Int
 |.Constant c _ _=>kI c
 |.UnaryOp o e _=>(cI e).bind (uI o)
 |.BinOp a o b _=>(cI a).bind λi=>(cI b).bind λj=>bI o i j
 |_=>none
theorem adM(h:kI c=some i):PE X (.Constant c k p) (p7 i):=by
 cases c <;> first|(cases h; exact Dd)|cases h
theorem adN(h:uI o i=some k)(he:PE X e (p7 i)):PE X (.UnaryOp o e p) (p7 k):=by
 cases o <;> first|(cases h; exact(Dq Dr he).imp λσ H Q q=>⟨i,rfl,q⟩)|cases h
theorem adO(h:bI o i j=some k)(ha:PE X a (p7 i))(hb:PE X b (p7 j)):PE X (.BinOp a o b p) (p7 k):=by
 cases o <;> try cases h
 .exact(xZ Nk ha hb).imp λσ H Q q=>⟨i,j,rfl,rfl,q⟩
 .exact(xZ Nm ha hb).imp λσ H Q q=>⟨i,j,rfl,rfl,q⟩
 .dsimp only[bI]at h
  split at h
  .rename_i c
   cases h
   exact(xZ Np ha hb).imp λσ H Q q=>⟨i,j,rfl,rfl,⟨c.1,by lia,by lia⟩,q⟩
  .cases h
theorem zG(e:Expr)(k:Int)(h:cI e=some k):PE X e (p7 k):=by
 cases e with
 |Constant c _ _=>exact adM h
 |UnaryOp o a _ =>
  have h:(cI a).bind (uI o)=some k:=h
  cases e1:cI a with
  |none=>rw[e1]at h; cases h
  |some i=>rw[e1]at h; exact adN h (zG a i e1)
 |BinOp a o b _ =>
  have h:((cI a).bind λi=>(cI b).bind λj=>bI o i j)=some k:=h
  cases e1:cI a with
  |none=>rw[e1]at h; cases h
  |some i =>
   cases e2:cI b with
   |none=>rw[e1,e2]at h; cases h
   |some j=>rw[e1,e2]at h; exact adO h (zG a i e1) (zG b j e2)
 |_=>cases h
noncomputable def kT:Const->Option Tr
 |.none=>some .non
 |.bool b=>some (.bl b)
 |.str x=>some (.str x)
 |.int i=>some (.int i)
 |_=>none
mutual
noncomputable def cT:Expr->Option Tr
 |.Constant c _ _=>kT c
 |.Tuple es _ _=>(gU es).map .tup
 |.List es _=>(gU es).map .lst
 |.UnaryOp o a p=>(cI (.UnaryOp o a p)).map .int
 |.BinOp a o b p=>(cI (.BinOp a o b p)).map .int
 |_=>none
noncomputable def gU:List Expr->Option (List Tr)
 | []=>some []
 |e::r=>match cT e,gU r with
  |some T,some Ts=>if Ts.length<1000 then some (T::Ts)else none
  |_,_=>none
end
theorem zH:∀{es:List Expr} {Ts:List Tr},gU es=some Ts->Ts.length<=1000
 | [],Ts,h=>by
  cases h
  decide
 |e::r,Ts,h=>by
  unfold gU at h
  split at h
  .split at h
   .cases h
    rename_i h1
    rw[List.length_cons]
    lia
   .cases h
  .cases h
section
variable {X:Cx}{e:Expr}{es:List Expr}{T:Tr}{Ts:List Tr}{pos:Pos}{k:Nat}{G:PySem.W.Frag}
theorem adP:PA X [] (rE G []):=uQ.imp λσ H Q q=>q [] H (Same.refl _) λ_ _=>.nil
theorem adQ(h:PE X e (pR G T))(r:PA X es (rE G Ts))(hs:starEach (e::es) X.env=(false,eval e X.env)::starEach es X.env):PA X (e::es) (rE G (T::Ts)) :=
 (pL h r hs).imp λσ H Q q v H1 s1 rv vs H2 s2 rs=>q (v::vs) H2 (s1.trans s2) λPr p=>.cons ((rv Pr p).mono (p.mono s2)) (rs Pr (p.le s1))
theorem Qo(h:PA X es (rE G Ts))(hl:Ts.length<=1000):PE X (.Tuple es k pos) (pR G (.tup Ts)) :=
 (Dv h).imp λσ H Q q vs H1 s1 rs=>by
  by_cases hv:vs.length<=sizeLine
  .exact⟨hv,λa ha=>q (.ref a) _ (s1.trans (fY ha _)) λPr p=>.tup (bH.of ((p.le s1).new (Same.refl _) ha)) ((rs Pr p).mono (p.mono (fY ha _)))⟩
  .exact absurd (Nat.le_of_lt (Ea (by rw[(rs _ (Pj.id H)).length]; exact hl))) hv
theorem Qp(h:PA X es (rE G Ts))(hl:Ts.length<=1000):PE X (.List es pos) (Ek G Ts) :=
 (Nu h).imp λσ H Q q vs H1 s1 rs=>by
  have e:=(rs _ (Pj.id H)).length
  exact⟨Nat.le_of_lt (Ea (by rw[e]; exact hl)),λa ha=>q a vs H1 s1 ha rs e⟩
theorem adR(h:PE X e (Ek G Ts)):PE X e (pR G (.lst Ts)) :=
 h.imp λσ H Q q a xs H1 s1 ha rs _=>q (.ref a) _ (s1.trans (fY ha _)) λPr p=>.lst (aK.of ((p.le s1).new (Same.refl _) ha)) ((rs Pr p).mono (p.mono (fY ha _)))
theorem Qq(h:(cI e).map Tr.int=some T):PE X e (pR G T):=by
 cases e1:cI e with
 |none=>rw[e1]at h; cases h
 |some i =>
  rw[e1]at h; cases h
  exact(zG e i e1).imp λσ H Q q=>q _ H (Same.refl _) λ_ _=>.int i
end
theorem adS(h:cT e=some T):starEach (e::es) env=(false,eval e env)::starEach es env:=by
 cases e <;> first|rfl|(unfold cT at h; cases h)
theorem adT(h:kT c=some T):PE X (.Constant c k p) (pR G T):=by
 cases c <;> try cases h
 .exact Mx.imp λσ H Q q=>q _ H (Same.refl _) λ_ _=>.non
 .exact Mw.imp λσ H Q q=>q _ H (Same.refl _) λ_ _=>.bl _
 .exact Dd.imp λσ H Q q=>q _ H (Same.refl _) λ_ _=>.int _
 .exact Mz.imp λσ H Q q=>q _ H (Same.refl _) λ_ _=>.str _
mutual
theorem adU(e:Expr)(T:Tr)(h:cT e=some T):PE X e (pR G T):=by
 cases e with
 |Constant c _ _=>exact adT (by unfold cT at h; exact h)
 |Tuple es _ _ =>
  unfold cT at h
  cases e:gU es with
  |none=>rw[e]at h; cases h
  |some Ts =>
   rw[e]at h
   cases h
   exact Qo (vh es Ts e) (zH e)
 |List es _ =>
  unfold cT at h
  cases e:gU es with
  |none=>rw[e]at h; cases h
  |some Ts =>
   rw[e]at h
   cases h
   exact adR (Qp (vh es Ts e) (zH e))
 |UnaryOp o a p=>exact Qq (by unfold cT at h; exact h)
 |BinOp a o b p=>exact Qq (by unfold cT at h; exact h)
 |_=>unfold cT at h; cases h
theorem vh:∀(es:List Expr) (Ts:List Tr),gU es=some Ts->PA X es (rE G Ts)
 | [],Ts,h=>by
  unfold gU at h; cases h
  exact adP
 |e::r,Ts,h=>by
  unfold gU at h
  cases e1:cT e with
  |none=>rw[e1]at h; cases h
  |some T =>
   cases e2:gU r with
   |none=>rw[e1,e2]at h; cases h
   |some Us =>
    rw[e1,e2]at h
    dsimp only at h
    split at h
    .cases h
     exact adQ (adU e T e1) (vh r Us e2) (adS e1)
    .cases h
end
theorem adV(h:gU es=some Ts):PE X (.List es pos) (Ek G Ts):=Qp (vh es Ts h) (zH h)
theorem adW(h:gU es=some Ts):PE X (.Tuple es k pos) (pR G (.tup Ts)):=Qo (vh es Ts h) (zH h)
class NF where
 f:Value->Int
section
variable [NF]{kf:Value->Int × Int}
noncomputable def q1(kf:Value->Int × Int)(xs:Array Keyed)(i:Nat):Int:=match xs[i]? with|some p=>(kf p.1).1|none=>0
noncomputable def q2(kf:Value->Int × Int)(xs:Array Keyed)(i:Nat):Int:=match xs[i]? with|some p=>(kf p.1).2|none=>0
noncomputable def qr(xs:Array Keyed)(i:Nat):Int:=match xs[i]? with|some p=>NF.f p.2|none=>0
noncomputable def Kl(kf:Value->Int × Int)(xs:Array Keyed)(i j:Nat):Prop:=q1 kf xs i<q1 kf xs j\/(q1 kf xs i=q1 kf xs j/\q2 kf xs i<q2 kf xs j)
noncomputable instance {kf:Value->Int × Int}{xs:Array Keyed}{i j:Nat}:Decidable (Kl kf xs i j):=by unfold Kl; infer_instance
noncomputable def Ke(kf:Value->Int × Int)(xs:Array Keyed)(i j:Nat):Prop:=q1 kf xs i=q1 kf xs j/\q2 kf xs i=q2 kf xs j
noncomputable def Lq(kf:Value->Int × Int)(xs:Array Keyed)(i j:Nat):Prop:=Kl kf xs i j\/(Ke kf xs i j/\qr xs i<qr xs j)
noncomputable def fH(kf:Value->Int × Int)(xs:Array Keyed)(m:Nat):Prop:=∀i j,i<j->j<m->Lq kf xs i j
noncomputable def bZ(kf:Value->Int × Int)(xs:Array Keyed)(m:Nat):Prop:=∀i j,i<j->j<m->Lq kf xs j i
noncomputable def kO(kf:Value->Int × Int)(xs:Array Keyed)(m q:Nat):Prop:=(∀i j,i<j->j<m->i<q->Lq kf xs j i/\(q<=j->Kl kf xs j i))/\∀i j,q<=i->i<j->j<m->Ke kf xs i j/\qr xs i<qr xs j
noncomputable def Pre(N:Nat)(xs:Array Keyed)(m:Nat):Prop:=(∀k:Nat,k<m->qr xs k<m)/\∀k:Nat,m<=k->k<N->qr xs k=k
theorem mH(h:xs[i]?=ys[j]?):qr xs i=qr ys j:=by unfold qr; rw[h]
theorem zJ(h:xs[i]?=ys[j]?):q1 kf xs i=q1 kf ys j:=by unfold q1; rw[h]
theorem zK(h:xs[i]?=ys[j]?):q2 kf xs i=q2 kf ys j:=by unfold q2; rw[h]
theorem gW(hj:j<=xs.size)(k:Nat):(i<=k/\k<j/\(mirror xs i j ((j-i) / 2))[k]?=xs[i+j-1-k]?)\/(¬(i<=k/\k<j)/\(mirror xs i j ((j-i) / 2))[k]?=xs[k]?):=by
 have e:=getElem?_mirror_all (i:=i) hj k
 by_cases h:i<=k/\k<j
 .rw[if_pos h]at e; exact .inl ⟨h.1,h.2,e⟩
 .rw[if_neg h]at e; exact .inr ⟨h,e⟩
theorem mJ(h1:xs[i]?=ys[i']?)(h2:xs[j]?=ys[j']?):Lq kf xs i j↔Lq kf ys i' j':=by
 unfold Lq Kl Ke; rw[mH h1,mH h2,zJ h1,zJ h2,zK h1,zK h2]
theorem zL(h1:xs[i]?=ys[i']?)(h2:xs[j]?=ys[j']?):Kl kf xs i j↔Kl kf ys i' j':=by
 unfold Kl; rw[zJ h1,zJ h2,zK h1,zK h2]
theorem Kl.tr(a:Kl kf xs i j)(b:Kl kf xs j k):Kl kf xs i k:=by
 unfold Kl at *
 generalize q1 kf xs i=a1,q2 kf xs i=a2,q1 kf xs j=b1,q2 kf xs j=b2,q1 kf xs k=c1,q2 kf xs k=c2 at *
 lia
theorem Kl.no(a:¬Kl kf xs i j)(b:¬Kl kf xs j i):Ke kf xs i j:=by
 unfold Kl at *
 unfold Ke
 generalize q1 kf xs i=a1,q2 kf xs i=a2,q1 kf xs j=b1,q2 kf xs j=b2 at *
 lia
theorem Ke.s(a:Ke kf xs i j):Ke kf xs j i:=⟨a.1.symm,a.2.symm⟩
theorem Ke.t(a:Ke kf xs i j)(b:Ke kf xs j k):Ke kf xs i k:=⟨a.1.trans b.1,a.2.trans b.2⟩
theorem Ke.l(a:Ke kf xs i j)(b:Kl kf xs j k):Kl kf xs i k:=by
 unfold Kl at *
 rw[a.1,a.2]
 exact b
theorem Ke.r(a:Kl kf xs i j)(b:Ke kf xs j k):Kl kf xs i k:=by
 unfold Kl at *
 rw[<-b.1,<-b.2]
 exact a
theorem Kl.tq(a:Kl kf xs i j)(b:Lq kf xs j k):Kl kf xs i k:=b.elim a.tr λz=>Ke.r a z.1
theorem Kl.qt(a:Lq kf xs i j)(b:Kl kf xs j k):Kl kf xs i k:=a.elim (λz=>z.tr b) λz=>z.1.l b
theorem Lq.mk(a:¬Kl kf xs j i)(b:qr xs i<qr xs j):Lq kf xs i j:=by
 by_cases h:Kl kf xs i j
 .exact .inl h
 .exact .inr ⟨Kl.no h a,b⟩
theorem Pre.gW(h:Pre N xs m)(hj:j<=xs.size)(hm:j<=m):Pre N (mirror xs i j ((j-i) / 2)) m:=by
 refine⟨λk hk=>?_,λk hk hN=>?_⟩
 .rcases L2.gW hj k with⟨a,b,e⟩|⟨n,e⟩
  .rw[mH e]; exact h.1 _ (by lia)
  .rw[mH e]; exact h.1 _ hk
 .rcases L2.gW hj k with⟨a,b,e⟩|⟨n,e⟩
  .lia
  .rw[mH e]; exact h.2 _ hk hN
theorem bZ.turn(h:bZ kf xs m)(hm:m<=xs.size):fH kf (mirror xs 0 m ((m-0) / 2)) m:=λi j hij hj=>by
 rcases gW (i:=0) hm i with⟨_,_,e1⟩|⟨n,_⟩
 .rcases gW (i:=0) hm j with⟨_,_,e2⟩|⟨n,_⟩
  .rw[mJ e1 e2]; exact h _ _ (by lia) (by lia)
  .lia
 .lia
theorem kO.turn(h:kO kf xs m q)(hm:m<=xs.size)(hq:q<m):bZ kf (mirror xs q m ((m-q) / 2)) m:=λi j hij hj=>by
 rcases gW (i:=q) hm i with⟨a,b,e1⟩|⟨n,e1⟩ <;> rcases gW (i:=q) hm j with⟨a',b',e2⟩|⟨n',e2⟩
 .rw[mJ e2 e1]
  have z:=h.2 (q+m-1-j) (q+m-1-i) (by lia) (by lia) (by lia)
  exact .inr z
 .lia
 .rw[mJ e2 e1]
  exact(h.1 i (q+m-1-j) (by lia) (by lia) (by lia)).1
 .rw[mJ e2 e1]
  exact(h.1 i j hij hj (by lia)).1
theorem kO.one(h:kO kf xs m q)(hq:m<=q+1):bZ kf xs m:=λi j hij hj=>(h.1 i j hij hj (by lia)).1
end
section
variable [NF]{prog:Program}{w:World}{A:Around}{E:Value->Shared->Prop}{s:Shared}{N:Nat}{kd:SortKind}{kf:Value->Int × Int}
structure SB(a₀ : Array Keyed)(kd:SortKind)(st:SortSt):Prop where
 pm:(arrOf st).Perm a₀
 kn:kindOf st=kd
 fl:failedOf st=none
 pd:pendingOf st = #[]
theorem SB.sz{st:SortSt}(h:SB a₀ kd st):(arrOf st).size=a₀.size:=h.pm.size_eq
theorem SB.put{st:SortSt}(h:SB a₀ kd st)(p:xs.Perm (arrOf st)):SB a₀ kd (setArr st xs):=⟨p.trans h.pm,h.kn,h.fl,h.pd⟩
noncomputable def Asks(prog:Program)(w:World)(A:Around)(E:Value->Shared->Prop)(s:Shared)(a₀ : Array Keyed)(kd:SortKind)(kf:Value->Int × Int):Prop :=
 ∀(st:SortSt) (i j:Nat) (Q:Option Bool->SortSt->Prop),SB a₀ kd st->i<a₀.size->j<a₀.size->Q (some (decide (Kl kf (arrOf st) i j))) st->wpS (model prog w) A E s (ltAt' i j) Q st
variable {a₀ : Array Keyed}(ask:Asks prog w A E s a₀ kd kf)
include ask
theorem Qs{st:SortSt}(hn:n<=a₀.size)(ha:1<=a)(han:a<=n)(B:SB a₀ kd st)(p:Pre a₀.size (arrOf st) a)(h0:fH kf (arrOf st) a)
  (h:∀m,a<=m->m<=n->fH kf (arrOf st) m->Pre a₀.size (arrOf st) m->(m=n\/(m<n/\Kl kf (arrOf st) m (m-1)))->Q (none,m) st):wpS (model prog w) A E s (ascLoop a n) Q st:=by
 have up:∀x,a<=x->x<=n->Pre a₀.size (arrOf st) x:=λx h1 h2=>⟨λk hk=>by
  by_cases z:k<a
  .have:=p.1 k z; lia
  .rw[p.2 k (by lia) (by lia)]; lia,λk h3 h4=>p.2 k (by lia) h4⟩
 refine wpS_forRange (I:=λx c t=>t=st/\c=(none,x)/\x<=n/\fH kf (arrOf st) x) ?_ ?_ ⟨rfl,rfl,han,h0⟩
 .rintro x c t h1 h2 ⟨rfl,rfl,_,hs⟩
  refine wpS_bind (ask _ _ _ _ B (by lia) (by lia) ?_)
  by_cases l:Kl kf (arrOf t) x (x-1)
  .rw[decide_eq_true l]
   exact wpS_pure (h x h1 (by lia) hs (up x h1 (by lia)) (.inr ⟨h2,l⟩))
  .rw[decide_eq_false l]
   refine wpS_pure ⟨rfl,rfl,h2,λi j hij hj=>?_⟩
   by_cases z:j<x
   .exact hs i j hij z
   .have ej:j=x:=by lia
    subst ej
    have r1:=(up j h1 (by lia)).1 i hij
    have r2:=(up j h1 (by lia)).2 j (Nat.le_refl _) (by lia)
    by_cases z:i=j-1
    .subst z
     exact Lq.mk l (by rw[r2]; exact r1)
    .have y:=hs i (j-1) (by lia) (by lia)
     exact Lq.mk (λz=>l (z.tq y)) (by rw[r2]; exact r1)
 .rintro c t ⟨rfl,rfl,_,hs⟩
  rw[show max a n=n by lia]at hs ⊢
  exact h n han (Nat.le_refl _) hs (up n han (Nat.le_refl _)) (.inl rfl)
theorem Qt{st:SortSt}(hn:n<=a₀.size)(h1:1<=m)(hm:m<=n)(B:SB a₀ kd st)(p:Pre a₀.size (arrOf st) m)(d:bZ kf (arrOf st) m)
  (h:∀m t,SB a₀ kd t->1<=m->m<=n->fH kf (arrOf t) m->Pre a₀.size (arrOf t) m->Q (some m) t):wpS (model prog w) A E s (tail3 m n) Q st:=by
 unfold tail3
 have z:m<=(arrOf st).size:=by rw[B.sz]; lia
 refine wpS_bind (wpS_reverse ?_)
 have B':SB a₀ kd (setArr st (mirror (arrOf st) 0 m ((m-0) / 2))):=B.put (mirror_perm _ _ _ _)
 exact wpS_bind (Qs ask hn h1 hm B' (p.gW z (Nat.le_refl _)) (d.turn z) λk k1 k2 k3 k4 _=>wpS_pure (h k _ B' (by lia) k2 k3 k4))
theorem adX{st:SortSt}(hn:n<=a₀.size)(h1:1<=m)(hm:m<=n)(B:SB a₀ kd st)(p:Pre a₀.size (arrOf st) m)(d:kO kf (arrOf st) m (m-1))
  (h:∀x e t,SB a₀ kd t->m<=x->x<=n->e+1<=x->kO kf (arrOf t) x (x-(e+1))->Pre a₀.size (arrOf t) x->Q (none,x,e) t):wpS (model prog w) A E s (descLoop m n) Q st:=by
 unfold descLoop
 refine wpS_forRange (I:=λx c t=>∃e,c=(none,x,e)/\SB a₀ kd t/\x<=n/\e+1<=x/\kO kf (arrOf t) x (x-(e+1))/\Pre a₀.size (arrOf t) x) ?_ ?_ ⟨0,rfl,B,hm,by lia,d,p⟩
 .rintro x c t k1 k2 ⟨e,rfl,B',_,ke,d',p'⟩
  dsimp only
  have z:x<=(arrOf t).size:=by rw[B'.sz]; lia
  have pu:∀ys:Array Keyed,Pre a₀.size ys x->Pre a₀.size ys (x+1):=λys q=>⟨λk hk=>by
   by_cases y:k<x
   .have:=q.1 k y; lia
   .rw[q.2 k (by lia) (by lia)]; lia,λk h3 h4=>q.2 k (by lia) h4⟩
  refine wpS_bind (ask _ _ _ _ B' (by lia) (by lia) ?_)
  by_cases l:Kl kf (arrOf t) x (x-1)
  .rw[decide_eq_true l]
   have next:∀ys:Array Keyed,bZ kf ys x->(∀i,i<x->Kl kf ys x i)->kO kf ys (x+1) x:=λys y1 y2=>⟨λi j hij hj hi=>by
    by_cases y:j<x
    .exact⟨y1 i j hij y,λz=>by lia⟩
    .have:j=x:=by lia
     subst this
     exact⟨.inl (y2 i hi),λ_=>y2 i hi⟩,λi j h1 h2 h3=>by lia⟩
   have low:∀i,i<x->Kl kf (arrOf t) x i:=λi hi=>by
    by_cases y:i=x-1
    .rw[y]; exact l
    .by_cases y2:i<x-(e+1)
     .exact l.tq (d'.1 i (x-1) (by lia) (by lia) y2).1
     .exact Ke.r l (d'.2 i (x-1) (by lia) (by lia) (by lia)).1.s
   by_cases g:e > 0
   .rw[if_pos g]
    refine wpS_bind (wpS_reverse (wpS_pure ⟨0,rfl,B'.put (mirror_perm _ _ _ _),k2,by lia,?_,pu _ (p'.gW z (Nat.le_refl _))⟩))
    rw[show x+1-(0+1)=x by lia]
    refine next _ (d'.turn z (by lia)) λi hi=>?_
    rcases gW (i:=x-(e+1)) z x with⟨_,b,_⟩|⟨_,e1⟩
    .lia
    .rcases gW (i:=x-(e+1)) z i with⟨_,_,e2⟩|⟨_,e2⟩
     .rw[zL e1 e2]; exact low _ (by lia)
     .rw[zL e1 e2]; exact low _ hi
   .rw[if_neg g]
    refine wpS_pure ⟨0,rfl,B',k2,by lia,?_,pu _ p'⟩
    rw[show x+1-(0+1)=x by lia]
    exact next _ (d'.one (by lia)) low
  .rw[decide_eq_false l]
   refine wpS_bind (ask _ _ _ _ B' (by lia) (by lia) ?_)
   by_cases g:Kl kf (arrOf t) (x-1) x
   .rw[decide_eq_true g]
    exact wpS_pure (h x e t B' k1 (by lia) ke d' p')
   .rw[decide_eq_false g]
    have eq:Ke kf (arrOf t) (x-1) x:=Kl.no g l
    refine wpS_pure ⟨e+1,rfl,B',k2,by lia,?_,pu _ p'⟩
    rw[show x+1-(e+1+1)=x-(e+1) by lia]
    refine⟨λi j hij hj hi=>?_,λi j hi hij hj=>?_⟩
    .by_cases y:j<x
     .exact d'.1 i j hij y hi
     .have:j=x:=by lia
      subst this
      have y:=(d'.1 i (j-1) (by lia) (by lia) hi).2 (by lia)
      have y':Kl kf (arrOf t) j i:=eq.s.l y
      exact⟨.inl y',λ_=>y'⟩
    .by_cases y:j<x
     .exact d'.2 i j hi hij y
     .have:j=x:=by lia
      subst this
      have r1:=p'.1 i hij
      have r2:=p'.2 j (Nat.le_refl _) (by lia)
      refine⟨?_,by lia⟩
      by_cases y:i=j-1
      .rw[y]; exact eq
      .exact(d'.2 i (j-1) hi (by lia) (by lia)).1.t eq
 .rintro c t ⟨e,rfl,B',_,ke,d',p'⟩
  rw[show max m n=n by lia]at ke d' p' ⊢
  exact h n e t B' hm (Nat.le_refl _) ke d' p'
theorem Qu{st:SortSt}(hn:n<=a₀.size)(hm:m+1<=n)(B:SB a₀ kd st)(p:Pre a₀.size (arrOf st) (m+1))(d:kO kf (arrOf st) (m+1) m)
  (h:∀m t,SB a₀ kd t->1<=m->m<=n->fH kf (arrOf t) m->Pre a₀.size (arrOf t) m->Q (some m) t):wpS (model prog w) A E s (descPart m n) Q st:=by
 refine wpS_bind (wpS_lift (wpAny_rule ⟨rfl,?_⟩))
 refine wpS_bind (adX ask hn (by lia) hm B p (by rw[show m+1-1=m by lia]; exact d) λx e t B' k1 k2 ke d' p'=>?_)
 have z:x<=(arrOf t).size:=by rw[B'.sz]; lia
 show wpS _ _ _ _ (if e > 0 then(reverseSlice' (x-(e+1)) x >>= λ_=>tail3 x n)else tail3 x n) _ _
 by_cases g:e > 0
 .rw[if_pos g]
  exact wpS_bind (wpS_reverse (Qt ask hn (by lia) k2 (B'.put (mirror_perm _ _ _ _)) (p'.gW z (Nat.le_refl _)) (d'.turn z (by lia)) h))
 .rw[if_neg g]
  exact Qt ask hn (by lia) k2 B' p' (d'.one (by lia)) h
theorem adY{st:SortSt}(hn:n<=a₀.size)(h1:1<=n)(B:SB a₀ kd st)(p:Pre a₀.size (arrOf st) 0)
  (h:∀m t,SB a₀ kd t->1<=m->m<=n->fH kf (arrOf t) m->Pre a₀.size (arrOf t) m->Q (some m) t):wpS (model prog w) A E s (countRun' 0 n) Q st:=by
 rw[countRun0_eq]
 have p1:Pre a₀.size (arrOf st) 1:=⟨λk hk=>by rw[p.2 k (by lia) (by lia)]; lia,λk h3 h4=>p.2 k (by lia) h4⟩
 refine wpS_bind (Qs ask hn (Nat.le_refl 1) h1 B p1 (λi j _ _=>by lia) λm m1 m2 hs hp ho=>?_)
 by_cases e:m=n
 .rw[if_pos (by simpa using e)]
  exact wpS_pure (h m st B m1 m2 hs hp)
 .rw[if_neg (by simpa using e)]
  obtain⟨ml,l⟩:=ho.resolve_left e
  have pn:∀ys:Array Keyed,Pre a₀.size ys m->Pre a₀.size ys (m+1):=λys q=>⟨λk hk=>by
   by_cases y:k<m
   .have:=q.1 k y; lia
   .rw[q.2 k (by lia) (by lia)]; lia,λk h3 h4=>q.2 k (by lia) h4⟩
  by_cases g:m > 1
  .rw[if_pos g]
   refine wpS_bind (ask _ _ _ _ B (by lia) (by lia) ?_)
   by_cases r:Kl kf (arrOf st) 0 (m-1)
   .rw[decide_eq_true r]
    exact wpS_pure (h m st B m1 m2 hs hp)
   .rw[decide_eq_false r]
    have z:m<=(arrOf st).size:=by rw[B.sz]; lia
    have all:∀i j,i<j->j<m->Ke kf (arrOf st) i j/\qr (arrOf st) i<qr (arrOf st) j:=λi j hij hj=>by
     have a1:=hs i j hij hj
     have a2:i=0\/Lq kf (arrOf st) 0 i:=by
      by_cases y:i=0
      .exact .inl y
      .exact .inr (hs 0 i (by lia) (by lia))
     have a3:j=m-1\/Lq kf (arrOf st) j (m-1):=by
      by_cases y:j=m-1
      .exact .inl y
      .exact .inr (hs j (m-1) (by lia) (by lia))
     rcases a1 with k1|k1
     .have k2:Kl kf (arrOf st) 0 j:=by
       rcases a2 with y|y
       .rw[y]at k1; exact k1
       .exact Kl.qt y k1
      refine absurd ?_ r
      rcases a3 with y|y
      .rw[y]at k2; exact k2
      .exact k2.tq y
     .exact k1
    have ds:kO kf (arrOf st) m 0:=⟨λi j _ _ hi=>by lia,λi j _ hij hj=>all i j hij hj⟩
    refine wpS_bind (wpS_reverse (Qu ask hn (by lia) (B.put (mirror_perm _ _ _ _)) (pn _ (hp.gW z (Nat.le_refl _))) ?_ h))
    have dd:=ds.turn z (by lia)
    have low:∀i,i<m->Kl kf (arrOf st) m i:=λi hi=>by
     by_cases y:i=m-1
     .rw[y]; exact l
     .exact Ke.r l (all i (m-1) (by lia) (by lia)).1.s
    have Qv:∀i,i<m->Kl kf (mirror (arrOf st) 0 m ((m-0) / 2)) m i:=λi hi=>by
     rcases gW (i:=0) z m with⟨_,b,_⟩|⟨_,e1⟩
     .lia
     .rcases gW (i:=0) z i with⟨_,_,e2⟩|⟨_,e2⟩
      .rw[zL e1 e2]; exact low _ (by lia)
      .rw[zL e1 e2]; exact low _ hi
    refine⟨λi j hij hj hi=>?_,λi j _ _ _=>by lia⟩
    by_cases y:j<m
    .exact⟨dd i j hij y,λz=>by lia⟩
    .have:j=m:=by lia
     subst this
     exact⟨.inl (Qv i hi),λ_=>Qv i hi⟩
  .rw[if_neg g]
   have e1:m=1:=by lia
   subst e1
   refine Qu ask hn (by lia) B (pn _ hp) ⟨λi j hij hj hi=>?_,λi j _ _ _=>by lia⟩ h
   have i0:i=0:=by lia
   have j1:j=1:=by lia
   subst i0 j1
   exact⟨.inl l,λ_=>l⟩
theorem adZ{st:SortSt}(hn:n<=a₀.size)(h1:1<=ok)(hok:ok<=n)(B:SB a₀ kd st)(p:Pre a₀.size (arrOf st) ok)(d:fH kf (arrOf st) ok)
  (h:∀t,SB a₀ kd t->fH kf (arrOf t) n->Q true t):wpS (model prog w) A E s (binarySort' 0 n ok) Q st:=by
 rw[binarySort'_eq]
 simp only[Nat.zero_add]
 refine wpS_bind (wpS_mono (wpS_forRange (I:=λk c t=>c=(none,())/\SB a₀ kd t/\k<=n/\fH kf (arrOf t) k/\Pre a₀.size (arrOf t) k) (Q:=λc t=>c=(none,())/\SB a₀ kd t/\fH kf (arrOf t) n) ?_ ?_ ?_) ?_)
 .rintro k c t k1 k2 ⟨rfl,B',_,d',p'⟩
  have hk:k<a₀.size:=by lia
  have rk:=p'.2 k (Nat.le_refl _) hk
  refine wpS_bind (wpS_mono (wpS_forRange (I:=λx c u=>u=t/\∃l r,c=(none,l,r)/\l<=r/\r<=k/\r-l<=k-x/\(∀i,i<l->¬Kl kf (arrOf t) k i)/\∀i,r<=i->i<k->Kl kf (arrOf t) k i)
   (Q:=λc u=>u=t/\∃l r,c=(none,l,r)/\l<=k/\(∀i,i<l->¬Kl kf (arrOf t) k i)/\∀i,l<=i->i<k->Kl kf (arrOf t) k i) ?_ ?_ ?_) ?_)
  .rintro x c u _ hx ⟨rfl,l,r,rfl,g1,g2,g3,lo,hi⟩
   dsimp only
   by_cases g:l >= r
   .rw[if_pos g]
    have:l=r:=by lia
    subst this
    exact wpS_pure ⟨rfl,l,l,rfl,g2,lo,hi⟩
   .rw[if_neg g]
    refine wpS_bind (ask _ _ _ _ B' hk (by lia) ?_)
    by_cases le:Kl kf (arrOf u) k ((l+r) / 2)
    .rw[decide_eq_true le]
     refine wpS_pure ⟨rfl,l,(l+r) / 2,rfl,by lia,by lia,by lia,lo,λi h1 h2=>?_⟩
     by_cases y:i=(l+r) / 2
     .rw[y]; exact le
     .exact le.tq (d' ((l+r) / 2) i (by lia) h2)
    .rw[decide_eq_false le]
     refine wpS_pure ⟨rfl,(l+r) / 2+1,r,rfl,by lia,by lia,by lia,λi h1=>?_,hi⟩
     by_cases y:i=(l+r) / 2
     .rw[y]; exact le
     .exact λz=>le (z.tq (d' i ((l+r) / 2) (by lia) (by lia)))
  .rintro c u ⟨rfl,l,r,rfl,g1,g2,g3,lo,hi⟩
   have:l=r:=by lia
   subst this
   exact⟨rfl,l,l,rfl,g2,lo,hi⟩
  .exact⟨rfl,0,k,rfl,by lia,by lia,by lia,λi hi=>by lia,λi g1 g2=>by lia⟩
  .rintro c u ⟨rfl,l,r,rfl,lk,lo,hi⟩
   rw[moveDown'_eq]
   refine wpS_bind (wpS_modify (wpS_pure ⟨rfl,B'.put (bubble_perm _ _ _),k2,?_,?_⟩))
   all_goals
    have ks:k<(arrOf u).size:=by rw[B'.sz]; exact hk
    have bb:=getElem?_bubble ks (k-l) (by lia)
    rw[show k-(k-l)=l by lia]at bb
    have b1:(bubble (arrOf u) k (k-l))[l]?=(arrOf u)[k]? := by rw[bb,if_pos rfl]
    have b2:∀i,l<i->i<=k->(bubble (arrOf u) k (k-l))[i]?=(arrOf u)[i-1]? := λi g1 g2=>by rw[bb,if_neg (by lia),if_pos ⟨g1,g2⟩]
    have b3:∀i,i<l->(bubble (arrOf u) k (k-l))[i]?=(arrOf u)[i]? := λi g1=>by rw[bb,if_neg (by lia),if_neg (by lia)]
    have b4:∀i,k<i->(bubble (arrOf u) k (k-l))[i]?=(arrOf u)[i]? := λi g1=>by rw[bb,if_neg (by lia),if_neg (by lia)]
   .intro i j hij hj
    show Lq kf (bubble (arrOf u) k (k-l)) i j
    rcases Nat.lt_trichotomy i l with y|y|y <;> rcases Nat.lt_trichotomy j l with y'|y'|y'
    .rw[mJ (b3 i y) (b3 j y')]; exact d' i j hij (by lia)
    .subst y'
     rw[mJ (b3 i y) b1]
     exact Lq.mk (lo i y) (by rw[rk]; exact p'.1 i (by lia))
    .rw[mJ (b3 i y) (b2 j y' (by lia))]; exact d' i (j-1) (by lia) (by lia)
    .lia
    .lia
    .subst y
     rw[mJ b1 (b2 j y' (by lia))]
     exact .inl (hi _ (by lia) (by lia))
    .lia
    .lia
    .rw[mJ (b2 i y (by lia)) (b2 j y' (by lia))]; exact d' _ _ (by lia) (by lia)
   .refine⟨λi hi'=>?_,λi g1 g2=>?_⟩
    .show qr (bubble (arrOf u) k (k-l)) i<_
     rcases Nat.lt_trichotomy i l with y|y|y
     .rw[mH (b3 i y)]; have:=p'.1 i (by lia); lia
     .subst y; rw[mH b1,rk]; lia
     .rw[mH (b2 i y (by lia))]; have:=p'.1 (i-1) (by lia); lia
    .show qr (bubble (arrOf u) k (k-l)) i=_
     rw[mH (b4 i (by lia))]
     exact p'.2 i (by lia) g2
 .rintro c t ⟨rfl,B',kn,d',p'⟩
  refine⟨rfl,B',?_⟩
  rwa[show max (max ok 1) n=n by lia]at d'
 .rw[show max ok 1=ok by lia]
  exact⟨rfl,B,hok,d,p⟩
 .rintro c t ⟨rfl,B',d'⟩
  exact wpS_pure (h t B' d')
theorem ad0{st:SortSt}(B:SB a₀ kd st)(h2:2<=a₀.size)(h64:a₀.size<64)(p:Pre a₀.size (arrOf st) 0)
  (h:∀t,(arrOf t).Perm a₀ -> failedOf t=none->fH kf (arrOf t) a₀.size->Q () t):wpS (model prog w) A E s sortRuns' Q st:=by
 rw[sortRuns'_eq]
 refine wpS_bind (wpS_get ?_)
 have mr:minRun' (arrOf st).size (arrOf st).size 0=a₀.size:=by
  rw[B.sz]
  obtain⟨f,hf⟩:∃f,a₀.size=f+1:=⟨a₀.size-1,by lia⟩
  have:minRun' (f+1) (f+1) 0=f+1:=by rw[minRun'_succ,if_pos (by lia)]
  rw[hf]; exact this
 dsimp only
 rw[mr,B.sz]
 have fin:∀t,SB a₀ kd t->fH kf (arrOf t) a₀.size->(arrOf (setPending t ((pendingOf t).push (0,a₀.size,0)))).Perm a₀/\failedOf (setPending t ((pendingOf t).push (0,a₀.size,0)))=none/\pendingOf (setPending t ((pendingOf t).push (0,a₀.size,0))) = #[(0,a₀.size,0)]/\fH kf (arrOf (setPending t ((pendingOf t).push (0,a₀.size,0)))) a₀.size :=
  λt B' d'=>⟨B'.pm,B'.fl,by show(pendingOf t).push _=_; rw[B'.pd]; rfl,d'⟩
 refine wpS_bind (wpS_mono (wpS_forRange (I:=λx c t=>(x=0/\c=(none,0)/\SB a₀ kd t/\Pre a₀.size (arrOf t) 0)\/(1<=x/\c=(none,a₀.size)/\(arrOf t).Perm a₀/\failedOf t=none/\pendingOf t = #[(0,a₀.size,0)]/\fH kf (arrOf t) a₀.size))
  (Q:=λc t=>c=(none,a₀.size)/\(arrOf t).Perm a₀/\failedOf t=none/\pendingOf t = #[(0,a₀.size,0)]/\fH kf (arrOf t) a₀.size) ?_ ?_ (.inl ⟨rfl,rfl,B,p⟩)) ?_)
 .rintro x c t _ hx (⟨rfl,rfl,B',p'⟩|⟨hx1,rfl,D⟩)
  .skip
   rw[if_neg (by lia)]
   simp only[Nat.sub_zero,Nat.min_self,Nat.zero_add]
   refine wpS_bind (adY ask (Nat.le_refl _) (by lia) B' p' λm u B2 m1 m2 d2 p2=>?_)
   show wpS _ _ _ _ (if m<a₀.size then _ else _) _ _
   by_cases g:m<a₀.size
   .rw[if_pos g]
    refine wpS_bind (wpS_lift (wpAny_rule ⟨rfl,?_⟩))
    refine wpS_bind (adZ ask (Nat.le_refl _) m1 m2 B2 p2 d2 λv B3 d3=>?_)
    refine wpS_bind (wpS_get ?_)
    rw[show(pendingOf v).back? = none by rw[B3.pd]; rfl]
    exact wpS_bind (wpS_modify (wpS_pure (.inr ⟨by lia,rfl,fin v B3 d3⟩)))
   .rw[if_neg g]
    have e:m=a₀.size:=by lia
    subst e
    refine wpS_bind (wpS_get ?_)
    rw[show(pendingOf u).back? = none by rw[B2.pd]; rfl]
    exact wpS_bind (wpS_modify (wpS_pure (.inr ⟨by lia,rfl,fin u B2 d2⟩)))
  .skip
   rw[if_pos (Nat.le_refl _)]
   exact wpS_pure ⟨rfl,D⟩
 .rintro c t (⟨hx,_,_⟩|⟨_,hc,D⟩)
  .lia
  .exact⟨hc,D⟩
 .rintro c t ⟨rfl,D⟩
  refine wpS_bind (wpS_mono (wpS_forRange (I:=λ_ c u=>u=t/\c=(none,())) (Q:=λc u=>u=t/\c=(none,())) ?_ (λ_ _ z=>z) ⟨rfl,rfl⟩) ?_)
  .rintro x c u _ _ ⟨rfl,rfl⟩
   refine wpS_bind (wpS_get ?_)
   rw[if_pos (by rw[D.2.2.1]; exact Nat.le_refl 1)]
   exact wpS_pure ⟨rfl,rfl⟩
  .rintro c u ⟨rfl,rfl⟩
   exact wpS_pure (h _ D.1 D.2.1 D.2.2.2)
end
open PySem.W
section
variable {X:Cx}{pins:List (Addr × Obj)}{σ : St}{H:Hp}{s:Shared}
theorem Inv.track(I:Inv X pins σ H s)(f:cg X pins H a)(e:s.heap.get? a=some {cls:=.type "list",data:=.seq its.toArray n }) (r:Vals xs its) (hz:xs.length<=sizeLine):Inv X pins σ (upd H a (.lst xs)) s:=by
 obtain⟨f0,f1,f2,f3,f4,f5⟩:=f
 have ok:cQ X.prog X.w (upd H a (.lst xs)) s.heap:=λb u q=>by
  by_cases hb:b=a
  .subst hb; rw[cN]at q; cases q; exact⟨hz,its,n,r,e⟩
  .rw[aL hb]at q
   exact(I.hok b u q).stay (λc v _ z=>z) (λc z=>by rw[aL (iz z f0)]; exact z) λc ys z=>by rw[aL (iz z f0)]; exact z
 exact I.step (h':=s.heap) (g':=s.gens) (t':=s.toks) (d':=s.drawn) (ch:=[a]) (λb hb=>by
   have:b=a:=by simpa using hb
   subst this
   exact⟨f3,f1,f4,f5⟩) (λb o _ _ _ q _=>q) (λb o _ _ _ q _=>⟨o.slots,q⟩) (λb o hb _ q=>by rw[aL (by simpa using hb)]; exact q) (λb o _ q=>⟨o,q⟩)
  (λb ys q=>by rw[aL (iz q f0)]; exact q) (λb o u q=>by rw[aL (iz q f0)]; exact q) (λb ps q=>⟨#[],by rw[aL (iz q f0),q]; simp⟩) (λm q=>q) ok I.bare
theorem Inv.sub(I:Inv X pins σ H s)(h:∀p∈nq,p∈pins):Inv X nq σ H s:=I.xU λp hp=>I.pin p (List.mem_append_right _ (h p hp))
theorem Inv.p8(I:Inv X pins σ H s)(f:cg X pins H a)(e:s.heap.get? a=some o)(d:∀v,o.data ≠ .cell v):Inv X ((a,o)::pins) σ H s:=I.xU λp hp=>by
 rcases List.mem_cons.mp hp with rfl|hp
 .exact⟨e,f.1,f.2.1,f.2.2.1,d⟩
 .exact I.pin p (List.mem_append_right _ hp)
theorem cg.p8(f:cg X pins H b)(n:a≠b):cg X ((a,o)::pins) H b:=⟨f.1,f.2.1,f.2.2.1,f.2.2.2.1,f.2.2.2.2.1,λp hp=>by
 rcases List.mem_append.mp hp with hp|hp
 .exact f.2.2.2.2.2 p (List.mem_append_left _ hp)
 .rcases List.mem_cons.mp hp with rfl|hp
  .exact n
  .exact f.2.2.2.2.2 p (List.mem_append_right _ hp)⟩
theorem Inv.wr(I:Inv X pins σ H s)(f:cg X pins H a):Inv X pins σ H {s with heap:=s.heap.update a (Obj.mapSeq g),toks:=t' }:=by
 obtain⟨f0,f1,f2,f3,f4,f5⟩:=f
 exact I.turned (it:=a) (λb o hb e=>((Heap.SameBut.update s.heap a _).2 b hb).trans e) f0 f1 f3 f4 f5
end
noncomputable instance nfI:NF:=⟨numOf⟩
noncomputable def mK(n:Nat)(kz:Nat->Int × Int)(ys:List Nat):Prop:=ys.Perm (List.range n)/\ys.Pairwise λi j=>((kz i).1<(kz j).1\/((kz i).1=(kz j).1/\(kz i).2<(kz j).2))\/(((kz i).1=(kz j).1/\(kz i).2=(kz j).2)/\i<j)
structure mL(X:Cx)(Kv:Hp->Value->Int × Int->Prop)(kd:SortKind):Prop where
 kind:∀(H:Hp) (keys:Array Value) (kz:Nat->Int × Int),2<=keys.size->(∀i v,keys[i]?=some v->Kv H v (kz i))->∀{pins σ s Q E},Inv X pins σ H s->Q kd s->wpAny (model X.prog X.w) X.A.in1.in1 (keyKind' keys) Q E s
 ask:∀{pins σ H s} {E:Value->Shared->Prop} (a₀ : Array Keyed) (kf:Value->Int × Int),Inv X pins σ H s->(∀p,p∈a₀.toList->Kv H p.1 (kf p.1))->Asks X.prog X.w X.A.in1.in1 E s a₀ kd kf
section
variable {X:Cx}
theorem Qw:mL X (λ_ v k=>∃t,v=.int k.1 t/\k.2=0) oneType' where
 kind:=λH keys kz h2 hk pins σ s Q E I q=>by
  have hi:IntsAre keys.toList (keys.toList.map numOf):=by
   refine intsAre_map _ λv hv=>?_
   obtain⟨i,hi,e⟩:=List.getElem_of_mem hv
   obtain⟨t,z,_⟩:=hk i v (by rw[<-e]; simp[Array.getElem?_eq_getElem (show i<keys.size by simpa using hi)])
   exact⟨_,t,z⟩
  rw[ksk_kind hi h2]
  exact wpAny_pure q
 ask:=λa₀ kf I h st i j Q B hi hj q=>by
  have h0:IntKeys a₀ := λp hp=>by
   obtain⟨t,z,_⟩:=h p hp
   exact⟨_,t,z⟩
  have B':SBase a₀ st:=⟨B.pm,B.kn,B.fl,B.pd⟩
  have at_:∀i,i<a₀.size->q1 kf (arrOf st) i=K (arrOf st) i/\q2 kf (arrOf st) i=0:=λi hi=>by
   obtain⟨t,p,e⟩:=B'.at h0 hi
   have hi':i<(arrOf st).size:=by rw[B.sz]; exact hi
   have hm:(arrOf st)[i]∈a₀.toList:=(Array.perm_iff_toList_perm.mp B.pm).mem_iff.mp (by simp)
   obtain⟨t',z,z2⟩:=h _ hm
   have e':(arrOf st)[i]?=some (arrOf st)[i]:=getElem?_pos _ i hi'
   have e2:(arrOf st)[i]=(Value.int (K (arrOf st) i) t,p):=by rw[e']at e; exact Option.some.inj e
   rw[e2]at z z2
   unfold q1 q2
   rw[e]
   refine⟨?_,z2⟩
   injection z with z
   exact z.symm
  refine wpS_ltK B' h0 hi hj ?_
  have:decide (Kl kf (arrOf st) i j)=decide (K (arrOf st) i<K (arrOf st) j):=by
   rw[decide_eq_decide]
   unfold Kl
   rw[(at_ i hi).1,(at_ j hj).1,(at_ i hi).2,(at_ j hj).2]
   lia
  rw[this]at q
  exact q
end
section
variable {X:Cx}{pins:List (Addr × Obj)}{σ : St}{H:Hp}{s:Shared}{Kv:Hp->Value->Int × Int->Prop}{kd:SortKind}{a kS:Addr}{n:Nat}{kz:Nat->Int × Int}{vs:List Value}
theorem Qx{st:SortSt}(I:Inv X pins σ H s)(fk:cg X pins H kS)(fa:cg X pins H a)(ne:kS≠a)(hk:s.heap.get? kS=some (seqObj "list" keys e)) (ha:s.heap.get? a=some (seqObj "list" #[] e1)) (hks:keys.size<=64) (hst:(arrOf st).size<=64) (fl:failedOf st=none)
  (h:∀s' c,Inv X pins σ H s'->s'.heap.get? a=some (seqObj "list" ((arrOf st).map (·.2)) c)->P (.done (.ret .none)) s'):wpAny (model X.prog X.w) X.A.in1.in1 (ksk_tail a false e1 (.ref kS) st) P E s:=by
 refine wpAny_bind (listUpdate_at hk rfl ?_ (by rw[sizeLine_eq]; lia) (Nat.zero_le _))
 refine wpAny_bind (wpAny_letGo ?_)
 have I1:=I.wr (g:=λ_=>#[]) (t':=s.toks) fk
 have ha1:(s.heap.update kS (Obj.mapSeq λ_=>(#[]:Array Value))).get? a=some (seqObj "list" #[] e1):=((Heap.SameBut.update s.heap kS _).2 a (Ne.symm ne)).trans ha
 refine wpAny_bind (seqEpoch_at ha1 rfl ?_)
 refine wpAny_bind (listUpdate_at ha1 rfl ?_ (Nat.zero_le _) (by simp only[Bool.false_eq_true,if_false,Array.size_map]; rw[sizeLine_eq]; lia))
 rw[fl]
 simp only[bne_self_eq_false,Bool.false_eq_true,if_false]
 exact wpAny_pure (h _ _ (I1.wr (t':=s.toks) fa) (get?_update_seq ha1 _))
theorem ad1(T:mL X Kv kd)(I:Inv X pins σ H s)(fk:cg X pins H kS)(fa:cg X pins H a)(ne:kS≠a)(hk:s.heap.get? kS=some (seqObj "list" keys e)) (ha:s.heap.get? a=some (seqObj "list" #[] e1))
  (hv:∀(i:Nat) (v:Value),vs[i]?=some v->∃t,v=Value.int i t) (hl:vs.length=n) (hkn:keys.size=n) (h64:n<64) (hK:∀i v,keys[i]?=some v->Kv H v (kz i)) (inj:∀v k k',Kv H v k->Kv H v k'->k=k')
  (h:∀s' c out,Inv X pins σ H s'->s'.heap.get? a=some (seqObj "list" out c)->(∃ys,mK n kz ys/\Vals (ys.map λi:Nat=>V.int i) out.toList)->P (.done (.ret .none)) s'):wpAny (model X.prog X.w) X.A.in1.in1 (ksk_end a false vs.toArray e1 (.ref kS) keys) P E s:=by
 have rK:(keys.zip vs.toArray).size=n:=by rw[Array.size_zip,hkn,List.size_toArray,hl,Nat.min_self]
 have vm:∀i,i<n->∃v t,(keys.zip vs.toArray)[i]?=some (v,.int i t)/\Kv H v (kz i):=λi hi=>by
  obtain⟨t,e2⟩:=hv i vs[i] (by simp[hl,hi])
  have e1:keys[i]?=some keys[i]:=getElem?_pos _ _ (by lia)
  refine⟨keys[i],t,?_,hK i _ e1⟩
  rw[<-Array.getElem?_toList,ksk_zip,List.getElem?_zip_eq_some]
  refine⟨by simp[Array.getElem?_toList,e1],?_⟩
  show vs[i]?=some (Value.int i t)
  rw[List.getElem?_eq_getElem (by lia),e2]
 -- what the sorted array says
 have fin:∀(kf:Value->Int × Int) (xs:Array Keyed),(∀(i:Nat) v t,(keys.zip vs.toArray)[i]?=some (v,Value.int i t)->kf v=kz i)->xs.Perm (keys.zip vs.toArray)->fH kf xs n->∃ys,mK n kz ys/\Vals (ys.map λi:Nat=>V.int i) (xs.map (·.2)).toList:=λkf xs hkf hp hs=>by
  have hpl:=Array.perm_iff_toList_perm.mp hp
  have mem:∀p∈xs.toList,∃i t,i<n/\p.2=.int (i:Nat) t/\kf p.1=kz i:=λp hp'=>by
   obtain⟨i,hi,e⟩:=List.getElem_of_mem (hpl.mem_iff.mp hp')
   have hi':i<n:=by rw[Array.length_toList,rK]at hi; exact hi
   obtain⟨v,t,e1,_⟩:=vm i hi'
   have e2:(keys.zip vs.toArray)[i]?=some p:=by rw[<-Array.getElem?_toList,List.getElem?_eq_getElem hi,e]
   rw[e1]at e2
   cases e2
   exact⟨i,t,hi',rfl,hkf i v t e1⟩
  refine⟨xs.toList.map λp=>(numOf p.2).toNat,⟨?_,?_⟩,?_⟩
  .have h1:=hpl.map λp:Keyed=>(numOf p.2).toNat
   refine h1.trans (List.Perm.of_eq ?_)
   refine List.ext_getElem? λi=>?_
   by_cases hi:i<n
   .obtain⟨v,t,e1,_⟩:=vm i hi
    rw[List.getElem?_map,Array.getElem?_toList,e1,List.getElem?_range hi]
    simp[numOf]
   .rw[List.getElem?_eq_none (by simp[rK]; lia),List.getElem?_eq_none (by simp; lia)]
  .rw[List.pairwise_map,List.pairwise_iff_getElem]
   intro i j hi hj hij
   have sz:xs.size=n:=by rw[hp.size_eq,rK]
   have hi':i<xs.size:=by simpa using hi
   have hj':j<xs.size:=by simpa using hj
   have z:=hs i j hij (by lia)
   obtain⟨a1,t1,_,b1,c1⟩:=mem _ (List.getElem_mem hi)
   obtain⟨a2,t2,_,b2,c2⟩:=mem _ (List.getElem_mem hj)
   have x1:xs[i]?=some xs.toList[i]:=by rw[<-Array.getElem?_toList,List.getElem?_eq_getElem hi]
   have x2:xs[j]?=some xs.toList[j]:=by rw[<-Array.getElem?_toList,List.getElem?_eq_getElem hj]
   unfold Lq Kl Ke q1 q2 qr at z
   rw[x1,x2]at z
   dsimp only at z
   rw[b1,b2,c1,c2]at z
   rw[b1,b2]
   simp only[NF.f,nfI,numOf,Int.toNat_natCast]at z ⊢
   lia
  .rw[Array.toList_map,List.map_map]
   have go:∀l:List Keyed,(∀p∈l,∃i t,i<n/\p.2=.int (i:Nat) t/\kf p.1=kz i)->Vals (l.map ((λi:Nat=>V.int i) ∘ λp:Keyed=>(numOf p.2).toNat)) (l.map (·.2)):=λl=>by
    induction l with
    |nil=>intro _; exact .nil
    |cons p r ih =>
     intro hm
     refine .cons ?_ (ih λq hq=>hm q (List.mem_cons_of_mem _ hq))
     obtain⟨i,t,_,e,_⟩:=hm p (List.mem_cons_self ..)
     exact⟨t,by simp[e,numOf]⟩
   exact go _ mem
 -- a function of the keys
 obtain⟨kf,hkf⟩:∃kf:Value->Int × Int,∀v k,Kv H v k->kf v=k:=by
  classical
  refine⟨λv=>if q:∃k,Kv H v k then q.choose else(0,0),λv k hk=>?_⟩
  have q:∃k,Kv H v k:=⟨k,hk⟩
  dsimp only
  rw[dif_pos q]
  exact inj v _ _ q.choose_spec hk
 have Qy:∀(i:Nat) v t,(keys.zip vs.toArray)[i]?=some (v,Value.int i t)->kf v=kz i:=λi v t e=>by
  have hi:i<n:=by
   have:=(Array.getElem?_eq_some_iff.mp e).1
   lia
  obtain⟨v',t',e1,q⟩:=vm i hi
  rw[e1]at e
  cases e
  exact hkf _ _ q
 unfold ksk_end
 simp only[Bool.false_eq_true,if_false]
 rw[List.size_toArray,hl]
 by_cases h2:n<2
 .rw[if_pos h2,if_pos h2]
  refine wpAny_bind (wpAny_pure ?_)
  rw[StateT.run_pure]
  refine wpAny_bind (wpAny_pure ?_)
  refine Qx (st:=SortSt.mk' general' (keys.zip vs.toArray) #[] 7 none) I fk fa ne hk ha (by lia) (by show(keys.zip vs.toArray).size<=64; lia) rfl λs' c I' e'=>h s' c _ I' e' (fin kf _ Qy (Array.Perm.refl _) λi j hij hj=>by lia)
 .rw[if_neg h2,if_neg h2]
  refine wpAny_bind (T.kind H keys kz (by lia) hK I ?_)
  have ask:=T.ask (E:=E) (s:=s) (keys.zip vs.toArray) kf I (λp hp=>by
   obtain⟨i,hi,e⟩:=List.getElem_of_mem hp
   have hi':i<n:=by rw[Array.length_toList,rK]at hi; exact hi
   obtain⟨v,t,e1,q⟩:=vm i hi'
   have e2:(keys.zip vs.toArray)[i]?=some p:=by rw[<-Array.getElem?_toList,List.getElem?_eq_getElem hi,e]
   rw[e1]at e2
   cases e2
   rw[hkf _ _ q]
   exact q)
  have B:SB (keys.zip vs.toArray) kd (SortSt.mk' kd (keys.zip vs.toArray) #[] 7 none):=⟨Array.Perm.refl _,rfl,rfl,rfl⟩
  have p0:Pre (keys.zip vs.toArray).size (arrOf (SortSt.mk' kd (keys.zip vs.toArray) #[] 7 none)) 0:=⟨λk hk=>by lia,λk _ hk=>by
   obtain⟨v,t,e1,_⟩:=vm k (by lia)
   show qr (keys.zip vs.toArray) k=k
   unfold qr
   rw[e1]
   rfl⟩
  refine wpAny_bind (wpAny_mono (ad0 (Q:=λ_ t=>(arrOf t).Perm (keys.zip vs.toArray)/\failedOf t=none/\fH kf (arrOf t) (keys.zip vs.toArray).size) ask B (by lia) (by lia) p0 λt a1 a2 a3=>⟨a1,a2,a3⟩) ?_ λ_ _ z=>z)
  rintro⟨⟨⟩,t⟩ s' ⟨rfl,hp,hf,hs⟩
  rw[rK]at hs
  exact Qx I fk fa ne hk ha (by lia) (by rw[hp.size_eq,rK]; lia) hf λs' c I' e'=>h s' c _ I' e' (fin kf _ Qy hp hs)
end
section
variable {X:Cx}{pins:List (Addr × Obj)}{σ : St}{H:Hp}{s:Shared}{Kv:Hp->Value->Int × Int->Prop}{kd:SortKind}{n:Nat}{kz:Nat->Int × Int}{vs:List Value}{f:Value}
theorem cg.up(h:cg X pins H b)(e:H' b=none):cg X pins H' b:=⟨e,h.2⟩
noncomputable def Fw(X:Cx)(pins:List (Addr × Obj))(σ : St)(H:Hp)(Kv:Hp->Value->Int × Int->Prop)(n:Nat)(kz:Nat->Int × Int)(f:Value):Prop :=
 ∀(nq:List (Addr × Obj)) (i:Nat) (t:Tok) (s':Shared) (H':Hp),i<n->(∀p∈pins,p∈nq)->Same H H'->Inv X nq σ H' s' ->
  wpAny (model X.prog X.w) X.A.in1.in1 (call f [.int i t]) (λv s''=>∃cV,Same H' cV/\Kv cV v (kz i)/\Inv X nq σ cV s'') (λ_ _=>False) s'
theorem ad2(T:mL X Kv kd)(mono:∀{H H':Hp} {v k},Same H H'->Kv H v k->Kv H' v k)(inj:∀{pins:List (Addr × Obj)} {σ : St} {H:Hp} {s:Shared},Inv X pins σ H s->∀v k k',Kv H v k->Kv H v k'->k=k')
  (I:Inv X pins σ H s) (fk:cg X pins H kS) (fa:cg X pins H a) (ne:kS≠a) (hk:s.heap.get? kS=some (seqObj "list" #[] 0)) (ha:s.heap.get? a=some (seqObj "list" #[] e1))
  (hv:∀(i:Nat) (v:Value),vs[i]?=some v->∃t,v=Value.int i t) (hl:vs.length=n) (h64:n<64) (key:Fw X pins σ H Kv n kz f)
  (h:∀s' c out H',Same H H'->H' a=none->Inv X pins σ H' s'->s'.heap.get? a=some (seqObj "list" out c)->(∃ys,mK n kz ys/\Vals (ys.map λi:Nat=>V.int i) out.toList)->P (.done (.ret .none)) s') :
  wpAny (model X.prog X.w) X.A.in1.in1 (ksk_rest a f false vs.toArray e1 (.ref kS)) P E s:=by
 unfold ksk_rest
 refine wpAny_bind (wpAny_rule ?_)
 rw[<-Array.forIn_toList]
 refine wpAny_bind (ksk_fold (λi s'=>∃H' kA e,Same H H'∧H' kS=none∧H' a=none∧Inv X pins σ H' s'∧s'.heap.get? kS=some (seqObj "list" kA e)∧s'.heap.get? a=some (seqObj "list" #[] e1)∧kA.size=i∧∀(j:Nat) v,kA[j]?=some v→Kv H' v (kz j)) vs 0 s
  ⟨H,#[],0,Same.refl _,fk.1,fa.1,I,hk,ha,rfl,λj v z=>by simp at z⟩ ?_ ?_)
 .rintro j x s' hx ⟨H',kA,e,sm,nk,na,I',hk',ha',sz,hK⟩
  rw[Nat.zero_add]at sz ⊢
  have hj:j<vs.length:=(List.getElem?_eq_some_iff.mp hx).1
  obtain⟨t,rfl⟩:=hv j x hx
  have fk':=fk.up nk
  have fa':=fa.up na
  have I2:=(I'.p8 fa' ha' (λv z=>by cases z)).p8 (fk'.p8 (Ne.symm ne)) hk' (λv z=>by cases z)
  refine wpAny_bind (wpAny_attempt (wpAny_mono (key _ j t s' H' (by lia) (λp hp=>List.mem_cons_of_mem _ (List.mem_cons_of_mem _ hp)) sm I2) (λv s'' he=>?_) λ_ _ z=>z.elim))
  obtain⟨cV,Qz,kv,I3⟩:=he
  have p1:=I3.pin (kS,seqObj "list" kA e) (List.mem_append_right _ (List.mem_cons_self ..))
  have p2:=I3.pin (a,seqObj "list" #[] e1) (List.mem_append_right _ (List.mem_cons_of_mem _ (List.mem_cons_self ..)))
  have I4:=I3.sub λp hp=>List.mem_cons_of_mem _ (List.mem_cons_of_mem _ hp)
  refine wpAny_bind (listUpdate_at p1.1 rfl ?_ (by rw[sizeLine_eq]; lia) (Nat.le_trans (Nat.le_of_eq (Array.size_push ..)) (by rw[sizeLine_eq]; lia)))
  refine wpAny_pure ⟨rfl,cV,kA.push v,_,sm.trans Qz,p1.2.1,p2.2.1,I4.wr (t':=s''.toks) (fk.up p1.2.1),get?_update_seq p1.1 _,((Heap.SameBut.update s''.heap kS _).2 a (Ne.symm ne)).trans p2.1,by rw[Array.size_push,sz],λi u q=>?_⟩
  rw[Array.getElem?_push]at q
  split at q
  .rename_i z
   cases q
   rw[z,sz]
   exact kv
  .exact mono Qz (hK i u q)
 .rintro s' ⟨H',kA,e,sm,nk,na,I',hk',ha',sz,hK⟩
  refine wpAny_bind (listItems_at hk' rfl ?_)
  exact ad1 T I' (fk.up nk) (fa.up na) ne hk' ha' hv hl (by lia) h64 hK (inj I') λs'' c out Fy e'' q=>h s'' c out H' sm na Fy e'' q
theorem ad3(T:mL X Kv kd)(mono:∀{H H':Hp} {v k},Same H H'->Kv H v k->Kv H' v k)(inj:∀{pins:List (Addr × Obj)} {σ : St} {H:Hp} {s:Shared},Inv X pins σ H s->∀v k k',Kv H v k->Kv H v k'->k=k')
  (I:Inv X pins σ H s) (fa:cg X pins H a) (ha:s.heap.get? a=some (seqObj "list" vs.toArray c0))
  (hv:∀(i:Nat) (v:Value),vs[i]?=some v->∃t,v=Value.int i t) (hl:vs.length=n) (h64:n<64) (key:Fw X pins σ H Kv n kz f)
  (h:∀s' c out H',Same H H'->H' a=none->Inv X pins σ H' s'->s'.heap.get? a=some (seqObj "list" out c)->(∃ys,mK n kz ys/\Vals (ys.map λi:Nat=>V.int i) out.toList)->P (.done (.ret .none)) s') :
  wpAny (model X.prog X.w) X.A.in1.in1 (ksk_tree a f false) P E s:=by
 refine wpAny_bind (listItems_at ha rfl ?_)
 refine wpAny_bind (listUpdate_at ha rfl ?_ (by rw[List.size_toArray,sizeLine_eq]; lia) (Nat.zero_le _))
 have I1:=I.wr (g:=λ_=>#[]) (t':=s.toks) fa
 obtain⟨e1,ha1⟩:∃e1,(s.heap.update a (Obj.mapSeq λ_=>(#[]:Array Value))).get? a=some (seqObj "list" #[] e1):=⟨_,get?_update_seq ha _⟩
 refine wpAny_bind (seqEpoch_at ha1 rfl ?_)
 refine wpAny_bind (wpAny_newTuple ?_ (by show vs.toArray.toList.length<=_; rw[List.toList_toArray,sizeLine_eq]; lia))
 refine wpAny_bind (wpAny_newList ?_ (Nat.zero_le _))
 have I2:Inv X pins σ H {s with heap:=(s.heap.update a (Obj.mapSeq λ_=>(#[]:Array Value))).push {cls:=.type "tuple",data:=.seq vs.toArray.toList.toArray } }:=I1.kept (t':=s.toks) λb o e=>Heap.get?_push_of_some _ e
 have I3:Inv X pins σ H {s with heap:=((s.heap.update a (Obj.mapSeq λ_=>(#[]:Array Value))).push {cls:=.type "tuple",data:=.seq vs.toArray.toList.toArray }).push {cls:=.type "list",data:=.seq ([]:List Value).toArray } }:=I2.kept (t':=s.toks) λb o e=>Heap.get?_push_of_some _ e
 have lt:a<((s.heap.update a (Obj.mapSeq λ_=>(#[]:Array Value))).push {cls:=.type "tuple",data:=.seq vs.toArray.toList.toArray }).objs.size:=by
  rw[size_push',Heap.size_update]
  exact Nat.lt_succ_of_lt (Heap.lt_size ha)
 refine wpAny_holding ?_
 exact ad2 T mono inj I3 (I2.jQ (Nat.le_refl _) (I2.hok.fresh (Nat.le_refl _))) fa (Nat.ne_of_gt lt) (Heap.get?_push_size _ rfl) (Heap.get?_push_of_some _ (Heap.get?_push_of_some _ ha1)) hv hl h64 key h
theorem ad4(hh:A.handled=none)(hr:IsRange s.heap r 0 n 1 t u v)(hn:n<=1000)
  (h:∀h' tk (vs:List Value),(∀b o,s.heap.get? b=some o->h'.get? b=some o)->vs.length=n->(∀(i:Nat) (v:Value),vs[i]?=some v->∃t,v=Value.int i t)->Q vs {s with heap:=h',toks:=tk }) :
  wpAny (model P w) A (collect (.ref r)) Q E s:=by
 refine wpAny_bind (wpAny_runValue (codeAny_builtin F.entry_proto_collect ?_))
 refine wpAny_bind (wpAny_newList ?_ (Nat.zero_le _))
 refine wpAny_pure ⟨plainId_quiet F.plain_list_iadd _,codeAny_builtin F.entry_list_iadd ?_⟩
 have sz1:Builtin.Range.rangeSize 0 (n:Int) 1=n:=by rw[rangeSize_one]; split <;> lia
 have keep:∀b o,s.heap.get? b=some o->(s.heap.push {cls:=.type "list",data:=.seq ([]:List Value).toArray }).get? b=some o:=λb o e=>Heap.get?_push_of_some _ e
 refine wpAny_extend_range (A:=A) (R:=λr s'=>match r with
  | Except.ok (Flow.ret v)=>wpAny (model P w) A (match v with
   |Value.ref a=>do
    let __do_lift <-load a
    match __do_lift.data with
     |Data.seq xs epoch=>pure xs.toList
     |x=>unsupported "internal:collect"
   |x=>unsupported "internal:collect") Q E s'
  |Except.ok a=>False
  |Except.error e=>E e s') (s:={s with heap:=s.heap.push {cls:=.type "list",data:=.seq ([]:List Value).toArray } }) hh (keep _ _ hr) (small_one (by lia) (by lia) (by lia) (by lia)) sz1 (by lia) s.heap.objs.size (.ref s.heap.objs.size) 0 (Heap.get?_push_size _ rfl) λh' tk acc c hk hS hi=>?_
 refine wpAny_bind (wpAny_load hS ?_)
 refine wpAny_pure (h h' tk acc.toList (λb o e=>hk b o (Nat.ne_of_lt (Heap.lt_size e)) (keep b o e)) (by rw[Array.length_toList]; exact hi.1) λi v e=>?_)
 rw[Array.getElem?_toList]at e
 obtain⟨t,z⟩:=hi.2 i v e
 exact⟨t,by rw[z]; simp⟩
theorem ad5(T:mL X Kv kd)(mono:∀{H H':Hp} {v k},Same H H'->Kv H v k->Kv H' v k)(inj:∀{pins:List (Addr × Obj)} {σ : St} {H:Hp} {s:Shared},Inv X pins σ H s->∀v k k',Kv H v k->Kv H v k'->k=k')
  (I:Inv X pins σ H s) (hh:X.A.handled=none) (hr:IsRange s.heap r 0 n 1 t u v) (h64:n<64) (key:Fw X pins σ H Kv n kz (.ref q))
  (h:∀s' D ys H',Same H H'->H' D=none->Inv X pins σ (upd H' D (.lst (ys.map λi:Nat=>V.int i))) s'->mK n kz ys->Q (.ref D) s') :
  wpAny (model X.prog X.w) X.A (call (.builtin "sorted") [.ref r] [(Str.ofString "key",.ref q)]) Q E s:=by
 refine call_function_entry_kw kind_sorted plain_sorted entry_sorted (ksk_s1 _ _) ?_
 refine wpAny_bind (m:=checkCount "sorted" 1 1 _) (wpAny_pure ?_)
 refine wpAny_bind (ad4 (A:=X.A.in1) hh hr (by lia) λh1 tk vs keep hl hv=>?_)
 have I1:Inv X pins σ H {s with heap:=h1,toks:=tk }:=I.kept keep
 refine wpAny_bind (wpAny_newList ?_ (by rw[sizeLine_eq]; lia))
 have I2:Inv X pins σ H {s with heap:=h1.push {cls:=.type "list",data:=.seq vs.toArray },toks:=tk }:=I1.kept (t':=tk) λb o e=>Heap.get?_push_of_some _ e
 have ha:(h1.push {cls:=.type "list",data:=.seq vs.toArray }).get? h1.objs.size=some (seqObj "list" vs.toArray 0):=Heap.get?_push_size _ rfl
 refine wpAny_bind (wpAny_holding (wpAny_call_entry_kw slot_list_sort ⟨_,ha,rfl⟩ entry_list_sort ?_ (ksk_l1 _ _)))
 rw[ksk_t1]
 have fa:=I1.jQ (Nat.le_refl _) (I1.hok.fresh (Nat.le_refl _))
 refine ad3 T mono inj I2 fa ha hv hl h64 key λs' c out H' sm na I' e' ⟨ys,hs,hv'⟩=>⟨_,rfl,?_⟩
 refine wpAny_pure ⟨_,rfl,h s' _ ys H' sm na (I'.track (its:=out.toList) (n:=c) (fa.up na) e' hv' ?_) hs⟩
 have:=hs.1.length_eq
 rw[List.length_map,this,List.length_range,sizeLine_eq]
 lia
end
noncomputable def zM(X:Cx)(A:Around)(N:List Str)(qual:Str)(scope:Scope)(f:Addr)(cd:Value)(s:Shared)(H:Hp):Cx where
 prog:=X.prog
 w:=X.w
 K:=X.K
 mg:=X.mg
 base:=X.base
 A:=A.deeper (envX qual scope s.heap.objs.size f cd (bR X.env.cells scope.names []))
 N:=N
 s₀ := s
 H₀ := H
 env:=envX qual scope s.heap.objs.size f cd (bR X.env.cells scope.names [])
 outer:=X.stack
 stack:=envX qual scope s.heap.objs.size f cd (bR X.env.cells scope.names [])::X.stack
 ex:=[]
 fn:=λ_=>false
 calm:=true
 pn:=[]
 xe:=λ_ _=>False
structure zN(sc:Scope)(No:List Str)(x:Str)(Ns:List Str)(src:List (Option Nat))(scope:Scope):Prop where
 c:nQ sc No (x::Ns) (none::src) scope
 QB:∀y∈scope.names,y.2 ≠ .cell
 par:scope.names.lookup x=some .local
 co:scope.isCoroutine=false
 gen:scope.isGenerator=false
section
variable {X:Cx}{pins:List (Addr × Obj)}{σ : St}{H:Hp}{s:Shared}{sc scope:Scope}{No Ns:List Str}{src:List (Option Nat)}{x qual:Str}
theorem ad6(hsc:X.env.scope=sc)(fX:X.N=No)(S:zN sc No x Ns src scope)(hfr:A.frames=some X.stack)(hhd:A.handled=none)(I:Inv X pins σ H s)(rv:RelV v u)
  (hns:h₁.Ns s.heap.objs.size (λy=>([(x,u)]:List (Str × Value)).reverse.lookup y)) (old:∀b o,s.heap.get? b=some o->h₁.get? b=some o) :
  Inv (zM X A (x::Ns) qual scope f cd s H) [] (some v::cj src σ) H {s with heap:=h₁,toks:=tk }:=by
 subst hsc
 subst fX
 have vo:∀x c,(bR X.env.cells scope.names []).lookup x=some c->X.env.cells.lookup x=some c:=λx c h=>by
  rcases nO h with q|q
  .simp at q
  .exact q
 refine⟨⟨I.ok.mod,S.c.kind,rfl,rfl,Nat.le_refl _,λx y c h1 h2=>I.ok.inj x y c (vo _ _ h1) (vo _ _ h2),λy hy=>?_,λx c h=>(Bool.false_ne_true h).elim,λ_=>hhd,Around.frames_deeper hfr,.inr ⟨rfl,rfl⟩,λb hb=>absurd (show b∈([]:List Addr)from hb) (by simp),
   I.bs,Nat.le_trans I.ok.j9 I.sz,λb o e=>by intro hb; exact absurd (show b∈([]:List Addr)from hb) (by simp),λb hb=>absurd (show b∈([]:List Addr)from hb) (by simp),I.stack,I.xQ⟩,
  rfl,I.bare,Un.kept old,⟨_,hns,λi y w' h1 h2 h3=>?_⟩,λy c e=>?_,I.hok.fresh (Nat.le_refl _),λy c e=>I.jN y c (vo y c e),λp hp=>absurd (show p∈([]:List (Addr × Obj))from hp) (by simp),I.hok.kept old,?_⟩
 .skip
  have m:(y,NameKind.free)∈scope.names:=by
   rcases hy with z|z
   .exact absurd rfl (S.QB _ (PySem.mem_of_lookup z))
   .exact PySem.mem_of_lookup z
  have q:=pP (cells:=X.env.cells) (acc:=[]) (.inr ⟨m,by
   obtain⟨c,e⟩:=I.ok.has y (S.c.free _ m rfl)
   rw[e]; rfl⟩)
  exact Option.isSome_iff_exists.mp q
 .cases i with
  |zero =>
   have h1:some x=some y:=h1
   cases h1
   cases h2
   exact⟨u,rv,.inl ⟨S.par,by show([(x,u)]:List (Str × Value)).reverse.lookup x=some u; simp⟩⟩
  |succ i =>
   have h1:Ns[i]?=some y:=h1
   have h2:(cj src σ)[i]?=some (some w'):=h2
   have hi:i<src.length:=by
    unfold cj at h2
    have:=(List.getElem?_eq_some_iff.mp h2).1
    simpa using this
   have h2':((src[i]).bind λj=>(σ[j]?).join)=some w':=by
    unfold cj at h2
    rw[List.getElem?_map,List.getElem?_eq_getElem hi]at h2
    exact Option.some.inj h2
   cases es:src[i]with
   |none=>rw[es]at h2'; cases h2'
   |some j =>
    rw[es]at h2'
    have hj : σ[j]?=some (some w'):=by
     have z:(σ[j]?).join=some w':=h2'
     cases q : σ[j]? with
     |none=>rw[q]at z; cases z
     |some o=>rw[q]at z; have z':o=some w':=z; rw[z']
    have hz:(y,some j)∈(x::Ns).zip (none::src):=by
     refine List.mem_of_getElem? (i:=i+1) ?_
     rw[List.getElem?_zip_eq_some]
     exact⟨by simpa using h1,by simp[List.getElem?_eq_getElem hi,es]⟩
    obtain⟨u1,u2⟩:=S.c.up _ hz j rfl
    have m:(y,NameKind.free)∈scope.names:=PySem.mem_of_lookup u2
    have kx:=S.c.free _ m rfl
    obtain⟨m0,hn0,hl0⟩:=id I.loc
    obtain⟨u',r,lk⟩:=hl0 j y w' u1 hj (kx.elim (λz=>.inr (.inl z)) λz=>.inr (.inr z))
    refine⟨u',r,?_⟩
    rcases lk with⟨k,_⟩|⟨_,c,e,ic⟩
    .have k':X.env.scope.names.lookup y=some .local:=k
     rcases kx with z|z <;> (rw[z]at k'; cases k')
    .refine .inr ⟨.inr u2,c,?_,?_⟩
     .have q:=pP (cells:=X.env.cells) (acc:=[]) (.inr ⟨m,by rw[e]; rfl⟩)
      obtain⟨c',e'⟩:=Option.isSome_iff_exists.mp q
      have e2:=vo y c' e'
      rw[e]at e2; cases e2
      exact e'
     .obtain⟨o,ho,hd⟩:=ic
      exact⟨o,old _ _ ho,hd⟩
 .obtain⟨v,o,ho,hd⟩:=I.cell y c (vo y c e)
  exact⟨v,o,old _ _ ho,hd⟩
 .have:=S.c.len
  show _=(x::Ns).length
  rw[List.length_cons]at this ⊢
  rw[List.length_cons]
  unfold cj
  rw[List.length_map]
  exact this
theorem ad7(hsc:X.env.scope=sc)(fX:X.N=No)(S:zN sc No x Ns src scope)(hfr:A.frames=some X.stack)(hhd:A.handled=none)(hroom:A.depth<recursionLimit)
  (I:Inv X pins σ H s) (ho:s.heap.get? f=some (kla_obj "<lambda>" qual params body scope (bR X.env.cells scope.names []) pm c' ctv)) (hcd:s.heap.CodeRec (.ref c') qual) (rv:RelV v u)
  (hbind:bindArgs (kla_fn "<lambda>" qual params body scope (bR X.env.cells scope.names []) pm (.ref c') ctv) ⟨[u],[]⟩=pure [(x,u)])
  (he:∀s H,PE (zM X A (x::Ns) qual scope f (.ref c') s H) body te) (hq:te (some v::cj src σ) H Q):wpAny (model X.prog X.w) A (call (.ref f) [u]) (EP X pins σ Q) E s:=by
 refine wpAny_call (kla_callFunE hroom ho rfl S.co S.gen rfl hcd ?_)
 rw[hbind]
 refine wpAny_pure (wpAny_newFunctionEnv S.QB (λy hy=>?_) (λh₁ hns hsb=>⟨I.nolimit.fresh _ hsb,?_⟩) S.c.kind)
 .have:y=(x,u):=by simpa using hy
  subst this
  exact S.par
 have old:=λb o e=>hsb.extBut b o (Nat.ne_of_lt (Heap.lt_size e)) (Heap.get?_push_of_some _ e)
 have J:=ad6 (A:=A) (f:=f) (cd:=.ref c') (qual:=qual) (tk:=s.toks+[(x,u)].length) hsc fX S hfr hhd I rv hns old
 refine kla_codeExpr (wpAny_mono (he s H [] _ _ H Q J hq) (λw' s' hw=>?_) λ_ _ z=>z.elim)
 obtain⟨v',H',J',r',q'⟩:=hw
 exact⟨v',H',I.call' (ch:=[]) J'.os J'.base J'.hok J'.bare (λb hb=>absurd hb (by simp)),r',q'⟩
end
noncomputable def mO(mg:Str→Option Value)(base:Heap):Prop:=∃bm ob,mg "__builtins__" = some (.ref bm)∧bm≠builtinsNs∧bm≠mainGlobals∧base.get? bm=some ob∧ob.cls=.type "module" ∧ ob.dict=some builtinsNs∧ob.data=.plain
theorem QC:∀{l:List Value},TriplesOk l->TriplesOk (l++[.int a t,.int b u,c])
 | [],_=>trivial
 |.int _ _ :: .int _ _::_::r,h=>QC (l:=r) h
theorem QD:∀{l:List Value},TriplesOk l->codeAmong pos (l++[.int a t,.int b u,c])=some v->codeAmong pos l=some v\/v=c
 | [],_,h=>by
  have h:(if _ then some c else none)=some v:=h
  split at h
  .cases h; exact .inr rfl
  .cases h
 |.int x _ :: .int y _::z::r,o,h=>by
  have h:(if(x == pos.line&&y == pos.col)=true then some z else codeAmong pos (r++[.int a t,.int b u,c]))=some v:=h
  show(if(x == pos.line&&y == pos.col)=true then some z else codeAmong pos r)=some v\/_
  split at h
  .rename_i q
   rw[if_pos q]
   exact .inl h
  .rename_i q
   rw[if_neg q]
   exact QD (l:=r) o h
section
variable {X:Cx}{pins:List (Addr × Obj)}{σ : St}{H:Hp}{s:Shared}{sc scope:Scope}{No Ns:List Str}{src:List (Option Nat)}{x:Str}
structure zP(P:Addr)(q:Str)(H H':Hp):Prop where
 kp:∀b o,H b=some o->b≠P->H' b=some o
 tb:∃ps,H' P=some (.cM ps)/\yK H' q ps
theorem ad8(hsc:X.env.scope=sc)(S:zN sc No x Ns src scope)(hcode:X.env.code=.ref c)(C:CodeHd X.base c P)(B:mO X.mg X.base)
  (hdef:defaultsOf params X.env=([],[])) (I:Inv X pins σ H s) (hP:H P=some (.cM ps)) (ok:yK H (X.env.qual++("<lambda>" : Str)) ps)
  (h:∀f c' ctv pm H' s' oc,zP P (X.env.qual++("<lambda>" : Str)) H H'→Inv X ((f,kla_obj "<lambda>" (X.env.qual++("<lambda>" : Str)) params body scope (bR X.env.cells scope.names []) pm c' ctv)::pins) σ H' s'→H' c'=some (.cZ oc (.own 0))→P0 oc (X.env.qual++("<lambda>" : Str))→Q (.ref f) s') :
  wpAny (model X.prog X.w) A (eval (.Lambda params body scope pos) X.env) Q E s:=by
 have hcl:closureFor scope X.env=pure (bR X.env.cells scope.names []):=yq λy hy e=>by
  have k:=S.c.free y hy e
  rw[<-hsc]at k
  obtain⟨c,q⟩:=I.ok.has y.1 k
  rw[q]; rfl
 have oP:s.heap.get? P=some (tabObj ps):=I.hok P _ hP
 have nP:mainGlobals≠P:=λz=>by
  obtain⟨o,es,ep,e,hd,_⟩:=I.ok.mod.glob
  have:=(I.bs _ _ e).2
  rw[z,hP]at this
  cases this
 have hg:s.heap.Ns mainGlobals X.mg:=let⟨o,es,ep,e,r⟩:=I.ok.mod.glob; ⟨o,es,ep,I.bk _ _ e,r⟩
 have hB:s.heap.BuiltinsAt X.mg P:=by
  obtain⟨bm,ob,b1,b2,b3,b4,b5,b6,b7⟩:=B
  refine⟨bm,ob,b1,b2,b3,λz=>?_,I.bk _ _ b4,b5,b6,b7⟩
  have:=(I.bs _ _ b4).2
  rw[z,hP]at this
  cases this
 have C':CodeHd s.heap c P:=C.keeps I.bk
 refine kla_eval hdef ?_
 cases hf:codeAmong pos ps.toList with
 |some cv =>
  obtain⟨c',oc,rfl,e1,e2⟩:=ok.2 pos cv hf
  refine kla_makeFunctionHit (mg:=X.mg) hcl I.ok.glob hg hcode C' oP ok.1 hf hB λctv h' tk keep hsz=>?_
  have I1:Inv X pins σ H {s with heap:=h',toks:=tk }:=I.kept keep
  have I2:Inv X pins σ H {s with heap:=h'.push (kla_obj "<lambda>" (X.env.qual++("<lambda>" : Str)) params body scope (bR X.env.cells scope.names []) ((X.mg "__name__").getD .none) c' ctv),toks:=tk }:=I1.kept (t':=tk) λb o e=>Heap.get?_push_of_some _ e
  refine h _ c' ctv _ H _ oc ⟨λ_ _ q _=>q,ps,hP,ok⟩ (I2.p8 (I1.jQ (Nat.le_refl _) (I1.hok.fresh (Nat.le_refl _))) (Heap.get?_push_size _ rfl) (λv z=>by cases z)) e1 e2
 |none =>
  refine kla_makeFunction (mg:=X.mg) hcl I.ok.glob hg hcode C' oP ok.1 hf nP hB λc' ctv h' tk ext hge hlt hrec htb=>?_
  obtain⟨c2,oc,vs,t,e2,hoc,hd,hv⟩:=hrec
  cases e2
  have nc:H c'=none:=I.hok.fresh hge
  have cP:c'≠P:=λz=>by rw[z,hP]at nc; cases nc
  have ne:∀b u,H b=some u->b≠c':=λb u q=>iz q nc
  have up:∀b u,H b=some u->b≠P->(upd (upd H P (.cM (ps ++ #[rawInt pos.line,rawInt pos.col,.ref c']))) c' (.cZ oc (.own 0))) b=some u:=λb u q z=>by rw[aL (ne b u q),aL z]; exact q
  have Fz:(upd (upd H P (.cM (ps ++ #[rawInt pos.line,rawInt pos.col,.ref c']))) c' (.cZ oc (.own 0))) P=some (.cM (ps ++ #[rawInt pos.line,rawInt pos.col,.ref c'])):=by rw[aL (Ne.symm cP)]; exact cN
  have keep:∀b o,b≠P->s.heap.get? b=some o->h'.get? b=some o:=λb o z e=>ext b o z e
  have hok:cQ X.prog X.w (upd (upd H P (.cM (ps ++ #[rawInt pos.line,rawInt pos.col,.ref c']))) c' (.cZ oc (.own 0))) h':=λb u q=>by
   by_cases z1:b=c'
   .subst z1
    rw[cN]at q
    cases q
    exact⟨hoc,oc,hoc⟩
   .by_cases z2:b=P
    .subst z2
     rw[Fz]at q
     cases q
     exact htb
    .rw[aL z1,aL z2]at q
     refine(I.hok b u q).stay (λd v hd' e=>keep d v ?_ e) (λd z=>up d _ z ?_) λd ys z=>up d _ z ?_
     .rcases hd' with rfl|hd'
      .exact z2
      .rintro rfl
       rw[hP]at hd'
       cases hd'
     .rintro rfl
      rw[hP]at z
      cases z
     .rintro rfl
      rw[hP]at z
      cases z
  have qZ:∀b,H b=none->b≠P:=λb n z=>by rw[z,hP]at n; cases n
  have I1:Inv X pins σ (upd (upd H P (.cM (ps ++ #[rawInt pos.line,rawInt pos.col,.ref c']))) c' (.cZ oc (.own 0))) {s with heap:=h',toks:=tk } :=
   I.step (h':=h') (g':=s.gens) (d':=s.drawn) (t':=tk) (ch:=[]) (λ_ z=>nomatch z) (λb o _ _ _ e n=>keep b o (qZ b n) e) (λb o _ _ _ e n=>⟨o.slots,keep b o (qZ b n) e⟩)
    (λb o _ e n=>by
     rw[aL (λz=>by rw[z]at e; exact absurd (Heap.lt_size e) (Nat.not_lt.mpr hge)),aL (qZ b n)]; exact n)
    (λb o _ e=>by
     by_cases z:b=P
     .subst z; exact⟨_,htb⟩
     .exact⟨o,keep b o z e⟩)
    (λb ys q=>up b _ q (by rintro rfl; rw[hP]at q; cases q)) (λb o u q=>up b _ q (by rintro rfl; rw[hP]at q; cases q))
    (λb qs q=>by
     by_cases z:b=P
     .subst z
      rw[hP]at q
      cases q
      exact⟨_,Fz⟩
     .exact⟨#[],by rw[up b _ q z]; simp⟩)
    (λm q=>q.extBut ext (qZ _ I.free)) hok I.bare
  have I2:=I1.kept (t':=tk) (h':=h'.push (kla_obj "<lambda>" (X.env.qual++("<lambda>" : Str)) params body scope (bR X.env.cells scope.names []) ((X.mg "__name__").getD .none) c' ctv)) λb o e=>Heap.get?_push_of_some _ e
  refine h _ c' ctv _ _ _ oc ⟨up,_,Fz,?_,λpos' v q=>?_⟩ (I2.p8 (I1.jQ (Nat.le_refl _) (I1.hok.fresh (Nat.le_refl _))) (Heap.get?_push_size _ rfl) (λv z=>by cases z)) cN ⟨vs,t,hd,hv⟩
  .have:(ps ++ #[rawInt pos.line,rawInt pos.col,.ref c']).toList=ps.toList++[rawInt pos.line,rawInt pos.col,.ref c']:=by simp
   rw[this]
   exact QC ok.1
  .have:(ps ++ #[rawInt pos.line,rawInt pos.col,.ref c']).toList=ps.toList++[rawInt pos.line,rawInt pos.col,.ref c']:=by simp
   rw[this]at q
   rcases QD ok.1 q with q|q
   .obtain⟨d,o,z1,z2,z3⟩:=ok.2 pos' v q
    exact⟨d,o,z1,up d _ z2 (by rintro rfl; rw[hP]at z2; cases z2),z3⟩
   .exact⟨c',oc,q,cN,vs,t,hd,hv⟩
end
noncomputable abbrev KW:=Hp->V->Int × Int->Prop
noncomputable def zQ:KW:=λ_ v k=>v=.int k.1/\k.2=0
noncomputable def QG(Kw:KW)(P:Addr)(q:Str)(src:List (Option Nat))(ta:TA)(te:TE):TE:=λσ H Q=>ta σ H λvs H1=>∃(n:Nat) (kz:Nat->Int × Int),vs=[.int n]/\n<64/\(∃ps,H1 P=some (.cM ps)/\yK H1 q ps)/\∀H2,zP P q H1 H2 ->
 (∀(i:Nat),i<n->∀H3,Same H2 H3->te (some (.int i)::cj src σ) H3 λv H4=>Kw H4 v (kz i)/\Same H3 H4)/\∀D (ys:List Nat) H3,Same H2 H3->H3 D=none->mK n kz ys->Q (.ref D) (upd H3 D (.lst (ys.map λi:Nat=>V.int i)))
section
variable {X:Cx}{sc scope:Scope}{No Ns:List Str}{src:List (Option Nat)}{x:Str}{Kw:KW}{kd:SortKind}
theorem ad9(T:mL X (λH u k=>∃v,RelV v u/\Kw H v k) kd)(mono:∀{H H':Hp} {v k},Same H H'->Kw H v k->Kw H' v k)(inj:∀{pins:List (Addr × Obj)} {σ : St} {H:Hp} {s:Shared},Inv X pins σ H s->∀u k k',(∃v,RelV v u/\Kw H v k)->(∃v,RelV v u/\Kw H v k')->k=k')
  (hr:dg k X.A) (h1:X.mg "sorted" = none) (h2:X.mg "range" = none) (hsc:X.env.scope=sc) (fX:X.N=No) (S:zN sc No x Ns src scope) (hcode:X.env.code=.ref c) (C:CodeHd X.base c P) (B:mO X.mg X.base) (hdef:defaultsOf params X.env=([],[]))
  (ha:PA X [e] ta) (hbind:∀(pm cd ctv u:Value),bindArgs (kla_fn "<lambda>" (X.env.qual++("<lambda>" : Str)) params body scope (bR X.env.cells scope.names []) pm cd ctv) ⟨[u],[]⟩=pure [(x,u)])
  (he:∀A f cd s H,PE (zM X A (x::Ns) (X.env.qual++("<lambda>" : Str)) scope f cd s H) body te)
  (hg:X.env.kindOf "sorted" = some .globalImplicit:=by kernel_rfl) (hg2:X.env.kindOf "range" = some .globalImplicit:=by kernel_rfl) (hs:notStar e=true:=by kernel_rfl) :
  PE X (.Call (.Name "sorted" p) [.Call (.Name "range" p2) [e] [] pos2] [⟨some (Str.ofString "key"),.Lambda params body scope amx,kp⟩] pos) (QG Kw P (X.env.qual++("<lambda>" : Str)) src ta te):=by
 refine⟨λpins s σ H Q I h=>?_⟩
 refine wpAny_Call_Name_kw (lK I hg h1 (by decide +kernel:bootBuiltins "sorted" = some (.builtin "sorted")) ?_ (by decide +kernel) (by kernel_rfl))
 refine callWith_kw (Calls.spliced_cons (wpAny_Call_Name_kw (lK I hg2 h2 boot_range (PyProof.Rows.callWith_type1 (aF (ha pos2 pins s σ H _ I h) λus s1 ⟨vs,H1,I1,r1,q1⟩=>?_) (iD hs) rfl) (by decide +kernel) (by kernel_rfl))))
 obtain⟨n,kz,rfl,h64,⟨ps,hP,ok⟩,hq⟩:=q1
 obtain⟨u1,rfl,t1,rfl⟩:=vals1 r1
 refine call_range_1 ?_
 have rfp:=I1.jQ (Nat.le_refl _) (I1.hok.fresh (Nat.le_refl _))
 have I2:Inv X pins σ H1 {s1 with heap:=s1.heap.push {cls:=.type "range",data:=.fields #[.int 0 s1.toks,.int n t1,.int 1 (s1.toks+1)] },toks:=s1.toks+1+1 }:=I1.kept λb o e=>Heap.get?_push_of_some _ e
 have I3:=I2.p8 rfp (Heap.get?_push_size _ rfl) (λv z=>by cases z)
 refine Calls.spliced_nil ?_
 refine kws_cons (ad8 hsc S hcode C B hdef I3 hP ok λf c' ctv pm H2 s2 oc lh I4 e1 e2=>?_)
 refine kws_nil ?_
 have pr:=I4.pin _ (List.mem_append_right _ (List.mem_cons_of_mem _ (List.mem_cons_self ..)))
 obtain⟨key,fin⟩:=hq H2 lh
 refine ad5 T (λ{H H' u k} sm ⟨v,a1,a2⟩=>⟨v,a1,mono sm a2⟩) inj I4 hr.hd pr.1 h64 (λnq i t s' H' hi sub sm I'=>?_) λs' D ys H3 sm nD I' hs'=>⟨.ref D,_,I'.sub λp hp=>List.mem_cons_of_mem _ (List.mem_cons_of_mem _ hp),rfl,fin D ys H3 sm nD hs'⟩
 have pf:=I'.pin _ (List.mem_append_right _ (sub _ (List.mem_cons_self ..)))
 have hcd:s'.heap.CodeRec (.ref c') (X.env.qual++("<lambda>" : Str)):=by
  obtain⟨vs,t,a1,a2⟩:=e2
  exact⟨c',oc,vs,t,rfl,(I'.hok c' _ (sm _ _ e1)).1,a1,a2⟩
 refine aF (ad7 (A:=X.A.in1.in1) (v:=.int i) (te:=te) (Q:=λv H4=>Kw H4 v (kz i)/\Same H' H4) hsc fX S I.ok.frames hr.hd hr.depth I' pf.1 hcd ⟨t,rfl⟩ (hbind _ _ _ _) (λs H=>he _ _ _ _ _) (key i hi H' sm)) λu s'' ⟨v,H4,Fy,rv,q1,q2⟩=>⟨H4,q2,⟨v,rv,q1⟩,Fy⟩
theorem aea:mL X (λH u k=>∃v,RelV v u/\zQ H v k) oneType' where
 kind:=λH keys kz h2 hk pins σ s Q E I q=>Qw.kind H keys kz h2 (λi v e=>by
  obtain⟨w,r,rfl,z⟩:=hk i v e
  obtain⟨t,rfl⟩:=r
  exact⟨t,rfl,z⟩) I q
 ask:=λa₀ kf I h=>Qw.ask a₀ kf I λp hp=>by
  obtain⟨w,r,z1,z⟩:=h p hp
  subst z1
  obtain⟨t,r⟩:=r
  exact⟨t,r,z⟩
theorem aeb(_:Inv X pins σ H s)(u:Value)(k k':Int × Int)(h:∃v,RelV v u/\zQ H v k)(h':∃v,RelV v u/\zQ H v k'):k=k':=by
 obtain⟨v,r,rfl,z⟩:=h
 obtain⟨v',r',rfl,z'⟩:=h'
 obtain⟨t,rfl⟩:=r
 obtain⟨t',r'⟩:=r'
 injection r' with r' _
 exact Prod.ext r' (z.trans z'.symm)
end
noncomputable def rM(K:PySem.W.Frag)(mg:Str->Option Value)(x:Str)(st:Stmt)(c:Addr):Prop:=∃f fd,lU K x x st f fd/\mg x=some (.ref f)/\fd.code=.ref c
section
variable {P:Program}{w:World}{K:PySem.W.Frag}{mg:Str->Option Value}{base:Heap}
theorem rM.aec{c:Addr}{k:Nat}{x:Str}{st:Stmt}{N ps:List Str}{sp:Sp}(a:rM K mg x st c)(S:pO N ps (bU st))
  (hb:∀(kV doc pm:Value) (an:Option Addr) (cdv ct:Value) (us:List Value),us.length=ps.length->bindArgs (fnOf x x (jR st) (gQ st) (bU st) .none kV doc pm an cdv ct) ⟨us,[]⟩=pure (ps.zip us))
  (len:∀vs H Q E,sp vs H Q E->vs.length=ps.length)
  (hbody:∀(f:Addr) (A:Around) (outer:List Env) (s:Shared) (H:Hp) (vs:List V) (Q:VK) (E:XK),dg k (A.deeper (envOfC x (bU st) s.heap.objs.size f (.ref c)))->sp vs H Q E ->
   ∃t,dN (iC (iG P w) P w K mg base N x (bU st) f (.ref c) A outer s H E) (gQ st) t/\t {nx:=λ_ H'=>Q .non H',rt:=Q } (start N vs) H):kJ P w K mg base (k+1) x ps sp:=by
 obtain⟨f,fd,F,m,hc⟩:=a
 refine⟨f,fd,?_,F.binds hb,F.kp,m⟩
 obtain⟨oc,od,kV,doc,pm,an,cdv,ct,osl,rfl,lk,hcd⟩:=F.ex
 have hc:cdv=.ref c:=hc
 subst hc
 exact Dw lk hcd S len λA outer s H vs Q E hr h=>hbody f A outer s H vs Q E hr h
end
noncomputable def vp(K:PySem.W.Frag)(x:Str):Option (Addr × Addr):=match K.lookup mainGlobals with
 |some o=>if o.cls == .type "list" then none else(match nsIn K mainGlobals x with
  | some (some (.ref f))=>(match K.lookup f with
   |some o=>if o.cls == .type "list" then none else(match o.data with
    | .func fd=>(match fd.code with
     | .ref c=>(match K.lookup c with
      |some o=>if o.cls == .type "list" then none else tabIn K x
      |_=>none)
     |_=>none)
    |_=>none)
   |_=>none)
  |_=>none)
 |_=>none
theorem FJ{o:Obj}(h:(o.cls == .type "list")=false):cu o=o:=by
 unfold cu
 rw[if_neg]
 rintro⟨z,_⟩
 rw[z]at h
 exact absurd h (by decide +kernel)
theorem aed{K:PySem.W.Frag}{x:Str}{o:Obj}(h:K.lookup mainGlobals=some o)(n:(o.cls == .type "list")=false):nsIn (aC K) mainGlobals x=nsIn K mainGlobals x:=by
 have e:(aC K).lookup mainGlobals=K.lookup mainGlobals:=by
  rw[jz,h]
  show some (cu o)=some o
  rw[FJ n]
 unfold nsIn
 rw[e]
theorem zR{K:PySem.W.Frag}{x:Str}{z:Addr × Addr}(h:vp K x=some z):tabIn K x=some z/\tabIn (aC K) x=some z:=by
 unfold vp at h
 split at h
 .rename_i o1 h1
  split at h
  .cases h
  .rename_i n1
   split at h
   .rename_i f hf
    split at h
    .rename_i o2 h2
     split at h
     .cases h
     .rename_i n2
      split at h
      .rename_i fd hd
       split at h
       .rename_i c hc
        split at h
        .rename_i o3 h3
         split at h
         .cases h
         .rename_i n3
          refine⟨h,?_⟩
          rw[<-h]
          unfold tabIn
          rw[aed h1 (by simpa using n1),hf]
          dsimp only
          rw[jz,h2]
          dsimp only[Option.map]
          rw[FJ (by simpa using n2)]
          obtain⟨a1,a2,a3,a4⟩:=o2
          dsimp only at hd
          subst hd
          dsimp only
          rw[hc]
          dsimp only
          rw[jz,h3]
          dsimp only[Option.map]
          rw[FJ (by simpa using n3)]
        .cases h
       .cases h
      .cases h
    .cases h
   .cases h
 .cases h
theorem FN{o:Obj}{d:Data}(h:(cu o).data=d)(n:d ≠ .fields #[]):cu o=o:=by
 unfold cu at h ⊢
 split at h
 .exact(n h.symm).elim
 .rename_i q
  rw[if_neg q]
theorem QH{K:PySem.W.Frag}{x:Str}{z:Addr × Addr}(h:tabIn (aC K) x=some z):tabIn K x=some z:=by
 unfold tabIn at h
 split at h
 .rename_i f hf
  have g1:nsIn K mainGlobals x=some (some (.ref f)):=by
   unfold nsIn at hf
   rw[jz]at hf
   cases e:K.lookup mainGlobals with
   |none=>rw[e]at hf; cases hf
   |some o =>
    rw[e]at hf
    unfold nsIn
    rw[e]
    have q:cu o=o:=by
     dsimp only[Option.map]at hf
     split at hf
     .rename_i a b es ep c eq
      have eq:cu o=⟨a,b,.dict es ep,c⟩:=Option.some.inj eq
      exact FN (d:=.dict es ep) (by rw[eq]) (by intro z; cases z)
     .cases hf
    dsimp only[Option.map]at hf
    rw[q]at hf
    exact hf
  split at h
  .rename_i a b fd osl hfo
   have g2:K.lookup f=some ⟨a,b,.func fd,osl⟩:=by
    rw[jz]at hfo
    cases e:K.lookup f with
    |none=>rw[e]at hfo; cases hfo
    |some o =>
     rw[e]at hfo
     have eq:cu o=⟨a,b,.func fd,osl⟩:=Option.some.inj hfo
     rw[FN (d:=.func fd) (by rw[eq]) (by intro z; cases z)]at eq
     rw[eq]
   split at h
   .rename_i c hc
    split at h
    .rename_i a' b' vs QJ hco
     split at h
     .rename_i Pp hv
      cases h
      have g3:K.lookup c=some ⟨a',b',.fields vs,QJ⟩:=by
       rw[jz]at hco
       cases e:K.lookup c with
       |none=>rw[e]at hco; cases hco
       |some o =>
        rw[e]at hco
        have eq:cu o=⟨a',b',.fields vs,QJ⟩:=Option.some.inj hco
        rw[FN (d:=.fields vs) (by rw[eq]) (by intro z; injection z with z; subst z; simp at hv)]at eq
        rw[eq]
      unfold tabIn
      rw[g1]
      dsimp only
      rw[g2]
      dsimp only
      rw[hc]
      dsimp only
      rw[g3]
      dsimp only
      rw[hv]
     .cases h
    .cases h
   .cases h
  .cases h
 .cases h
structure vq(K:PySem.W.Frag)(mg:Str->Option Value)(base:Heap)(x:Str)(c P:Addr):Prop where
 nm:x∈fC
 hd:CodeHd base c P
 bm:mO mg base
 tab:tabIn (aC K) x=some (c,P)
 un:∀x'∈fC,∀c',tabIn (aC K) x'=some (c',P)->x'=x
theorem zT{K:PySem.W.Frag}{x:Str}{f c P:Addr}{o1:Obj}{oc:Value}{od:Option Addr}{fd:FuncData}{sl:Array (Option Value)}{cc:Value}{cd:Option Addr}{vs:Array Value}{cs:Array (Option Value)}(a:nsIn K mainGlobals x=some (some (.ref f)))(l1:K.lookup mainGlobals=some o1)(n1:(o1.cls == .type "list")=false)
  (l2:K.lookup f=some ⟨oc,od,.func fd,sl⟩) (n2:(oc == .type "list")=false) (hc:fd.code=.ref c) (l3:K.lookup c=some ⟨cc,cd,.fields vs,cs⟩) (n3:(cc == .type "list")=false) (hv:vs[11]?=some (.ref P)):vp K x=some (c,P):=by
 unfold vp
 rw[l1]
 dsimp only
 rw[if_neg (by rw[n1]; exact Bool.false_ne_true),a]
 dsimp only
 rw[l2]
 dsimp only
 rw[if_neg (by rw[n2]; exact Bool.false_ne_true),hc]
 dsimp only
 rw[l3]
 dsimp only
 rw[if_neg (by rw[n3]; exact Bool.false_ne_true)]
 unfold tabIn
 rw[a]
 dsimp only
 rw[l2]
 dsimp only
 rw[hc]
 dsimp only
 rw[l3]
 dsimp only
 rw[hv]
theorem aee{K:PySem.W.Frag}{x:Str}(a:nsIn K mainGlobals x=some none):tabIn K x=none:=by
 unfold tabIn
 rw[a]
theorem QK{K:PySem.W.Frag}{mg:Str->Option Value}{base:Heap}{x:Str}{c P:Addr}(nm:x∈fC)(hc:∀x∈fC,∀c b,tabIn K x=some (c,b)->CodeHd base c b)(bm:mO mg base)(q:vp K x=some (c,P))(ho:∀x'∈fC,x'=x\/∀c',tabIn K x'≠some (c',P)):vq K mg base x c P :=
 ⟨nm,hc x nm c P (zR q).1,bm,(zR q).2,λx' hx' c' e=>(ho x' hx').elim id λz=>(z c' (QH e)).elim⟩
end L2
end
section
namespace L2
open PySem PySem.Spec PyProof.Rows
noncomputable abbrev FP:=List Tr->Rs (Tr × Bool)
abbrev zU:List Value:=[.type "ValueError",.type "Exception",.type "BaseException",.type "object"]
noncomputable abbrev tx(cl:Str->Addr)(E:XK)(X:Cx):Tx:=⟨aC X.K,λc H'=>E (.ref (cl c)) none H'⟩
noncomputable def qd(K:PySem.W.Frag)(cl:Str->Addr)(n:Nat)(f:FP):Sp:=λvs H Q E=>∃G ts,vs.length=n/\aA (aC K) G vs ts/\Same G H/\bW (aC K) H/\(∀b,Tb (aC K) b->G b=none) /\
 bY ⟨aC K,λc H'=>E (.ref (cl c)) none H'⟩ H (λ_=>[]) (f ts) λp=>∀v G' H',Gw (aC K) G H G' H'->VN (aC K) H G' H' v p.1 p.2->Q v H'
noncomputable def Gk(K:PySem.W.Frag)(mg:Str->Option Value)(x:Str)(v:V)(T:Tr):Prop:=∃u,mg x=some u/\RelV v u/\∀H,Rep (aC K) H v T
inductive Ey
 |fn (x:Str) (ps:List Str) (f:FP) (l:Nat)
 |gk (x:Str) (T:Tr)
structure Cc where
 P:Program
 w:World
 K:PySem.W.Frag
 mg:Str->Option Value
 base:Heap
 cl:Str->Addr
noncomputable def Ey.oE(c:Cc):Ey->Prop
 |.fn x ps f l=>kJ c.P c.w c.K c.mg c.base l x ps (qd c.K c.cl ps.length f)
 |.gk x T=>∃v,Gk c.K c.mg x v T
noncomputable abbrev Ey.ok(cl:Str->Addr)(X:Cx)(y:Ey):Prop:=y.oE ⟨X.prog,X.w,X.K,X.mg,X.base,cl⟩
structure Gx where
 N:List Str
 sc:Scope
 fn:Str->Bool
 B:List Str
 R:List Str
 nx:Bool
 k:Nat
 L:List Str
structure Ox(cl:Str->Addr)(Γ : Gx)(E:XK)(X:Cx):Prop where
 N:X.N = Γ.N
 s:X.env.scope = Γ.sc
 d:X.N.Nodup
 l:X.calm=true
 r:dg Γ.k X.A
 e:Passes (iG X.prog X.w) X E
 B:∀x∈Γ.B,X.mg x=none
 R:∀x∈Γ.R,OwnCls x (cl x) zU "ValueError.__new__" X.mg X.base/\Raises X E
 x:lX X.K
 f:X.fn = Γ.fn
 n : Γ.nx=true->X.xe=λ_ _=>False
 lm:∀x∈Γ.L,∃c P,vq X.K X.mg X.base x c P/\X.env.code=.ref c/\X.env.qual++("<lambda>" : Str)=yJ x
structure Vn{τ : Type}(J:(Str->Addr)->XK->Cx -> τ -> Prop) where
 ck:Gx -> τ -> Bool
 cs:List Ey
 ok:∀{cl E Γ X e},(∀y∈cs,y.ok cl X)->Ox cl Γ E X->ck Γ e=true->J cl E X e
noncomputable abbrev VE(f:EF):=Vn λcl E X e=>PE X e (Te (tx cl E X) f)
noncomputable abbrev VT(f:BF):=Vn λcl E X e=>PT X e (Tt (tx cl E X) f)
noncomputable abbrev VO(f:OF):=Vn λcl E X e=>PO X e (To (tx cl E X) f)
noncomputable abbrev VA(f:AF):=Vn λcl E X e=>PA X e (Ta (tx cl E X) f)/\(∀ρ p,f ρ=.ok p->p.1.length=e.length)/\∀x∈e,notStar x=true
theorem an{a b:Bool}:(a&&b)=true↔a=true/\b=true:=by simp
theorem ml{P:Ey->Prop}{l m:List Ey}(h:∀y∈l++m,P y):∀y∈l,P y:=λy q=>h y (List.mem_append_left _ q)
theorem mr{P:Ey->Prop}{l m:List Ey}(h:∀y∈l++m,P y):∀y∈m,P y:=λy q=>h y (List.mem_append_right _ q)
theorem PT.imp(h:PT X e t)(i:∀σ H Q,u σ H Q->t σ H Q):PT X e u:=⟨λpins s σ H Q I q=>h pins s σ H Q I (i σ H Q q)⟩
theorem PO.imp(h:PO X e t)(i:∀σ H Q,u σ H Q->t σ H Q):PO X e u:=λpins s σ H Q I q=>h pins s σ H Q I (i σ H Q q)
noncomputable def bL(i:Nat):EF:=λρ=>match ρ[i]? with
 |some (.sh T)=>.ok (.v T false,ρ)
 |some (.ow _)=>.ok (.s i,ρ)
 |some (.rf _)=>.ok (.s i,ρ)
 |_=>.bad
noncomputable def jX(Γ : Gx)(i:Nat)(x:Str):Bool := Γ.N[i]? == some x&&(Γ.sc.names.lookup x == some .local || Γ.sc.names.lookup x == some .cell || Γ.sc.names.lookup x == some .free) && !(x == ("__debug__" : Str)) && !(x == ("__classdict__" : Str))
theorem qe(o:Ox cl Γ E X)(h:jX Γ i x=true):PE X (.Name x p) (uO i):=by
 simp only[jX,an]at h
 obtain⟨⟨⟨h1,h2⟩,h3⟩,h4⟩:=h
 exact Mv (by rw[o.N]; exact eq_of_beq h1) (by rw[o.s]; unfold xO; simpa[or_assoc]using h2) (by simpa using h3) (by simpa using h4)
theorem aef(h:Te t (bL i) σ H Q):uO i σ H Q:=by
 obtain⟨R,ρ,G,F,e,h⟩:=h
 have z:=e.sl i
 unfold bL at h
 split at h <;> rename_i k <;> (try exact h.elim) <;> rw[k]at z
 .obtain⟨_,v,h1,h2⟩:=z
  exact⟨v,h1,h v G H F e .refl (.low h2)⟩
 all_goals
  obtain⟨a,xs,h1,_⟩:=z
  exact⟨_,h1,h _ G H F e .refl h1⟩
noncomputable def aj(i:Nat):VE (bL i) where
 ck Γ e:=atName e λx _=>jX Γ i x
 cs:=[]
 ok _ o h:=by
  walk_at "o"
  exact(qe o h).imp λ_ _ _=>aef
noncomputable def eC(T:Tr):EF:=λρ=>.ok (.v T false,ρ)
theorem vA(r:∀H,Rep t.K H v T)(h:Te t (eC T) σ H Q):tC v σ H Q:=by
 obtain⟨R,ρ,G,F,e,h⟩:=h
 exact h v G H F e .refl (.low (r _))
noncomputable def vC(T:Tr):VE (eC T) where
 ck _ e:=match e,T with
  |.Constant (.int i) _ _,.int j=>decide (i=j)
  |.Constant (.str i) _ _,.str j=>i == j
  |.Constant (.bool i) _ _,.bl j=>i == j
  |.Constant .none _ _,.non=>true
  |_,_=>false
 cs:=[]
 ok _ o h:=by
  split at h
  .cases of_decide_eq_true h; exact Dd.imp λ_ _ _=>vA λ_=>.int _
  .cases eq_of_beq h; exact Mz.imp λ_ _ _=>vA λ_=>.str _
  .cases eq_of_beq h; exact Mw.imp λ_ _ _=>vA λ_=>.bl _
  .exact Mx.imp λ_ _ _=>vA λ_=>.non
  .cases h
noncomputable def kW(Γ : Gx)(x:Str):Bool := Γ.sc.names.lookup x == some .globalImplicit && !(x == ("__debug__" : Str))
theorem eN(o:Ox cl Γ E X)(h:kW Γ x=true):Gl X x/\(x == ("__debug__" : Str))=false:=by
 simp only[kW,an]at h
 exact⟨by show X.env.scope.names.lookup _=_; rw[o.s]; exact eq_of_beq h.1,by simpa using h.2⟩
noncomputable def vG(x:Str)(T:Tr):VE (eC T) where
 ck Γ e:=atName e λy _=>x == y&&kW Γ x
 cs:=[.gk x T]
 ok g o h:=by
  walk_at "o"
  simp only[an]at h
  cases eq_of_beq h.1
  obtain⟨v,u,h1,h2,h3⟩:=g _ (List.mem_singleton.mpr rfl)
  exact(aaG (eN o h.2).1 h1 h2 (eN o h.2).2).imp λ_ _ _=>vA h3
section
variable {t:Tx}{R:Addr->Prop}{ρ : En}{σ : St}{G H G0 H0 G' H':Hp}{F F0:Fp}{Q:VK}
theorem Ok.fin(e:Ok t.K R ρ σ G H F)(s:aH t.K G0 H0 F0 G H F)(w:Gw t.K G H G' H')(n:VN t.K H G' H' v T fr)(h:∀v G' H' F',Ok t.K R ρ σ G' H' F'->aH t.K G0 H0 F0 G' H' F'->fZ t.K σ H0 G' H' F' v (.v T fr)->Q v H'):Q v H':=by
 obtain⟨e',s'⟩:=e.grow w
 exact h v G' H' F e' (s.trans s') ((n.ok e).back s.dm)
noncomputable def kY(g:G2)(fa fb:EF):EF:=λρ=>(fa ρ).bind λp=>(fb p.2).bind λq=>(dr q.2 p.1).bind λa=>(dr q.2 q.1).bind λb=>(g a b).bind λz=>.ok (.v z.1 z.2,q.2)
theorem zV(o:dh t.K r g)(h:Te t (kY g fa fb) σ H Q):uP r (Te t fa) (Te t fb) σ H Q:=by
 obtain⟨R,ρ,G,F,e,h⟩:=h
 refine dX e .refl h λp h x G1 H1 F1 e1 s1 v1=>dX e1 s1 h λq h y G2 H2 F2 e2 s2 v2=>?_
 obtain⟨a,k1,h⟩:=h.okb (iI _ _)
 obtain⟨b,k2,h⟩:=h.okb (iI _ _)
 obtain⟨z,k3,h⟩:=h.okb (o.nx a b)
 refine o.ok G2 H2 x y a b Q e2.sub (iJ e2 (v1.step e1.tb s2) k1) (iJ e2 v2 k2) (by rw[k3]; exact λv G' H' w vn=>e2.fin (s1.trans s2) w.gw vn h)
noncomputable def v2(o:Operator)(r:PySem.W.Frag->R2)(g:G2)(hp:∀X,bB X (binaryOp o) (r X.K))(hs:∀K,dh (aC K) (r K) g)(a:VE aD)(b:VE bN):VE (kY g aD bN) where
 ck Γ e:=yU e λx p y _=>decide (p=o)&&a.ck Γ x&&b.ck Γ y
 cs:=a.cs++b.cs
 ok q O h:=by
  walk_at "o"
  simp only[an]at h
  cases of_decide_eq_true h.1.1
  exact(xZ (hp _) (a.ok (ml q) O h.1.2) (b.ok (mr q) O h.2)).imp λ_ _ _=>zV (hs _)
noncomputable def FQ(g:G1)(fa:EF):EF:=λρ=>(fa ρ).bind λp=>(dr p.2 p.1).bind λa=>(g a).bind λz=>.ok (.v z.1 z.2,p.2)
theorem aeg(o:oh t.K r g)(h:Te t (FQ g fa) σ H Q):Nh r (Te t fa) σ H Q:=by
 obtain⟨R,ρ,G,F,e,h⟩:=h
 refine dX e .refl h λp h x G1 H1 F1 e1 s1 v1=>?_
 obtain⟨a,k1,h⟩:=h.okb (iI _ _)
 obtain⟨z,k3,h⟩:=h.okb (o.nx a)
 exact o.ok G1 H1 x a Q e1.sub (iJ e1 v1 k1) (by rw[k3]; exact λv G' H' w vn=>e1.fin s1 w.gw vn h)
noncomputable def vH(a:VE aD):VE (FQ m7 aD) where
 ck Γ e:=pX e λaQ x _=>jk aQ .USub (a.ck Γ x)
 cs:=a.cs
 ok q O h:=by
  walk_at "o"
  exact(Dq Dr (a.ok q O h)).imp λ_ _ _=>aeg Qh
noncomputable def iM(fa:EF):BF:=λρ=>(fa ρ).bind λp=>(dr p.2 p.1).bind λa=>(qX a).bind λb=>.ok (b,p.2)
theorem zW{Q:Bool->Hp->Prop}(h:Tt t (iM fa) σ H Q):nF (Te t fa) σ H Q:=by
 obtain⟨R,ρ,G,F,e,h⟩:=h
 refine dX e .refl h λp h x G1 H1 F1 e1 s1 v1=>?_
 obtain⟨a,k1,h⟩:=h.okb (iI _ _)
 obtain⟨b,k2,h⟩:=h.okb (Qj _)
 exact⟨b,Qk (iJ e1 v1 k1) k2,h G1 H1 F1 e1 s1⟩
noncomputable def zX(fa:EF):BF:=λρ=>(fa ρ).bind λp=>(dr p.2 p.1).bind λa=>(m5 a).bind λb=>.ok (b,p.2)
noncomputable def FT(f g:BF):BF:=λρ=>(f ρ).bind λp=>if p.1=true then g p.2 else .ok (false,p.2)
noncomputable def FW(f g:BF):BF:=λρ=>(f ρ).bind λp=>if p.1=true then .ok (true,p.2)else g p.2
noncomputable def zY(f:BF):BF:=λρ=>(f ρ).bind λp=>.ok (!p.1,p.2)
theorem bY.go{α : Type}{r:Rs α}{P P' : α -> Prop}(s:aH t.K G0 H0 F0 G H F)(h:bY t H0 F0 r P)(k:∀a,P a->P' a):bY t H F r P':=by
 cases r with
 |bad=>exact h
 |ex c=>exact λH' f=>h H' (s.back f)
 |ok a=>exact k a h
theorem Ga(e:Ok t.K R ρ σ G H F)(s:aH t.K G0 H0 F0 G H F)(h:bY t H0 F0 (f ρ) λp=>∀v G' H' F',Ok t.K R p.2 σ G' H' F'->aH t.K G0 H0 F0 G' H' F'->fZ t.K σ H0 G' H' F' v p.1->Q v H'):Te t f σ H Q :=
 ⟨R,ρ,G,F,e,h.go s λp h v G' H' F' e' s' v'=>h v G' H' F' e' (s.trans s') (v'.back s.dm)⟩
theorem QL{Q:Bool->Hp->Prop}(e:Ok t.K R ρ σ G H F)(s:aH t.K G0 H0 F0 G H F)(h:bY t H0 F0 (f ρ) λp=>∀G' H' F',Ok t.K R p.2 σ G' H' F'->aH t.K G0 H0 F0 G' H' F'->Q p.1 H'):Tt t f σ H Q :=
 ⟨R,ρ,G,F,e,h.go s λp h G' H' F' e' s'=>h G' H' F' e' (s.trans s')⟩
theorem aeh{Q:Bool->Hp->Prop}(h:Tt t (zY f) σ H Q):MK (Tt t f) σ H Q:=by
 obtain⟨R,ρ,G,F,e,h⟩:=h
 exact nZ e .refl h λp h G1 H1 F1 e1 s1=>h G1 H1 F1 e1 s1
theorem aei{Q:Bool->Hp->Prop}(h:Tt t (FT f g) σ H Q):MF (Tt t f) (Tt t g) σ H Q:=by
 obtain⟨R,ρ,G,F,e,h⟩:=h
 refine nZ e .refl h λp h G1 H1 F1 e1 s1=>?_
 split at h <;> rename_i c
 .rw[if_pos c]; exact QL e1 s1 h
 .rw[if_neg c]; exact h G1 H1 F1 e1 s1
theorem aej{Q:Bool->Hp->Prop}(h:Tt t (FW f g) σ H Q):MJ (Tt t f) (Tt t g) σ H Q:=by
 obtain⟨R,ρ,G,F,e,h⟩:=h
 refine nZ e .refl h λp h G1 H1 F1 e1 s1=>?_
 split at h <;> rename_i c
 .rw[if_pos c]; exact h G1 H1 F1 e1 s1
 .rw[if_neg c]; exact QL e1 s1 h
noncomputable def eB(b:Bool):Rv:=.v (.bl b) false
noncomputable def Gb(f g:EF):EF:=λρ=>(iM f ρ).bind λp=>if p.1=true then g p.2 else .ok (eB false,p.2)
noncomputable def eOr(f g:EF):EF:=λρ=>(iM f ρ).bind λp=>if p.1=true then .ok (eB true,p.2)else g p.2
noncomputable def Ge(f:EF):EF:=λρ=>(iM f ρ).bind λp=>.ok (eB (!p.1),p.2)
noncomputable def vI(c:BF)(f g:EF):EF:=λρ=>(c ρ).bind λp=>if p.1=true then f p.2 else g p.2
theorem aek(h:Te t (vI c f g) σ H Q):M4 (Tt t c) (Te t f) (Te t g) σ H Q:=by
 obtain⟨R,ρ,G,F,e,h⟩:=h
 refine nZ e .refl h λp h G1 H1 F1 e1 s1=>?_
 split at h <;> rename_i c
 .rw[if_pos c]; exact Ga e1 s1 h
 .rw[if_neg c]; exact Ga e1 s1 h
theorem ael(h:Te t (Gb f g) σ H Q):MN (Te t f) (Te t g) σ H Q:=by
 obtain⟨R,ρ,G,F,e,h⟩:=h
 refine zW (nZ (f:=iM f) e .refl h λp h G1 H1 F1 e1 s1=>?_)
 split at h <;> rename_i c
 .rw[if_pos c]; exact Ga e1 s1 h
 .rw[if_neg c]; exact h _ G1 H1 F1 e1 s1 (.low (.bl _))
theorem aem(h:Te t (Ge f) σ H Q):MP (Te t f) σ H Q:=by
 obtain⟨R,ρ,G,F,e,h⟩:=h
 exact zW (nZ (f:=iM f) e .refl h λp h G1 H1 F1 e1 s1=>h _ G1 H1 F1 e1 s1 (.low (.bl _)))
end
noncomputable def Gf(a:VE aD):VE (Ge aD) where
 ck Γ e:=pX e λaQ x _=>jk aQ .Not (a.ck Γ x)
 cs:=a.cs
 ok q O h:=by
  walk_at "o"
  exact(aaP (a.ok q O h)).imp λ_ _ _=>aem
noncomputable abbrev VQ(f:EF):=Vn λcl E X e=>PE X e (Te (tx cl E X) f)/\PT X e (Tt (tx cl E X) (iM f))
noncomputable def vK(a:VQ f):VE f:=⟨a.ck,a.cs,λq O h=>(a.ok q O h).1⟩
noncomputable def tK(a:VQ f):VT (iM f):=⟨a.ck,a.cs,λq O h=>(a.ok q O h).2⟩
theorem nF.imp{a b:TE}(i:∀Q,a σ H Q->b σ H Q)(h:nF a σ H Q):nF b σ H Q:=i _ h
structure Cq(g:G2) where
 o:CmpOp
 r:PySem.W.Frag->R2
 p:∀X:Cx,X.A.units+64<cLine->bB X (compareOp o) (r X.K)
 s:∀K,dh (aC K) (r K) g
theorem rN(o:Ox cl Γ E X):X.A.units+64<cLine:=by have:=o.r.un; lia
noncomputable def aM(z:Cq g)(a:VE aD)(b:VE bN):VQ (kY g aD bN) where
 ck Γ e:=vd e λx aQ bF _=>aX aQ λp bO=>bw bO (aX bF λy cA=>bw cA (decide (p=z.o)&&a.ck Γ x&&b.ck Γ y && !behindInMarks p y))
 cs:=a.cs++b.cs
 ok q O h:=by
  walk_at "o"
  simp only[an]at h
  obtain⟨⟨⟨h1,h2⟩,h3⟩,h4⟩:=h
  cases of_decide_eq_true h1
  have pa:=a.ok (ml q) O h2
  have pb:=b.ok (mr q) O h3
  have h4:=(Bool.not_eq_true' _).mp h4
  exact⟨(abB (z.p _ (rN O)) pa pb h4).imp λ_ _ _=>zV (z.s _),(abC (z.p _ (rN O)) pa pb h4).imp λ_ _ _ h=>nF.imp (λ_=>zV (z.s _)) (zW h)⟩
noncomputable def Gg(g g':G2)(fa fb fc:EF):EF:=λρ=>(fa ρ).bind λp=>(fb p.2).bind λq=>(dr q.2 p.1).bind λa=>(dr q.2 q.1).bind λb=>(g a b).bind λz=>(qX z.1).bind λk =>
 if k=true then(fc q.2).bind λs=>(dr s.2 q.1).bind λb=>(dr s.2 s.1).bind λc=>(g' b c).bind λz=>.ok (.v z.1 z.2,s.2)else .ok (eB false,q.2)
theorem QM(o:dh t.K r g)(o':dh t.K r' g')(h:Te t (Gg g g' fa fb fc) σ H Q):Ds r r' (Te t fa) (Te t fb) (Te t fc) σ H Q:=by
 obtain⟨R,ρ,G,F,e,h⟩:=h
 refine dX e .refl h λp h x G1 H1 F1 e1 s1 v1=>dX e1 s1 h λq h y G2 H2 F2 e2 s2 v2=>?_
 obtain⟨a,k1,h⟩:=h.okb (iI _ _)
 obtain⟨b,k2,h⟩:=h.okb (iI _ _)
 obtain⟨z,k3,h⟩:=h.okb (o.nx a b)
 obtain⟨k,k4,h⟩:=h.okb (Qj _)
 refine o.ok G2 H2 x y a b _ e2.sub (iJ e2 (v1.step e1.tb s2) k1) (iJ e2 v2 k2) (by
  rw[k3]
  refine λv G3 H3 w vn=>?_
  obtain⟨e3,s3⟩:=e2.grow w.gw
  have Gh:=(s1.trans s2).trans s3
  refine⟨k,Qk (K:=t.K) (G:=G3) (H:=H3) (.inl ?_) k4,?_⟩
  .obtain⟨T,fr⟩:=z
   cases fr
   .exact vn
   .obtain⟨_,_,_,_,rfl,_⟩:=vn; cases k4
  split at h <;> rename_i c
  .rw[if_pos c]
   refine dX e3 Gh h λu h w G4 H4 F4 e4 s4 v4=>?_
   obtain⟨b',k5,h⟩:=h.okb (iI _ _)
   obtain⟨c',k6,h⟩:=h.okb (iI _ _)
   obtain⟨z',k7,h⟩:=h.okb (o'.nx b' c')
   exact o'.ok G4 H4 y w b' c' Q e4.sub (iJ e4 ((v2.step e2.tb s3).step e3.tb s4) k5) (iJ e4 v4 k6) (by rw[k7]; exact λv G' H' w vn=>e4.fin (Gh.trans s4) w.gw vn h)
  .rw[if_neg c]
   exact h _ G3 H3 F2 e3 Gh (.low (.bl _)))
noncomputable def rO(z:Cq g)(z':Cq g')(a:VE aD)(b:VE bN)(d:VE d_f):VQ (Gg g g' aD bN d_f) where
 ck Γ e:=vd e λx aQ bF _=>aX aQ λp bO=>aX bO λp' cA=>bw cA (aX bF λy dR=>aX dR λw eO=>bw eO (decide (p=z.o)&&decide (p'=z'.o)&&a.ck Γ x&&b.ck Γ y&&d.ck Γ w && !lastMarks [p,p'] [y,w]))
 cs:=a.cs++(b.cs++d.cs)
 ok q O h:=by
  walk_at "o"
  simp only[an]at h
  obtain⟨⟨⟨⟨⟨h1,h2⟩,h3⟩,h4⟩,h5⟩,h6⟩:=h
  cases of_decide_eq_true h1
  cases of_decide_eq_true h2
  have pa:=a.ok (ml q) O h3
  have pb:=b.ok (ml (mr q)) O h4
  have pd:=d.ok (mr (mr q)) O h5
  have h6:=(Bool.not_eq_true' _).mp h6
  exact⟨(abD (z.p _ (rN O)) (z'.p _ (rN O)) pa pb pd h6).imp λ_ _ _=>QM (z.s _) (z'.s _),(abE (z.p _ (rN O)) (z'.p _ (rN O)) pa pb pd h6).imp λ_ _ _ h=>nF.imp (λ_=>QM (z.s _) (z'.s _)) (zW h)⟩
noncomputable def bQ(a:VT aD):VT (zY aD) where
 ck Γ e:=pX e λaQ x _=>jk aQ .Not (a.ck Γ x)
 cs:=a.cs
 ok q O h:=by
  walk_at "o"
  exact(aaM (a.ok q O h)).imp λ_ _ _=>aeh
noncomputable def QS:Expr->Bool
 |.UnaryOp .Not _ _=>false
 |.BoolOp .. => false
 |.IfExp .. => false
 |.Compare .. => false
 |_=>true
theorem aen(h:QS e=true):∀whole,isTrue e env whole=(do let v <-whole; standAt e.pos; holding [v] (truthy v)):=by
 intro w
 cases e <;> try cases h
 all_goals first|rfl|skip
 next o _ _=>cases o <;> first|rfl|cases h
noncomputable def bG(a:VE aD):VT (zX aD) where
 ck Γ e:=QS e&&a.ck Γ e
 cs:=a.cs
 ok q O h:=by
  simp only[an]at h
  refine(abG (a.ok q O h.2) (aen h.1)).imp λσ H Q=>cR λR ρ G F e h=>dX e .refl h λp h x G1 H1 F1 e1 s1 v1=>?_
  obtain⟨a,k1,h⟩:=h.okb (iI _ _)
  obtain⟨b,k2,h⟩:=h.okb (adK _)
  exact⟨b,adL e1.sub (iJ e1 v1 k1) k2,h G1 H1 F1 e1 s1⟩
theorem PW.imp(h:PW X e t)(i:∀σ H Q,u σ H Q->t σ H Q):PW X e u:=⟨λwh pins s σ H Q I q=>h.run wh pins s σ H Q I (i σ H Q q)⟩
noncomputable abbrev VW(b:BoolOp)(f:BF):=Vn λcl E X e=>∀p,PW X (.BoolOp b e p) (Tt (tx cl E X) f)
noncomputable def w1(b:BoolOp)(a:VT aD):VW b (aD) where
 ck Γ e:=aX e λx aQ=>bw aQ (a.ck Γ x)
 cs:=a.cs
 ok q O h:=by
  walk_at "o"
  exact λp=>by cases b <;> first|exact aaI (a.ok q O h)|exact aaJ (a.ok q O h)
noncomputable def wA(a:VT aD)(r:VW .And eU):VW .And (FT aD eU) where
 ck Γ e:=aX e λx aQ=>aX aQ λy l=>a.ck Γ x&&r.ck Γ (y::l)
 cs:=a.cs++r.cs
 ok q O h:=by
  walk_at "o"
  simp only[an]at h
  exact λp=>(aaK (a.ok (ml q) O h.1) (r.ok (mr q) O h.2 p)).imp λ_ _ _=>aei
noncomputable def wO(a:VT aD)(r:VW .Or eU):VW .Or (FW aD eU) where
 ck Γ e:=aX e λx aQ=>aX aQ λy l=>a.ck Γ x&&r.ck Γ (y::l)
 cs:=a.cs++r.cs
 ok q O h:=by
  walk_at "o"
  simp only[an]at h
  exact λp=>(aaL (a.ok (ml q) O h.1) (r.ok (mr q) O h.2 p)).imp λ_ _ _=>aej
noncomputable def tW(b:BoolOp)(r:VW b eU):VT (eU) where
 ck Γ e:=vf e λp l _=>decide (p=b)&&r.ck Γ l
 cs:=r.cs
 ok q O h:=by
  walk_at "o"
  simp only[an]at h
  cases of_decide_eq_true h.1
  exact(r.ok q O h.2 _).pt
noncomputable abbrev VV(b:BoolOp)(f:EF):=Vn λcl E X e=>∀p,PE X (.BoolOp b e p) (Te (tx cl E X) f)
noncomputable def u1(b:BoolOp)(a:VE aD):VV b (aD) where
 ck Γ e:=aX e λx aQ=>bw aQ (a.ck Γ x)
 cs:=a.cs
 ok q O h:=by
  walk_at "o"
  exact λp=>aaN (a.ok q O h)
noncomputable def uA(a:VE aD)(r:VV .And eU):VV .And (Gb aD eU) where
 ck Γ e:=aX e λx aQ=>aX aQ λy l=>a.ck Γ x&&r.ck Γ (y::l)
 cs:=a.cs++r.cs
 ok q O h:=by
  walk_at "o"
  simp only[an]at h
  exact λp=>(aaO (a.ok (ml q) O h.1) (r.ok (mr q) O h.2 p)).imp λ_ _ _=>ael
noncomputable def vV(b:BoolOp)(r:VV b eU):VE (eU) where
 ck Γ e:=vf e λp l _=>decide (p=b)&&r.ck Γ l
 cs:=r.cs
 ok q O h:=by
  walk_at "o"
  simp only[an]at h
  cases of_decide_eq_true h.1
  exact r.ok q O h.2 _
noncomputable def vJ(t:VT Gi)(a:VE aD)(b:VE bN):VE (vI Gi aD bN) where
 ck Γ e:=yV e λz x y _=>t.ck Γ z&&a.ck Γ x&&b.ck Γ y
 cs:=t.cs++(a.cs++b.cs)
 ok q O h:=by
  walk_at "o"
  simp only[an]at h
  exact(aaQ (t.ok (ml q) O h.1.1) (a.ok (ml (mr q)) O h.1.2) (b.ok (mr (mr q)) O h.2)).imp λ_ _ _=>aek
noncomputable def vL:Expr->Bool
 |.Slice .. => false
 |_=>true
theorem Gj(h:vL b=true):Oj b:=λo i=>by
 cases b <;> first|rfl|cases h
noncomputable def au(a:VE aD)(b:VE bN):VE (kY aW aD bN) where
 ck Γ e:=mF e λx y _=>vL y&&a.ck Γ x&&b.ck Γ y
 cs:=a.cs++b.cs
 ok q O h:=by
  walk_at "o"
  simp only[an]at h
  exact(DK DN (a.ok (ml q) O h.1.2) (b.ok (mr q) O h.2) (Gj h.1.1)).imp λ_ _ _=>zV Qg
section
variable {t:Tx}{K:PySem.W.Frag}{R:Addr->Prop}{ρ : En}{σ : St}{G H G0 H0 G' H':Hp}{F F0:Fp}{Q:VK}
theorem dO.step(tb:bW K H)(s:aH K G H F G' H' F'):∀{vs:List V} {rs:List Rv},dO K σ Hs G H F vs rs->dO K σ Hs G' H' F' vs rs
 |_,_,.nil=>.nil
 |_,_,.cons h r=>.cons (h.step tb s) (dO.step tb s r)
theorem dO.back(d:∀b,H1 b=none->H b=none):∀{vs:List V} {rs:List Rv},dO K σ H1 G' H' F' vs rs->dO K σ H G' H' F' vs rs
 |_,_,.nil=>.nil
 |_,_,.cons h r=>.cons (h.back d) (dO.back d r)
theorem dO.length:∀{vs:List V} {rs:List Rv},dO K σ Hs G H F vs rs->vs.length=rs.length
 |_,_,.nil=>rfl
 |_,_,.cons _ r=>by rw[List.length_cons,List.length_cons,dO.length r]
noncomputable def drs(ρ : En):List Rv->Rs (List Tr)
 | []=>.ok []
 |r::rs=>(dr ρ r).bind λt=>(drs ρ rs).bind λts=>.ok (t::ts)
theorem zZ{α β : Type}{r:Rs α}{f : α -> Rs β}(h1:∀c,r ≠ .ex c)(h2:∀a c,f a ≠ .ex c)(c:Str):r.bind f ≠ .ex c:=by
 cases r with
 |bad=>intro z; cases z
 |ex d=>exact(h1 d rfl).elim
 |ok a=>exact h2 a c
theorem cD{α β : Type}{r:Rs α}{f : α -> Rs β}{b : β}(h:r.bind f=.ok b):∃a,r=.ok a/\f a=.ok b:=by
 cases r with
 |bad=>cases h
 |ex c=>cases h
 |ok a=>exact⟨a,rfl,h⟩
theorem z6(ρ : En):∀(rs:List Rv) (c:Str),drs ρ rs ≠ .ex c
 | [],c=>by intro z; cases z
 |r::rs,c=>zZ (iI ρ r) (λ_=>zZ (z6 ρ rs) λ_ _ z=>by cases z) c
theorem z7(e:Ok K R ρ σ G H F):∀{vs:List V} {rs:List Rv} {ts:List Tr},dO K σ Hs G H F vs rs->drs ρ rs=.ok ts->mD K G H vs ts
 |_,_,_,.nil,q=>by cases q; exact .nil
 |_,_,_,.cons h r,q=>by
  obtain⟨t,q1,q⟩:=cD q
  obtain⟨ts,q2,q⟩:=cD q
  cases q
  exact .cons (iJ e h q1) (z7 e r q2)
noncomputable def cls:List Rv->Rs (List Tr)
 | []=>.ok []
 |.v t _::rs=>(cls rs).bind λts=>.ok (t::ts)
 |.s _::_=>.bad
theorem rP:∀(rs:List Rv) (c:Str),cls rs ≠ .ex c
 | [],c=>by intro z; cases z
 |.s _::_,c=>by intro z; cases z
 |.v t _::rs,c=>zZ (rP rs) (λ_ _ z=>by cases z) c
theorem dO.vis(nR:∀b,Hs b=none->¬R b){rs:List Rv}:∀{vs:List V} {ts:List Tr} {G1:Hp},dO K σ Hs G H F vs rs->cls rs=.ok ts->Same G G1->Ok K R ρ σ G1 H F->(∀b,G1 b≠none->G b≠none\/Hs b=none) ->
  ∃G2,Same G1 G2/\Ok K R ρ σ G2 H F/\(∀b,G2 b≠none->G b≠none\/Hs b=none)/\aA K G2 vs ts:=by
 induction rs with
 |nil =>
  intro vs ts G1 h q _ e n
  cases h
  cases q
  exact⟨G1,Same.refl _,e,n,.nil⟩
 |cons r0 rs ih =>
  intro vs ts G1 h q m e n
  cases h with
  |cons h r =>
   cases r0 with
   |s _=>cases q
   |v T fr =>
    obtain⟨ts,q1,q⟩:=cD q
    cases q
    cases fr with
    |false =>
     obtain⟨G2,m2,e2,n2,r2⟩:=ih r q1 m e n
     exact⟨G2,m2,e2,n2,.cons (Rep.mono (m.trans m2) h.1) r2⟩
    |true =>
     obtain⟨⟨a,xs,us,e1,e2,hs,_,ha,ra⟩,f⟩:=h
     obtain⟨e',m'⟩:=e.show ha (f rfl a e1) (nR a hs)
     obtain⟨G2,m2,e3,n2,r2⟩:=ih r q1 (m.trans m') e' λb z=>by
      by_cases y:b=a
      .subst y; exact .inr hs
      .rw[aL y]at z; exact n b z
     subst e1; subst e2
     exact⟨G2,m'.trans m2,e3,n2,.cons (.lst (aK.of (m2 a _ cN)) (ra.mono (m.trans (m'.trans m2)))) r2⟩
theorem Ok.vis(e:Ok K R ρ σ G H F)(e0:Ok K R ρ0 σ0 G0 H0 F0)(s:aH K G0 H0 F0 G H F)(h:dO K σ H0 G H F vs rs)(q:cls rs=.ok ts):∃G2,Ok K R ρ σ G2 H F/\aH K G0 H0 F0 G2 H F/\Same G G2/\aA K G2 vs ts:=by
 obtain⟨G2,m,e2,n,r⟩:=h.vis (λb=>e0.rn) q (Same.refl _) e λb z=>.inl z
 exact⟨G2,e2,⟨s.gg.trans m,s.fr,λb z=>(n b z).elim (s.nw b) λz=>.inr (.inl z),s.nf,s.dm⟩,m,r⟩
noncomputable def rQ:Rv->Rs Tr
 |.v T _=>.ok T
 |.s _=>.bad
theorem QT(r:Rv)(c:Str):rQ r ≠ .ex c:=by cases r <;> (intro z; cases z)
theorem Ok.rR(e:Ok K R ρ σ G H F)(e0:Ok K R ρ0 σ0 G0 H0 F0)(s:aH K G0 H0 F0 G H F)(h:fZ K σ H0 G H F v r)(q:rQ r=.ok T):∃G2,Ok K R ρ σ G2 H F/\aH K G0 H0 F0 G2 H F/\Same G G2/\Rep K G2 v T:=by
 cases r with
 |s i=>cases q
 |v U fr =>
  cases q
  obtain⟨G2,e2,s2,m,r⟩:=e.vis (vs:=[v]) e0 s (.cons h .nil) rfl
  cases r with
  |cons r _=>exact⟨G2,e2,s2,m,r⟩
noncomputable def dU:AF:=λρ=>.ok ([],ρ)
noncomputable def cW(f:EF)(g:AF):AF:=λρ=>(f ρ).bind λp=>(g p.2).bind λq=>.ok (p.1::q.1,q.2)
end
noncomputable def ao:VA dU where
 ck _ e:=e.isEmpty
 cs:=[]
 ok:=@λ_ _ _ X e _ _ h=>by
  cases e <;> try cases h
  exact⟨uQ.imp λσ H Q=>cR λR ρ G F e h=>h [] G H F e .refl .nil,λρ p h=>(by cases h; rfl),λ_ z=>nomatch z⟩
noncomputable def ak(a:VE aD)(r:VA eU):VA (cW aD eU) where
 ck Γ e:=aX e λx y=>notStar x&&a.ck Γ x&&r.ck Γ y
 cs:=a.cs++r.cs
 ok q O h:=by
  walk_at "o"
  simp only[an]at h
  obtain⟨pb,lb,nb⟩:=r.ok (mr q) O h.2
  exact⟨(pL (a.ok (ml q) O h.1.2) pb (iD h.1.1)).imp λσ H Q=>cR λR ρ G F e h=>dX e .refl h λp h x G1 H1 F1 e1 s1 v1=>jU e1 s1 h λq h xs G2 H2 F2 e2 s2 v2=>h (x::xs) G2 H2 F2 e2 (s1.trans s2) (.cons (v1.step e1.tb s2) (v2.back s1.dm)),λρ p q=>(by
   obtain⟨a,q1,q⟩:=cD q
   obtain⟨b,q2,q⟩:=cD q
   cases q
   rw[List.length_cons,lb _ _ q2,List.length_cons]),List.forall_mem_cons.mpr ⟨h.1.1,nb⟩⟩
theorem rT:∀{es:List Expr},(∀x∈es,notStar x=true)->∀env,(backTo pos (starEach es env)).any (·.1)=false
 | [],_,_=>rfl
 |e::es,h,env=>by
  rw[iD (h e (List.mem_cons_self ..))]
  exact rT (λx q=>h x (List.mem_cons_of_mem _ q)) env
noncomputable def QV(g:AF):EF:=λρ=>(g ρ).bind λp=>(cls p.1).bind λts=>if ts.length<=1000 then .ok (.v (.lst ts) true,p.2)else .bad
noncomputable def QW(g:AF):EF:=λρ=>(g ρ).bind λp=>(cls p.1).bind λts=>if ts.length<=1000 then .ok (.v (.tup ts) false,p.2)else .bad
noncomputable def f9(a:VA aD):VE (QW aD) where
 ck Γ e:=jh e λl _ _=>a.ck Γ l
 cs:=a.cs
 ok q O h:=by
  walk_at "o"
  refine(Dv (a.ok q O h).1).imp λσ H Q=>cR λR ρ G F e h=>jU e .refl h λp h vs G1 H1 F1 e1 s1 v1=>?_
  obtain⟨ts,k1,h⟩:=h.okb (rP _)
  obtain⟨G2,e2,s2,_,r⟩:=e1.vis e s1 v1 k1
  split at h
  .exact⟨by rw[r.length]; exact Nat.le_trans ‹_› (by decide),λp hp=>e2.fin s2 (.new e2.sub hp) (.newT e2.sub hp r) h⟩
  .exact h.elim
noncomputable def iQ(a:VA aD):VE (QV aD) where
 ck Γ e:=vg e λl _=>a.ck Γ l
 cs:=a.cs
 ok q O h:=by
  walk_at "o"
  refine(Nu (a.ok q O h).1).imp λσ H Q=>cR λR ρ G F e h=>jU e .refl h λp h vs G1 H1 F1 e1 s1 v1=>?_
  obtain⟨ts,k1,h⟩:=h.okb (rP _)
  obtain⟨G2,e2,s2,_,r⟩:=e1.vis e s1 v1 k1
  split at h
  .exact⟨by rw[r.length]; exact Nat.le_trans ‹_› (by decide),λp hp=>e2.fin s2 (.flt e2.sub hp) (.flt e2.sub hp r) h⟩
  .exact h.elim
open Classical in
noncomputable def qg(G H0:Hp):Hp->Hp:=λH b=>if H0 b=none then H b else if H b=G b then G b else none
theorem Gm(G H0:Hp):Pj (qg G H0) H0:=⟨λs b o h=>(by
  unfold qg at h ⊢
  split at h
  .rw[if_pos ‹_›]; exact s b o h
  .rw[if_neg ‹_›]
   split at h
   .rename_i e
    rw[h]at e ⊢
    rw[if_pos (s b o e)]
   .cases h),λH b o h=>(by
  unfold qg at h
  split at h
  .exact h
  .split at h
   .rw[‹H b=G b›]; exact h
   .cases h),λs h=>by
  unfold qg
  rw[if_pos (s.free h),cN]⟩
theorem QX{K:PySem.W.Frag}(g:Same G H)(s:Same H H'):Gw K G H (qg G H H') H':=⟨λb o h=>by
  have q:=s b o (g b o h)
  unfold qg
  rw[if_neg (by rw[g b o h]; exact λz=>by cases z),q,h]
  exact if_pos rfl,λb o h _=>s b o h,(Gm G H).sub H',λt=>t.fr λb o _ h=>s b o h,λb h=>by
  unfold qg at h
  split at h
  .exact .inr ‹_›
  .split at h
   .exact .inl h
   .exact(h rfl).elim⟩
noncomputable def Lz(Ts:List Tr):EF:=λρ=>.ok (.v (.lst Ts) true,ρ)
mutual
noncomputable def QZ:Tr->Tr->Bool
 |.non,.non=>true
 |.bl a,.bl b=>a == b
 |.int a,.int b=>decide (a=b)
 |.str a,.str b=>a == b
 |.tup a,.tup b=>vO a b
 |.lst a,.lst b=>vO a b
 |_,_=>false
noncomputable def vO:List Tr->List Tr->Bool
 | [],[]=>true
 |a::l,b::m=>QZ a b&&vO l m
 |_,_=>false
end
mutual
theorem aeo:∀{a b:Tr},QZ a b=true->a=b
 |.non,b,h=>by cases b <;> first|rfl|cases h
 |.bl a,b,h=>by cases b <;> first|cases h; done|rw[eq_of_beq h]
 |.int a,b,h=>by cases b <;> first|cases h; done|rw[of_decide_eq_true h]
 |.str a,b,h=>by cases b <;> first|cases h; done|rw[eq_of_beq h]
 |.tup a,b,h=>by cases b <;> first|cases h; done|rw[z8 h]
 |.lst a,b,h=>by cases b <;> first|cases h; done|rw[z8 h]
 |.bV a,b,h=>by cases h
theorem z8:∀{a b:List Tr},vO a b=true->a=b
 | [],[],_=>rfl
 |a::l,b::m,h=>by
  obtain⟨h1,h2⟩:=an.mp h
  rw[aeo h1,z8 h2]
end
noncomputable def Gn:Option (List Tr)->List Tr->Bool
 |some Us,Ts=>vO Us Ts
 |none,_=>false
theorem Q5(h:Gn o Ts=true):o=some Ts:=by
 cases o <;> first|cases h; done|rw[z8 h]
noncomputable def mQ(Ts:List Tr):VE (eC (.tup Ts)) where
 ck _ e:=jh e λl _ _=>Gn (gU l) Ts
 cs:=[]
 ok:=@λ_ _ _ X e _ _ h=>by
  walk_at "o"
  refine(adW (G:=aC X.K) (Q5 h)).imp λσ H Q ⟨R,ρ,G,F,e,h⟩ v H' s r=>?_
  exact e.fin .refl (QX e.sub s) (show VN _ _ _ _ _ _ false from r _ (Gm _ _)) h
noncomputable def Q6(Ts:List Tr):VE (Lz Ts) where
 ck _ e:=vg e λl _=>Gn (gU l) Ts
 cs:=[]
 ok:=@λ_ _ _ X e _ _ h=>by
  walk_at "o"
  refine(adV (G:=aC X.K) (Q5 h)).imp λσ H Q ⟨R,ρ,G,F,e,h⟩ a xs H1 s ha r _=>?_
  obtain⟨e1,s1⟩:=e.grow (QX e.sub s)
  exact e1.fin s1 (.flt e1.sub ha) (.flt e1.sub ha (r _ (Gm _ _))) h
noncomputable def xH:OF:=λρ=>.ok (none,ρ)
noncomputable def z9(fa:EF):OF:=λρ=>(fa ρ).bind λp=>(dr p.2 p.1).bind λa=>(yS a).bind λb=>.ok (some b,p.2)
noncomputable def oN:VO xH where
 ck _ e:=e.isNone
 cs:=[]
 ok:=@λ_ _ _ X e _ _ h=>by
  cases e <;> try cases h
  exact ab9.imp λσ H Q=>cR λR ρ G F e h=>h G H F e .refl
noncomputable def oS(a:VE aD):VO (z9 aD) where
 ck Γ e:=pY e λx=>a.ck Γ x
 cs:=a.cs
 ok q O h:=by
  walk_at "o"
  refine(acd (a.ok q O h)).imp λσ H Q=>cR λR ρ G F e h=>dX e .refl h λp h x G1 H1 F1 e1 s1 v1=>?_
  obtain⟨a,k1,h⟩:=h.okb (iI _ _)
  obtain⟨b,k2,h⟩:=h.okb (Ql _)
  exact⟨b,Qm (iJ e1 v1 k1) k2,h G1 H1 F1 e1 s1⟩
noncomputable def cut{α : Type}(xs:List α)(lo hi:Option Int):List α := (xs.drop (HT.aU xs.length 0 lo)).take (HT.aU xs.length xs.length hi-HT.aU xs.length 0 lo)
theorem aA.cut{K:PySem.W.Frag}{H:Hp}{xs:List V}{ts:List Tr}(r:aA K H xs ts)(lo hi:Option Int):aA K H (nJ xs lo hi) (L2.cut ts lo hi):=by
 unfold nJ L2.cut
 rw[r.length]
 exact(r.drop _).take _
noncomputable def Q7(K:PySem.W.Frag):V->Option Int->Option Int->Hp->VK->Prop:=λx lo hi H Q=>Ot K x lo hi H Q\/N8 K x lo hi H Q
theorem aep:lO X (Q7 X.K):=lO.or acu acf
noncomputable def jx(lo hi:Option Int):G1
 |.lst ts=>.ok (.lst (cut ts lo hi),true)
 |.tup ts=>if ¬(HT.aU ts.length 0 lo=0/\HT.aU ts.length ts.length hi=ts.length)then .ok (.tup (cut ts lo hi),false)else .bad
 |_=>.bad
theorem Q8{K:PySem.W.Frag}(lo hi:Option Int):oh (aC K) (λx H Q=>Q7 K x lo hi H Q) (jx lo hi):=⟨λa c=>by unfold jx; (repeat' split) <;> (intro z; cases z),λG H x a Q s rx h=>by
 cases a <;> try exact h.elim
 .dsimp only[jx]at h
  split at h
  .obtain⟨b,xs,rfl,q,r⟩:=rx.tup s
   exact .inr ⟨b,xs,rfl,q.toK,by rw[r.length]; assumption,λy hy=>h _ _ _ (.new s hy) (.newT s hy (r.cut _ _))⟩
  .exact h.elim
 .obtain⟨b,xs,rfl,q,r⟩:=rx.lst s
  exact .inl ⟨b,xs,rfl,q.toK,λy hy=>h _ _ _ (.flt s hy) (.flt s hy (r.cut _ _))⟩⟩
noncomputable def Aa(fa:EF)(fl fh:OF):EF:=λρ=>(fa ρ).bind λp=>(fl p.2).bind λl=>(fh l.2).bind λh=>(dr h.2 p.1).bind λa=>(jx l.1 h.1 a).bind λz=>.ok (.v z.1 z.2,h.2)
noncomputable def qj(a:VE aD)(l:VO l_f)(r:VO eU):VE (Aa aD l_f eU) where
 ck Γ e:=mF e λx aQ _=>yW aQ λy z bF _=>pZ bF (a.ck Γ x&&l.ck Γ y&&r.ck Γ z)
 cs:=a.cs++(l.cs++r.cs)
 ok q O h:=by
  walk_at "o"
  simp only[an]at h
  refine(ace aep (a.ok (ml q) O h.1.1) (l.ok (ml (mr q)) O h.1.2) (r.ok (mr (mr q)) O h.2)).imp λσ H Q=>cR λR ρ G F e h=>dX e .refl h λp h x G1 H1 F1 e1 s1 v1=>Qc e1 s1 h λl h G2 H2 F2 e2 s2=>Qc e2 (s1.trans s2) h λu h G3 H3 F3 e3 s3=>?_
  obtain⟨a,k1,h⟩:=h.okb (iI _ _)
  obtain⟨z,k2,h⟩:=h.okb ((Q8 (K:=[]) _ _).nx _)
  exact(Q8 l.1 u.1).ok G3 H3 x a Q e3.sub (iJ e3 (v1.step e1.tb (s2.trans s3)) k1) (by rw[k2]; exact λv G' H' w vn=>e3.fin ((s1.trans s2).trans s3) w.gw vn h)
noncomputable def oF(Γ : Gx)(x:Str)(as:VA oH):Expr->Bool
 |.Call (.Name y _) (e::es) [] _=>y == x&&kW Γ x&&as.ck Γ (e::es)
 |_=>false
theorem rW(h:oF Γ x as e=true):∃p a es q,e=.Call (.Name x p) (a::es) [] q/\kW Γ x=true/\as.ck Γ (a::es)=true:=by
 unfold oF at h
 split at h
 case h_2=>cases h
 simp only[an]at h
 cases eq_of_beq h.1.1
 exact⟨_,_,_,_,rfl,h.1.2,h.2⟩
noncomputable def mR(g:GN)(fa:AF):EF:=λρ=>(fa ρ).bind λp=>(drs p.2 p.1).bind λas=>(g as).bind λz=>.ok (.v z.1 z.2,p.2)
theorem Q9{t:Tx}(o:Ez t.K r g)(h:Te t (mR g fa) σ H Q):yh r (Ta t fa) σ H Q:=by
 obtain⟨R,ρ,G,F,e,h⟩:=h
 refine jU e .refl h λp h xs G1 H1 F1 e1 s1 v1=>?_
 obtain⟨as,k1,h⟩:=h.okb (z6 _ _)
 obtain⟨z,k3,h⟩:=h.okb (o.nx as)
 exact o.ok G1 H1 xs as Q e1.sub (z7 e1 v1 k1) (by rw[k3]; exact λv G' H' w vn=>e1.fin s1 w.gw vn h)
noncomputable def vB(x:Str)(u:Value)(r:PySem.W.Frag->List V->Hp->VK->Prop)(g:List Tr->Rs (Tr × Bool))(hv:bootBuiltins x=some u/\x ≠ "__name__" /\ ((∃i,u=.builtin i)\/∃i,u=.type i)) (hp:∀{cl Γ E X},Ox cl Γ E X->gM X u (r X.K)) (hs:∀K,Ez (aC K) (r K) g) (as:VA oH):VE (mR g oH) where
 ck Γ e := Γ.B.contains x&&oF Γ x as e
 cs:=as.cs
 ok q o h:=by
  obtain⟨h1,h⟩:=an.mp h
  obtain⟨p,a,es,p',rfl,h2,h3⟩:=rW h
  obtain⟨pa,la,na⟩:=as.ok q o h3
  obtain⟨hv1,hv2,⟨i,rfl⟩|⟨i,rfl⟩⟩:=hv
  .exact(NZ (hp o) (eN o h2).1 (o.B x (by simpa using h1)) hv1 pa hv2 (eN o h2).2 (iD (na _ (List.mem_cons_self ..))) (rT (λy m=>na y (List.mem_cons_of_mem _ m)) _)).imp λ_ _ _=>Q9 (hs _)
  .exact(abP (hp o) (eN o h2).1 (o.B x (by simpa using h1)) hv1 pa hv2 (eN o h2).2 (iD (na _ (List.mem_cons_self ..))) (rT (λy m=>na y (List.mem_cons_of_mem _ m)) _)).imp λ_ _ _=>Q9 (hs _)
noncomputable def Ra(c:Ty)(fa:EF):EF:=λρ=>(fa ρ).bind λp=>(dr p.2 p.1).bind λa=>.ok (eB (nW a c),p.2)
noncomputable def Ab(x:Str)(ty:Ty)(hb:bootBuiltins x=some (.type ty.name)/\x ≠ "__name__") (a:VE aD):VE (Ra ty aD) where
 ck Γ e:=ji e λaQ bF bO _=>atName aQ λy _=>aX bF λb cA=>aX cA λdR eO=>atName dR λz _=>bw eO (bw bO (y == ("isinstance" : Str)&&kW Γ y&&z == x&&kW Γ z&&Γ.B.contains y&&Γ.B.contains z&&a.ck Γ b&&notStar b))
 cs:=a.cs
 ok q o h:=by
  walk_at "o"
  simp only[an]at h
  obtain⟨⟨⟨⟨⟨⟨⟨h1,h2⟩,h3⟩,h4⟩,h5⟩,h6⟩,h7⟩,h8⟩:=h
  cases eq_of_beq h1
  cases eq_of_beq h3
  refine(acM o.x ty (a.ok q o h7) (o.B _ (by simpa using h5)) (o.B _ (by simpa using h6)) hb.1 (eN o h2).1 (eN o h4).1 hb.2 (eN o h4).2 (iD h8)).imp λσ H Q=>cR λR ρ G F e h=>dX e .refl h λp h x G1 H1 F1 e1 s1 v1=>?_
  obtain⟨a,k1,h⟩:=h.okb (iI _ _)
  exact⟨x,a,ty,rfl,((iJ e1 v1 k1).rep e1.sub).toK,h _ G1 H1 F1 e1 s1 (.low (.bl _))⟩
mutual
noncomputable def ql:Tr->Bool
 |.tup ts=>rY ts
 |.lst _=>false
 |_=>true
noncomputable def rY:List Tr->Bool
 | []=>true
 |t::r=>ql t&&rY r
end
noncomputable def Ac(G G':Hp):Prop:=∀b o,(∀xs,o ≠ .lst xs)->G b=some o->G' b=some o
theorem Rb{K:PySem.W.Frag}{G G':Hp}(m:Ac G G'):(∀{v T},Rep K G v T->ql T=true->Rep K G' v T)/\∀{vs Ts},aA K G vs Ts->rY Ts=true->aA K G' vs Ts:=by
 refine Rep.both (λ_=>.non) (λb _=>.bl b) (λi _=>.int i) (λx _=>.str x) (λa xs ts h q n=>?_) (λa xs ts h q n=>?_) (λa C c h k n _=>.bV (m _ _ (λ_ z=>by cases z) h) k n) (λ_=>.nil) λx t xs ts p q n=>?_
 .refine .tup ?_ (q (by unfold ql at n; exact n))
  rcases h with(h|⟨o,h⟩)|h
  .exact .inl (.inl (m _ _ (λ_ z=>by cases z) h))
  .exact .inl (.inr ⟨o,m _ _ (λ_ z=>by cases z) h⟩)
  .exact .inr h
 .unfold ql at n; cases n
 .unfold rY at n
  obtain⟨n1,n2⟩:=an.mp n
  exact .cons (p n1) (q n2)
theorem Rep.flat{K:PySem.W.Frag}{G G':Hp}(m:Ac G G'){v:V}{T:Tr}(h:Rep K G v T)(n:ql T=true):Rep K G' v T:=(Rb m).1 h n
theorem aA.flat{K:PySem.W.Frag}{G G':Hp}(m:Ac G G'){v:List V}{T:List Tr}(h:aA K G v T)(n:rY T=true):aA K G' v T:=(Rb m).2 h n
noncomputable def wL(G H:Hp):Hp:=λb=>match G b with
 |some o=>some o
 |none=>match H b with
  |some (.lst xs)=>some (.lst xs)
  |_=>none
theorem vP(h:G b=some o):wL G H b=some o:=by unfold wL; rw[h]
theorem Gp(h:wL G H b=some o):G b=some o\/G b=none/\H b=some o/\∃xs,o=.lst xs:=by
 unfold wL at h
 split at h
 .exact .inl (by rw[<-h]; assumption)
 .split at h <;> cases h
  exact .inr ⟨‹_›,‹_›,_,rfl⟩
theorem aer(h:H b=some (.lst xs))(n:G b=none):wL G H b=some (.lst xs):=by unfold wL; rw[n,h]
noncomputable def wB(G H G':Hp):Hp:=λb=>match wL G H b with
 |some _=>G b
 |none=>G' b
noncomputable def qm:Rv->Bool
 |.s _=>true
 |_=>false
noncomputable def rZ(z:Tr × Bool):Bool:=ql z.1 || (z.2&&(match z.1 with
 |.lst us=>rY us
 |_=>false))
section
variable {K:PySem.W.Frag}{G H G' H':Hp}
theorem aes(s:Same G H)(w:Gw K (wL G H) H G' H'):Gw K G H (wB G H G') H':=by
 have low:Same (wB G H G') G':=λb o h=>by
  unfold wB at h
  split at h
  .exact w.gg b o (vP h)
  .exact h
 refine⟨λb o h=>by unfold wB; rw[vP h]; exact h,w.hh,low.trans w.sub,w.tb,λb h=>?_⟩
 cases q:G b with
 |some o=>exact .inl λz=>by cases z
 |none =>
  unfold wB at h
  split at h
  .exact(h q).elim
  .rename_i z
   exact .inr ((w.nw b h).elim (λy=>(y z).elim) id)
theorem Rf(w:Gw K (wL G H) H G' H'):Ac G' (wB G H G'):=λb o n h=>by
 unfold wB
 split
 .rename_i u z
  have y:=w.gg b _ z
  rw[h]at y
  cases y
  rcases Gp z with z|⟨_,_,xs,z⟩
  .exact z
  .exact(n xs z).elim
 .exact h
theorem VN.flat(s:Same G H)(w:Gw K (wL G H) H G' H')(h:VN K H G' H' v T fr)(f:rZ (T,fr)=true):VN K H (wB G H G') H' v T fr:=by
 cases fr with
 |false=>exact Rep.flat (Rf w) h (by simpa[rZ]using f)
 |true =>
  obtain⟨a,xs,ts,e1,rfl,e3,e4,e5,r⟩:=h
  refine⟨a,xs,ts,e1,rfl,e3,?_,e5,r.flat (Rf w) (by simpa[rZ,ql]using f)⟩
  unfold wB
  split
  .exact s.free e3
  .exact e4
theorem mD.reps(s:Same G H):∀{vs:List V} {ts:List Tr},mD K G H vs ts->aA K (wL G H) vs ts
 |_,_,.nil=>.nil
 |_,_,.cons (.inl h) r=>.cons (h.mono λ_ _=>vP) (mD.reps s r)
 |_,_,.cons (.inr ⟨a,xs,ts,e1,e2,q,r0⟩) r=>by
  subst e1 e2
  refine .cons (.lst (aK.of ?_) (r0.mono λ_ _=>vP)) (mD.reps s r)
  cases z:G a with
  |none=>exact aer q z
  |some o=>have y:=s a o z; rw[q]at y; cases y; exact vP z
end
theorem Rg:∀{rs:List Rv} {ts:List Tr},drs ρ rs=.ok ts->rs.any qm=false->cls rs=.ok ts
 | [],_,h,_=>h
 |.s _::_,_,_,n=>by simp[qm]at n
 |.v T fr::rs,_,h,n=>by
  obtain⟨ts,q2,q⟩:=cD (show((drs ρ rs).bind _)=_ from h)
  cases q
  unfold cls
  rw[Rg q2 (by simpa[qm]using n)]
  rfl
noncomputable def iU(f:FP)(fa:AF):EF:=λρ=>(fa ρ).bind λp=>(drs p.2 p.1).bind λas=>(f as).bind λz=>if p.1.any qm=true/\rZ z=false then .bad else .ok (.v z.1 z.2,p.2)
theorem Fr.none{K:PySem.W.Frag}(h:Fr K H (λ_=>[]) H'):Fr K H F H':=⟨λb o q _=>h.fr b o q λ⟨_,z⟩=>(by cases z),h.tb⟩
theorem aeu(hn:∀ρ p,fa ρ=.ok p->p.1.length=n)(h:Te (tx cl E X) (iU f fa) σ H Q):Nx (qd X.K cl n f) [] E (Ta (tx cl E X) fa) σ H Q:=by
 obtain⟨R,ρ,G,F,e,h⟩:=h
 cases ek:fa ρ with
 |bad=>rw[iU,ek]at h; exact h.elim
 |ex c=>exact⟨R,ρ,G,F,e,by rw[iU,ek]at h; rw[ek]; exact h⟩
 |ok p =>
 refine⟨R,ρ,G,F,e,?_⟩
 simp only[iU,ek,Rs.bind]at h
 rw[ek]
 intro vs G1 H1 F1 e1 s1 v1
 obtain⟨as,k1,h⟩:=h.okb (z6 _ _)
 show qd X.K cl n f (vs++[]) H1 Q E
 rw[List.append_nil]
 have fin:∀Gc,aA (aC X.K) Gc vs as->Same Gc H1->(∀b,Tb (aC X.K) b->Gc b=none)->(∀z,f as=.ok z->∀v G' H',Gw (aC X.K) Gc H1 G' H'->VN (aC X.K) H1 G' H' v z.1 z.2->Q v H')->qd X.K cl n f vs H1 Q E:=λGc r s tg k=>by
  refine⟨Gc,as,by rw[v1.length,hn ρ p ek],r,s,e1.tb,tg,?_⟩
  cases ef:f as with
  |bad=>rw[ef]at h; exact h.elim
  |ex c=>rw[ef]at h; exact λH' q=>h H' (s1.back q.none)
  |ok z=>exact k z ef
 by_cases a:p.1.any qm=true
 .refine fin (wL G1 H1) ((z7 e1 v1 k1).reps e1.sub) (λb o q=>(Gp q).elim (e1.sub b o) λq=>q.2.1) (λb t=>?_) λz ef v G' H' w vn=>?_
  .cases q:wL G1 H1 b with
   |none=>rfl
   |some o =>
    rcases Gp q with q|⟨_,q,xs,rfl⟩
    .rw[e1.tg b t]at q; cases q
    .exact(e1.tb.nt q t).elim
  .simp only[ef,Rs.bind]at h
   split at h
   .exact h.elim
   .rename_i c
    exact e1.fin s1 (aes e1.sub w) (vn.flat e1.sub w (by cases q:rZ z with|true=>rfl|false=>exact(c ⟨a,q⟩).elim)) h
 .obtain⟨G2,e2,s2,_,r⟩:=e1.vis e s1 v1 (Rg k1 (by simpa using a))
  refine fin G2 r e2.sub e2.tg λz ef v G' H' w vn=>?_
  simp only[ef,Rs.bind]at h
  rw[if_neg λy=>a y.1]at h
  exact e2.fin s2 w vn h
noncomputable def vF(x:Str)(ps:List Str)(f:FP)(l:Nat)(as:VA oH):VE (iU f oH) where
 ck Γ e:=ji e λ_ m _ _=>m.length == ps.length&&decide (l <= Γ.k)&&oF Γ x as e
 cs:=.fn x ps f l::as.cs
 ok q o h:=by
  obtain⟨_,_,_,_,e0,h⟩:=CK h
  subst e0
  simp only[an]at h
  obtain⟨⟨h1,h0⟩,h⟩:=h
  obtain⟨p,a,es,p',e',h2,h3⟩:=rW h
  cases e'
  obtain⟨D,q⟩:=List.forall_mem_cons.mp q
  obtain⟨pa,la,na⟩:=as.ok q o h3
  rw[eq_of_beq h1]at la
  obtain⟨d,fd,d1,d2,d3,d4⟩:=kJ.mono D (of_decide_eq_true h0)
  exact(abM d1 o.r (eN o h2).1 d4 d3 d2 .nil o.e pa (eN o h2).2 (iD (na _ (List.mem_cons_self ..))) (rT (λy m=>na y (List.mem_cons_of_mem _ m)) _)).imp λ_ _ _=>aeu la
noncomputable def iV(F:Fp)(i:Nat)(f:List Addr):Fp:=λj=>if j=i then f else F j
theorem sy(h:Fn (iV F i f) b):b∈f\/∃j,j≠i/\b∈F j:=by
 obtain⟨j,h⟩:=h
 unfold iV at h
 split at h
 .exact .inl h
 .exact .inr ⟨j,‹_›,h⟩
section
variable {t:Tx}{K:PySem.W.Frag}{R:Addr->Prop}{ρ ρ':En}{σ σ':St}{G H G0 H0 G' H':Hp}{F F0 F':Fp}{Q:VK}
theorem Ok.one(e:Ok K R ρ σ G H F)(i:Nat)(f:List Addr)(len : ρ'.length = σ'.length)(ne:∀j,j≠i -> ρ'[j]?=ρ[j]? /\ σ'[j]?=σ[j]?)(gg:Same G G')(sub:Same G' H')(tb:bW K H')(hG:∀b,G' b≠none->G b≠none\/(∀j,j≠i->b∉F j)/\¬Tb K b/\¬R b)
  (hh:∀j,j≠i->∀b∈F j,∀o,H b=some o->H' b=some o) (hr:∀b,R b->H' b≠none) (hf:∀b∈f,G' b=none/\∀j,j≠i->b∉F j) (si:lZ K R G' H' σ'[i]? f ρ'[i]?):Ok K R ρ' σ' G' H' (iV F i f):=by
 have no:∀b,G b=none->(∃j,j≠i/\b∈F j)\/Tb K b\/R b->G' b=none:=λb q c=>by
  cases z:G' b with
  |none=>rfl
  |some o =>
   rcases hG b (by rw[z]; exact λz=>by cases z)with y|⟨y1,y2,y3⟩
   .exact(y q).elim
   .rcases c with⟨j,c1,c2⟩|c|c
    .exact(y1 j c1 c2).elim
    .exact(y2 c).elim
    .exact(y3 c).elim
 refine⟨len,sub,tb,λb t=>no b (e.tg b t) (.inr (.inl t)),λb h=>?_,λb h=>⟨no b (e.rg b h).1 (.inr (.inr h)),hr b h⟩,λj k b h1 h2=>?_,λj=>?_⟩
 .rcases sy h with h|⟨j,n,h⟩
  .exact(hf b h).1
  .exact no b (e.hid b ⟨j,h⟩) (.inl ⟨j,n,h⟩)
 .unfold iV at h1 h2
  split at h1 <;> split at h2
  .rw[‹j=i›,‹k=i›]
  .exact((hf b h1).2 k ‹_› h2).elim
  .exact((hf b h2).2 j ‹_› h1).elim
  .exact e.di j k b h1 h2
 .unfold iV
  split
  .rw[‹j=i›]; exact si
  .rw[(ne j ‹_›).1,(ne j ‹_›).2]
   exact(e.sl j).mono gg (hh j ‹_›)
theorem jB{α : Type}{l:List α}{a : α}(h:j≠i):(l.set i a)[j]?=l[j]? := List.getElem?_set_ne (Ne.symm h)
theorem gY{α : Type}{l:List α}{a : α}(h:i<l.length):(l.set i a)[i]?=some a:=by
 rw[List.getElem?_set_self',List.getElem?_eq_getElem h]
 rfl
theorem sE{α : Type}{l:List α}{a : α}(h:¬i<l.length):l.set i a=l:=List.set_eq_of_length_le (Nat.le_of_not_lt h)
theorem aH.sub(h:∀b,Fn F' b->Fn F b):aH K G H F G H F':=⟨Same.refl _,λ_ _ h _ _=>h,λ_ h=>.inl h,λb z=>.inr (h b z),λ_ h=>h⟩
theorem Ok.Gq(e:Ok K R ρ σ G H F)(i:Nat)(r:Rep K G v T):∃F',Ok K R (ρ.set i (.sh T)) (σ.set i (some v)) G H F'/\∀b,Fn F' b->Fn F b:=by
 by_cases l:i < ρ.length
 .refine⟨iV F i [],e.one i [] (by rw[List.length_set,List.length_set,e.len]) (λj n=>⟨jB n,jB n⟩) (Same.refl _) e.sub e.tb (λb h=>.inl h) (λ_ _ _ _ _ h=>h) (λb h=>(e.rg b h).2) (λb h=>by cases h) ?_,λb h=>?_⟩
  .rw[gY l,gY (e.len▸l)]
   exact⟨rfl,v,rfl,r⟩
  .rcases sy h with h|⟨j,_,h⟩
   .cases h
   .exact⟨j,h⟩
 .rw[sE l,sE (e.len▸l)]
  exact⟨F,e,λb h=>h⟩
theorem Ok.aev(e:Ok K R ρ σ G H F)(i:Nat)(h:H a=some (.lst xs))(g:G a=none)(n:¬Fn F a)(nR:¬R a)(r:aA K G xs ts):∃F',Ok K R (ρ.set i (.ow ts)) (σ.set i (some (.ref a))) G H F'/\∀b,Fn F' b->b=a\/Fn F b:=by
 by_cases l:i < ρ.length
 .refine⟨iV F i [a],e.one i [a] (by rw[List.length_set,List.length_set,e.len]) (λj n=>⟨jB n,jB n⟩) (Same.refl _) e.sub e.tb (λb h=>.inl h) (λ_ _ _ _ _ h=>h) (λb h=>(e.rg b h).2) (λb h=>?_) ?_,λb h=>?_⟩
  .cases List.mem_singleton.mp h
   exact⟨g,λj _ z=>n ⟨j,z⟩⟩
  .rw[gY l,gY (e.len▸l)]
   exact⟨a,xs,rfl,rfl,nR,h,r⟩
  .rcases sy h with h|⟨j,_,h⟩
   .exact .inl (List.mem_singleton.mp h)
   .exact .inr ⟨j,h⟩
 .rw[sE l,sE (e.len▸l)]
  exact⟨F,e,λb h=>.inr h⟩
noncomputable def con(ρ : En)(i:Nat):Rs (List Tr):=match ρ[i]? with
 |some (.ow ts)=>.ok ts
 |some (.rf ts)=>.ok ts
 |_=>.bad
theorem vQ(ρ : En)(i:Nat)(c:Str):con ρ i ≠ .ex c:=by
 unfold con
 split <;> (intro z; cases z)
noncomputable def cU(i:Nat)(us:List Tr)(ρ : En):En:=match ρ[i]? with
 |some (.ow _)=>ρ.set i (.ow us)
 |some (.rf _)=>ρ.set i (.rf us)
 |_=>ρ
theorem Ok.con(e:Ok K R ρ σ G H F)(q:con ρ i=.ok ts):∃a xs,σ[i]?=some (some (.ref a))/\F i=[a]/\H a=some (.lst xs)/\aA K G xs ts:=by
 have z:=e.sl i
 unfold L2.con at q
 split at q <;> rename_i k <;> cases q <;> (rw[k]at z; obtain⟨a,xs,h1,h2,_,h3,h4⟩:=z; exact⟨a,xs,h1,h2,h3,h4⟩)
theorem Gu(h:j≠i):(cU i ts ρ)[j]?=ρ[j]? := by
 unfold cU
 split
 .exact jB h
 .exact jB h
 .rfl
theorem Gv:(cU i us ρ).length = ρ.length:=by
 unfold cU
 split
 .rw[List.length_set]
 .rw[List.length_set]
 .rfl
theorem Ok.mov(e:Ok K R ρ σ G H F)(q:L2.con ρ i=.ok ts)(f:F i=[a])(g:Gw K G (upd H a (.lst ys)) G' H')(hx:H' a=some (.lst xs))(r:aA K G' xs us):Ok K R (cU i us ρ) σ G' H' F/\aH K G H F G' H' F:=by
 have ha:Fn F a:=⟨i,by rw[f]; exact List.mem_singleton.mpr rfl⟩
 obtain⟨zs,hz⟩:=e.fl ha
 have ne:∀b o,H b=some o->b≠a->¬Tb K b->H' b=some o:=λb o h n t=>g.hh b o (by rw[aL n]; exact h) t
 have nn:∀b,upd H a (.lst ys) b=none->H b=none:=λb h=>by
  by_cases z:b=a
  .subst z; rw[cN]at h; cases h
  .rw[aL z]at h; exact h
 have tb:=g.tb (e.tb.upd hz)
 have dm:∀b,H' b=none->H b=none:=λb h=>by
  cases q:H b with
  |none=>rfl
  |some o =>
   by_cases z:b=a
   .subst z; rw[hx]at h; cases h
   .by_cases t:Tb K b
    .obtain⟨ps,y⟩:=tb.cM t; rw[h]at y; cases y
    .rw[ne b o q z t]at h; cases h
 have nw:∀b,G' b≠none->G b≠none\/H b=none:=λb h=>(g.nw b h).imp id (nn b)
 have eF:iV F i [a]=F:=by funext j; unfold iV; split <;> first|rfl|rw[‹j=i›,f]
 refine⟨eF▸e.one i [a] (by rw[Gv,e.len]) (λj n=>⟨Gu n,rfl⟩) g.gg g.sub tb (λb h=>(nw b h).imp id λz=>⟨λj _ y=>e.fs z ⟨j,y⟩,λt=>?_,e.rn z⟩) (λj n b hb o h=>?_) (λb h z=>(e.rg b h).2 (dm b z)) (λb h=>?_) ?_,g.gg,λb o h n t=>ne b o h (λz=>n (z▸ha)) t,λb h=>(nw b h).imp id .inl,λb h=>.inr h,dm⟩
 .obtain⟨ps,y⟩:=e.tb.cM t; rw[z]at y; cases y
 .obtain⟨us,q⟩:=e.fl ⟨j,hb⟩
  exact ne b o h (λz=>n (e.di j i b hb (by rw[f,z]; exact List.mem_singleton.mpr rfl))) (e.tb.nt q)
 .cases List.mem_singleton.mp h
  refine⟨?_,λj n z=>n (e.di j i a z (by rw[f]; exact List.mem_singleton.mpr rfl))⟩
  cases q:G' a with
  |none=>rfl
  |some o=>exact((nw a (by rw[q]; exact λz=>by cases z)).elim (λz=>z (e.hid a ha)) λz=>by rw[hz]at z; cases z).elim
 .have z:=e.sl i
  unfold L2.con at q
  unfold cU
  split at q <;> rename_i k <;> cases q <;>
  .rw[k]at z
   obtain⟨b,_,h1,h2,h3,_⟩:=z
   rw[f]at h2
   cases h2
   rw[gY (List.getElem?_eq_some_iff.mp k).1]
   exact⟨a,xs,h1,rfl,h3,hx,r⟩
theorem Ok.put(e:Ok K R ρ σ G H F)(q:L2.con ρ i=.ok ts)(f:F i=[a])(r:aA K G xs us):Ok K R (cU i us ρ) σ G (upd H a (.lst xs)) F/\aH K G H F G (upd H a (.lst xs)) F:=by
 refine e.mov q f (ys:=xs) (.refl λb o h=>?_) cN r
 rw[aL λz=>?_]
 .exact e.sub b o h
 .rw[z,e.hid a ⟨i,by rw[f]; exact List.mem_singleton.mpr rfl⟩]at h
  cases h
end
noncomputable abbrev GM:=List Tr->List Tr->Rs (List Tr × Tr)
structure Gy(r:V->List V->Hp->VK->Prop)(m:GM):Prop where
 nx:∀ts as c,m ts as ≠ .ex c
 ok:∀(K:PySem.W.Frag) (G:Hp) a xs ts vs as H Q ts' T,H a=some (.lst xs)->aA K G xs ts->aA K G vs as->m ts as=.ok (ts',T)->(∀xs' v,aA K G xs' ts'->Rep K G v T->Q v (upd H a (.lst xs')))->r (.ref a) vs H Q
noncomputable def Ad(i:Nat)(m:GM)(fa:AF):EF:=λρ=>(con ρ i).bind λ_=>(fa ρ).bind λp=>(cls p.1).bind λas=>(con p.2 i).bind λts=>(m ts as).bind λz=>.ok (.v z.2 false,cU i z.1 p.2)
theorem aew(h:∀x∈e::es,notStar x=true)(l:(e::es).length<30):((backTo p (starEach (e::es) env)).all (λx=>!x.1)&&(backToKw p (keywordEach [] env)).all (λx=>x.1.isSome)&&decide ((e::es).length+([]:List Keyword).length+(if([]:List Keyword).isEmpty then 0 else 1)<30))=true:=by
 have:(backTo p (starEach (e::es) env)).all (λx=>!x.1)=true:=by
  have:=rT (pos:=p) h env
  rw[List.all_eq_not_any_not]
  simpa using this
 rw[this]
 simpa[keywordEach,backToKw]using l
noncomputable def vM(nm:Str)(id:String)(r:V→List V→Hp→VK→Prop)(m:GM)(hp:Slot "list" nm id∧typeOf (.builtin id)=pure (.type "method_descriptor")∧∀X,DP X id r) (hs:Gy r m) (i:Nat) (as:VA oH):VE (Ad i m oH) where
 ck Γ e:=ji e λaQ bF bO q=>yX aQ λcA a p=>atName cA λx _=>aX bF λy l=>bw bO (a == nm&&jX Γ i x&&decide ((y::l).length<30)&&p.endLine == q.line&&as.ck Γ (y::l))
 cs:=as.cs
 ok q o h:=by
  walk_at "o"
  simp only[an]at h
  obtain⟨⟨⟨⟨h1,h2⟩,h3⟩,h4⟩,h5⟩:=h
  cases eq_of_beq h1
  obtain⟨pa,la,na⟩:=as.ok q o h5
  refine(acz PySem.F.plainAttrs_list hp.1 hp.2.1 (hp.2.2 _) (qe o h2) pa rfl (aew na (of_decide_eq_true h3)) h4 (iD (na _ (List.mem_cons_self ..))) (rT (λy m=>na y (List.mem_cons_of_mem _ m)) _)).imp λσ H Q=>cR λR ρ G F e h=>?_
  obtain⟨us,k0,h⟩:=h.okb (vQ _ _)
  obtain⟨a,xs,hi,_,hx,_⟩:=e.con k0
  refine⟨_,hi,.inl ⟨rfl,xs,aK.of hx⟩,jU e .refl h λp h vs G1 H1 F1 e1 s1 v1=>?_⟩
  obtain⟨as,k1,h⟩:=h.okb (rP _)
  obtain⟨ts,k2,h⟩:=h.okb (vQ _ _)
  obtain⟨⟨ts',T⟩,k3,h⟩:=h.okb (hs.nx _ _)
  obtain⟨G2,e2,s2,_,r⟩:=e1.vis e s1 v1 k1
  obtain⟨a',ys,hi',hf,hy,ry⟩:=e2.con k2
  rw[hi]at hi'
  cases hi'
  refine hs.ok _ G2 a ys ts vs as H1 Q ts' T hy ry r k3 λxs' v r' rv=>?_
  obtain⟨e3,s3⟩:=e2.put k2 hf r'
  exact h v G2 _ F1 e3 (s2.trans s3) (.low rv)
noncomputable def qp:GM:=λts as=>match as with
 | [T]=>if ts.length<=100000 then .ok (ts++[T],.non)else .bad
 |_=>.bad
theorem aex:Gy DQ qp:=⟨λts as c=>by unfold qp; (repeat' split) <;> (intro z; cases z),λK G a xs ts vs as H Q ts' T hx r ra q h=>by
 unfold qp at q
 (repeat' split at q) <;> cases q
 cases ra with
 |cons h1 r1 =>
  cases r1
  exact⟨a,xs,_,rfl,rfl,hx,Nat.lt_of_le_of_lt (by rw[r.length]; assumption) (by decide),h _ _ (r.app (.cons h1 .nil)) .non⟩⟩
structure Rt(K:PySem.W.Frag)(R:Addr->Prop)(G H:Hp)(F:Fp)(G' H':Hp)(v:V)(T:Tr)(fr:Bool):Prop where
 gg:Same G G'
 fm:Fr K H F H'
 sub:Same G' H'
 nw:∀b,G' b≠none->G b≠none\/H b=none\/Fn F b
 rg:∀b,R b->G' b=none
 vl:match fr with
  |false=>Rep K G' v T
  |true=>∃a xs ts,v=.ref a/\T=.lst ts/\(H a=none\/Fn F a)/\¬R a/\G' a=none/\H' a=some (.lst xs)/\aA K G' xs ts
noncomputable def oJ(t:Tx)(R:Addr->Prop)(G H:Hp)(F:Fp)(D:Ends)(p:Fl × En):Prop:=match p.1 with
 |.nx=>∀σ' G' H' F',Ok t.K R p.2 σ' G' H' F'->aH t.K G H F G' H' F'->D.nx σ' H'
 |.bk=>∀σ' G' H' F',Ok t.K R p.2 σ' G' H' F'->aH t.K G H F G' H' F'->D.bk σ' H'
 |.ct=>∀σ' G' H' F',Ok t.K R p.2 σ' G' H' F'->aH t.K G H F G' H' F'->D.ct σ' H'
 |.rt T fr=>∀v G' H',Rt t.K R G H F G' H' v T fr->D.rt v H'
noncomputable def Ts(t:Tx)(f:SF):TS:=λD σ H=>∃R ρ G F,Ok t.K R ρ σ G H F/\bY t H F (f ρ) (oJ t R G H F D)
theorem Te.imp{t:Tx}(h:Te t f σ H Q)(k:∀v H',Q v H'->Q' v H'):Te t f σ H Q':=by
 obtain⟨R,ρ,G,F,e,h⟩:=h
 exact⟨R,ρ,G,F,e,h.go (aH.refl (G:=G)) λp h v G' H' F' e' s' v'=>k v H' (h v G' H' F' e' s' v')⟩
theorem PS.imp(h:PS X e t)(i:∀D σ H,u D σ H->t D σ H):PS X e u:=⟨λpins s σ H D I q=>h pins s σ H D I (i D σ H q)⟩
theorem dN.imp(h:dN X e t)(i:∀D σ H,u D σ H->t D σ H):dN X e u:=⟨λpins s σ H D I q=>h pins s σ H D I (i D σ H q)⟩
noncomputable abbrev VS(f:SF):=Vn λcl E X e=>PS X e (Ts (tx cl E X) f)
noncomputable abbrev VB(f:SF):=Vn λcl E X e=>dN X e (Ts (tx cl E X) f)
section
variable {t:Tx}{K:PySem.W.Frag}{R:Addr->Prop}{ρ : En}{σ : St}{G H G0 H0 G' H':Hp}{F F0 F':Fp}{D:Ends}
theorem Rt.back(s:aH K G0 H0 F0 G H F)(h:Rt K R G H F G' H' v T fr):Rt K R G0 H0 F0 G' H' v T fr:=by
 have ff:∀b,H b=none\/Fn F b->H0 b=none\/Fn F0 b:=λb=>λz=>z.elim (λz=>.inl (s.dm b z)) (s.nf b)
 refine⟨s.gg.trans h.gg,s.back h.fm,h.sub,λb z=>(h.nw b z).elim (s.nw b) λz=>.inr (ff b z),h.rg,?_⟩
 cases fr with
 |false=>exact h.vl
 |true =>
  obtain⟨a,xs,ts,e1,e2,e3,q⟩:=h.vl
  exact⟨a,xs,ts,e1,e2,ff a e3,q⟩
theorem oJ.back(s:aH t.K G0 H0 F0 G H F)(h:oJ t R G0 H0 F0 D p):oJ t R G H F D p:=by
 obtain⟨fl,ρ⟩:=p
 cases fl with
 |nx=>exact λσ' G' H' F' e u=>h σ' G' H' F' e (s.trans u)
 |bk=>exact λσ' G' H' F' e u=>h σ' G' H' F' e (s.trans u)
 |ct=>exact λσ' G' H' F' e u=>h σ' G' H' F' e (s.trans u)
 |rt T fr=>exact λv G' H' r=>h v G' H' (r.back s)
theorem vR(e:Ok t.K R ρ σ G H F)(s:aH t.K G0 H0 F0 G H F)(h:bY t H0 F0 (f ρ) (oJ t R G0 H0 F0 D)):Ts t f D σ H:=⟨R,ρ,G,F,e,h.go s λ_=>oJ.back s⟩
end
noncomputable def Rh:SF:=λρ=>.ok (.nx,ρ)
noncomputable def b0:VB Rh where
 ck _ e:=e.isEmpty
 cs:=[]
 ok:=@λ_ _ _ X e _ _ h=>by
  cases e <;> try cases h
  exact aaT.imp λD σ H=>cR λR ρ G F e h=>h σ G H F e .refl
noncomputable def b1(a:VS aD):VB aD where
 ck Γ e:=aX e λx aQ=>bw aQ (a.ck Γ x)
 cs:=a.cs
 ok q O h:=by
  walk_at "o"
  exact aaV (a.ok q O h)
noncomputable def Ae(f g:SF):SF:=λρ=>(f ρ).bind λp=>match p.1 with
 |.nx=>g p.2
 |fl=>.ok (fl,p.2)
theorem aey{t:Tx}(h:Ts t (Ae f g) D σ H):M6 (Ts t f) (Ts t g) D σ H:=by
 obtain⟨R,ρ,G,F,e,h⟩:=h
 refine⟨R,ρ,G,F,e,h.run (aH.refl (G:=G)) λp h=>?_⟩
 obtain⟨fl,ρ1⟩:=p
 cases fl with
 |nx=>exact λσ1 G1 H1 F1 e1 s1=>vR e1 s1 h
 |rt T fr=>exact h
 |bk=>exact h
 |ct=>exact h
noncomputable def bC(a:VS aD)(r:VB eU):VB (Ae aD eU) where
 ck Γ e:=aX e λx l=>a.ck Γ x&&r.ck Γ l
 cs:=a.cs++r.cs
 ok q O h:=by
  walk_at "o"
  simp only[an]at h
  exact(aaU (a.ok (ml q) O h.1) (r.ok (mr q) O h.2)).imp λ_ _ _=>aey
noncomputable def kZ(K:PySem.W.Frag)(g:GF)(js:List Nat):TG:=λv σ H Q=>∃R ρ G F T,Ok K R ρ σ G H F/\Rep K G v T/\Pz (g T ρ) λρ'=>∀σ' F',Ok K R ρ' σ' G H F'->(∀b,Fn F' b->Fn F b)->(∀k,k∉js -> σ'[k]?=σ[k]?)->Q σ' H
noncomputable def aez(K:PySem.W.Frag)(g:rF)(js:List Nat):pH:=λvs σ H Q=>∃R ρ G F Ts,Ok K R ρ σ G H F/\aA K G vs Ts/\Pz (g Ts ρ) λρ'=>∀σ' F',Ok K R ρ' σ' G H F'->(∀b,Fn F' b->Fn F b)->(∀k,k∉js -> σ'[k]?=σ[k]?)->Q σ' H
theorem PG.imp(h:PG X e t)(i:∀v σ H Q,u v σ H Q->t v σ H Q):PG X e u:=λpins s σ H v w Q I r q=>h pins s σ H v w Q I r (i _ σ H Q q)
theorem nC.imp(h:nC X e t)(i:∀v σ H Q,u v σ H Q->t v σ H Q):nC X e u:=λpins s σ H v w Q I r q=>h pins s σ H v w Q I r (i _ σ H Q q)
theorem Pz.ok{α : Type}{r:Rs α}{P : α -> Prop}(h:Pz r P):∃a,r=.ok a/\P a:=by
 cases r with
 |ok a=>exact⟨a,rfl,h⟩
 |_=>exact h.elim
noncomputable abbrev VG(f:GF)(js:List Nat):=Vn λcl E X e=>PG X e (kZ (aC X.K) f js)/\(∀T ρ y,f T ρ ≠ .ex y)/\notStar e=true
noncomputable abbrev Af(f:rF)(js:List Nat):=Vn λcl E X e=>nC X e (aez (aC X.K) f js)/\(∀T ρ y,f T ρ ≠ .ex y)/\∀env,(assignEach e env).length=e.length/\(assignEach e env).findIdx? (·.1)=none
noncomputable def Ag(Γ : Gx)(i:Nat)(x:Str):Bool := Γ.N[i]? == some x&&(Γ.sc.names.lookup x == some .local || Γ.sc.names.lookup x == some .cell&&Γ.fn x)
noncomputable def Wr(X:Cx)(i:Nat)(x:Str):Prop:=X.N[i]?=some x/\Loc X.env.scope x/\(X.fn x=true\/X.env.scope.names.lookup x=some .local)
theorem Gz(o:Ox cl Γ E X)(h:Ag Γ i x=true):Wr X i x:=by
 obtain⟨h1,h2⟩:=an.mp h
 refine⟨by rw[o.N]; exact eq_of_beq h1,?_⟩
 unfold Loc
 rw[o.s,o.f]
 rcases(Bool.or_eq_true _ _).mp h2 with h|h
 .exact⟨.inl (eq_of_beq h),.inr (eq_of_beq h)⟩
 .exact⟨.inr (eq_of_beq (an.mp h).1),.inl (an.mp h).2⟩
noncomputable def gN(i:Nat):GF:=λT ρ=>.ok (ρ.set i (.sh T))
theorem Ri(T:Tr)(ρ : En)(c:Str):gN i T ρ ≠ .ex c:=by intro z; cases z
theorem Rj{K:PySem.W.Frag}(h:kZ K (gN i) [i] v σ H Q):lM i v σ H Q:=by
 obtain⟨R,ρ,G,F,T,e,r,h⟩:=h
 obtain⟨F',e',s⟩:=e.Gq i r
 exact h _ F' e' s λk n=>jB λz=>n (by rw[z]; exact List.mem_singleton.mpr rfl)
noncomputable def gV(i:Nat):VG (gN i) [i] where
 ck Γ e:=atName e λx _=>Ag Γ i x
 cs:=[]
 ok q o h:=by
  walk_at "o"
  obtain⟨w1,w2,w3⟩:=Gz o h
  exact⟨(aa2 o.d w1 w2 w3).imp λ_ _ _ _=>Rj,Ri,rfl⟩
noncomputable def vU:rF:=λTs ρ=>match Ts with
 | []=>.ok ρ
 |_=>.bad
noncomputable def lg(f:GF)(g:rF):rF:=λTs ρ=>match Ts with
 |T::r=>(f T ρ).bind λρ'=>g r ρ'
 | []=>.bad
noncomputable def fJ:Af vU [] where
 ck _ e:=e.isEmpty
 cs:=[]
 ok:=@λ_ _ _ X e _ _ h=>by
  cases e <;> try cases h
  refine⟨aa5.imp λvs σ H Q ⟨R,ρ,G,F,Ts,e,r,h⟩=>?_,λT _ _=>by cases T <;> (intro z; cases z),λ_=>⟨rfl,rfl⟩⟩
  cases r with
  |nil=>exact⟨rfl,h σ F e (λ_ z=>z) λ_ _=>rfl⟩
  |cons _ _=>exact h.elim
theorem GC(h:notStar e=true):assignEach (e::es) env=(false,assign e env)::assignEach es env:=by
 cases e <;> first|rfl|cases h
noncomputable def bJ(a:VG aD a_j)(r:Af eU GD):Af (lg aD eU) (a_j++GD) where
 ck Γ e:=aX e λx y=>a.ck Γ x&&r.ck Γ y
 cs:=a.cs++r.cs
 ok q O h:=by
  walk_at "o"
  simp only[an]at h
  obtain⟨pa,na,ea⟩:=a.ok (ml q) O h.1
  obtain⟨pb,nb,eb⟩:=r.ok (mr q) O h.2
  refine⟨(aa6 pa pb (by rw[GC ea]; rfl)).imp λvs σ H Q ⟨R,ρ,G,F,Ts,e,r,h⟩=>?_,λTs ρ c=>?_,λenv=>?_⟩
  .cases r with
   |nil=>exact h.elim
   | @cons x T xs Ts r1 r2 =>
    obtain⟨ρ2,k,h⟩:=h.ok
    obtain⟨ρ1,k1,k2⟩:=cD k
    refine⟨x,xs,rfl,R,ρ,G,F,T,e,r1,?_⟩
    rw[k1]
    intro σ1 F1 e1 f1 n1
    refine⟨R,ρ1,G,F1,Ts,e1,r2,?_⟩
    rw[k2]
    refine λσ2 F2 e2 f2 n2=>h σ2 F2 e2 (λb z=>f1 b (f2 b z)) λk n=>?_
    rw[List.mem_append,not_or]at n
    rw[n2 k n.2,n1 k n.1]
  .cases Ts with
   |nil=>intro z; cases z
   |cons T r=>exact zZ (na T ρ) (λρ'=>nb r ρ') c
  .rw[GC ea]
   obtain⟨e1,e2⟩:=eb env
   exact⟨by rw[List.length_cons,e1,List.length_cons],by rw[List.findIdx?_cons,e2]; rfl⟩
noncomputable def gT(n:Nat)(f:rF):GF:=λT ρ=>match T with
 |.tup Ts=>if Ts.length=n then f Ts ρ else .bad
 |_=>.bad
noncomputable def fK(n:Nat)(r:Af eU GD):VG (gT n eU) GD where
 ck Γ e:=jh e λl _ _=>l.length == n&&r.ck Γ l
 cs:=r.cs
 ok q o h:=by
  walk_at "o"
  simp only[an]at h
  obtain⟨pb,nb,eb⟩:=r.ok q o h.2
  refine⟨(aa8 o.l pb ((eb _).1.trans (eq_of_beq h.1)) (eb _).2).imp λv σ H Q ⟨R,ρ,G,F,T,e,r,h⟩=>?_,λT ρ y=>?_,rfl⟩
  .cases T <;> try exact h.elim
   dsimp only[gT]at h
   split at h
   case isFalse=>exact h.elim
   cases r with
   | @tup a xs _ q r=>exact⟨a,xs,rfl,(e.sub.pQ q).toK,by rw[r.length]; assumption,R,ρ,G,F,_,e,r,h⟩
  .cases T <;> first|(intro z; cases z; done)|(dsimp only[gT]; split <;> first|exact nb _ _ _|(intro z; cases z))
noncomputable def qu:Expr->Bool
 |.ListComp .. => false
 |.SetComp .. => false
 |.DictComp .. => false
 |_=>true
theorem vW(h:qu e=true):swapsWith e t l env=pure false:=by
 cases e <;> first|rfl|(unfold qu at h; cases h)
noncomputable abbrev VC(f:EF):=Vn λcl E X e=>PE X e (Te (tx cl E X) f)/\∀i y p sp,Wr X i y->PS X (.Assign [.Name y p] e sp) (lN (Te (tx cl E X) f) (lM i))
noncomputable def dw(a:VC f):VE f:=⟨a.ck,a.cs,λq O h=>(a.ok q O h).1⟩
noncomputable def aE(a:VE aD):VC aD where
 ck Γ e:=qu e&&a.ck Γ e
 cs:=a.cs
 ok q o h:=by
  simp only[an]at h
  have pa:=a.ok q o h.2
  exact⟨pa,λi y p sp w=>M9 o.d w.1 w.2.1 pa (vW h.1) w.2.2⟩
noncomputable def Ah(Γ : Gx)(i:Nat)(a:VC f):Stmt->Bool
 |.Assign [.Name x _] v _=>Ag Γ i x&&a.ck Γ v
 |_=>false
theorem Rk{a:VC f}(q:∀y∈a.cs,y.ok cl X)(o:Ox cl Γ E X)(h:Ah Γ i a e=true):PS X e (lN (Te (tx cl E X) f) (lM i)):=by
 unfold Ah at h
 split at h
 case h_2=>cases h
 simp only[an]at h
 exact(a.ok q o h.2).2 _ _ _ _ (Gz o h.1)
noncomputable def sG(f:EF)(g:GF):SF:=λρ=>(f ρ).bind λp=>match p.1 with
 |.v T _=>(g T p.2).bind λρ'=>.ok (.nx,ρ')
 |.s _=>.bad
theorem Rm{t:Tx}(nx:∀T ρ y,g T ρ ≠ .ex y)(h:Ts t (sG f g) D σ H):lN (Te t f) (kZ t.K g js) D σ H:=by
 obtain⟨R,ρ,G,F,e,h⟩:=h
 refine dX e .refl h λp h v G1 H1 F1 e1 s1 v1=>?_
 obtain⟨r,ρ1⟩:=p
 cases r with
 |s i=>exact h.elim
 |v T fr =>
  obtain⟨G2,e2,s2,_,r⟩:=e1.rR e s1 v1 rfl
  obtain⟨ρ',k,h⟩:=h.okb (nx T ρ1)
  exact⟨R,ρ1,G2,F1,T,e2,r,by rw[k]; exact λσ' F' e' hf _=>h σ' G2 H1 F' e' (s2.trans (.sub hf))⟩
noncomputable def sA(i:Nat)(a:VC aD):VS (sG aD (gN i)) where
 ck Γ e:=Ah Γ i a e
 cs:=a.cs
 ok q o h:=(Rk q o h).imp λ_ _ _ h=>Te.imp (Rm (js:=[i]) Ri h) λ_ _=>Rj
noncomputable def GJ(i:Nat)(f:EF):SF:=λρ=>(f ρ).bind λp=>match p.1 with
 |.v (.lst ts) true=>.ok (.nx,p.2.set i (.ow ts))
 |_=>.bad
noncomputable def sO(i:Nat)(a:VC aD):VS (GJ i aD) where
 ck Γ e:=Ah Γ i a e
 cs:=a.cs
 ok q o h:=by
  refine(Rk q o h).imp λD σ H=>cR λR ρ G F e h=>dX e .refl h λp h v G1 H1 F1 e1 s1 v1=>?_
  obtain⟨r,ρ1⟩:=p
  dsimp only at h
  split at h
  case h_2=>exact h.elim
  obtain⟨⟨a,xs,us,rfl,z,n,g,hx,r⟩,f⟩:=v1
  cases z
  obtain⟨F',e',hf⟩:=e1.aev i hx g (f rfl a rfl) (e.rn n) r
  exact h _ G1 H1 F' e' ⟨s1.gg,s1.fr,s1.nw,λb z=>(hf b z).elim (λz=>.inl (z▸n)) (s1.nf b),s1.dm⟩
noncomputable def Rn:Expr->Bool
 |.Tuple .. => false
 |_=>true
theorem aeA(h:Rn v=true):swappedStores [.Tuple l k p] v env=pure none:=by
 cases v <;> first|rfl|cases h
noncomputable def sH(a:VE aD)(g:VG gZ jC):VS (sG aD gZ) where
 ck Γ e:=oA e λaQ v _=>aX aQ λbF bO=>jh bF λl k p=>bw bO (qu v&&Rn v&&a.ck Γ v&&g.ck Γ (.Tuple l k p))
 cs:=a.cs++g.cs
 ok q o h:=by
  walk_at "o"
  simp only[an]at h
  obtain⟨⟨⟨h1,h2⟩,h3⟩,h4⟩:=h
  obtain⟨pg,ng,eg⟩:=g.ok (mr q) o h4
  exact(Di (a.ok (ml q) o h3) pg (by unfold swapsWithSole; exact vW h1) (aeA h2) (by rw[GC eg]; rfl)).imp λ_ _ _=>Rm ng
noncomputable def GK(Γ : Gx)(i:Nat)(x:Str):Bool := Γ.N[i]? == some x&&Γ.sc.names.lookup x == some .local
theorem sJ(o:Ox cl Γ E X)(h:GK Γ i x=true):X.N[i]?=some x/\X.env.scope.names.lookup x=some .local:=by
 obtain⟨h1,h2⟩:=an.mp h
 exact⟨by rw[o.N]; exact eq_of_beq h1,by rw[o.s]; exact eq_of_beq h2⟩
theorem aeB{env:Env}(n1:notStar u=true)(n2:notStar v=true)(k1:env.scope.names.lookup x=some .local)(k2:env.scope.names.lookup y=some .local)(h4:p.line=p'.line)(e1:(foldedForSure 8 u&&foldedForSure 8 v)=false)(e2:(constantsAlone 8 u&&constantsAlone 8 v)=false)(h8:x≠y)(h9:env.scope.kind=.function):swappedStores [.Tuple [.Name x p,.Name y p'] k q] (.Tuple [u,v] k' q') env=pure (some [x,y]):=by
 have kx:env.kindOf x=some .local:=k1
 have ky:env.kindOf y=some .local:=k2
 have hb:env.blockKind=.function:=by unfold Env.blockKind; rw[h9]; rfl
 unfold swappedStores
 have hy:(y == x)=false:=by simpa using λz=>h8 (z.symm)
 have hx:(x == y)=false:=by simpa using h8
 simp[hb,kx,ky,h4,List.eraseDups,List.filterMap_cons,Expr.pos,List.eraseDupsBy,List.eraseDupsBy.loop,hx,hy]
 rw[if_neg]
 .rw[if_neg λh=>(by rw[h.1,h.2]at e1; cases e1),if_neg λh=>(by rw[h.1,h.2]at e2; cases e2)]
 .rintro(h|h)
  .cases u <;> first|cases h; done|cases n1
  .cases v <;> first|cases h; done|cases n2
noncomputable def Ro(i j:Nat)(fa:AF):SF:=λρ=>(fa ρ).bind λp=>(cls p.1).bind λTs=>match Ts with
 | [T,U]=>.ok (.nx,(p.2.set i (.sh T)).set j (.sh U))
 |_=>.bad
noncomputable def GP(i j:Nat)(a:VA aD):VS (Ro i j aD) where
 ck Γ e:=oA e λaQ bF _=>aX aQ λbO cA=>jh bO λdR _ _=>aX dR λeO jm=>atName eO λx p=>aX jm λqw qx=>atName qw λy p'=>bw qx (bw cA (jh bF λGQ _ _=>aX GQ λu GR=>aX GR λv GX=>bw GX (GK Γ i x&&GK Γ j y&&decide (i≠j)&&decide (p.line=p'.line)&&a.ck Γ [u,v] && !(foldedForSure 8 u&&foldedForSure 8 v) && !(constantsAlone 8 u&&constantsAlone 8 v)&&decide (x≠y)&&decide (Γ.sc.kind=.function))))
 cs:=a.cs
 ok q o h:=by
  walk_at "o"
  simp only[an]at h
  obtain⟨⟨⟨⟨⟨⟨⟨⟨h1,h2⟩,h3⟩,h4⟩,h5⟩,h6⟩,h7⟩,h8⟩,h9⟩:=h
  obtain⟨pa,_,na⟩:=a.ok q o h5
  refine(abd o.l o.d (sJ o h1).1 (sJ o h2).1 (of_decide_eq_true h3) (sJ o h1).2 (sJ o h2).2 pa (aeB (na _ (List.mem_cons_self ..)) (na _ (List.mem_cons_of_mem _ (List.mem_cons_self ..))) (sJ o h1).2 (sJ o h2).2 (of_decide_eq_true h4) ((Bool.not_eq_true' _).mp h6) ((Bool.not_eq_true' _).mp h7) (of_decide_eq_true h8) (by rw[o.s]; exact of_decide_eq_true h9)) rfl).imp λD σ H=>cR λR ρ G F e h=>jU e .refl h λp h vs G1 H1 F1 e1 s1 v1=>?_
  obtain⟨Ts,k1,h⟩:=h.okb (rP _)
  obtain⟨G2,e2,s2,_,r⟩:=e1.vis e s1 v1 k1
  split at h
  case h_2=>exact h.elim
  cases r with
  |cons r1 r =>
   cases r with
   |cons r2 r =>
    cases r
    obtain⟨F3,e3,f3⟩:=e2.Gq i r1
    obtain⟨F4,e4,f4⟩:=e3.Gq j r2
    exact⟨_,_,rfl,h _ G2 H1 F4 e4 (s2.trans (.sub λb z=>f3 b (f4 b z)))⟩
noncomputable def GZ(f:EF):SF:=λρ=>(f ρ).bind λp=>.ok (.nx,p.2)
noncomputable def dz(a:VE aD):VS (GZ aD) where
 ck Γ e:=zf e λx _=>qu x&&a.ck Γ x
 cs:=a.cs
 ok q o h:=by
  walk_at "o"
  simp only[an]at h
  exact(aaX (a.ok q o h.2) (vW h.1)).imp λD σ H=>cR λR ρ G F e h=>dX e .refl h λp h v G1 H1 F1 e1 s1 v1=>h σ G1 H1 F1 e1 s1
noncomputable def G8(f:EF):SF:=λρ=>(f ρ).bind λp=>match p.1 with
 |.v T fr=>.ok (.rt T fr,p.2)
 |.s i=>match p.2[i]? with
  |some (.ow ts)=>.ok (.rt (.lst ts) true,p.2)
  |_=>.bad
noncomputable def aB(a:VE aD):VS (G8 aD) where
 ck Γ e:=zj e λaQ _=>pY aQ λx=>a.ck Γ x
 cs:=a.cs
 ok q o h:=by
  walk_at "o"
  refine(aaZ (a.ok q o h)).imp λD σ H=>cR λR ρ G F e h=>dX e .refl h λp h v G1 H1 F1 e1 s1 v1=>?_
  obtain⟨r,ρ1⟩:=p
  have rg:=λb z=>(e1.rg b z).1
  match r,h,v1 with
  |.v T false,h,v1=>exact h v G1 H1 ⟨s1.gg,⟨s1.fr,e1.tb⟩,e1.sub,s1.nw,rg,v1.1⟩
  |.v T true,h,⟨⟨a,xs,ts,q1,q2,n,g,q3,q4⟩,_⟩=>exact h v G1 H1 ⟨s1.gg,⟨s1.fr,e1.tb⟩,e1.sub,s1.nw,rg,a,xs,ts,q1,q2,.inl n,e.rn n,g,q3,q4⟩
  |.s i,h,v1 =>
   dsimp only at h
   split at h
   case h_2=>exact h.elim
   rename_i ts k
   have z:=e1.sl i
   rw[k]at z
   obtain⟨a,xs,h1,h2,h3,h4,h5⟩:=z
   have f:Fn F1 a:=⟨i,by rw[h2]; exact List.mem_singleton.mpr rfl⟩
   have v1 : σ[i]?=some (some v):=v1
   rw[h1]at v1
   cases v1
   exact h _ G1 H1 ⟨s1.gg,⟨s1.fr,e1.tb⟩,e1.sub,s1.nw,rg,a,xs,ts,rfl,rfl,s1.nf a f,h3,e1.hid a f,h4,h5⟩
noncomputable def Hf(c:BF)(f g:SF):SF:=λρ=>(c ρ).bind λp=>if p.1=true then f p.2 else g p.2
noncomputable def sI(t:VT Gi)(a:VB aD)(b:VB bN):VS (Hf Gi aD bN) where
 ck Γ e:=zm e λz x y _=>t.ck Γ z&&a.ck Γ x&&b.ck Γ y
 cs:=t.cs++(a.cs++b.cs)
 ok q o h:=by
  walk_at "o"
  simp only[an]at h
  refine(aa1 (t.ok (ml q) o h.1.1) (a.ok (ml (mr q)) o h.1.2) (b.ok (mr (mr q)) o h.2)).imp λD σ H=>cR λR ρ G F e h=>nZ e .refl h λp h G1 H1 F1 e1 s1=>?_
  split at h <;> rename_i c
  .rw[if_pos c]; exact vR e1 s1 h
  .rw[if_neg c]; exact vR e1 s1 h
noncomputable def cZ(i:Nat)(ρ : En):En:=match ρ[i]? with
 |some (.ow ts)=>ρ.set i (.sh (.lst ts))
 |_=>ρ
theorem Ok.cZ{K:PySem.W.Frag}(e:Ok K R ρ σ G H F)(i:Nat):∃G' F',Ok K R (L2.cZ i ρ) σ G' H F'/\aH K G H F G' H F':=by
 unfold L2.cZ
 split
 case h_2=>exact⟨G,F,e,.refl⟩
 rename_i ts k
 have z:=e.sl i
 rw[k]at z
 obtain⟨a,xs,h1,h2,h3,h4,h5⟩:=z
 have f:Fn F a:=⟨i,by rw[h2]; exact List.mem_singleton.mpr rfl⟩
 have g:=e.hid a f
 have m:Same G (upd G a (.lst xs)):=fY g _
 have l:=(List.getElem?_eq_some_iff.mp k).1
 refine⟨_,iV F i [],e.one (G':=upd G a (.lst xs)) i [] (by rw[List.length_set,e.len]) (λj n=>⟨jB n,rfl⟩) m (λb o q=>?_) e.tb (λb q=>?_) (λ_ _ _ _ _ h=>h) (λb h=>(e.rg b h).2) (λb h=>by cases h) ?_,m,λ_ _ h _ _=>h,λb q=>?_,λb z=>?_,λ_ h=>h⟩
 .by_cases z:b=a
  .subst z; rw[cN]at q; rw[h4]; exact q
  .rw[aL z]at q; exact e.sub b o q
 .by_cases z:b=a
  .subst z; exact .inr ⟨λj n z=>n (e.di j i b z (by rw[h2]; exact List.mem_singleton.mpr rfl)),e.tb.nt h4,h3⟩
  .rw[aL z]at q; exact .inl q
 .rw[gY l]
  exact⟨rfl,.ref a,h1,.lst (aK.of cN) (h5.mono m)⟩
 .by_cases z:b=a
  .subst z; exact .inr (.inr f)
  .rw[aL z]at q; exact .inl q
 .rcases sy z with z|⟨j,_,z⟩
  .cases z
  .exact .inr ⟨j,z⟩
noncomputable def Rq(i:Nat)(f:SF):SF:=λρ=>f (cZ i ρ)
noncomputable def sZ(i:Nat)(a:VS aD):VS (Rq i aD) where
 ck:=a.ck
 cs:=a.cs
 ok q o h:=(a.ok q o h).imp λD σ H=>cR λR ρ G F e h=>by
  obtain⟨G',F',e',s'⟩:=e.cZ i
  exact vR e' s' h
noncomputable def aeC(c:Str)(f:EF):SF:=λρ=>(f ρ).bind λ_=>.ex c
noncomputable def oK(x:Str)(a:VE aD):VS (aeC x aD) where
 ck Γ e:=zq e λaQ bF _=>pY aQ λbO=>ji bO λcA dR eO _=>atName cA λy _=>aX dR λv jm=>bw jm (bw eO (pZ bF (y == x&&Γ.R.contains y&&kW Γ y&&notStar v&&a.ck Γ v)))
 cs:=a.cs
 ok q o h:=by
  walk_at "o"
  simp only[an]at h
  obtain⟨⟨⟨⟨h1,h2⟩,h3⟩,h4⟩,h5⟩:=h
  cases eq_of_beq h1
  exact(acR (o.R _ (by simpa using h2)).2 (o.R _ (by simpa using h2)).1 PySem.F.excBase_ValueError o.l (a.ok q o h5) (eN o h3).1 (eN o h3).2 (iD h4)).imp λD σ H=>cR λR ρ G F e h=>dX e .refl h λp h v G1 H1 F1 e1 s1 v1=>⟨rfl,h H1 ⟨s1.fr,e1.tb⟩⟩
noncomputable def gA{α : Type}:Rs α -> Rs α
 |.bad=>.bad
 |.ex _=>.bad
 |.ok a=>.ok a
theorem PS.jg{X:Cx}{st:Stmt}{t:TS}(h:PS X.jg st t):PS X st t:=⟨λpins s σ H D I hw =>
 wpAny_mono (h pins s σ H D (I.wish _) hw) (λ_ _ q=>q.jO) λ_ _ z=>False.elim z⟩
noncomputable def vX(f:SF):SF:=λρ=>gA (f ρ)
noncomputable def nG(Γ : Gx):Gx:={Γ with R:=[],nx:=true,L:=[] }
theorem aeD(o:Ox cl Γ E X):Ox cl (nG Γ) E0 X.jg:=⟨o.N,o.s,o.d,o.l,o.r,PB,o.B,(λ_ z=>nomatch z),o.x,o.f,(λ_=>rfl),λ_ z=>nomatch z⟩
noncomputable def sN(a:VS aD):VS (vX aD) where
 ck Γ e:=a.ck (nG Γ) e
 cs:=a.cs
 ok:=@λcl E Γ X e q o h=>(PS.jg (a.ok (X:=X.jg) q (aeD o) h)).imp λD σ H=>cR λR ρ G F e h=>⟨R,ρ,G,F,e,by
  unfold vX at h
  cases k:aD ρ <;> rw[k]at h <;> first|exact h|exact h.elim⟩
theorem Rr(o:Ox cl Γ E X)(h : Γ.nx=true):PassesOwn (model X.prog X.w) X.A X.env X.xe:=by
 rw[o.n h]; exact .never
noncomputable def vY(c:BF)(b:SF):Nat->SF
 | 0=>λ_=>.bad
 | n + 1=>λρ => (c ρ).bind λp=>if p.1=true then (b p.2).bind λq=>(match q.1 with
  |.nx=>vY c b n q.2
  |.ct=>vY c b n q.2
  |.bk=>.ok (.nx,q.2)
  |.rt T fr=>.ok (.rt T fr,q.2))else .ok (.nx,p.2)
noncomputable def Rw(fu:En->Nat)(c:BF)(b:SF):SF:=λρ=>vY c b (fu ρ) ρ
noncomputable def sW(fu:En->Nat)(k:VT oM)(b:VB bN):VS (Rw fu oM bN) where
 ck Γ e:=zx e λt l aQ _=>bw aQ (Γ.nx&&k.ck Γ t&&b.ck Γ l)
 cs:=k.cs++b.cs
 ok:=@λcl E Γ X e q o h=>by
  walk_at "o"
  simp only[an]at h
  refine(abf (Rr o h.1.1) (k.ok (ml q) o h.1.2) (b.ok (mr q) o h.2)).imp λD σ H=>cR λR ρ G F e h=>?_
  refine⟨λm σ' H'=>∃ρ' G' F',Ok (aC X.K) R ρ' σ' G' H' F'/\aH (aC X.K) G H F G' H' F'/\bY (tx cl E X) H F (vY oM bN m ρ') (oJ (tx cl E X) R G H F D),⟨fu ρ,ρ,G,F,e,.refl,h⟩,?_⟩
  rintro m σ1 H1 ⟨ρ1,G1,F1,e1,s1,h1⟩
  cases m with
  |zero=>exact h1.elim
  |succ n =>
   refine nZ e1 s1 h1 λp h G2 H2 F2 e2 s2=>?_
   split at h <;> rename_i d
   .rw[if_pos d]
    refine⟨_,λσ' H' q=>⟨n,Nat.lt_succ_self n,q⟩,R,p.2,G2,F2,e2,h.run (s1.trans s2) λq h=>?_⟩
    obtain⟨fl,ρ3⟩:=q
    cases fl with
    |nx=>exact λσ3 G3 H3 F3 e3 s3=>⟨ρ3,G3,F3,e3,(s1.trans s2).trans s3,h⟩
    |ct=>exact λσ3 G3 H3 F3 e3 s3=>⟨ρ3,G3,F3,e3,(s1.trans s2).trans s3,h⟩
    |bk=>exact λσ3 G3 H3 F3 e3 s3=>h σ3 G3 H3 F3 e3 ((s1.trans s2).trans s3)
    |rt T fr=>exact λv G' H' r=>h v G' H' (r.back (s1.trans s2))
   .rw[if_neg d]
    exact h σ1 G2 H2 F2 e2 (s1.trans s2)
noncomputable def Ai(K:PySem.W.Frag)(G:Hp)(J:It)(us:List Tr):Prop:=∀G' H',Same G G'->Same G' H'->∀i,(i=us.length->J.stop i H')/\∀u,us[i]?=some u->J.go i H'/\∀x cV,J.jP i H' x cV->∃G'',Gw K G' H' G'' cV/\Rep K G'' x u
noncomputable def Ti(t:Tx)(f:IF):TI:=λσ H Q=>∃R ρ G F,Ok t.K R ρ σ G H F/\bY t H F (f ρ) λp=>∀J G' H' F',Ok t.K R p.2 σ G' H' F'->aH t.K G H F G' H' F'->Ai t.K G' J p.1->Q J H'
theorem PI.imp(h:PI X tg e t)(i:∀σ H Q,u σ H Q->t σ H Q):PI X tg e u:=λpins s σ H Q I q=>h pins s σ H Q I (i σ H Q q)
noncomputable def Hg:Expr->Bool
 |.Set .. => false
 |_=>true
theorem jY(h:Hg e=true)(x:Value):foldedSetIterable e env x=pure x:=by
 cases e <;> first|rfl|cases h
noncomputable abbrev VI(f:IF):=Vn (τ := Expr × Expr) λcl E X e=>PI X e.1 e.2 (Ti (tx cl E X) f)/\Hg e.2=true
noncomputable def jZ(g:GF)(b:SF):List Tr->SF
 | []=>λρ=>.ok (.nx,ρ)
 | u :: us=>λρ => (g u ρ).bind λρ1=>(b ρ1).bind λq=>(match q.1 with
  |.nx=>jZ g b us q.2
  |.ct=>jZ g b us q.2
  |.bk=>.ok (.nx,q.2)
  |.rt T fr=>.ok (.rt T fr,q.2))
noncomputable def Rx(fi:IF)(g:GF)(b:SF):SF:=λρ=>(fi ρ).bind λp=>jZ g b p.1 p.2
noncomputable def sF(i:VI mU)(g:VG gZ jC)(b:VB bN):VS (Rx mU gZ bN) where
 ck Γ e:=zA e λt y l aQ _=>bw aQ (Γ.nx&&i.ck Γ (t,y)&&g.ck Γ t&&b.ck Γ l)
 cs:=i.cs++(g.cs++b.cs)
 ok:=@λcl E Γ X e q o h=>by
  walk_at "o"
  simp only[an]at h
  obtain⟨⟨⟨h1,h2⟩,h3⟩,h4⟩:=h
  obtain⟨pi,ni⟩:=i.ok (ml q) o h2
  obtain⟨pg,ng,_⟩:=g.ok (ml (mr q)) o h3
  refine(abr (Rr o h1) o.l pi pg (b.ok (mr (mr q)) o h4) (jY ni)).imp λD σ H=>cR λR ρ G F e h=>⟨R,ρ,G,F,e,h.run (aH.refl (G:=G)) λp h J G1 H1 F1 e1 s1 it=>?_⟩
  obtain⟨us,ρ1⟩:=p
  refine⟨λi m σ' H'=>m=us.length-i/\i<=us.length/\∃ρ' G' F',Ok (aC X.K) R ρ' σ' G' H' F'/\aH (aC X.K) G H F G' H' F'/\Same G1 G'/\bY (tx cl E X) H F (jZ gZ bN (us.drop i) ρ') (oJ (tx cl E X) R G H F D),⟨us.length,by simp,Nat.zero_le _,ρ1,G1,F1,e1,s1,Same.refl _,h⟩,?_⟩
  rintro i m σ2 H2 ⟨rfl,hi,ρ2,G2,F2,e2,s2,m2,h2⟩
  have q:=it G2 H2 m2 e2.sub i
  by_cases hlt:i<us.length
  .rw[List.drop_eq_getElem_cons hlt]at h2
   obtain⟨go,y⟩:=q.2 us[i] (by simp[hlt])
   refine .inr ⟨go,_,λσ' H' z=>⟨us.length-(i+1),by omega,rfl,hlt,z⟩,λx H3 yl=>?_⟩
   obtain⟨G3,w3,r3⟩:=y x H3 yl
   obtain⟨e3,s3⟩:=e2.grow w3
   obtain⟨ρ4,k4,h⟩:=h2.okb (ng _ _)
   refine⟨R,ρ2,G3,F2,_,e3,r3,?_⟩
   rw[k4]
   intro σ4 F4 e4 f4 _
   have s4:=s3.trans (aH.sub f4)
   refine⟨R,ρ4,G3,F4,e4,h.run (s2.trans s4) λr h=>?_⟩
   obtain⟨fl,ρ5⟩:=r
   cases fl with
   |nx=>exact λσ5 G5 H5 F5 e5 s5=>⟨ρ5,G5,F5,e5,(s2.trans s4).trans s5,m2.trans (s4.gg.trans s5.gg),h⟩
   |ct=>exact λσ5 G5 H5 F5 e5 s5=>⟨ρ5,G5,F5,e5,(s2.trans s4).trans s5,m2.trans (s4.gg.trans s5.gg),h⟩
   |bk=>exact λσ5 G5 H5 F5 e5 s5=>h σ5 G5 H5 F5 e5 ((s2.trans s4).trans s5)
   |rt T fr=>exact λv G' H' r=>h v G' H' (r.back (s2.trans s4))
  .have z:i=us.length:=by omega
   subst z
   rw[List.drop_length]at h2
   exact .inl ⟨q.1 rfl,h2 σ2 G2 H2 F2 e2 s2⟩
noncomputable def Ite(K:PySem.W.Frag)(l:Addr):It where
 go:=λi H=>∃xs x,aK K H l xs/\xs[i]?=some x
 jP:=λi H v H'=>∃(T:Addr) (x:V),v=.ref T/\H T=none/\H'=upd H T (.tup [.int (i:Int),x])/\∀xs,aK K H l xs->xs[i]?=some x
 stop:=λi H=>∃xs,aK K H l xs/\i=xs.length
noncomputable def aeE(l e it:Addr)(i:Nat)(h:Heap):Prop:=(∃old,IsEnum h e it i old)/\h.IsListIter it l i
section
variable {P:Program}{w:World}{K:PySem.W.Frag}
theorem aeF(l e it:Addr)(hei:e≠it)(hle:l≠e)(hli:l≠it):Turn P w K (.Tuple elts k pos) (Ite K l) [e,it] e (aeE l e it) where
 mem:=by simp
 obj:=λi h st b hb=>by
  obtain⟨⟨old,he⟩,⟨o1,e1,_,d1⟩⟩:=st
  have hb':b=e\/b=it:=by simpa using hb
  rcases hb' with rfl|rfl
  .exact⟨_,he,λv q=>nomatch q⟩
  .exact⟨o1,e1,λv q=>by rw[d1]at q; cases q⟩
 keep:=λi h h' st kp=>by
  obtain⟨⟨old,he⟩,h1⟩:=st
  exact⟨⟨old,kp e (by simp) _ he⟩,h1.at λo q=>kp it (by simp) o q⟩
 item:=by
  intro X hP hw hK hc i pins s σ H E I hf st hg
  subst hP hw hK
  obtain⟨xs,x,q1,hx⟩:=hg
  obtain⟨gR,lY,p1,_⟩:=I.list q1
  obtain⟨u,hu,ru⟩:=lY.get hx
  have W:=WalksT.enumerate (prog:=X.prog) (w:=X.w) (A:=X.A) (I.ok.hd hc) e it l hei hle hli gR.toArray
  have lt1:i<gR.length:=(List.getElem?_eq_some_iff.mp hu).1
  refine W.item i s _ E (by simp; lia) ⟨st.1,st.2,p1.isList⟩ λT vals h' tk hp hT ht mid kk=>?_
  obtain⟨t0,u',e1,rfl⟩:=hp
  have eu:u'=u:=by
   have:gR[i]?=some u':=by simpa using e1
   rw[hu]at this; cases this; rfl
  subst eu
  refine⟨.ref T,rfl,?_⟩
  refine W.go elts k pos i T _ _ E mid λh'' st' uZ=>?_
  have nT:=W.apart i T _ mid
  have ob:∀b∈[e,it],b<s.heap.objs.size:=λb hb=>by
   obtain⟨⟨old,he⟩,⟨o1,e1,_,d1⟩⟩:=st
   have hb':b=e\/b=it:=by simpa using hb
   rcases hb' with rfl|rfl
   .exact Heap.lt_size he
   .exact Heap.lt_size e1
  have Er:T∉[e,it]:=λm=>absurd (ob T m) (Nat.not_lt.mpr hT)
  have Es:IsTup h'' T #[.int i t0,u']:=by
   obtain⟨o,e',r⟩:=ht
   exact⟨o,uZ T o nT e',r⟩
  have th:∀b∈[e,it],∃o,h''.get? b=some o:=λb hb=>by
   obtain⟨⟨old,he⟩,⟨o1,e1,_,d1⟩,_⟩:=st'
   have hb':b=e\/b=it:=by simpa using hb
   rcases hb' with rfl|rfl
   .exact⟨_,he⟩
   .exact⟨_,e1⟩
  have I':Inv X pins σ (upd H T (.tup [.int (i:Int),x])) {s with heap:=h'',toks:=tk }:=I.Eo (its:=[.int i t0,u']) hf (λb o n e=>uZ b o n (kk b o n e)) th hT Es (.cons ⟨_,rfl⟩ (.cons ru .nil)) (by show 2<=sizeLine; decide)
  refine⟨.ref T,_,I',rfl,⟨T,x,rfl,I.hok.fresh hT,rfl,λxs' a1=>?_⟩,⟨st'.1,st'.2.1⟩,λb hb=>?_⟩
  .rw[I.nA a1 q1]
   exact hx
  .have nb:b≠T:=by
    intro e0
    rw[e0]at hb
    exact Er hb
   rw[aL nb]
   exact(hf b hb).1
 done:=by
  intro X hP hw hK hc i pins s σ H E I hf st hg
  subst hP hw hK
  obtain⟨xs,q1,e1⟩:=hg
  obtain⟨gR,lY,p1,_⟩:=I.list q1
  have W:=WalksT.enumerate (prog:=X.prog) (w:=X.w) (A:=X.A) (I.ok.hd hc) e it l hei hle hli gR.toArray
  have ei:i=gR.toArray.size:=by simp[e1,lY.length]
  subst ei
  exact W.done s _ E ⟨st.1,st.2,p1.isList⟩ λh' tk kk=>⟨rfl,I.Ep hf λb o n e=>kk b o n e⟩
 self:=λA i s Q E st h=>by
  obtain⟨⟨old,he⟩,_⟩:=st
  exact wpAny_pyIter_enum he h
end
section
variable {X:Cx}
noncomputable def aeG(K:PySem.W.Frag)(ta:TA):TI:=λσ H R=>ta σ H λvs H1=>∃l,vs=[.ref l]/\(∃xs,aK K H1 l xs)/\R (Ite K l) H1
theorem aeH(hm:X.mg "enumerate" = none) (ha:PA X [a] ta) (hg:X.env.kindOf "enumerate" = some .globalImplicit:=by kernel_rfl) (hs:notStar a=true:=by kernel_rfl) :
  PI X (.Tuple elts k tpos) (.Call (.Name "enumerate" p) [a] [] pos) (aeG X.K ta):=by
 intro pins s σ H R I h
 refine Call_ (lK I hg hm (show bootBuiltins "enumerate" = some (.type "enumerate") by decide +kernel) (PyProof.Rows.callWith_type1 (aF (ha pos pins s σ H _ I h) λus s1 ⟨vs,H1,I1,r1,q1⟩=>?_) (iD hs) rfl) (by decide +kernel) (by kernel_rfl))
 obtain⟨l,e,⟨xs,h1⟩,q⟩:=q1
 subst e
 cases r1 with
 |cons r rr =>
  cases rr
  cases r
  obtain⟨gR,lY,p1,_⟩:=I1.list h1
  obtain⟨o1,e1,_⟩:=p1.isList
  have lt:=Heap.lt_size e1
  refine call_enumerate_list p1.isList λh' he hit hsz hk=>?_
  refine wpAny_pyIter_enum he ?_
  refine⟨_,[_,_],_,_,H1,rfl,I1.kept (t':=s1.toks) hk,aeF l _ _ (Nat.succ_ne_self _) (Nat.ne_of_lt (Nat.lt_succ_of_lt lt)) (Nat.ne_of_lt lt),⟨⟨_,he⟩,hit⟩,λc hc=>?_,q⟩
  have hc':c=s1.heap.objs.size+1\/c=s1.heap.objs.size:=by simpa using hc
  have hge:s1.heap.objs.size<=c:=by rcases hc' with rfl|rfl <;> lia
  exact I1.jQ hge (I1.hok.fresh hge)
end
noncomputable abbrev dI(h:Heap)(T:Addr)(a b c:Value):Prop:=h.get? T=some {cls:=.type "tuple",data:=.seq #[a,b,c] }
structure Aj(y I O j1 j2 j3 m1 m2 m3:Addr):Prop where
 nd : [y,I,O,j1,j2,j3].Nodup
 l1:m1∉[y,O,j1,j2,j3]
 l2:m2∉[y,O,j1,j2,j3]
 l3:m3∉[y,O,j1,j2,j3]
section
variable {prog:Program}{w:World}{s:Shared}{A:Around}{E:Value->Shared->Prop}
theorem Hh(t:dI s.heap T a b c)
  (q:∀g,g.get? T=some {cls:=.type "tuple",data:=.seq ((#[a,b,c]:Array Value).setIfInBounds k x) }->Heap.SameBut T s.heap g->Q () {s with heap:=g }):wpAny (model prog w) A (updateSeq T (·.setIfInBounds k x)) Q E s:=by
 refine wpAny_updateSeq t rfl (q _ ?_ (.update ..))
 rw[Heap.get?_update_self _ t rfl]
 simp[Obj.mapSeq]
noncomputable def Ry(y O j1 j2 j3:Addr)(h g:Heap):Prop:=∀c o,c∉[y,O,j1,j2,j3]->h.get? c=some o->g.get? c=some o
theorem aeI{n:Nat}{as bs cs:Array Value}{Q:Value->Shared->Prop}(D:Aj y I O j1 j2 j3 m1 m2 m3)
  (hy:IsZip s.heap y I O .none) (hI:dI s.heap I (.ref j1) (.ref j2) (.ref j3)) (hO:dI s.heap O p q r) (k1:s.heap.IsListIter j1 m1 n) (k2:s.heap.IsListIter j2 m2 n) (k3:s.heap.IsListIter j3 m3 n)
  (e1:s.heap.IsList m1 as) (e2:s.heap.IsList m2 bs) (e3:s.heap.IsList m3 cs) (ga:as[n]?=some a) (gb:bs[n]?=some b) (gc:cs[n]?=some c)
  (fin:∀g,IsZip g y I O (rawInt s.heap.objs.size)->dI g O a b c->g.IsListIter j1 m1 (n+1)->g.IsListIter j2 m2 (n+1)->g.IsListIter j3 m3 (n+1)->dI g s.heap.objs.size a b c->Ry y O j1 j2 j3 s.heap g->Q (.ref s.heap.objs.size) {s with heap:=g }) :
  wpAny (model prog w) A (Builtin.«zip.__next__» ⟨[.ref y],[]⟩) (λf u=>∃v,f=.done (.ret v)/\Q v u) E s:=by
 have nd:=D.nd
 have d1:=D.l1
 have d2:=D.l2
 have d3:=D.l3
 simp only[List.nodup_cons,List.mem_cons,List.not_mem_nil,or_false,not_or,List.nodup_nil,and_true,not_false_eq_true]at nd d1 d2 d3
 obtain⟨⟨zI,zO,z1,z2,z3⟩,⟨IO,I1,I2,I3⟩,⟨O1,O2,O3⟩,⟨n12,n13⟩,n23⟩:=nd
 obtain⟨x1z,x1O,x11,x12,x13⟩:=d1
 obtain⟨x2z,x2O,x21,x22,x23⟩:=d2
 obtain⟨x3z,Rz,x31,x32,x33⟩:=d3
 show wpAny _ _ (field (.ref y) 2 >>= _) _ _ _
 refine wpAny_bind (wpAny_field hy rfl (x:=.bool false) rfl ?_)
 show wpAny _ _ (field (.ref y) 3 >>= _) _ _ _
 refine wpAny_bind (wpAny_field hy rfl (x:=.ref I) rfl ?_)
 refine wpAny_bind (wpAny_seqItems hI rfl ?_)
 show wpAny _ _ (Builtin.SmallTypes.ownedTupleIsFree (.ref y) >>= _) _ _ _
 refine wpAny_bind ?_; unfold Builtin.SmallTypes.ownedTupleIsFree
 refine wpAny_bind (wpAny_field hy rfl (x:=.none) rfl (wpAny_pure ?_))
 simp only[if_true]
 refine wpAny_bind <| wpAny_rule ?_
 refine wpAny_bind (wpAny_field hy rfl (x:=.ref O) rfl ?_)
 refine wpAny_bind (wpAny_setField_rec hy (by simp) λha za sa=>?_)
 replace za:IsZip ha y I O .ellipsis:=za
 refine wpAny_bind ?_
 simp only[List.forIn_cons,List.forIn_nil,List.zipIdx_nil,List.zipIdx_cons]
 refine wpAny_bind <| wpAny_bind <| wpAny_onRaise ?_
 show wpAny _ _ (Builtin.SmallTypes.nextOf (.ref j1) >>= _) _ _ _
 refine wpAny_bind (wpAny_nextOf_list_item (k1.extBut sa.extBut (Ne.symm z1)) (e1.extBut sa.extBut x1z) ga λhb kb sb=>wpAny_pure ?_)
 have Ob:dI hb O p q r:=sb.extBut _ _ O1 (sa.extBut _ _ (Ne.symm zO) hO)
 refine wpAny_bind (wpAny_seqItems Ob rfl ?_)
 refine wpAny_bind (Hh Ob λhc Oc sc=>?_)
 replace Oc:dI hc O a q r:=Oc
 refine wpAny_bind <| wpAny_letGo <| wpAny_pure ?_
 refine wpAny_bind <| wpAny_bind <| wpAny_onRaise ?_
 show wpAny _ _ (Builtin.SmallTypes.nextOf (.ref j2) >>= _) _ _ _
 refine wpAny_bind (wpAny_nextOf_list_item (((k2.extBut sa.extBut (Ne.symm z2)).extBut sb.extBut (Ne.symm n12)).extBut sc.extBut (Ne.symm O2)) (((e2.extBut sa.extBut x2z).extBut sb.extBut x21).extBut sc.extBut x2O) gb λhd kd sd=>wpAny_pure ?_)
 have Od:dI hd O a q r:=sd.extBut _ _ O2 Oc
 refine wpAny_bind (wpAny_seqItems Od rfl ?_)
 refine wpAny_bind (Hh Od λhe Oe se=>?_)
 replace Oe:dI he O a b r:=Oe
 refine wpAny_bind <| wpAny_letGo <| wpAny_pure ?_
 refine wpAny_bind <| wpAny_bind <| wpAny_onRaise ?_
 show wpAny _ _ (Builtin.SmallTypes.nextOf (.ref j3) >>= _) _ _ _
 refine wpAny_bind (wpAny_nextOf_list_item (((((k3.extBut sa.extBut (Ne.symm z3)).extBut sb.extBut (Ne.symm n13)).extBut sc.extBut (Ne.symm O3)).extBut sd.extBut (Ne.symm n23)).extBut se.extBut (Ne.symm O3)) (((((e3.extBut sa.extBut x3z).extBut sb.extBut x31).extBut sc.extBut Rz).extBut sd.extBut x32).extBut se.extBut Rz) gc λhf kf sf=>wpAny_pure ?_)
 have Of:dI hf O a b r:=sf.extBut _ _ O3 Oe
 refine wpAny_bind (wpAny_seqItems Of rfl ?_)
 refine wpAny_bind (Hh Of λhg Og sg=>?_)
 replace Og:dI hg O a b c:=Og
 refine wpAny_bind <| wpAny_letGo <| wpAny_pure <| wpAny_pure ?_
 refine wpAny_bind (wpAny_seqItems Og rfl ?_)
 refine wpAny_bind <| wpAny_newTuple ?_
 have size:hg.objs.size=s.heap.objs.size:=by rw[sg.1,sf.1,se.1,sd.1,sc.1,sb.1,sa.1]
 have up:∀x o,x∉[y,O,j1,j2,j3]->s.heap.get? x=some o->hg.get? x=some o:=λx o h t=>by
  simp only[List.mem_cons,List.not_mem_nil,or_false,not_or]at h
  obtain⟨u1,u2,u3,u4,u5⟩:=h
  exact sg.extBut _ _ u2 (sf.extBut _ _ u5 (se.extBut _ _ u2 (sd.extBut _ _ u4 (sc.extBut _ _ u2 (sb.extBut _ _ u3 (sa.extBut _ _ u1 t))))))
 have zg:IsZip hg y I O .ellipsis:=sg.extBut _ _ zO (sf.extBut _ _ z3 (se.extBut _ _ zO (sd.extBut _ _ z2 (sc.extBut _ _ zO (sb.extBut _ _ z1 za)))))
 have Hi:hg.IsListIter j1 m1 (n+1):=((((kb.extBut sc.extBut (Ne.symm O1)).extBut sd.extBut n12).extBut se.extBut (Ne.symm O1)).extBut sf.extBut n13).extBut sg.extBut (Ne.symm O1)
 have Hj:hg.IsListIter j2 m2 (n+1):=((kd.extBut se.extBut (Ne.symm O2)).extBut sf.extBut n23).extBut sg.extBut (Ne.symm O2)
 have Hl:hg.IsListIter j3 m3 (n+1):=kf.extBut sg.extBut (Ne.symm O3)
 have zl:y<hg.objs.size:=Heap.lt_size zg
 show wpAny _ _ (Builtin.SmallTypes.ownedTupleHandOut (.ref y) (.ref hg.objs.size) >>= _) _ _ _
 refine wpAny_bind ?_; unfold Builtin.SmallTypes.ownedTupleHandOut
 have zp:IsZip (hg.push {cls:=.type "tuple",data:=.seq #[a,b,c] }) y I O .ellipsis:=Heap.get?_push_of_some _ zg
 refine wpAny_bind (wpAny_setField_rec zp (by simp) λhu zu su=>?_)
 replace zu:IsZip hu y I O (rawInt hg.objs.size):=zu
 refine wpAny_setField_rec zu (by simp) λhv zv sv=>?_
 replace zv:IsZip hv y I O (rawInt hg.objs.size):=zv
 have top:∀x o,x≠y->hg.get? x=some o->hv.get? x=some o:=λx o v t=>sv.extBut _ _ v (su.extBut _ _ v (Heap.get?_push_of_some _ t))
 have Tv:dI hv hg.objs.size a b c:=sv.extBut _ _ (Nat.ne_of_gt zl) (su.extBut _ _ (Nat.ne_of_gt zl) (Heap.get?_push_size _ rfl))
 rw[size]at zv Tv
 apply wpAny_pure; refine⟨_,rfl,?_⟩
 show Q (.ref hg.objs.size) _
 rw[size]
 exact fin hv zv (top _ _ (Ne.symm zO) Og) (Hi.at λo t=>top _ o (Ne.symm z1) t) (Hj.at λo t=>top _ o (Ne.symm z2) t) (Hl.at λo t=>top _ o (Ne.symm z3) t) Tv λx o h t=>top x o (λv=>h (by simp[v])) (up x o h t)
end
section
variable {prog:Program}{w:World}{s:Shared}{A:Around}{E:Value->Shared->Prop}
theorem aeJ(hh:A.handled=none)(y1:j1≠y)(Ho:m1≠y)(hy:IsZip s.heap y I O .none)(hI:dI s.heap I (.ref j1) (.ref j2) (.ref j3))(k1:s.heap.IsListIter j1 m1 n)(e1:s.heap.IsList m1 as)(ga:as[n]?=none)
  (fin:∀g x,(∀c o,c≠y->c≠j1->s.heap.get? c=some o->g.get? c=some o)->(∃o,g.get? x=some o/\o.cls=.type "StopIteration")->E (.ref x) {s with heap:=g }):wpAny (model prog w) A (Builtin.«zip.__next__» ⟨[.ref y],[]⟩) Q E s:=by
 show wpAny _ _ (field (.ref y) 2 >>= _) _ _ _
 refine wpAny_bind (wpAny_field hy rfl (x:=.bool false) rfl ?_)
 show wpAny _ _ (field (.ref y) 3 >>= _) _ _ _
 refine wpAny_bind (wpAny_field hy rfl (x:=.ref I) rfl ?_)
 refine wpAny_bind (wpAny_seqItems hI rfl ?_)
 show wpAny _ _ (Builtin.SmallTypes.ownedTupleIsFree (.ref y) >>= _) _ _ _
 refine wpAny_bind ?_; unfold Builtin.SmallTypes.ownedTupleIsFree
 refine wpAny_bind (wpAny_field hy rfl (x:=.none) rfl (wpAny_pure ?_))
 simp only[if_true]
 refine wpAny_bind <| wpAny_rule ?_
 refine wpAny_bind (wpAny_field hy rfl (x:=.ref O) rfl ?_)
 refine wpAny_bind (wpAny_setField_rec hy (by simp) λha za sa=>?_)
 replace za:IsZip ha y I O .ellipsis:=za
 refine wpAny_bind ?_
 simp only[List.forIn_cons,List.forIn_nil,List.zipIdx_nil,List.zipIdx_cons]
 refine wpAny_bind <| wpAny_bind <| wpAny_onRaise ?_
 show wpAny _ _ (Builtin.SmallTypes.nextOf (.ref j1) >>= _) _ _ _
 refine wpAny_bind (wpAny_nextOf_list_end hh (k1.extBut sa.extBut y1) (e1.extBut sa.extBut Ho) ga λhb x sb hx=>?_)
 obtain⟨o,ho,hc⟩:=hx
 have zb:IsZip hb y I O .ellipsis:=sb _ _ (Ne.symm y1) za
 have xy:x≠y:=λv=>by subst v; rw[zb]at ho; cases ho; simp at hc
 exact wpAny_setField_rec zb (by simp) λhd _ sd=>fin hd x (λc o c1 c2 t=>sd.extBut _ _ c1 (sb _ _ c2 (sa.extBut _ _ c1 t))) ⟨o,sd.extBut _ _ xy ho,hc⟩
theorem aeK(D:Aj y I O j1 j2 j3 m1 m2 m3)
  (hy:IsZip s.heap y I O .none) (hI:dI s.heap I (.ref j1) (.ref j2) (.ref j3)) (hO:dI s.heap O p q r) (k1:s.heap.IsListIter j1 m1 n) (k2:s.heap.IsListIter j2 m2 n) (k3:s.heap.IsListIter j3 m3 n)
  (e1:s.heap.IsList m1 as) (e2:s.heap.IsList m2 bs) (e3:s.heap.IsList m3 cs) (ga:as[n]?=some a) (gb:bs[n]?=some b) (gc:cs[n]?=some c)
  (fin:∀g,IsZip g y I O (rawInt s.heap.objs.size)->dI g O a b c->g.IsListIter j1 m1 (n+1)->g.IsListIter j2 m2 (n+1)->g.IsListIter j3 m3 (n+1)->dI g s.heap.objs.size a b c->Ry y O j1 j2 j3 s.heap g->Q (some (.ref s.heap.objs.size)) {s with heap:=g }) :
  wpAny (model prog w) A (pyNext (.ref y)) Q E s:=by
 have ty:s.TypeIs (.ref y) "zip" := ⟨_,hy,rfl⟩
 unfold pyNext
 exact wpAny_bind (wpAny_attempt (wpAny_callSpecial?_slot (name:=Str.ofString "__next__") ty F.slot_zip_next (wpAny_call_entry F.slot_zip_next ty F.entry_zip_next (aeI D hy hI hO k1 k2 k3 e1 e2 e3 ga gb gc λg q1 q2 q3 q4 q5 q6 q7=>wpAny_pure (fin g q1 q2 q3 q4 q5 q6 q7)) (F.args_zip_next_1 _))))
theorem aeL(hh:A.handled=none)(y1:j1≠y)(Ho:m1≠y)(hy:IsZip s.heap y I O .none)(hI:dI s.heap I (.ref j1) (.ref j2) (.ref j3))(k1:s.heap.IsListIter j1 m1 n)(e1:s.heap.IsList m1 as)(ga:as[n]?=none)
  (fin:∀g,(∀c o,c≠y->c≠j1->s.heap.get? c=some o->g.get? c=some o)->Q none {s with heap:=g }):wpAny (model prog w) A (pyNext (.ref y)) Q E s:=by
 have ty:s.TypeIs (.ref y) "zip" := ⟨_,hy,rfl⟩
 unfold pyNext
 refine wpAny_bind (wpAny_attempt (wpAny_callSpecial?_slot (name:=Str.ofString "__next__") ty F.slot_zip_next (wpAny_call_entry F.slot_zip_next ty F.entry_zip_next (aeJ hh y1 Ho hy hI k1 e1 ga λg x k hx=>?_) (F.args_zip_next_1 _))))
 obtain⟨o,ho,hc⟩:=hx
 exact wpAny_bind (wpAny_isInstance (T := "StopIteration") (b:=true) ⟨o,ho,hc⟩ isSubtype_stop (wpAny_pure (fin _ k)))
end
theorem tc3(a b c:Value):checkTypeCall "zip" ⟨[a,b,c],[]⟩=pure ():=by kernel_rfl
theorem nc3(a b c:Value):checkBuiltinCall "zip.__new__" ⟨[.type "zip",a,b,c],[]⟩=pure ():=by kernel_rfl
noncomputable abbrev vZ(h:Heap)(m1:Addr):Heap:=h.push {cls:=.type "list_iterator",data:=.fields #[.ref m1,.int 0 0] }
noncomputable abbrev v5(h:Heap)(m1 m2:Addr):Heap:=(vZ h m1).push {cls:=.type "list_iterator",data:=.fields #[.ref m2,.int 0 0] }
noncomputable abbrev Al(h:Heap)(m1 m2 m3:Addr):Heap:=(v5 h m1 m2).push {cls:=.type "list_iterator",data:=.fields #[.ref m3,.int 0 0] }
noncomputable abbrev Am(h:Heap)(m1 m2 m3:Addr):Heap:=(Al h m1 m2 m3).push {cls:=.type "tuple",data:=.seq #[.ref h.objs.size,.ref (vZ h m1).objs.size,.ref (v5 h m1 m2).objs.size] }
noncomputable abbrev Ao(h:Heap)(m1 m2 m3:Addr):Heap:=(Am h m1 m2 m3).push {cls:=.type "tuple",data:=.seq #[.none,.none,.none] }
noncomputable abbrev qy(h:Heap)(m1 m2 m3:Addr):Heap:=(Ao h m1 m2 m3).push {cls:=.type "zip",data:=.fields #[.none,.bool false,.bool false,.ref (Al h m1 m2 m3).objs.size,.ref (Am h m1 m2 m3).objs.size] }
theorem aeM(m1 m2 m3:Addr)(as bs cs:Array Value):Meets (Builtin.«zip.__new__» ⟨[.type "zip",.ref m1,.ref m2,.ref m3],[]⟩) (λ_ R s=>s.heap.IsList m1 as/\s.heap.IsList m2 bs/\s.heap.IsList m3 cs/\R (.ok (.ret (.ref (Ao s.heap m1 m2 m3).objs.size))) {s with heap:=qy s.heap m1 m2 m3 }) :=
 .of_wp λprog w A R s h=>by
  obtain⟨hp,g,d,tk,os⟩:=s; obtain⟨e1,e2,e3,h⟩:=h
  have sub:=sub_zip
  have f1:Heap.IsList (Shared.heap ⟨hp,g,d,tk,os⟩) m1 as:=e1
  have f2:Heap.IsList (Shared.heap ⟨vZ hp m1,g,d,tk,os⟩) m2 bs:=Heap.IsList.push e2 _
  have f3:Heap.IsList (Shared.heap ⟨v5 hp m1 m2,g,d,tk,os⟩) m3 cs:=Heap.IsList.push (Heap.IsList.push e3 _) _
  wp_walk using wpAny_pyIter_list f1,wpAny_pyIter_list f2,wpAny_pyIter_list f3
  exact⟨_,rfl,h⟩
theorem oi4(a b c d:Value):argsOk "object.__init__" ⟨[a,b,c,d],[]⟩:=by
 unfold argsOk
 rw[signature?_of (id := "object.__init__") (o:=['t','c','e','j','b','o']) (n:=['_','_','t','i','n','i','_','_']) (by kernel_rfl) F.owner_object]
 kernel_rfl
section
variable {prog:Program}{w:World}{s:Shared}{A:Around}{E:Value->Shared->Prop}
theorem aeN(e1:s.heap.IsList m1 as)(e2:s.heap.IsList m2 bs)(e3:s.heap.IsList m3 cs)
  (fin:∀g,IsZip g (s.heap.objs.size+5) (s.heap.objs.size+3) (s.heap.objs.size+4) .none->dI g (s.heap.objs.size+3) (.ref s.heap.objs.size) (.ref (s.heap.objs.size+1)) (.ref (s.heap.objs.size+2)) ->
   dI g (s.heap.objs.size+4) .none .none .none->g.IsListIter s.heap.objs.size m1 0->g.IsListIter (s.heap.objs.size+1) m2 0->g.IsListIter (s.heap.objs.size+2) m3 0->(∀c o,s.heap.get? c=some o->g.get? c=some o)->Q (.ref (s.heap.objs.size+5)) {s with heap:=g }) :
  wpAny (model prog w) A (call (.type "zip") [.ref m1,.ref m2,.ref m3]) Q E s:=by
 refine callType_new F.called_zip (by decide) (tc3 _ _ _) (nc3 _ _ _) (λobj=>oi4 obj _ _ _) F.entry_zip_new (aeM m1 m2 m3 as bs cs) ⟨e1,e2,e3,?_⟩
 have y1:(vZ s.heap m1).objs.size=s.heap.objs.size+1:=Heap.size_push ..
 have y2:(v5 s.heap m1 m2).objs.size=s.heap.objs.size+2:=by rw[Heap.size_push,y1]
 have y3:(Al s.heap m1 m2 m3).objs.size=s.heap.objs.size+3:=by rw[Heap.size_push,y2]
 have y4:(Am s.heap m1 m2 m3).objs.size=s.heap.objs.size+4:=by rw[Heap.size_push,y3]
 have y5:(Ao s.heap m1 m2 m3).objs.size=s.heap.objs.size+5:=by rw[Heap.size_push,y4]
 have up:∀{h:Heap} {o:Obj} {c:Addr} {u:Obj},h.get? c=some u->(h.push o).get? c=some u:=λq=>Heap.get?_push_of_some _ q
 have p6:(qy s.heap m1 m2 m3).get? (Ao s.heap m1 m2 m3).objs.size=some _:=Heap.get?_push_size _ rfl
 have p5:(qy s.heap m1 m2 m3).get? (Am s.heap m1 m2 m3).objs.size=some _:=up (Heap.get?_push_size _ rfl)
 have p4:(qy s.heap m1 m2 m3).get? (Al s.heap m1 m2 m3).objs.size=some _:=up (up (Heap.get?_push_size _ rfl))
 have p3:(qy s.heap m1 m2 m3).get? (v5 s.heap m1 m2).objs.size=some _:=up (up (up (Heap.get?_push_size _ rfl)))
 have p2:(qy s.heap m1 m2 m3).get? (vZ s.heap m1).objs.size=some _:=up (up (up (up (Heap.get?_push_size _ rfl))))
 have p1:(qy s.heap m1 m2 m3).get? s.heap.objs.size=some _:=up (up (up (up (up (Heap.get?_push_size _ rfl)))))
 show _/\_
 rw[y3,y4,y5]at p6
 rw[y1,y2,y3]at p4
 rw[y4]at p5
 rw[y2]at p3
 rw[y1]at p2
 rw[y5]
 exact⟨⟨_,p6,rfl⟩,fin _ p6 p4 p5 ⟨_,p1,rfl,rfl⟩ ⟨_,p2,rfl,rfl⟩ ⟨_,p3,rfl,rfl⟩ λc o q=>up (up (up (up (up (up q)))))⟩
end
noncomputable def RB(K:PySem.W.Frag)(m1 m2 m3:Addr):It where
 go:=λi H=>∃xs ys ws x y u,aK K H m1 xs/\aK K H m2 ys/\aK K H m3 ws/\xs[i]?=some x/\ys[i]?=some y/\ws[i]?=some u
 jP:=λi H v H'=>∃T x y u,v=.ref T/\H T=none/\H'=upd H T (.tup [x,y,u])/\∀xs ys ws,aK K H m1 xs->aK K H m2 ys->aK K H m3 ws->xs[i]?=some x/\ys[i]?=some y/\ws[i]?=some u
 stop:=λi H=>∃xs,aK K H m1 xs/\xs.length<=i
noncomputable def Aq(m1 m2 m3 y I O j1 j2 j3:Addr)(i:Nat)(h:Heap):Prop:=IsZip h y I O .none/\dI h I (.ref j1) (.ref j2) (.ref j3)/\(∃a b c,dI h O a b c)/\h.IsListIter j1 m1 i/\h.IsListIter j2 m2 i/\h.IsListIter j3 m3 i
section
variable {P:Program}{w:World}{K:PySem.W.Frag}
theorem Aq.at(st:Aq m1 m2 m3 y I O j1 j2 j3 i h):∀b∈[y,I,O,j1,j2,j3],∃o,h.get? b=some o/\∀v,o.data ≠ .cell v:=λb hb=>by
 obtain⟨hy,hI,⟨a,b',c,hO⟩,⟨o1,e1,_,d1⟩,⟨o2,e2,_,d2⟩,⟨o3,e3,_,d3⟩⟩:=st
 simp only[List.mem_cons,List.not_mem_nil,or_false]at hb
 rcases hb with rfl|rfl|rfl|rfl|rfl|rfl
 .exact⟨_,hy,λv q=>nomatch q⟩
 .exact⟨_,hI,λv q=>nomatch q⟩
 .exact⟨_,hO,λv q=>nomatch q⟩
 .exact⟨o1,e1,λv q=>by rw[d1]at q; cases q⟩
 .exact⟨o2,e2,λv q=>by rw[d2]at q; cases q⟩
 .exact⟨o3,e3,λv q=>by rw[d3]at q; cases q⟩
theorem aeO(m1 m2 m3 y I O j1 j2 j3:Addr)(D:Aj y I O j1 j2 j3 m1 m2 m3):Turn P w K (.Tuple elts k pos) (RB K m1 m2 m3) [y,I,O,j1,j2,j3] y (Aq m1 m2 m3 y I O j1 j2 j3) where
 mem:=by simp
 obj:=λi h st b hb=>st.at b hb
 keep:=λi h h' st kp=>by
  obtain⟨hy,hI,⟨a,b,c,hO⟩,k1,k2,k3⟩:=st
  exact⟨kp y (by simp) _ hy,kp I (by simp) _ hI,⟨a,b,c,kp O (by simp) _ hO⟩,k1.at λo e=>kp j1 (by simp) o e,k2.at λo e=>kp j2 (by simp) o e,k3.at λo e=>kp j3 (by simp) o e⟩
 item:=by
  intro X hP hw' hK hc i pins s σ H E Iv hf st hg
  subst hP hw' hK
  obtain⟨xs,ys,ws,x,v,u,q1,q2,q3,hx,hv,hu⟩:=hg
  obtain⟨t1,r1,p1,_⟩:=Iv.list q1
  obtain⟨t2,r2,p2,_⟩:=Iv.list q2
  obtain⟨t3,r3,p3,_⟩:=Iv.list q3
  obtain⟨x',gx,rx⟩:=r1.get hx
  obtain⟨v',gv,rv⟩:=r2.get hv
  obtain⟨u',gu,ru⟩:=r3.get hu
  obtain⟨hy,hI,⟨a,b,c,hO⟩,k1,k2,k3⟩:=id st
  refine aeK D hy hI hO k1 k2 k3 p1.isList p2.isList p3.isList (by simpa using gx) (by simpa using gv) (by simpa using gu) λg zg Og Hi Hj Hl Tg ch=>?_
  refine⟨.ref s.heap.objs.size,rfl,?_⟩
  refine wpAny_letOwnedTupleGo_zip zg λg' zg' qz=>?_
  have lt:∀b∈[y,I,O,j1,j2,j3],b<s.heap.objs.size:=λb hb=>by
   obtain⟨o,e,_⟩:=st.at b hb
   exact Heap.lt_size e
  have nT:s.heap.objs.size∉[y,I,O,j1,j2,j3]:=λm=>absurd (lt _ m) (Nat.lt_irrefl _)
  have nTy:s.heap.objs.size≠y:=λz=>nT (by simp[z])
  have nd:=D.nd
  simp only[List.nodup_cons,List.mem_cons,List.not_mem_nil,or_false,not_or,List.nodup_nil,and_true,not_false_eq_true]at nd
  obtain⟨⟨yI,yO,y1,y2,y3⟩,⟨IO,I1,I2,I3⟩,_⟩:=nd
  have hI':dI g' I (.ref j1) (.ref j2) (.ref j3):=qz.extBut _ _ (Ne.symm yI) (ch I _ (by simp only[List.mem_cons,List.not_mem_nil,or_false,not_or]; exact⟨Ne.symm yI,IO,I1,I2,I3⟩) hI)
  have st':Aq m1 m2 m3 y I O j1 j2 j3 (i+1) g':=⟨zg',hI',⟨_,_,_,qz.extBut _ _ (Ne.symm yO) Og⟩,Hi.extBut qz.extBut (Ne.symm y1),Hj.extBut qz.extBut (Ne.symm y2),Hl.extBut qz.extBut (Ne.symm y3)⟩
  have kk:∀b o,b∉[y,I,O,j1,j2,j3]->s.heap.get? b=some o->g'.get? b=some o:=λb o n e=>by
   simp only[List.mem_cons,List.not_mem_nil,or_false,not_or]at n
   exact qz.extBut _ _ n.1 (ch b o (by simp only[List.mem_cons,List.not_mem_nil,or_false,not_or]; exact⟨n.1,n.2.2⟩) e)
  have ht:IsTup g' s.heap.objs.size #[x',v',u']:=⟨_,qz.extBut _ _ nTy Tg,rfl,_,rfl⟩
  have I':=Iv.Eo (tk:=s.toks) (xs:=[x,v,u]) (its:=[x',v',u']) hf kk (λb hb=>(st'.at b hb).imp λo q=>q.1) (Nat.le_refl _) ht (.cons rx (.cons rv (.cons ru .nil))) (by show 3<=sizeLine; decide)
  refine⟨.ref s.heap.objs.size,_,I',rfl,⟨s.heap.objs.size,x,v,u,rfl,Iv.hok.fresh (Nat.le_refl _),rfl,λa1 a2 a3 z1 z2 z3=>?_⟩,st',λb hb=>?_⟩
  .rw[Iv.nA z1 q1,Iv.nA z2 q2,Iv.nA z3 q3]
   exact⟨hx,hv,hu⟩
  .have nb:b≠s.heap.objs.size:=λe0=>nT (e0▸hb)
   rw[aL nb]
   exact(hf b hb).1
 done:=by
  intro X hP hw' hK hc i pins s σ H E Iv hf st hg
  subst hP hw' hK
  obtain⟨xs,q1,e⟩:=hg
  obtain⟨t1,r1,p1,_⟩:=Iv.list q1
  obtain⟨hy,hI,_,k1,_,_⟩:=id st
  have nd:=D.nd
  have d1:=D.l1
  simp only[List.nodup_cons,List.mem_cons,List.not_mem_nil,or_false,not_or,List.nodup_nil,and_true,not_false_eq_true]at nd d1
  refine aeL (Iv.ok.hd hc) (Ne.symm nd.1.2.2.1) d1.1 hy hI k1 p1.isList (by simp; rw[<-r1.length]; exact e) λg ch=>⟨rfl,Iv.Ep (tk:=s.toks) hf λb o n t=>?_⟩
  simp only[List.mem_cons,List.not_mem_nil,or_false,not_or]at n
  exact ch b o n.1 n.2.2.2.1 t
 self:=λA i s Q E st h=>wpAny_pyIter_zip st.1 h
end
theorem n5(n m:Nat)(h:m<n):m∉[n+5,n+4,n,n+1,n+2]:=by
 simp only[List.mem_cons,List.not_mem_nil,or_false,not_or]
 lia
theorem n6(n d:Nat)(h:d∈[n+5,n+3,n+4,n,n+1,n+2]):n<=d:=by
 simp only[List.mem_cons,List.not_mem_nil,or_false]at h
 lia
theorem nd6(n:Nat) : [n+5,n+3,n+4,n,n+1,n+2].Nodup:=by simp
section
variable {X:Cx}
noncomputable def aeP(K:PySem.W.Frag)(ta:TA):TI:=λσ H R=>ta σ H λvs H1=>∃m1 m2 m3,vs=[.ref m1,.ref m2,.ref m3]/\(∃xs,aK K H1 m1 xs)/\(∃xs,aK K H1 m2 xs)/\(∃xs,aK K H1 m3 xs)/\R (RB K m1 m2 m3) H1
theorem aeQ(hm:X.mg "zip" = none) (ha:PA X [a,b,c] ta) (hg:Gl X "zip" := by rfl) (hs:starEach [a,b,c] X.env=[(false,eval a X.env),(false,eval b X.env),(false,eval c X.env)]:=by rfl) (hs2:starEach [b,c] X.env=[(false,eval b X.env),(false,eval c X.env)]:=by rfl) :
  PI X (.Tuple elts k tpos) (.Call (.Name "zip" p) [a,b,c] [] pos) (aeP X.K ta):=by
 intro pins s σ H R I h
 refine Call_ (lK I hg hm (show bootBuiltins "zip" = some (.type "zip") by decide +kernel) (PyProof.Rows.callWith_type1 (aF (ha pos pins s σ H _ I h) λus s1 ⟨vs,H1,I1,r1,q1⟩=>?_) (by rw[hs,hs2]) (by rw[hs2]; rfl)))
 obtain⟨m1,m2,m3,e,⟨xs,h1⟩,⟨ys,h2⟩,⟨ws,h3⟩,q⟩:=q1
 subst e
 cases r1 with
 |cons r rr =>
  cases rr with
  |cons r' rr =>
   cases rr with
   |cons r'' rr =>
    cases rr
    cases r
    cases r'
    cases r''
    obtain⟨t1,_,p1,_⟩:=I1.list h1
    obtain⟨t2,_,p2,_⟩:=I1.list h2
    obtain⟨t3,_,p3,_⟩:=I1.list h3
    obtain⟨o1,e1,_⟩:=p1.isList
    obtain⟨o2,e2,_⟩:=p2.isList
    obtain⟨o3,e3,_⟩:=p3.isList
    have l1:=Heap.lt_size e1
    have l2:=Heap.lt_size e2
    have l3:=Heap.lt_size e3
    refine aeN p1.isList p2.isList p3.isList λg zy zI zO k1 k2 k3 ch=>?_
    refine wpAny_pyIter_zip zy ?_
    have D:Aj (s1.heap.objs.size+5) (s1.heap.objs.size+3) (s1.heap.objs.size+4) s1.heap.objs.size (s1.heap.objs.size+1) (s1.heap.objs.size+2) m1 m2 m3:=⟨nd6 _,n5 _ _ l1,n5 _ _ l2,n5 _ _ l3⟩
    refine⟨_,[_,_,_,_,_,_],_,_,H1,rfl,I1.kept (t':=s1.toks) ch,aeO m1 m2 m3 _ _ _ _ _ _ D,⟨zy,zI,⟨_,_,_,zO⟩,k1,k2,k3⟩,λd hd=>?_,q⟩
    have ge:s1.heap.objs.size<=d:=n6 _ _ hd
    exact I1.jQ ge (I1.hok.fresh ge)
end
noncomputable def Ar(K:PySem.W.Frag)(tl:TE):TI:=λσ H R=>Nb K tl σ H R\/Nf K tl σ H R
theorem RD(hl:PE X l tl):PI X tg l (Ar X.K tl):=λpins s σ H R I h=>by
 rcases h with h|h
 .exact abk hl pins s σ H R I h
 .exact abl hl pins s σ H R I h
noncomputable def CQ:Rv->Rs (List Tr × Bool)
 |.v (.lst ts) _=>.ok (ts,true)
 |.v (.tup ts) _=>.ok (ts,false)
 |_=>.bad
noncomputable def sU(f:EF):IF:=λρ=>(f ρ).bind λp=>(CQ p.1).bind λz=>.ok (z.1,p.2)
theorem aeR{K:PySem.W.Frag}(q:aK (aC K) G a xs)(r:aA (aC K) G xs us):Ai (aC K) G (Dl K a) us:=λG' H' m s i=>by
 have q':=(s.seq (m.seq q)).toK
 refine⟨λz=>⟨xs,q',by rw[r.length]; lia⟩,λu hu=>?_⟩
 obtain⟨x,hx,rx⟩:=r.jA hu
 refine⟨⟨xs,x,q',hx⟩,λy cV ⟨e,z⟩=>?_⟩
 have:=z xs q'
 rw[hx]at this
 cases this
 subst e
 exact⟨G',.refl s,rx.mono m⟩
theorem aeS{K:PySem.W.Frag}(q:bH (aC K) G a xs)(r:aA (aC K) G xs us):Ai (aC K) G (Dm K a) us:=λG' H' m s i=>by
 have q':=(s.pQ (m.pQ q)).toK
 refine⟨λz=>⟨xs,q',by rw[r.length]; lia⟩,λu hu=>?_⟩
 obtain⟨x,hx,rx⟩:=r.jA hu
 refine⟨⟨xs,x,q',hx⟩,λy cV ⟨e,z⟩=>?_⟩
 have:=z xs q'
 rw[hx]at this
 cases this
 subst e
 exact⟨G',.refl s,rx.mono m⟩
theorem aeT{K:PySem.W.Frag}(h:Ti ⟨aC K,xe⟩ (sU f) σ H Q):Ar K (Te ⟨aC K,xe⟩ f) σ H Q:=by
 obtain⟨R,ρ,G,F,e,h⟩:=h
 unfold sU at h
 cases k:f ρ with
 |bad=>rw[k]at h; exact h.elim
 |ex c=>rw[k]at h; exact .inl ⟨R,ρ,G,F,e,by rw[k]; exact h⟩
 |ok p =>
  obtain⟨r,ρ1⟩:=p
  rw[k]at h
  match r,h,k with
  |.v (.lst ts) fr,h,k =>
   refine .inl ⟨R,ρ,G,F,e,?_⟩
   rw[k]
   intro v G1 H1 F1 e1 s1 v1
   obtain⟨G2,e2,s2,_,r⟩:=e1.rR e s1 v1 rfl
   cases r with
   |lst q r=>exact⟨_,rfl,⟨_,(e2.sub.seq q).toK⟩,h _ G2 H1 F1 e2 s2 (aeR q r)⟩
  |.v (.tup ts) fr,h,k =>
   refine .inr ⟨R,ρ,G,F,e,?_⟩
   rw[k]
   intro v G1 H1 F1 e1 s1 v1
   obtain⟨G2,e2,s2,_,r⟩:=e1.rR e s1 v1 rfl
   cases r with
   |tup q r=>exact⟨_,rfl,⟨_,(e2.sub.pQ q).toK⟩,h _ G2 H1 F1 e2 s2 (aeS q r)⟩
noncomputable def bK(a:VE aD):VI (sU aD) where
 ck Γ e:=Hg e.2&&a.ck Γ e.2
 cs:=a.cs
 ok q o h:=⟨(RD (a.ok q o (an.mp h).2)).imp λ_ _ _=>aeT,(an.mp h).1⟩
noncomputable def upTo(lo:Int):Nat->List Tr
 | 0=>[]
 |n+1=>.int lo::upTo (lo+1) n
theorem aeU(lo:Int):∀n,(upTo lo n).length=n:=λn=>by
 induction n generalizing lo with
 |zero=>rfl
 |succ n ih=>rw[upTo,List.length_cons,ih]
theorem aeV{lo:Int}{n i:Nat}(h:(upTo lo n)[i]?=some u):i<n/\u=.int (lo+i):=by
 induction n generalizing lo i with
 |zero=>simp[upTo]at h
 |succ n ih =>
  rw[upTo]at h
  cases i with
  |zero =>
   simp at h
   subst h
   exact⟨Nat.zero_lt_succ _,by simp⟩
  |succ i =>
   obtain⟨h1,h2⟩:=ih (lo:=lo+1) (i:=i) (by simpa using h)
   refine⟨Nat.succ_lt_succ h1,h2.trans ?_⟩
   congr 1
   lia
theorem aeW{K:PySem.W.Frag}(lo:Int)(n:Nat):Ai K G (xX lo n) (upTo lo n):=λG' H' m s i=>by
 refine⟨λz=>?_,λu hu=>?_⟩
 .rw[aeU]at z
  exact Nat.le_of_eq z.symm
 .obtain⟨h1,rfl⟩:=aeV hu
  refine⟨h1,λx cV yl=>?_⟩
  obtain⟨rfl,rfl⟩:=yl
  exact⟨G',.refl s,.int _⟩
noncomputable def okR(i:Int):Bool:=decide (-1000000<=i)&&decide (i<=1000000)
theorem aeX(h:okR i=true) : -1000000<=i/\i<=1000000:=by simpa[okR]using h
noncomputable def RG(fa:AF):IF:=λρ=>(fa ρ).bind λp=>(drs p.2 p.1).bind λas=>match as with
 | [.int j]=>if okR j=true then .ok (upTo 0 j.toNat,p.2)else .bad
 |_=>.bad
noncomputable def fL(a:VA aD):VI (RG aD) where
 ck Γ e:=ji e.2 λ_ aQ _ _=>aX aQ λ_ bF=>bw bF (Γ.B.contains ("range" : Str)&&oF Γ "range" a e.2)
 cs:=a.cs
 ok:=@λcl E Γ X e q o h=>by
  obtain⟨u,e⟩:=e
  dsimp only at h
  walk_at "O"
  obtain⟨h1,h⟩:=an.mp h
  obtain⟨p,b,es,p',e',h2,h3⟩:=rW h
  cases e'
  obtain⟨pa,la,na⟩:=a.ok q o h3
  refine⟨(abo (eN o h2).1 (o.B _ (by simpa using h1)) pa (iD (na _ (List.mem_cons_self ..)))).imp λσ H Q=>cR λR ρ G F e h=>jU e .refl h λp h vs G1 H1 F1 e1 s1 v1=>?_,rfl⟩
  obtain⟨as,k1,h⟩:=h.okb (z6 _ _)
  have r:=z7 e1 v1 k1
  split at h
  case h_2=>exact h.elim
  split at h
  case isFalse=>exact h.elim
  have c:=aeX ‹_›
  cases r with
  |cons h1 r1 =>
   cases r1
   rw[h1.int]
   exact⟨_,rfl,by lia,by lia,h _ G1 H1 F1 e1 s1 (aeW 0 _)⟩
theorem v7:∀{es:List Expr},(∀x∈es,notStar x=true)->∀env,starEach es env=es.map λe=>(false,eval e env)
 | [],_,_=>rfl
 |e::es,h,env=>by
  rw[iD (h e (List.mem_cons_self ..)),v7 (λy m=>h y (List.mem_cons_of_mem _ m)) env]; rfl
theorem yT{K:PySem.W.Frag}(s:Same G H)(h:H p=none)(r:aA K G xs ts):∃G',Gw K G H G' (upd H p (.tup xs))/\Rep K G' (.ref p) (.tup ts):=⟨_,.new s h,VN.newT s h r⟩
noncomputable def iW(us vs:List Tr):List Tr:=(us.zip vs).map λp=>.tup [p.1,p.2]
noncomputable def RJ(fa:AF):IF:=λρ=>(fa ρ).bind λp=>match p.1 with
 | [.v (.lst us) _,.v (.lst vs) _]=>.ok (iW us vs,p.2)
 |_=>.bad
theorem sV{K:PySem.W.Frag}(r:aA K G vs (.lst us::ts)):∃a xs vs',vs=.ref a::vs'/\aK K G a xs/\aA K G xs us/\aA K G vs' ts:=by
 cases r with
 |cons h r=>cases h with
  |lst q p=>exact⟨_,_,_,rfl,q,p,r⟩
noncomputable def iZ(a:VA aD):VI (RJ aD) where
 ck Γ e:=jh e.1 λ_ _ _=>ji e.2 λ_ aQ _ _=>aX aQ λ_ bF=>aX bF λ_ bO=>bw bO (Γ.B.contains ("zip" : Str)&&oF Γ "zip" a e.2)
 cs:=a.cs
 ok:=@λcl E Γ X e q o h=>by
  obtain⟨u,e⟩:=e
  walk_at "O"
  obtain⟨h1,h⟩:=an.mp h
  obtain⟨p,b,es,p',e',h2,h3⟩:=rW h
  cases e'
  obtain⟨pa,la,na⟩:=a.ok q o h3
  refine⟨(ac6 (o.B _ (by simpa using h1)) pa (eN o h2).1 (v7 na _) (v7 (λy m=>na y (List.mem_cons_of_mem _ m)) _)).imp λσ H Q=>cR λR ρ G F e h=>jU e .refl h λp h vs G1 H1 F1 e1 s1 v1=>?_,rfl⟩
  split at h
  case h_2=>exact h.elim
  rename_i us _ ws _ ep
  rw[ep]at v1
  obtain⟨G2,e2,s2,_,r⟩:=e1.vis e s1 v1 rfl
  obtain⟨_,_,_,rfl,q1,p1,r⟩:=sV r
  obtain⟨_,_,_,rfl,q2,p2,r⟩:=sV r
  cases r
  refine⟨_,_,rfl,⟨_,(e2.sub.seq q1).toK⟩,⟨_,(e2.sub.seq q2).toK⟩,h _ G2 H1 F1 e2 s2 λG' H' m s i=>?_⟩
  have qC:=(s.seq (m.seq q1)).toK
  have Hq:=(s.seq (m.seq q2)).toK
  refine⟨λz=>⟨_,_,qC,Hq,by rw[p1.length,p2.length,z]; simp[iW]⟩,λu hu=>?_⟩
  unfold iW at hu
  rw[List.getElem?_map]at hu
  obtain⟨p,hp,rfl⟩:=Option.map_eq_some_iff.mp hu
  obtain⟨k1,k2⟩:=List.getElem?_zip_eq_some.mp hp
  obtain⟨x,hx,rx⟩:=p1.jA k1
  obtain⟨y,hy,ry⟩:=p2.jA k2
  refine⟨⟨_,_,x,y,qC,Hq,hx,hy⟩,λv cV yl=>?_⟩
  obtain⟨T,x',y',rfl,fT,rfl,z⟩:=yl
  obtain⟨z1,z2⟩:=z _ _ qC Hq
  rw[hx]at z1
  rw[hy]at z2
  cases z1
  cases z2
  exact yT s fT (.cons (rx.mono m) (.cons (ry.mono m) .nil))
noncomputable def Av(us:List Tr):List Tr:=us.zipIdx.map λp=>.tup [.int (p.2:Nat),p.1]
noncomputable def RK(fa:AF):IF:=λρ=>(fa ρ).bind λp=>match p.1 with
 | [.v (.lst us) _]=>.ok (Av us,p.2)
 |_=>.bad
noncomputable def iEn(a:VA aD):VI (RK aD) where
 ck Γ e:=jh e.1 λ_ _ _=>ji e.2 λ_ aQ _ _=>aX aQ λ_ bF=>bw bF (Γ.B.contains ("enumerate" : Str)&&oF Γ "enumerate" a e.2)
 cs:=a.cs
 ok:=@λcl E Γ X e q o h=>by
  obtain⟨u,e⟩:=e
  walk_at "O"
  obtain⟨h1,h⟩:=an.mp h
  obtain⟨p,b,es,p',e',h2,h3⟩:=rW h
  cases e'
  obtain⟨pa,la,na⟩:=a.ok q o h3
  refine⟨(aeH (o.B _ (by simpa using h1)) pa (eN o h2).1 (na _ (List.mem_cons_self ..))).imp λσ H Q=>cR λR ρ G F e h=>jU e .refl h λp h vs G1 H1 F1 e1 s1 v1=>?_,rfl⟩
  split at h
  case h_2=>exact h.elim
  rename_i us _ ep
  rw[ep]at v1
  obtain⟨G2,e2,s2,_,r⟩:=e1.vis e s1 v1 rfl
  obtain⟨_,_,_,rfl,q1,p1,r⟩:=sV r
  cases r
  refine⟨_,rfl,⟨_,(e2.sub.seq q1).toK⟩,h _ G2 H1 F1 e2 s2 λG' H' m s i=>?_⟩
  have qC:=(s.seq (m.seq q1)).toK
  refine⟨λz=>⟨_,qC,by rw[p1.length,z]; simp[Av]⟩,λu hu=>?_⟩
  unfold Av at hu
  rw[List.getElem?_map]at hu
  obtain⟨p,hp,rfl⟩:=Option.map_eq_some_iff.mp hu
  rw[List.getElem?_zipIdx]at hp
  obtain⟨y,hy,rfl⟩:=Option.map_eq_some_iff.mp hp
  obtain⟨x,hx,rx⟩:=p1.jA hy
  refine⟨⟨_,x,qC,hx⟩,λv cV yl=>?_⟩
  obtain⟨T,x',rfl,fT,rfl,z⟩:=yl
  have z1:=z _ qC
  rw[hx]at z1
  cases z1
  show ∃G'',_/\Rep _ _ (.ref T) (.tup [.int ((0+i:Nat):Int),y])
  rw[Nat.zero_add]
  exact yT s fT (.cons (.int _) (.cons (rx.mono m) .nil))
noncomputable def jo:List Tr->List Tr->List Tr->List Tr
 |u::us,v::vs,w::ws=>.tup [u,v,w]::jo us vs ws
 |_,_,_=>[]
theorem RL:∀{us vs ws:List Tr},us.length<=vs.length->us.length<=ws.length->(jo us vs ws).length=us.length
 | [],_,_,_,_=>rfl
 |_::us,[],_,h,_=>absurd h (by simp)
 |_::us,_::vs,[],_,h=>absurd h (by simp)
 |_::us,_::vs,_::ws,h,h'=>by
  simp only[jo,List.length_cons]
  rw[RL (by simpa using h) (by simpa using h')]
theorem RM:∀{us vs ws:List Tr} {i:Nat} {d:Tr},(jo us vs ws)[i]?=some d->∃u v w,us[i]?=some u/\vs[i]?=some v/\ws[i]?=some w/\d=.tup [u,v,w]
 | [],_,_,i,d,h=>by simp[jo]at h
 |_::us,[],_,i,d,h=>by simp[jo]at h
 |_::us,_::vs,[],i,d,h=>by simp[jo]at h
 |u::us,v::vs,w::ws,0,d,h=>⟨u,v,w,rfl,rfl,rfl,by simpa[jo,eq_comm]using h⟩
 |_::us,_::vs,_::ws,i+1,d,h=>RM (us:=us) (vs:=vs) (ws:=ws) (i:=i) (by simpa[jo]using h)
noncomputable def RN(fa:AF):IF:=λρ=>(fa ρ).bind λp=>match p.1 with
 | [.v (.lst us) _,.v (.lst vs) _,.v (.lst ws) _]=>if us.length<=vs.length/\us.length<=ws.length then .ok (jo us vs ws,p.2)else .bad
 |_=>.bad
noncomputable def iZ3(a:VA aD):VI (RN aD) where
 ck Γ e:=jh e.1 λ_ _ _=>ji e.2 λ_ aQ _ _=>aX aQ λ_ bF=>aX bF λ_ bO=>aX bO λ_ cA=>bw cA (Γ.B.contains ("zip" : Str)&&oF Γ "zip" a e.2)
 cs:=a.cs
 ok:=@λcl E Γ X e q o h=>by
  obtain⟨u,e⟩:=e
  walk_at "O"
  obtain⟨h1,h⟩:=an.mp h
  obtain⟨p,b,es,p',e',h2,h3⟩:=rW h
  cases e'
  obtain⟨pa,la,na⟩:=a.ok q o h3
  refine⟨(aeQ (o.B _ (by simpa using h1)) pa (eN o h2).1 (v7 na _) (v7 (λy m=>na y (List.mem_cons_of_mem _ m)) _)).imp λσ H Q=>cR λR ρ G F e h=>jU e .refl h λp h vs G1 H1 F1 e1 s1 v1=>?_,rfl⟩
  split at h
  case h_2=>exact h.elim
  rename_i us _ ws _ zs _ ep
  rw[ep]at v1
  split at h
  case isFalse=>exact h.elim
  rename_i hn
  obtain⟨G2,e2,s2,_,r⟩:=e1.vis e s1 v1 rfl
  obtain⟨_,_,_,rfl,q1,p1,r⟩:=sV r
  obtain⟨_,_,_,rfl,q2,p2,r⟩:=sV r
  obtain⟨_,_,_,rfl,q3,p3,r⟩:=sV r
  cases r
  refine⟨_,_,_,rfl,⟨_,(e2.sub.seq q1).toK⟩,⟨_,(e2.sub.seq q2).toK⟩,⟨_,(e2.sub.seq q3).toK⟩,h _ G2 H1 F1 e2 s2 λG' H' m s i=>?_⟩
  have toK:∀{d:Addr} {ds:List V},aK (aC X.K) G2 d ds->aK X.K H' d ds:=λq=>(s.seq (m.seq q)).toK
  refine⟨λz=>⟨_,toK q1,by rw[z,RL hn.1 hn.2,p1.length]; exact Nat.le_refl _⟩,λd hd=>?_⟩
  obtain⟨u,v,w,g1,g2,g3,rfl⟩:=RM hd
  obtain⟨x,hx,rx⟩:=p1.jA g1
  obtain⟨y,hy,ry⟩:=p2.jA g2
  obtain⟨z,hz,rz⟩:=p3.jA g3
  refine⟨⟨_,_,_,x,y,z,toK q1,toK q2,toK q3,hx,hy,hz⟩,λo cV yl=>?_⟩
  obtain⟨T,x',y',z',rfl,fT,rfl,al⟩:=yl
  obtain⟨a1,a2,a3⟩:=al _ _ _ (toK q1) (toK q2) (toK q3)
  rw[hx]at a1
  rw[hy]at a2
  rw[hz]at a3
  cases a1
  cases a2
  cases a3
  exact yT s fT (.cons (rx.mono m) (.cons (ry.mono m) (.cons (rz.mono m) .nil)))
noncomputable def RP(ifs:List Expr)(env:Env):Sem Bool:=forIn ifs true λc r=>if r=true then do let ok <-isTrue c env (eval c env); pure (ForInStep.yield ok)else pure (ForInStep.yield r)
noncomputable def v8(X:Cx)(ifs:List Expr)(tc:TT):Prop:=∀(pins:List (Addr × Obj)) s σ H Q,Inv X pins σ H s->tc σ H Q->wpAny (model X.prog X.w) X.A (RP ifs X.env) (TP X pins σ Q) X.xe s
theorem Aw(h:PT X c tc):v8 X [c] tc:=λpins s σ H Q I q=>wpAny_tests_one (h pins s σ H Q I q)
theorem Ax:v8 X [] λ_ H Q=>Q true H:=λpins s σ H Q I q=>wpAny_pure ⟨H,I,q⟩
section
variable {prog:Program}{w:World}{A:Around}{R:Result->Shared->Prop}{s:Shared}
theorem aeY(I:Nat->Shared->Prop)
  (turn:∀n s,I n s->wpAny (model prog w) A (pyNext it) (λr s₁=>match r with
   |none=>R (.ok .next) s₁
   | some v=>wpAny (model prog w) A (letOwnedTupleGo target it v) (λ_ s₁'=>wpAny (model prog w) A (assign target env v) (λ_ s₂ => wpAny (model prog w) A (RP ifs env) (λb s₂'=>if b=true then wpAny (model prog w) A (eval elt env) (λx s₃ =>
     wpAny (model prog w) A (call (.builtin "list.append") [acc,x]) (λ_ s₄=>∃m,m<n/\I m s₄) (λ_ _=>False) s₃) (λ_ _=>False) s₂' else ∃m,m<n/\I m s₂') (λ_ _=>False) s₂) (λ_ _=>False) s₁') (λ_ _=>False) s₁) (λ_ _=>False) s)
  (n:Nat) (h:I n s) :
  codeAny (model prog w) A (.compLoop (.ListComp elt [⟨target,iter,ifs,0⟩] scope pos) 0 it acc env) R s:=by
 refine codeAny_loop rfl I (λn s hI=>?_) n h
 show wpAny _ _ ((compTurn (.ListComp elt [⟨target,iter,ifs,0⟩] scope pos) 0 it acc env).onRaise (λx=>do noteFrame x env; theTreesLotGoes x)) _ _ s
 refine wpAny_noted (wpAny_noRaise ?_)
 rw[compTurn_list]
 refine wpAny_bind (wpAny_standAt (wpAny_bind (wpAny_mono (turn n s hI) (λr s₁ h₁=>?_) λ_ _ h'=>h')))
 cases r with
 |none=>exact wpAny_pure h₁
 |some v =>
  refine wpAny_bind (wpAny_mono h₁ (λ_ s₁' h₁'=>?_) λ_ _ h'=>h')
  refine wpAny_bind (wpAny_mono h₁' (λ_ s₂ h₂=>wpAny_bind (wpAny_mono h₂ (λok s₃ h₃=>?_) λ_ _ h'=>h')) λ_ _ h'=>h')
  cases ok with
  |false=>exact wpAny_pure ⟨rfl,h₃⟩
  |true =>
   exact wpAny_bind (wpAny_bind (wpAny_mono h₃ (λx s₄ h₄=>wpAny_bind (wpAny_mono h₄ (λ_ s₅ h₅=>wpAny_pure (wpAny_pure ⟨rfl,h₅⟩)) λ_ _ h'=>h')) λ_ _ h'=>h'))
end
noncomputable def sX(wi:TI)(g:TG)(src:List (Option Nat))(tc:TT)(te:TE):TE:=λσ H Q=>wi σ H λJ H1=>∀D,H1 D=none ->
 ∃W:Nat->Nat->St->Hp->Prop,(∃m,W 0 m (cj src σ) (upd H1 D (.lst [])))/\∀i m σ' H',W i m σ' H' ->
  (J.stop i H'/\Ec Q D H')\/(J.go i H'/\∀x cV,J.jP i H' x cV->g x σ' cV λσ2 H2=>tc σ2 H2 λb wg=>if b=true then te σ2 wg λv H3=>∃xs,H3 D=some (.lst xs)/\xs.length<sizeLine/\∃m',m'<m/\W (i+1) m' σ2 (upd H3 D (.lst (xs++[v])))else ∃m',m'<m/\W (i+1) m' σ2 wg)
section
variable {X:Cx}{elt tg iter:Expr}{ifs:List Expr}{scope sc:Scope}{pos:Pos}{No N:List Str}{src:List (Option Nat)}{wi:TI}{g:TG}{te:TE}{tc:TT}
theorem RQ{pins:List (Addr × Obj)}{RR:Value->Addr->Result->Shared->Prop}(hsc:X.env.scope=sc)(fX:X.N=No)(S:nQ sc No N src scope)(hc:X.calm=true)
  (hi:PI X tg iter wi) (hg:∀C s H ex,PG (bx X N scope C s H ex) tg g) (hq:∀C s H ex,v8 (bx X N scope C s H ex) ifs tc) (he:∀C s H ex,PE (bx X N scope C s H ex) elt te) (I:Inv X pins σ H s) (h:sX wi g src tc te σ H Q)
  (hRR:∀D C H' s' m,Inv X pins σ H' s'->H' C=none->C≠X.env.locals->X.s₀.heap.objs.size<=C->(∀x c,X.env.cells.lookup x=some c->c≠C)->(∀p∈X.pn++pins,p.1≠C)->s'.heap.Ns C m->Q (.ref D) H'->RR (.ref D) C (.ok .next) s') :
  wpAny (model X.prog X.w) X.A (eval iter X.env) (λx s₁=>wpAny (model X.prog X.w) X.A (pyIter x) (λit s₂=>wpAny (model X.prog X.w) X.A (newList []) (λacc s₃ =>
   wpAny (model X.prog X.w) X.A (newFunctionEnv scope X.env.globals (bR X.env.cells scope.names []) [] X.env.qual none .none (some X.env)) (λcenv s₄ =>
    codeAny (model X.prog X.w) X.A (.compStart (.ListComp elt [⟨tg,iter,ifs,0⟩] scope pos) 0 it acc {cenv with scope:=relabel scope X.env }) (RR acc cenv.locals) s₄) X.xe s₃) X.xe s₂) X.xe s₁) X.xe s:=by
 refine aF (hi pins s σ H _ I h) λv s1 h1=>aF h1 λitv s2 h2=>?_
 obtain⟨it,fp,tn,J,H2,e,I2,T,st2,f2,hW⟩:=h2
 subst e
 have Hr:H2 s2.heap.objs.size=none:=I2.hok.fresh (Nat.le_refl _)
 obtain⟨W,⟨m0,w0⟩,turn⟩:=hW s2.heap.objs.size Hr
 have wk:∀b∈fp,b<s2.heap.objs.size:=λb hb=>by
  obtain⟨o,e,_⟩:=T.obj 0 _ st2 b hb
  exact Heap.lt_size e
 refine wpAny_newObj_type ?_
 have I3:Inv X pins σ (upd H2 s2.heap.objs.size (.lst [])) {s2 with heap:=s2.heap.push {cls:=.type "list",dict:=none,data:=.seq ([]:List Value).toArray } }:=I2.yp (t':=s2.toks) (ys:=[]) .nil (Nat.zero_le _)
 have f3:∀b∈fp,cg X pins (upd H2 s2.heap.objs.size (.lst [])) b:=λb hb=>by
  obtain⟨q,r⟩:=f2 b hb
  exact⟨by rw[aL (Nat.ne_of_lt (wk b hb))]; exact q,r⟩
 have st3:tn 0 (s2.heap.push {cls:=.type "list",dict:=none,data:=.seq ([]:List Value).toArray }):=T.keep _ _ _ st2 λb hb o e=>Heap.get?_push_of_some _ e
 have j4:∀b∈fp,b<(s2.heap.push {cls:=.type "list",dict:=none,data:=.seq ([]:List Value).toArray }).objs.size:=λb hb=>by
  rw[Heap.size_push]; exact Nat.lt_succ_of_lt (wk b hb)
 generalize hD:s2.heap.objs.size=D at *
 generalize hh3:s2.heap.push {cls:=.type "list",dict:=none,data:=.seq ([]:List Value).toArray }=h3 at *
 generalize hH3:upd H2 D (.lst [])=H3 at *
 refine O6 λh₁ hns old ck=>?_
 dsimp only at hns old ck ⊢
 have I4:Inv (bx X N scope h3.objs.size {s2 with heap:=h3 } H3 fp) [] (cj src σ) H3 {s2 with heap:=h₁,toks:=s2.toks+([]:List (Str × Value)).length }:=O7 (s:={s2 with heap:=h3 }) hsc fX S I3 f3 j4 hns old ck
 have pB:tn 0 h₁ := T.keep _ _ _ st3 λb hb o e=>old b o e
 have loop:codeAny (model X.prog X.w) X.A (.compLoop (.ListComp elt [⟨tg,iter,ifs,0⟩] scope pos) 0 (.ref it) (.ref D) (compEnvC scope (cellsFrom (h3.objs.size+1) scope.names (bR X.env.cells scope.names [])) h3.objs.size X.env)) (RR (.ref D) h3.objs.size) {s2 with heap:=h₁,toks:=s2.toks+([]:List (Str × Value)).length }:=by
  have stat:∀{H':Hp},(∀b∈fp,H' b=none)->∀b∈fp,cg (bx X N scope h3.objs.size {s2 with heap:=h3 } H3 fp) [] H' b:=λhn b hb=>by
   obtain⟨g0,g1,g2,g3,g4,g5⟩:=f3 b hb
   refine⟨hn b hb,Nat.ne_of_lt (j4 b hb),λz=>?_,.inl hb,λx c e=>?_,λp hp=>absurd (show p∈([]:List (Addr × Obj))from hp) (by simp)⟩
   .rcases List.mem_cons.mp (I3.uM b z)with z|z
    .exact g1 z
    .exact g2 z
   .have e:(cellsFrom (h3.objs.size+1) scope.names (bR X.env.cells scope.names [])).lookup x=some c:=e
    rw[lV,rA]at e
    split at e
    .rename_i z
     cases e
     exact λy=>absurd (Nat.le_trans (ck.empty x c (PySem.mem_of_lookup z)).2 (y▸Nat.le_of_lt (j4 b hb))) (Nat.not_succ_le_self _)
    .rcases nO e with q|q
     .simp at q
     .exact g4 x c q
  refine aeY (λn s'=>∃i σ' H',Inv (bx X N scope h3.objs.size {s2 with heap:=h3 } H3 fp) [] σ' H' s'/\tn i s'.heap/\(∀b∈fp,H' b=none)/\W i n σ' H') ?_ m0 ⟨0,cj src σ,H3,I4,pB,λb hb=>(f3 b hb).1,w0⟩
  rintro n s5 ⟨i,σ5,H5,I5,iw,kj,w5⟩
  rcases turn i n σ5 H5 w5 with⟨stop,qn⟩|⟨go,step⟩
  .refine aF (T.done (bx X N scope h3.objs.size {s2 with heap:=h3 } H3 fp) rfl rfl rfl hc i [] s5 σ5 H5 (λ_ _=>False) I5 (stat kj) iw stop) λr s6 ⟨hr,I6⟩=>?_
   subst hr
   obtain⟨mC,hnC,_⟩:=id I6.loc
   have I7:Inv X pins σ H5 s6:=I3.call' (ch:=fp) I6.os I6.base I6.hok I6.bare λb hb=>by
    obtain⟨g0,g1,g2,g3,g4,g5⟩:=f3 b hb
    exact⟨g3,g1,g4,g5⟩
   refine hRR D h3.objs.size H5 s6 mC I7 I6.free (Nat.ne_of_gt I3.lt) I3.sz (λx c e z=>?_) (λp hp z=>?_) hnC qn
   .obtain⟨v,q⟩:=I3.cell x c e
    exact absurd q.lt (by rw[z]; exact Nat.lt_irrefl _)
   .exact absurd (Heap.lt_size (I3.pin p hp).1) (by rw[z]; exact Nat.lt_irrefl _)
  .refine aF (T.item (bx X N scope h3.objs.size {s2 with heap:=h3 } H3 fp) rfl rfl rfl hc i [] s5 σ5 H5 (λ_ _=>False) I5 (stat kj) iw go) λr s6 ⟨u,hr,h6⟩=>?_
   subst hr
   refine aF h6 λ_ s7 ⟨x,H7,I7,r7,y7,gH,wu⟩=>?_
   have wz:=I7.pinned (stat wu) (T.obj _ _ gH)
   refine aF (hg _ _ _ _ _ s7 σ5 H7 x u _ wz r7 (step x H7 y7)) λ_ s8 ⟨σ8,H8,I8,q8⟩=>?_
   refine aF (hq _ _ _ _ _ s8 σ8 H8 _ I8 q8) λbb s8' ⟨RT,Ay,Az⟩=>?_
   cases bb with
   |false =>
    rw[if_neg (by decide)]at Az ⊢
    obtain⟨m',hm,w9⟩:=Az
    refine⟨m',hm,i+1,σ8,RT,Ay.pJ (pins:=[]),T.keep _ _ _ gH λb hb o e=>(Ay.pin (b,o) (List.mem_append_right _ (List.mem_append_right _ (kh hb e)))).1,λb hb=>?_,w9⟩
    obtain⟨o,e,d⟩:=T.obj _ _ gH b hb
    exact(Ay.pin (b,o) (List.mem_append_right _ (List.mem_append_right _ (kh hb e)))).2.1
   |true =>
   rw[if_pos rfl]at Az ⊢
   refine aF (he _ _ _ _ _ s8' σ8 RT _ Ay Az) λyv s9 ⟨y,H9,I9,r9,q9⟩=>?_
   obtain⟨xs,e9,l9,m',hm,w9⟩:=q9
   refine aF (DW (X:=bx X N scope h3.objs.size {s2 with heap:=h3 } H3 fp) _ s9 σ8 H9 (.ref D) [y] (.ref D) [yv] (λ_ H'=>W (i+1) m' σ8 H') I9 rfl (.cons r9 .nil) ⟨D,xs,y,rfl,rfl,e9,l9,w9⟩) λ_ Ba ⟨_,Ht,qD,_,Hu⟩=>?_
   refine⟨m',hm,i+1,σ8,Ht,qD.pJ (pins:=[]),T.keep _ _ _ gH λb hb o e=>(qD.pin (b,o) (List.mem_append_right _ (List.mem_append_right _ (kh hb e)))).1,λb hb=>?_,Hu⟩
   obtain⟨o,e,d⟩:=T.obj _ _ gH b hb
   exact(qD.pin (b,o) (List.mem_append_right _ (List.mem_append_right _ (kh hb e)))).2.1
 exact codeAny_compStart_list loop (T.self _ _ _ _ _ pB loop)
theorem Bb(hsc:X.env.scope=sc)(fX:X.N=No)(S:nQ sc No N src scope)(hc:X.calm=true)
  (hi:PI X tg iter wi) (hg:∀C s H ex,PG (bx X N scope C s H ex) tg g) (hq:∀C s H ex,v8 (bx X N scope C s H ex) ifs tc) (he:∀C s H ex,PE (bx X N scope C s H ex) elt te)
  (hs:∀x,foldedSetIterable iter X.env x=pure x:=by intro _; rfl):PE X (.ListComp elt [⟨tg,iter,ifs,0⟩] scope pos) (sX wi g src tc te):=by
 refine⟨λpins s σ H Q I h=>?_⟩
 rw[eval_ListComp]
 have hcl:closureFor scope X.env=pure (bR X.env.cells scope.names []):=yq λy hy e=>by
  have k:=S.free y hy e
  rw[<-hsc]at k
  obtain⟨c,q⟩:=I.ok.has y.1 k
  rw[q]; rfl
 refine wpAny_comprehension_free (use:=none) rfl hs hcl S.kind S.names (RQ (RR:=λacc C=>compPost (model X.prog X.w) X.A X.xe none (EP X pins σ Q) acc C) hsc fX S hc hi hg hq he I h ?_)
 intro D C H' s' m I' n1 n2 n3 n4 n5 hn q
 refine⟨m,hn,λh' hs'=>⟨.ref D,H',?_,rfl,q⟩⟩
 exact I'.turned (t':=s'.toks) (λb o hb e=>(hs'.2 b hb).trans e) n1 (Ne.symm (Ne.symm n2)) (.inr n3) n4 n5
theorem Bc(hN:X.N.Nodup)(hyi:X.N[i]?=some y)(hy:Loc X.env.scope y)(hsc:X.env.scope=sc)(fX:X.N=No)(S:nQ sc No N src scope)(hc:X.calm=true)
  (hi:PI X tg iter wi) (hg:∀C s H ex,PG (bx X N scope C s H ex) tg g) (hq:∀C s H ex,v8 (bx X N scope C s H ex) ifs tc) (he:∀C s H ex,PE (bx X N scope C s H ex) elt te)
  (hsw:swapsWith (.ListComp elt [⟨tg,iter,ifs,0⟩] scope pos) (some (.Name y py)) spos.line X.env=pure true:=by rfl) (hs:∀x,foldedSetIterable iter X.env x=pure x:=by intro _; rfl)
  (hf:X.fn y=true\/X.env.scope.names.lookup y=some .local:=by first|exact .inl rfl|exact .inr rfl|assumption) :
  PS X (.Assign [.Name y py] (.ListComp elt [⟨tg,iter,ifs,0⟩] scope pos) spos) (lN (sX wi g src tc te) (lM i)):=by
 refine⟨λpins s σ H D I h=>?_⟩
 rw[exec_Assign_Name_used _ _ _ _ hsw]
 have hcl:closureFor scope X.env=pure (bR X.env.cells scope.names []):=yq λy hy e=>by
  have k:=S.free y hy e
  rw[<-hsc]at k
  obtain⟨c,q⟩:=I.ok.has y.1 k
  rw[q]; rfl
 refine wpAny_bind (wpAny_standAt (wpAny_bind ?_))
 show wpAny _ X.A (do let _ <-comprehension (.ListComp elt [⟨tg,iter,ifs,0⟩] scope pos) scope X.env _ (newList []) false (eval iter X.env) (some (assign (.Name y py) X.env))) _ _ s
 refine wpAny_bind (wpAny_mono (wpAny_comprehension_free (use:=some (assign (.Name y py) X.env)) (Q:=λ_ s'=>SP X pins D .next s') rfl hs hcl S.kind S.names
  (RQ (Q:=λv H'=>D.nx (σ.set i (some v)) H') (RR:=λacc C=>compPost (model X.prog X.w) X.A X.xe (some (assign (.Name y py) X.env)) (λ_ s'=>SP X pins D .next s') acc C) hsc fX S hc hi hg hq he I h ?_)) (λ_ s' hq=>wpAny_pure (wpAny_pure hq)) λ_ _ e=>e)
 intro Da C H' s' m I' n1 n2 n3 n4 n5 hn q
 show wpAny _ X.A (assign (.Name y py) X.env (.ref Da)) _ _ _
 refine wpAny_assign_Name (Ms I' hN hyi hy (v:=.ref Da) rfl (λs2 I2 hsame=>?_) hf)
 obtain⟨a,hsb,ha⟩:=hsame
 have hCa:C≠a:=by
  rcases ha with z|z
  .rw[z]; exact n2
  .exact λe=>n4 y a z e.symm
 refine⟨m,hn.sameBut hsb hCa,λh' hs'=>⟨σ.set i (some (.ref Da)),H',?_,q⟩⟩
 exact I2.turned (t':=s2.toks) (λb o hb e=>(hs'.2 b hb).trans e) n1 n2 (.inr n3) n4 n5
end
noncomputable def Mu(ρ : En)(i:Nat):Prop:=∃ts,ρ[i]?=some (Sl.ow ts)\/ρ[i]?=some (Sl.rf ts)
noncomputable def aeZ:Sl->Sl
 |.dp _=>.un
 |s=>s
noncomputable def eG(src:List (Option Nat))(ρ : En):En:=src.map λo=>match o with
 |some j=>aeZ ((ρ[j]?).getD .un)
 |none=>.un
noncomputable def bM:List (Option Nat)->En->En->En
 |some j::src,.ow ts::ρi,ρ=>bM src ρi (cU j ts ρ)
 |some j::src,.rf ts::ρi,ρ=>bM src ρi (cU j ts ρ)
 |_::src,_::ρi,ρ=>bM src ρi ρ
 |_,_,ρ=>ρ
noncomputable def jD:Option Sl->Bool
 |some (.ow _)=>true
 |some (.rf _)=>true
 |_=>false
noncomputable def eZ:List (Option Nat)->En->En->Bool
 |some j::src,s::ρi,ρ=>(!jD ρ[j]? || jD (some s))&&eZ src ρi ρ
 |none::src,_::ρi,ρ=>eZ src ρi ρ
 | [],_,_=>true
 |_,[],_=>false
theorem Bf:jD ρ[i]?=true↔Mu ρ i:=by
 constructor
 .intro h
  unfold jD at h
  split at h <;> rename_i q
  .exact⟨_,.inl q⟩
  .exact⟨_,.inr q⟩
  .cases h
 .rintro⟨ts,h|h⟩ <;> rw[h] <;> rfl
theorem Hv:∀{src:List (Option Nat)} {ρi ρ : En} {k j:Nat},eZ src ρi ρ = true->src[k]?=some (some j)->Mu ρ j->Mu ρi k
 | [],_,_,_,_,_,h,_=>by simp at h
 |some j'::src,s::ρi,ρ,k,j,h,hk,m=>by
  unfold eZ at h
  rw[Bool.and_eq_true]at h
  cases k with
  |zero =>
   simp at hk
   subst hk
   have h1:=h.1
   rw[Bf.mpr m]at h1
   cases s with
   |un=>cases h1
   |sh _=>cases h1
   |dp _=>cases h1
   |ow ts=>exact⟨ts,.inl rfl⟩
   |rf ts=>exact⟨ts,.inr rfl⟩
  |succ k =>
   obtain⟨ts,q⟩:=Hv (k:=k) h.2 (by simpa using hk) m
   exact⟨ts,by simpa using q⟩
 |none::src,s::ρi,ρ,k,j,h,hk,m=>by
  unfold eZ at h
  cases k with
  |zero=>simp at hk
  |succ k =>
   obtain⟨ts,q⟩:=Hv (k:=k) h (by simpa using hk) m
   exact⟨ts,by simpa using q⟩
 |some j'::src,[],ρ,k,j,h,hk,m=>by unfold eZ at h; cases h
 |none::src,[],ρ,k,j,h,hk,m=>by unfold eZ at h; cases h
noncomputable def Inj(src:List (Option Nat)):Prop:=∀(k k' j:Nat),src[k]?=some (some j)->src[k']?=some (some j)->k=k'
theorem ae0(h:(src.filterMap id).Nodup):Inj src:=by
 induction src with
 |nil=>intro k k' j h1; simp at h1
 |cons o src ih =>
  have tail:Inj src:=by
   cases o with
   |none=>exact ih (by simpa using h)
   |some j=>exact ih (by simpa using(List.nodup_cons.mp (by simpa using h)).2)
  intro k k' j h1 h2
  have no:∀{m:Nat},o=some j->src[m]?=some (some j)->False:=λ{m} e q=>by
   subst e
   have n:=(List.nodup_cons.mp (show(j::src.filterMap id).Nodup by simpa using h)).1
   exact n (List.mem_filterMap.mpr ⟨some j,List.mem_of_getElem? q,rfl⟩)
  cases k with
  |zero =>
   have e1:o=some j:=by simpa using h1
   cases k' with
   |zero=>rfl
   |succ k'=>exact(no e1 (by simpa using h2)).elim
  |succ k =>
   cases k' with
   |zero=>exact(no (by simpa using h2) (by simpa using h1)).elim
   |succ k'=>rw[tail k k' j (by simpa using h1) (by simpa using h2)]
theorem ae1(h : ρ[i]?=ρ'[i]?):(cU i ts ρ)[i]?=(cU i ts ρ')[i]? := by
 unfold cU
 rw[h]
 cases q : ρ'[i]? with
 |none=>dsimp only; rw[h,q]
 |some s =>
  have l':=(List.getElem?_eq_some_iff.mp q).1
  have l:=(List.getElem?_eq_some_iff.mp (h.trans q)).1
  cases s with
  |un=>dsimp only; rw[h,q]
  |sh _=>dsimp only; rw[h,q]
  |dp _=>dsimp only; rw[h,q]
  |ow _=>dsimp only; rw[gY l,gY l']
  |rf _=>dsimp only; rw[gY l,gY l']
theorem qF:∀(src:List (Option Nat)) (ρi ρ : En),(bM src ρi ρ).length = ρ.length
 | [],ρi,ρ=>by unfold bM; rfl
 |o::src,[],ρ=>by cases o <;> (unfold bM; rfl)
 |none::src,s::ρi,ρ=>by unfold bM; exact qF src ρi ρ
 |some j::src,.un::ρi,ρ=>by unfold bM; exact qF src ρi ρ
 |some j::src,.sh _::ρi,ρ=>by unfold bM; exact qF src ρi ρ
 |some j::src,.dp _::ρi,ρ=>by unfold bM; exact qF src ρi ρ
 |some j::src,.ow ts::ρi,ρ=>by unfold bM; rw[qF src ρi,Gv]
 |some j::src,.rf ts::ρi,ρ=>by unfold bM; rw[qF src ρi,Gv]
theorem Hw:∀{src:List (Option Nat)} {ρi ρ : En} {j:Nat} {s:Option Sl},Inj src->(bM src ρi ρ)[j]?=s ->
  (∃(k:Nat) (ts:List Tr),src[k]?=some (some j)/\(ρi[k]?=some (.ow ts)\/ρi[k]?=some (.rf ts))/\(cU j ts ρ)[j]?=s)\/((∀k:Nat,src[k]?=some (some j)->¬Mu ρi k)/\ρ[j]?=s)
 | [],ρi,ρ,j,s,_,h=>by
  unfold bM at h
  exact .inr ⟨λk q=>by simp at q,h⟩
 |o::src,[],ρ,j,s,_,h=>by
  have h : ρ[j]?=s:=by cases o <;> (unfold bM at h; exact h)
  refine .inr ⟨λk _ m=>?_,h⟩
  obtain⟨_,q|q⟩:=m <;> simp at q
 |o::src,x::ρi,ρ,j,s,I,h=>by
  have It:Inj src:=λk k' j h1 h2=>by
   have:=I (k+1) (k'+1) j (by simpa using h1) (by simpa using h2)
   omega
  have keep:(o=none\/jD (some x)=false)->(bM src ρi ρ)[j]?=s->(∃(k:Nat) (ts:List Tr),(o::src)[k]?=some (some j)/\((x::ρi)[k]?=some (.ow ts)\/(x::ρi)[k]?=some (.rf ts))/\(cU j ts ρ)[j]?=s)\/((∀k:Nat,(o::src)[k]?=some (some j)->¬Mu (x::ρi) k)/\ρ[j]?=s):=λc h=>by
   rcases Hw It h with⟨k,ts,q1,q2,q3⟩|⟨n,q⟩
   .exact .inl ⟨k+1,ts,by simpa using q1,by simpa using q2,q3⟩
   .refine .inr ⟨λk qk m=>?_,q⟩
    cases k with
    |zero =>
     rcases c with c|c
     .subst c; simp at qk
     .rw[<-Bf]at m
      have m:jD (some x)=true:=m
      rw[c]at m
      cases m
    |succ k =>
     obtain⟨ts,m⟩:=m
     exact n k (by simpa using qk) ⟨ts,by simpa using m⟩
  have put:∀(i:Nat) (ts:List Tr),o=some i->(x=.ow ts\/x=.rf ts)->(bM src ρi (cU i ts ρ))[j]?=s->(∃(k:Nat) (ts:List Tr),(o::src)[k]?=some (some j)/\((x::ρi)[k]?=some (.ow ts)\/(x::ρi)[k]?=some (.rf ts))/\(cU j ts ρ)[j]?=s)\/((∀k:Nat,(o::src)[k]?=some (some j)->¬Mu (x::ρi) k)/\ρ[j]?=s):=λi ts eo ex h=>by
   rcases Hw It h with⟨k,us,q1,q2,q3⟩|⟨n,q⟩
   .have ne:j≠i:=λz=>by
     subst z
     have:=I 0 (k+1) j (by simpa using eo) (by simpa using q1)
     omega
    refine .inl ⟨k+1,us,by simpa using q1,by simpa using q2,?_⟩
    rw[<-ae1 (Gu ne)]
    exact q3
   .by_cases e:j=i
    .subst e
     refine .inl ⟨0,ts,by simpa using eo,?_,q⟩
     rcases ex with rfl|rfl
     .exact .inl rfl
     .exact .inr rfl
    .rw[Gu e]at q
     refine .inr ⟨λk qk m=>?_,q⟩
     cases k with
     |zero =>
      rw[eo]at qk
      simp at qk
      exact e qk.symm
     |succ k =>
      obtain⟨ts,m⟩:=m
      exact n k (by simpa using qk) ⟨ts,by simpa using m⟩
  cases o with
  |none=>unfold bM at h; exact keep (.inl rfl) h
  |some i =>
   cases x with
   |un=>unfold bM at h; exact keep (.inr rfl) h
   |sh _=>unfold bM at h; exact keep (.inr rfl) h
   |dp _=>unfold bM at h; exact keep (.inr rfl) h
   |ow ts=>unfold bM at h; exact put i ts rfl (.inl rfl) h
   |rf ts=>unfold bM at h; exact put i ts rfl (.inr rfl) h
theorem Hx{src:List (Option Nat)}{k j:Nat}(h:src[k]?=some (some j)):(cj src σ)[k]?=some ((σ[j]?).join):=by
 unfold cj
 rw[List.getElem?_map,h]
 rfl
theorem ae2{k j:Nat}(h:src[k]?=some (some j))(q:(cj src σ)[k]?=some (some v)) : σ[j]?=some (some v):=by
 rw[Hx h]at q
 cases z : σ[j]? with
 |none=>rw[z]at q; cases q
 |some o =>
  rw[z]at q
  rw[show o=some v from Option.some.inj q]
noncomputable def inF(src:List (Option Nat))(ρ : En)(F:Fp):Fp:=λk=>match src[k]? with
 |some (some j)=>if jD ρ[j]?=true then F j else []
 |_=>[]
theorem sY(h:b∈inF src ρ F k):∃j,src[k]?=some (some j)/\jD ρ[j]?=true/\b∈F j:=by
 unfold inF at h
 split at h
 .split at h
  .exact⟨_,‹_›,‹_›,h⟩
  .cases h
 .cases h
theorem tu(h:Fn (inF src ρ F) b):Fn F b:=h.elim λ_ h=>(sY h).elim λj h=>⟨j,h.2.2⟩
section
variable {K:PySem.W.Frag}{R:Addr->Prop}{ρ ρ1:En}{σ τ : St}{G H G1 H1 G' H':Hp}{F F1 F':Fp}{src:List (Option Nat)}
theorem Ok.enter(e:Ok K R ρ σ G H F)(I:Inj src):Ok K R (eG src ρ) (cj src σ) G H (inF src ρ F):=by
 refine⟨by simp[eG,cj],e.sub,e.tb,e.tg,λb h=>e.hid b (tu h),e.rg,λk k' b h1 h2=>?_,λk=>?_⟩
 .obtain⟨j,q1,_,q2⟩:=sY h1
  obtain⟨j',q3,_,q4⟩:=sY h2
  cases e.di j j' b q2 q4
  exact I k k' j q1 q3
 .unfold eG inF
  rw[List.getElem?_map]
  cases q:src[k]? with
  |none=>rfl
  |some o =>
   cases o with
   |none=>rfl
   |some j =>
    rw[Hx q]
    have z:=e.sl j
    dsimp only[Option.map]
    cases w : ρ[j]? with
    |none=>rfl
    |some sl =>
     rw[w]at z
     cases sl with
     |un=>rfl
     |dp ts=>rfl
     |sh T =>
      obtain⟨_,u,z1,z2⟩:=z
      rw[z1]
      exact⟨rfl,u,rfl,z2⟩
     |ow ts =>
      obtain⟨a,xs,z1,z2⟩:=z
      rw[z1]
      exact⟨a,xs,rfl,z2⟩
     |rf ts =>
      obtain⟨a,xs,z1,z2⟩:=z
      rw[z1]
      exact⟨a,xs,rfl,z2⟩
theorem Ok.mu(e:Ok K R ρ σ G H F)(m:Mu ρ i):∃a,σ[i]?=some (some (.ref a))/\F i=[a]:=by
 have z:=e.sl i
 obtain⟨ts,q|q⟩:=m <;> (rw[q]at z; obtain⟨a,xs,z1,z2,_⟩:=z; exact⟨a,z1,z2⟩)
theorem Ok.leave(e1:Ok K R ρ1 σ G1 H1 F1)(e:Ok K R ρ τ G' H' F')(s:aH K G1 H1 (inF src ρ1 F1) G' H' F')(I:Inj src)(ag:∀k j:Nat,src[k]?=some (some j) -> τ[k]?=(cj src σ)[k]?)(so:eZ src ρ ρ1=true):Ok K R (bM src ρ ρ1) σ G' H' F1/\aH K G1 H1 F1 G' H' F1:=by
 have inn:∀{k j:Nat},src[k]?=some (some j)->jD ρ1[j]?=true->Mu ρ k/\∃a,F1 j=[a]/\F' k=[a]/\σ[j]?=some (some (.ref a))/\τ[k]?=some (some (.ref a)):=λq m=>by
  have mk:=Hv so q (Bf.mp m)
  obtain⟨a,q1,q2⟩:=e.mu mk
  obtain⟨b,q3,q4⟩:=e1.mu (Bf.mp m)
  have z:=ag _ _ q
  rw[q1]at z
  have z:=ae2 q z.symm
  rw[q3]at z
  cases z
  exact⟨mk,_,q4,q2,q3,q1⟩
 have out:∀j,(∀k,src[k]?=some (some j)->jD ρ1[j]?=true->False)->∀b∈F1 j,∀o,H1 b=some o->H' b=some o:=λj n b hb o h=>by
  refine s.fr b o h (λ⟨k,z⟩=>?_) ?_
  .obtain⟨j',q1,q2,q3⟩:=sY z
   cases e1.di j j' b hb q3
   exact n k q1 q2
  .obtain⟨ys,z⟩:=e1.fl ⟨j,hb⟩
   exact e1.tb.nt z
 refine⟨⟨by rw[qF,e1.len],e.sub,e.tb,e.tg,λb ⟨j,hb⟩=>?_,e.rg,e1.di,λj=>?_⟩,s.gg,λb o h n=>s.fr b o h λz=>n (tu z),λb h=>(s.nw b h).imp id (Or.imp id tu),λb h=>.inr h,s.dm⟩
 .cases z:G' b with
  |none=>rfl
  |some o =>
   rcases s.nw b (by rw[z]; exact λy=>by cases y)with y|y|⟨k,y⟩
   .exact(y (e1.hid b ⟨j,hb⟩)).elim
   .exact(e1.fs y ⟨j,hb⟩).elim
   .obtain⟨j',q1,q2,q3⟩:=sY y
    obtain⟨_,a,h1,h2,_⟩:=inn q1 q2
    rw[h1]at q3
    rw[e.hid b ⟨k,by rw[h2]; exact q3⟩]at z
    cases z
 .rcases Hw I (rfl:(bM src ρ ρ1)[j]?=_)with⟨k,ts,q1,q2,q3⟩|⟨n,q⟩
  .rw[<-q3]
   cases m:jD ρ1[j]? with
   |false =>
    have:(cU j ts ρ1)[j]?=ρ1[j]? := by
     unfold cU
     split <;> first|rfl|(rename_i y; rw[y]at m; cases m)
    rw[this]
    exact(e1.sl j).mono s.gg (out j λk _ z=>by rw[m]at z; cases z)
   |true =>
    obtain⟨_,a,h1,h2,h3,h4⟩:=inn q1 m
    have z:=e.sl k
    have z1:=e1.sl j
    have y:∃xs,H' a=some (.lst xs)/\aA K G' xs ts:=by
     rcases q2 with q2|q2 <;> (rw[q2,h4]at z; obtain⟨b,xs,y1,_,_,y2⟩:=z; cases y1; exact⟨xs,y2⟩)
    obtain⟨xs,y1,y2⟩:=y
    unfold cU
    unfold jD at m
    split at m <;> rename_i w <;> (try cases m) <;>
    .rw[w]at z1
     obtain⟨b,_,y3,_,y4,_⟩:=z1
     rw[h3]at y3
     cases y3
     try simp only[w]
     rw[gY (List.getElem?_eq_some_iff.mp w).1]
     exact⟨a,xs,h3,h1,y4,y1,y2⟩
  .rw[<-q]
   exact(e1.sl j).mono s.gg (out j λk q1 z=>n k q1 (inn q1 z).1)
theorem Ok.RV(e:Ok K R ρ σ G H F)(h:H D=some (.lst xs))(n:¬Fn F D)(g:G D=none):Ok K R ρ σ G (upd H D (.lst ys)) F:=by
 have ne:∀b,Fn F b->b≠D:=λb z y=>n (y▸z)
 refine⟨e.len,λb o q=>?_,e.tb.upd h,e.tg,e.hid,λb z=>⟨(e.rg b z).1,λy=>?_⟩,e.di,λi=>(e.sl i).mono (Same.refl _) λb hb o q=>?_⟩
 .rw[aL λz=>by rw[z,g]at q; cases q]
  exact e.sub b o q
 .by_cases z:b=D
  .subst z; rw[cN]at y; cases y
  .rw[aL z]at y; exact(e.rg b ‹_›).2 y
 .rw[aL (ne b ⟨i,hb⟩)]; exact q
theorem aH.flt(s:aH K G H F G' H' F')(tb:bW K H)(h:H D=some (.lst xs))(n:¬Fn F D)(g:G D=none):H' D=some (.lst xs)/\¬Fn F' D/\G' D=none:=by
 refine⟨s.fr D _ h n (tb.nt h),s.out h n,?_⟩
 cases k:G' D with
 |none=>rfl
 |some o=>exact((s.nw D (by rw[k]; exact λz=>by cases z)).elim (λz=>z g) λz=>z.elim (λz=>by rw[h]at z; cases z) n).elim
end
noncomputable abbrev Hy:=Hp->Hp->Fp->List V->List Tr->Prop
noncomputable def oO(cv:Rv->Rs Tr)(g:GF)(c:BF)(f:EF):List Tr->En->Rs (List Tr × En)
 | [],ρ=>.ok ([],ρ)
 |u::us,ρ=>(g u ρ).bind λρ1=>(c ρ1).bind λb=>if b.1=true then(f b.2).bind λp=>(cv p.1).bind λT=>(oO cv g c f us p.2).bind λz=>.ok (T::z.1,z.2)else oO cv g c f us b.2
structure Acc(K:PySem.W.Frag)(R:Addr->Prop)(H1:Hp)(D:Addr)(cv:Rv->Rs Tr)(A:Hy):Prop where
 nx:∀r c,cv r ≠ .ex c
 nil:∀G H F,A G H F [] []
 stp:∀{G H F G' H' F' xs ts},bW K H->aH K G H F G' H' F'->A G H F xs ts->A G' H' F' xs ts
 pok:∀{G H F xs ts ys},A G H F xs ts->A G (upd H D ys) F xs ts
 add:∀{ρ ρ0 σ σ0 G H F G0 H0 F0 xs ts v r T},A G0 H0 F0 xs ts->Ok K R ρ0 σ0 G0 H0 F0->(∀b,H0 b=none->H1 b=none/\b≠D)->Ok K R ρ σ G H F->aH K G0 H0 F0 G H F->fZ K σ H0 G H F v r->cv r=.ok T->∃G2,Ok K R ρ σ G2 H F/\aH K G0 H0 F0 G2 H F/\A G2 H F (xs++[v]) (ts++[T])
noncomputable abbrev InC(K:PySem.W.Frag)(R:Addr->Prop)(A:Hy)(cv:Rv->Rs Tr)(gf:GF)(cf:BF)(f:EF)(src:List (Option Nat))(σ : St)(D:Addr)(G1 H1:Hp)(F1:Fp)(us:List Tr)(z:List Tr × En):Nat->Nat->St->Hp->Prop:=λi m τ H'=>m=us.length-i/\i<=us.length/\∃ρ' G' F' xs acc,Ok K R ρ' τ G' H' F'/\aH K G1 H1 F1 G' H' F'/\(H' D=some (.lst xs)/\¬Fn F' D/\G' D=none)/\A G' H' F' xs acc/\xs.length<=i/\(∀k j:Nat,src[k]?=some (some j) -> τ[k]?=(cj src σ)[k]?)/\∃y,oO cv gf cf f (us.drop i) ρ'=.ok y/\z=(acc++y.1,y.2)
theorem Hz{K:PySem.W.Frag}{A:Hy}{G1:Hp}{J:It}{tc:TT}(hc:∀σ H Q,Tt ⟨K,λ_ _=>False⟩ cf σ H Q->tc σ H Q)(I:Inj src)(hj:∀k j:Nat,src[k]?=some (some j)->k∉js)(ng:∀T ρ c,gf T ρ ≠ .ex c)(hlen:us.length<=100000)(hD:H1 D=none)(ac:Acc K R H1 D cv A)(e1:Ok K R ρ1 σ G1 H1 F1)
  (it:∀G' H',Same G1 G'->Same G' H'->(∀b o,H1 b=some o->¬Fn (inF src ρ1 F1) b->¬Tb K b->H' b=some o)->∀i,(i=us.length->J.stop i H')/\∀u,us[i]?=some u->J.go i H'/\∀x cV,J.jP i H' x cV->∃G'',Gw K G' H' G'' cV/\Rep K G'' x u)
  (kz:oO cv gf cf f us (eG src ρ1)=.ok z) (so:eZ src z.2 ρ1=true) (fin:∀G' H' F' xs,Ok K R (bM src z.2 ρ1) σ G' H' F1->aH K G1 H1 F1 G' H' F1->H' D=some (.lst xs)->G' D=none->(∀b,Fn F' b->H1 b=none\/Fn F1 b)->¬Fn F' D->A G' H' F' xs z.1->Q (.ref D) H') :
  ∃W:Nat->Nat->St->Hp->Prop,(∃m,W 0 m (cj src σ) (upd H1 D (.lst [])))/\∀i m σ' H',W i m σ' H' ->
  (J.stop i H'/\Ec Q D H')\/(J.go i H'/\∀x cV,J.jP i H' x cV->kZ K gf js x σ' cV λσ2 H2=>tc σ2 H2 λb wg=>if b=true then Te ⟨K,λ_ _=>False⟩ f σ2 wg λv H3=>∃xs,H3 D=some (.lst xs)/\xs.length<sizeLine/\∃m',m'<m/\W (i+1) m' σ2 (upd H3 D (.lst (xs++[v])))else ∃m',m'<m/\W (i+1) m' σ2 wg):=by
 refine⟨InC K R A cv gf cf f src σ D G1 H1 (inF src ρ1 F1) us z,⟨us.length,by simp,Nat.zero_le _,eG src ρ1,G1,inF src ρ1 F1,[],[],?_,?_,⟨cN,λh=>e1.fs hD (tu h),e1.sub.free hD⟩,ac.nil _ _ _,Nat.le_refl _,λ_ _ _=>rfl,z,kz,rfl⟩,?_⟩
 .exact((e1.enter I).grow (.flt e1.sub hD)).1
 .exact((e1.enter I).grow (.flt e1.sub hD)).2
 rintro i m τ H2 ⟨rfl,hi,ρ2,G2,F2,xs,acc,e2,s2,d2,a2,l2,g2,y,ky,rfl⟩
 have q:=it G2 H2 s2.gg e2.sub s2.fr i
 have mv:∀{G3 H3 F3},aH K G1 H1 (inF src ρ1 F1) G3 H3 F3->∀ys,aH K G1 H1 (inF src ρ1 F1) G3 (upd H3 D (.lst ys)) F3:=λs ys=>⟨s.gg,λb o h n t=>by rw[aL (iz h hD)]; exact s.fr b o h n t,s.nw,s.nf,λb h=>by
  by_cases z:b=D
  .subst z; exact hD
  .rw[aL z]at h; exact s.dm b h⟩
 by_cases hlt:i<us.length
 .rw[List.drop_eq_getElem_cons hlt]at ky
  obtain⟨go,yl⟩:=q.2 us[i] (by simp[hlt])
  refine .inr ⟨go,λx H3 yy=>?_⟩
  obtain⟨G3,w3,r3⟩:=yl x H3 yy
  obtain⟨e3,s3⟩:=e2.grow w3
  obtain⟨ρ4,k4,ky⟩:=cD ky
  obtain⟨b,k5,ky⟩:=cD ky
  refine⟨R,ρ2,G3,F2,_,e3,r3,?_⟩
  rw[k4]
  intro σ4 F4 e4 f4 a4
  have s4:=s3.trans (aH.sub f4)
  have g4:∀k j:Nat,src[k]?=some (some j) -> σ4[k]?=(cj src σ)[k]? := λk j h=>(a4 k (hj k j h)).trans (g2 k j h)
  refine hc _ _ _ ⟨R,ρ4,G3,F4,e4,?_⟩
  rw[k5]
  intro G5 H5 F5 e5 s5
  have lq:=s4.trans s5
  have d5:=lq.flt e2.tb d2.1 d2.2.1 d2.2.2
  split at ky <;> rename_i c
  .rw[if_pos c]
   obtain⟨p,k6,ky⟩:=cD ky
   obtain⟨T,k7,ky⟩:=cD ky
   obtain⟨y',k8,ky⟩:=cD ky
   cases ky
   refine⟨R,b.2,G5,F5,e5,?_⟩
   rw[k6]
   intro v G6 H6 F6 e6 s6 v6
   obtain⟨G7,e7,s7,a7⟩:=ac.add (ac.stp e2.tb lq a2) e5 (λb h=>⟨(s2.trans lq).dm b h,λz=>by rw[z,d5.1]at h; cases h⟩) e6 s6 v6 k7
   have d7:=s7.flt e5.tb d5.1 d5.2.1 d5.2.2
   refine⟨xs,d7.1,Nat.lt_of_le_of_lt (show xs.length<=100000 by omega) (by decide),us.length-(i+1),by omega,rfl,hlt,p.2,G7,F6,xs++[v],acc++[T],e7.RV d7.1 d7.2.1 d7.2.2,mv ((s2.trans lq).trans s7) _,⟨cN,d7.2⟩,ac.pok a7,by simp; omega,g4,y',k8,by simp⟩
  .rw[if_neg c]
   exact⟨us.length-(i+1),by omega,rfl,hlt,b.2,G5,F5,xs,acc,e5,s2.trans lq,d5,ac.stp e2.tb lq a2,by omega,g4,y,ky,rfl⟩
 .have z:i=us.length:=by omega
  subst z
  rw[List.drop_length]at ky
  cases ky
  obtain⟨e',s'⟩:=e1.leave e2 s2 I g2 so
  exact .inl ⟨q.1 rfl,fin G2 H2 F2 xs e' s' d2.1 d2.2.2 (λb h=>(s2.nf b h).imp id tu) d2.2.1 (by rw[List.append_nil]; exact a2)⟩
theorem RW{K:PySem.W.Frag}:Acc K R H1 D rQ λG _ _ xs ts=>aA K G xs ts:=⟨QT,λ_ _ _=>.nil,λ_ s a=>a.mono s.gg,λa=>a,λa e0 _ e s v q=>by
 obtain⟨G2,e2,s2,m,r⟩:=e.rR e0 s v q
 exact⟨G2,e2,s2,(a.mono s2.gg).app (.cons r .nil)⟩⟩
noncomputable def gC(g:GF)(c:BF)(f:EF):List Tr->En->Rs (List Tr × En)
 | [],ρ=>.ok ([],ρ)
 |u::us,ρ=>(g u ρ).bind λρ1=>(c ρ1).bind λb=>if b.1=true then(f b.2).bind λp=>(rQ p.1).bind λT=>(gC g c f us p.2).bind λz=>.ok (T::z.1,z.2)else gC g c f us b.2
theorem HB(g:GF)(c:BF)(f:EF):∀us,gC g c f us=oO rQ g c f us
 | []=>rfl
 |u::us=>by funext ρ; simp only[gC,oO,HB g c f us]
noncomputable def jw:BF:=λρ=>.ok (true,ρ)
noncomputable def tB(src:List (Option Nat))(fi:IF)(g:GF)(c:BF)(f:EF):EF:=λρ=>(fi ρ).bind λp=>if p.1.length<=100000 then(gA (gC g c f p.1 (eG src p.2))).bind λz=>if eZ src z.2 p.2=true then .ok (.v (.lst z.1) true,bM src z.2 p.2)else .bad else .bad
theorem qG{α β : Type}{r:Rs α}{f : α -> Rs β}{t:Tx}{P : β -> Prop}(h:bY t H F ((gA r).bind f) P):∃a,r=.ok a/\bY t H F (f a) P:=by
 cases r with
 |ok a=>exact⟨a,rfl,h⟩
 |_=>exact h.elim
theorem RX{t:Tx}{tc:TT}(hc:∀σ H Q,Tt ⟨t.K,λ_ _=>False⟩ cf σ H Q->tc σ H Q)(I:Inj src)(hj:∀k j:Nat,src[k]?=some (some j)->k∉js)(ng:∀T ρ c,gf T ρ ≠ .ex c)(h:Te t (tB src fi gf cf f) σ H Q):sX (Ti t fi) (kZ t.K gf js) src tc (Te ⟨t.K,λ_ _=>False⟩ f) σ H Q:=by
 obtain⟨R,ρ,G,F,e,h⟩:=h
 refine⟨R,ρ,G,F,e,h.run (aH.refl (G:=G)) λp h J G1 H1 F1 e1 s1 it D hD=>?_⟩
 split at h
 case isFalse=>exact h.elim
 obtain⟨z,kz,h⟩:=qG h
 split at h
 case isFalse=>exact h.elim
 rw[HB]at kz
 exact Hz hc I hj ng ‹_› hD RW e1 (λG' H' m s _=>it G' H' m s) kz ‹_› λG' H' F' xs e' s' d g _ _ a=>h _ G' H' F1 e' (s1.trans s') ⟨⟨D,xs,_,rfl,rfl,s1.dm D hD,g,d,a⟩,λ_ a q=>by cases q; exact e1.fs hD⟩
noncomputable def cG(Γ : Gx)(N:List Str)(scope:Scope):Gx:=⟨N,OJ scope Γ.sc,λx=>scope.names.lookup x == some .cell,Γ.B,[],true,Γ.k,[]⟩
theorem iY(o:Ox cl Γ E X)(d:N.Nodup):Ox cl (cG Γ N scope) E0 (bx X N scope C s H ex):=⟨rfl,by show OJ scope X.env.scope=_; rw[o.s]; rfl,d,o.l,o.r,PB,o.B,(λ_ z=>nomatch z),o.x,rfl,(λ_=>rfl),λ_ z=>nomatch z⟩
noncomputable def oR(Γ : Gx)(N:List Str)(src:List (Option Nat))(scope:Scope)(js:List Nat):Bool :=
 decide (scope.kind=.function)&&decide (∀y∈scope.names,y.2=.cell->scope.names.lookup y.1=some .cell)&&decide (∀y∈scope.names,y.2=.local->scope.names.lookup y.1=some .local)&&decide (∀y∈scope.names,y.2=.free -> Γ.sc.names.lookup y.1=some .cell\/Γ.sc.names.lookup y.1=some .free)&&decide (src.length=N.length)&&decide (∀p∈N.zip src,∀j∈p.2,Γ.N[j]?=some p.1/\scope.names.lookup p.1=some .free)&&decide N.Nodup&&decide (src.filterMap id).Nodup&&js.all λk=>(src[k]?).join.isNone
theorem tD(h:oR Γ N src scope js=true):nQ Γ.sc Γ.N N src scope/\N.Nodup/\Inj src/\∀k j:Nat,src[k]?=some (some j)->k∉js:=by
 simp only[oR,an]at h
 obtain⟨⟨⟨⟨⟨⟨⟨⟨h1,h2⟩,h3⟩,h4⟩,h5⟩,h6⟩,h7⟩,h8⟩,h9⟩:=h
 refine⟨⟨of_decide_eq_true h1,of_decide_eq_true h2,of_decide_eq_true h3,of_decide_eq_true h4,of_decide_eq_true h5,of_decide_eq_true h6⟩,of_decide_eq_true h7,ae0 (of_decide_eq_true h8),λk j e m=>?_⟩
 have:=List.all_eq_true.mp h9 k m
 rw[e]at this
 cases this
noncomputable def Bg(v t:Pos)(scope:Scope)(y:Str)(env:Env):Bool:=env.blockKind == .function&&env.kindOf y == some .local&&t.line == v.line && !(scope.names.any λ(n,k)=>n == y&&(k == .local || k == .cell))
theorem Bh{te HD:TE}{b:Str->Pos->Bool}(o:Ox cl Γ E X)(hw:∀y p l,swapsWith e (some (.Name y p)) l X.env=pure (b y p))(hP:PE X e te)(hS:∀i y p sp,Wr X i y->b y p=true->PS X (.Assign [.Name y p] e sp) (lN te (lM i)))(imp:∀σ H Q,HD σ H Q->te σ H Q):PE X e HD/\∀i y p sp,Wr X i y->PS X (.Assign [.Name y p] e sp) (lN HD (lM i)):=by
 refine⟨hP.imp imp,λi y p sp w=>?_⟩
 cases hb:b y p
 .exact M9 o.d w.1 w.2.1 (hP.imp imp) ((hw y p _).trans (congrArg pure hb)) w.2.2
 .exact(hS i y p sp w hb).imp λD σ H=>imp σ H _
noncomputable def cC(src:List (Option Nat))(N:List Str)(i:VI mU)(g:VG gZ jC)(b:VE bN):VC (tB src mU gZ jw bN) where
 ck Γ e:=ou e λx aQ sc _=>aX aQ λbF bO=>mG bF λt y cA dR=>bw cA (jk dR 0 (bw bO (i.ck Γ (t,y)&&g.ck (cG Γ N sc) t&&b.ck (cG Γ N sc) x&&oR Γ N src sc jC)))
 cs:=i.cs++(g.cs++b.cs)
 ok:=@λcl E Γ X e q o h=>by
  walk_at "O"
  rename_i x0 sc pos t0 y0
  simp only[an]at h
  obtain⟨⟨⟨h1,h2⟩,h3⟩,h4⟩:=h
  obtain⟨pi,ni⟩:=i.ok (ml q) o h1
  obtain⟨S,nd,I,hj⟩:=tD h4
  have pg:=λC s H ex=>g.ok (X:=bx X N sc C s H ex) (ml (mr q)) (iY o nd) h2
  have pb:=λC s H ex=>b.ok (X:=bx X N sc C s H ex) (mr (mr q)) (iY o nd) h3
  exact Bh o (b:=λy p=>Bg pos p sc y X.env) (λ_ _ _=>rfl) (Bb o.s o.N S o.l pi (λC s H ex=>(pg C s H ex).1) (λ_ _ _ _=>Ax) pb (jY ni)) (λi y p sp w hb=>Bc o.d w.1 w.2.1 o.s o.N S o.l pi (λC s H ex=>(pg C s H ex).1) (λ_ _ _ _=>Ax) pb (congrArg pure hb) (jY ni) w.2.2) λσ H Q h=>by
   exact RX (λσ H Q ⟨R,ρ,G,F,e,h⟩=>h G H F e .refl) I hj (pg 0 X.s₀ X.H₀ []).2.1 h
noncomputable def Bj(src:List (Option Nat))(N:List Str)(i:VI mU)(g:VG gZ jC)(k:VT oM)(b:VE bN):VC (tB src mU gZ oM bN) where
 ck Γ e:=ou e λx aQ sc _=>aX aQ λbF bO=>mG bF λt y cA dR=>aX cA λz eO=>bw eO (jk dR 0 (bw bO (i.ck Γ (t,y)&&g.ck (cG Γ N sc) t&&b.ck (cG Γ N sc) x&&k.ck (cG Γ N sc) z&&oR Γ N src sc jC)))
 cs:=i.cs++(g.cs++(b.cs++k.cs))
 ok:=@λcl E Γ X e q o h=>by
  walk_at "O"
  rename_i x0 sc pos t0 y0 z0
  simp only[an]at h
  obtain⟨⟨⟨⟨h1,h2⟩,h3⟩,h5⟩,h4⟩:=h
  obtain⟨pi,ni⟩:=i.ok (ml q) o h1
  obtain⟨S,nd,I,hj⟩:=tD h4
  have pg:=λC s H ex=>g.ok (X:=bx X N sc C s H ex) (ml (mr q)) (iY o nd) h2
  have pb:=λC s H ex=>b.ok (X:=bx X N sc C s H ex) (ml (mr (mr q))) (iY o nd) h3
  have pk:=λC s H ex=>k.ok (X:=bx X N sc C s H ex) (mr (mr (mr q))) (iY o nd) h5
  exact Bh o (b:=λy p=>Bg pos p sc y X.env) (λ_ _ _=>rfl) (Bb o.s o.N S o.l pi (λC s H ex=>(pg C s H ex).1) (λC s H ex=>Aw (pk C s H ex)) pb (jY ni)) (λi y p sp w hb=>Bc o.d w.1 w.2.1 o.s o.N S o.l pi (λC s H ex=>(pg C s H ex).1) (λC s H ex=>Aw (pk C s H ex)) pb (congrArg pure hb) (jY ni) w.2.2) λσ H Q=>RX (λ_ _ _ h=>h) I hj (pg 0 X.s₀ X.H₀ []).2.1
noncomputable def HF(src:List (Option Nat))(n:Nat)(g:GF)(c:BF)(f:EF):EF:=λρ=>(con ρ n).bind λus=>if us.length<=100000 then(gA (gC g c f us (eG src ρ))).bind λz=>if eZ src z.2 ρ = true then .ok (.v (.lst z.1) true,bM src z.2 ρ)else .bad else .bad
theorem ae3{K:PySem.W.Frag}(n:Nat)(hn:∀k:Nat,src[k]? ≠ some (some n))(I:Inj src)(hj:∀k j:Nat,src[k]?=some (some j)->k∉js)(ng:∀T ρ c,gf T ρ ≠ .ex c)(h:Te ⟨aC K,xe⟩ (HF src n gf cf f) σ H Q):sX (Ar K (uO n)) (kZ (aC K) gf js) src (Tt ⟨aC K,λ_ _=>False⟩ cf) (Te ⟨aC K,λ_ _=>False⟩ f) σ H Q:=by
 obtain⟨R,ρ,G,F,e,h⟩:=h
 obtain⟨us,k0,h⟩:=h.okb (vQ _ _)
 obtain⟨a,xs,hi,hf,hx,r⟩:=e.con k0
 refine .inl ⟨_,hi,a,rfl,⟨xs,aK.of hx⟩,λD hD=>?_⟩
 split at h
 case isFalse=>exact h.elim
 obtain⟨z,kz,h⟩:=qG h
 split at h
 case isFalse=>exact h.elim
 rw[HB]at kz
 have na:¬Fn (inF src ρ F) a:=λ⟨k,z⟩=>by
  obtain⟨j,q1,_,q2⟩:=sY z
  cases e.di n j a (by rw[hf]; exact List.mem_singleton.mpr rfl) q2
  exact hn k q1
 refine Hz (λ_ _ _ h=>h) I hj ng ‹_› hD RW e (λG' H' m s fr i=>?_) kz ‹_› λG' H' F' xs e' s' d g _ _ a=>h _ G' H' F e' s' ⟨⟨D,xs,_,rfl,rfl,hD,g,d,a⟩,λ_ a q=>by cases q; exact e.fs hD⟩
 have q':aK K H' a xs:=aK.of (fr a _ hx na (e.tb.nt hx))
 refine⟨λz=>⟨xs,q',by rw[r.length]; lia⟩,λu hu=>?_⟩
 obtain⟨x,hx,rx⟩:=r.jA hu
 refine⟨⟨xs,x,q',hx⟩,λy cV ⟨e,z⟩=>?_⟩
 have:=z xs q'
 rw[hx]at this
 cases this
 subst e
 exact⟨G',.refl s,rx.mono m⟩
noncomputable def cO(src:List (Option Nat))(N:List Str)(n:Nat)(g:VG gZ jC)(k:VT oM)(b:VE bN):VC (HF src n gZ oM bN) where
 ck Γ e:=ou e λx aQ sc _=>aX aQ λbF bO=>mG bF λt cA dR eO=>atName cA λy _=>aX dR λz jm=>bw jm (jk eO 0 (bw bO (jX Γ n y&&g.ck (cG Γ N sc) t&&b.ck (cG Γ N sc) x&&k.ck (cG Γ N sc) z&&oR Γ N src sc jC&&src.all (λo=>o != some n))))
 cs:=g.cs++(b.cs++k.cs)
 ok:=@λcl E Γ X e q o h=>by
  walk_at "O"
  rename_i x0 sc pos t0 y0 p0 z0
  simp only[an]at h
  obtain⟨⟨⟨⟨⟨h1,h2⟩,h3⟩,h5⟩,h4⟩,h6⟩:=h
  obtain⟨S,nd,I,hj⟩:=tD h4
  have pi:PI X t0 (.Name y0 p0) (Ar X.K (uO n)):=RD (qe o h1)
  have pg:=λC s H ex=>g.ok (X:=bx X N sc C s H ex) (ml q) (iY o nd) h2
  have pb:=λC s H ex=>b.ok (X:=bx X N sc C s H ex) (ml (mr q)) (iY o nd) h3
  have pk:=λC s H ex=>k.ok (X:=bx X N sc C s H ex) (mr (mr q)) (iY o nd) h5
  exact Bh o (b:=λy p=>Bg pos p sc y X.env) (λ_ _ _=>rfl) (Bb o.s o.N S o.l pi (λC s H ex=>(pg C s H ex).1) (λC s H ex=>Aw (pk C s H ex)) pb (jY rfl)) (λi y p sp w hb=>Bc o.d w.1 w.2.1 o.s o.N S o.l pi (λC s H ex=>(pg C s H ex).1) (λC s H ex=>Aw (pk C s H ex)) pb (congrArg pure hb) (jY rfl) w.2.2) λσ H Q=>ae3 n (λk z=>by
   have:=List.all_eq_true.mp h6 _ (List.mem_of_getElem? z)
   simp at this) I hj (pg 0 X.s₀ X.H₀ []).2.1
noncomputable def wC:Rv->Rs Tr
 |.v (.lst us) true=>.ok (.lst us)
 |_=>.bad
noncomputable def qH(g:GF)(c:BF)(f:EF):List Tr->En->Rs (List Tr × En)
 | [],ρ=>.ok ([],ρ)
 |u::us,ρ=>(g u ρ).bind λρ1=>(c ρ1).bind λb=>if b.1=true then(f b.2).bind λp=>(wC p.1).bind λT=>(qH g c f us p.2).bind λz=>.ok (T::z.1,z.2)else qH g c f us b.2
theorem RZ(g:GF)(c:BF)(f:EF):∀us,qH g c f us=oO wC g c f us
 | []=>rfl
 |u::us=>by funext ρ; simp only[qH,oO,RZ g c f us]
section
variable {K:PySem.W.Frag}{R:Addr->Prop}{ρ : En}{σ : St}{G H H1 G' H':Hp}{F F':Fp}
theorem DR.app{xs ys:List V}{ts us:List Tr}{as bs:List Addr}(h:DR K G H xs ts as)(r:DR K G H ys us bs):DR K G H (xs++ys) (ts++us) (as++bs):=by
 induction h with
 |nil=>exact r
 |cl n h _ ih=>exact .cl n h ih
 |rw h q _ ih=>exact .rw h q ih
theorem DR.reps{K:PySem.W.Frag}{G G' H:Hp}(m:Same G G'){xs:List V}{ts:List Tr}{bs:List Addr}(h:DR K G H xs ts bs):(∀b∈bs,G' b=H b)->aA K G' xs ts:=by
 induction h with
 |nil=>exact λ_=>.nil
 |cl n h _ ih=>exact λk=>.cons (h.mono m) (ih k)
 |rw h q _ ih=>exact λk=>.cons (.lst (aK.of ((k _ (List.mem_cons_self ..)).trans h)) (q.mono m)) (ih λb hb=>k b (List.mem_cons_of_mem _ hb))
structure Bl(K:PySem.W.Frag)(R:Addr->Prop)(H1:Hp)(D:Addr)(G H:Hp)(F:Fp)(xs:List V)(ts:List Tr)(bs:List Addr):Prop where
 nd:bs.Nodup
 al:∀b∈bs,H1 b=none/\b≠D/\¬R b/\¬Fn F b/\G b=none
 dr:DR K G H xs ts bs
theorem Bl.stp(tb:bW K H)(s:aH K G H F G' H' F')(a:Bl K R H1 D G H F xs ts bs):Bl K R H1 D G' H' F' xs ts bs:=by
 refine⟨a.nd,λb hb=>?_,a.dr.mono s.gg λb hb o q=>?_⟩ <;> obtain⟨h1,h2,h3,h4,h5⟩:=a.al b hb <;> obtain⟨ys,hy⟩:=a.dr.lst b hb
 .exact⟨h1,h2,h3,(s.flt tb hy h4 h5).2⟩
 .rw[hy]at q
  cases q
  exact(s.flt tb hy h4 h5).1
theorem ae4:Acc K R H1 D wC λG H F xs ts=>∃bs,Bl K R H1 D G H F xs ts bs:=by
 refine⟨λr c=>(by unfold wC; split <;> (intro z; cases z)),λ_ _ _=>⟨[],.nil,(λ_ h=>by cases h),.nil⟩,λtb s ⟨bs,a⟩=>⟨bs,a.stp tb s⟩,λ⟨bs,a⟩=>⟨bs,a.nd,a.al,a.dr.mono (Same.refl _) λb hb o q=>?_⟩,λ⟨bs,a0⟩ e0 hn e s v q=>?_⟩
 .rw[aL (a.al b hb).2.1]; exact q
 .have a:=a0.stp e0.tb s
  unfold wC at q
  split at q <;> cases q
  obtain⟨⟨c,ys,us,rfl,q1,q2,q3,q4,q5⟩,f⟩:=v
  cases q1
  refine⟨_,e,s,bs++[c],List.nodup_append.mpr ⟨a.nd,by simp,λb hb d hd z=>?_⟩,λb hb=>?_,a.dr.app (.rw q4 q5 .nil)⟩
  .cases List.mem_singleton.mp hd
   obtain⟨zs,hz⟩:=a0.dr.lst b hb
   rw[z,q2]at hz
   cases hz
  .rcases List.mem_append.mp hb with hb|hb
   .exact a.al b hb
   .cases List.mem_singleton.mp hb
    exact⟨(hn _ q2).1,(hn _ q2).2,e0.rn q2,f rfl _ rfl,q3⟩
end
noncomputable def HJ(i:Nat)(src:List (Option Nat))(fi:IF)(g:GF)(c:BF)(f:EF):SF:=λρ=>(fi ρ).bind λp=>if p.1.length<=100000 then(gA (qH g c f p.1 (eG src p.2))).bind λz=>if eZ src z.2 p.2=true then .ok (.nx,(bM src z.2 p.2).set i (.dp z.1))else .bad else .bad
theorem Ok.ae5{K:PySem.W.Frag}(e:Ok K R ρ σ G H F)(i:Nat)(n:(a::bs).Nodup)(al:∀b∈a::bs,¬R b/\¬Fn F b/\G b=none)(h:H a=some (.lst xs))(d:DR K G H xs ts bs):∃F',Ok K R (ρ.set i (.dp ts)) (σ.set i (some (.ref a))) G H F'/\∀b,Fn F' b->b∈a::bs\/Fn F b:=by
 by_cases l:i < ρ.length
 .refine⟨iV F i (a::bs),e.one i _ (by rw[List.length_set,List.length_set,e.len]) (λj n=>⟨jB n,jB n⟩) (Same.refl _) e.sub e.tb (λb h=>.inl h) (λ_ _ _ _ _ h=>h) (λb h=>(e.rg b h).2) (λb h=>⟨(al b h).2.2,λj _ z=>(al b h).2.1 ⟨j,z⟩⟩) ?_,λb h=>?_⟩
  .rw[gY l,gY (e.len▸l)]
   exact⟨a,xs,bs,rfl,rfl,n,λb hb=>(al b hb).1,h,d⟩
  .rcases sy h with h|⟨j,_,h⟩
   .exact .inl h
   .exact .inr ⟨j,h⟩
 .rw[sE l,sE (e.len▸l)]
  exact⟨F,e,λb h=>.inr h⟩
theorem ae6{t:Tx}{tc:TT}(hc:∀σ H Q,Tt ⟨t.K,λ_ _=>False⟩ cf σ H Q->tc σ H Q)(I:Inj src)(hj:∀k j:Nat,src[k]?=some (some j)->k∉js)(ng:∀T ρ c,gf T ρ ≠ .ex c)(h:Ts t (HJ n src fi gf cf f) D σ H):lN (sX (Ti t fi) (kZ t.K gf js) src tc (Te ⟨t.K,λ_ _=>False⟩ f)) (lM n) D σ H:=by
 obtain⟨R,ρ,G,F,e,h⟩:=h
 refine⟨R,ρ,G,F,e,h.run (aH.refl (G:=G)) λp h J G1 H1 F1 e1 s1 it D hD=>?_⟩
 split at h
 case isFalse=>exact h.elim
 obtain⟨z,kz,h⟩:=qG h
 split at h
 case isFalse=>exact h.elim
 rw[RZ]at kz
 refine Hz hc I hj ng ‹_› hD ae4 e1 (λG' H' m s _=>it G' H' m s) kz ‹_› λG' H' F' xs e' s' d g _ _ ⟨bs,a⟩=>?_
 have al:∀b∈D::bs,H1 b=none/\¬R b/\¬Fn F1 b/\G' b=none:=List.forall_mem_cons.mpr ⟨⟨hD,e1.rn hD,e1.fs hD,g⟩,λb hb=>⟨(a.al b hb).1,(a.al b hb).2.2.1,e1.fs (a.al b hb).1,(a.al b hb).2.2.2.2⟩⟩
 obtain⟨F2,e2,f2⟩:=e'.ae5 n (List.nodup_cons.mpr ⟨λz=>(a.al D z).2.1 rfl,a.nd⟩) (λb hb=>(al b hb).2) d a.dr
 have s2:=s1.trans s'
 exact h _ G' H' F2 e2 ⟨s2.gg,s2.fr,s2.nw,λb z=>(f2 b z).elim (λz=>.inl (s1.dm b (al b z).1)) (s2.nf b),s2.dm⟩
noncomputable def sCd(n:Nat)(src:List (Option Nat))(N:List Str)(i:VI mU)(g:VG gZ jC)(b:VE bN):VS (HJ n src mU gZ jw bN) where
 ck Γ e:=oA e λaQ bF _=>aX aQ λbO cA=>atName bO λy p=>bw cA (ou bF λx dR sc pos=>aX dR λeO jm=>mG eO λt z qw qx=>bw qw (jk qx 0 (bw jm (Ag Γ n y&&i.ck Γ (t,z)&&g.ck (cG Γ N sc) t&&b.ck (cG Γ N sc) x&&oR Γ N src sc jC))))
 cs:=i.cs++(g.cs++b.cs)
 ok:=@λcl E Γ X e q o h=>by
  walk_at "O"
  rename_i sp y p x0 sc pos t0 y0
  simp only[an]at h
  obtain⟨⟨⟨⟨hw,h1⟩,h2⟩,h3⟩,h4⟩:=h
  obtain⟨pi,ni⟩:=i.ok (ml q) o h1
  obtain⟨S,nd,I,hj⟩:=tD h4
  have pg:=λC s H ex=>g.ok (X:=bx X N sc C s H ex) (ml (mr q)) (iY o nd) h2
  have pb:∀C s H ex,PE (bx X N sc C s H ex) x0 (Te (tx cl E0 X) bN):=λC s H ex=>b.ok (X:=bx X N sc C s H ex) (mr (mr q)) (iY o nd) h3
  have R0:∀C s H ex,PG (bx X N sc C s H ex) t0 (kZ (aC X.K) gZ jC):=λC s H ex=>(pg C s H ex).1
  refine((Bh o (b:=λy p=>Bg pos p sc y X.env) (λ_ _ _=>rfl) (Bb o.s o.N S o.l pi R0 (λ_ _ _ _=>Ax) pb (jY ni)) (λi y p sp w hb=>Bc o.d w.1 w.2.1 o.s o.N S o.l pi R0 (λ_ _ _ _=>Ax) pb (congrArg pure hb) (jY ni) w.2.2) λσ H Q h=>h).2 _ _ _ _ (Gz o hw)).imp λD σ H h=>?_
  exact ae6 (λσ H Q ⟨R,ρ,G,F,e,h⟩=>h G H F e .refl) I hj (pg 0 X.s₀ X.H₀ []).2.1 h
noncomputable def tE(i:Nat)(ρ : En):En:=match ρ[i]? with
 |some (.dp ts)=>ρ.set i (.ow ts)
 |_=>ρ
noncomputable def HN(i:Nat)(f:SF):SF:=λρ=>f (tE i ρ)
open Classical in
theorem Ok.tE{K:PySem.W.Frag}(e:Ok K R ρ σ G H F)(i:Nat):∃G' F',Ok K R (L2.tE i ρ) σ G' H F'/\aH K G H F G' H F':=by
 unfold L2.tE
 split
 case h_2=>exact⟨G,F,e,.refl⟩
 rename_i ts k
 have z:=e.sl i
 rw[k]at z
 obtain⟨a,xs,bs,h1,h2,nd,h3,h4,d⟩:=z
 have R3:∀b∈bs,b∈F i:=λb hb=>by rw[h2]; exact List.mem_cons_of_mem _ hb
 have nda:=(List.nodup_cons.mp (h2▸nd)).1
 let G':Hp:=λb=>if b∈bs then H b else G b
 have m:Same G G':=λb o q=>by
  show(if b∈bs then H b else G b)=_
  split
  .exact e.sub b o q
  .exact q
 have sp:∀b,G' b≠none->G b≠none\/b∈bs:=λb q=>by
  by_cases z:b∈bs
  .exact .inr z
  .rw[show G' b=G b from if_neg z]at q; exact .inl q
 refine⟨G',iV F i [a],e.one i [a] (by rw[List.length_set,e.len]) (λj n=>⟨jB n,rfl⟩) m (λb o q=>?_) e.tb (λb q=>(sp b q).imp id λz=>⟨λj n y=>n (e.di j i b y (R3 b z)),?_,h3 b (by rw[h2]; exact List.mem_cons_of_mem _ z)⟩) (λ_ _ _ _ _ h=>h) (λb h=>(e.rg b h).2) (λb h=>?_) ?_,m,λ_ _ h _ _=>h,λb q=>(sp b q).imp id λz=>.inr ⟨i,R3 b z⟩,λb z=>?_,λ_ h=>h⟩
 .have q:(if b∈bs then H b else G b)=some o:=q
  split at q
  .exact q
  .exact e.sub b o q
 .obtain⟨ys,hy⟩:=d.lst b z
  exact e.tb.nt hy
 .cases List.mem_singleton.mp h
  refine⟨?_,λj n y=>n (e.di j i a y (by rw[h2]; exact List.mem_cons_self ..))⟩
  rw[show G' a=G a from if_neg nda]
  exact e.hid a ⟨i,by rw[h2]; exact List.mem_cons_self ..⟩
 .rw[gY (List.getElem?_eq_some_iff.mp k).1]
  refine⟨a,xs,h1,rfl,h3 a (by rw[h2]; exact List.mem_cons_self ..),h4,d.reps m λb hb=>if_pos hb⟩
 .rcases sy z with z|⟨j,_,z⟩
  .exact .inr ⟨i,by rw[h2,List.mem_singleton.mp z]; exact List.mem_cons_self ..⟩
  .exact .inr ⟨j,z⟩
noncomputable def sD(i:Nat)(a:VS aD):VS (HN i aD) where
 ck:=a.ck
 cs:=a.cs
 ok q o h:=(a.ok q o h).imp λD σ H=>cR λR ρ G F e h=>by
  obtain⟨G',F',e',s'⟩:=e.tE i
  exact vR e' s' h
open PySem.W
noncomputable def insI(i:Int):List Int->List Int
 | []=>[i]
 |j::r=>if i<=j then i::j::r else j::insI i r
noncomputable def tH(l:List Int):List Int:=l.foldr insI []
theorem insI_perm(i:Int):∀l,(insI i l).Perm (i::l)
 | []=>.refl _
 |j::r=>by
  unfold insI
  split
  .exact .refl _
  .exact((insI_perm i r).cons j).trans (.swap i j r)
theorem R4(i:Int):∀l,l.Pairwise (· <= ·)->(insI i l).Pairwise (· <= ·)
 | [],_=>by simp[insI]
 |j::r,hp=>by
  have hp':=List.pairwise_cons.mp hp
  unfold insI
  split
  .rename_i b
   refine List.pairwise_cons.mpr ⟨λk hk=>?_,hp⟩
   rcases List.mem_cons.mp hk with rfl|hk
   .exact b
   .have:=hp'.1 k hk; lia
  .rename_i b
   refine List.pairwise_cons.mpr ⟨λk hk=>?_,R4 i r hp'.2⟩
   rcases List.mem_cons.mp ((insI_perm i r).mem_iff.mp hk)with rfl|hk
   .lia
   .exact hp'.1 k hk
theorem HS:∀l:List Int,(tH l).Perm l/\(tH l).Pairwise (· <= ·)
 | []=>⟨.refl _,.nil⟩
 |i::r=>by
  obtain⟨h1,h2⟩:=HS r
  exact⟨(insI_perm i _).trans (h1.cons i),R4 i _ h2⟩
theorem R5:∀{l m:List Int},l.Perm m->l.Pairwise (· <= ·)->m.Pairwise (· <= ·)->l=m
 | [],m,p,_,_=>by rw[List.nil_perm.mp p]
 |a::l,[],p,_,_=>by simpa using p.length_eq
 |a::l,b::m,p,h1,h2=>by
  have h1':=List.pairwise_cons.mp h1
  have h2':=List.pairwise_cons.mp h2
  have e:a=b:=by
   rcases List.mem_cons.mp (p.mem_iff.mp (List.mem_cons_self ..))with z|z
   .exact z
   .rcases List.mem_cons.mp (p.mem_iff.mpr (List.mem_cons_self (a:=b)))with y|y
    .exact y.symm
    .have a1:=h1'.1 b y
     have a2:=h2'.1 a z
     lia
  subst e
  rw[R5 p.cons_inv h1'.2 h2'.2]
theorem R6(p:m.Perm l)(h:m.Pairwise (· <= ·)):m=tH l:=R5 (p.trans (HS l).1.symm) h (HS l).2
theorem R7:∀{ns:List Int} {vs:List Value},Vals (ns.map V.int) vs->IntsAre vs ns
 | [],_,h=>by cases h; exact .nil
 |n::ns,_,h=>by
  cases h with
  |cons h1 h2 =>
   obtain⟨t,rfl⟩:=h1
   exact .cons n t (R7 h2)
section
variable {X:Cx}
noncomputable def HW(K:PySem.W.Frag):List V->Hp->VK->Prop:=λxs H Q=>∃p ns,xs=[.ref p]/\aK K H p (ns.map V.int)/\ns.length<64/\∀l,H l=none->Q (.ref l) (upd H l (.lst ((tH ns).map V.int)))
theorem ae7:gM X (.builtin "sorted") (HW X.K):=by
 intro pins s σ H xs us Q I r h
 obtain⟨p,ns,rfl,hq,h64,q⟩:=h
 obtain⟨u,rfl,rx⟩:=vals1 r
 cases rx
 obtain⟨its,r',pl,hz⟩:=I.list hq
 have hl:=r'.length
 rw[List.length_map]at hl
 refine sorted_ints pl.isList (R7 r') (by lia) λout ns' a1 a2 a3=>?_
 obtain⟨e,he⟩:=sortedAll_at s.heap its out
 have e2:=R6 a2 a3
 subst e2
 have len:=a2.length_eq
 refine⟨.ref (s.heap.objs.size+1),_,I.laid (t':=s.toks) (λb o z=>sortedAll_old z) (Nat.le_succ _) (show je X.prog X.w _ _ _ (.lst ((tH ns).map V.int))from⟨by rw[List.length_map,sizeLine_eq]; lia,out.toList,e,DX a1,by rw[Array.toArray_toList]; exact he⟩),rfl,q _ (I.hok.fresh (Nat.le_succ _))⟩
end
end L2
end
section
namespace L2
open PySem PySem.Spec PyProof.Rows
section
variable {X:Cx}
noncomputable def HX:V->List V->Hp->VK->Prop:=λx vs H Q=>∃(l:Addr) (xs:List V) (k:Nat) (y:V),x=.ref l/\vs=[.int (k:Int),y]/\H l=some (.lst xs)/\k<=xs.length/\xs.length<=100000/\Q .non (upd H l (.lst (xs.take k++y::xs.drop k)))
theorem ae8:DP X "list.insert" HX:=by
 intro pins s σ H x vs v us Q I rx rv h
 obtain⟨l,xs,k,y,rfl,rfl,hH,hk,hz,q⟩:=h
 cases rx
 cases rv with
 |cons r1 rv =>
 cases rv with
 |cons ru rv =>
 cases rv
 obtain⟨t,rfl⟩:=r1
 rename_i u
 obtain⟨z,its,n,r,hl,e⟩:=I.Ow hH
 have big:100000+1<=sizeLine:=Nat.le_of_lt (show 100001<sizeLine from by unfold sizeLine; lia)
 have hs1:its.toArray.size<=sizeLine:=by rw[List.size_toArray]; lia
 have hk':(if(k:Int)<0 then((k:Int)+(its.toArray.size:Int)).toNat else min (k:Int).toNat its.toArray.size)=k:=by
  rw[if_neg (by lia),Int.toNat_natCast,List.size_toArray]
  lia
 have h1 : -(2 ^ 63)<=(k:Int):=by lia
 have h2:(k:Int)<2 ^ 63:=by lia
 have hfit:¬(!Builtin.List.listFitsIndex (k:Int))=true:=by rw[fitsIndex_both h1 h2]; exact Bool.false_ne_true
 have hlen:(xs.take k++y::xs.drop k).length<=sizeLine:=by
  rw[List.length_append,List.length_cons,List.length_take,List.length_drop]
  lia
 clear h1 h2 big
 generalize (k:Int)=i at *
 refine call_meets F.slot_list_insert ⟨_,e,rfl⟩ F.entry_list_insert (F.args_list_insert_3 _ _ _)
  (AutoSeq1.list_insert_list_int_val_1 l its.toArray n i t u hfit hs1) ⟨e,?_⟩
 refine⟨.non,_,I.Ov (its':=its.take k++u::its.drop k) hH e ?_ (Vals.append (r.take _) (.cons ru (r.drop _))) hlen,rfl,q⟩
 show(its.toArray.extract 0 (if i<0 then(i+(its.toArray.size:Int)).toNat else min i.toNat its.toArray.size)).push u++its.toArray.extract (if i<0 then(i+(its.toArray.size:Int)).toNat else min i.toNat its.toArray.size)=_
 rw[hk']
 exact PySem.W.kl_ins_eq its k u
end
open PySem.W
noncomputable def oU(K:PySem.W.Frag):KW:=λH v k=>∃a,v=.ref a/\bH K H a [.int k.1,.int k.2]
theorem ae9{K:PySem.W.Frag}{H H':Hp}{v:V}{k:Int × Int}(s:Same H H')(h:oU K H v k):oU K H' v k:=by
 obtain⟨a,e,q⟩:=h
 exact⟨a,e,s.pQ q⟩
section
variable {X:Cx}{pins:List (Addr × Obj)}{σ : St}{H:Hp}{s:Shared}
theorem Bm{k:Int × Int}(I:Inv X pins σ H s)(h:∃v,RelV v u/\oU X.K H v k):∃a o n t1 t2,u=.ref a/\s.heap.get? a=some o/\o.cls=.type "tuple" /\ o.data=.seq #[.int k.1 t1,.int k.2 t2] n:=by
 obtain⟨v,r,a,rfl,q⟩:=h
 cases r
 obtain⟨its,r,⟨o,e,c,n,d⟩,_⟩:=I.tuple q
 cases r with
 |cons r1 r =>
  cases r with
  |cons r2 r =>
   cases r
   obtain⟨t1,rfl⟩:=r1
   obtain⟨t2,rfl⟩:=r2
   exact⟨a,o,n,t1,t2,rfl,e,c,d⟩
theorem afa(I:Inv X pins σ H s)(u:Value)(k k':Int × Int)(h:∃v,RelV v u/\oU X.K H v k)(h':∃v,RelV v u/\oU X.K H v k'):k=k':=by
 obtain⟨a,o,n,t1,t2,rfl,e,_,d⟩:=Bm I h
 obtain⟨a',o',n',t1',t2',z,e',_,d'⟩:=Bm I h'
 cases z
 rw[e]at e'
 cases e'
 rw[d]at d'
 injection d' with d' _
 have d':=congrArg Array.toList d'
 injection d' with x1 x2
 injection x2 with x2 _
 injection x1 with x1 _
 injection x2 with x2 _
 exact Prod.ext x1 x2
theorem afb{E:Value->Shared->Prop}{st:SortSt}{i j x y n n':Nat}{k k':Int × Int}{Q:Option Bool->SortSt->Prop}(hk:kindOf st=tuples' true)
  (hi:(arrOf st)[i]?=some (.ref x,p)) (hj:(arrOf st)[j]?=some (.ref y,q)) (hx:s.heap.get? x=some ox) (dx:ox.data=.seq #[.int k.1 t1,.int k.2 t2] n) (hy:s.heap.get? y=some oy) (dy:oy.data=.seq #[.int k'.1 y1,.int k'.2 y2] n')
  (h:Q (some (decide (k.1<k'.1\/(k.1=k'.1/\k.2<k'.2)))) st):wpS (model prog w) A E s (ltAt' i j) Q st:=by
 rw[ltAt'_eq]
 refine wpS_bind (wpS_get ?_)
 show wpS _ _ _ _ (do let x <-elem' (arrOf st) i; let y <-elem' (arrOf st) j; lt' x y) Q st
 rw[elem'_eq,elem'_eq,hi,hj]
 refine wpS_bind (wpS_pure (wpS_bind (wpS_pure ?_)))
 rw[lt'_eq]
 refine wpS_bind (wpS_get ?_)
 rw[hk]
 refine wpS_bind (wpS_lift (wpAny_attempt (kat_lt hx dx hy dy (kat_cons (wpAny_eqBool_int ?_)))))
 by_cases e1:k.1=k'.1
 .rw[show(k.1 == k'.1)=true by simp[e1]]
  refine kat_yes (kat_cons (wpAny_eqBool_int ?_))
  by_cases e2:k.2=k'.2
  .rw[show(k.2 == k'.2)=true by simp[e2]]
   refine kat_yes (kat_nil ⟨rfl,wpS_pure ?_⟩)
   rw[decide_eq_false (by omega)]at h
   exact h
  .rw[show(k.2 == k'.2)=false by simp[e2]]
   refine kat_no (kat_one _ _ (wpAny_lt_int ⟨rfl,wpS_pure ?_⟩))
   have:decide (k.1<k'.1\/(k.1=k'.1/\k.2<k'.2))=decide (k.2<k'.2):=by
    rw[decide_eq_decide]; omega
   rw[this]at h
   exact h
 .rw[show(k.1 == k'.1)=false by simp[e1]]
  refine kat_no (oneLt_int ⟨rfl,wpS_pure ?_⟩)
  have:decide (k.1<k'.1\/(k.1=k'.1/\k.2<k'.2))=decide (k.1<k'.1):=by
   rw[decide_eq_decide]; omega
  rw[this]at h
  exact h
theorem afc:mL X (λH u k=>∃v,RelV v u/\oU X.K H v k) (tuples' true) where
 kind:=λH keys kz h2 hk pins σ s Q E I q=>by
  have t:∀vs:List Value,(∀v∈vs,∃k:Int × Int,∃w,RelV w v/\oU X.K H w k)->∃fs,KatTups s.heap vs fs/\fs.length=vs.length/\∀v∈fs,∃i t,v=Value.int i t:=λvs=>by
   induction vs with
   |nil=>exact λ_=>⟨[],.nil,rfl,λv m=>by cases m⟩
   |cons v vs ih =>
    intro h
    obtain⟨fs,a1,a2,a3⟩:=ih λu mu=>h u (List.mem_cons_of_mem _ mu)
    obtain⟨k,hv⟩:=h v (List.mem_cons_self ..)
    obtain⟨a,o,n,t1,t2,rfl,e,c,d⟩:=Bm I hv
    refine⟨.int k.1 t1::fs,KatTups.cons e c d rfl a1,by rw[List.length_cons,a2,List.length_cons],λu mu=>?_⟩
    rcases List.mem_cons.mp mu with rfl|mu
    .exact⟨_,_,rfl⟩
    .exact a3 u mu
  obtain⟨fs,a1,a2,a3⟩:=t keys.toList λv hv=>by
   obtain⟨i,hi,e⟩:=List.getElem_of_mem hv
   exact⟨kz i,hk i v (by rw[<-e]; simp[Array.getElem?_eq_getElem (show i<keys.size by simpa using hi)])⟩
  have:=kat_kind (M:=model X.prog X.w) (A:=X.A.in1.in1) (E:=E) (vs:=keys.toList) (fs:=fs) (T:=.type "int") (Q:=Q) a1 (by rw[a2]; simp; omega) (λv hv=>by
   obtain⟨i,t,rfl⟩:=a3 v hv
   exact Looks.now) (by decide) q
  simpa using this
 ask:=λ{pins σ H s E} a₀ kf I h st i j Q B hi hj q=>by
  have at_:∀i,i<a₀.size->∃(x:Nat) (p:Value) (o:Obj) (n:Nat) (t1 t2:Tok),(arrOf st)[i]?=some (Value.ref x,p)/\s.heap.get? x=some o/\o.data=.seq #[.int (q1 kf (arrOf st) i) t1,.int (q2 kf (arrOf st) i) t2] n:=λi hi=>by
   have hi':i<(arrOf st).size:=by rw[B.sz]; exact hi
   have hm:(arrOf st)[i]∈a₀.toList:=(Array.perm_iff_toList_perm.mp B.pm).mem_iff.mp (by simp)
   obtain⟨x,o,n,t1,t2,e,e2,_,d⟩:=Bm I (h _ hm)
   have e':(arrOf st)[i]?=some (arrOf st)[i]:=getElem?_pos _ i hi'
   refine⟨x,(arrOf st)[i].2,o,n,t1,t2,?_,e2,?_⟩
   .rw[e',<-e]
   .unfold q1 q2
    rw[e']
    exact d
  obtain⟨x,p,o,n,t1,t2,e1,e2,e3⟩:=at_ i hi
  obtain⟨y,p',o',n',u1,u2,f1,f2,f3⟩:=at_ j hj
  exact afb (k:=(q1 kf (arrOf st) i,q2 kf (arrOf st) i)) (k':=(q1 kf (arrOf st) j,q2 kf (arrOf st) j)) B.kn e1 f1 e2 e3 f2 f3 q
end
noncomputable def jc(kz:Nat->Int × Int)(i j:Nat):Prop:=((kz i).1<(kz j).1\/((kz i).1=(kz j).1/\(kz i).2<(kz j).2))\/(((kz i).1=(kz j).1/\(kz i).2=(kz j).2)/\i<j)
noncomputable instance {kz:Nat->Int × Int}{i j:Nat}:Decidable (jc kz i j):=by unfold jc; infer_instance
noncomputable def jq(kz:Nat->Int × Int)(i:Nat):List Nat->List Nat
 | []=>[i]
 |j::r=>if jc kz i j then i::j::r else j::jq kz i r
noncomputable def HY(n:Nat)(kz:Nat->Int × Int):List Nat:=(List.range n).foldr (jq kz) []
theorem Ia(kz:Nat->Int × Int)(i:Nat):∀l,(jq kz i l).Perm (i::l)
 | []=>.refl _
 |j::r=>by
  unfold jq
  split
  .exact .refl _
  .exact((Ia kz i r).cons j).trans (.swap i j r)
theorem R8(kz:Nat->Int × Int)(i:Nat):∀l,(∀j∈l,i≠j)->l.Pairwise (jc kz)->(jq kz i l).Pairwise (jc kz)
 | [],_,_=>by simp[jq]
 |j::r,hn,hp=>by
  have hp':=List.pairwise_cons.mp hp
  unfold jq
  split
  .rename_i b
   refine List.pairwise_cons.mpr ⟨λk hk=>?_,hp⟩
   rcases List.mem_cons.mp hk with rfl|hk
   .exact b
   .have:=hp'.1 k hk
    unfold jc at b this ⊢
    lia
  .rename_i b
   refine List.pairwise_cons.mpr ⟨λk hk=>?_,R8 kz i r (λk hk=>hn k (List.mem_cons_of_mem _ hk)) hp'.2⟩
   rcases List.mem_cons.mp ((Ia kz i r).mem_iff.mp hk)with rfl|hk
   .have:=hn j (List.mem_cons_self ..)
    unfold jc at b ⊢
    lia
   .exact hp'.1 k hk
theorem R9(kz:Nat->Int × Int):∀l:List Nat,l.Nodup->(l.foldr (jq kz) []).Perm l/\(l.foldr (jq kz) []).Pairwise (jc kz)
 | [],_=>⟨.refl _,.nil⟩
 |i::r,nd=>by
  have nd':=List.nodup_cons.mp nd
  obtain⟨h1,h2⟩:=R9 kz r nd'.2
  exact⟨(Ia kz i _).trans (h1.cons i),R8 kz i _ (λj hj z=>nd'.1 (by rw[z]; exact h1.mem_iff.mp hj)) h2⟩
theorem Sd(n:Nat)(kz:Nat->Int × Int):mK n kz (HY n kz):=R9 kz _ List.nodup_range
theorem Sg(as:∀a b,R a b->¬R b a):∀{l m:List Nat},l.Perm m->l.Pairwise R->m.Pairwise R->l=m
 | [],m,p,_,_=>by rw[List.nil_perm.mp p]
 |a::l,[],p,_,_=>by simpa using p.length_eq
 |a::l,b::m,p,h1,h2=>by
  have h1':=List.pairwise_cons.mp h1
  have h2':=List.pairwise_cons.mp h2
  have e:a=b:=by
   rcases List.mem_cons.mp (p.mem_iff.mp (List.mem_cons_self ..))with z|z
   .exact z
   .rcases List.mem_cons.mp (p.mem_iff.mpr (List.mem_cons_self (a:=b)))with y|y
    .exact y.symm
    .exact(as _ _ (h1'.1 b y) (h2'.1 a z)).elim
  subst e
  rw[Sg as p.cons_inv h1'.2 h2'.2]
theorem mK.eq(h:mK n kz ys):ys=HY n kz:=by
 have g:=Sd n kz
 refine Sg (R:=jc kz) (λa b h1 h2=>?_) (h.1.trans g.1.symm) h.2 g.2
 unfold jc at h1 h2
 lia
noncomputable def tL:List Tr->Option (List Int)
 | []=>some []
 |.int i::r=>(tL r).map (i :: ·)
 |_::_=>none
theorem Sh:∀{ts:List Tr} {ns:List Int},tL ts=some ns->ts=ns.map Tr.int
 | [],_,h=>by cases h; rfl
 |.int i::r,ns,h=>by
  obtain⟨m,e,rfl⟩:=Option.map_eq_some_iff.mp h
  rw[Sh e]; rfl
theorem Sq{K:PySem.W.Frag}{H:Hp}:∀{ns:List Int} {vs:List V},aA K H vs (ns.map Tr.int)->vs=ns.map V.int
 | [],_,h=>by cases h; rfl
 |n::ns,_,h=>by
  cases h with
  |cons h1 h2 =>
   cases h1
   rw[Sq h2]
   rfl
theorem Ib{K:PySem.W.Frag}{H:Hp}:∀ns:List Int,aA K H (ns.map V.int) (ns.map Tr.int)
 | []=>.nil
 |n::ns=>.cons (.int n) (Ib ns)
noncomputable def qI:G1
 |.lst ts=>match tL ts with
  |some ns=>if ns.length<64 then .ok (.lst ((tH ns).map Tr.int),true)else .bad
  |none=>.bad
 |_=>.bad
theorem afd{K:PySem.W.Frag}:oh (aC K) (λx=>HW K [x]) qI:=⟨λa c=>(by unfold qI; (repeat' split) <;> (intro z; cases z)),λG H x a Q s rx h=>by
 unfold qI at h
 split at h
 case h_2=>exact h.elim
 split at h
 case h_2=>exact h.elim
 rename_i ns e
 split at h
 case isFalse=>exact h.elim
 rw[Sh e]at rx
 obtain⟨p,xs,rfl,q,r⟩:=rx.lst s
 have e2:=Sq r
 subst e2
 exact⟨p,ns,rfl,q.toK,‹_›,λl nl=>h _ _ _ (.flt s nl) (.flt s nl (Ib _))⟩⟩
theorem afe{K:PySem.W.Frag}(h:dO K σ Hs G H F vs [.v (.int n) fr]):vs=[.int n]:=by
 cases h with
 |cons h r =>
  cases r
  cases fr with
  |false=>cases h.1; rfl
  |true=>obtain⟨_,_,_,_,z,_⟩:=h.1; cases z
theorem Ss{K:PySem.W.Frag}{H:Hp}:∀l:List Nat,aA K H (l.map λi:Nat=>V.int i) (l.map λi:Nat=>Tr.int i)
 | []=>.nil
 |n::l=>.cons (.int n) (Ss l)
noncomputable def eLR(fa:AF):EF:=λρ=>(fa ρ).bind λp=>match p.1 with
 | [.v (.int n) _]=>if 0<=n/\n<=1000 then .ok (.v (.lst ((List.range n.toNat).map λi:Nat=>Tr.int i)) true,p.2)else .bad
 |_=>.bad
noncomputable def wD:GM:=λts as=>match as with
 | [.int i,T]=>if 0<=i/\i.toNat<=ts.length/\ts.length<=100000 then .ok (ts.take i.toNat++T::ts.drop i.toNat,.non)else .bad
 |_=>.bad
theorem afg:Gy HX wD:=⟨λts as c=>(by unfold wD; (repeat' split) <;> (intro z; cases z)),λK G a xs ts vs as H Q ts' T hx r ra q h=>by
 unfold wD at q
 split at q
 case h_2=>cases q
 split at q
 case isFalse=>cases q
 rename_i i U c
 cases q
 cases ra with
 |cons h1 r1 =>
  cases r1 with
  |cons h2 r2 =>
   cases r2
   cases h1
   have l:=r.length
   exact⟨a,xs,i.toNat,_,rfl,by rw[Int.toNat_of_nonneg c.1],hx,by lia,by lia,h _ _ ((r.take _).app (.cons h2 (r.drop _))) .non⟩⟩
noncomputable abbrev RF:=List (Option Tr)->Rs Tr
noncomputable def Tq(K:PySem.W.Frag)(f:RF):TE:=λσ H Q=>∃G ts T,Same G H/\(∀(i:Nat) U,ts[i]?=some (some U)->∃v,σ[i]?=some (some v)/\Rp K G H v U)/\f ts=.ok T/\∀v G' H',Same G G'->Same H H'->Same G' H'->Rp K G' H' v T->Q v H'
theorem Rp.up{K:PySem.W.Frag}(h:Rp K G H v T)(m:Same G G')(s:Same H H'):Rp K G' H' v T:=by
 rcases h with h|⟨a,xs,ts,e1,e2,e,r⟩
 .exact .inl (h.mono m)
 .exact .inr ⟨a,xs,ts,e1,e2,s _ _ e,r.mono m⟩
theorem VN.rp{K:PySem.W.Frag}(h:VN K Hs G H v T fr):Rp K G H v T:=by
 cases fr with
 |false=>exact .inl h
 |true=>obtain⟨a,xs,ts,e1,e2,_,_,e,r⟩:=h; exact .inr ⟨a,xs,ts,e1,e2,e,r⟩
structure VL(f:RF) where
 ck:Gx->Expr->Bool
 ok:∀{Γ X e},X.N = Γ.N->X.env.scope = Γ.sc->ck Γ e=true->PE X e (Tq (aC X.K) f)
noncomputable def oV(i:Nat):RF:=λts=>match ts[i]? with
 |some (some U)=>.ok U
 |_=>.bad
noncomputable def tM(i:Nat):VL (oV i) where
 ck Γ e:=atName e λx _=>jX Γ i x
 ok hN hs h:=by
  walk_at "O"
  simp only[jX,an]at h
  obtain⟨⟨⟨h1,h2⟩,h3⟩,h4⟩:=h
  refine(Mv (i:=i) (by rw[hN]; exact eq_of_beq h1) (by rw[hs]; unfold xO; simpa[or_assoc]using h2) (by simpa using h3) (by simpa using h4)).imp λσ H Q ⟨G,ts,T,s,en,e,k⟩=>?_
  unfold oV at e
  split at e <;> cases e
  obtain⟨v,q1,q2⟩:=en i _ ‹_›
  exact⟨v,q1,k v G H (Same.refl _) (Same.refl _) s q2⟩
noncomputable def Bo(g:G2)(fa fb:RF):RF:=λts=>(fa ts).bind λa=>(fb ts).bind λb=>(g a b).bind λz=>.ok z.1
noncomputable def Ie(a:VL aD)(b:VL bN):VL (Bo aW aD bN) where
 ck Γ e:=mF e λx y _=>vL y&&a.ck Γ x&&b.ck Γ y
 ok hN hs h:=by
  walk_at "O"
  simp only[an]at h
  refine(DK DN (a.ok hN hs h.1.2) (b.ok hN hs h.2) (Gj h.1.1)).imp λσ H Q ⟨G,ts,T,s,en,e,k⟩=>?_
  obtain⟨a,e1,e⟩:=cD e
  obtain⟨b,e2,e⟩:=cD e
  obtain⟨z,e3,e⟩:=cD e
  cases e
  refine⟨G,ts,a,s,en,e1,λx G1 H1 m1 n1 s1 rx=>⟨G1,ts,b,s1,λi U q=>?_,e2,λy G2 H2 m2 n2 s2 ry=>Qg.ok G2 H2 x y a b Q s2 (rx.up m2 n2) ry (by rw[e3]; exact λv G' H' w vn=>k v G' H' (m1.trans (m2.trans w.gw.gg)) (n1.trans (n2.trans w.sm)) w.gw.sub vn.rp)⟩⟩
  obtain⟨v,q1,q2⟩:=en i U q
  exact⟨v,q1,q2.up m1 n1⟩
noncomputable def Bp(g:G1)(fa:RF):RF:=λts=>(fa ts).bind λa=>(g a).bind λz=>.ok z.1
noncomputable def Ig(a:VL aD):VL (Bp m7 aD) where
 ck Γ e:=pX e λaQ x _=>jk aQ .USub (a.ck Γ x)
 ok hN hs h:=by
  walk_at "O"
  refine(Dq Dr (a.ok hN hs h)).imp λσ H Q ⟨G,ts,T,s,en,e,k⟩=>?_
  obtain⟨a,e1,e⟩:=cD e
  obtain⟨z,e3,e⟩:=cD e
  cases e
  exact⟨G,ts,a,s,en,e1,λx G1 H1 m1 n1 s1 rx=>Qh.ok G1 H1 x a Q s1 rx (by rw[e3]; exact λv G' H' w vn=>k v G' H' (m1.trans w.gw.gg) (n1.trans w.sm) w.gw.sub vn.rp)⟩
noncomputable def Sv(fa fb:RF):RF:=λts=>(fa ts).bind λa=>(fb ts).bind λb=>match a,b with
 |.int i,.int j=>.ok (.tup [.int i,.int j])
 |_,_=>.bad
noncomputable def lPr(a:VL aD)(b:VL bN):VL (Sv aD bN) where
 ck Γ e:=jh e λaQ _ _=>aX aQ λx bF=>aX bF λy bO=>bw bO (notStar x&&notStar y&&a.ck Γ x&&b.ck Γ y)
 ok hN hs h:=by
  walk_at "O"
  simp only[an]at h
  refine(Dv (pL (a.ok hN hs h.1.2) (pL (b.ok hN hs h.2) uQ (iD h.1.1.2)) (iD h.1.1.1))).imp λσ H Q ⟨G,ts,T,s,en,e,k⟩=>?_
  obtain⟨a,e1,e⟩:=cD e
  obtain⟨b,e2,e⟩:=cD e
  split at e <;> cases e
  refine⟨G,ts,_,s,en,e1,λx G1 H1 m1 n1 s1 rx=>⟨G1,ts,_,s1,λi U q=>?_,e2,λy G2 H2 m2 n2 s2 ry=>⟨show 2<=sizeLine by decide,λp hp=>?_⟩⟩⟩
  .obtain⟨v,q1,q2⟩:=en i U q
   exact⟨v,q1,q2.up m1 n1⟩
  .rw[rx.int,ry.int]
   exact k _ _ _ (m1.trans (m2.trans (Gs.new (K:=[]) s2 hp).gw.gg)) (n1.trans (n2.trans (fY hp _))) (Gs.new (K:=[]) s2 hp).gw.sub (.inl (VN.newT s2 hp (.cons (.int _) (.cons (.int _) .nil))))
noncomputable def qY(ρ : En)(j:Nat):Option Tr:=match ρ[j]? with
 |some (.sh T)=>some T
 |some (.ow ts)=>some (.lst ts)
 |some (.rf ts)=>some (.lst ts)
 |_=>none
noncomputable def Bq(src:List (Option Nat))(ρ : En):List (Option Tr):=src.map λo=>o.bind (qY ρ)
noncomputable def tO(kt:Tr->Option (Int × Int))(fb:RF)(ts:List (Option Tr)):List Nat->Rs (List (Int × Int))
 | []=>.ok []
 |i::r=>(fb (some (Tr.int i)::ts)).bind λT=>match kt T with
  |some k=>(tO kt fb ts r).bind λks=>.ok (k::ks)
  |none=>.bad
theorem Sw:∀{l:List Nat} {ks:List (Int × Int)},tO kt fb ts l=.ok ks->ks.length=l.length/\∀(j i:Nat),l[j]?=some i->∃T k,fb (some (Tr.int i)::ts)=.ok T/\kt T=some k/\ks[j]?=some k
 | [],ks,h=>by cases h; exact⟨rfl,λj i z=>by simp at z⟩
 |a::l,ks,h=>by
  unfold tO at h
  obtain⟨T,e1,h⟩:=cD h
  split at h
  .rename_i k e2
   obtain⟨ks',e3,h⟩:=cD h
   cases h
   obtain⟨h1,h2⟩:=Sw e3
   refine⟨by simp[h1],λj i z=>?_⟩
   cases j with
   |zero=>simp at z; subst z; exact⟨T,k,e1,e2,by simp⟩
   |succ j=>simpa using h2 j i (by simpa using z)
  .cases h
noncomputable def Ih(kt:Tr->Option (Int × Int))(src:List (Option Nat))(fa:AF)(fb:RF):EF:=λρ=>(fa ρ).bind λp=>match p.1 with
 | [.v (.int n) _]=>if 0<=n/\n<64 then(gA (tO kt fb (Bq src p.2) (List.range n.toNat))).bind λks=>.ok (.v (.lst ((HY n.toNat λi=>ks.getD i (0,0)).map λi:Nat=>Tr.int i)) true,p.2)else .bad
 |_=>.bad
theorem zP.gw{K:PySem.W.Frag}{P c:Addr}{x:Str}{G H H':Hp}(sg:Same G H)(gp:G P=none)(tb:bW K H)(hx:x∈fC)(ht:tabIn K x=some (c,P))(hu:∀x'∈fC,∀c',tabIn K x'=some (c',P)->x'=x)(l:zP P (yJ x) H H'):Gw K G H G H':=by
 refine⟨Same.refl _,λb o q n=>l.kp b o q λz=>n ?_,λb o q=>l.kp b o (sg b o q) λz=>(by rw[z,gp]at q; cases q),λ_ x' hx' c' b e=>?_,λb h=>.inl h⟩
 .subst z
  exact⟨x,hx,c,ht⟩
 .by_cases z:b=P
  .subst z
   have:=hu x' hx' c' e
   subst this
   exact l.tb
  .obtain⟨ps,q,t1,t2⟩:=tb x' hx' c' b e
   refine⟨ps,l.kp _ _ q z,t1,λpos v k=>?_⟩
   obtain⟨d,o,e1,e2,e3⟩:=t2 pos v k
   refine⟨d,o,e1,l.kp _ _ e2 ?_,e3⟩
   rintro rfl
   obtain⟨qs,y,_⟩:=tb x hx c d ht
   rw[y]at e2
   cases e2
theorem afh{K:PySem.W.Frag}(e:Ok K R ρ σ G H F)(h:qY ρ j=some U):∃v,σ[j]?=some (some v)/\Rp K G H v U:=by
 have z:=e.sl j
 unfold qY at h
 split at h <;> rename_i k <;> cases h <;> rw[k]at z
 .obtain⟨_,v,h1,h2⟩:=z
  exact⟨v,h1,.inl h2⟩
 all_goals
  obtain⟨a,xs,h1,_,_,h4,h5⟩:=z
  exact⟨_,h1,.inr ⟨a,xs,_,rfl,rfl,h4,h5⟩⟩
theorem afi{t:Tx}{Kw:KW}(hq:q=yJ x)(hx:x∈fC)(ht:tabIn t.K x=some (c,P))(hu:∀x'∈fC,∀c',tabIn t.K x'=some (c',P)->x'=x)
  (hkt:∀G (H:Hp) v T k,Same G H->Rp t.K G H v T->kt T=some k->Kw H v k) (h:Te t (Ih kt src fa fb) σ H Q):QG Kw P q src (Ta t fa) (Tq t.K fb) σ H Q:=by
 subst hq
 obtain⟨R,ρ,G,F,e,h⟩:=h
 refine jU e .refl h λp h vs G1 H1 F1 e1 s1 v1=>?_
 obtain⟨rs,ρ1⟩:=p
 dsimp only at h
 split at h
 case h_2=>exact h.elim
 rename_i n fr
 split at h
 case isFalse=>exact h.elim
 obtain⟨ks,k1,h⟩:=qG h
 obtain⟨kl,kg⟩:=Sw k1
 have nn:((n.toNat:Nat):Int)=n:=by lia
 refine⟨n.toNat,λi=>ks.getD i (0,0),by rw[afe v1,nn],by lia,e1.tb x hx c P ht,λH2 lh=>?_⟩
 obtain⟨e2,s2⟩:=e1.grow (lh.gw e1.sub (e1.tg P ⟨x,hx,c,ht⟩) e1.tb hx ht hu)
 refine⟨λi hi H3 s3=>?_,λD ys H3 s3 nD hs=>?_⟩
 .obtain⟨T,k,f1,f2,f3⟩:=kg i i (List.getElem?_range hi)
  refine⟨G1,_,T,e2.sub.trans s3,λj U z=>?_,f1,λv G4 H4 m4 n4 s4 r4=>⟨hkt G4 H4 v T _ s4 r4 ?_,n4⟩⟩
  .cases j with
   |zero=>simp at z; subst z; exact⟨.int i,by simp,.inl (.int i)⟩
   |succ j =>
    have z:(Bq src ρ1)[j]?=some (some U):=z
    unfold Bq at z
    rw[List.getElem?_map]at z
    obtain⟨o,eq,z⟩:=Option.map_eq_some_iff.mp z
    obtain⟨l,rfl,z⟩:=Option.bind_eq_some_iff.mp z
    obtain⟨v,h1,h2⟩:=afh e2 z
    refine⟨v,?_,h2.up (Same.refl _) s3⟩
    show(cj src σ)[j]?=some (some v)
    rw[Hx eq,h1]
    rfl
  .rw[f2]
   show some k=some (ks.getD i (0,0))
   rw[List.getD_eq_getElem?_getD,f3]
   rfl
 .obtain⟨e3,s4⟩:=e2.grow (G':=G1) (H':=H3) ⟨Same.refl _,λb o q _=>s3 b o q,e2.sub.trans s3,λt=>t.fr λb o _ q=>s3 b o q,λb h=>.inl h⟩
  rw[hs.eq]
  exact e3.fin ((s1.trans s2).trans s4) (.flt e3.sub nD) (.flt e3.sub nD (Ss _)) h
structure Kt(kt:Tr->Option (Int × Int)) where
 w:PySem.W.Frag->KW
 d:SortKind
 T:∀X:Cx,mL X (λH u k=>∃v,RelV v u/\w X.K H v k) d
 m:∀K {H H':Hp} {v k},Same H H'->w K H v k->w K H' v k
 i:∀{X:Cx} {pins:List (Addr × Obj)} {σ : St} {H:Hp} {s:Shared},Inv X pins σ H s->∀u k k',(∃v,RelV v u/\w X.K H v k)->(∃v,RelV v u/\w X.K H v k')->k=k'
 r:∀K G (H:Hp) v T k,Same G H->Rp (aC K) G H v T->kt T=some k->w K H v k
noncomputable def Ii:Tr->Option (Int × Int)
 |.int i=>some (i,0)
 |_=>none
noncomputable def Ij:Tr->Option (Int × Int)
 |.tup [.int a,.int b]=>some (a,b)
 |_=>none
noncomputable def kyI:Kt Ii:=⟨λ_=>zQ,_,λ_=>aea,λ_ _ _ _ _ _ h=>h,aeb,λK G H v T k s r e=>by
 unfold Ii at e
 split at e <;> cases e
 exact⟨r.int,rfl⟩⟩
noncomputable def kyP:Kt Ij:=⟨oU,_,λ_=>afc,λ_ _ _ _ _ s h=>ae9 s h,λI=>afa I,λK G H v T k s r e=>by
 unfold Ij at e
 split at e <;> cases e
 obtain⟨a,xs,rfl,q,r⟩:=r.tup s
 cases r with
 |cons r1 r =>
  cases r1
  cases r with
  |cons r2 r =>
   cases r2
   cases r
   exact⟨a,rfl,q.toK⟩⟩
theorem afj{fc:List (Str × Addr)}:bindArgs (kla_fn "<lambda>" q ⟨[],[⟨x,ann,p⟩],none,[],[],none,[]⟩ body scope fc pm cd ctv) ⟨[u],[]⟩=pure [(x,u)]:=by
 simp[bindArgs,seqItems?]
 rfl
noncomputable def Ik(e:Expr)(k:Str->Expr->Bool):Bool:=ji e λeO jm qw _=>atName eO λr _=>aX jm λa qx=>bw qx (bw qw (k r a))
theorem afk(h:Ik e k=true):∃r a p q,e=.Call (.Name r p) [a] [] q/\k r a=true:=by
 unfold Ik at h
 walk_at "O"
 exact⟨_,_,_,_,rfl,h⟩
noncomputable def Il(l:List Keyword)(k:Str->Expr->Bool):Bool:=aX l λGQ GR=>zB GQ λGX v _=>pY GX λn=>bw GR (k n v)
theorem afl(h:Il l k=true):∃n v p,l=[⟨some n,v,p⟩]/\k n v=true:=by
 unfold Il at h
 walk_at "O"
 exact⟨_,_,_,rfl,h⟩
noncomputable def Im(e:Expr)(k:Str->Expr->Scope->Bool):Bool:=yZ e λafm body sc _=>zF afm λafn afo afp afq afr afs aft=>bw afn (aX afo λafu afv=>zE afu λz _ _=>bw afv (pZ afp (bw afq (bw afr (pZ afs (bw aft (k z body sc)))))))
theorem afw(h:Im e k=true):∃z body sc t p q,e=.Lambda ⟨[],[⟨z,t,p⟩],none,[],[],none,[]⟩ body sc q/\k z body sc=true:=by
 unfold Im at h
 walk_at "O"
 exact⟨_,_,_,_,_,_,rfl,h⟩
noncomputable def Sy(kt:Kt afx)(y:Str)(x:Str)(Ns:List Str)(src:List (Option Nat))(as:VA oH)(b:VL bN):VE (Ih afx src oH bN) where
 ck Γ e:=ji e λaQ bF bO _=>atName aQ λf _=>aX bF λcA dR=>bw dR (Ik cA λr a=>Il bO λk v=>Im v λz body sc=>f == ("sorted" : Str)&&r == ("range" : Str)&&k == ("key" : Str)&&z == x&&kW Γ f&&kW Γ r&&Γ.B.contains f&&Γ.B.contains r&&Γ.L.contains y&&as.ck Γ [a]&&oR Γ (x::Ns) (none::src) sc []&&decide (∀y∈sc.names,y.2 ≠ .cell)&&decide (sc.names.lookup x=some .local) && !sc.isCoroutine && !sc.isGenerator&&b.ck ⟨x::Ns,sc,Γ.fn,[],[],true,0,[]⟩ body)
 cs:=as.cs
 ok:=@λcl E Γ X e q o h=>by
  walk_at "O"
  replace h:=afk h
  obtain⟨r,a,_,_,rfl,h⟩:=h
  replace h:=afl h
  obtain⟨k,_,_,rfl,h⟩:=h
  replace h:=afw h
  obtain⟨z,body,sc,_,_,_,rfl,h⟩:=h
  simp only[an]at h
  obtain⟨⟨⟨⟨⟨⟨⟨⟨⟨⟨⟨⟨⟨⟨⟨h1,h2⟩,h3⟩,h4⟩,h5⟩,h6⟩,h7⟩,h8⟩,h9⟩,h10⟩,h11⟩,h12⟩,h13⟩,h14⟩,h15⟩,h16⟩:=h
  cases eq_of_beq h1
  cases eq_of_beq h2
  cases eq_of_beq h3
  cases eq_of_beq h4
  obtain⟨S,nd,_,_⟩:=tD h11
  obtain⟨pa,_,na⟩:=as.ok q o h10
  obtain⟨c,P,L,hc,hq⟩:=o.lm y (by simpa using h9)
  have pb:=λA f cd s H=>b.ok (X:=zM X A (x::Ns) (X.env.qual++("<lambda>" : Str)) _ f cd s H) (Γ := ⟨x::Ns,_,Γ.fn,[],[],true,0,[]⟩) rfl rfl h16
  exact(ad9 (te:=Tq (aC X.K) bN) (kt.T X) (kt.m X.K) kt.i o.r (o.B _ (by simpa using h7)) (o.B _ (by simpa using h8)) o.s o.N ⟨S,of_decide_eq_true h12,of_decide_eq_true h13,by simpa using h14,by simpa using h15⟩ hc L.hd L.bm rfl pa (λ_ _ _ _=>afj) pb (eN o h5).1 (eN o h6).1 (na _ (List.mem_cons_self ..))).imp λσ H Q=>afi (c:=c) hq L.nm L.tab L.un (kt.r X.K)
end L2
end
section
namespace L2
open PySem PySem.Spec PyProof.Rows
section
variable {elt t1 i1 t2 i2:Expr}{scope:Scope}{pos:Pos}{it acc:Value}{env:Env}
theorem afy:compTurn (.ListComp elt [⟨t1,i1,[],0⟩,⟨t2,i2,[],0⟩] scope pos) 0 it acc env=(standAt i1.pos >>= λ_=>pyNext it >>= λr=>match r with
   |none=>pure (.done .next)
   |some v=>letOwnedTupleGo t1 it v >>= λ_=>assign t1 env v >>= λ_=>eval i2 env >>= λx=>standAt i2.pos >>= λ_=>foldedSetIterable i2 env x >>= λx=>holding [x] (pyIter x) >>= λj=>runOwn (.compStart (.ListComp elt [⟨t1,i1,[],0⟩,⟨t2,i2,[],0⟩] scope pos) 1 j acc env) env >>= λ_ =>
     again (.compLoop (.ListComp elt [⟨t1,i1,[],0⟩,⟨t2,i2,[],0⟩] scope pos) 0 it acc env)):=by rfl
theorem afz:compTurn (.ListComp elt [⟨t1,i1,[],0⟩,⟨t2,i2,[],0⟩] scope pos) 1 it acc env=(standAt i2.pos >>= λ_=>pyNext it >>= λr=>match r with
   |none=>pure (.done .next)
   | some v=>letOwnedTupleGo t2 it v >>= λ_=>assign t2 env v >>= λ_=>(eval elt env >>= λx=>call (.builtin "list.append") [acc,x] >>= λ_=>pure ()) >>= λ_ =>
     again (.compLoop (.ListComp elt [⟨t1,i1,[],0⟩,⟨t2,i2,[],0⟩] scope pos) 1 it acc env)):=by rfl
variable {prog:Program}{w:World}{A:Around}{R:Result->Shared->Prop}{s:Shared}
theorem afA(h0:codeAny (model prog w) A (.compLoop (.ListComp elt [⟨t1,i1,[],0⟩,⟨t2,i2,[],0⟩] scope pos) 1 it acc env) R s)
  (h:wpAny (model prog w) A (pyIter it) (λit' s'=>codeAny (model prog w) A (.compLoop (.ListComp elt [⟨t1,i1,[],0⟩,⟨t2,i2,[],0⟩] scope pos) 1 it' acc env) R s') (notedBy (model prog w) A env λx s'=>R (.error x) s') s) :
  codeAny (model prog w) A (.compStart (.ListComp elt [⟨t1,i1,[],0⟩,⟨t2,i2,[],0⟩] scope pos) 1 it acc env) R s:=by
 refine codeAny_of_tree ?_
 show wpAny _ _ ((compStart (.ListComp elt [⟨t1,i1,[],0⟩,⟨t2,i2,[],0⟩] scope pos) 1 it acc env).onRaise (λx=>do noteFrame x env; standAt theWindowsPlace)) _ _ s
 refine wpAny_notedAt ?_
 unfold compStart
 show wpAny _ _ (ask >>= _) _ _ s
 refine wpAny_bind (wpAny_askSetting (wpAny_ite ?_))
 split
 .first
   |exact wpAny_bind (wpAny_pure (wpAny_pure (And.intro rfl h0)))
   |exact wpAny_pure (And.intro rfl h0)
 .first
   |exact wpAny_bind (wpAny_rule (wpAny_bind (wpAny_standAt (wpAny_bind (wpAny_mono h (λit' s' h'=>wpAny_pure (And.intro rfl h')) λ_ _ x=>x)))))
   |(refine wpAny_bind (wpAny_rule ?_); show wpAny _ _ (standAt i2.pos >>= _) _ _ s; exact wpAny_bind (wpAny_standAt (wpAny_bind (wpAny_mono h (λit' s' h'=>wpAny_pure (And.intro rfl h')) λ_ _ x=>x))))
theorem afB(I:Nat->Shared->Prop)
  (turn:∀n s,I n s->wpAny (model prog w) A (pyNext it) (λr s₁=>match r with
   |none=>R (.ok .next) s₁
   | some v=>wpAny (model prog w) A (letOwnedTupleGo t2 it v) (λ_ s₁'=>wpAny (model prog w) A (assign t2 env v) (λ_ s₂ => wpAny (model prog w) A (eval elt env) (λx s₃ =>
     wpAny (model prog w) A (call (.builtin "list.append") [acc,x]) (λ_ s₄=>∃m,m<n/\I m s₄) (λ_ _=>False) s₃) (λ_ _=>False) s₂) (λ_ _=>False) s₁') (λ_ _=>False) s₁) (λ_ _=>False) s)
  (n:Nat) (h:I n s):codeAny (model prog w) A (.compLoop (.ListComp elt [⟨t1,i1,[],0⟩,⟨t2,i2,[],0⟩] scope pos) 1 it acc env) R s:=by
 refine codeAny_loop rfl I (λn s hI=>?_) n h
 show wpAny _ _ ((compTurn (.ListComp elt [⟨t1,i1,[],0⟩,⟨t2,i2,[],0⟩] scope pos) 1 it acc env).onRaise (λx=>do noteFrame x env; theTreesLotGoes x)) _ _ s
 refine wpAny_noted (wpAny_noRaise ?_)
 rw[afz]
 refine wpAny_bind (wpAny_standAt (wpAny_bind (wpAny_mono (turn n s hI) (λr s₁ h₁=>?_) λ_ _ h'=>h')))
 cases r with
 |none=>exact wpAny_pure h₁
 |some v =>
  refine wpAny_bind (wpAny_mono h₁ (λ_ s₁' h₁'=>?_) λ_ _ h'=>h')
  exact wpAny_bind (wpAny_mono h₁' (λ_ s₂ h₂=>wpAny_bind (wpAny_bind (wpAny_mono h₂ (λx s₃ h₃=>wpAny_bind (wpAny_mono h₃
   (λ_ s₄ h₄=>wpAny_pure (wpAny_pure ⟨rfl,h₄⟩)) λ_ _ h'=>h')) λ_ _ h'=>h'))) λ_ _ h'=>h')
theorem afC(I:Nat->Shared->Prop)(hs:∀x,foldedSetIterable i2 env x=pure x)
  (turn:∀n s,I n s->wpAny (model prog w) A (pyNext it) (λr s₁=>match r with
   |none=>R (.ok .next) s₁
   | some v=>wpAny (model prog w) A (letOwnedTupleGo t1 it v) (λ_ s₁'=>wpAny (model prog w) A (assign t1 env v) (λ_ s₂ => wpAny (model prog w) A (eval i2 env) (λx s₃ => wpAny (model prog w) A (pyIter x) (λj s₄ =>
     codeAny (model prog w) A (.compStart (.ListComp elt [⟨t1,i1,[],0⟩,⟨t2,i2,[],0⟩] scope pos) 1 j acc env) (λr s₅=>r=.ok .next/\∃m,m<n/\I m s₅) s₄) (λ_ _=>False) s₃) (λ_ _=>False) s₂) (λ_ _=>False) s₁') (λ_ _=>False) s₁) (λ_ _=>False) s)
  (n:Nat) (h:I n s):codeAny (model prog w) A (.compLoop (.ListComp elt [⟨t1,i1,[],0⟩,⟨t2,i2,[],0⟩] scope pos) 0 it acc env) R s:=by
 refine codeAny_loop rfl I (λn s hI=>?_) n h
 show wpAny _ _ ((compTurn (.ListComp elt [⟨t1,i1,[],0⟩,⟨t2,i2,[],0⟩] scope pos) 0 it acc env).onRaise (λx=>do noteFrame x env; theTreesLotGoes x)) _ _ s
 refine wpAny_noted (wpAny_noRaise ?_)
 rw[afy]
 refine wpAny_bind (wpAny_standAt (wpAny_bind (wpAny_mono (turn n s hI) (λr s₁ h₁=>?_) λ_ _ h'=>h')))
 cases r with
 |none=>exact wpAny_pure h₁
 |some v =>
  refine wpAny_bind (wpAny_mono h₁ (λ_ s₁' h₁'=>?_) λ_ _ h'=>h')
  refine wpAny_bind (wpAny_mono h₁' (λ_ s₂ h₂=>?_) λ_ _ h'=>h')
  refine wpAny_bind (wpAny_mono h₂ (λx s₃ h₃=>?_) λ_ _ h'=>h')
  refine wpAny_bind (wpAny_standAt (wpAny_bind (wpAny_of_eq (hs x) (wpAny_bind (wpAny_holding (wpAny_mono h₃ (λj s₄ h₄=>?_) λ_ _ h'=>h'))))))
  refine wpAny_bind (wpAny_runOwn (codeAny_mono h₄ λr s₅ h₅=>?_))
  obtain⟨rfl,h₅⟩:=h₅
  exact wpAny_pure ⟨rfl,h₅⟩
end
noncomputable def SJ(D:Addr)(j5:TI)(g2:TG)(te:TE)(F:St->Hp->Prop):St->Hp->Prop:=λσ2 H2=>j5 σ2 H2 λJ H3=>∃V:Nat->Nat->St->Hp->Prop,(∃k,V 0 k σ2 H3)/\∀j k σ3 H4,V j k σ3 H4 ->
 (J.stop j H4/\F σ3 H4)\/(J.go j H4/\∀y H5,J.jP j H4 y H5->g2 y σ3 H5 λσ4 H6=>te σ4 H6 λv H7=>∃xs,H7 D=some (.lst xs)/\xs.length<sizeLine/\∃k',k'<k/\V (j+1) k' σ4 (upd H7 D (.lst (xs++[v]))))
noncomputable def Io(wi:TI)(g:TG)(src:List (Option Nat))(j5:TI)(g2:TG)(te:TE):TE:=λσ H Q=>wi σ H λJ H1=>∀D,H1 D=none ->
 ∃W:Nat->Nat->St->Hp->Prop,(∃m,W 0 m (cj src σ) (upd H1 D (.lst [])))/\∀i m σ' H',W i m σ' H' ->
  (J.stop i H'/\Ec Q D H')\/(J.go i H'/\∀x cV,J.jP i H' x cV->g x σ' cV (SJ D j5 g2 te λσ3 H3=>∃m',m'<m/\W (i+1) m' σ3 H3))
section
variable {X Y:Cx}{N:List Str}{C:Addr}{s0:Shared}{H0:Hp}{ex:List Addr}{elt tg iter jE iter2:Expr}{scope:Scope}{pos:Pos}{j5:TI}{g2:TG}{te:TE}
theorem afD(hi:PI Y jE iter2 j5)(hg:PG Y jE g2)(he:PE Y elt te)(hc:Y.calm=true)(hx:Y.xe=λ_ _=>False)(I:Inv Y pins σ H s)(h:SJ D j5 g2 te F σ H) :
  wpAny (model Y.prog Y.w) Y.A (eval iter2 Y.env) (λx s₃=>wpAny (model Y.prog Y.w) Y.A (pyIter x) (λj s₄=>codeAny (model Y.prog Y.w) Y.A (.compStart (.ListComp elt [⟨tg,iter,[],0⟩,⟨jE,iter2,[],0⟩] scope pos) 1 j (.ref D) Y.env) (λr s₅=>r=.ok .next/\∃σ' H',Inv Y pins σ' H' s₅/\F σ' H') s₄) (λ_ _=>False) s₃) (λ_ _=>False) s:=by
 rw[<-hx]
 refine aF (hi pins s σ H _ I h) λv s1 h1=>aF h1 λitv s2 h2=>?_
 obtain⟨it,fp,tn,J,H2,e,I2,T,st2,f2,V,⟨k0,v0⟩,turn⟩:=h2
 subst e
 have up:∀{H':Hp},(∀b∈fp,H' b=none)->∀b∈fp,cg Y pins H' b:=λhn b hb=>⟨hn b hb,(f2 b hb).2⟩
 have loop:codeAny (model Y.prog Y.w) Y.A (.compLoop (.ListComp elt [⟨tg,iter,[],0⟩,⟨jE,iter2,[],0⟩] scope pos) 1 (.ref it) (.ref D) Y.env) (λr s₅=>r=.ok .next/\∃σ' H',Inv Y pins σ' H' s₅/\F σ' H') s2:=by
  refine afB (λn s'=>∃i σ' H',Inv Y pins σ' H' s'/\tn i s'.heap/\(∀b∈fp,H' b=none)/\V i n σ' H') ?_ k0 ⟨0,σ,H2,I2,st2,λb hb=>(f2 b hb).1,v0⟩
  rintro n s5 ⟨i,σ5,H5,I5,iw,kj,w5⟩
  rcases turn i n σ5 H5 w5 with⟨stop,qn⟩|⟨go,step⟩
  .refine aF (T.done Y rfl rfl rfl hc i pins s5 σ5 H5 (λ_ _=>False) I5 (up kj) iw stop) λr s6 ⟨hr,I6⟩=>?_
   subst hr
   exact⟨rfl,σ5,H5,I6,qn⟩
  .refine aF (T.item Y rfl rfl rfl hc i pins s5 σ5 H5 (λ_ _=>False) I5 (up kj) iw go) λr s6 ⟨u,hr,h6⟩=>?_
   subst hr
   refine aF h6 λ_ s7 ⟨x,H7,I7,r7,y7,gH,wu⟩=>?_
   have wz:=I7.pinned (up wu) (T.obj _ _ gH)
   rw[<-hx]
   refine aF (hg _ s7 σ5 H7 x u _ wz r7 (step x H7 y7)) λ_ s8 ⟨σ8,H8,I8,q8⟩=>?_
   refine aF (he _ s8 σ8 H8 _ I8 q8) λyv s9 ⟨y,H9,I9,r9,q9⟩=>?_
   obtain⟨xs,e9,l9,m',hm,w9⟩:=q9
   refine aF (DW (X:=Y) _ s9 σ8 H9 (.ref D) [y] (.ref D) [yv] (λ_ H'=>V (i+1) m' σ8 H') I9 rfl (.cons r9 .nil) ⟨D,xs,y,rfl,rfl,e9,l9,w9⟩) λ_ Ba ⟨_,Ht,qD,_,Hu⟩=>?_
   refine⟨m',hm,i+1,σ8,Ht,qD.pJ,T.keep _ _ _ gH λb hb o e=>(qD.pin (b,o) (List.mem_append_right _ (List.mem_append_right _ (kh hb e)))).1,λb hb=>?_,Hu⟩
   obtain⟨o,e,d⟩:=T.obj _ _ gH b hb
   exact(qD.pin (b,o) (List.mem_append_right _ (List.mem_append_right _ (kh hb e)))).2.1
 exact afA loop (T.self _ _ _ _ _ st2 loop)
end
section
variable {X:Cx}{elt tg iter jE iter2:Expr}{scope sc:Scope}{pos:Pos}{No N:List Str}{src:List (Option Nat)}{wi j5:TI}{g g2:TG}{te:TE}
theorem afE{pins:List (Addr × Obj)}{RR:Value->Addr->Result->Shared->Prop}(hsc:X.env.scope=sc)(fX:X.N=No)(S:nQ sc No N src scope)(hc:X.calm=true)
  (hi:PI X tg iter wi) (hg:∀C s H ex,PG (bx X N scope C s H ex) tg g) (hi2:∀C s H ex,PI (bx X N scope C s H ex) jE iter2 j5) (hg2:∀C s H ex,PG (bx X N scope C s H ex) jE g2) (he:∀C s H ex,PE (bx X N scope C s H ex) elt te) (I:Inv X pins σ H s) (h:Io wi g src j5 g2 te σ H Q)
  (hs2:∀(env:Env) x,foldedSetIterable iter2 env x=pure x) (hRR:∀D C H' s' m,Inv X pins σ H' s'->H' C=none->C≠X.env.locals->X.s₀.heap.objs.size<=C->(∀x c,X.env.cells.lookup x=some c->c≠C)->(∀p∈X.pn++pins,p.1≠C)->s'.heap.Ns C m->Q (.ref D) H'->RR (.ref D) C (.ok .next) s') :
  wpAny (model X.prog X.w) X.A (eval iter X.env) (λx s₁=>wpAny (model X.prog X.w) X.A (pyIter x) (λit s₂=>wpAny (model X.prog X.w) X.A (newList []) (λacc s₃ =>
   wpAny (model X.prog X.w) X.A (newFunctionEnv scope X.env.globals (bR X.env.cells scope.names []) [] X.env.qual none .none (some X.env)) (λcenv s₄ =>
    codeAny (model X.prog X.w) X.A (.compStart (.ListComp elt [⟨tg,iter,[],0⟩,⟨jE,iter2,[],0⟩] scope pos) 0 it acc {cenv with scope:=relabel scope X.env }) (RR acc cenv.locals) s₄) X.xe s₃) X.xe s₂) X.xe s₁) X.xe s:=by
 refine aF (hi pins s σ H _ I h) λv s1 h1=>aF h1 λitv s2 h2=>?_
 obtain⟨it,fp,tn,J,H2,e,I2,T,st2,f2,hW⟩:=h2
 subst e
 have Hr:H2 s2.heap.objs.size=none:=I2.hok.fresh (Nat.le_refl _)
 obtain⟨W,⟨m0,w0⟩,turn⟩:=hW s2.heap.objs.size Hr
 have wk:∀b∈fp,b<s2.heap.objs.size:=λb hb=>by
  obtain⟨o,e,_⟩:=T.obj 0 _ st2 b hb
  exact Heap.lt_size e
 refine wpAny_newObj_type ?_
 have I3:Inv X pins σ (upd H2 s2.heap.objs.size (.lst [])) {s2 with heap:=s2.heap.push {cls:=.type "list",dict:=none,data:=.seq ([]:List Value).toArray } }:=I2.yp (t':=s2.toks) (ys:=[]) .nil (Nat.zero_le _)
 have f3:∀b∈fp,cg X pins (upd H2 s2.heap.objs.size (.lst [])) b:=λb hb=>by
  obtain⟨q,r⟩:=f2 b hb
  exact⟨by rw[aL (Nat.ne_of_lt (wk b hb))]; exact q,r⟩
 have st3:tn 0 (s2.heap.push {cls:=.type "list",dict:=none,data:=.seq ([]:List Value).toArray }):=T.keep _ _ _ st2 λb hb o e=>Heap.get?_push_of_some _ e
 have j4:∀b∈fp,b<(s2.heap.push {cls:=.type "list",dict:=none,data:=.seq ([]:List Value).toArray }).objs.size:=λb hb=>by
  rw[Heap.size_push]; exact Nat.lt_succ_of_lt (wk b hb)
 generalize hD:s2.heap.objs.size=D at *
 generalize hh3:s2.heap.push {cls:=.type "list",dict:=none,data:=.seq ([]:List Value).toArray }=h3 at *
 generalize hH3:upd H2 D (.lst [])=H3 at *
 refine O6 λh₁ hns old ck=>?_
 dsimp only at hns old ck ⊢
 have I4:Inv (bx X N scope h3.objs.size {s2 with heap:=h3 } H3 fp) [] (cj src σ) H3 {s2 with heap:=h₁,toks:=s2.toks+([]:List (Str × Value)).length }:=O7 (s:={s2 with heap:=h3 }) hsc fX S I3 f3 j4 hns old ck
 have pB:tn 0 h₁ := T.keep _ _ _ st3 λb hb o e=>old b o e
 have loop:codeAny (model X.prog X.w) X.A (.compLoop (.ListComp elt [⟨tg,iter,[],0⟩,⟨jE,iter2,[],0⟩] scope pos) 0 (.ref it) (.ref D) (compEnvC scope (cellsFrom (h3.objs.size+1) scope.names (bR X.env.cells scope.names [])) h3.objs.size X.env)) (RR (.ref D) h3.objs.size) {s2 with heap:=h₁,toks:=s2.toks+([]:List (Str × Value)).length }:=by
  have stat:∀{H':Hp},(∀b∈fp,H' b=none)->∀b∈fp,cg (bx X N scope h3.objs.size {s2 with heap:=h3 } H3 fp) [] H' b:=λhn b hb=>by
   obtain⟨g0,g1,g2,g3,g4,g5⟩:=f3 b hb
   refine⟨hn b hb,Nat.ne_of_lt (j4 b hb),λz=>?_,.inl hb,λx c e=>?_,λp hp=>absurd (show p∈([]:List (Addr × Obj))from hp) (by simp)⟩
   .rcases List.mem_cons.mp (I3.uM b z)with z|z
    .exact g1 z
    .exact g2 z
   .have e:(cellsFrom (h3.objs.size+1) scope.names (bR X.env.cells scope.names [])).lookup x=some c:=e
    rw[lV,rA]at e
    split at e
    .rename_i z
     cases e
     exact λy=>absurd (Nat.le_trans (ck.empty x c (PySem.mem_of_lookup z)).2 (y▸Nat.le_of_lt (j4 b hb))) (Nat.not_succ_le_self _)
    .rcases nO e with q|q
     .simp at q
     .exact g4 x c q
  refine afC (λn s'=>∃i σ' H',Inv (bx X N scope h3.objs.size {s2 with heap:=h3 } H3 fp) [] σ' H' s'/\tn i s'.heap/\(∀b∈fp,H' b=none)/\W i n σ' H') (hs2 _) ?_ m0 ⟨0,cj src σ,H3,I4,pB,λb hb=>(f3 b hb).1,w0⟩
  rintro n s5 ⟨i,σ5,H5,I5,iw,kj,w5⟩
  rcases turn i n σ5 H5 w5 with⟨stop,qn⟩|⟨go,step⟩
  .refine aF (T.done (bx X N scope h3.objs.size {s2 with heap:=h3 } H3 fp) rfl rfl rfl hc i [] s5 σ5 H5 (λ_ _=>False) I5 (stat kj) iw stop) λr s6 ⟨hr,I6⟩=>?_
   subst hr
   obtain⟨mC,hnC,_⟩:=id I6.loc
   have I7:Inv X pins σ H5 s6:=I3.call' (ch:=fp) I6.os I6.base I6.hok I6.bare λb hb=>by
    obtain⟨g0,g1,g2,g3,g4,g5⟩:=f3 b hb
    exact⟨g3,g1,g4,g5⟩
   refine hRR D h3.objs.size H5 s6 mC I7 I6.free (Nat.ne_of_gt I3.lt) I3.sz (λx c e z=>?_) (λp hp z=>?_) hnC qn
   .obtain⟨v,q⟩:=I3.cell x c e
    exact absurd q.lt (by rw[z]; exact Nat.lt_irrefl _)
   .exact absurd (Heap.lt_size (I3.pin p hp).1) (by rw[z]; exact Nat.lt_irrefl _)
  .refine aF (T.item (bx X N scope h3.objs.size {s2 with heap:=h3 } H3 fp) rfl rfl rfl hc i [] s5 σ5 H5 (λ_ _=>False) I5 (stat kj) iw go) λr s6 ⟨u,hr,h6⟩=>?_
   subst hr
   refine aF h6 λ_ s7 ⟨x,H7,I7,r7,y7,gH,wu⟩=>?_
   have wz:=I7.pinned (stat wu) (T.obj _ _ gH)
   refine aF (hg _ _ _ _ _ s7 σ5 H7 x u _ wz r7 (step x H7 y7)) λ_ s8 ⟨σ8,H8,I8,q8⟩=>?_
   refine wpAny_mono (afD (hi2 _ _ _ _) (hg2 _ _ _ _) (he _ _ _ _) hc rfl I8 q8) (λxv s9 h9=>wpAny_mono h9 (λjv Ba h10=>codeAny_mono h10 λr wH h11=>?_) λ_ _ z=>z) λ_ _ z=>z
   obtain⟨rfl,σ9,H9,I9,m',hm,w9⟩:=h11
   refine⟨rfl,m',hm,i+1,σ9,H9,I9.pJ (pins:=[]),T.keep _ _ _ gH λb hb o e=>(I9.pin (b,o) (List.mem_append_right _ (List.mem_append_right _ (kh hb e)))).1,λb hb=>?_,w9⟩
   obtain⟨o,e,d⟩:=T.obj _ _ gH b hb
   exact(I9.pin (b,o) (List.mem_append_right _ (List.mem_append_right _ (kh hb e)))).2.1
 exact codeAny_compStart_list loop (T.self _ _ _ _ _ pB loop)
theorem afF(hsc:X.env.scope=sc)(fX:X.N=No)(S:nQ sc No N src scope)(hc:X.calm=true)
  (hi:PI X tg iter wi) (hg:∀C s H ex,PG (bx X N scope C s H ex) tg g) (hi2:∀C s H ex,PI (bx X N scope C s H ex) jE iter2 j5) (hg2:∀C s H ex,PG (bx X N scope C s H ex) jE g2) (he:∀C s H ex,PE (bx X N scope C s H ex) elt te)
  (hs:∀x,foldedSetIterable iter X.env x=pure x:=by intro _; rfl) (hs2:∀(env:Env) x,foldedSetIterable iter2 env x=pure x:=by intro _ _; rfl):PE X (.ListComp elt [⟨tg,iter,[],0⟩,⟨jE,iter2,[],0⟩] scope pos) (Io wi g src j5 g2 te):=by
 refine⟨λpins s σ H Q I h=>?_⟩
 rw[eval_ListComp]
 have hcl:closureFor scope X.env=pure (bR X.env.cells scope.names []):=yq λy hy e=>by
  have k:=S.free y hy e
  rw[<-hsc]at k
  obtain⟨c,q⟩:=I.ok.has y.1 k
  rw[q]; rfl
 refine wpAny_comprehension_free (use:=none) rfl hs hcl S.kind S.names (afE (RR:=λacc C=>compPost (model X.prog X.w) X.A X.xe none (EP X pins σ Q) acc C) hsc fX S hc hi hg hi2 hg2 he I h hs2 ?_)
 intro D C H' s' m I' n1 n2 n3 n4 n5 hn q
 refine⟨m,hn,λh' hs'=>⟨.ref D,H',?_,rfl,q⟩⟩
 exact I'.turned (t':=s'.toks) (λb o hb e=>(hs'.2 b hb).trans e) n1 (Ne.symm (Ne.symm n2)) (.inr n3) n4 n5
end
noncomputable abbrev QF:=En->Rs Tr
noncomputable def Br(i:Nat):QF:=λρ=>match ρ[i]? with
 |some (.sh T)=>.ok T
 |_=>.bad
noncomputable def oW(ts:List Tr)(k:Tr):Rs (Nat × Tr):=match k with
 | .int i=>(match fW ts.length i with
  | some j=>(match ts[j]? with
   |some u=>.ok (j,u)
   |none=>.bad)
  |none=>.bad)
 |_=>.bad
theorem SM(h:oW ts k=.ok (j,u)):∃i,k=.int i/\fW ts.length i=some j/\ts[j]?=some u:=by
 unfold oW at h
 (repeat' split at h) <;> cases h
 exact⟨_,rfl,‹_›,‹_›⟩
theorem SN(ts:List Tr)(k:Tr)(c:Str):oW ts k ≠ .ex c:=by unfold oW; (repeat' split) <;> (intro z; cases z)
noncomputable def qJ(ρ : En)(i:Nat):Rs (List Tr):=match ρ[i]? with
 |some (.dp ts)=>.ok ts
 |_=>.bad
theorem afG(ρ : En)(i:Nat)(c:Str):qJ ρ i ≠ .ex c:=by
 unfold qJ
 split <;> (intro z; cases z)
section
variable {K:PySem.W.Frag}{R:Addr->Prop}{ρ : En}{σ : St}{G H:Hp}{F:Fp}
theorem DR.row:∀{xs:List V} {ts:List Tr} {bs:List Addr} {m:Nat} {us:List Tr},DR K G H xs ts bs->bs.Nodup->ts[m]?=some (.lst us)->∃b ys,xs[m]?=some (.ref b)/\b∈bs/\H b=some (.lst ys)/\aA K G ys us/\∀ys' us',aA K G ys' us'->DR K G (upd H b (.lst ys')) xs (ts.set m (.lst us')) bs
 |_,_,_,_,_,.nil,_,q=>by simp at q
 |_,_,_,0,_,.cl n _ _,_,q=>by simp at q; subst q; cases n
 |_,_,_,m+1,_,.cl n h r,d,q=>by
  obtain⟨b,ys,h1,h2,h3,h4,h5⟩:=DR.row (m:=m) r d (by simpa using q)
  exact⟨b,ys,by simpa using h1,h2,h3,h4,λys' us' r'=>.cl n h (h5 ys' us' r')⟩
 |_,_,_,0,_,@DR.rw _ _ _ b ys _ _ _ _ h q' r,d,q=>by
  simp at q; subst q
  exact⟨b,ys,rfl,List.mem_cons_self ..,h,q',λys' us' r'=>.rw cN r' (r.mono (Same.refl _) λc hc o z=>by rw[aL (show c≠b from λy=>(List.nodup_cons.mp d).1 (y▸hc))]; exact z)⟩
 |_,_,_,m+1,_,@DR.rw _ _ _ b0 _ _ _ _ _ h q' r,d,q=>by
  obtain⟨b,ys,h1,h2,h3,h4,h5⟩:=DR.row (m:=m) r (List.nodup_cons.mp d).2 (by simpa using q)
  exact⟨b,ys,by simpa using h1,List.mem_cons_of_mem _ h2,h3,h4,λys' us' r'=>.rw (by rw[aL (show b0≠b from λy=>(List.nodup_cons.mp d).1 (y▸h2))]; exact h) q' (h5 ys' us' r')⟩
theorem Ok.putD(e:Ok K R ρ σ G H F)(q:qJ ρ i=.ok ts)(hm:ts[m]?=some (.lst us)):∃a xs b ys,σ[i]?=some (some (.ref a))/\H a=some (.lst xs)/\xs.length=ts.length/\xs[m]?=some (.ref b)/\H b=some (.lst ys)/\aA K G ys us/\∀ys' us',aA K G ys' us'->Ok K R (ρ.set i (.dp (ts.set m (.lst us')))) σ G (upd H b (.lst ys')) F/\aH K G H F G (upd H b (.lst ys')) F:=by
 unfold qJ at q
 split at q <;> cases q
 rename_i k
 have z:=e.sl i
 rw[k]at z
 obtain⟨a,xs,bs,h1,h2,nd,h3,h4,d⟩:=z
 obtain⟨b,ys,g1,g2,g3,g4,g5⟩:=d.row (List.nodup_cons.mp (h2▸nd)).2 hm
 have fb:Fn F b:=⟨i,by rw[h2]; exact List.mem_cons_of_mem _ g2⟩
 have nab:a≠b:=λz=>(List.nodup_cons.mp (h2▸nd)).1 (z▸g2)
 have len:∀{xs ts bs},DR K G H xs ts bs->xs.length=ts.length:=λd=>by
  induction d with
  |nil=>rfl
  |cl _ _ _ ih=>rw[List.length_cons,List.length_cons,ih]
  |rw _ _ _ ih=>rw[List.length_cons,List.length_cons,ih]
 have gb:=e.hid b fb
 refine⟨a,xs,b,ys,h1,h4,len d,g1,g3,g4,λys' us' r'=>⟨?_,Same.refl _,λc o h n t=>by rw[aL (show c≠b from λz=>n (z▸fb))]; exact h,λ_ h=>.inl h,λ_ h=>.inr h,λc h=>?_⟩⟩
 .have eF:iV F i (F i)=F:=by funext j; unfold iV; split <;> first|rfl|rw[‹j=i›]
  refine eF▸e.one i (F i) (by rw[List.length_set,e.len]) (λj n=>⟨jB n,rfl⟩) (Same.refl _) (λc o h=>?_) (e.tb.upd g3) (λc h=>.inl h) (λj n c hc o h=>?_) (λc h z=>?_) (λc h=>⟨e.hid c ⟨i,h⟩,λj n z=>n (e.di j i c z h)⟩) ?_
  .rw[aL λz=>by rw[z,gb]at h; cases h]; exact e.sub c o h
  .rw[aL λz=>n (e.di j i c hc (by rw[h2,z]; exact List.mem_cons_of_mem _ g2))]; exact h
  .by_cases y:c=b
   .subst y; rw[cN]at z; cases z
   .rw[aL y]at z; exact(e.rg c h).2 z
  .rw[gY (List.getElem?_eq_some_iff.mp k).1]
   exact⟨a,xs,bs,h1,h2,nd,h3,by rw[aL nab]; exact h4,g5 ys' us' r'⟩
 .by_cases y:c=b
  .subst y; rw[cN]at h; cases h
  .rw[aL y]at h; exact h
end
theorem aA.set{K:PySem.W.Frag}{H:Hp}{v:V}{T:Tr}(h:Rep K H v T):∀{xs:List V} {ts:List Tr} (j:Nat),aA K H xs ts->aA K H (xs.set j v) (ts.set j T)
 |_,_,_,.nil=>.nil
 |_,_,0,.cons _ r=>.cons h r
 |_,_,j+1,.cons h1 r=>.cons h1 (aA.set h j r)
noncomputable def SQ(i:Nat)(fk fj:QF)(fe:EF):SF:=λρ=>(fe ρ).bind λp=>(rQ p.1).bind λT=>(qJ p.2 i).bind λts=>(gA (fk p.2)).bind λk=>(oW ts k).bind λz=>match z.2 with
 |.lst us=>(gA (fj p.2)).bind λj=>(oW us j).bind λy=>.ok (.nx,p.2.set i (.dp (ts.set z.1 (.lst (us.set y.1 T)))))
 |_=>.bad
theorem SX{K:PySem.W.Frag}(e:Ok K R ρ σ G H F)(h:Br k ρ=.ok (.int z)) : σ[k]?=some (some (.int z)):=by
 unfold Br at h
 split at h <;> cases h
 have y:=e.sl k
 rw[‹ρ[k]?=_›]at y
 obtain⟨_,v,h1,h2⟩:=y
 cases h2
 exact h1
theorem S5(h:vL y=true)(v:Value):assign (.Subscript o y p) env v=(do let ov <-holding [v] (eval o env); let iv <-holding [v,ov] (eval y env); standAt p; holding [v,ov,iv] (setItem ov iv v); release [v,ov,iv] []):=by
 cases y <;> first|rfl|cases h
noncomputable def S6(i k j:Nat)(a:VE aD):VS (SQ i (Br k) (Br j) aD) where
 ck Γ e:=oA e λaQ v _=>aX aQ λbF bO=>mF bF λcA dR _=>mF cA λeO jm _=>atName eO λx _=>atName jm λy _=>atName dR λz _=>bw bO (jX Γ i x&&jX Γ k y&&jX Γ j z&&qu v&&a.ck Γ v)
 cs:=a.cs
 ok q o h:=by
  walk_at "O"
  simp only[an]at h
  obtain⟨⟨⟨⟨h1,h2⟩,h3⟩,h4⟩,h5⟩:=h
  refine(Di (a.ok q o h5) (M8 (DK DN (qe o h1) (qe o h2) (Gj rfl)) (qe o h3) set_list (S5 rfl)) (by unfold swapsWithSole; exact vW h4) rfl rfl).imp λD σ H=>cR λR ρ G F e h=>dX e .refl h λp h v G1 H1 F1 e1 s1 v1=>?_
  obtain⟨T,kT,h⟩:=h.okb (QT _)
  obtain⟨G2,e2,s2,_,rv⟩:=e1.rR e s1 v1 kT
  obtain⟨ts,k0,h⟩:=h.okb (afG _ _)
  obtain⟨kk,g1,h⟩:=qG h
  obtain⟨⟨m,u⟩,k2,h⟩:=h.okb (SN _ _)
  cases u <;> try exact h.elim
  obtain⟨jj,g2,h⟩:=qG h
  obtain⟨⟨m',u'⟩,k3,hf⟩:=h.okb (SN _ _)
  obtain⟨z,rfl,h5,h6⟩:=SM k2
  obtain⟨z',rfl,h7,h8⟩:=SM k3
  obtain⟨a,xs,b,ys,q1,q2,q3,q4,q5,q6,q7⟩:=e2.putD k0 h6
  obtain⟨e3,s3⟩:=q7 _ _ (q6.set rv m')
  refine⟨_,q1,_,SX e2 g1,.inl ⟨a,xs,z,.ref b,rfl,rfl,aK.of q2,?_,_,SX e2 g2,b,ys,z',m',rfl,rfl,q5,by rw[q6.length]; exact h7,hf σ G2 _ F1 e3 (s2.trans s3)⟩⟩
  unfold dH
  rw[q3,h5]
  exact q4
noncomputable def LR:Sl->Sl
 |.sh T=>.sh T
 |.ow ts=>.sh (.lst ts)
 |.dp ts=>.sh (.lst ts)
 |_=>.un
noncomputable def vw(ρ : En):En := ρ.map LR
noncomputable def S7(c:BF):BF:=λρ=>(gA (c (vw ρ))).bind λp=>.ok (p.1,ρ)
noncomputable def afH(i:Nat)(f:EF):SF:=λρ=>(f ρ).bind λp=>match p.1 with
 |.v (.lst ts) true=>.ok (.nx,p.2.set i (.ow ts))
 |.v T _=>.ok (.nx,p.2.set i (.sh T))
 |_=>.bad
noncomputable def wI(g:GF)(mV:IF)(g2:GF)(f:EF):List Tr->En->Rs (List Tr × En)
 | [],ρ=>.ok ([],ρ)
 |u::us,ρ=>(g u ρ).bind λρ1=>(mV ρ1).bind λq=>if q.1.length<=1000 then(gC g2 jw f q.1 q.2).bind λy=>(wI g mV g2 f us y.2).bind λz=>.ok (y.1++z.1,z.2)else .bad
noncomputable def Ip(src:List (Option Nat))(fi:IF)(g:GF)(mV:IF)(g2:GF)(f:EF):EF:=λρ=>(fi ρ).bind λp=>if p.1.length<=100 then(gA (wI g mV g2 f p.1 (eG src p.2))).bind λz=>if eZ src z.2 p.2=true then .ok (.v (.lst z.1) true,bM src z.2 p.2)else .bad else .bad
noncomputable abbrev InO(K:PySem.W.Frag)(R:Addr->Prop)(gf:GF)(mV:IF)(oX:GF)(f:EF)(src:List (Option Nat))(σ : St)(D:Addr)(G1 H1:Hp)(F1:Fp)(us:List Tr)(z:List Tr × En):Nat->Nat->St->Hp->Prop:=λi m τ H'=>m=us.length-i/\i<=us.length/\∃ρ' G' F' xs acc,Ok K R ρ' τ G' H' F'/\aH K G1 H1 F1 G' H' F'/\(H' D=some (.lst xs)/\¬Fn F' D/\G' D=none)/\aA K G' xs acc/\xs.length<=1000*i/\(∀k j:Nat,src[k]?=some (some j) -> τ[k]?=(cj src σ)[k]?)/\∃y,wI gf mV oX f (us.drop i) ρ'=.ok y/\z=(acc++y.1,y.2)
noncomputable abbrev InI(K:PySem.W.Frag)(R:Addr->Prop)(oX:GF)(f:EF)(src:List (Option Nat))(σ : St)(D:Addr)(G1 H1:Hp)(F1:Fp)(G5:Hp)(lu:List Tr)(al:List Tr)(ρe:En)(i:Nat):Nat->Nat->St->Hp->Prop:=λj k τ' H'=>k=lu.length-j/\j<=lu.length/\∃ρ' G' F' xs' acc',Ok K R ρ' τ' G' H' F'/\aH K G1 H1 F1 G' H' F'/\Same G5 G'/\(H' D=some (.lst xs')/\¬Fn F' D/\G' D=none)/\aA K G' xs' acc'/\xs'.length<=1000*i+j/\(∀k j:Nat,src[k]?=some (some j) -> τ'[k]?=(cj src σ)[k]?)/\∃y',gC oX jw f (lu.drop j) ρ'=.ok y'/\al=acc'++y'.1/\y'.2 = ρe
theorem afI{t:Tx}(I:Inj src)(hj:∀k j:Nat,src[k]?=some (some j)->k∉js/\k∉js2)(ng:∀T ρ c,gf T ρ ≠ .ex c)(ng2:∀T ρ c,oX T ρ ≠ .ex c)(h:Te t (Ip src fi gf mV oX f) σ H Q):Io (Ti t fi) (kZ t.K gf js) src (Ti ⟨t.K,λ_ _=>False⟩ mV) (kZ t.K oX js2) (Te ⟨t.K,λ_ _=>False⟩ f) σ H Q:=by
 obtain⟨R,ρ,G,F,e,h⟩:=h
 refine⟨R,ρ,G,F,e,h.run (aH.refl (G:=G)) λp h J G1 H1 F1 e1 s1 it D hD=>?_⟩
 obtain⟨us,ρ1⟩:=p
 dsimp only at h it e1
 split at h
 case isFalse=>exact h.elim
 rename_i hlen
 obtain⟨z,kz,h⟩:=qG h
 split at h
 case isFalse=>exact h.elim
 rename_i so
 have mv:∀{G3 H3 F3},aH t.K G1 H1 (inF src ρ1 F1) G3 H3 F3->∀ys,aH t.K G1 H1 (inF src ρ1 F1) G3 (upd H3 D (.lst ys)) F3:=λs ys=>⟨s.gg,λb o h n t=>by rw[aL (iz h hD)]; exact s.fr b o h n t,s.nw,s.nf,λb h=>by
  by_cases z:b=D
  .subst z; exact hD
  .rw[aL z]at h; exact s.dm b h⟩
 refine⟨InO t.K R gf mV oX f src σ D G1 H1 (inF src ρ1 F1) us z,⟨us.length,by simp,Nat.zero_le _,eG src ρ1,G1,inF src ρ1 F1,[],[],((e1.enter I).grow (.flt e1.sub hD)).1,((e1.enter I).grow (.flt e1.sub hD)).2,⟨cN,λh=>e1.fs hD (tu h),e1.sub.free hD⟩,.nil,Nat.zero_le _,λ_ _ _=>rfl,z,kz,rfl⟩,?_⟩
 rintro i m τ H2 ⟨rfl,hi,ρ2,G2,F2,xs,acc,e2,s2,d2,a2,l2,g2,y,ky,rfl⟩
 have q:=it G2 H2 s2.gg e2.sub i
 by_cases hlt:i<us.length
 .rw[List.drop_eq_getElem_cons hlt]at ky
  obtain⟨go,yl⟩:=q.2 us[i] (by simp[hlt])
  refine .inr ⟨go,λx H3 yy=>?_⟩
  obtain⟨G3,w3,r3⟩:=yl x H3 yy
  obtain⟨e3,s3⟩:=e2.grow w3
  obtain⟨ρ4,k4,ky⟩:=cD ky
  obtain⟨⟨lu,ρ5⟩,k5,ky⟩:=cD ky
  dsimp only at ky
  split at ky
  case isFalse=>cases ky
  obtain⟨y1,k6,ky⟩:=cD ky
  obtain⟨y2,k7,ky⟩:=cD ky
  cases ky
  refine⟨R,ρ2,G3,F2,_,e3,r3,?_⟩
  rw[k4]
  intro σ4 F4 e4 f4 a4
  have s4:=s3.trans (aH.sub f4)
  have g4:∀k j:Nat,src[k]?=some (some j) -> σ4[k]?=(cj src σ)[k]? := λk j h=>(a4 k (hj k j h).1).trans (g2 k j h)
  refine⟨R,ρ4,G3,F4,e4,?_⟩
  rw[k5]
  intro J2 G5 H5 F5 e5 s5 it2
  have lq:=s4.trans s5
  refine⟨InI t.K R oX f src σ D G1 H1 (inF src ρ1 F1) G5 lu (acc++y1.1) y1.2 i,⟨lu.length,by simp,Nat.zero_le _,ρ5,G5,F5,xs,acc,e5,s2.trans lq,Same.refl _,lq.flt e2.tb d2.1 d2.2.1 d2.2.2,a2.mono lq.gg,by lia,g4,y1,k6,rfl,rfl⟩,?_⟩
  rintro j k τ' H6 ⟨rfl,hj2,ρ6,G6,F6,xs',acc',e6,s6,m6,d6,a6,l6,g6,y',k8,k9,k10⟩
  have q2:=it2 G6 H6 m6 e6.sub j
  by_cases Ir:j<lu.length
  .rw[List.drop_eq_getElem_cons Ir]at k8
   obtain⟨go2,yl2⟩:=q2.2 lu[j] (by simp[Ir])
   refine .inr ⟨go2,λx2 H7 yy2=>?_⟩
   obtain⟨G7,w7,r7⟩:=yl2 x2 H7 yy2
   obtain⟨e7,s7⟩:=e6.grow w7
   obtain⟨ρ8,k11,k8⟩:=cD k8
   obtain⟨p,k12,k8⟩:=cD (show((f ρ8).bind _)=_ from k8)
   obtain⟨T,k13,k8⟩:=cD k8
   obtain⟨y'',k14,k8⟩:=cD k8
   cases k8
   refine⟨R,ρ6,G7,F6,_,e7,r7,?_⟩
   rw[k11]
   intro σ8 F8 e8 f8 a8
   refine⟨R,ρ8,G7,F8,e8,?_⟩
   rw[k12]
   intro v G9 H9 F9 e9 s9 v9
   obtain⟨G10,e10,Ba,_,r10⟩:=e9.rR e8 s9 v9 k13
   have wH:=(s7.trans (aH.sub f8)).trans Ba
   have wJ:=wH.flt e6.tb d6.1 d6.2.1 d6.2.2
   refine⟨xs',wJ.1,Nat.lt_of_le_of_lt (show xs'.length<=200000 by lia) (by decide),lu.length-(j+1),by lia,rfl,Ir,p.2,G10,F9,xs'++[v],acc'++[T],e10.RV wJ.1 wJ.2.1 wJ.2.2,mv (s6.trans wH) _,m6.trans wH.gg,⟨cN,wJ.2⟩,(a6.mono wH.gg).app (.cons r10 .nil),by simp; lia,λk j h=>(a8 k (hj k j h).2).trans (g6 k j h),y'',k14,by rw[k9,List.append_assoc]; rfl,k10⟩
  .have z:j=lu.length:=by lia
   subst z
   rw[List.drop_length]at k8
   cases k8
   refine .inl ⟨q2.1 rfl,us.length-(i+1),by lia,rfl,hlt,ρ6,G6,F6,xs',acc',e6,s6,d6,a6,by lia,g6,y2,by rw[<-k7,<-k10],?_⟩
   rw[<-List.append_assoc,k9,List.append_nil]
 .have z:i=us.length:=by lia
  subst z
  rw[List.drop_length]at ky
  cases ky
  obtain⟨e',s'⟩:=e1.leave e2 s2 I g2 so
  exact .inl ⟨q.1 rfl,h _ G2 H2 F1 e' (s1.trans s') ⟨⟨D,xs,_,rfl,rfl,s1.dm D hD,d2.2.2,d2.1,by rw[List.append_nil]; exact a2⟩,λ_ a q=>by cases q; exact e1.fs hD⟩⟩
noncomputable def vC2(src:List (Option Nat))(N:List Str)(i:VI mU)(g:VG gZ jC)(i2:VI afJ)(g2:VG afK afL)(b:VE bN):VE (Ip src mU gZ afJ afK bN) where
 ck Γ e:=ou e λx aQ sc _=>aX aQ λbF bO=>mG bF λt y cA dR=>bw cA (jk dR 0 (aX bO λeO jm=>mG eO λt2 y2 qw qx=>bw qw (jk qx 0 (bw jm (i.ck Γ (t,y)&&g.ck (cG Γ N sc) t&&i2.ck (cG Γ N sc) (t2,y2)&&g2.ck (cG Γ N sc) t2&&b.ck (cG Γ N sc) x&&oR Γ N src sc (jC++afL))))))
 cs:=i.cs++(g.cs++(i2.cs++(g2.cs++b.cs)))
 ok:=@λcl E Γ X e q o h=>by
  walk_at "O"
  rename_i x0 sc pos t0 y0 t2 y2
  simp only[an]at h
  obtain⟨⟨⟨⟨⟨h1,h2⟩,h3⟩,h4⟩,h5⟩,h6⟩:=h
  obtain⟨pi,ni⟩:=i.ok (ml q) o h1
  obtain⟨S,nd,I,hj⟩:=tD h6
  have pg:=λC s H ex=>g.ok (X:=bx X N sc C s H ex) (ml (mr q)) (iY o nd) h2
  have S8:=λC s H ex=>i2.ok (X:=bx X N sc C s H ex) (ml (mr (mr q))) (iY o nd) h3
  have S9:=λC s H ex=>g2.ok (X:=bx X N sc C s H ex) (ml (mr (mr (mr q)))) (iY o nd) h4
  have pb:=λC s H ex=>b.ok (X:=bx X N sc C s H ex) (mr (mr (mr (mr q)))) (iY o nd) h5
  exact(afF o.s o.N S o.l pi (λC s H ex=>(pg C s H ex).1) (λC s H ex=>(S8 C s H ex).1) (λC s H ex=>(S9 C s H ex).1) pb (jY ni) (λ_=>jY (S8 0 X.s₀ X.H₀ []).2)).imp λσ H Q=>afI I (λk j z=>by simpa[not_or]using hj k j z) (pg 0 X.s₀ X.H₀ []).2.1 (S9 0 X.s₀ X.H₀ []).2.1
noncomputable def Tc(i:Nat)(ρ : En):Nat:=match ρ[i]? with
 |some (.sh (.int n))=>n.natAbs+1
 |_=>0
noncomputable def j8(nl:Nat)(ts:List Tr):En:=ts.map Sl.sh++List.replicate (nl-ts.length) Sl.un
noncomputable def aJ(nl:Nat)(b:SF):FP:=λts=>(b (j8 nl ts)).bind λq=>match q.1 with
 |.rt T fr=>.ok (T,fr)
 |.nx=>.ok (.non,false)
 |_=>.bad
theorem Ok.init{K:PySem.W.Frag}{N:List Str}(r:aA K G vs ts)(hl:vs.length<=N.length)(s:Same G H)(tb:bW K H)(tg:∀b,Tb K b->G b=none):Ok K (λ_=>False) (j8 N.length ts) (start N vs) G H (λ_=>[]):=by
 have l:=r.length
 refine⟨by unfold j8 start; simp only[List.length_append,List.length_map,List.length_replicate]; lia,s,tb,tg,λb ⟨_,z⟩=>(by cases z),λ_ z=>z.elim,λ_ _ _ z=>(by cases z),λi=>?_⟩
 unfold j8 start
 by_cases h:i<vs.length
 .rw[List.getElem?_append_left (by simpa using h),List.getElem?_append_left (by simp; lia),List.getElem?_map,List.getElem?_map,List.getElem?_eq_getElem h,List.getElem?_eq_getElem (show i<ts.length by lia)]
  obtain⟨x,q1,q2⟩:=r.jA (List.getElem?_eq_getElem (show i<ts.length by lia))
  rw[List.getElem?_eq_getElem h]at q1
  cases q1
  exact⟨rfl,_,rfl,q2⟩
 .rw[List.getElem?_append_right (l₁ := ts.map Sl.sh) (by simp; lia),List.getElem?_replicate]
  split <;> rfl
theorem Td{K:PySem.W.Frag}{N ps:List Str}{b:SF}(hn:ps.length<=N.length)(h:qd K cl ps.length (aJ N.length b) vs H Q E):Ts ⟨aC K,λc H'=>E (.ref (cl c)) none H'⟩ b {nx:=λ_ H'=>Q .non H',rt:=Q } (start N vs) H:=by
 obtain⟨G,as,hl,r,sg,tb,tg,h⟩:=h
 refine⟨_,_,G,_,Ok.init r (by lia) sg tb tg,h.run (aH.refl (G:=G)) λq h=>?_⟩
 obtain⟨fl,ρ'⟩:=q
 have nf:∀{b:Addr},¬Fn (λ_=>[]) b:=λ⟨_,z⟩=>by cases z
 cases fl with
 |nx=>exact λσ' G' H' F' e s=>h .non G' H' ⟨s.gg,λb o q t=>s.fr b o q nf t,e.sub,λ_=>e.tb,λb q=>(s.nw b q).imp id λz=>z.resolve_right nf⟩ .non
 |rt T fr =>
  refine λv G' H' r=>h v G' H' ⟨r.gg,λb o q t=>r.fm.fr b o q nf t,r.sub,λ_=>r.fm.tb,λb q=>(r.nw b q).imp id λz=>z.resolve_right nf⟩ ?_
  have z:=r.vl
  cases fr with
  |false=>exact z
  |true =>
   obtain⟨a,xs,ts,e1,e2,e3,_,e4⟩:=z
   exact⟨a,xs,ts,e1,e2,e3.resolve_right nf,e4⟩
 |bk=>exact h.elim
 |ct=>exact h.elim
noncomputable def Ey.nm:Ey->Str
 |.fn x .. => x
 |.gk x _=>x
noncomputable def fG(k:Nat)(N:List Str)(st:Stmt)(B R L:List Str):Gx:=⟨N,bU st,λ_=>true,B,R,false,k,L⟩
noncomputable def Bs(N ps:List Str)(st:Stmt):Bool :=
 decide ((bU st).kind=.function) && !(bU st).isCoroutine && !(bU st).isGenerator&&decide N.Nodup&&decide (N.take ps.length=ps)&&decide (∀x∈ps,(bU st).names.lookup x=some .local\/(bU st).names.lookup x=some .cell)&&decide (∀y∈(bU st).names,y.2 ≠ .free)&&decide (ps.length<=N.length)
theorem Tf{st:Stmt}(h:Bs N ps st=true):pO N ps (bU st)/\ps.length<=N.length:=by
 simp only[Bs,an]at h
 obtain⟨⟨⟨⟨⟨⟨⟨h1,h2⟩,h3⟩,h4⟩,h5⟩,h6⟩,h7⟩,h8⟩:=h
 exact⟨⟨of_decide_eq_true h1,by simpa using h2,by simpa using h3,of_decide_eq_true h4,of_decide_eq_true h5,of_decide_eq_true h6,of_decide_eq_true h7⟩,of_decide_eq_true h8⟩
structure Kn(c:Cc)(B R:List Str):Prop where
 B:∀x∈B,c.mg x=none
 R:∀x∈R,OwnCls x (c.cl x) zU "ValueError.__new__" c.mg c.base
 x:lX c.K
noncomputable def clz(mg:Str->Option Value)(x:Str):Addr:=match mg x with
 |some (.ref k)=>k
 |_=>0
theorem Kn.mk'{P:Program}{w:World}{K:PySem.W.Frag}{mg:Str->Option Value}{base:Heap}{B R:List Str}(M:∀x∈B,mg x=none)(O:∀x∈R,∃k,OwnCls x k zU "ValueError.__new__" mg base) (XT:lX K):Kn ⟨P,w,K,mg,base,clz mg⟩ B R:=⟨M,λx m=>by
 obtain⟨k,o⟩:=O x m
 have e:clz mg x=k:=by unfold clz; rw[o.bound]
 subst e
 exact o,XT⟩
noncomputable def Iu(x:Str)(st:Stmt)(ps:List Str):Prop:=∀(kV doc pm:Value) (an:Option Addr) (cdv ct:Value) (us:List Value),us.length=ps.length->bindArgs (PySem.W.fnOf x x (jR st) (gQ st) (bU st) .none kV doc pm an cdv ct) ⟨us,[]⟩=pure (ps.zip us)
theorem Tj:∀{ps:List Str} {us:List Value} {n:Str},us.length=ps.length->n∈ps->((ps.zip us).lookup n).isNone=false
 |p::ps,u::us,n,h,m=>by
  rw[List.zip_cons_cons,List.lookup_cons]
  cases e:n == p with
  |true=>rfl
  |false =>
   rcases List.mem_cons.mp m with z|z
   .rw[z]at e; simp at e
   .exact Tj (by simpa using h) z
theorem Tn{α β : Type}{f g : α -> Option β}:∀{l:List α},(∀n∈l,f n=g n)->l.filterMap f=l.filterMap g
 | [],_=>rfl
 |a::l,h=>by rw[List.filterMap_cons,List.filterMap_cons,h a (List.mem_cons_self ..),Tn λn m=>h n (List.mem_cons_of_mem _ m)]
theorem Tp:∀{ps:List Str} {us:List Value},ps.Nodup->us.length=ps.length->(ps.filterMap λn=>((ps.zip us).lookup n).map λx=>(n,x))=ps.zip us
 | [],us,_,_=>rfl
 |p::ps,u::us,d,h=>by
  obtain⟨d1,d2⟩:=List.nodup_cons.mp d
  have e:(ps.filterMap λn=>(((p::ps).zip (u::us)).lookup n).map λx=>(n,x))=ps.zip us:=by
   rw[<-Tp d2 (by simpa using h)]
   exact Tn λn m=>by rw[List.zip_cons_cons,List.lookup_cons,beq_false_of_ne (show n≠p from λz=>d1 (z▸m))]
  rw[List.filterMap_cons,e]
  simp
noncomputable def Bt(ps:List Str)(st:Stmt):Bool:=match jR st with
 |⟨[],as,none,[],[],none,[]⟩=>decide (as.map (·.arg)=ps)
 |_=>false
theorem Tw{st:Stmt}(d:ps.Nodup)(h:Bt ps st=true):Iu x st ps:=λkV doc pm an cdv ct us hl=>by
 unfold Bt at h
 split at h
 case h_2=>cases h
 rename_i as e
 have h:=of_decide_eq_true h
 have f:(ps.filter λn=>(List.lookup n (ps.zip us)).isNone)=[]:=List.filter_eq_nil_iff.mpr λn m=>by rw[Tj hl m]; exact Bool.false_ne_true
 simp[bindArgs,PySem.W.fnOf,e,h,seqItems?,hl,List.take_of_length_le,f,Tp d hl]
 rfl
noncomputable def Iw(tb:List Ey)(l:List Ey):List Ey:=l.filterMap λy=>tb.find? λz=>z.nm == y.nm
theorem Tz{tb l:List Ey}(h:∀y∈tb,y.oE c)(e:l=Iw tb l):∀y∈l,y.oE c:=λy m=>by
 rw[e]at m
 obtain⟨z,_,q⟩:=List.mem_filterMap.mp m
 exact h y (List.mem_of_find?_eq_some q)
noncomputable def wK(st:Stmt):List Str:=((bU st).names.filter λy=>y.2 == .local || y.2 == .cell).map (·.1)
noncomputable def psz(st:Stmt):List Str:=(jR st).args.map (·.arg)
noncomputable def oY:List Ey->Nat
 |.fn _ _ _ l::r=>max l (oY r)
 |_::r=>oY r
 | []=>0
theorem aR{st:Stmt}{B R:List Str}(T:VB b)(kn:Kn c B R)(h:∀y∈tb,y.oE c)(a:At c.K c.mg x st)(h1:(Bs (wK st) (psz st) st&&Bt (psz st) st&&T.ck (fG (oY T.cs) (wK st) st B R []) (gQ st))=true:=by kernel_rfl)(e:T.cs=Iw tb T.cs:=by kernel_rfl):∀y ∈ .fn x (psz st) (aJ (wK st).length b) (oY T.cs+1)::tb,y.oE c:=by
 obtain⟨h1,h2⟩:=an.mp h1
 obtain⟨h1,h3⟩:=an.mp h1
 obtain⟨S,hn⟩:=Tf h1
 have hb:Iu x st (psz st):=Tw (S.pre▸S.nd.sublist (List.take_sublist ..)) h3
 exact List.forall_mem_cons.mpr ⟨a.dfx S hb (λvs H Q E ⟨_,_,h,_⟩=>h) λf cdv A outer s H vs Q E hr q=>⟨_,T.ok (Tz h e) (⟨rfl,rfl,S.nd,rfl,hr,Pu,kn.B,λx m=>⟨kn.R x m,Pn⟩,kn.x,rfl,(λz=>by cases z),(λ_ z=>nomatch z)⟩:Ox c.cl (fG (oY T.cs) (wK st) st B R []) E (iC (iG c.P c.w) c.P c.w c.K c.mg c.base (wK st) x (bU st) f cdv A outer s H E)) h2,Td hn q⟩,h⟩
theorem TF{st:Stmt}{B R:List Str}{k P:Addr}(N:List Str)(T:VB b)(kn:Kn c B R)(h:∀y∈tb,y.oE c)(a:rM c.K c.mg x st k)(L:vq c.K c.mg c.base x k P)(h1:(Bs N (psz st) st&&Bt (psz st) st&&T.ck (fG (oY T.cs) N st B R [x]) (gQ st))=true:=by kernel_rfl)(e:T.cs=Iw tb T.cs:=by kernel_rfl):∀y ∈ .fn x (psz st) (aJ N.length b) (oY T.cs+1)::tb,y.oE c:=by
 obtain⟨h1,h2⟩:=an.mp h1
 obtain⟨h1,h3⟩:=an.mp h1
 obtain⟨S,hn⟩:=Tf h1
 have hb:Iu x st (psz st):=Tw (S.pre▸S.nd.sublist (List.take_sublist ..)) h3
 exact List.forall_mem_cons.mpr ⟨a.aec S hb (λvs H Q E ⟨_,_,h,_⟩=>h) λf A outer s H vs Q E hr q=>⟨_,T.ok (Tz h e) (⟨rfl,rfl,S.nd,rfl,hr,Pu,kn.B,λx m=>⟨kn.R x m,Pn⟩,kn.x,rfl,(λz=>by cases z),List.forall_mem_cons.mpr ⟨⟨k,P,L,rfl,rfl⟩,(λ_ z=>nomatch z)⟩⟩:Ox c.cl (fG (oY T.cs) N st B R [x]) E (iC (iG c.P c.w) c.P c.w c.K c.mg c.base N x (bU st) f (.ref k) A outer s H E)) h2,Td hn q⟩,h⟩
theorem fm{tb:List Ey}(x:Str){y:Ey}(h:(tb.find? λz=>z.nm == x)=some y):y∈tb:=List.mem_of_find?_eq_some h
noncomputable abbrev dJ{f g:EF}(a:VE f)(b:VE g):=v2 .Add Fd n8 (λ_=>adp) (λ_=>adq) a b
noncomputable abbrev qK{f g:EF}(a:VE f)(b:VE g):=v2 .Sub (λ_=>dW λi j=>.int (i-j)) u0 (λ_=>Nm) (λ_=>adA) a b
noncomputable abbrev cF{f g:EF}(a:VE f)(b:VE g):=v2 .Mult Fe pW (λ_=>adt) (λ_=>adv) a b
noncomputable abbrev dY{f g:EF}(a:VE f)(b:VE g):=v2 .FloorDiv (λ_=>rI yN λi j=>.int (i.fdiv j)) yP (λ_=>adu) (λ_=>adw) a b
noncomputable abbrev dK{f g:EF}(a:VE f)(b:VE g):=v2 .Mod (λ_=>rI (λ_ j=>j≠0) λi j=>.int (i.fmod j)) yQ (λ_=>abu) (λ_=>adx) a b
noncomputable abbrev Iz{f g:EF}(a:VE f)(b:VE g):=v2 .Pow (λ_=>rI yg λi j=>.int (i ^ j.toNat)) uJ (λ_=>Np) (λ_=>adz) a b
noncomputable abbrev dG:Cq (jV):=⟨.Eq,Eh,λ_ h=>acI h,λ_=>adk⟩
noncomputable abbrev g8:Cq (iK):=⟨.NotEq,Eu,λ_ h=>ac8 h,λ_=>adl⟩
noncomputable abbrev mW:Cq (rH):=⟨.Lt,Ft,λ_ h=>adE h,λ_=>adF⟩
noncomputable abbrev j6:Cq (Fj):=⟨.LtE,λ_=>dW λi j=>.bl (decide (i<=j)),λ_ _=>abw,λ_=>adC⟩
noncomputable abbrev qL:Cq (Fi):=⟨.Gt,λ_=>dW λi j=>.bl (decide (j<i)),λ_ _=>abx,λ_=>adB⟩
noncomputable abbrev IK:Cq (Fo):=⟨.GtE,λ_=>dW λi j=>.bl (decide (j<=i)),λ_ _=>aby,λ_=>adD⟩
noncomputable abbrev qIn:Cq (jW id):=⟨.In,Ei,λ_ h=>acJ h,λ_=>adn⟩
noncomputable abbrev Bu:Cq (jW not):=⟨.NotIn,Et,λ_ h=>ac7 h,λ_=>ado⟩
noncomputable abbrev qN:Cq (pC id):=⟨.Is,λ_ x y H Q=>y=.non/\Q (.bl (decide (x=.non))) H,λ_ _=>abz,λ_=>Qe id⟩
noncomputable abbrev IV:Cq (pC not):=⟨.IsNot,λ_ x y H Q=>y=.non/\Q (.bl (!decide (x=.non))) H,λ_ _=>abA,λ_=>Qe not⟩
theorem bb{x:Str}{i:String}(h:bootBuiltins x=some (.builtin i))(n:x ≠ "__name__"):bootBuiltins x=some (.builtin i)∧x ≠ "__name__" ∧ ((∃j,Value.builtin i=.builtin j)∨∃j,Value.builtin i=.type j):=⟨h,n,.inl ⟨_,rfl⟩⟩
noncomputable abbrev bh{f:AF}(a:VA f):=vB "len" (.builtin "len") Fv (g1 eH) (bb (by decide +kernel) (by decide +kernel)) (λ_=>adG) (λ_=>yR adH) a
noncomputable abbrev IW{f:AF}(a:VA f):=vB "abs" (.builtin "abs") (λ_ xs H Q=>∃i,xs=[.int i]/\Q (.int (if i<0 then -i else i)) H) (g1 u6) (bb (by decide +kernel) (by decide +kernel)) (λ_=>abI) (λ_=>yR adI) a
noncomputable abbrev oZ{f:AF}(a:VA f):=vB "all" (.builtin "all") Ej (g1 rJ) (bb (by decide +kernel) (by decide +kernel)) (λo=>acL o.l) (λ_=>yR adJ) a
noncomputable abbrev TJ{f:AF}(a:VA f):=vB "sorted" (.builtin "sorted") HW (g1 qI) (bb (by decide +kernel) (by decide +kernel)) (λ_=>ae7) (λ_=>yR afd) a
noncomputable abbrev TQ{f:EF}(a:VE f):=Ab "int" .int ⟨by decide +kernel,by decide +kernel⟩ a
noncomputable abbrev TV{f:EF}(a:VE f):=Ab "bool" .bool ⟨by decide +kernel,by decide +kernel⟩ a
noncomputable abbrev wM{f:EF}(a:VE f):=Ab "tuple" .tuple ⟨by decide +kernel,by decide +kernel⟩ a
noncomputable abbrev o7{f:EF}(a:VE f):=Ab "list" .list ⟨by decide +kernel,by decide +kernel⟩ a
noncomputable abbrev j7(i:Nat){f:AF}(a:VA f):=vM "append" "list.append" DQ qp ⟨PySem.F.slot_list_append,PySem.F.type_list_append,λ_=>DW⟩ aex i a
noncomputable abbrev TY(i:Nat){f:AF}(a:VA f):=vM "insert" "list.insert" HX wD ⟨PySem.F.slot_list_insert,PySem.F.type_list_insert,λ_=>ae8⟩ afg i a
noncomputable def T3(i:Nat)(fk fe:EF):SF:=λρ=>(fe ρ).bind λp=>(cls [p.1]).bind λTs=>(con p.2 i).bind λ_=>(fk p.2).bind λq=>(dr q.2 q.1).bind λkT=>(yS kT).bind λk=>(con q.2 i).bind λts=>match Ts,fW ts.length k with
 | [T],some j=>.ok (.nx,cU i (ts.set j T) q.2)
 |_,_=>.bad
noncomputable def sS(i:Nat)(k:VE oM)(a:VE aD):VS (T3 i oM aD) where
 ck Γ e:=oA e λaQ v _=>aX aQ λbF bO=>mF bF λcA y _=>atName cA λx _=>bw bO (jX Γ i x&&qu v&&k.ck Γ y&&a.ck Γ v&&vL y)
 cs:=k.cs++a.cs
 ok q o h:=by
  walk_at "O"
  simp only[an]at h
  obtain⟨⟨⟨⟨h1,h2⟩,h3⟩,h4⟩,h5⟩:=h
  refine(Di (a.ok (mr q) o h4) (M8 (qe o h1) (k.ok (ml q) o h3) set_list (S5 h5)) (by unfold swapsWithSole; exact vW h2) rfl rfl).imp λD σ H=>cR λR ρ G F e h=>dX e .refl h λp h v G1 H1 F1 e1 s1 v1=>?_
  obtain⟨Ts,k1,h⟩:=h.okb (rP _)
  obtain⟨us,k2,h⟩:=h.okb (vQ _ _)
  obtain⟨G2,e2,s2,_,r⟩:=e1.vis (vs:=[v]) e s1 (.cons v1 .nil) k1
  obtain⟨a,xs,hi,_,_,_⟩:=e2.con k2
  refine⟨_,hi,dX e2 s2 h λq h w G3 H3 F3 e3 s3 v3=>?_⟩
  obtain⟨kT,k3,h⟩:=h.okb (iI _ _)
  obtain⟨k,k4,h⟩:=h.okb (Ql _)
  obtain⟨ts,k5,h⟩:=h.okb (vQ _ _)
  obtain⟨a',ys,hi',hf,hy,ry⟩:=e3.con k5
  rw[hi]at hi'
  cases hi'
  split at h
  case h_2=>exact h.elim
  cases r with
  |cons r _ =>
   obtain⟨e4,s4⟩:=e3.put k5 hf (ry.set (r.mono s3.gg) _)
   exact⟨a,ys,k,_,rfl,Qm (iJ e3 v3 k3) k4,hy,by rw[ry.length]; assumption,h σ G3 _ F3 e4 ((s2.trans s3).trans s4)⟩
end L2
end
section
namespace L2
open PySem
section
variable {α β : Type}
theorem bk{r:Rs α}{f : α -> Rs β}{a : α}{s:Rs β}(h:r=.ok a)(k:f a=s):r.bind f=s:=by subst h; exact k
end
section
variable {ρ ρ1 ρ2 ρ3:En}{f g:SF}{fa fb:EF}{aa:AF}{T U:Tr}{b b':Bool}{r:Rs (Fl × En)}{i:Nat}{ps:List Rv}{as ts:List Tr}{z:Tr × Bool}{F:FP}{c d:BF}{x y:Rv}
theorem mX(h:f ρ=.ok (.nx,ρ1))(k:g ρ1=r):Ae f g ρ = r:=bk h k
theorem afM{g:GF}(h:fa ρ=.ok (.v T b,ρ1))(k:g T ρ1=.ok ρ2):sG fa g ρ=.ok (.nx,ρ2):=bk h (bk k rfl)
theorem T4(h:fa ρ=.ok (.v (.lst ts) true,ρ1)):GJ i fa ρ=.ok (.nx,ρ1.set i (.ow ts)):=bk h rfl
theorem qP(h:fa ρ=.ok (x,ρ1)):GZ fa ρ=.ok (.nx,ρ1):=bk h rfl
theorem wN(h:fa ρ=.ok (.v T b,ρ1)):G8 fa ρ=.ok (.rt T b,ρ1):=bk h rfl
theorem T5(h:c ρ=.ok (false,ρ1))(k:g ρ1=r):Hf c f g ρ = r:=bk h ((if_neg Bool.false_ne_true).trans k)
theorem nx_(h:f ρ=.ok q):vX f ρ=.ok q:=by unfold vX; rw[h]; rfl
theorem tQ(h:f (j8 n as)=.ok (.rt T b,ρ1)):aJ n f as=.ok (T,b):=bk h rfl
theorem Ja(h:f (j8 n as)=.ok (.nx,ρ1)):aJ n f as=.ok (.non,false):=bk h rfl
theorem fM(h:fa ρ=.ok (x,ρ1))(k:aa ρ1=.ok (ps,ρ2)):cW fa aa ρ=.ok (x::ps,ρ2):=bk h (bk k rfl)
theorem fO(h:aa ρ=.ok (ps,ρ1))(k:drs ρ1 ps=.ok as)(n:ps.any qm=false)(e:F as=.ok z):iU F aa ρ=.ok (.v z.1 z.2,ρ1):=bk h (bk k (bk e (if_neg λq=>by rw[n]at q; exact Bool.false_ne_true q.1)))
theorem Jb(h:aa ρ=.ok (ps,ρ1))(k:drs ρ1 ps=.ok as)(e:G as=.ok z):mR G aa ρ=.ok (.v z.1 z.2,ρ1):=bk h (bk k (bk e rfl))
theorem op_(h:fa ρ=.ok (x,ρ1))(k:fb ρ1=.ok (y,ρ2))(u:dr ρ2 x=.ok T)(v:dr ρ2 y=.ok U)(e:G T U=.ok z):kY G fa fb ρ=.ok (.v z.1 z.2,ρ2):=bk h (bk k (bk u (bk v (bk e rfl))))
theorem afN(h:fa ρ=.ok (.v T b,ρ1))(k:fb ρ1=.ok (.v U b',ρ2))(e:G T U=.ok z):kY G fa fb ρ=.ok (.v z.1 z.2,ρ2):=op_ h k rfl rfl e
theorem Jc(h:fa ρ=.ok (x,ρ1))(k:dr ρ1 x=.ok T)(e:m5 T=.ok b):zX fa ρ=.ok (b,ρ1):=bk h (bk k (bk e rfl))
theorem T6(h:c ρ=.ok (b,ρ1)):zY c ρ=.ok (!b,ρ1):=bk h rfl
theorem ap_(h:fa ρ=.ok (.v T b,ρ1))(n:con ρ i=.ok as)(k:con ρ1 i=.ok ts)(l:ts.length<=100000):Ad i qp (cW fa dU) ρ=.ok (.v .non false,cU i (ts++[T]) ρ1):=bk n (bk (fM h rfl) (bk rfl (bk k (bk (by unfold qp; exact if_pos l) rfl))))
end
noncomputable def cS(fl:Fl)(g:SF)(ρ : En):Rs (Fl × En):=match fl with
 |.nx=>g ρ
 |fl=>.ok (fl,ρ)
noncomputable def cB{α : Type}(b:Bool)(f g:En->Rs α)(ρ : En):Rs α := if b=true then f ρ else g ρ
noncomputable def W(r:Rs (Fl × En))(Q:Fl->En->Prop):Prop:=∃fl ρ,r=.ok (fl,ρ)/\Q fl ρ
noncomputable def CN(x:Rv)(ρ : En):Rs (Tr × Bool):=match x with
 |.v T fr=>.ok (T,fr)
 |.s i=>match ρ[i]? with
  |some (.ow ts)=>.ok (.lst ts,true)
  |_=>.bad
noncomputable def CP:Fl->Rs (Tr × Bool)
 |.rt T fr=>.ok (T,fr)
 |.nx=>.ok (.non,false)
 |_=>.bad
section
variable {α : Type}{ρ ρ1 ρ2 ρ3:En}{f g:SF}{fa fb:EF}{aa:AF}{T U V:Tr}{b b':Bool}{r:Rs (Fl × En)}{i j n:Nat}{ps:List Rv}{as ts us:List Tr}{F:FP}{c d:BF}{x y:Rv}{q:Rs (Bool × En)}{s:Rs (Rv × En)}{fl:Fl}{z:Tr × Bool}{u v:En->Rs α}{w:Rs α}{S:Sl}{Q Q0:Fl->En->Prop}{gf:GF}{fi:IF}
theorem wSq(h:W (f ρ) λfl ρ1=>W (cS fl g ρ1) Q):W (Ae f g ρ) Q:=by
 obtain⟨fl,ρ1,e,yE,ρ2,e',q⟩:=h
 refine⟨yE,ρ2,bk e ?_,q⟩
 cases fl <;> exact e'
theorem wSn(k:W (g ρ) Q):W (cS .nx g ρ) Q:=k
theorem wSr(k:Q (.rt T b) ρ):W (cS (.rt T b) g ρ) Q:=⟨_,_,rfl,k⟩
theorem wSc(k:Q .ct ρ):W (cS .ct g ρ) Q:=⟨_,_,rfl,k⟩
theorem aak(k:Q .nx ρ):W (Rh ρ) Q:=⟨_,_,rfl,k⟩
theorem xT(h:b=true)(k:u ρ = w):cB b u v ρ = w:=(if_pos h).trans k
theorem xF(h:b=false)(k:v ρ = w):cB b u v ρ = w:=(if_neg (by rw[h]; exact Bool.false_ne_true)).trans k
theorem wT(h:b=true)(k:W (f ρ) Q):W (cB b f g ρ) Q:=by unfold cB; rw[if_pos h]; exact k
theorem wF(h:b=false)(k:W (g ρ) Q):W (cB b f g ρ) Q:=by unfold cB; rw[if_neg (by rw[h]; exact Bool.false_ne_true)]; exact k
theorem wIf(h:c ρ=.ok (b,ρ1))(k:W (cB b f g ρ1) Q):W (Hf c f g ρ) Q:=k.elim λfl k=>k.elim λρ2 k=>⟨fl,ρ2,bk h k.1,k.2⟩
theorem xEI(h:c ρ=.ok (b,ρ1))(k:cB b fa fb ρ1=s):vI c fa fb ρ = s:=bk h k
theorem xBA(h:c ρ=.ok (b,ρ1))(k:cB b d (λρ=>.ok (false,ρ)) ρ1=q):FT c d ρ = q:=bk h k
theorem xBO(h:c ρ=.ok (b,ρ1))(k:cB b (λρ=>.ok (true,ρ)) d ρ1=q):FW c d ρ = q:=bk h k
theorem xEA(h:iM fa ρ=.ok (b,ρ1))(k:cB b fb (λρ=>.ok (eB false,ρ)) ρ1=s):Gb fa fb ρ = s:=bk h k
theorem xEO(h:iM fa ρ=.ok (b,ρ1))(k:cB b (λρ=>.ok (eB true,ρ)) fb ρ1=s):eOr fa fb ρ = s:=bk h k
theorem xOv(h:d ρ=.ok (b',ρ)):cB b (λρ=>.ok (true,ρ)) d ρ=.ok (b || b',ρ):=by cases b <;> first|exact h|rfl
theorem xAv(h:d ρ=.ok (b',ρ)):cB b d (λρ=>.ok (false,ρ)) ρ=.ok (b&&b',ρ):=by cases b <;> first|exact h|rfl
theorem xOV(h:fb ρ=.ok (.v (.bl b') false,ρ)):cB b (λρ=>.ok (eB true,ρ)) fb ρ=.ok (.v (.bl (b || b')) false,ρ):=by cases b <;> first|exact h|rfl
theorem xAV(h:fb ρ=.ok (.v (.bl b') false,ρ)):cB b fb (λρ=>.ok (eB false,ρ)) ρ=.ok (.v (.bl (b&&b')) false,ρ):=by cases b <;> first|exact h|rfl
theorem xEN(h:iM fa ρ=.ok (b,ρ1)):Ge fa ρ=.ok (.v (.bl (!b)) false,ρ1):=bk h rfl
theorem xBN(h:c ρ=.ok (b,ρ1)):zY c ρ=.ok (!b,ρ1):=bk h rfl
theorem xTe(h:fa ρ=.ok (x,ρ1))(k:dr ρ1 x=.ok T)(e:qX T=.ok b):iM fa ρ=.ok (b,ρ1):=bk h (bk k (bk e rfl))
theorem xTr(h:fa ρ=.ok (x,ρ1))(k:dr ρ1 x=.ok T)(e:m5 T=.ok b):zX fa ρ=.ok (b,ρ1):=bk h (bk k (bk e rfl))
theorem wAs(h:fa ρ=.ok (.v T b,ρ1))(e : ρ1.set i (.sh T) = ρ2)(k:Q .nx ρ2):W (sG fa (gN i) ρ) Q:=⟨_,_,e▸bk h rfl,k⟩
theorem wAg(h:fa ρ=.ok (.v T b,ρ1))(k:gf T ρ1=.ok ρ2)(q:Q .nx ρ2):W (sG fa gf ρ) Q:=⟨_,_,bk h (bk k rfl),q⟩
theorem xG2(e:T=.tup [U,V])(h : ρ.set i (.sh U) = ρ1)(k : ρ1.set j (.sh V) = ρ2):gT 2 (lg (gN i) (lg (gN j) vU)) T ρ=.ok ρ2:=by subst e h k; rfl
theorem xG3{k':Nat}{W:Tr}(e:T=.tup [U,V,W])(h : ρ.set i (.sh U) = ρ1)(k : ρ1.set j (.sh V) = ρ2)(l : ρ2.set k' (.sh W) = ρ3):gT 3 (lg (gN i) (lg (gN j) (lg (gN k') vU))) T ρ=.ok ρ3:=by subst e h k l; rfl
theorem xGN(e : ρ.set i (.sh T) = ρ1):gN i T ρ=.ok ρ1:=by subst e; rfl
theorem wOw(h:fa ρ=.ok (.v T true,ρ1))(l:T=.lst ts)(e : ρ1.set i (.ow ts) = ρ2)(k:Q .nx ρ2):W (GJ i fa ρ) Q:=by subst l e; exact⟨_,_,bk h rfl,k⟩
noncomputable def Jd(i:Nat)(T:Tr)(b:Bool)(ρ : En):En:=match b,T with
 |true,.lst ts=>ρ.set i (.ow ts)
 |_,T=>ρ.set i (.sh T)
theorem oV1(l:T=.lst ts)(e : ρ.set i (.ow ts) = ρ1):Jd i T true ρ = ρ1:=by subst l; exact e
theorem oV2(e : ρ.set i (.sh T) = ρ1):Jd i T false ρ = ρ1:=e
theorem wON(h:fa ρ=.ok (.v T b,ρ1))(e:Jd i T b ρ1 = ρ2)(k:Q .nx ρ2):W (afH i fa ρ) Q:=⟨_,_,bk h (by subst e; cases b <;> cases T <;> rfl),k⟩
theorem wEx(h:fa ρ=.ok (x,ρ1))(k:Q .nx ρ1):W (GZ fa ρ) Q:=⟨_,_,bk h rfl,k⟩
theorem wRt(h:fa ρ=.ok (x,ρ1))(k:CN x ρ1=.ok (T,b))(q:Q (.rt T b) ρ1):W (G8 fa ρ) Q:=⟨_,_,bk h (by
 cases x with
 |v T fr=>cases k; rfl
 |s i =>
  show(match ρ1[i]? with|some (.ow ts)=>_|_=>_)=_
  unfold CN at k
  dsimp only at k ⊢
  split at k <;> cases k
  rfl),q⟩
theorem wPa(h:aa ρ=.ok (ps,ρ1))(k:cls ps=.ok [T,U])(e : ρ1.set i (.sh T) = ρ2)(e' : ρ2.set j (.sh U) = ρ3)(q:Q .nx ρ3):W (Ro i j aa ρ) Q:=by subst e e'; exact⟨_,_,bk h (bk k rfl),q⟩
theorem uG(h:fa ρ=.ok (x,ρ1))(k:aa ρ1=.ok (ps,ρ2)):cW fa aa ρ=.ok (x::ps,ρ2):=bk h (bk k rfl)
theorem uH{G:G2}(h:fa ρ=.ok (x,ρ1))(k:fb ρ1=.ok (y,ρ2))(u:dr ρ2 x=.ok T)(v:dr ρ2 y=.ok U)(e:G T U=.ok (V,b)):kY G fa fb ρ=.ok (.v V b,ρ2):=bk h (bk k (bk u (bk v (bk e rfl))))
theorem xUn{G:G1}(h:fa ρ=.ok (x,ρ1))(u:dr ρ1 x=.ok T)(e:G T=.ok (V,b)):FQ G fa ρ=.ok (.v V b,ρ1):=bk h (bk u (bk e rfl))
theorem xCh{G G':G2}{fc:EF}{b1:Bool}(h:fa ρ=.ok (x,ρ1))(k:fb ρ1=.ok (y,ρ2))(u:dr ρ2 x=.ok T)(v:dr ρ2 y=.ok U)(e:G T U=.ok (.bl b,b1))(l:cB b (λρ=>(fc ρ).bind λs=>(dr s.2 y).bind λb=>(dr s.2 s.1).bind λc=>(G' b c).bind λz=>.ok (Rv.v z.1 z.2,s.2)) (λρ=>.ok (eB false,ρ)) ρ2=s):Gg G G' fa fb fc ρ = s:=bk h (bk k (bk u (bk v (bk e (bk rfl l)))))
theorem xCk{G':G2}{fc:EF}(h:fc ρ=.ok (x,ρ1))(u:dr ρ1 y=.ok T)(v:dr ρ1 x=.ok U)(e:G' T U=.ok (V,b)):((fc ρ).bind λs=>(dr s.2 y).bind λb=>(dr s.2 s.1).bind λc=>(G' b c).bind λz=>.ok (Rv.v z.1 z.2,s.2))=.ok (Rv.v V b,ρ1):=bk h (bk u (bk v (bk e rfl)))
theorem xC1{G:G1}(h:fa ρ=.ok (x,ρ1))(k:dr ρ1 x=.ok U)(e:G U=.ok (T,b)):mR (g1 G) (cW fa dU) ρ=.ok (.v T b,ρ1):=bk (bk h rfl) (bk (bk k rfl) (bk e rfl))
theorem xC2{G:G2}(h:aa ρ=.ok (ps,ρ1))(k:drs ρ1 ps=.ok [U,V])(e:G U V=.ok (T,b)):mR (g2 G) aa ρ=.ok (.v T b,ρ1):=bk h (bk k (bk e rfl))
theorem Ly(h:aa ρ=.ok (ps,ρ1))(k:drs ρ1 ps=.ok as)(e:F as=.ok (T,b))(n:(ps.any qm && !rZ (T,b))=false):iU F aa ρ=.ok (.v T b,ρ1):=bk h (bk k (bk e (if_neg λq=>by rw[q.1,q.2]at n; cases n)))
theorem xIs(h:fa ρ=.ok (x,ρ1))(k:dr ρ1 x=.ok T):Ra ty fa ρ=.ok (.v (.bl (nW T ty)) false,ρ1):=bk h (bk k rfl)
theorem xLs(h:aa ρ=.ok (ps,ρ1))(k:cls ps=.ok ts)(l:ts.length<=1000):QV aa ρ=.ok (.v (.lst ts) true,ρ1):=bk h (bk k (if_pos l))
theorem xTu(h:aa ρ=.ok (ps,ρ1))(k:cls ps=.ok ts)(l:ts.length<=1000):QW aa ρ=.ok (.v (.tup ts) false,ρ1):=bk h (bk k (if_pos l))
theorem xAp(h:fa ρ=.ok (.v T b,ρ1))(n:con ρ i=.ok as)(k : ρ1[i]?=some (.ow ts))(l:ts.length<=100000)(e : ρ1.set i (.ow (ts++[T])) = ρ2):Ad i qp (cW fa dU) ρ=.ok (.v .non false,ρ2):=by
 have c:con ρ1 i=.ok ts:=by unfold con; rw[k]
 have u:cU i (ts++[T]) ρ1 = ρ2:=by unfold cU; rw[k]; exact e
 exact u▸ap_ h n c l
theorem wNo(h:W (f ρ) Q):W (vX f ρ) Q:=h.elim λ_ h=>h.elim λ_ h=>⟨_,_,nx_ h.1,h.2⟩
theorem wFo(h:fi ρ=.ok (us,ρ1))(k:W (jZ gf f us ρ1) Q):W (Rx fi gf f ρ) Q:=k.elim λ_ k=>k.elim λ_ k=>⟨_,_,bk h k.1,k.2⟩
theorem wLp{β : Type}{t : β -> Tr}{xs:List β}(P:Nat->En->Prop)(h0:P 0 ρ)(hs:∀k x ρ,xs[k]?=some x->P k ρ -> ∃ρ1,gf (t x) ρ=.ok ρ1/\W (f ρ1) λfl ρ2=>match fl with
  |.nx=>P (k+1) ρ2
  |.ct=>P (k+1) ρ2
  |.bk=>Q .nx ρ2
  |.rt T b=>Q (.rt T b) ρ2) (hk:∀ρ,P xs.length ρ -> Q .nx ρ):W (jZ gf f (xs.map t) ρ) Q:=by
 have go:∀(ys:List β) (k:Nat) (ρ : En),k<=xs.length->xs.drop k=ys->P k ρ -> W (jZ gf f (ys.map t) ρ) Q:=λys=>by
  induction ys with
  |nil =>
   intro k ρ l e p
   obtain rfl:k=xs.length:=Nat.le_antisymm l (List.drop_eq_nil_iff.mp e)
   exact⟨_,_,rfl,hk _ p⟩
  |cons x ys ih =>
   intro k ρ l e p
   have g:xs[k]?=some x:=by rw[<-List.head?_drop,e]; rfl
   have d:xs.drop (k+1)=ys:=by rw[<-List.tail_drop,e]; rfl
   have l':k+1<=xs.length:=(List.getElem?_eq_some_iff.mp g).1
   obtain⟨ρ1,e1,fl,ρ2,e2,q⟩:=hs k x ρ g p
   have st:jZ gf f ((x::ys).map t) ρ = _:=bk e1 (bk e2 rfl)
   cases fl with
   |nx=>obtain⟨a,b,h,q⟩:=ih (k+1) ρ2 l' d q; exact⟨a,b,st.trans h,q⟩
   |ct=>obtain⟨a,b,h,q⟩:=ih (k+1) ρ2 l' d q; exact⟨a,b,st.trans h,q⟩
   |bk=>exact⟨_,_,st,q⟩
   |rt T b=>exact⟨_,_,st,q⟩
 exact go xs 0 ρ (Nat.zero_le _) rfl h0
noncomputable def pt(ρ : En):List (Nat × Sl)->En
 | []=>ρ
 |(i,s)::r=>pt (ρ.set i s) r
theorem wG{t:Tr}(h:gf t ρ=.ok ρ1)(k:W (f ρ1) Q):∃ρ1,gf t ρ=.ok ρ1/\W (f ρ1) Q:=⟨_,h,k⟩
theorem lA{σ β : Type}{t : β -> Tr}{xs:List β}(js:List Nat)(A : σ -> List (Nat × Sl))(I:Nat -> σ -> Prop)(s0 : σ)(i0:I 0 s0)(h0 : ρ = pt (pt ρ (js.map λj=>(j,ρ.getD j .un))) (A s0))(hs:∀k x (v:Nat->Sl) s,xs[k]?=some x->I k s->∃ρ1,gf (t x) (pt (pt ρ (js.map λj=>(j,v j))) (A s))=.ok ρ1/\W (f ρ1) λfl ρ2=>match fl with
  |.nx=>∃s,I (k+1) s/\∃v:Nat->Sl,ρ2=pt (pt ρ (js.map λj=>(j,v j))) (A s)
  |.ct=>∃s,I (k+1) s/\∃v:Nat->Sl,ρ2=pt (pt ρ (js.map λj=>(j,v j))) (A s)
  |.bk=>Q .nx ρ2
  |.rt T b=>Q (.rt T b) ρ2) (hk:∀(v:Nat->Sl) s,I xs.length s->Q .nx (pt (pt ρ (js.map λj=>(j,v j))) (A s))):W (jZ gf f (xs.map t) ρ) Q :=
 wLp (λk ρ'=>∃s,I k s/\∃v:Nat->Sl,ρ'=pt (pt ρ (js.map λj=>(j,v j))) (A s)) ⟨s0,i0,λj=>ρ.getD j .un,h0⟩ (λk x _ g h=>h.elim λs h=>h.2.elim λv q=>by subst q; exact hs k x v s g h.1) λ_ h=>h.elim λs h=>h.2.elim λv q=>by subst q; exact hk v s h.1
theorem jr{σ : Type}{n:Nat}{t:Nat->Tr}(js:List Nat)(A : σ -> List (Nat × Sl))(I:Nat -> σ -> Prop)(s0 : σ)(i0:I 0 s0)(h0 : ρ = pt (pt ρ (js.map λj=>(j,ρ.getD j .un))) (A s0))(hs:∀k (v:Nat->Sl) s,k<n->I k s->∃ρ1,gf (t k) (pt (pt ρ (js.map λj=>(j,v j))) (A s))=.ok ρ1/\W (f ρ1) λfl ρ2=>match fl with
  |.nx=>∃s,I (k+1) s/\∃v:Nat->Sl,ρ2=pt (pt ρ (js.map λj=>(j,v j))) (A s)
  |.ct=>∃s,I (k+1) s/\∃v:Nat->Sl,ρ2=pt (pt ρ (js.map λj=>(j,v j))) (A s)
  |.bk=>Q .nx ρ2
  |.rt T b=>Q (.rt T b) ρ2) (hk:∀(v:Nat->Sl) s,I n s->Q .nx (pt (pt ρ (js.map λj=>(j,v j))) (A s))):W (jZ gf f ((List.range n).map t) ρ) Q :=
 lA js A I s0 i0 h0 (λk x v s g=>by
  obtain⟨l,rfl⟩:=List.getElem?_eq_some_iff.mp g
  rw[List.getElem_range]
  exact hs k v s (by simpa using l)) (by rw[List.length_range]; exact hk)
theorem qQ{n:Nat}{t:Nat->Tr}(js:List Nat)(A:Nat->List (Nat × Sl))(h0 : ρ = pt (pt ρ (js.map λj=>(j,ρ.getD j .un))) (A 0))(hs:∀k (v:Nat->Sl),k<n->∃ρ1,gf (t k) (pt (pt ρ (js.map λj=>(j,v j))) (A k))=.ok ρ1/\W (f ρ1) λfl ρ2=>match fl with
  |.nx=>∃v:Nat->Sl,ρ2=pt (pt ρ (js.map λj=>(j,v j))) (A (k+1))
  |.ct=>∃v:Nat->Sl,ρ2=pt (pt ρ (js.map λj=>(j,v j))) (A (k+1))
  |.bk=>Q .nx ρ2
  |.rt T b=>Q (.rt T b) ρ2) (hk:∀v:Nat->Sl,Q .nx (pt (pt ρ (js.map λj=>(j,v j))) (A n))):W (jZ gf f ((List.range n).map t) ρ) Q :=
 jr js A (λk s=>s=k) 0 rfl h0 (λk v s l e=>by
  subst e
  obtain⟨ρ1,e,fl,ρ2,h,q⟩:=hs s v l
  refine⟨ρ1,e,fl,ρ2,h,?_⟩
  cases fl
  .exact⟨_,rfl,q⟩
  .exact q
  .exact q
  .exact⟨_,rfl,q⟩) λv s e=>by subst e; exact hk v
theorem T7{σ : Type}{fu:En->Nat}(js:List Nat)(A : σ -> List (Nat × Sl))(I : σ -> Prop)(μ : σ -> Nat)(s0 : σ)(i0:I s0)(h0 : ρ = pt (pt ρ (js.map λj=>(j,ρ.getD j .un))) (A s0))(hm : μ s0<fu ρ)(hs:∀(v:Nat->Sl) s,I s->∃b ρ1,c (pt (pt ρ (js.map λj=>(j,v j))) (A s))=.ok (b,ρ1)/\if b=true then W (f ρ1) (λfl ρ2=>match fl with
  |.nx=>∃s',I s'/\μ s' < μ s/\∃v:Nat->Sl,ρ2=pt (pt ρ (js.map λj=>(j,v j))) (A s')
  |.rt T b=>Q (.rt T b) ρ2
  |_=>False)else Q .nx ρ1):W (Rw fu c f ρ) Q:=by
 have go:∀(n:Nat) (v:Nat->Sl) (s : σ),I s -> μ s<n->W (vY c f n (pt (pt ρ (js.map λj=>(j,v j))) (A s))) Q:=λn=>by
  induction n with
  |zero=>exact λ_ _ _ h=>absurd h (Nat.not_lt_zero _)
  |succ n ih =>
   intro v s i h
   obtain⟨b,ρ1,e,q⟩:=hs v s i
   cases b with
   |false=>exact⟨_,_,bk e (if_neg Bool.false_ne_true),by simpa using q⟩
   |true =>
    rw[if_pos rfl]at q
    obtain⟨fl,ρ2,e2,q⟩:=q
    cases fl with
    |nx =>
     obtain⟨s',i',l,v',rfl⟩:=q
     obtain⟨a,b,h,q⟩:=ih v' s' i' (by omega)
     exact⟨a,b,bk e ((if_pos rfl).trans (bk e2 h)),q⟩
    |rt T b=>exact⟨_,_,bk e ((if_pos rfl).trans (bk e2 rfl)),q⟩
    |bk=>exact q.elim
    |ct=>exact q.elim
 have z:=go (fu ρ) (λj=>ρ.getD j .un) s0 i0 hm
 rw[<-h0]at z
 exact z
theorem pT{P R:Prop}(h:b=true)(k:P):if b=true then P else R:=by rw[if_pos h]; exact k
theorem pF{P R:Prop}(h:b=false)(k:R):if b=true then P else R:=by rw[if_neg (by rw[h]; exact Bool.false_ne_true)]; exact k
theorem T8{P R : α -> Prop}{a : α}(h:P a)(k:R a):∃a,P a/\R a:=⟨_,h,k⟩
theorem Bv(h:c ρ=.ok (b,ρ1)){P:Bool->En->Prop}(k:P b ρ1):∃b ρ1,c ρ=.ok (b,ρ1)/\P b ρ1:=⟨_,_,h,k⟩
theorem cn2{l l':En}{S':Sl}(h:S=S')(k:l=l'):S::l=S'::l':=h▸k▸rfl
theorem exV{R:(Nat->Sl)->En}(e : ρ = R λj=>ρ.getD j .un):∃v,ρ = R v:=⟨_,e⟩
theorem Bw{σ : Type}(A : σ -> List (Nat × Sl))(I : σ -> Prop)(h:W (f ρ) λfl ρ'=>fl=.nx/\∃s,I s/\ρ'=pt ρ (A s))(k:∀s,I s->Q .nx (pt ρ (A s))):W (f ρ) Q:=by
 obtain⟨fl,ρ',e,rfl,s,i,rfl⟩:=h
 exact⟨_,_,e,k s i⟩
theorem xFS(h:fa ρ=.ok (x,ρ1))(u:CQ x=.ok (us,b)):sU fa ρ=.ok (us,ρ1):=bk h (bk u rfl)
theorem wFr(e:cZ i ρ = ρ1)(k:W (f ρ1) Q):W (Rq i f ρ) Q:=by subst e; exact k
theorem xFz(h : ρ[i]?=some (.ow ts))(e : ρ.set i (.sh (.lst ts)) = ρ1):cZ i ρ = ρ1:=by unfold cZ; rw[h]; exact e
theorem wDw(h : ρ[i]?=some (.dp ts))(e : ρ.set i (.ow ts) = ρ1)(k:W (f ρ1) Q):W (HN i f ρ) Q:=by subst e; unfold HN tE; rw[h]; exact k
theorem xVw{c:BF}(e:vw ρ = ρ2)(h:c ρ2=.ok (b,ρ1)):S7 c ρ=.ok (b,ρ):=by subst e; unfold S7; rw[h]; rfl
theorem xSl{l h:OF}{lo hi:Option Int}(e:fa ρ=.ok (x,ρ1))(k:l ρ1=.ok (lo,ρ2))(k':h ρ2=.ok (hi,ρ3))(u:dr ρ3 x=.ok T)(q:jx lo hi T=.ok (V,b)):Aa fa l h ρ=.ok (.v V b,ρ3):=bk e (bk k (bk k' (bk u (bk q rfl))))
theorem xOS{m:Int}(h:fa ρ=.ok (x,ρ1))(k:dr ρ1 x=.ok (.int m)):z9 fa ρ=.ok (some m,ρ1):=bk h (bk k rfl)
theorem Mf(e:j8 n as = ρ)(h:W (f ρ) λfl _=>CP fl=.ok z):aJ n f as=.ok z:=by
 subst e
 obtain⟨fl,ρ1,h,k⟩:=h
 refine bk h ?_
 cases fl <;> first|exact k|(cases k; done)
theorem wFe{R:Tr × Bool->Prop}(e:j8 n as = ρ)(h:W (f ρ) λfl _=>∃z,CP fl=.ok z/\R z):∃z,aJ n f as=.ok z/\R z:=by
 obtain⟨fl,ρ1,h,z,k,q⟩:=h
 exact⟨z,Mf e ⟨fl,ρ1,h,k⟩,q⟩
theorem xRg{n:Nat}(h:fa ρ=.ok (x,ρ1))(d:dr ρ1 x=.ok (.int (n:Int)))(hn:n<=1000):RG (cW fa dU) ρ=.ok ((List.range n).map λi:Nat=>Tr.int i,ρ1):=by
 have u:∀(m:Nat) (lo:Nat),L2.upTo (lo:Int) m=(List.range' lo m).map λi:Nat=>Tr.int i:=λm=>by
  induction m with
  |zero=>exact λ_=>rfl
  |succ m ih=>exact λlo=>congrArg (Tr.int lo :: ·) (ih (lo+1))
 have u:=u n 0
 rw[<-List.range_eq_range']at u
 exact bk (uG h rfl) (bk (show drs ρ1 [x]=.ok [.int (n:Int)]from bk d rfl) ((if_pos (by unfold okR; simp; omega)).trans (by rw[Int.toNat_natCast]; exact congrArg (λl=>Rs.ok (l,ρ1)) u)))
theorem T9{α : Type}{r h : α -> Tr}{fr : α -> Bool}{τ : En}{fe:EF}:∀(xs:List α) (s:Sl),(∀x∈xs,fe (.sh (r x)::τ)=.ok (.v (h x) (fr x),.sh (r x)::τ))->∃s',gC (gN 0) jw fe (xs.map r) (s::τ)=.ok (xs.map h,s'::τ)
 | [],s,_=>⟨s,rfl⟩
 |x::xs,s,q=>by
  obtain⟨s',e'⟩:=T9 xs (.sh (r x)) λv hv=>q v (List.mem_cons_of_mem _ hv)
  exact⟨s',bk (a:=.sh (r x)::τ) rfl (bk rfl ((if_pos rfl).trans (bk (q x (List.mem_cons_self ..)) (bk rfl (bk e' rfl)))))⟩
theorem xMp{β : Type}{t h : β -> Tr}{fr : β -> Bool}{xs:List β}{rest:List (Option Nat)}{fe:EF}{τ : En}(hi:fi ρ=.ok (us,ρ))(hu:us=xs.map t)(hτ : eG rest ρ = τ)(hs:∀s,eZ (none::rest) (s::τ) ρ = true)(hd:∀s,bM (none::rest) (s::τ) ρ = ρ)
  (hf:∀x∈xs,fe (.sh (t x)::τ)=.ok (.v (h x) (fr x),.sh (t x)::τ)) (hl:xs.length<=100000):tB (none::rest) fi (gN 0) jw fe ρ=.ok (.v (.lst (xs.map h)) true,ρ):=by
 subst hu hτ
 obtain⟨s,e⟩:=T9 xs .un hf
 refine bk hi ((if_pos (by rw[List.length_map]; exact hl)).trans ?_)
 show(gA (gC _ _ _ _ (Sl.un::eG rest ρ))).bind _=_
 rw[e]
 refine bk rfl ((if_pos (hs s)).trans ?_)
 rw[hd s]
theorem Je{α : Type}{r : α -> Tr}{p : α -> Bool}{τ : En}:∀(xs:List α) (s:Sl),(∀x∈xs,c (.sh (r x)::τ)=.ok (p x,.sh (r x)::τ))->∃s',gC (gN 0) c (bL 0) (xs.map r) (s::τ)=.ok ((xs.filter p).map r,s'::τ)
 | [],s,_=>⟨s,rfl⟩
 |x::xs,s,q=>by
  obtain⟨s',e'⟩:=Je xs (.sh (r x)) λv hv=>q v (List.mem_cons_of_mem _ hv)
  refine⟨s',bk (a:=.sh (r x)::τ) rfl (bk (q x (List.mem_cons_self ..)) ?_)⟩
  rw[List.filter_cons]
  cases p x
  .exact(if_neg Bool.false_ne_true).trans e'
  .exact(if_pos rfl).trans (bk rfl (bk rfl (bk e' rfl)))
theorem xFl{β : Type}{t : β -> Tr}{p : β -> Bool}{xs:List β}{rest:List (Option Nat)}{τ : En}(hi:fi ρ=.ok (us,ρ))(hu:us=xs.map t)(hτ : eG rest ρ = τ)(hs:∀s,eZ (none::rest) (s::τ) ρ = true)(hd:∀s,bM (none::rest) (s::τ) ρ = ρ)
  (hf:∀x∈xs,c (.sh (t x)::τ)=.ok (p x,.sh (t x)::τ)) (hl:xs.length<=100000):tB (none::rest) fi (gN 0) c (bL 0) ρ=.ok (.v (.lst ((xs.filter p).map t)) true,ρ):=by
 subst hu hτ
 obtain⟨s,e⟩:=Je xs .un hf
 refine bk hi ((if_pos (by rw[List.length_map]; exact hl)).trans ?_)
 show(gA (gC _ _ _ _ (Sl.un::eG rest ρ))).bind _=_
 rw[e]
 refine bk rfl ((if_pos (hs s)).trans ?_)
 rw[hd s]
theorem xFO{β : Type}{t : β -> Tr}{p : β -> Bool}{xs:List β}{rest:List (Option Nat)}{τ : En}(hi:con ρ n=.ok us)(hu:us=xs.map t)(hτ : eG rest ρ = τ)(hs:∀s,eZ (none::rest) (s::τ) ρ = true)(hd:∀s,bM (none::rest) (s::τ) ρ = ρ)
  (hf:∀x∈xs,c (.sh (t x)::τ)=.ok (p x,.sh (t x)::τ)) (hl:xs.length<=100000):HF (none::rest) n (gN 0) c (bL 0) ρ=.ok (.v (.lst ((xs.filter p).map t)) true,ρ):=by
 subst hu hτ
 obtain⟨s,e⟩:=Je xs .un hf
 refine bk hi ((if_pos (by rw[List.length_map]; exact hl)).trans ?_)
 show(gA (gC _ _ _ _ (Sl.un::eG rest ρ))).bind _=_
 rw[e]
 refine bk rfl ((if_pos (hs s)).trans ?_)
 rw[hd s]
theorem xIn{m:Nat}(h:aa ρ=.ok (ps,ρ1))(k:cls ps=.ok [.int m,T])(n:con ρ i=.ok as)(q : ρ1[i]?=some (.ow ts))(l:m<=ts.length)(l':ts.length<=100000)(e : ρ1.set i (.ow (ts.take m++T::ts.drop m)) = ρ2):Ad i wD aa ρ=.ok (.v .non false,ρ2):=by
 have c:con ρ1 i=.ok ts:=by unfold con; rw[q]
 have u:cU i (ts.take m++T::ts.drop m) ρ1 = ρ2:=by unfold cU; rw[q]; exact e
 exact u▸bk n (bk h (bk k (bk c (bk (a:=(ts.take m++T::ts.drop m,Tr.non)) (if_pos ⟨Int.natCast_nonneg m,l,l'⟩) rfl))))
theorem xLR{m:Nat}(h:fa ρ=.ok (.v T b,ρ1))(k:T=.int (m:Int))(l:m<=1000):eLR (cW fa dU) ρ=.ok (.v (.lst ((List.range m).map λi:Nat=>Tr.int i)) true,ρ1):=by
 subst k
 exact bk (uG h rfl) ((if_pos ⟨Int.natCast_nonneg m,by omega⟩).trans (by rw[Int.toNat_natCast]))
theorem Ua{α : Type}{a b h : α -> Tr}{fr : α -> Bool}{τ : En}{fe:EF}:∀(xs:List α) (s s':Sl),(∀x∈xs,fe (.sh (a x) :: .sh (b x)::τ)=.ok (.v (h x) (fr x),.sh (a x) :: .sh (b x)::τ))->∃t t',gC (gT 2 (lg (gN 0) (lg (gN 1) vU))) jw fe (xs.map λx=>.tup [a x,b x]) (s::s'::τ)=.ok (xs.map h,t::t'::τ)
 | [],s,s',_=>⟨s,s',rfl⟩
 |x::xs,s,s',q=>by
  obtain⟨t,t',e⟩:=Ua xs (.sh (a x)) (.sh (b x)) λv hv=>q v (List.mem_cons_of_mem _ hv)
  exact⟨t,t',bk (a:=.sh (a x) :: .sh (b x)::τ) rfl (bk rfl ((if_pos rfl).trans (bk (q x (List.mem_cons_self ..)) (bk rfl (bk e rfl)))))⟩
theorem xM2{β : Type}{a b h : β -> Tr}{fr : β -> Bool}{xs:List β}{rest:List (Option Nat)}{fe:EF}{τ : En}(hi:fi ρ=.ok (us,ρ))(hu:us=xs.map λx=>.tup [a x,b x])(hτ : eG rest ρ = τ)(hs:∀s s',eZ (none::none::rest) (s::s'::τ) ρ = true)(hd:∀s s',bM (none::none::rest) (s::s'::τ) ρ = ρ)
  (hf:∀x∈xs,fe (.sh (a x) :: .sh (b x)::τ)=.ok (.v (h x) (fr x),.sh (a x) :: .sh (b x)::τ)) (hl:xs.length<=100000):tB (none::none::rest) fi (gT 2 (lg (gN 0) (lg (gN 1) vU))) jw fe ρ=.ok (.v (.lst (xs.map h)) true,ρ):=by
 subst hu hτ
 obtain⟨s,s',e⟩:=Ua xs .un .un hf
 refine bk hi ((if_pos (by rw[List.length_map]; exact hl)).trans ?_)
 show(gA (gC _ _ _ _ (Sl.un::Sl.un::eG rest ρ))).bind _=_
 rw[e]
 refine bk rfl ((if_pos (hs s s')).trans ?_)
 rw[hd s s']
theorem xZi{aa:AF}{T U:Tr}{us vs:List Tr}{b b':Bool}{ρ ρ1:En}(h:aa ρ=.ok ([.v T b,.v U b'],ρ1))(e:T=.lst us)(e':U=.lst vs):RJ aa ρ=.ok (iW us vs,ρ1):=by subst e e'; exact bk h rfl
theorem aag{a b:Int}:n8 (.int a) (.int b)=.ok (.int (a+b),false):=rfl
theorem aai(h:ts.length+us.length<=100000):n8 (.lst ts) (.lst us)=.ok (.lst (ts++us),true):=if_pos h
theorem aah{a b:Int}:u0 (.int a) (.int b)=.ok (.int (a-b),false):=rfl
theorem xLt{a b:Int}:rH (.int a) (.int b)=.ok (.bl (decide (a<b)),false):=rfl
theorem xGt{a b:Int}:Fi (.int a) (.int b)=.ok (.bl (decide (b<a)),false):=rfl
theorem xLe{a b:Int}:Fj (.int a) (.int b)=.ok (.bl (decide (a<=b)),false):=rfl
theorem xGe{a b:Int}:Fo (.int a) (.int b)=.ok (.bl (decide (b<=a)),false):=rfl
theorem aaj{a b:Int}(h:cX a b=true):pW (.int a) (.int b)=.ok (.int (a*b),false):=if_pos h
theorem cMr{a b:Int}(h : -18446744073709551616<b/\b<18446744073709551616):cX a b=true:=by
 have h:tiny b=true:=by unfold tiny; rw[decide_eq_true h.1,decide_eq_true h.2]; rfl
 unfold cX
 rw[h,Bool.or_true]
theorem cMl{a b:Int}(h : -18446744073709551616<a/\a<18446744073709551616):cX a b=true:=by
 have h:tiny a=true:=by unfold tiny; rw[decide_eq_true h.1,decide_eq_true h.2]; rfl
 unfold cX
 rw[h,Bool.or_true,Bool.true_or]
theorem Ma{a b:Int}(h:0<b)(k:b<2 ^ 64):iy a b=true:=by
 unfold iy
 rw[decide_eq_true (show b≠0 by omega),Bool.true_and,decide_eq_true_eq]
 have:=(Nat.log2_lt (n:=b.natAbs) (k:=64) (by omega)).mpr (by omega)
 omega
theorem LQ{a b:Int}(h:iy a b=true):yP (.int a) (.int b)=.ok (.int (a.fdiv b),false):=if_pos h
theorem LK{a b:Int}(h:b≠0):yQ (.int a) (.int b)=.ok (.int (a.fmod b),false):=if_pos (decide_eq_true h)
theorem xEq{a b:Int}:jV (.int a) (.int b)=.ok (.bl (decide (a=b)),false):=by
 have d:∀i,dep (.int i)=0:=λi=>by unfold dep; rfl
 refine(if_pos ⟨by rw[d]; omega,by rw[d]; omega⟩).trans ?_
 unfold eqT
 rfl
theorem LC{a b:Int}:iK (.int a) (.int b)=.ok (.bl (!decide (a=b)),false):=by
 have d:∀i,dep (.int i)=0:=λi=>by unfold dep; rfl
 refine(if_pos ⟨by rw[d]; omega,by rw[d]; omega⟩).trans ?_
 unfold eqT
 rfl
theorem xAb{a:Int}(h:0<=a):u6 (.int a)=.ok (.int a,false):=by
 show Rs.ok (Tr.int (if a<0 then -a else a),false)=_
 rw[if_neg (by omega)]
theorem jL{a b:Str}(h:(a == b)=false):jV (.str a) (.str b)=.ok (.bl false,false):=by
 have d:∀i,dep (.str i)=0:=λi=>by unfold dep; rfl
 refine(if_pos ⟨by rw[d]; omega,by rw[d]; omega⟩).trans ?_
 unfold eqT
 rw[h]
theorem CT{a:Str}:jV (.str a) (.str a)=.ok (.bl true,false):=by
 have d:∀i,dep (.str i)=0:=λi=>by unfold dep; rfl
 refine(if_pos ⟨by rw[d]; omega,by rw[d]; omega⟩).trans ?_
 unfold eqT
 rw[beq_self_eq_true]
theorem xSN{a b:Str}(h:(a == b)=false):iK (.str a) (.str b)=.ok (.bl true,false):=by
 have d:∀i,dep (.str i)=0:=λi=>by unfold dep; rfl
 refine(if_pos ⟨by rw[d]; omega,by rw[d]; omega⟩).trans ?_
 unfold eqT
 rw[h]
 rfl
theorem xSn{a:Str}:iK (.str a) (.str a)=.ok (.bl false,false):=by
 have d:∀i,dep (.str i)=0:=λi=>by unfold dep; rfl
 refine(if_pos ⟨by rw[d]; omega,by rw[d]; omega⟩).trans ?_
 unfold eqT
 rw[beq_self_eq_true]
 rfl
theorem xLL:eH (.lst ts)=.ok (.int ts.length,false):=rfl
theorem CV{β : Type}{h : β -> Tr}{l:List β}:eH (.lst (l.map h))=.ok (.int l.length,false):=by rw[<-List.length_map (as:=l) h]; rfl
theorem xLT:eH (.tup ts)=.ok (.int ts.length,false):=rfl
theorem xNb(h:b=false):(!b)=true:=by rw[h]; rfl
theorem xNB(h:b=true):(!b)=false:=by rw[h]; rfl
section
variable {a0 a1 a2 a3 a4 a5 a6 a7 a8 a9 a10 a11 a12 a13 a14:Sl}{l:En}
theorem st0:(a0::l).set 0 S=S::l:=rfl
theorem st1:(a0::a1::l).set 1 S=a0::S::l:=rfl
theorem st2:(a0::a1::a2::l).set 2 S=a0::a1::S::l:=rfl
theorem st3:(a0::a1::a2::a3::l).set 3 S=a0::a1::a2::S::l:=rfl
theorem pB:(a0::a1::a2::a3::a4::l).set 4 S=a0::a1::a2::a3::S::l:=rfl
theorem iw:(a0::a1::a2::a3::a4::a5::l).set 5 S=a0::a1::a2::a3::a4::S::l:=rfl
theorem st6:(a0::a1::a2::a3::a4::a5::a6::l).set 6 S=a0::a1::a2::a3::a4::a5::S::l:=rfl
theorem gH:(a0::a1::a2::a3::a4::a5::a6::a7::l).set 7 S=a0::a1::a2::a3::a4::a5::a6::S::l:=rfl
theorem st8{m:Nat}{l':En}(h:l.set m S=l'):(a0::a1::a2::a3::a4::a5::a6::a7::l).set (m+8) S=a0::a1::a2::a3::a4::a5::a6::a7::l':=h▸rfl
end
end
end L2
end
section
namespace BH
open PySem L2
noncomputable abbrev Ub:=(bC (sN (sW (Tc 1) (tK (aM g8 (aj 1) (vC (.int 0)))) (b1 (GP 0 1 (ak (aj 1) (ak (dK (aj 0) (aj 1)) ao)))))) (b1 (aB (IW (ak (aj 0) ao)))))
noncomputable abbrev afO:SF:=by exists Ub
noncomputable def Uc:FP:=aJ 2 afO
noncomputable abbrev Jf{f:AF}(a:VA f):=vF "common_divisor" ["one", "other"] Uc 1 a
noncomputable abbrev Ud:=(bC (sI (tK (aM dG (aj 1) (vC (.int 0)))) (b1 (oK "NoBottom" (vC (.str "a fraction has no bottom of 0")))) b0) (bC (sA 2 (aE (Jf (ak (aj 0) (ak (aj 1) ao))))) (bC (sI (tK (aM mW (aj 1) (vC (.int 0)))) (b1 (sA 2 (aE (vH (aj 2))))) b0) (b1 (aB (f9 (ak (dY (aj 0) (aj 2)) (ak (dY (aj 1) (aj 2)) ao))))))))
noncomputable abbrev afP:SF:=by exists Ud
noncomputable def Ue:FP:=aJ 3 afP
noncomputable abbrev Bx{f:AF}(a:VA f):=vF "fraction_of" ["top", "bottom"] Ue 2 a
noncomputable abbrev Ug:=(b1 (aB (Bx (ak (dJ (cF (au (aj 0) (vC (.int 0))) (au (aj 1) (vC (.int 1)))) (cF (au (aj 1) (vC (.int 0))) (au (aj 0) (vC (.int 1))))) (ak (cF (au (aj 0) (vC (.int 1))) (au (aj 1) (vC (.int 1)))) ao)))))
noncomputable abbrev afQ:SF:=by exists Ug
noncomputable def Uh:FP:=aJ 2 afQ
noncomputable abbrev afR{f:AF}(a:VA f):=vF "frac_sum" ["one", "other"] Uh 3 a
noncomputable abbrev Ui:=(b1 (aB (Bx (ak (qK (cF (au (aj 0) (vC (.int 0))) (au (aj 1) (vC (.int 1)))) (cF (au (aj 1) (vC (.int 0))) (au (aj 0) (vC (.int 1))))) (ak (cF (au (aj 0) (vC (.int 1))) (au (aj 1) (vC (.int 1)))) ao)))))
noncomputable abbrev afS:SF:=by exists Ui
noncomputable def Uj:FP:=aJ 2 afS
noncomputable abbrev afT{f:AF}(a:VA f):=vF "frac_less" ["one", "other"] Uj 3 a
noncomputable abbrev Uk:=(b1 (aB (Bx (ak (cF (au (aj 0) (vC (.int 0))) (au (aj 1) (vC (.int 0)))) (ak (cF (au (aj 0) (vC (.int 1))) (au (aj 1) (vC (.int 1)))) ao)))))
noncomputable abbrev afU:SF:=by exists Uk
noncomputable def tR:FP:=aJ 2 afU
noncomputable abbrev tU{f:AF}(a:VA f):=vF "frac_times" ["one", "other"] tR 3 a
noncomputable abbrev Ul:=(b1 (aB (Bx (ak (cF (au (aj 0) (vC (.int 0))) (au (aj 1) (vC (.int 1)))) (ak (cF (au (aj 0) (vC (.int 1))) (au (aj 1) (vC (.int 0)))) ao)))))
noncomputable abbrev afV:SF:=by exists Ul
noncomputable def Um:FP:=aJ 2 afV
noncomputable abbrev afW{f:AF}(a:VA f):=vF "frac_by" ["one", "other"] Um 3 a
noncomputable abbrev Uo:=(b1 (aB (vK (aM mW (cF (au (aj 0) (vC (.int 0))) (au (aj 1) (vC (.int 1)))) (cF (au (aj 1) (vC (.int 0))) (au (aj 0) (vC (.int 1))))))))
noncomputable abbrev afX:SF:=by exists Uo
noncomputable def Uq:FP:=aJ 2 afX
noncomputable abbrev afY{f:AF}(a:VA f):=vF "frac_below" ["one", "other"] Uq 1 a
noncomputable abbrev Ur:=(b1 (aB (vV .And (uA (TQ (aj 0)) (u1 .And (Gf (TV (aj 0))))))))
noncomputable abbrev afZ:SF:=by exists Ur
noncomputable def Ut:FP:=aJ 1 afZ
noncomputable abbrev wQ{f:AF}(a:VA f):=vF "is_whole" ["thing"] Ut 1 a
noncomputable abbrev Uu:=(bC (sI (tW .Or (wO (bQ (bG (wM (aj 0)))) (w1 .Or (tK (aM g8 (bh (ak (aj 0) ao)) (vC (.int 2))))))) (b1 (aB (vC (.bl false)))) b0) (bC (sH (aj 0) (fK 2 (bJ (gV 1) (bJ (gV 2) fJ)))) (bC (sI (tW .Or (wO (bQ (bG (wQ (ak (aj 1) ao)))) (w1 .Or (bQ (bG (wQ (ak (aj 2) ao))))))) (b1 (aB (vC (.bl false)))) b0) (b1 (aB (vV .And (uA (vK (aM IK (aj 2) (vC (.int 1)))) (u1 .And (vK (aM dG (Jf (ak (aj 1) (ak (aj 2) ao))) (vC (.int 1))))))))))))
noncomputable abbrev af0:SF:=by exists Uu
noncomputable def Uv:FP:=aJ 3 af0
noncomputable abbrev Uw{f:AF}(a:VA f):=vF "is_fraction" ["thing"] Uv 2 a
noncomputable abbrev Ux:=(b1 (aB (vV .And (uA (Uw (ak (aj 0) ao)) (u1 .And (vK (rO j6 j6 (vC (.int 0)) (au (aj 0) (vC (.int 0))) (au (aj 0) (vC (.int 1))))))))))
noncomputable abbrev af2:SF:=by exists Ux
noncomputable def Uy:FP:=aJ 1 af2
noncomputable abbrev af3{f:AF}(a:VA f):=vF "is_worth" ["thing"] Uy 3 a
noncomputable abbrev Uz:=(bC (sI (tW .Or (wO (bQ (bG (o7 (aj 0)))) (w1 .Or (bQ (tK (rO j6 j6 (vC (.int 1)) (bh (ak (aj 0) ao)) (aj 1))))))) (b1 (aB (vC (.bl false)))) b0) (b1 (aB (oZ (ak (dw (cC [none] ["part"] (bK (aj 0)) (gV 0) (af3 (ak (aj 0) ao)))) ao)))))
noncomputable abbrev af4:SF:=by exists Uz
noncomputable def UG:FP:=aJ 2 af4
noncomputable abbrev af5{f:AF}(a:VA f):=vF "are_worths" ["thing", "most"] UG 4 a
noncomputable abbrev UJ:=(bC (sI (tW .Or (wO (bQ (bG (o7 (aj 0)))) (w1 .Or (bQ (tK (rO j6 j6 (vC (.int 1)) (bh (ak (aj 0) ao)) (vG "MOST_LISTS" (.int 4)))))))) (b1 (aB (vC (.bl false)))) b0) (bC (sI (bQ (bG (oZ (ak (dw (cC [none] ["row"] (bK (aj 0)) (gV 0) (af5 (ak (aj 0) (ak (vG "MOST_THINGS" (.int 12)) ao))))) ao)))) (b1 (aB (vC (.bl false)))) b0) (b1 (aB (oZ (ak (dw (cC [none,some 0] ["row", "thing"] (bK (aj 0)) (gV 0) (vK (aM dG (bh (ak (aj 0) ao)) (bh (ak (au (aj 1) (vC (.int 0))) ao)))))) ao))))))
noncomputable abbrev af6:SF:=by exists UJ
noncomputable def UL:FP:=aJ 1 af6
noncomputable abbrev af7{f:AF}(a:VA f):=vF "is_book" ["thing"] UL 5 a
noncomputable abbrev UW:=(bC (sA 1 (aE (vC (.int 1)))) (bC (sN (sF (bK (aj 0)) (fK 2 (bJ (gV 2) (bJ (gV 3) fJ))) (b1 (sA 1 (aE (dY (cF (aj 1) (aj 3)) (Jf (ak (aj 1) (ak (aj 3) ao))))))))) (b1 (aB (aj 1)))))
noncomputable abbrev af8:SF:=by exists UW
noncomputable def U0:FP:=aJ 4 af8
noncomputable abbrev Jg{f:AF}(a:VA f):=vF "common_bottom" ["fractions"] U0 2 a
noncomputable abbrev U3:=(bC (sA 1 (aE (Jg (ak (aj 0) ao)))) (b1 (aB (dw (cC [none,none,some 1] ["top", "own", "bottom"] (bK (aj 0)) (fK 2 (bJ (gV 0) (bJ (gV 1) fJ))) (cF (aj 0) (dY (aj 2) (aj 1))))))))
noncomputable abbrev af9:SF:=by exists U3
noncomputable def Jh:FP:=aJ 2 af9
noncomputable abbrev Ji{f:AF}(a:VA f):=vF "tops_on_one_bottom" ["fractions"] Jh 3 a
noncomputable abbrev U4:=(bC (sA 1 (aE (Ji (ak (aj 0) ao)))) (b1 (aB (Sy kyI "falling_places" "place" ["tops"] [some 1] (ak (bh (ak (aj 1) ao)) ao) (Ig (Ie (tM 1) (tM 0)))))))
noncomputable abbrev aga:SF:=by exists U4
noncomputable def tV:FP:=aJ 2 aga
noncomputable abbrev mY{f:AF}(a:VA f):=vF "falling_places" ["fractions"] tV 4 a
noncomputable abbrev U5:=(b1 (aB (vV .And (uA (wQ (ak (aj 0) ao)) (u1 .And (vK (rO j6 mW (vC (.int 0)) (aj 0) (aj 1))))))))
noncomputable abbrev agb:SF:=by exists U5
noncomputable def U6:FP:=aJ 2 agb
noncomputable abbrev BJ{f:AF}(a:VA f):=vF "is_place" ["thing", "many"] U6 2 a
noncomputable abbrev U7:=(b1 (sI (bQ (bG (af7 (ak (aj 0) ao)))) (b1 (oK "NoBook" (vC (.str "this is no book")))) b0))
noncomputable abbrev agc:SF:=by exists U7
noncomputable def U8:FP:=aJ 1 agc
noncomputable abbrev U9{f:AF}(a:VA f):=vF "need_book" ["book"] U8 6 a
noncomputable abbrev agd:=(b1 (sI (bQ (bG (BJ (ak (aj 1) (ak (bh (ak (aj 0) ao)) ao))))) (b1 (oK "NoList" (vC (.str "the book has no list of this number")))) b0))
noncomputable abbrev agf:SF:=by exists agd
noncomputable def Va:FP:=aJ 2 agf
noncomputable abbrev agg{f:AF}(a:VA f):=vF "need_list" ["book", "place"] Va 3 a
noncomputable abbrev agh:=(bC (dz (U9 (ak (aj 0) ao))) (bC (dz (agg (ak (aj 0) (ak (aj 1) ao)))) (b1 (aB (mY (ak (au (aj 0) (aj 1)) ao))))))
noncomputable abbrev agi:SF:=by exists agh
noncomputable def agj:FP:=aJ 2 agi
noncomputable abbrev Vb:=(bC (sI (tW .Or (wO (bQ (bG (o7 (aj 0)))) (w1 .Or (tK (aM g8 (bh (ak (aj 0) ao)) (aj 1)))))) (b1 (aB (vC (.bl false)))) b0) (b1 (aB (oZ (ak (dw (cC [none] ["part"] (bK (aj 0)) (gV 0) (vV .And (uA (Uw (ak (aj 0) ao)) (u1 .And (vK (aM IK (au (aj 0) (vC (.int 0))) (vC (.int 0))))))))) ao)))))
noncomputable abbrev agk:SF:=by exists Vb
noncomputable def Vc:FP:=aJ 2 agk
noncomputable abbrev agl{f:AF}(a:VA f):=vF "are_weights" ["thing", "many"] Vc 3 a
noncomputable abbrev Vd:=(bC (sI (bQ (bG (wM (aj 0)))) (b1 (aB (vC (.bl false)))) b0) (bC (sI (tK (aM g8 (bh (ak (aj 0) ao)) (vC (.int 2)))) (b1 (aB (vK (aM qIn (aj 0) (vG "BARE_RULES" (.tup [(.tup [(.str "least")]),(.tup [(.str "greatest")]),(.tup [(.str "product")])])))))) b0) (bC (sH (aj 0) (fK 2 (bJ (gV 2) (bJ (gV 3) fJ)))) (bC (sI (tK (aM dG (aj 2) (vC (.str "shares")))) (b1 (aB (agl (ak (aj 3) (ak (aj 1) ao))))) b0) (b1 (aB (vV .And (uA (vK (aM dG (aj 2) (vC (.str "middle")))) (uA (wQ (ak (aj 3) ao)) (u1 .And (vK (rO j6 j6 (vC (.int 1)) (aj 3) (aj 1)))))))))))))
noncomputable abbrev agm:SF:=by exists Vd
noncomputable def Ve:FP:=aJ 4 agm
noncomputable abbrev agn{f:AF}(a:VA f):=vF "is_rule" ["thing", "many"] Ve 4 a
noncomputable abbrev Vf:=(bC (sA 2 (aE (mQ [.int 0,.int 1]))) (bC (sN (sF (iZ (ak (aj 0) (ak (aj 1) ao))) (fK 2 (bJ (gV 3) (bJ (gV 4) fJ))) (b1 (sA 2 (aE (afR (ak (aj 2) (ak (tU (ak (aj 3) (ak (aj 4) ao))) ao)))))))) (b1 (aB (aj 2)))))
noncomputable abbrev ago:SF:=by exists Vf
noncomputable def Vg:FP:=aJ 5 ago
noncomputable abbrev agp{f:AF}(a:VA f):=vF "shares_worth" ["weights", "worths"] Vg 4 a
noncomputable abbrev Vh:=(bC (sA 1 (aE (mQ [.int 1,.int 1]))) (bC (sN (sF (bK (aj 0)) (gV 2) (b1 (sA 1 (aE (tU (ak (aj 1) (ak (aj 2) ao)))))))) (b1 (aB (aj 1)))))
noncomputable abbrev agq:SF:=by exists Vh
noncomputable def Vi:FP:=aJ 3 agq
noncomputable abbrev agr{f:AF}(a:VA f):=vF "product_worth" ["worths"] Vi 4 a
noncomputable abbrev Vj:=(bC (sI (tK (aM dG (au (aj 0) (vC (.int 0))) (vC (.str "greatest")))) (b1 (aB (vC (.int 1)))) b0) (bC (sI (tK (aM dG (au (aj 0) (vC (.int 0))) (vC (.str "least")))) (b1 (aB (aj 1))) b0) (b1 (aB (au (aj 0) (vC (.int 1)))))))
noncomputable abbrev ags:SF:=by exists Vj
noncomputable def Vk:FP:=aJ 2 ags
noncomputable abbrev agt{f:AF}(a:VA f):=vF "place_of" ["rule", "many"] Vk 1 a
noncomputable abbrev Vl:=(bC (sI (tK (aM dG (au (aj 0) (vC (.int 0))) (vC (.str "shares")))) (b1 (aB (agp (ak (au (aj 0) (vC (.int 1))) (ak (aj 1) ao))))) b0) (bC (sI (tK (aM dG (au (aj 0) (vC (.int 0))) (vC (.str "product")))) (b1 (aB (agr (ak (aj 1) ao)))) b0) (b1 (aB (au (aj 1) (au (mY (ak (aj 1) ao)) (qK (agt (ak (aj 0) (ak (bh (ak (aj 1) ao)) ao))) (vC (.int 1)))))))))
noncomputable abbrev agu:SF:=by exists Vl
noncomputable def gh:FP:=aJ 2 agu
noncomputable abbrev Jj{f:AF}(a:VA f):=vF "worth_by" ["rule", "worths"] gh 5 a
noncomputable abbrev Vm:=(bC (dz (U9 (ak (aj 0) ao))) (b1 (sI (bQ (bG (agn (ak (aj 1) (ak (bh (ak (aj 0) ao)) ao))))) (b1 (oK "NoRule" (vC (.str "this is no rule for the book's lists")))) b0)))
noncomputable abbrev agv:SF:=by exists Vm
noncomputable def Vo:FP:=aJ 2 agv
noncomputable abbrev Jk{f:AF}(a:VA f):=vF "need_book_and_rule" ["book", "rule"] Vo 7 a
noncomputable abbrev Vp:=(b1 (aB (dw (cC [none,some 1] ["row", "thing"] (bK (aj 0)) (gV 0) (au (aj 0) (aj 1))))))
noncomputable abbrev agw:SF:=by exists Vp
noncomputable def Jl:FP:=aJ 2 agw
noncomputable abbrev Vq{f:AF}(a:VA f):=vF "worths_of" ["book", "thing"] Jl 1 a
noncomputable abbrev Vr:=(b1 (aB (dw (cC [none,some 1,some 0] ["thing", "rule", "book"] (fL (ak (bh (ak (au (aj 0) (vC (.int 0))) ao)) ao)) (gV 0) (Jj (ak (aj 1) (ak (Vq (ak (aj 2) (ak (aj 0) ao))) ao)))))))
noncomputable abbrev agx:SF:=by exists Vr
noncomputable def Vs:FP:=aJ 2 agx
noncomputable abbrev agy{f:AF}(a:VA f):=vF "worths_by" ["book", "rule"] Vs 6 a
noncomputable abbrev Vt:=(b1 (aB (vV .And (uA (wQ (ak (aj 0) ao)) (u1 .And (vK (rO j6 j6 (vC (.int 0)) (aj 0) (aj 1))))))))
noncomputable abbrev agz:SF:=by exists Vt
noncomputable def Vu:FP:=aJ 2 agz
noncomputable abbrev Vv{f:AF}(a:VA f):=vF "is_count" ["thing", "many"] Vu 2 a
noncomputable abbrev Vw:=(b1 (sI (bQ (bG (Vv (ak (aj 1) (ak (bh (ak (au (aj 0) (vC (.int 0))) ao)) ao))))) (b1 (oK "NoCount" (vC (.str "this is no count of the book's things")))) b0))
noncomputable abbrev agA:SF:=by exists Vw
noncomputable def Vx:FP:=aJ 2 agA
noncomputable abbrev agB{f:AF}(a:VA f):=vF "need_count" ["book", "count"] Vx 3 a
noncomputable abbrev Vy:=(bC (dz (Jk (ak (aj 0) (ak (aj 1) ao)))) (b1 (dz (agB (ak (aj 0) (ak (aj 2) ao))))))
noncomputable abbrev agC:SF:=by exists Vy
noncomputable def Vz:FP:=aJ 3 agC
noncomputable abbrev VD{f:AF}(a:VA f):=vF "need_book_rule_and_count" ["book", "rule", "count"] Vz 8 a
noncomputable abbrev VF:=(bC (dz (VD (ak (aj 0) (ak (aj 1) (ak (aj 2) ao))))) (bC (sA 3 (aE (agy (ak (aj 0) (ak (aj 1) ao))))) (b1 (aB (dw (cC [none,some 3] ["thing", "worths"] (bK (qj (mY (ak (aj 3) ao)) oN (oS (aj 2)))) (gV 0) (f9 (ak (aj 0) (ak (au (aj 1) (aj 0)) ao)))))))))
noncomputable abbrev agD:SF:=by exists VF
noncomputable def VH:FP:=aJ 4 agD
noncomputable abbrev agE{f:AF}(a:VA f):=vF "best_few" ["book", "rule", "count"] VH 9 a
noncomputable abbrev VJ:=(b1 (aB (oZ (ak (dw (cC [none,none] ["one", "other"] (iZ (ak (aj 0) (ak (qj (aj 0) (oS (vC (.int 1))) oN) ao))) (fK 2 (bJ (gV 0) (bJ (gV 1) fJ))) (vK (aM mW (aj 0) (aj 1))))) ao))))
noncomputable abbrev agF:SF:=by exists VJ
noncomputable def Jm:FP:=aJ 1 agF
noncomputable abbrev VP{f:AF}(a:VA f):=vF "are_rising" ["parts"] Jm 1 a
noncomputable abbrev VR:=(b1 (aB (dw (cC [none] ["row"] (bK (aj 0)) (gV 0) (mY (ak (aj 0) ao))))))
noncomputable abbrev agG:SF:=by exists VR
noncomputable def V0:FP:=aJ 1 agG
noncomputable abbrev V1{f:AF}(a:VA f):=vF "read_orders" ["book"] V0 5 a
noncomputable abbrev V2:=(bC (sI (tW .Or (wO (bQ (bG (o7 (aj 0)))) (w1 .Or (tK (aM g8 (bh (ak (aj 0) ao)) (aj 1)))))) (b1 (aB (vC (.bl false)))) b0) (b1 (aB (oZ (ak (dw (cC [none,some 2] ["part", "many"] (bK (aj 0)) (gV 0) (Vv (ak (aj 0) (ak (aj 1) ao))))) ao)))))
noncomputable abbrev agH:SF:=by exists V2
noncomputable def V3:FP:=aJ 3 agH
noncomputable abbrev agI{f:AF}(a:VA f):=vF "are_depths" ["thing", "lists", "many"] V3 3 a
noncomputable abbrev V4:=(bC (sI (tW .Or (wO (bQ (bG (wM (aj 0)))) (w1 .Or (tK (aM g8 (bh (ak (aj 0) ao)) (vC (.int 2))))))) (b1 (aB (vC (.bl false)))) b0) (b1 (aB (vV .And (uA (BJ (ak (au (aj 0) (vC (.int 0))) (ak (aj 1) ao))) (u1 .And (BJ (ak (au (aj 0) (vC (.int 1))) (ak (aj 2) ao)))))))))
noncomputable abbrev agJ:SF:=by exists V4
noncomputable def V5:FP:=aJ 3 agJ
noncomputable abbrev agK{f:AF}(a:VA f):=vF "is_ask" ["thing", "lists", "many"] V5 3 a
noncomputable abbrev V6:=(bC (sI (tW .Or (wO (bQ (bG (o7 (aj 0)))) (w1 .Or (bQ (bG (oZ (ak (dw (cC [none,some 1,some 2] ["part", "lists", "many"] (bK (aj 0)) (gV 0) (agK (ak (aj 0) (ak (aj 1) (ak (aj 2) ao)))))) ao))))))) (b1 (aB (vC (.bl false)))) b0) (b1 (aB (VP (ak (aj 0) ao)))))
noncomputable abbrev agL:SF:=by exists V6
noncomputable def V7:FP:=aJ 3 agL
noncomputable abbrev agM{f:AF}(a:VA f):=vF "are_asked" ["thing", "lists", "many"] V7 4 a
noncomputable abbrev V8:=(bC (GP 2 3 (ak (bh (ak (aj 0) ao)) (ak (bh (ak (au (aj 0) (vC (.int 0))) ao)) ao))) (bC (sI (tW .Or (wO (bQ (bG (wM (aj 1)))) (w1 .Or (tK (aM g8 (bh (ak (aj 1) ao)) (vC (.int 2))))))) (b1 (oK "NoLooks" (vC (.str "looks are a tuple of depths and what is asked")))) b0) (b1 (sI (tW .Or (wO (bQ (bG (agI (ak (au (aj 1) (vC (.int 0))) (ak (aj 2) (ak (aj 3) ao)))))) (w1 .Or (bQ (bG (agM (ak (au (aj 1) (vC (.int 1))) (ak (aj 2) (ak (aj 3) ao))))))))) (b1 (oK "NoLooks" (vC (.str "these are no looks of the book")))) b0))))
noncomputable abbrev agN:SF:=by exists V8
noncomputable def V9:FP:=aJ 4 agN
noncomputable abbrev Jo{f:AF}(a:VA f):=vF "need_looks" ["book", "looks"] V9 5 a
noncomputable abbrev Wa:=(bC (sH (aj 1) (fK 2 (bJ (gV 2) (bJ (gV 3) fJ)))) (bC (sCd 4 [none] ["row"] (bK (aj 0)) (gV 0) (cF (Q6 [.non]) (bh (ak (aj 0) ao)))) (bC (sN (sF (iEn (ak (V1 (ak (aj 0) ao)) ao)) (fK 2 (bJ (gV 5) (bJ (gV 6) fJ))) (b1 (sF (bK (qj (aj 6) oN (oS (au (aj 2) (aj 5))))) (gV 7) (b1 (S6 4 5 7 (au (au (aj 0) (aj 5)) (aj 7)))))))) (bC (sN (sF (bK (aj 3)) (fK 2 (bJ (gV 5) (bJ (gV 7) fJ))) (b1 (S6 4 5 7 (au (au (aj 0) (aj 5)) (aj 7)))))) (b1 (sD 4 (aB (aj 4))))))))
noncomputable abbrev agO:SF:=by exists Wa
noncomputable def Wb:FP:=aJ 8 agO
noncomputable abbrev Wc{f:AF}(a:VA f):=vF "seen_by" ["book", "looks"] Wb 6 a
noncomputable abbrev Wd:=(bC (sO 3 (aE (iQ ao))) (bC (sN (sF (fL (ak (bh (ak (au (aj 1) (vC (.int 0))) ao)) ao)) (gV 4) (bC (sA 5 (aE (Vq (ak (aj 1) (ak (aj 4) ao))))) (bC (sA 6 (cC [none] ["worth"] (bK (aj 5)) (gV 0) (vJ (tK (aM qN (aj 0) (vC .non))) (vG "NOTHING" (.tup [(.int 0),(.int 1)])) (aj 0)))) (bC (sA 7 (cC [none,none] ["worth", "last"] (iZ (ak (aj 5) (ak (aj 2) ao))) (fK 2 (bJ (gV 0) (bJ (gV 1) fJ))) (vJ (tK (aM qN (aj 0) (vC .non))) (aj 1) (aj 0)))) (b1 (dz (j7 3 (ak (f9 (ak (Jj (ak (aj 0) (ak (aj 6) ao))) (ak (Jj (ak (aj 0) (ak (aj 7) ao))) ao))) ao))))))))) (b1 (aB (aj 3)))))
noncomputable abbrev agP:SF:=by exists Wd
noncomputable def Wf:FP:=aJ 8 agP
noncomputable abbrev Wg{f:AF}(a:VA f):=vF "bounds_by" ["rule", "seen", "lasts"] Wf 6 a
noncomputable abbrev Wh:=(bC (sA 2 (Bj [none,some 1] ["thing", "things"] (fL (ak (bh (ak (aj 0) ao)) ao)) (gV 0) (tK (aM Bu (aj 0) (aj 1))) (aj 0))) (bC (sI (tW .Or (wO (bQ (bG (aj 1))) (w1 .Or (bQ (bG (aj 2)))))) (b1 (aB (vC .non))) b0) (bC (sA 3 (cC [none,some 0] ["thing", "bounds"] (bK (aj 1)) (gV 0) (au (au (aj 1) (aj 0)) (vC (.int 0))))) (bC (sA 4 (cC [none,some 0] ["thing", "bounds"] (bK (aj 2)) (gV 0) (au (au (aj 1) (aj 0)) (vC (.int 1))))) (b1 (aB (f9 (ak (au (aj 1) (au (mY (ak (aj 3) ao)) (vH (vC (.int 1))))) (ak (au (aj 2) (au (mY (ak (aj 4) ao)) (vC (.int 0)))) ao)))))))))
noncomputable abbrev agQ:SF:=by exists Wh
noncomputable def Wi:FP:=aJ 5 agQ
noncomputable abbrev Wj{f:AF}(a:VA f):=vF "weakest_and_rival" ["bounds", "things"] Wi 5 a
noncomputable abbrev Wk:=(bC (sA 2 (aE (Wj (ak (aj 0) (ak (aj 1) ao))))) (bC (sI (tK (aM qN (aj 2) (vC .non))) (b1 (aB (vC (.bl true)))) b0) (bC (sH (aj 2) (fK 2 (bJ (gV 3) (bJ (gV 4) fJ)))) (b1 (aB (Gf (afY (ak (au (au (aj 0) (aj 3)) (vC (.int 0))) (ak (au (au (aj 0) (aj 4)) (vC (.int 1))) ao)))))))))
noncomputable abbrev agR:SF:=by exists Wk
noncomputable def BK:FP:=aJ 5 agR
noncomputable abbrev Wl{f:AF}(a:VA f):=vF "are_sure" ["bounds", "things"] BK 6 a
noncomputable abbrev Wm:=(bC (sI (tW .Or (wO (bQ (bG (o7 (aj 0)))) (w1 .Or (bQ (bG (oZ (ak (dw (cC [none,some 1] ["part", "many"] (bK (aj 0)) (gV 0) (BJ (ak (aj 0) (ak (aj 1) ao))))) ao))))))) (b1 (aB (vC (.bl false)))) b0) (b1 (aB (VP (ak (aj 0) ao)))))
noncomputable abbrev agS:SF:=by exists Wm
noncomputable def Wn:FP:=aJ 2 agS
noncomputable abbrev agT{f:AF}(a:VA f):=vF "are_things" ["thing", "many"] Wn 3 a
noncomputable abbrev Wq:=(bC (sA 3 (aE (afW (ak (tU (ak (f9 (ak (aj 2) (ak (vC (.int 1)) ao))) (ak (aj 1) ao))) (ak (afT (ak (aj 1) (ak (aj 0) ao))) ao))))) (bC (sA 4 (aE (dJ (dY (au (aj 3) (vC (.int 0))) (au (aj 3) (vC (.int 1)))) (vC (.int 1))))) (b1 (aB (f9 (ak (qK (aj 4) (vC (.int 1))) (ak (aj 4) ao)))))))
noncomputable abbrev agU:SF:=by exists Wq
noncomputable def Ws:FP:=aJ 5 agU
noncomputable abbrev agV{f:AF}(a:VA f):=vF "shrink_between" ["low", "high", "lists"] Ws 4 a
noncomputable abbrev Wt:=(bC (sO 4 (aE (iQ ao))) (bC (sN (sF (iZ (ak (aj 0) (ak (aj 1) ao))) (fK 2 (bJ (gV 5) (bJ (gV 6) fJ))) (bC (sO 7 (cC [none] ["worth"] (bK (aj 5)) (gV 0) (vJ (tK (aM qN (aj 0) (vC .non))) (vG "NOTHING" (.tup [(.int 0),(.int 1)])) (aj 0)))) (bC (sI (tK (aM qN (au (aj 5) (aj 2)) (vC .non))) (b1 (sS 7 (aj 2) (tU (ak (aj 6) (ak (aj 3) ao))))) b0) (b1 (sZ 7 (dz (j7 4 (ak (aj 7) ao))))))))) (b1 (aB (aj 4)))))
noncomputable abbrev agW:SF:=by exists Wt
noncomputable def Wu:FP:=aJ 8 agW
noncomputable abbrev agX{f:AF}(a:VA f):=vF "raised_book" ["seen", "lasts", "rival", "shrink"] Wu 4 a
noncomputable def fT(x:Int × Int):Tr:=.tup [.int x.1,.int x.2]
noncomputable def aG(l:List (Int × Int)):Tr:=.lst (l.map fT)
noncomputable def aO(ls:List (List (Int × Int))):Tr:=.lst (ls.map aG)
noncomputable def Wo(x:Int × Int):Prop:=0<=x.1/\x.1<=x.2/\1<=x.2/\x.2<=1000000000000/\Int.gcd x.1 x.2=1
noncomputable instance (x:Int × Int):Decidable (Wo x):=by unfold Wo; infer_instance
noncomputable def Shp(c:Nat)(ls:List (List (Int × Int))):Prop:=∀l∈ls,l.length=c/\∀x∈l,Wo x
noncomputable def Bk(c:Nat)(ls:List (List (Int × Int))):Prop:=1<=ls.length/\ls.length<=4/\1<=c/\c<=12/\Shp c ls
theorem Ww{k:Int}{M:Nat}(h:k.natAbs<2 ^ M)(hM:M<=8900):k.natAbs.log2<9000:=by
 by_cases z:k.natAbs=0
 .rw[z]; decide
 .have:=(Nat.log2_lt (n:=k.natAbs) (k:=M) z).mpr h
  lia
theorem Wx(h:k.natAbs<2 ^ M)(hM:M<=8900):fit k=true:=by
 have:=Ww h hM
 unfold fit
 rw[decide_eq_true_eq]
 lia
theorem jF(h1:i.natAbs<2 ^ M)(hM:M<=8900)(h2:j.natAbs<2 ^ N)(hN:N<=8900):cX i j=true:=by
 unfold cX
 rw[Wx h1 hM,Wx h2 hN]
 rfl
theorem wR(h0:j≠0)(h:j.natAbs<2 ^ M)(hM:M<=8900):iy i j=true:=by
 unfold iy
 rw[Bool.and_eq_true,decide_eq_true_eq,decide_eq_true_eq]
 exact⟨h0,Ww h hM⟩
theorem gD(M:Nat):((2 ^ M:Nat):Int)=2 ^ M:=by push_cast; rfl
theorem lB{xs:List Tr}{i:Nat}(h:xs[i]?=some T):aW (.lst xs) (.int i)=.ok (T,false):=by
 obtain⟨hi,e⟩:=List.getElem?_eq_some_iff.mp h
 show(match dH xs i with
  |some t=>Rs.ok (t,false)
  |none=>.bad)=_
 have:dH xs (i:Int)=some T:=by
  unfold dH fW
  simp[hi,e]
 rw[this]
theorem lC{xs:List Tr}{i:Nat}(h:xs[i]?=some T):aW (.lst xs) (.int i)=.ok (T,false):=lB h
theorem m8{l:List (Int × Int)}{i:Nat}(h:i<l.length):aW (aG l) (.int i)=.ok (fT (l.getD i (0,1)),false):=lB (by simp[h])
theorem lH(rows:List (List (Int × Int))):eH (aO rows)=.ok (.int (rows.length:Nat),false):=by
 show Rs.ok (Tr.int ((rows.map aG).length:Int),false)=_
 rw[List.length_map]
theorem Jp(h:rows[k]?=some l):aW (aO rows) (.int (k:Nat))=.ok (aG l,false):=lC (by rw[List.getElem?_map,h]; rfl)
theorem jy(l:List (Int × Int)):eH (aG l)=.ok (.int (l.length:Nat),false):=by
 show Rs.ok (Tr.int ((l.map fT).length:Int),false)=_
 rw[List.length_map]
theorem Wy{α : Type}{p : α -> Bool}:∀xs:List α,u9 (xs.map λx=>.bl (p x))=some (xs.map p)
 | []=>rfl
 |x::xs=>by simp[u9,Wy xs]
theorem all_true{α : Type}(xs:List α):rJ (.lst (xs.map λ_=>Tr.bl true))=.ok (.bl true,false):=by
 have e:=Wy (p:=λ_=>true) xs
 unfold rJ
 simp -dsimp[e]
theorem Jq(a b:Int):Uc [.int a,.int b]=.ok (.int (Int.gcd a b:Nat),false):=by
 walk_at "d"
 refine T7 [] (λs:Int × Int=>[(0,.sh (.int s.1)),(1,.sh (.int s.2))]) (λs=>Int.gcd s.1 s.2=Int.gcd a b) (λs=>s.2.natAbs) (a,b) rfl rfl (by show b.natAbs<b.natAbs+1; lia) ?_
 rintro v ⟨x,y⟩ h
 dsimp only[pt,List.map,List.set]at *
 by_cases z:y=0
 .subst z
  have e:u6 (.int x)=.ok (.int (Int.gcd a b:Nat),false):=by
   rw[<-h]
   exact congrArg (λi=>Rs.ok (Tr.int i,false)) (ac0 x)
  apply Bv
  walk_at "r"
 .have e:iK (.int y) (.int 0)=.ok (.bl true,false):=by rw[LC,decide_eq_false z]; rfl
  apply Bv
  walk_at "r"
  exact⟨(y,x.fmod y),by rw[<-h]; exact Py ..,Px x y z,λ_=>.un,rfl⟩
theorem wU{i:Int}:Ut [.int i]=.ok (.bl true,false):=rfl
theorem Wz{x:Int × Int}(h1:1<=x.2)(h2:Int.gcd x.1 x.2=1):Uv [fT x]=.ok (.bl true,false):=by
 have e:=Jq x.1 x.2
 rw[h2]at e
 have w1:=wU (i:=x.1)
 have w2:=wU (i:=x.2)
 walk_at "d"
theorem agY{x:Int × Int}(h:Wo x):Uy [fT x]=.ok (.bl true,false):=by
 obtain⟨h1,h2,h3,h4,h5⟩:=h
 have e:=Wz h3 h5
 walk_at "d"
 exact congrArg (λb=>Rs.ok (Tr.bl b,false)) (decide_eq_true h2)
theorem agZ{l:List (Int × Int)}{m:Int}(h:∀x∈l,Wo x)(h1:1<=l.length)(h2:l.length<=m)(hm:m<=1000):UG [aG l,.int m]=.ok (.bl true,false):=by
 have e:=jy l
 have t:nW (aG l) .list=true:=rfl
 walk_at "d"
 exact agY (h x hx)
 walk_at "r"
 exact all_true l
 walk_at "r"
theorem ag0{m:Nat}{rows:List (List (Int × Int))}(hB:Bk m rows):UL [aO rows]=.ok (.bl true,false):=by
 obtain⟨b1,b2,b3,b4,b5⟩:=hB
 have e:=lH rows
 have hl:rows[0]?=some rows[0]:=List.getElem?_eq_getElem b1
 have e0:aW (aO rows) (.int 0)=.ok (aG rows[0],false):=Jp hl
 have Jr:=jy rows[0]
 rw[(b5 _ (List.mem_of_getElem? hl)).1]at Jr
 walk_at "d"
 exact agZ (b5 x hx).2 (by rw[(b5 x hx).1]; exact b3) (by rw[(b5 x hx).1]; lia) (by lia)
 walk_at "r"
 exact all_true rows
 walk_at "r"
 rw[List.map_congr_left (g:=λ_=>Tr.bl true) λx hx=>by(try rw[List.length_map]); rw[(b5 x hx).1,decide_eq_true rfl]]
 exact all_true rows
 walk_at "r"
theorem WD{m:Nat}{rows:List (List (Int × Int))}(hB:Bk m rows):U8 [aO rows]=.ok (.non,false):=by
 have e:=ag0 hB
 walk_at "d"
theorem BL(k n:Int):U6 [.int k,.int n]=.ok (.bl (decide (0<=k)&&decide (k<n)),false):=by
 have w:=wU (i:=k)
 by_cases h:0<=k
 .rw[decide_eq_true h]
  walk_at "d"
 .rw[decide_eq_false h]
  walk_at "d"
theorem ag1{rows:List (List (Int × Int))}{k:Nat}(h:k<rows.length):Va [aO rows,.int k]=.ok (.non,false):=by
 have l:=lH rows
 have e:=BL k rows.length
 rw[decide_eq_true (by lia),decide_eq_true (by lia)]at e
 walk_at "d"
noncomputable def Frs(N:Nat)(l:List (Int × Int)):Prop:=∀x∈l,1<=x.2/\x.2<2 ^ N/\x.1.natAbs<2 ^ N
theorem ag2{B q:Int}(hB:1<=B)(hq:1<=q):let B':=(B*q).fdiv ((Int.gcd B q:Nat):Int); 1<=B'/\B∣B'/\q∣B'/\B'<=B*q/\∀D,B∣D->q∣D->B'∣D:=by
 have g0:0<Int.gcd B q:=Int.gcd_pos_of_ne_zero_left _ (by lia)
 have p:=Int.mul_pos (a:=B) (b:=q) (by lia) (by lia)
 have m:=Int.gcd_mul_lcm B q
 rw[<-Int.natAbs_mul]at m
 have e:B*q=((Int.gcd B q:Nat):Int)*(Int.lcm B q:Nat):=by rw[<-Int.natCast_mul,m]; lia
 have f:(B*q).fdiv ((Int.gcd B q:Nat):Int)=(Int.lcm B q:Nat):=by
  rw[Int.fdiv_eq_ediv_of_nonneg _ (by lia),e]
  exact Int.mul_ediv_cancel_left _ (by lia)
 dsimp only
 rw[f]
 have:=Int.lcm_pos (m:=B) (n:=q) (by lia) (by lia)
 refine⟨by lia,Int.dvd_lcm_left ..,Int.dvd_lcm_right ..,?_,λD=>Int.coe_lcm_dvd⟩
 rw[<-f,Int.fdiv_eq_ediv_of_nonneg _ (by lia)]
 exact Int.ediv_le_self _ (by lia)
theorem Js{N:Nat}(l:List (Int × Int))(h:Frs N l)(hl:1+N*l.length<=8900)(hN:N<=8900):∃z,U0 [.lst (l.map fT)]=.ok z/\∃B:Int,(1<=B/\B<2 ^ (1+N*l.length)/\(∀x∈l,x.2∣B)/\∀D,(∀x∈l,x.2∣D)->B∣D)/\z=(.int B,false):=by
 walk_at "e"
 refine lA [2,3] (λB:Int=>[(1,.sh (.int B))]) (λk B=>1<=B/\B<2 ^ (1+N*k)/\(∀x∈l.take k,x.2∣B)/\∀D,(∀x∈l.take k,x.2∣D)->B∣D) 1 ⟨Int.le_refl _,by rw[Nat.mul_zero]; decide,λx hx=>(by cases hx),λD _=>Int.one_dvd _⟩ rfl (λk x v B hx hB=>?_) λv B hB=>?_
 .obtain⟨h1,h2,h3,h4⟩:=hB
  have hk:=(List.getElem?_eq_some_iff.mp hx).1
  obtain⟨a1,a2,_⟩:=h x (List.mem_of_getElem? hx)
  obtain⟨b1,b2,b3,b4,b5⟩:=ag2 h1 a1
  have tk:l.take (k+1)=l.take k++[x]:=by rw[List.take_add_one,hx]; rfl
  have hle:1+N*k<=8900:=by
   have:=Nat.mul_le_mul_left N (Nat.le_of_lt hk)
   lia
  have n1:=gD (1+N*k)
  have n2:=gD N
  have g:=Jq B x.2
  have c1:cX B x.2=true:=jF (M:=1+N*k) (N:=N) (by lia) hle (by lia) hN
  have c2:∀i,iy i ((Int.gcd B x.2:Nat):Int)=true:=λi=>by
   have:=Int.gcd_pos_of_ne_zero_left (a:=B) x.2 (by lia)
   have:=Int.gcd_le_right (a:=B) (b:=x.2) (by lia)
   exact wR (M:=N) (by lia) (by lia) hN
  walk_at "p"
  refine⟨(B*x.2).fdiv ((Int.gcd B x.2:Nat):Int),⟨b1,?_,λy hy=>?_,λD d=>?_⟩,exV rfl⟩
  .have:=Int.mul_lt_mul_of_pos_right h2 (show 0<(2:Int) ^ N by lia)
   have:=Int.mul_le_mul_of_nonneg_left (show x.2<=2 ^ N by lia) (show 0<=B by lia)
   rw[Nat.mul_succ,<-Nat.add_assoc,Int.pow_add]
   lia
  .rw[tk]at hy
   rcases List.mem_append.mp hy with hy|hy
   .exact Int.dvd_trans (h3 y hy) b2
   .rw[List.mem_singleton.mp hy]
    exact b3
  .rw[tk]at d
   exact b5 D (h4 D λy hy=>d y (List.mem_append_left _ hy)) (d x (List.mem_append_right _ (List.mem_singleton.mpr rfl)))
 .rw[List.take_length]at hB
  walk_at "r"
  exact⟨_,rfl,B,hB,rfl⟩
theorem WK{N:Nat}(l:List (Int × Int))(h:Frs N l)(hl:1+N*l.length<=8900)(hN:N<=8900)(hl2:l.length<=1000):∃B:Int,Jh [.lst (l.map fT)]=.ok (.lst (l.map λx=>.int (x.1*B.fdiv x.2)),true)/\1<=B/\∀x∈l,x.2∣B:=by
 obtain⟨_,e,B,⟨h1,h2,h3,_⟩,rfl⟩:=Js l h hl hN
 have q:∀x∈l,iy B x.2=true/\cX x.1 (B.fdiv x.2)=true:=λx hx=>by
  obtain⟨a1,a2,a3⟩:=h x hx
  have d0:=Int.ediv_nonneg (a:=B) (b:=x.2) (by lia) (by lia)
  have d1:=Int.ediv_le_self (a:=B) x.2 (by lia)
  have nB:=gD (1+N*l.length)
  have nN:=gD N
  rw[<-Int.fdiv_eq_ediv_of_nonneg B (b:=x.2) (by lia)]at d0 d1
  exact⟨wR (M:=N) (by lia) (by lia) hN,jF (M:=N) (N:=1+N*l.length) a3 hN (by lia) hl⟩
 refine⟨B,?_,h1,h3⟩
 walk_at "d"
 exact(q x hx).1
 walk_at "r"
 exact(q x hx).2
 walk_at "r"
noncomputable def dZ(l:List (Int × Int))(i j:Nat):Prop:=(l.getD j (0,1)).1*(l.getD i (0,1)).2<(l.getD i (0,1)).1*(l.getD j (0,1)).2\/((l.getD j (0,1)).1*(l.getD i (0,1)).2=(l.getD i (0,1)).1*(l.getD j (0,1)).2/\i<j)
noncomputable def Fall(l:List (Int × Int))(ys:List Nat):Prop:=ys.Perm (List.range l.length)/\ys.Pairwise (dZ l)
theorem keysOk{kt:Tr->Option (Int × Int)}{fb:RF}{ts:List (Option Tr)}{κ : Nat->Int × Int}:∀(is:List Nat),(∀i∈is,∃t,fb (some (.int (i:Int))::ts)=.ok t/\kt t=some (κ i))->tO kt fb ts is=.ok (is.map κ)
 | [],_=>rfl
 |i::is,h=>by
  obtain⟨t,e,k⟩:=h i (List.mem_cons_self ..)
  have r:=keysOk is λj hj=>h j (List.mem_cons_of_mem _ hj)
  unfold tO
  rw[e,r]
  dsimp only[Rs.bind]
  rw[k]
  rfl
theorem WL{kt:Tr->Option (Int × Int)}{src:List (Option Nat)}{fa:AF}{fb:RF}{n:Nat}{b:Bool}(κ : Nat->Int × Int)(h:fa ρ=.ok ([.v (.int (n:Int)) b],ρ1))(hn:n<64)(hk:∀i,i<n->∃t,fb (some (.int (i:Int))::Bq src ρ1)=.ok t/\kt t=some (κ i)):∃ys:List Nat,Ih kt src fa fb ρ=.ok (.v (.lst (ys.map λi:Nat=>Tr.int i)) true,ρ1)/\ys.Perm (List.range n)/\ys.Pairwise (jc κ):=by
 have e:=keysOk (List.range n) λi hi=>hk i (List.mem_range.mp hi)
 have hs:=Sd n λi=>((List.range n).map κ).getD i (0,0)
 refine⟨_,bk h ((if_pos ⟨Int.natCast_nonneg n,by lia⟩).trans (by rw[Int.toNat_natCast,e]; rfl)),hs.1,hs.2.imp_of_mem λ{i j} hi hj hb=>?_⟩
 have hi:=List.mem_range.mp (hs.1.mem_iff.mp hi)
 have hj:=List.mem_range.mp (hs.1.mem_iff.mp hj)
 have g:∀i,i<n->((List.range n).map κ).getD i (0,0) = κ i:=λi hi=>by simp[hi]
 unfold jc at hb ⊢
 dsimp only at hb
 rw[g i hi,g j hj]at hb
 exact hb
theorem top_lt{B p q r s:Int}(hB:1<=B)(hq:1<=q)(hs:1<=s)(dq:q∣B)(ds:s∣B):(p*B.fdiv q<r*B.fdiv s↔p*s<r*q)/\(p*B.fdiv q=r*B.fdiv s↔p*s=r*q):=by
 obtain⟨a,ha⟩:=dq
 obtain⟨b,hb⟩:=ds
 have e1:B.fdiv q=a:=by rw[ha]; exact Int.mul_fdiv_cancel_left _ (by lia)
 have e2:B.fdiv s=b:=by rw[hb]; exact Int.mul_fdiv_cancel_left _ (by lia)
 rw[e1,e2]
 have x1:(p*a)*(q*s)=(p*s)*B:=by rw[ha]; ac_rfl
 have x2:(r*b)*(q*s)=(r*q)*B:=by rw[hb]; ac_rfl
 have qs:0<q*s:=Int.mul_pos (by lia) (by lia)
 refine⟨?_,?_⟩
 .rw[<-Int.mul_lt_mul_right qs,x1,x2,Int.mul_lt_mul_right (show 0<B by lia)]
 .rw[<-Int.mul_eq_mul_right_iff (c:=q*s) (by lia),x1,x2,Int.mul_eq_mul_right_iff (show B≠0 by lia)]
theorem BP{N:Nat}(l:List (Int × Int))(h:Frs N l)(hl:1+N*l.length<=8900)(hN:N<=8900)(h64:l.length<64):∃ys,tV [aG l]=.ok (.lst (ys.map λi:Nat=>Tr.int i),true)/\Fall l ys:=by
 obtain⟨B,e,h1,h3⟩:=WK l h hl hN (by lia)
 have g:∀i,i<l.length->l.getD i (0,1)∈l:=λi hi=>by simp[hi]
 obtain⟨ys,e2,p,q⟩:=WL (ρ:=[.sh (.lst (l.map fT)),.sh (.lst (l.map λx=>.int (x.1*B.fdiv x.2)))]) (kt:=Ii) (src:=[some 1]) (fa:=cW (mR (g1 eH) (cW (bL 1) dU)) dU) (fb:=Bp m7 (Bo aW (oV 1) (oV 0))) (λi=>(-((l.getD i (0,1)).1*B.fdiv (l.getD i (0,1)).2),0)) (uG (xC1 rfl rfl CV) rfl) h64 λi hi=>by
  have ix:aW (.lst (l.map λx=>.int (x.1*B.fdiv x.2))) (.int (i:Int))=.ok (.int ((l.getD i (0,1)).1*B.fdiv (l.getD i (0,1)).2),false):=lB (by simp[hi])
  exact⟨.int (-((l.getD i (0,1)).1*B.fdiv (l.getD i (0,1)).2)),bk (bk rfl (bk rfl (bk ix rfl))) rfl,rfl⟩
 refine⟨ys,?_,p,q.imp_of_mem λ{i j} hi hj hb=>?_⟩
 .unfold aG
  walk_at "d"
 .have m1:=g i (List.mem_range.mp (p.mem_iff.mp hi))
  have m2:=g j (List.mem_range.mp (p.mem_iff.mp hj))
  have t:=top_lt (p:=(l.getD j (0,1)).1) (r:=(l.getD i (0,1)).1) h1 (h _ m2).1 (h _ m1).1 (h3 _ m2) (h3 _ m1)
  unfold jc at hb
  dsimp only at hb
  unfold dZ
  rw[<-t.1,<-t.2]
  simp only[Int.neg_lt_neg_iff,Int.neg_inj]at hb
  rcases hb with(h|⟨_,h⟩)|⟨⟨h1,_⟩,h3⟩
  .exact .inl h
  .exact absurd h (Int.lt_irrefl 0)
  .exact .inr ⟨h1.symm,h3⟩
theorem Wo.frs(h:∀x∈l,Wo x):Frs 40 l:=λx hx=>by
 obtain⟨h1,h2,h3,h4,h5⟩:=h x hx
 exact⟨h3,by lia,by lia⟩
theorem order_eq{c:Nat}{ls:List (List (Int × Int))}(h:Bk c ls){k:Nat}{l:List (Int × Int)}(hk:ls[k]?=some l):∃ys,agj [aO ls,.int k]=.ok (.lst (ys.map λi:Nat=>Tr.int i),true)/\Fall l ys:=by
 have hl:=h.2.2.2.2 l (List.mem_of_getElem? hk)
 have:=h.2.2.2.1
 obtain⟨ys,e,hf⟩:=BP (N:=40) l (Wo.frs hl.2) (by rw[hl.1]; lia) (by lia) (by rw[hl.1]; lia)
 have e1:=Jp hk
 have e2:=ag1 (List.getElem?_eq_some_iff.mp hk).1
 have e3:=WD h
 refine⟨ys,?_,hf⟩
 walk_at "d"
theorem WM{α : Type}(xs:List α)(k:Nat):L2.cut xs (some (k:Int)) none=xs.drop k:=by
 unfold L2.cut HT.aU
 by_cases h:(k:Int)<0
 .lia
 .simp only[h,if_false,Int.toNat_natCast]
  by_cases z:k<=xs.length
  .rw[Nat.min_eq_left z]
   exact List.take_of_length_le (by simp)
  .rw[Nat.min_eq_right (by lia),List.drop_eq_nil_of_le (by lia),List.drop_eq_nil_of_le (by lia)]
   simp
theorem Jt{α : Type}(xs:List α)(k:Nat):L2.cut xs none (some (k:Int))=xs.take k:=by
 unfold L2.cut HT.aU
 by_cases h:(k:Int)<0
 .lia
 .simp only[h,if_false,Int.toNat_natCast,Nat.sub_zero,List.drop_zero]
  by_cases z:k<=xs.length
  .rw[Nat.min_eq_left z]
  .rw[Nat.min_eq_right (by lia),List.take_of_length_le (by lia),List.take_of_length_le (by lia)]
noncomputable def nT(ys:List Nat):Tr:=.lst (ys.map λi:Nat=>Tr.int i)
theorem WQ(i:Int):dep (.int i)=0:=rfl
theorem ag3(ts:List Tr):dep (.tup ts)=deps ts+1:=by simp only[dep]
theorem ag4(ts:List Tr):dep (.lst ts)=deps ts+1:=by simp only[dep]
theorem ag5:deps []=0:=rfl
theorem WR(t:Tr)(ts:List Tr):deps (t::ts)=max (dep t) (deps ts):=by simp only[deps]
theorem ag6(x:Int × Int):dep (fT x)=1:=by unfold fT; rw[ag3,WR,WR,WQ,WQ,ag5]; rfl
theorem WT(h:dep T<=40):iK T T=.ok (.bl false,false):=by
 unfold iK
 rw[if_pos ⟨h,h⟩,yu]
 rfl
theorem WW:∀ys:List Nat,tL (ys.map λi:Nat=>Tr.int i)=some (ys.map λi:Nat=>(i:Int))
 | []=>rfl
 |n::r=>by simp[tL,WW r]
noncomputable def aN(x y:Int × Int):Bool:=decide (x.1*y.2<y.1*x.2)
noncomputable def at2(l:List (Int × Int))(i:Nat):Int × Int:=l.getD i (0,1)
theorem jd(n k:Int)(h:0<k):0<=n.fmod k/\n.fmod k<k:=⟨Int.fmod_nonneg_of_pos n h,Int.fmod_lt_of_pos n h⟩
noncomputable def red(a b:Int):Int × Int:=(a / ((Int.gcd a b:Nat):Int),b / ((Int.gcd a b:Nat):Int))
noncomputable def Fq(M:Nat)(x:Int × Int):Prop:=0<=x.1/\x.1<2 ^ M/\1<=x.2/\x.2<2 ^ M/\Int.gcd x.1 x.2=1
theorem tX(ha:0<=a)(ha2:a<2 ^ M)(hb:1<=b)(hb2:b<2 ^ M):Fq M (red a b):=by
 obtain⟨g1,g2,g3,g4,g5,g6,g7⟩:=pU (a:=a) (b:=b) (by lia)
 have d1:=Int.ediv_le_self (a:=a) ((Int.gcd a b:Nat):Int) ha
 have d2:=Int.ediv_le_self (a:=b) ((Int.gcd a b:Nat):Int) (by lia)
 exact⟨g5 ha,by unfold red; dsimp only; lia,g3,by unfold red; dsimp only; lia,g4⟩
theorem eV(hb:1<=b):a*(red a b).2=(red a b).1*b/\1<=(red a b).2/\Int.gcd (red a b).1 (red a b).2=1:=by
 obtain⟨g1,g2,g3,g4,g5,g6,g7⟩:=pU (a:=a) (b:=b) (by lia)
 refine⟨?_,g3,g4⟩
 show a*(b / ((Int.gcd a b:Nat):Int))=(a / ((Int.gcd a b:Nat):Int))*b
 generalize ((Int.gcd a b:Nat):Int)=g at *
 generalize b / g=q,a / g=p at *
 rw[g6,g7]
 ac_rfl
noncomputable def le2(x y:Int × Int):Prop:=x.1*y.2<=y.1*x.2
theorem fP:aN x y=false↔le2 y x:=by
 unfold aN le2
 rw[decide_eq_false_iff_not,Int.not_lt]
theorem jG(x:Int × Int):le2 x x:=Int.le_refl _
theorem o8(hx:1<=x.2)(hy:1<=y.2)(hz:1<=z.2)(h1:le2 x y)(h2:le2 y z):le2 x z:=by
 unfold le2 at *
 have a1:=Int.mul_le_mul_of_nonneg_right h1 (show 0<=z.2 by lia)
 have a2:=Int.mul_le_mul_of_nonneg_right h2 (show 0<=x.2 by lia)
 have e1:x.1*y.2*z.2=(x.1*z.2)*y.2:=by ac_rfl
 have e2:y.1*x.2*z.2=y.1*z.2*x.2:=by ac_rfl
 have e3:z.1*y.2*x.2=(z.1*x.2)*y.2:=by ac_rfl
 rw[e1,e2]at a1
 rw[e3]at a2
 exact Int.le_of_mul_le_mul_right (Int.le_trans a1 a2) (by lia)
theorem ag7(hx:1<=x.2)(hy:1<=y.2)(gx:Int.gcd x.1 x.2=1)(gy:Int.gcd y.1 y.2=1)(h1:le2 x y)(h2:le2 y x):x=y:=by
 unfold le2 at *
 have:=ac1 hx hy gx gy (Int.le_antisymm h1 h2)
 exact Prod.ext this.1 this.2
theorem Ju(hb:1<=b)(hd:1<=d)(h:a*d<=c*b):le2 (red a b) (red c d):=by
 obtain⟨e1,p1,_⟩:=eV (a:=a) hb
 obtain⟨e2,p2,_⟩:=eV (a:=c) hd
 generalize red c d=y,red a b=x at *
 unfold le2
 have a1:=Int.mul_le_mul_of_nonneg_right h (Int.mul_nonneg (show 0<=x.2 by lia) (show 0<=y.2 by lia))
 have e3:a*d*(x.2*y.2)=(a*x.2)*(d*y.2):=by ac_rfl
 have e4:c*b*(x.2*y.2)=(c*y.2)*(b*x.2):=by ac_rfl
 rw[e3,e4,e1,e2]at a1
 have e5:x.1*b*(d*y.2)=(x.1*y.2)*(b*d):=by ac_rfl
 have e6:y.1*d*(b*x.2)=(y.1*x.2)*(b*d):=by ac_rfl
 rw[e5,e6]at a1
 exact Int.le_of_mul_le_mul_right a1 (Int.mul_pos (by lia) (by lia))
noncomputable def sumF(x y:Int × Int):Int × Int:=red (x.1*y.2+y.1*x.2) (x.2*y.2)
noncomputable def aP(x y:Int × Int):Int × Int:=red (x.1*y.1) (x.2*y.2)
theorem ig{a b:Int}{M N:Nat}(ha:0<=a)(ha2:a<2 ^ M)(hb:0<=b)(hb2:b<2 ^ N):a*b<2 ^ (M+N):=by
 have p1:(0:Int)<2 ^ N:=Int.pow_pos (by lia)
 have q1:a*b<=a*2 ^ N:=Int.mul_le_mul_of_nonneg_left (by lia) ha
 have q2:a*2 ^ N<2 ^ M*2 ^ N:=Int.mul_lt_mul_of_pos_right ha2 p1
 rw[Int.pow_add]
 lia
theorem lD{x y:Int × Int}{M N:Nat}(hx:Fq M x)(hy:Fq N y):Fq (M+N) (aP x y) :=
 tX (Int.mul_nonneg hx.1 hy.1) (ig hx.1 hx.2.1 hy.1 hy.2.1) (by have:=Int.mul_pos (a:=x.2) (b:=y.2) (by have:=hx.2.2.1; lia) (by have:=hy.2.2.1; lia); lia) (ig (by have:=hx.2.2.1; lia) hx.2.2.2.1 (by have:=hy.2.2.1; lia) hy.2.2.2.1)
theorem Jv{x y:Int × Int}{M N:Nat}(hx:Fq M x)(hy:Fq N y):Fq (M+N+1) (sumF x y):=by
 obtain⟨x1,x2,x3,x4,_⟩:=hx
 obtain⟨y1,y2,y3,y4,_⟩:=hy
 have m1:=ig x1 x2 (by lia) y4
 have m2:=ig y1 y2 (by lia) x4
 have m3:=ig (by lia) x4 (by lia) y4
 rw[Nat.add_comm N M]at m2
 have p:=Int.mul_pos (a:=x.2) (b:=y.2) (by lia) (by lia)
 have n1:=Int.mul_nonneg x1 (show 0<=y.2 by lia)
 have n2:=Int.mul_nonneg y1 (show 0<=x.2 by lia)
 have e:(2:Int) ^ (M+N+1)=2 ^ (M+N)*2:=Int.pow_succ ..
 exact tX (by lia) (by rw[e]; lia) (by lia) (by rw[e]; lia)
theorem ag8(hw:0<=w.1)(hw2:1<=w.2)(hx:1<=x.2)(hy:1<=y.2)(h:le2 x y):le2 (aP w x) (aP w y):=by
 have p1:=Int.mul_pos (a:=w.2) (b:=x.2) (by lia) (by lia)
 have p2:=Int.mul_pos (a:=w.2) (b:=y.2) (by lia) (by lia)
 refine Ju (by lia) (by lia) ?_
 unfold le2 at h
 have a1:=Int.mul_le_mul_of_nonneg_left h (Int.mul_nonneg hw (show 0<=w.2 by lia))
 have e1:w.1*x.1*(w.2*y.2)=w.1*w.2*(x.1*y.2):=by ac_rfl
 have e2:w.1*y.1*(w.2*x.2)=w.1*w.2*(y.1*x.2):=by ac_rfl
 rw[e1,e2]
 exact a1
theorem WX(hw:0<=w.1)(hw2:1<=w.2)(hv:0<=v.1)(hv2:1<=v.2)(hx0:0<=x.1)(hy0:0<=y.1)(hx:1<=x.2)(hy:1<=y.2)(h:le2 w v)(h':le2 x y):le2 (aP w x) (aP v y):=by
 have p1:=Int.mul_pos (a:=w.2) (b:=x.2) (by lia) (by lia)
 have p2:=Int.mul_pos (a:=v.2) (b:=y.2) (by lia) (by lia)
 refine Ju (by lia) (by lia) ?_
 unfold le2 at h h'
 have e1:w.1*x.1*(v.2*y.2)=(w.1*v.2)*(x.1*y.2):=by ac_rfl
 have e2:v.1*y.1*(w.2*x.2)=(v.1*w.2)*(y.1*x.2):=by ac_rfl
 rw[e1,e2]
 exact Int.mul_le_mul h h' (Int.mul_nonneg hx0 (by lia)) (Int.mul_nonneg hv (by lia))
theorem WY(hw2:1<=w.2)(hv2:1<=v.2)(hx:1<=x.2)(hy:1<=y.2)(h:le2 w v)(h':le2 x y):le2 (sumF w x) (sumF v y):=by
 have p1:=Int.mul_pos (a:=w.2) (b:=x.2) (by lia) (by lia)
 have p2:=Int.mul_pos (a:=v.2) (b:=y.2) (by lia) (by lia)
 refine Ju (by lia) (by lia) ?_
 unfold le2 at h h'
 have a1:=Int.mul_le_mul_of_nonneg_right h (Int.mul_nonneg (show 0<=x.2 by lia) (show 0<=y.2 by lia))
 have a2:=Int.mul_le_mul_of_nonneg_right h' (Int.mul_nonneg (show 0<=w.2 by lia) (show 0<=v.2 by lia))
 have e1:(w.1*x.2+x.1*w.2)*(v.2*y.2)=w.1*v.2*(x.2*y.2)+x.1*y.2*(w.2*v.2):=by rw[Int.add_mul]; ac_rfl
 have e2:(v.1*y.2+y.1*v.2)*(w.2*x.2)=v.1*w.2*(x.2*y.2)+y.1*x.2*(w.2*v.2):=by rw[Int.add_mul]; ac_rfl
 rw[e1,e2]
 lia
theorem mulC{x y:Int × Int}{M N:Nat}(hx:Fq M x)(hy:Fq N y)(hM:M+N<=8900):cX x.1 y.1=true/\cX x.1 y.2=true/\cX y.1 x.2=true/\cX x.2 y.2=true:=by
 obtain⟨x1,x2,x3,x4,_⟩:=hx
 obtain⟨y1,y2,y3,y4,_⟩:=hy
 have nM:=gD M
 have nN:=gD N
 exact⟨jF (M:=M) (N:=N) (by lia) (by lia) (by lia) (by lia),jF (M:=M) (N:=N) (by lia) (by lia) (by lia) (by lia),jF (M:=N) (N:=M) (by lia) (by lia) (by lia) (by lia),jF (M:=M) (N:=N) (by lia) (by lia) (by lia) (by lia)⟩
theorem BR(hb:1<=b)(hb2:b<2 ^ M)(hM:M<=8900):Ue [.int a,.int b]=.ok (fT (red a b),false):=by
 have g:=Jq a b
 have np:=gD M
 obtain⟨g1,g2,_⟩:=pU (a:=a) (b:=b) (by lia)
 have c1:∀n,iy n ((Int.gcd a b:Nat):Int)=true:=λn=>wR (M:=M) (by lia) (by lia) hM
 walk_at "d"
 unfold fT red
 rw[Int.fdiv_eq_ediv_of_nonneg _ (by lia),Int.fdiv_eq_ediv_of_nonneg _ (by lia)]
 rfl
theorem tY{x y:Int × Int}{M N:Nat}(hx:Fq M x)(hy:Fq N y)(hM:M+N<=8900):tR [fT x,fT y]=.ok (fT (aP x y),false):=by
 obtain⟨c1,_,_,c2⟩:=mulC hx hy hM
 have p:=Int.mul_pos (a:=x.2) (b:=y.2) (by have:=hx.2.2.1; lia) (by have:=hy.2.2.1; lia)
 have e:=BR (a:=x.1*y.1) (b:=x.2*y.2) (M:=M+N) (by lia) (ig (by have:=hx.2.2.1; lia) hx.2.2.2.1 (by have:=hy.2.2.1; lia) hy.2.2.2.1) hM
 walk_at "d"
theorem ag9{x y:Int × Int}{M N:Nat}(hx:Fq M x)(hy:Fq N y)(hM:M+N<=8900):Uh [fT x,fT y]=.ok (fT (sumF x y),false):=by
 obtain⟨_,c1,c2,c3⟩:=mulC hx hy hM
 have p:=Int.mul_pos (a:=x.2) (b:=y.2) (by have:=hx.2.2.1; lia) (by have:=hy.2.2.1; lia)
 have e:=BR (a:=x.1*y.2+y.1*x.2) (b:=x.2*y.2) (M:=M+N) (by lia) (ig (by have:=hx.2.2.1; lia) hx.2.2.2.1 (by have:=hy.2.2.1; lia) hy.2.2.2.1) hM
 walk_at "d"
noncomputable def cY(ps:List ((Int × Int) × (Int × Int)))(t:Int × Int):Int × Int:=ps.foldl (λt p=>sumF t (aP p.1 p.2)) t
noncomputable def dB(xs:List (Int × Int))(t:Int × Int):Int × Int:=xs.foldl aP t
theorem Jw:∀(ps:List ((Int × Int) × (Int × Int))) (t:Int × Int) (M:Nat),Fq M t->(∀p∈ps,Fq 45 p.1/\Fq 45 p.2)->Fq (M+91*ps.length) (cY ps t)
 | [],t,M,h,_=>h
 |p::ps,t,M,h,hp=>by
  have h1:=lD (hp p (by simp)).1 (hp p (by simp)).2
  have h2:=Jv h h1
  have:=Jw ps _ _ h2 λq hq=>hp q (by simp[hq])
  rw[show M+91*(p::ps).length=M+(45+45)+1+91*ps.length by rw[List.length_cons]; lia]
  exact this
theorem Jx:∀(ps:List (Int × Int)) (t:Int × Int) (M:Nat),Fq M t->(∀p∈ps,Fq 45 p)->Fq (M+45*ps.length) (dB ps t)
 | [],t,M,h,_=>h
 |p::ps,t,M,h,hp=>by
  have h2:=lD h (hp p (by simp))
  have:=Jx ps _ _ h2 λq hq=>hp q (by simp[hq])
  rw[show M+45*(p::ps).length=M+45+45*ps.length by rw[List.length_cons]; lia]
  exact this
theorem Wo.fq(h:Wo x):Fq 45 x:=by
 obtain⟨h1,h2,h3,h4,h5⟩:=h
 exact⟨h1,by lia,h3,by lia,h5⟩
theorem aha(ws xs:List (Int × Int)):iW (ws.map fT) (xs.map fT)=(ws.zip xs).map λp=>Tr.tup [fT p.1,fT p.2]:=by
 unfold iW
 rw[List.zip_map,List.map_map]
 rfl
theorem tZ:Fq 1 (0,1):=by unfold Fq; decide
theorem BW:Fq 1 (1,1):=by unfold Fq; decide
theorem W0{ws xs:List (Int × Int)}(hw:∀w∈ws,Fq 45 w)(hx:∀x∈xs,Fq 45 x):∀p∈ws.zip xs,Fq 45 p.1/\Fq 45 p.2:=λp hp=>⟨hw _ (List.of_mem_zip hp).1,hx _ (List.of_mem_zip hp).2⟩
theorem ahb{ws xs:List (Int × Int)}(hw:∀w∈ws,Fq 45 w)(hx:∀x∈xs,Fq 45 x)(hl:xs.length<=12):Vg [aG ws,aG xs]=.ok (fT (cY (ws.zip xs) (0,1)),false):=by
 have hz:(ws.zip xs).length<=12:=by rw[List.length_zip]; lia
 have hq:=W0 hw hx
 walk_at "d"
 rw[aha]
 refine lA [3,4] (λs:Int × Int=>[(2,.sh (fT s))]) (λk s=>s=cY ((ws.zip xs).take k) (0,1)) (0,1) rfl rfl (λk p v s hp hs=>?_) λv s hs=>?_
 .subst hs
  have hk:=(List.getElem?_eq_some_iff.mp hp).1
  obtain⟨p1,p2⟩:=hq p (List.mem_of_getElem? hp)
  have f:=Jw ((ws.zip xs).take k) (0,1) 1 tZ λq m=>hq q (List.mem_of_mem_take m)
  rw[List.length_take]at f
  have e1:=tY p1 p2 (by lia)
  have e2:=ag9 f (lD p1 p2) (by lia)
  walk_at "p"
  exact⟨_,by rw[List.take_add_one,hp]; unfold cY; rw[List.foldl_append]; rfl,exV rfl⟩
 .rw[List.take_length]at hs
  subst hs
  walk_at "p"
theorem ahc(hx:∀x∈xs,Fq 45 x)(hl:xs.length<=12):Vi [aG xs]=.ok (fT (dB xs (1,1)),false):=by
 unfold aG
 walk_at "d"
 refine lA [2] (λs:Int × Int=>[(1,.sh (fT s))]) (λk s=>s=dB (xs.take k) (1,1)) (1,1) rfl rfl (λk p v s hp hs=>?_) λv s hs=>?_
 .subst hs
  have hk:=(List.getElem?_eq_some_iff.mp hp).1
  have f:=Jx (xs.take k) (1,1) 1 BW λq m=>hx q (List.mem_of_mem_take m)
  rw[List.length_take]at f
  have e:=tY f (hx p (List.mem_of_getElem? hp)) (by lia)
  walk_at "p"
  exact⟨_,by rw[List.take_add_one,hp]; unfold dB; rw[List.foldl_append]; rfl,exV rfl⟩
 .rw[List.take_length]at hs
  subst hs
  walk_at "p"
noncomputable def bZ(xs zs:List (Int × Int)):Prop:=zs.Perm xs/\zs.Pairwise λa b=>le2 b a
noncomputable def LT(xs:List (Int × Int)):Prop:=∀x∈xs,1<=x.2/\Int.gcd x.1 x.2=1
theorem W2:∀{l m:List (Int × Int)},LT l->l.Perm m->l.Pairwise (λa b=>le2 b a)->m.Pairwise (λa b=>le2 b a)->l=m
 | [],m,_,p,_,_=>by rw[List.nil_perm.mp p]
 |a::l,[],_,p,_,_=>by simpa using p.length_eq
 |a::l,b::m,hl,p,h1,h2=>by
  have h1':=List.pairwise_cons.mp h1
  have h2':=List.pairwise_cons.mp h2
  have e:a=b:=by
   rcases List.mem_cons.mp (p.mem_iff.mp (List.mem_cons_self ..))with z|z
   .exact z
   .rcases List.mem_cons.mp (p.mem_iff.mpr (List.mem_cons_self (a:=b)))with y|y
    .exact y.symm
    .have a1:=h1'.1 b y
     have a2:=h2'.1 a z
     have la:=hl a (by simp)
     have lb:=hl b (by simp[y])
     exact ag7 la.1 lb.1 la.2 lb.2 a2 a1
  subst e
  rw[W2 (λx hx=>hl x (by simp[hx])) p.cons_inv h1'.2 h2'.2]
theorem bZ.uniq(h:LT xs)(a:bZ xs l)(b:bZ xs m):l=m:=W2 (λx hx=>h x (a.1.mem_iff.mp hx)) (a.1.trans b.1.symm) a.2 b.2
theorem ahd(xs:List (Int × Int)):(List.range xs.length).map (λi=>xs.getD i (0,1))=xs:=by
 apply List.ext_getElem
 .simp
 .intro i h1 h2
  simp[List.getD_eq_getElem?_getD,h2]
theorem Fall.dsc(h:Fall xs ys):bZ xs (ys.map λi=>xs.getD i (0,1)):=by
 refine⟨?_,?_⟩
 .have:=h.1.map λi=>xs.getD i (0,1)
  rw[ahd]at this
  exact this
 .rw[List.pairwise_map]
  refine h.2.imp λ{i j} hb=>?_
  unfold dZ at hb
  unfold le2
  lia
theorem W3:∀(xs:List (Int × Int)) (i:Nat) (v:Int × Int),(∀x,xs[i]?=some x->p x=true->p v=true)->xs.countP p<=(xs.set i v).countP p
 | [],i,v,_=>by simp
 |x::xs,0,v,h=>by
  have:=h x (by simp)
  simp only[List.set_cons_zero,List.countP_cons]
  cases e:p x with
  |false=>simp
  |true=>rw[this e]; simp
 |x::xs,i+1,v,h=>by
  have:=W3 xs i v λy hy=>h y (by simpa using hy)
  simp only[List.set_cons_succ,List.countP_cons]
  lia
theorem bZ.mono{xs zs zs':List (Int × Int)}{i:Nat}{v:Int × Int}(hx:LT xs)(hv:1<=v.2)(hi:∀x,xs[i]?=some x->le2 x v)(a:bZ xs zs)(b:bZ (xs.set i v) zs'){k:Nat}{z z':Int × Int}(hz:zs[k]?=some z)(hz':zs'[k]?=some z'):le2 z z':=by
 refine Classical.byContradiction λhn=>?_
 have hx':∀x∈xs.set i v,1<=x.2:=λx m=>by
  rcases List.mem_or_eq_of_mem_set m with m|rfl
  .exact(hx x m).1
  .exact hv
 have pz:1<=z.2:=(hx z (a.1.mem_iff.mp (List.mem_of_getElem? hz))).1
 have pz':1<=z'.2:=hx' z' (b.1.mem_iff.mp (List.mem_of_getElem? hz'))
 have hlt:aN z' z=true:=by
  cases e:aN z' z with
  |true=>rfl
  |false=>exact absurd (fP.mp e) hn
 obtain⟨hk,ek⟩:=List.getElem?_eq_some_iff.mp hz
 obtain⟨hk',ek'⟩:=List.getElem?_eq_some_iff.mp hz'
 have pw:=List.pairwise_iff_getElem.mp a.2
 have pw':=List.pairwise_iff_getElem.mp b.2
 have up:∀x:Int × Int,1<=x.2->le2 z x->aN z' x=true:=λx px h=>by
  cases e:aN z' x with
  |true=>rfl
  |false=>exact absurd (o8 pz px pz' h (fP.mp e)) hn
 have c1:k+1<=zs.countP (aN z'):=by
  rw[<-List.take_append_drop (k+1) zs,List.countP_append]
  have:(zs.take (k+1)).countP (aN z')=(zs.take (k+1)).length:=by
   rw[List.countP_eq_length]
   intro x m
   obtain⟨j,hj,rfl⟩:=List.getElem_of_mem m
   rw[List.getElem_take]
   have hj':j<k+1:=by rw[List.length_take]at hj; lia
   have jl:j<zs.length:=by lia
   refine up _ (hx _ (a.1.mem_iff.mp (List.getElem_mem jl))).1 ?_
   by_cases q:j=k
   .subst q; rw[ek]; exact jG _
   .have:=pw j k jl hk (by lia)
    rw[ek]at this
    exact this
  rw[this,List.length_take]
  lia
 have c2:zs'.countP (aN z')<=k:=by
  rw[<-List.take_append_drop k zs',List.countP_append]
  have:(zs'.drop k).countP (aN z')=0:=by
   rw[List.countP_eq_zero]
   intro x m hp
   obtain⟨j,hj,rfl⟩:=List.getElem_of_mem m
   rw[List.getElem_drop]at hp
   have jl:k+j<zs'.length:=by rw[List.length_drop]at hj; lia
   have:le2 zs'[k+j] z':=by
    by_cases q:j=0
    .subst q
     have:zs'[k+0]=z':=ek'
     rw[this]; exact jG _
    .have:=pw' k (k+j) hk' jl (by lia)
     rw[ek']at this
     exact this
   rw[fP.mpr this]at hp
   cases hp
  rw[this]
  have:=List.countP_le_length (p:=aN z') (l:=zs'.take k)
  rw[List.length_take]at this
  lia
 rw[a.1.countP_eq]at c1
 rw[b.1.countP_eq]at c2
 have:=W3 (p:=aN z') xs i v λx hxi hp=>by
  cases e:aN z' v with
  |true=>rfl
  |false =>
   have px:=(hx x (List.mem_of_getElem? hxi)).1
   have:=o8 px hv pz' (hi x hxi) (fP.mp e)
   rw[fP.mpr this]at hp
   cases hp
 lia
theorem Jy:∀(ws xs:List (Int × Int)) (i:Nat) (v t t':Int × Int),(∀w∈ws,Fq 45 w)->(∀x∈xs,1<=x.2)->1<=v.2->(∀x,xs[i]?=some x->le2 x v)->1<=t.2->1<=t'.2->le2 t t'->le2 (cY (ws.zip xs) t) (cY (ws.zip (xs.set i v)) t')
 | [],xs,i,v,t,t',_,_,_,_,_,_,h=>by simpa[cY]using h
 |w::ws,[],i,v,t,t',_,_,_,_,_,_,h=>by simpa[cY]using h
 |w::ws,x::xs,i,v,t,t',hw,hx,hv,hi,ht,ht',h=>by
  have fw:=hw w (by simp)
  have px:=hx x (by simp)
  have rp:∀y:Int × Int,1<=y.2->1<=(aP w y).2:=λy py=>(eV (a:=w.1*y.1) (by have:=Int.mul_pos (a:=w.2) (b:=y.2) (by have:=fw.2.2.1; lia) (by lia); lia)).2.1
  have sp:∀s y:Int × Int,1<=s.2->1<=y.2->1<=(sumF s y).2:=λs y ps py=>(eV (a:=s.1*y.2+y.1*s.2) (by have:=Int.mul_pos (a:=s.2) (b:=y.2) (by lia) (by lia); lia)).2.1
  cases i with
  |zero =>
   have lx:=hi x (by simp)
   show le2 (cY (ws.zip xs) (sumF t (aP w x))) (cY (ws.zip xs) (sumF t' (aP w v)))
   have:=Jy ws xs xs.length v (sumF t (aP w x)) (sumF t' (aP w v)) (λy hy=>hw y (by simp[hy])) (λy hy=>hx y (by simp[hy])) hv (λy hy=>by simp at hy) (sp _ _ ht (rp x px)) (sp _ _ ht' (rp v hv)) (WY ht ht' (rp x px) (rp v hv) h (ag8 fw.1 fw.2.2.1 px hv lx))
   rw[List.set_eq_of_length_le (by lia)]at this
   exact this
  |succ i =>
   show le2 (cY (ws.zip xs) (sumF t (aP w x))) (cY (ws.zip (xs.set i v)) (sumF t' (aP w x)))
   exact Jy ws xs i v _ _ (λy hy=>hw y (by simp[hy])) (λy hy=>hx y (by simp[hy])) hv (λy hy=>hi y (by simpa using hy)) (sp _ _ ht (rp x px)) (sp _ _ ht' (rp x px)) (WY ht ht' (rp x px) (rp x px) h (jG _))
theorem Jz:∀(xs:List (Int × Int)) (i:Nat) (v t t':Int × Int),(∀x∈xs,1<=x.2/\0<=x.1)->1<=v.2->0<=v.1->(∀x,xs[i]?=some x->le2 x v)->1<=t.2->0<=t.1->1<=t'.2->0<=t'.1->le2 t t'->le2 (dB xs t) (dB (xs.set i v) t')
 | [],i,v,t,t',_,_,_,_,_,_,_,_,h=>by simpa[dB]using h
 |x::xs,i,v,t,t',hx,hv,hv0,hi,ht,ht0,ht',BX,h=>by
  obtain⟨px,uc⟩:=hx x (by simp)
  have rp:∀s y:Int × Int,1<=s.2->0<=s.1->1<=y.2->0<=y.1->1<=(aP s y).2/\0<=(aP s y).1:=λs y ps ps0 py py0=>by
   have m:=Int.mul_pos (a:=s.2) (b:=y.2) (by lia) (by lia)
   refine⟨(eV (a:=s.1*y.1) (by lia)).2.1,?_⟩
   exact Int.ediv_nonneg (Int.mul_nonneg ps0 py0) (by lia)
  cases i with
  |zero =>
   have lx:=hi x (by simp)
   show le2 (dB xs (aP t x)) (dB xs (aP t' v))
   have a:=rp t x ht ht0 px uc
   have b:=rp t' v ht' BX hv hv0
   have:=Jz xs xs.length v (aP t x) (aP t' v) (λy hy=>hx y (by simp[hy])) hv hv0 (λy hy=>by simp at hy) a.1 a.2 b.1 b.2 (WX ht0 ht BX ht' uc hv0 px hv h lx)
   rw[List.set_eq_of_length_le (by lia)]at this
   exact this
  |succ i =>
   have a:=rp t x ht ht0 px uc
   have b:=rp t' x ht' BX px uc
   show le2 (dB xs (aP t x)) (dB (xs.set i v) (aP t' x))
   exact Jz xs i v _ _ (λy hy=>hx y (by simp[hy])) hv hv0 (λy hy=>hi y (by simpa using hy)) a.1 a.2 b.1 b.2 (WX ht0 ht BX ht' uc uc px px h (jG _))
inductive Ru where
 |sh (ws:List (Int × Int))|mid (k:Nat)|least|greatest|product
noncomputable def aY:Ru->Tr
 |.sh ws=>.tup [.str "shares",aG ws]
 |.mid k=>.tup [.str "middle",.int k]
 |.least=>.tup [.str "least"]
 |.greatest=>.tup [.str "greatest"]
 |.product=>.tup [.str "product"]
noncomputable def bD(n:Nat):Ru->Prop
 |.sh ws=>ws.length=n/\∀w∈ws,Fq 45 w
 |.mid k=>1<=k/\k<=n
 |_=>True
theorem ahe{M:Nat}{ws:List (Int × Int)}(hw:∀w∈ws,Fq M w)(hl:ws.length<=12):Vc [aG ws,.int ws.length]=.ok (.bl true,false):=by
 have ty:nW (aG ws) .list=true:=rfl
 walk_at "d"
 exact Wz (hw x hx).2.2.1 (hw x hx).2.2.2.2
 walk_at "r"
 rw[List.map_congr_left (g:=λ_=>Tr.bl true) λx hx=>by rw[decide_eq_true (hw x hx).1]]
 exact all_true ws
 walk_at "r"
theorem JB(h:T=.tup [.str "least"]∨T=.tup [.str "greatest"]∨T=.tup [.str "product"]):jW id T (.tup [(.tup [(.str "least")]),(.tup [(.str "greatest")]),(.tup [(.str "product")])])=.ok (.bl true,false):=by
 rcases h with rfl|rfl|rfl <;> kernel_rfl
theorem ahf(h:bD n r)(hn:n<=12):Ve [aY r,.int n]=.ok (.bl true,false):=by
 have e1:=JB (.inl rfl)
 have e2:=JB (.inr (.inl rfl))
 have e3:=JB (.inr (.inr rfl))
 cases r <;> dsimp only[aY,bD]at *
 case sh ws =>
  obtain⟨h1,h2⟩:=h
  subst h1
  have e:=ahe h2 hn
  walk_at "d"
 case mid k =>
  have w:=wU (i:=k)
  walk_at "d"
  exact congrArg (λb=>Rs.ok (Tr.bl b,false)) (decide_eq_true (by lia))
 all_goals walk_at "d"
noncomputable def dD(n:Nat):Ru->Nat
 |.mid k=>k
 |.least=>n
 |.greatest=>1
 |_=>0
noncomputable def Wv(r:Ru)(xs:List (Int × Int))(v:Int × Int):Prop:=match r with
 |.sh ws=>v=cY (ws.zip xs) (0,1)
 |.product=>v=dB xs (1,1)
 |r=>∃zs,bZ xs zs/\zs[dD xs.length r-1]?=some v
noncomputable def placed:Ru->Bool
 |.mid _=>true
 |.least=>true
 |.greatest=>true
 |_=>false
theorem ahg{n:Nat}(h:placed r=true):Vk [aY r,.int n]=.ok (.int (dD n r:Nat),false):=by
 cases r <;> first|cases h; done|(dsimp only[aY,dD]; walk_at "d"; done)
theorem JC(h:placed r=true)(ho:bD n r)(hn:1<=n):1<=dD n r/\dD n r<=n:=by
 cases r with
 |sh ws=>cases h
 |product=>cases h
 |least=>exact⟨hn,Nat.le_refl _⟩
 |greatest=>exact⟨Nat.le_refl _,hn⟩
 |mid k=>exact ho
theorem Fq.frs(h:∀x∈l,Fq 45 x):Frs 45 l:=λx hx=>by
 obtain⟨h1,h2,h3,h4,_⟩:=h x hx
 have:=gD 45
 exact⟨h3,h4,by lia⟩
theorem W4{xs:List (Int × Int)}(hq:∀x∈xs,Fq 45 x)(h1:1<=xs.length)(h2:xs.length<=12)(ho:bD xs.length r):∃v,gh [aY r,aG xs]=.ok (fT v,false)/\Wv r xs v:=by
 have pl:placed r=true->∃v,gh [aY r,aG xs]=.ok (fT v,false)/\∃zs,bZ xs zs/\zs[dD xs.length r-1]?=some v:=λhp=>by
  obtain⟨ys,ef,hf⟩:=BP (N:=45) xs (Fq.frs hq) (by lia) (by lia) (by lia)
  have pr:=JC hp ho h1
  have ep:=ahg (n:=xs.length) hp
  have ly:ys.length=xs.length:=by have:=hf.1.length_eq; simpa using this
  obtain⟨i,hi⟩:∃i,ys[dD xs.length r-1]?=some i:=⟨_,List.getElem?_eq_getElem (by lia)⟩
  have il:i<xs.length:=by simpa using hf.1.mem_iff.mp (List.mem_of_getElem? hi)
  refine⟨xs.getD i (0,1),?_,_,hf.dsc,by rw[List.getElem?_map,hi]; rfl⟩
  have g:aW (.lst (ys.map λi:Nat=>Tr.int i)) (.int ((dD xs.length r:Nat)-1:Int))=.ok (.int (i:Int),false):=by
   rw[show((dD xs.length r:Nat)-1:Int)=((dD xs.length r-1:Nat):Int) by lia]
   exact lB (by rw[List.getElem?_map,hi]; rfl)
  cases r <;> first|cases hp; done|(dsimp only[aY]at *; walk_at "d"; done)
 cases r with
 |sh ws =>
  have e:=ahb ho.2 hq h2
  refine⟨_,?_,rfl⟩
  dsimp only[aY]
  walk_at "d"
 |product =>
  have e:=ahc hq h2
  refine⟨_,?_,rfl⟩
  dsimp only[aY]
  walk_at "d"
 |least=>exact pl rfl
 |greatest=>exact pl rfl
 |mid k=>exact pl rfl
theorem ahh(hx:∀x∈xs,Wo x)(h1:1<=xs.length)(h2:xs.length<=12)(ho:bD xs.length r):∃v,gh [aY r,aG xs]=.ok (fT v,false)/\Wv r xs v:=W4 (λx m=>(hx x m).fq) h1 h2 ho
theorem ahi(hx:∀x∈xs,Wo x):LT xs:=λx m=>⟨(hx x m).2.2.1,(hx x m).2.2.2.2⟩
theorem Wv.uniq(hx:LT xs)(a:Wv r xs v)(b:Wv r xs v'):v=v':=by
 cases r with
 |sh ws=>exact a.trans b.symm
 |product=>exact a.trans b.symm
 |least =>
  obtain⟨z,d,e⟩:=a
  obtain⟨z',d',e'⟩:=b
  rw[d.uniq hx d',e']at e
  exact(Option.some.inj e).symm
 |greatest =>
  obtain⟨z,d,e⟩:=a
  obtain⟨z',d',e'⟩:=b
  rw[d.uniq hx d',e']at e
  exact(Option.some.inj e).symm
 |mid k =>
  obtain⟨z,d,e⟩:=a
  obtain⟨z',d',e'⟩:=b
  rw[d.uniq hx d',e']at e
  exact(Option.some.inj e).symm
theorem Fq.up(h:Fq M x)(hl:M<=N):Fq N x:=by
 obtain⟨h1,h2,h3,h4,h5⟩:=h
 have:(2:Int) ^ M<=2 ^ N:=by
  have:=Nat.pow_le_pow_right (n:=2) (by lia) hl
  have a:=gD M
  have b:=gD N
  lia
 exact⟨h1,by lia,h3,by lia,h5⟩
theorem Wv.W5(hq:∀x∈xs,Fq 45 x)(hl:xs.length<=4)(ho:bD xs.length r)(a:Wv r xs v):Fq 400 v:=by
 have pl:(∃zs,bZ xs zs/\zs[dD xs.length r-1]?=some v)->Fq 400 v:=λ⟨z,d,e⟩=>(hq v (d.1.mem_iff.mp (List.mem_of_getElem? e))).up (by lia)
 cases r with
 |sh ws =>
  have a:v=cY (ws.zip xs) (0,1):=a
  rw[a]
  exact(Jw _ _ 1 tZ (W0 ho.2 hq)).up (by rw[List.length_zip]; lia)
 |product =>
  have a:v=dB xs (1,1):=a
  rw[a]
  exact(Jx _ _ 1 BW hq).up (by lia)
 |least=>exact pl a
 |greatest=>exact pl a
 |mid k=>exact pl a
theorem Wv.fq(hx:∀x∈xs,Wo x)(hl:xs.length<=4)(ho:bD xs.length r)(a:Wv r xs v):Fq 400 v:=Wv.W5 (λx m=>(hx x m).fq) hl ho a
noncomputable def Fx(x:Int × Int):Prop:=0<=x.1/\1<=x.2/\Int.gcd x.1 x.2=1
theorem Fq.fx(h:Fq M x):Fx x:=⟨h.1,h.2.2.1,h.2.2.2.2⟩
theorem Wo.fx(h:Wo x):Fx x:=⟨h.1,h.2.2.1,h.2.2.2.2⟩
theorem W6(ha:0<=a)(hb:1<=b):Fx (red a b):=by
 obtain⟨_,_,g3,g4,g5,_⟩:=pU (a:=a) (b:=b) (by lia)
 exact⟨g5 ha,g3,g4⟩
theorem jH{a b:Int}(ha:1<=a)(hb:1<=b):1<=a*b:=Int.mul_pos (by lia) (by lia)
theorem JD(hx:Fx x)(hy:Fx y):Fx (aP x y):=W6 (Int.mul_nonneg hx.1 hy.1) (jH hx.2.1 hy.2.1)
theorem ahj(hx:Fx x)(hy:Fx y):Fx (sumF x y):=W6 (Int.add_nonneg (Int.mul_nonneg hx.1 (by have:=hy.2.1; lia)) (Int.mul_nonneg hy.1 (by have:=hx.2.1; lia))) (jH hx.2.1 hy.2.1)
theorem JF(hx:∀x∈xs,Fx x):LT xs:=λx m=>⟨(hx x m).2.1,(hx x m).2.2⟩
theorem Wv.mono(hx:∀x∈xs,Fx x)(hu:Fx u)(hi:∀x,xs[i]?=some x->le2 x u)(ho:bD xs.length r)(a:Wv r xs v)(b:Wv r (xs.set i u) v'):le2 v v':=by
 have pl:(∃zs,bZ xs zs/\zs[dD xs.length r-1]?=some v)->(∃zs,bZ (xs.set i u) zs/\zs[dD (xs.set i u).length r-1]?=some v')->le2 v v':=λ⟨z,d,e⟩ ⟨z',d',e'⟩=>by
  rw[List.length_set]at e'
  exact d.mono (JF hx) hu.2.1 hi d' e e'
 cases r with
 |sh ws =>
  have a:v=cY (ws.zip xs) (0,1):=a
  have b:v'=cY (ws.zip (xs.set i u)) (0,1):=b
  rw[a,b]
  exact Jy ws xs i u _ _ ho.2 (λx m=>(hx x m).2.1) hu.2.1 hi (by decide) (by decide) (jG _)
 |product =>
  have a:v=dB xs (1,1):=a
  have b:v'=dB (xs.set i u) (1,1):=b
  rw[a,b]
  exact Jz xs i u _ _ (λx m=>⟨(hx x m).2.1,(hx x m).1⟩) hu.2.1 hu.1 hi (by decide) (by decide) (by decide) (by decide) (jG _)
 |least=>exact pl a b
 |greatest=>exact pl a b
 |mid k=>exact pl a b
noncomputable def isG:Ru->Bool
 |.greatest=>true
 |_=>false
noncomputable def isL:Ru->Bool
 |.least=>true
 |_=>false
theorem ahk(hp:placed r=true):∃w:Str,aW (aY r) (.int 0)=.ok (.str w,false)∧jV (.str w) (.str "shares")=.ok (.bl false,false)∧jV (.str w) (.str "product")=.ok (.bl false,false)∧jV (.str w) (.str "greatest")=.ok (.bl (isG r),false)∧jV (.str w) (.str "least")=.ok (.bl (isL r),false):=by
 cases r with
 |sh ws=>cases hp
 |product=>cases hp
 |least=>exact⟨"least",rfl,jL (by decide +kernel),jL (by decide +kernel),jL (by decide +kernel),CT⟩
 |greatest=>exact⟨"greatest",rfl,jL (by decide +kernel),jL (by decide +kernel),CT,jL (by decide +kernel)⟩
 |mid k=>exact⟨"middle",rfl,jL (by decide +kernel),jL (by decide +kernel),jL (by decide +kernel),jL (by decide +kernel)⟩
noncomputable abbrev W7:=(bC (sO 3 (aE (iQ ao))) (bC (sN (sF (iZ3 (ak (aj 0) (ak (V1 (ak (aj 0) ao)) (ak (aj 1) ao)))) (fK 3 (bJ (gV 4) (bJ (gV 5) (bJ (gV 6) fJ)))) (b1 (dz (j7 3 (ak (vJ (tK (aM qL (aj 6) (vC (.int 0)))) (au (aj 4) (au (aj 5) (qK (aj 6) (vC (.int 1))))) (aj 2)) ao)))))) (b1 (aB (aj 3)))))
noncomputable abbrev ahl:SF:=by exists W7
noncomputable def JG:FP:=aJ 7 ahl
noncomputable abbrev W8{f:AF}(a:VA f):=vF "last_worths" ["book", "depths", "one"] JG 6 a
noncomputable abbrev W9:=(b1 (aB (Wg (ak (aj 1) (ak (Wc (ak (aj 0) (ak (aj 2) ao))) (ak (W8 (ak (aj 0) (ak (au (aj 2) (vC (.int 0))) (ak (aj 3) ao)))) ao))))))
noncomputable abbrev ahm:SF:=by exists W9
noncomputable def BZ:FP:=aJ 4 ahm
noncomputable abbrev Xa{f:AF}(a:VA f):=vF "bounds_of" ["book", "rule", "looks", "one"] BZ 7 a
noncomputable abbrev Xb:=(bC (dz (Jk (ak (aj 0) (ak (aj 1) ao)))) (bC (dz (Jo (ak (aj 0) (ak (aj 2) ao)))) (b1 (aB (Xa (ak (aj 0) (ak (aj 1) (ak (aj 2) (ak (vG "FULL" (.tup [(.int 1),(.int 1)])) ao)))))))))
noncomputable abbrev ahn:SF:=by exists Xb
noncomputable def JH:FP:=aJ 3 ahn
noncomputable abbrev aho{f:AF}(a:VA f):=vF "worth_bounds" ["book", "rule", "looks"] JH 8 a
noncomputable abbrev Xc:=(bC (sA 2 (aE (f9 (ak (Jg (ak (vC2 [none,none] ["row", "worth"] (bK (aj 0)) (gV 0) (bK (aj 0)) (gV 1) (aj 1)) ao)) (ak (vC (.int 1)) ao))))) (bC (sA 3 (cC [none,some 2] ["row", "one"] (bK (aj 0)) (gV 0) (dw (cC [none,some 1] ["worth", "one"] (bK (aj 0)) (gV 0) (tU (ak (aj 0) (ak (aj 1) ao))))))) (bC (sI (tK (aM g8 (au (aj 1) (vC (.int 0))) (vC (.str "shares")))) (b1 (aB (f9 (ak (aj 3) (ak (aj 1) (ak (aj 2) ao)))))) b0) (bC (sA 4 (aE (f9 (ak (Jg (ak (au (aj 1) (vC (.int 1))) ao)) (ak (vC (.int 1)) ao))))) (b1 (aB (f9 (ak (aj 3) (ak (f9 (ak (vC (.str "shares")) (ak (dw (cC [none,some 4] ["weight", "factor"] (bK (au (aj 1) (vC (.int 1)))) (gV 0) (tU (ak (aj 0) (ak (aj 1) ao))))) ao))) (ak (aj 2) ao))))))))))
noncomputable abbrev ahp:SF:=by exists Xc
noncomputable def Ca:FP:=aJ 5 ahp
noncomputable abbrev ahq{f:AF}(a:VA f):=vF "whole_form" ["book", "rule"] Ca 4 a
noncomputable abbrev Xd:=(bC (sA 1 (aE (Ji (ak (dw (cC [none,none] ["low", "high"] (bK (aj 0)) (fK 2 (bJ (gV 0) (bJ (gV 1) fJ))) (aj 0))) ao)))) (bC (sA 2 (aE (Ji (ak (dw (cC [none,none] ["low", "high"] (bK (aj 0)) (fK 2 (bJ (gV 0) (bJ (gV 1) fJ))) (aj 1))) ao)))) (b1 (aB (Sy kyP "order_of_bounds" "thing" ["lows", "highs"] [some 1,some 2] (ak (bh (ak (aj 0) ao)) ao) (lPr (Ig (Ie (tM 1) (tM 0))) (Ig (Ie (tM 2) (tM 0)))))))))
noncomputable abbrev ahr:SF:=by exists Xd
noncomputable def wV:FP:=aJ 3 ahr
noncomputable abbrev Cd{f:AF}(a:VA f):=vF "order_of_bounds" ["bounds"] wV 4 a
noncomputable abbrev Xe:=(bC (sO 2 (aE (TJ (ak (qj (Cd (ak (aj 0) ao)) oN (oS (aj 1))) ao)))) (b1 (aB (vJ (bG (Wl (ak (aj 0) (ak (aj 2) ao)))) (aj 2) (vC .non)))))
noncomputable abbrev ahs:SF:=by exists Xe
noncomputable def Xf:FP:=aJ 3 ahs
noncomputable abbrev aht{f:AF}(a:VA f):=vF "sure_by" ["bounds", "count"] Xf 7 a
noncomputable abbrev Xg:=(bC (sH (aj 0) (fK 3 (bJ (gV 3) (bJ (gV 4) (bJ (gV 5) fJ))))) (b1 (aB (aht (ak (Xa (ak (aj 3) (ak (aj 4) (ak (aj 2) (ak (aj 5) ao))))) (ak (aj 1) ao))))))
noncomputable abbrev ahu:SF:=by exists Xg
noncomputable def Xh:FP:=aJ 6 ahu
noncomputable abbrev ahv{f:AF}(a:VA f):=vF "sure_in" ["form", "count", "looks"] Xh 8 a
noncomputable abbrev Xi:=(bC (dz (VD (ak (aj 0) (ak (aj 1) (ak (aj 2) ao))))) (bC (dz (Jo (ak (aj 0) (ak (aj 3) ao)))) (b1 (aB (ahv (ak (ahq (ak (aj 0) (ak (aj 1) ao))) (ak (aj 2) (ak (aj 3) ao))))))))
noncomputable abbrev ahw:SF:=by exists Xi
noncomputable def Xj:FP:=aJ 4 ahw
noncomputable abbrev ahx{f:AF}(a:VA f):=vF "sure_few" ["book", "rule", "count", "looks"] Xj 9 a
noncomputable abbrev iT(i:Nat):Tr:=.int (i:Nat)
noncomputable def pT(p:Nat × Nat):Tr:=.tup [iT p.1,iT p.2]
noncomputable def Lx(p q:Nat × Nat):Prop:=p.1<q.1\/(p.1=q.1/\p.2<q.2)
noncomputable def dM(ds:List Nat)(as:List (Nat × Nat)):Tr:=.tup [.lst (ds.map iT),.lst (as.map pT)]
noncomputable def Lk(n m:Nat)(ds:List Nat)(as:List (Nat × Nat)):Prop:=ds.length=n/\(∀d∈ds,d<=m)/\as.Pairwise Lx/\as.length<=48/\∀p∈as,p.1<n/\p.2<m
theorem count_eq(h:d<=m):Vu [iT d,.int (m:Nat)]=.ok (.bl true,false):=by
 have e:=wU (i:=d)
 walk_at "d"
 exact congrArg (λb=>Rs.ok (Tr.bl b,false)) (decide_eq_true (by lia))
theorem ahy{n m:Nat}{ds:List Nat}(h1:ds.length=n)(hd:∀d∈ds,d<=m)(hn:n<=1000):V3 [.lst (ds.map iT),.int (n:Nat),.int (m:Nat)]=.ok (.bl true,false):=by
 subst h1
 walk_at "d"
 exact count_eq (hd x hx)
 walk_at "r"
 exact all_true ds
 walk_at "r"
theorem ahz(h:Lx p q):rH (pT p) (pT q)=.ok (.bl true,false):=by
 show Rs.ok (Tr.bl (HT.lexLt [((p.1:Nat):Int),((p.2:Nat):Int)] [((q.1:Nat):Int),((q.2:Nat):Int)]),false)=_
 have:HT.lexLt [((p.1:Nat):Int),((p.2:Nat):Int)] [((q.1:Nat):Int),((q.2:Nat):Int)]=true:=by
  unfold Lx at h
  unfold HT.lexLt
  rcases h with h|⟨h,h'⟩
  .have:(p.1:Int)<q.1:=by lia
   have n:¬(p.1:Int)=q.1:=by lia
   simp[this,n]
  .rw[h]
   have:(p.2:Int)<q.2:=by lia
   have n:¬(p.2:Int)=q.2:=by lia
   simp[HT.lexLt,this,n]
 rw[this]
theorem ahA(h1:p.1<n)(h2:p.2<m):V5 [pT p,.int (n:Nat),.int (m:Nat)]=.ok (.bl true,false):=by
 have e1:=BL p.1 n
 have e2:=BL p.2 m
 rw[show(decide ((0:Int)<=p.1)&&decide ((p.1:Int)<n))=true by simp; lia]at e1
 rw[show(decide ((0:Int)<=p.2)&&decide ((p.2:Int)<m))=true by simp; lia]at e2
 walk_at "d"
theorem Xk:∀{as:List (Nat × Nat)},as.Pairwise Lx->∀z∈as.zip (as.drop 1),Lx z.1 z.2
 | [],_,z,hz=>by cases hz
 | [a],_,z,hz=>by cases hz
 |a::b::as,h,z,hz=>by
  rw[List.drop_one,List.tail_cons,List.zip_cons_cons]at hz
  rcases List.mem_cons.mp hz with rfl|hz
  .exact(List.pairwise_cons.mp h).1 b (List.mem_cons_self ..)
  .exact Xk (as:=b::as) (List.pairwise_cons.mp h).2 z (by rw[List.drop_one,List.tail_cons]; exact hz)
theorem ahB{as:List (Nat × Nat)}(h:as.Pairwise Lx)(hl:as.length<=48):Jm [.lst (as.map pT)]=.ok (.bl true,false):=by
 have ez:iW (as.map pT) ((as.map pT).drop 1)=(as.zip (as.drop 1)).map λz=>Tr.tup [pT z.1,pT z.2]:=by
  unfold iW
  rw[<-List.map_drop,List.zip_map,List.map_map]
  rfl
 have ec:jx (some 1) none (.lst (as.map pT))=.ok (.lst ((as.map pT).drop 1),true):=congrArg (λL=>Rs.ok (Tr.lst L,true)) (WM (as.map pT) 1)
 walk_at "d"
 exact ahz (Xk h x hx)
 rw[List.length_zip]; lia
 walk_at "r"
 exact all_true _
 walk_at "r"
theorem ahC{n m:Nat}{as:List (Nat × Nat)}(h:as.Pairwise Lx)(hl:as.length<=48)(hp:∀p∈as,p.1<n/\p.2<m):V7 [.lst (as.map pT),.int (n:Nat),.int (m:Nat)]=.ok (.bl true,false):=by
 have e:=ahB h hl
 walk_at "d"
 exact ahA (hp x hx).1 (hp x hx).2
 walk_at "r"
 exact all_true as
 walk_at "r"
theorem JK{m:Nat}{rows:List (List (Int × Int))}{ds:List Nat}{as:List (Nat × Nat)}(hB:Bk m rows)(hL:Lk rows.length m ds as):V9 [aO rows,dM ds as]=.ok (.non,false):=by
 obtain⟨b1,b2,b3,b4,b5⟩:=hB
 obtain⟨l1,l2,l3,l4,l5⟩:=hL
 have e1:=ahy l1 l2 (by lia)
 have e2:=ahC l3 l4 l5
 have el:=lH rows
 have hl:rows[0]?=some rows[0]:=List.getElem?_eq_getElem b1
 have e0:aW (aO rows) (.int 0)=.ok (aG rows[0],false):=Jp hl
 have Jr:=jy rows[0]
 rw[(b5 _ (List.mem_of_getElem? hl)).1]at Jr
 walk_at "d"
theorem JL(a b:Nat):eqT (iT a) (iT b)=decide (a=b):=by
 unfold iT eqT
 by_cases h:a=b
 .subst h; simp
 .have:¬(a:Int)=b:=by lia
  simp[h,this]
theorem ahD(p q:Nat × Nat):eqT (pT p) (pT q)=decide (p=q):=by
 unfold pT
 rw[show eqT (.tup [iT p.1,iT p.2]) (.tup [iT q.1,iT q.2])=(eqT (iT p.1) (iT q.1)&&(eqT (iT p.2) (iT q.2)&&true)) by simp only[eqT,jT],JL,JL]
 obtain⟨a,b⟩:=p
 obtain⟨c,d⟩:=q
 by_cases h:a=c <;> by_cases h':b=d <;> simp[h,h']
theorem JM:∀zs:List Nat,deps (zs.map iT)=0
 | []=>rfl
 |z::zs=>by
  rw[List.map_cons]
  unfold deps
  rw[JM zs]
  rfl
theorem Xl(p:Nat × Nat):dep (pT p)=1:=rfl
theorem Xm:∀zs:List (Nat × Nat),deps (zs.map pT)<=1
 | []=>Nat.zero_le _
 |z::zs=>by
  rw[List.map_cons]
  unfold deps
  rw[Xl]
  have:=Xm zs
  lia
theorem Xn{α : Type} [DecidableEq α](t : α):∀zs:List α,(zs.any λz=>decide (z=t))=decide (t∈zs)
 | []=>rfl
 |z::zs=>by
  rw[List.any_cons,Xn t zs]
  by_cases h:z=t
  .subst h; simp
  .have:t≠z:=λe=>h e.symm
   simp[h,this]
theorem Mi(f:Bool->Bool)(t:Nat)(zs:List Nat):jW f (iT t) (.lst (zs.map iT))=.ok (.bl (f (decide (t∈zs))),false):=by
 show(if deps (zs.map iT)<=40/\dep (iT t)<=40 then Rs.ok (Tr.bl (f (kE (iT t) (zs.map iT))),false)else .bad)=_
 rw[if_pos ⟨by rw[JM]; lia,by show 0<=40; lia⟩]
 unfold kE
 rw[List.any_map,<-Xn]
 simp only[Function.comp_def,JL]
theorem ahE(f:Bool->Bool)(t:Nat × Nat)(zs:List (Nat × Nat)):jW f (pT t) (.lst (zs.map pT))=.ok (.bl (f (decide (t∈zs))),false):=by
 show(if deps (zs.map pT)<=40/\dep (pT t)<=40 then Rs.ok (Tr.bl (f (kE (pT t) (zs.map pT))),false)else .bad)=_
 rw[if_pos ⟨by have:=Xm zs; lia,by rw[Xl]; lia⟩]
 have e:kE (pT t) (zs.map pT)=decide (t∈zs):=by
  unfold kE
  rw[List.any_map,Bool.eq_iff_iff,List.any_eq_true,decide_eq_true_eq]
  refine⟨λ⟨z,hz,e⟩=>?_,λh=>⟨t,h,yu _⟩⟩
  have e:eqT (pT z) (pT t)=true:=e
  rw[ahD,decide_eq_true_eq]at e
  exact e▸hz
 rw[e]
noncomputable def fQ(b:Bool)(x:Int × Int):Tr:=if b=true then fT x else .non
noncomputable def gr(l:List (Int × Int))(s:Nat->Bool):List Tr:=(List.range l.length).map λt=>fQ (s t) (l.getD t (0,1))
noncomputable def gs(rows:List (List (Int × Int)))(s:Nat->Nat->Bool):List Tr:=(List.range rows.length).map λk=>.lst (gr (rows.getD k []) (s k))
theorem ahF:(gr l s).set t (fT (l.getD t (0,1)))=gr l λt'=>s t' || decide (t'=t):=by
 refine List.ext_getElem? λi=>?_
 unfold gr
 rw[List.getElem?_set,List.getElem?_map,List.getElem?_map]
 by_cases h:t=i
 .subst h
  by_cases z:t<l.length <;> simp[z,fQ]
 .have h':¬i=t:=λe=>h e.symm
  by_cases z:i<l.length <;> simp[h,h',z]
theorem Xo:(gs rows s).set k (.lst ((gr (rows.getD k []) (s k)).set t (fT ((rows.getD k []).getD t (0,1)))))=gs rows λk' t'=>s k' t' || (decide (k'=k)&&decide (t'=t)):=by
 rw[ahF]
 refine List.ext_getElem? λi=>?_
 unfold gs
 rw[List.getElem?_set,List.getElem?_map,List.getElem?_map]
 by_cases h:k=i
 .subst h
  by_cases z:k<rows.length <;> simp[z]
 .have h':¬i=k:=λe=>h e.symm
  by_cases z:i<rows.length <;> simp[h,h',z]
end BH
end
section
namespace L2
open PySem
section
variable {ρ ρ1 ρ2:En}{fa fe:EF}{aa:AF}{fi:IF}{T:Tr}{us ts vs:List Tr}{b:Bool}{i j k:Nat}{fk fj:QF}{Q:Fl->En->Prop}
theorem Xp(h:ts[k]?=some T):oW ts (.int (k:Nat))=.ok (k,T):=by
 have lt:=(List.getElem?_eq_some_iff.mp h).1
 have e:fW ts.length (k:Int)=some k:=by
  unfold fW
  rw[if_pos (by lia),if_pos (by lia)]
  rfl
 unfold oW
 simp only[e,h]
theorem Xq{m n:Nat}(h:fe ρ=.ok (.v T b,ρ))(c : ρ[i]?=some (.dp ts))(q:fk ρ=.ok (.int (m:Nat)))(l:ts[m]?=some (.lst us))(q':fj ρ=.ok (.int (n:Nat)))(l':n<us.length)(e : ρ.set i (.dp (ts.set m (.lst (us.set n T)))) = ρ2)(k:Q .nx ρ2):W (SQ i fk fj fe ρ) Q:=by
 subst e
 have cd:qJ ρ i=.ok ts:=by unfold qJ; rw[c]
 exact⟨_,_,bk h (bk (a:=T) rfl (bk cd (bk (by rw[q]; rfl) (bk (Xp l) (bk (by rw[q']; rfl) (bk (Xp (List.getElem?_eq_getElem l')) rfl)))))),k⟩
theorem wCD{β : Type}{t : β -> Tr}{h : β -> List Tr}{xs:List β}(hi:fi ρ=.ok (us,ρ))(hu:us=xs.map t)(hf:∀x∈xs,fe [.sh (t x)]=.ok (.v (.lst (h x)) true,[.sh (t x)]))(hl:xs.length<=100000)(e : ρ.set i (.dp (xs.map λx=>.lst (h x))) = ρ1)(k:Q .nx ρ1):W (HJ i [none] fi (gN 0) jw fe ρ) Q:=by
 subst hu e
 have go:∀(ys:List β) (s:Sl),(∀x∈ys,x∈xs)->∃s',qH (gN 0) jw fe (ys.map t) [s]=.ok (ys.map λx=>.lst (h x),[s']):=λys=>by
  induction ys with
  |nil=>exact λs _=>⟨s,rfl⟩
  |cons y ys ih =>
   intro s m
   obtain⟨s',e'⟩:=ih (.sh (t y)) λx hx=>m x (List.mem_cons_of_mem _ hx)
   exact⟨s',bk (a:=[.sh (t y)]) rfl (bk rfl ((if_pos rfl).trans (bk (hf y (m y (List.mem_cons_self ..))) (bk rfl (bk e' rfl)))))⟩
 obtain⟨s',e'⟩:=go xs .un λ_ h=>h
 exact⟨_,_,bk hi ((if_pos (by rw[List.length_map]; exact hl)).trans (bk (show gA (qH _ _ _ _ [.un])=_ by rw[e']; rfl) (if_pos rfl))),k⟩
theorem xEn{α : Type}{g : α -> Tr}{l:List α}(d : α)(h:aa ρ=.ok ([.v T b],ρ1))(e:T=.lst (l.map g)):RK aa ρ=.ok ((List.range l.length).map λk:Nat=>.tup [.int k,g (l.getD k d)],ρ1):=by
 subst e
 refine bk h (congrArg (λl=>Rs.ok (l,ρ1)) (List.ext_getElem? λi=>?_))
 unfold Av
 by_cases z:i<l.length
 .simp[z]
 .simp[z]
end
end L2
namespace BH
open PySem L2
structure Od(od:List (Int × Int)->List Nat)(m:Nat)(rows:List (List (Int × Int))):Prop where
 n1:1<=rows.length
 n4:rows.length<=4
 m1:1<=m
 Xr:m<=12
 len:∀l∈rows,l.length=m
 fall:∀l∈rows,tV [aG l]=.ok (.lst ((od l).map iT),true)
 lt:∀l∈rows,∀t∈od l,t<m
 ln:∀l∈rows,(od l).length=m
section
variable {od:List (Int × Int)->List Nat}{m:Nat}{rows:List (List (Int × Int))}{ds:List Nat}{as:List (Nat × Nat)}
noncomputable def sn(od:List (Int × Int)->List Nat)(l:List (Int × Int))(d:Nat)(as:List (Nat × Nat))(k t:Nat):Bool:=decide (t∈(od l).take d) || decide ((k,t)∈as)
noncomputable def sA(od:List (Int × Int)->List Nat)(rows:List (List (Int × Int)))(ds:List Nat)(as:List (Nat × Nat))(k:Nat):Nat->Bool:=sn od (rows.getD k []) (ds.getD k 0) as k
theorem Xu(hO:Od od m rows):V0 [aO rows]=.ok (.lst (rows.map λl=>.lst ((od l).map iT)),true):=by
 have:=hO.n4
 unfold aO
 walk_at "d"
 exact hO.fall x hx
 walk_at "r"
theorem getM{α : Type}{l:List α}{k:Nat}{d : α}(h:k<l.length):l.getD k d∈l:=by rw[List.getD_eq_getElem?_getD,List.getElem?_eq_getElem h]; exact List.getElem_mem _
theorem m9{α : Type}{f : α -> Tr}{l:List α}{k:Nat}(d : α)(h:k<l.length):aW (.lst (l.map f)) (.int k)=.ok (f (l.getD k d),false):=lB (by simp[h])
theorem Lk.ok(hO:Od od m rows)(hL:Lk rows.length m ds as):∀p∈as,p.1<rows.length/\p.2<(rows.getD p.1 []).length:=λp mp=>by
 have h:=hL.2.2.2.2 p mp
 exact⟨h.1,by rw[hO.len _ (getM h.1)]; exact h.2⟩
theorem Xv{s:Nat->Nat->Bool}(h:k<rows.length):(gs rows s)[k]?=some (.lst (gr (rows.getD k []) (s k))):=by unfold gs; simp[h]
theorem jM{rows:List (List (Int × Int))}{k:Nat}(h:k<rows.length):aW (aO rows) (.int k)=.ok (aG (rows.getD k []),false):=lB (by simp[h])
theorem Xw{l:List (Int × Int)}{s:Nat->Bool}:(gr l s).length=l.length:=by unfold gr; simp
theorem Xx(hO:Od od m rows)(hL:Lk rows.length m ds as):Wb [aO rows,dM ds as]=.ok (.lst (gs rows (sA od rows ds as)),true):=by
 have h4:=hO.n4
 have h12:=hO.Xr
 have er:=Xu hO
 have eb:aO rows=.lst (rows.map aG):=rfl
 have ed:dM ds as=.tup [.lst (ds.map iT),.lst (as.map pT)]:=rfl
 walk_at "d"
 refine wCD (t:=aG) (h:=λl=>List.replicate l.length Tr.non) (xs:=rows) rfl rfl (λl ml=>?_) (by lia) rfl ?_
 .have e2:pW (.lst [.non]) (.int (l.length:Nat))=.ok (.lst (List.replicate l.length Tr.non),true):=by
   have hl:=hO.len l ml
   unfold pW
   have h1:(0:Int)<=l.length:=by lia
   simp[h1]
   lia
  walk_at "r"
 have e0:(rows.map λl=>Tr.lst (List.replicate l.length Tr.non))=gs rows λ_ _=>false:=by
  refine List.ext_getElem? λi=>?_
  unfold gs gr fQ
  by_cases z:i<rows.length
  .simp[z]
   refine List.ext_getElem? λj=>?_
   by_cases y:j<rows[i].length <;> simp[y]
  .simp[z]
 rw[e0]
 walk_at "p"
 apply xEn ([]:List (Int × Int))
 walk_at "r"
 refine jr [5,6,7] (λs=>[(4,.dp (gs rows s))]) (λk s=>∀k' t',s k' t'=(decide (k'<k)&&decide (t'∈(od (rows.getD k' [])).take (ds.getD k' 0)))) (λ_ _=>false) (λk' t'=>by simp) rfl (λk v s hk hs=>?_) λv s hs=>?_
 .have hd:k<ds.length:=by rw[hL.1]; exact hk
  have id:=m9 (f:=iT) 0 hd
  have ec:jx none (some (ds.getD k 0:Nat)) (.lst ((od (rows.getD k [])).map iT))=.ok (.lst (((od (rows.getD k [])).take (ds.getD k 0)).map iT),true):=by
   show Rs.ok (Tr.lst (cut ((od (rows.getD k [])).map iT) none (some (ds.getD k 0:Nat))),true)=_
   rw[Jt,<-List.map_take]
  have hl:=hO.len _ (getM (d:=[]) hk)
  walk_at "p"
  refine lA [7] (λs=>[(4,.dp (gs rows s))]) (λj s'=>∀k' t',s' k' t'=(s k' t' || (decide (k'=k)&&decide (t'∈((od (rows.getD k [])).take (ds.getD k 0)).take j)))) s (λk' t'=>by simp) rfl (λj t v s' ht hs'=>?_) λv s' hs'=>?_
  .have lt:t<(rows.getD k []).length:=by rw[hl]; exact hO.lt _ (getM hk) t (List.mem_of_mem_take (List.mem_of_getElem? ht))
   have gk:=jM hk
   have gt:=m8 lt
   walk_at "p"
   refine Xq (m:=k) (n:=t) (uH (uH rfl rfl rfl rfl gk) rfl rfl rfl gt) rfl rfl (Xv hk) rfl (by rw[Xw]; exact lt) rfl ?_
   rw[Xo]
   refine⟨_,λk' t'=>?_,exV rfl⟩
   rw[hs' k' t',List.take_add_one,ht]
   by_cases h1:k'=k <;> by_cases h2:t'=t <;> simp[h1,h2]
  .rw[List.take_of_length_le (Nat.le_refl _)]at hs'
   walk_at "p"
   refine⟨s',λk' t'=>?_,exV rfl⟩
   rw[hs' k' t',hs k' t']
   by_cases h1:k'=k
   .subst h1; simp
   .have:k'<k+1↔k'<k:=by lia
    simp[h1,this]
 .walk_at "p"
  refine lA [5,7] (λs=>[(4,.dp (gs rows s))]) (λj s'=>∀k' t',s' k' t'=(s k' t' || decide ((k',t')∈as.take j))) s (λk' t'=>by simp) rfl (λj p v s' hp hs'=>?_) λv s' hs'=>?_
  .obtain⟨h1,h2⟩:=Lk.ok hO hL p (List.mem_of_getElem? hp)
   obtain⟨k,t⟩:=p
   have gk:=jM h1
   have gt:=m8 h2
   walk_at "p"
   refine Xq (m:=k) (n:=t) (uH (uH rfl rfl rfl rfl gk) rfl rfl rfl gt) rfl rfl (Xv h1) rfl (by rw[Xw]; exact h2) rfl ?_
   rw[Xo]
   refine⟨_,λk' t'=>?_,exV rfl⟩
   rw[hs' k' t',List.take_add_one,hp]
   by_cases h1:k'=k <;> by_cases h2:t'=t <;> simp[h1,h2]
  .rw[List.take_of_length_le (Nat.le_refl _)]at hs'
   walk_at "p"
   refine congrArg (λl=>Rs.ok (Tr.lst l,true)) (List.map_congr_left λk hk=>?_)
   have hk:=List.mem_range.mp hk
   refine congrArg (λf=>Tr.lst (gr _ f)) (funext λt=>?_)
   unfold sA sn
   rw[hs' k t,hs k t,decide_eq_true hk,Bool.true_and]
end
noncomputable def cH(od:List (Int × Int)->List Nat)(one:Int × Int)(l:List (Int × Int))(d:Nat):Int × Int:=if 0<d then l.getD ((od l).getD (d-1) 0) (0,1)else one
noncomputable def cJ(od:List (Int × Int)->List Nat)(one:Int × Int)(rows:List (List (Int × Int)))(ds:List Nat):List (Int × Int):=(List.range rows.length).map λk=>cH od one (rows.getD k []) (ds.getD k 0)
theorem lE{rows:List (List (Int × Int))}{ds:List Nat}(_:ds.length=rows.length):(cJ od one rows ds).length=rows.length:=by unfold cJ; simp
theorem ud{rows:List (List (Int × Int))}{ds:List Nat}{k:Nat}(_:ds.length=rows.length)(hk:k<rows.length):(cJ od one rows ds).getD k (0,1)=cH od one (rows.getD k []) (ds.getD k 0):=by unfold cJ; simp[hk]
theorem uf{α : Type}{f : α -> Int × Int}{l:List α}:aG (l.map f)=.lst (l.map λx=>fT (f x)):=by unfold aG; rw[List.map_map]; rfl
theorem Mg{aa:AF}{T U V:Tr}{us vs ws:List Tr}{b b' b2:Bool}{ρ ρ1:En}(h:aa ρ=.ok ([.v T b,.v U b',.v V b2],ρ1))(e:T=.lst us)(e1:U=.lst vs)(e2:V=.lst ws)(l:us.length<=vs.length)(l':us.length<=ws.length):RN aa ρ=.ok (jo us vs ws,ρ1):=by subst e e1 e2; exact bk h (if_pos ⟨l,l'⟩)
theorem Xy{α β : Type}{f g : α -> Tr}{h : β -> Tr}:∀(xs:List α) (ys:List β),jo (xs.map f) (xs.map g) (ys.map h)=(xs.zip ys).map λp=>.tup [f p.1,g p.1,h p.2]
 | [],_=>rfl
 |_::_,[]=>rfl
 |x::xs,y::ys=>congrArg (_ :: ·) (Xy xs ys)
theorem Xz{od:List (Int × Int)->List Nat}{one:Int × Int}(hO:Od od m rows)(hl:ds.length=rows.length)(hd:∀d∈ds,d<=m):JG [aO rows,.lst (ds.map iT),fT one]=.ok (aG (cJ od one rows ds),true):=by
 have er:=Xu hO
 have n4:=hO.n4
 have ez:jo (rows.map aG) (rows.map λl=>.lst ((od l).map iT)) (ds.map iT)=(List.range rows.length).map λk=>.tup [aG (rows.getD k []),.lst ((od (rows.getD k [])).map iT),iT (ds.getD k 0)]:=by
  rw[Xy]
  refine List.ext_getElem? λi=>?_
  by_cases z:i<rows.length
  .have z':i<ds.length:=by omega
   simp[z,z']
   exact⟨_,_,List.getElem?_zip_eq_some (z:=(rows[i],ds[i])) |>.mpr ⟨by simp[z],by simp[z']⟩,rfl,rfl,rfl⟩
  .rw[List.getElem?_eq_none (by simp; omega),List.getElem?_eq_none (by simp; omega)]
 unfold cJ
 rw[uf]
 walk_at "d"
 rw[ez]
 refine qQ [4,5,6] (λk=>[(3,.ow ((List.range k).map λk=>fT (cH od one (rows.getD k []) (ds.getD k 0))))]) rfl (λk v hk=>?_) (λv=>?_)
 .have ml:=getM (d:=[]) hk
  have hd:=hd _ (getM (d:=0) (show k<ds.length by omega))
  have h1:=hO.len _ ml
  have h2:=hO.ln _ ml
  rw[List.range_succ,List.map_append]
  by_cases z:0<ds.getD k 0
  .have g2:u0 (.int (ds.getD k 0:Nat)) (.int 1)=.ok (.int ((ds.getD k 0-1:Nat):Int),false):=by rw[Int.ofNat_sub z]; rfl
   have i1:=m9 (f:=iT) (l:=od (rows.getD k [])) (k:=ds.getD k 0-1) 0 (by omega)
   have lt:=hO.lt _ ml _ (getM (d:=0) (show ds.getD k 0-1<(od (rows.getD k [])).length by omega))
   have w:cH od one (rows.getD k []) (ds.getD k 0)=_:=if_pos z
   walk_at "p"
   exact congrArg (λy=>_++[fT y]) w.symm
  .have w:cH od one (rows.getD k []) (ds.getD k 0)=_:=if_neg z
   walk_at "p"
   exact congrArg (λy=>_++[fT y]) w.symm
 .walk_at "p"
noncomputable abbrev aZ(rows:List (List (Int × Int)))(k t:Nat):Int × Int:=(rows.getD k []).getD t (0,1)
noncomputable def lo(rows:List (List (Int × Int)))(s:Nat->Nat->Bool)(t:Nat):List (Int × Int):=(List.range rows.length).map λk=>if s k t=true then aZ rows k t else(0,1)
noncomputable def hi(rows:List (List (Int × Int)))(s:Nat->Nat->Bool)(aV:List (Int × Int))(t:Nat):List (Int × Int):=(List.range rows.length).map λk=>if s k t=true then aZ rows k t else aV.getD k (0,1)
noncomputable def dF(a b:Nat->Int × Int)(m:Nat):List Tr:=(List.range m).map λt=>.tup [fT (a t),fT (b t)]
noncomputable def JN(rows:List (List (Int × Int)))(s:Nat->Nat->Bool)(t:Nat):List Tr:=(List.range rows.length).map λk=>fQ (s k t) (aZ rows k t)
section
variable {rows:List (List (Int × Int))}{s:Nat->Nat->Bool}{aV:List (Int × Int)}{m:Nat}
theorem CW{k:Nat}(hk:k<rows.length):aW (.lst (gs rows s)) (.int k)=.ok (.lst (gr (rows.getD k []) (s k)),false):=lC (by unfold gs; simp[hk])
theorem aap(hk:0<rows.length):aW (.lst (gs rows s)) (.int 0)=.ok (.lst (gr (rows.getD 0 []) (s 0)),false):=CW hk
theorem CZ{l:List (Int × Int)}{s:Nat->Bool}{t:Nat}(ht:t<l.length):aW (.lst (gr l s)) (.int t)=.ok (fQ (s t) (l.getD t (0,1)),false):=lC (by unfold gr; simp[ht])
theorem aaq{l:List (Int × Int)}{s:Nat->Bool}:eH (.lst (gr l s))=.ok (.int l.length,false):=by
 show Rs.ok (Tr.int ((gr l s).length:Int),false)=_
 unfold gr
 simp
theorem ahG{a b:Nat->Int × Int}:(dF a b m).length=m:=by unfold dF; simp
theorem ahH{a b:Nat->Int × Int}:dF a b m++[.tup [fT (a m),fT (b m)]]=dF a b (m+1):=by unfold dF; rw[List.range_succ,List.map_append]; rfl
theorem aar{b:Bool}{x:Int × Int}{c d:Int}{τ : En}:vI (iM (kY (pC id) (bL 0) (eC .non))) (eC (.tup [.int c,.int d])) (bL 0) (.sh (fQ b x)::τ)=.ok (.v (fT (if b=true then x else(c,d))) false,.sh (fQ b x)::τ):=by cases b <;> rfl
theorem aas{b:Bool}{x y:Int × Int}{τ : En}:vI (iM (kY (pC id) (bL 0) (eC .non))) (bL 1) (bL 0) (.sh (fQ b x) :: .sh (fT y)::τ)=.ok (.v (fT (if b=true then x else y)) false,.sh (fQ b x) :: .sh (fT y)::τ):=by cases b <;> rfl
theorem ahI(h4:rows.length<=4)(ht:∀l∈rows,t<l.length):Jl [.lst (gs rows s),iT t]=.ok (.lst (JN rows s t),true):=by
 walk_at "d"
 exact ht _ (List.mem_of_getElem? (i:=x) (by simp[hx]))
 walk_at "r"
theorem XC{a b:Nat->Int × Int}{R:Tr}(h1:1<=rows.length)(h4:rows.length<=4)(hl:aV.length=rows.length)(hm:m<=12)(hr:∀l∈rows,l.length=m)(e1:∀t,t<m->gh [R,aG (lo rows s t)]=.ok (fT (a t),false))(e2:∀t,t<m->gh [R,aG (hi rows s aV t)]=.ok (fT (b t),false)):Wf [R,.lst (gs rows s),aG aV]=.ok (.lst (dF a b m),true):=by
 have hm0:(rows.getD 0 []).length=m:=hr _ (List.mem_of_getElem? (i:=0) (by simp[show 0<rows.length by omega]))
 walk_at "d"
 rw[hm0]
 refine qQ [4,5,6,7] (λk=>[(3,.ow (dF a b k))]) rfl (λt v ht=>?_) (λv=>?_)
 .have e0:=ahI (s:=s) h4 λl hl=>(hr l hl).symm▸ht
  have e1:=e1 t ht
  have e2:=e2 t ht
  unfold lo at e1
  unfold hi at e2
  rw[uf]at e1 e2
  have bl:=ahG (m:=t) (a:=a) (b:=b)
  have ez:iW (JN rows s t) (aV.map fT)=(List.range rows.length).map λk=>.tup [fQ (s k t) (aZ rows k t),fT (aV.getD k (0,1))]:=by
   refine List.ext_getElem? λi=>?_
   unfold iW JN
   rw[List.getElem?_map,List.getElem?_map]
   by_cases z:i<rows.length
   .have z':i<aV.length:=by omega
    have e1:((List.range rows.length).map λk=>fQ (s k t) (aZ rows k t))[i]?=some (fQ (s i t) (aZ rows i t)):=by simp[z]
    have e2:(aV.map fT)[i]?=some (fT (aV.getD i (0,1))):=by simp[z']
    rw[List.getElem?_zip_eq_some (z:=(fQ (s i t) (aZ rows i t),fT (aV.getD i (0,1)))) |>.mpr ⟨e1,e2⟩]
    simp[z]
   .rw[List.getElem?_eq_none (by simp; omega),List.getElem?_eq_none (by simp; omega)]
    rfl
  walk_at "p"
  exact ahH
 .walk_at "p"
end
theorem JQ(h:Fall l ys)(h':Fall l zs):ys=zs:=by
 refine List.Perm.eq_of_pairwise (λa b _ _ p q=>?_) h.2 h'.2 (h.1.trans h'.1.symm)
 unfold dZ at p q
 lia
open Classical in
noncomputable def aq(l:List (Int × Int)):List Nat:=if h:∃zs:List Nat,Fall l zs then h.choose else []
theorem Ce(h:Fall l zs):aq l=zs:=by
 have h':∃zs:List Nat,Fall l zs:=⟨zs,h⟩
 unfold aq
 rw[dif_pos h']
 exact JQ h'.choose_spec h
theorem qR(h:Frs N l)(hl:1+N*l.length<=8900)(hN:N<=8900)(h64:l.length<64):Fall l (aq l)/\tV [aG l]=.ok (.lst ((aq l).map iT),true):=by
 obtain⟨ys,e,f⟩:=BP l h hl hN h64
 rw[Ce f]
 exact⟨f,e⟩
theorem Od.of(h1:1<=rows.length)(h4:rows.length<=4)(m1:1<=m)(m2:m<=12)(hl:∀l∈rows,l.length=m)(h:∀l∈rows,Frs N l)(hN:1+N*12<=8900):Od aq m rows:=by
 have k:∀l∈rows,Fall l (aq l)/\tV [aG l]=.ok (.lst ((aq l).map iT),true):=λl ml=>qR (h l ml) (by
  have:=hl l ml
  have:N*l.length<=N*12:=Nat.mul_le_mul_left _ (by lia)
  lia) (by lia) (by have:=hl l ml; lia)
 refine⟨h1,h4,m1,m2,hl,λl ml=>(k l ml).2,λl ml t mt=>?_,λl ml=>?_⟩
 .have:=(k l ml).1.1.mem_iff.mp mt
  rw[List.mem_range,hl l ml]at this
  exact this
 .have:=(k l ml).1.1.length_eq
  rw[List.length_range,hl l ml]at this
  exact this
theorem Bk.od(hB:Bk m rows):Od aq m rows:=by
 obtain⟨b1,b2,b3,b4,b5⟩:=hB
 exact Od.of (N:=40) b1 b2 b3 b4 (λl ml=>(b5 l ml).1) (λl ml=>Wo.frs (b5 l ml).2) (by lia)
section
variable {od:List (Int × Int)->List Nat}{m:Nat}{rows:List (List (Int × Int))}{ds:List Nat}{as:List (Nat × Nat)}{one:Int × Int}{a b:Nat->Int × Int}{R:Tr}
theorem XD(hO:Od od m rows)(hL:Lk rows.length m ds as)(e1:∀t,t<m->gh [R,aG (lo rows (sA od rows ds as) t)]=.ok (fT (a t),false))(e2:∀t,t<m->gh [R,aG (hi rows (sA od rows ds as) (cJ od one rows ds) t)]=.ok (fT (b t),false)):BZ [aO rows,R,dM ds as,fT one]=.ok (.lst (dF a b m),true) :=
 tQ (wN (fO (fM rfl (fM (fO rfl rfl rfl (Xx hO hL)) (fM (fO rfl rfl rfl (Xz (one:=one) hO hL.1 hL.2.1)) rfl))) rfl rfl (XC hO.n1 hO.n4 (lE hL.1) hO.Xr hO.len e1 e2)))
theorem JR(hB:Bk m rows)(ho:bD rows.length r):Vo [aO rows,aY r]=.ok (.non,false) :=
 Ja (mX (qP (fO rfl rfl rfl (WD hB))) (T5 (T6 (Jc (fO (fM rfl (fM (Jb rfl rfl (lH rows)) rfl)) rfl rfl (ahf ho (by have:=hB.2.1; lia))) rfl rfl)) rfl))
theorem ahJ(hB:Bk m rows)(hL:Lk rows.length m ds as)(ho:bD rows.length r)(e1:∀t,t<m->gh [aY r,aG (lo rows (sA aq rows ds as) t)]=.ok (fT (a t),false))(e2:∀t,t<m->gh [aY r,aG (hi rows (sA aq rows ds as) (cJ aq (1,1) rows ds) t)]=.ok (fT (b t),false)):JH [aO rows,aY r,dM ds as]=.ok (.lst (dF a b m),true) :=
 tQ (mX (qP (fO rfl rfl rfl (JR hB ho))) (mX (qP (fO rfl rfl rfl (JK hB hL))) (wN (fO rfl rfl rfl (XD hB.od hL e1 e2)))))
end
theorem pref{α : Type}{p : α -> Bool}:∀zs:List α,zs.Pairwise (λa b=>p b=true->p a=true)->zs.take (zs.filter p).length=zs.filter p/\zs.drop (zs.filter p).length=zs.filter λa=>!p a
 | [],_=>⟨rfl,rfl⟩
 |a::l,h=>by
  obtain⟨h1,h2⟩:=List.pairwise_cons.mp h
  obtain⟨i1,i2⟩:=pref l h2
  cases e:p a with
  |true=>simp[e,i1,i2]
  |false =>
   have hf:∀b∈l,p b=false:=λb hb=>by
    cases z:p b with
    |false=>rfl
    |true=>rw[h1 b hb z]at e; cases e
   have z:l.filter p=[]:=List.filter_eq_nil_iff.mpr λb hb=>by rw[hf b hb]; simp
   have z':l.filter (λa=>!p a)=l:=List.filter_eq_self.mpr λb hb=>by rw[hf b hb]; rfl
   simp[e,z,z']
theorem jq{α : Type}{R : α -> α -> Prop}{p : α -> Bool}{zs:List α}{n : α}(hs:zs.Pairwise R)(hp:∀a∈zs,∀b∈zs,R a b->p b=true->p a=true)(h1:∀a∈zs,p a=true->R a n)(h2:∀b∈zs,p b=false->R n b):(zs.take (zs.filter p).length++n::zs.drop (zs.filter p).length).Perm (n::zs)/\(zs.take (zs.filter p).length++n::zs.drop (zs.filter p).length).Pairwise R:=by
 obtain⟨e1,e2⟩:=pref (p:=p) zs (hs.imp_of_mem λ{a b} ma mb r=>hp a ma b mb r)
 have hs':(zs.take (zs.filter p).length++zs.drop (zs.filter p).length).Pairwise R:=by rw[List.take_append_drop]; exact hs
 rw[e1,e2]at hs'
 rw[e1,e2]
 refine⟨List.perm_middle.trans ((List.filter_append_perm p zs).cons n),List.pairwise_append.mpr ⟨hs.filter p,List.pairwise_cons.mpr ⟨λb hb=>?_,hs.filter _⟩,λa ha b hb=>?_⟩⟩
 .obtain⟨m,q⟩:=List.mem_filter.mp hb
  exact h2 b m (by simpa using q)
 .obtain⟨m,q⟩:=List.mem_filter.mp ha
  rcases List.mem_cons.mp hb with rfl|hb
  .exact h1 a m q
  .exact(List.pairwise_append.mp hs').2.2 a ha b hb
theorem XF:∀xs:List (Int × Int),(∀x∈xs,1<=x.2)->∃zs,bZ xs zs
 | [],_=>⟨[],.nil,.nil⟩
 |x::xs,h=>by
  obtain⟨zs,p,s⟩:=XF xs λy m=>h y (List.mem_cons_of_mem _ m)
  have hz:∀z∈zs,1<=z.2:=λz m=>h z (List.mem_cons_of_mem _ (p.mem_iff.mp m))
  have hx:=h x (List.mem_cons_self ..)
  obtain⟨q1,q2⟩:=jq (R:=λa b=>le2 b a) (p:=λz=>!aN z x) (n:=x) s (λa ma b mb r q=>by
   have q:aN b x=false:=by simpa using q
   rw[fP.mpr (o8 hx (hz b mb) (hz a ma) (fP.mp q) r)]
   rfl) (λa ma q=>fP.mp (by simpa using q)) λb mb q=>by
   have q:aN b x=true:=by simpa using q
   unfold aN at q
   unfold le2
   have:=of_decide_eq_true q
   lia
  exact⟨_,q1.trans (p.cons x),q2⟩
open Classical in
noncomputable def wv(r:Ru)(xs:List (Int × Int)):Int × Int:=if h:∃v,Wv r xs v then h.choose else(0,1)
theorem JT(hx:LT xs)(h:Wv r xs v):wv r xs=v:=by
 have h':∃v,Wv r xs v:=⟨v,h⟩
 unfold wv
 rw[dif_pos h']
 exact Wv.uniq hx h'.choose_spec h
theorem ahK(hx:∀x∈xs,Wo x)(h:Wv r xs v):wv r xs=v:=JT (ahi hx) h
theorem XH:∀(ps:List ((Int × Int) × (Int × Int))) (t:Int × Int),Fx t->(∀p∈ps,Fx p.1/\Fx p.2)->Fx (cY ps t)
 | [],_,h,_=>h
 |p::ps,_,h,hp=>XH ps _ (ahj h (JD (hp p (List.mem_cons_self ..)).1 (hp p (List.mem_cons_self ..)).2)) λq m=>hp q (List.mem_cons_of_mem _ m)
theorem XJ:∀(xs:List (Int × Int)) (t:Int × Int),Fx t->(∀p∈xs,Fx p)->Fx (dB xs t)
 | [],_,h,_=>h
 |x::xs,_,h,hp=>XJ xs _ (JD h (hp x (List.mem_cons_self ..))) λq m=>hp q (List.mem_cons_of_mem _ m)
theorem mZ(hx:∀x∈xs,Fx x)(h1:1<=xs.length)(ho:bD xs.length r):Wv r xs (wv r xs)/\Fx (wv r xs):=by
 suffices h:∃v,Wv r xs v/\Fx v by
  obtain⟨v,h,f⟩:=h
  rw[JT (JF hx) h]
  exact⟨h,f⟩
 have pl:placed r=true->∃v,(∃zs,bZ xs zs/\zs[dD xs.length r-1]?=some v)/\Fx v:=λhp=>by
  obtain⟨zs,d⟩:=XF xs λx m=>(hx x m).2.1
  have pr:=JC hp ho h1
  have:=d.1.length_eq
  have g:zs[dD xs.length r-1]?=some zs[dD xs.length r-1]:=List.getElem?_eq_getElem (by lia)
  exact⟨_,⟨zs,d,g⟩,hx _ (d.1.mem_iff.mp (List.mem_of_getElem? g))⟩
 cases r with
 |sh ws=>exact⟨_,rfl,XH _ _ (by unfold Fx; decide) λp m=>⟨(ho.2 _ (List.of_mem_zip m).1).fx,hx _ (List.of_mem_zip m).2⟩⟩
 |product=>exact⟨_,rfl,XJ _ _ (by unfold Fx; decide) hx⟩
 |least=>exact pl rfl
 |greatest=>exact pl rfl
 |mid k=>exact pl rfl
theorem Cg(hx:∀x∈xs,Wo x)(h1:1<=xs.length)(h2:xs.length<=12)(ho:bD xs.length r):gh [aY r,aG xs]=.ok (fT (wv r xs),false)/\Wv r xs (wv r xs):=by
 obtain⟨v,e,h⟩:=ahh hx h1 h2 ho
 rw[ahK hx h]
 exact⟨e,h⟩
theorem ahL:Wo (0,1):=by decide
theorem ahM:Wo (1,1):=by decide
theorem Ci(hx:∀x∈xs,Fx x)(hy:∀y∈ys,Fx y)(hl:xs.length=ys.length)(h1:1<=xs.length)(ho:bD xs.length r)(h:∀k,k<xs.length->le2 (xs.getD k (0,1)) (ys.getD k (0,1))):le2 (wv r xs) (wv r ys):=by
 have st:∀j,j<=xs.length->∃zs:List (Int × Int),zs.length=xs.length/\(∀z∈zs,Fx z)/\(∀k,k<xs.length->zs[k]?=some (if k<j then ys.getD k (0,1)else xs.getD k (0,1)))/\le2 (wv r xs) (wv r zs):=λj=>by
  induction j with
  |zero=>exact λ_=>⟨xs,rfl,hx,λk hk=>by simp[hk],jG _⟩
  |succ j ih =>
   intro hj
   obtain⟨zs,z1,z2,z3,z4⟩:=ih (by lia)
   have my:Fx (ys.getD j (0,1)):=hy _ (getM (by lia))
   have XM:∀z∈zs.set j (ys.getD j (0,1)),Fx z:=λz mz=>by
    rcases List.mem_or_eq_of_mem_set mz with m|e
    .exact z2 z m
    .rw[e]; exact my
   have l':(zs.set j (ys.getD j (0,1))).length=xs.length:=by rw[List.length_set,z1]
   obtain⟨q1,f1⟩:=mZ (r:=r) z2 (by lia) (by rw[z1]; exact ho)
   obtain⟨q2,f2⟩:=mZ (r:=r) XM (by lia) (by rw[l']; exact ho)
   have mo:=Wv.mono z2 my (λx hx'=>by
    rw[z3 j (by lia),if_neg (by lia)]at hx'
    cases hx'
    exact h j (by lia)) (by rw[z1]; exact ho) q1 q2
   refine⟨_,l',XM,λk hk=>?_,o8 (mZ hx h1 ho).2.2.1 f1.2.1 f2.2.1 z4 mo⟩
   rw[List.getElem?_set]
   by_cases e:j=k
   .subst e
    rw[if_pos rfl,if_pos (by lia),if_pos (by lia)]
   .rw[if_neg e,z3 k hk]
    by_cases e2:k<j
    .rw[if_pos e2,if_pos (by lia)]
    .rw[if_neg e2,if_neg (by lia)]
 obtain⟨zs,z1,z2,z3,z4⟩:=st xs.length (Nat.le_refl _)
 have e:zs=ys:=List.ext_getElem? λk=>by
  by_cases hk:k<xs.length
  .have hk':k<ys.length:=by lia
   rw[z3 k hk,if_pos hk]
   simp[hk']
  .rw[List.getElem?_eq_none (by lia),List.getElem?_eq_none (by lia)]
 rw[e]at z4
 exact z4
theorem XQ(hx:∀x∈xs,Wo x)(hy:∀y∈ys,Wo y)(hl:xs.length=ys.length)(h1:1<=xs.length)(_:xs.length<=4)(ho:bD xs.length r)(h:∀k,k<xs.length->le2 (xs.getD k (0,1)) (ys.getD k (0,1))):le2 (wv r xs) (wv r ys):=Ci (λx m=>(hx x m).fx) (λx m=>(hy x m).fx) hl h1 ho h
theorem ahN(hF:Fall l (aq l))(hd:d<=l.length)(h0:0<d)(ht:t<l.length)(hn:t∉(aq l).take d):le2 (l.getD t (0,1)) (l.getD ((aq l).getD (d-1) 0) (0,1)):=by
 have ln:(aq l).length=l.length:=by simpa using hF.1.length_eq
 have mt:t∈aq l:=hF.1.mem_iff.mpr (List.mem_range.mpr ht)
 rw[<-List.take_append_drop d (aq l)]at mt
 rcases List.mem_append.mp mt with m|m
 .exact absurd m hn
 have pw:=hF.2
 rw[<-List.take_append_drop d (aq l)]at pw
 have g:(aq l)[d-1]?=some ((aq l).getD (d-1) 0):=by
  have:d-1<(aq l).length:=by lia
  simp[this]
 have m1:(aq l).getD (d-1) 0∈(aq l).take d:=by
  refine List.mem_of_getElem? (i:=d-1) ?_
  rw[List.getElem?_take,if_pos (by lia)]
  exact g
 have:=(List.pairwise_append.mp pw).2.2 _ m1 _ m
 unfold dZ at this
 unfold le2
 lia
noncomputable def col(rows:List (List (Int × Int)))(t:Nat):List (Int × Int):=(List.range rows.length).map λk=>aZ rows k t
section
variable {m:Nat}{rows:List (List (Int × Int))}{ds:List Nat}{as:List (Nat × Nat)}{s:Nat->Nat->Bool}{aV:List (Int × Int)}{t:Nat}
theorem Bk.row(hB:Bk m rows)(hk:k<rows.length):(rows.getD k [])∈rows/\(rows.getD k []).length=m/\∀x∈rows.getD k [],Wo x:=by
 have e:rows[k]?=some (rows.getD k []):=by simp[hk]
 have ml:=List.mem_of_getElem? e
 exact⟨ml,hB.2.2.2.2 _ ml⟩
theorem Bk.jt(hB:Bk m rows)(hk:k<rows.length)(ht:t<m):Wo (aZ rows k t):=by
 obtain⟨_,h1,h2⟩:=hB.row hk
 unfold aZ
 generalize rows.getD k []=l at *
 have lt:t<l.length:=by lia
 have e:l[t]?=some (l.getD t (0,1)):=by simp[lt]
 exact h2 _ (List.mem_of_getElem? e)
theorem wW(hB:Bk m rows)(ht:t<m):∀x∈lo rows s t,Wo x:=λx mx=>by
 obtain⟨k,mk,rfl⟩:=List.mem_map.mp mx
 split
 .exact hB.jt (List.mem_range.mp mk) ht
 .exact ahL
theorem wX(hB:Bk m rows)(ht:t<m)(hl:aV.length=rows.length)(hw:∀x∈aV,Wo x):∀x∈hi rows s aV t,Wo x:=λx mx=>by
 obtain⟨k,mk,rfl⟩:=List.mem_map.mp mx
 have hk:=List.mem_range.mp mk
 split
 .exact hB.jt hk ht
 .have lt:k<aV.length:=by lia
  have e:aV[k]?=some (aV.getD k (0,1)):=by simp[lt]
  exact hw _ (List.mem_of_getElem? e)
theorem wY(hB:Bk m rows)(ht:t<m):∀x∈col rows t,Wo x:=λx mx=>by
 obtain⟨k,mk,rfl⟩:=List.mem_map.mp mx
 exact hB.jt (List.mem_range.mp mk) ht
theorem qT(hB:Bk m rows)(hk:k<rows.length)(hd:d<=m):Wo (cH aq (1,1) (rows.getD k []) d):=by
 obtain⟨ml,h1,h2⟩:=hB.row hk
 have hO:=hB.od
 have q1:=hO.ln _ ml
 have q2:=hO.lt _ ml
 unfold cH
 generalize rows.getD k []=l at *
 split
 .have lt:d-1<(aq l).length:=by lia
  have e:(aq l)[d-1]?=some ((aq l).getD (d-1) 0):=by simp[lt]
  have aN:=q2 _ (List.mem_of_getElem? e)
  have j4:(aq l).getD (d-1) 0<l.length:=by lia
  generalize (aq l).getD (d-1) 0=j at *
  have e2:l[j]?=some (l.getD j (0,1)):=by simp[j4]
  exact h2 _ (List.mem_of_getElem? e2)
 .exact ahM
theorem ug(hB:Bk m rows)(hL:Lk rows.length m ds as):∀x∈cJ aq (1,1) rows ds,Wo x:=λx mx=>by
 obtain⟨k,hk,e⟩:=List.getElem_of_mem mx
 have ll:=lE (od:=aq) (one:=(1,1)) hL.1
 have hk':k<rows.length:=by lia
 have e2:=ud (od:=aq) (one:=(1,1)) hL.1 hk'
 have e3:(cJ aq (1,1) rows ds).getD k (0,1)=x:=by simp[hk,e]
 rw[<-e3,e2]
 have ld:k<ds.length:=by have:=hL.1; lia
 have e4:ds[k]?=some (ds.getD k 0):=by simp[ld]
 exact qT hB hk' (hL.2.1 _ (List.mem_of_getElem? e4))
theorem eX:(lo rows s t).length=rows.length:=by unfold lo; simp
theorem fU:(hi rows s aV t).length=rows.length:=by unfold hi; simp
theorem d8:(col rows t).length=rows.length:=by unfold col; simp
theorem XR(hk:k<rows.length):(lo rows s t).getD k (0,1)=if s k t=true then aZ rows k t else(0,1):=by unfold lo; simp[hk]
theorem JV(hk:k<rows.length):(hi rows s aV t).getD k (0,1)=if s k t=true then aZ rows k t else aV.getD k (0,1):=by unfold hi; simp[hk]
theorem wZ(hk:k<rows.length):(col rows t).getD k (0,1)=aZ rows k t:=by unfold col; simp[hk]
variable {r:Ru}
noncomputable def loV(r:Ru)(rows:List (List (Int × Int)))(ds:List Nat)(as:List (Nat × Nat))(t:Nat):Int × Int:=wv r (lo rows (sA aq rows ds as) t)
noncomputable def hiV(r:Ru)(rows:List (List (Int × Int)))(ds:List Nat)(as:List (Nat × Nat))(t:Nat):Int × Int:=wv r (hi rows (sA aq rows ds as) (cJ aq (1,1) rows ds) t)
theorem JW(hB:Bk m rows)(ho:bD rows.length r)(ht:t<m):gh [aY r,aG (col rows t)]=.ok (fT (wv r (col rows t)),false)/\Wv r (col rows t) (wv r (col rows t)):=Cg (wY hB ht) (by rw[d8]; exact hB.1) (by rw[d8]; have:=hB.2.1; lia) (by rw[d8]; exact ho)
theorem uh(hB:Bk m rows)(ho:bD rows.length r)(ht:t<m):gh [aY r,aG (lo rows (sA aq rows ds as) t)]=.ok (fT (loV r rows ds as t),false)/\Fq 400 (loV r rows ds as t):=by
 have q:=Cg (r:=r) (wW (s:=sA aq rows ds as) hB ht) (by rw[eX]; exact hB.1) (by rw[eX]; have:=hB.2.1; lia) (by rw[eX]; exact ho)
 exact⟨q.1,Wv.fq (wW hB ht) (by rw[eX]; exact hB.2.1) (by rw[eX]; exact ho) q.2⟩
theorem w6(hB:Bk m rows)(hL:Lk rows.length m ds as)(ho:bD rows.length r)(ht:t<m):gh [aY r,aG (hi rows (sA aq rows ds as) (cJ aq (1,1) rows ds) t)]=.ok (fT (hiV r rows ds as t),false)/\Fq 400 (hiV r rows ds as t):=by
 have w:=wX (s:=sA aq rows ds as) hB ht (lE hL.1) (ug hB hL)
 have q:=Cg (r:=r) w (by rw[fU]; exact hB.1) (by rw[fU]; have:=hB.2.1; lia) (by rw[fU]; exact ho)
 exact⟨q.1,Wv.fq w (by rw[fU]; exact hB.2.1) (by rw[fU]; exact ho) q.2⟩
theorem ahO(hB:Bk m rows)(hL:Lk rows.length m ds as)(ho:bD rows.length r):JH [aO rows,aY r,dM ds as]=.ok (.lst (dF (loV r rows ds as) (hiV r rows ds as) m),true) :=
 ahJ hB hL ho (λt ht=>(uh hB ho ht).1) (λt ht=>(w6 hB hL ho ht).1)
theorem XS(hB:Bk m rows)(hL:Lk rows.length m ds as)(ho:bD rows.length r)(ht:t<m):le2 (loV r rows ds as t) (wv r (col rows t))/\le2 (wv r (col rows t)) (hiV r rows ds as t):=by
 have h1:=hB.1
 have h4:=hB.2.1
 have h12:=hB.2.2.2.1
 constructor
 .refine XQ (wW hB ht) (wY hB ht) (by rw[eX,d8]) (by rw[eX]; exact h1) (by rw[eX]; exact h4) (by rw[eX]; exact ho) λk hk=>?_
  rw[eX]at hk
  rw[XR hk,wZ hk]
  split
  .exact jG _
  .have:=(hB.jt hk ht).1
   unfold le2
   show 0*_<=_*1
   lia
 .refine XQ (wY hB ht) (wX hB ht (lE hL.1) (ug hB hL)) (by rw[fU,d8]) (by rw[d8]; exact h1) (by rw[d8]; exact h4) (by rw[d8]; exact ho) λk hk=>?_
  rw[d8]at hk
  rw[JV hk,wZ hk]
  split
  .exact jG _
  .rename_i hs
   rw[ud hL.1 hk]
   have ld:k<ds.length:=by have:=hL.1; lia
   have e4:ds[k]?=some (ds.getD k 0):=by simp[ld]
   have hd:=hL.2.1 _ (List.mem_of_getElem? e4)
   obtain⟨ml,q1,q2⟩:=hB.row hk
   unfold sA sn at hs
   rw[Bool.or_eq_true,decide_eq_true_eq,not_or]at hs
   have hw:=hB.jt hk ht
   unfold aZ at *
   unfold cH
   generalize ds.getD k 0=d,rows.getD k []=l at *
   split
   .rename_i h0
    exact ahN (qR (N:=40) (Wo.frs q2) (by lia) (by lia) (by lia)).1 (by lia) h0 (by lia) hs.1
   .obtain⟨w1,w2,w3,_⟩:=hw
    unfold le2
    show _*1<=1*_
    lia
end
noncomputable def Sc(c:Int)(x x':Int × Int):Prop:=x'.1*x.2=c*x.1*x'.2
theorem Sc.le(hc:1<=c)(h1:1<=x.2)(h2:1<=x'.2)(h3:1<=y.2)(h4:1<=y'.2)(a:Sc c x x')(b:Sc c y y'):le2 x' y'↔le2 x y:=by
 unfold Sc at a b
 unfold le2
 have p1:0<x.2*y.2:=Int.mul_pos (by lia) (by lia)
 have p2:0<c*(x'.2*y'.2):=Int.mul_pos (by lia) (Int.mul_pos (by lia) (by lia))
 have e1:x'.1*y'.2*(x.2*y.2)=x.1*y.2*(c*(x'.2*y'.2)):=by grind
 have e2:y'.1*x'.2*(x.2*y.2)=y.1*x.2*(c*(x'.2*y'.2)):=by grind
 constructor
 .intro h
  have:=Int.mul_le_mul_of_nonneg_right h (Int.le_of_lt p1)
  rw[e1,e2]at this
  exact Int.le_of_mul_le_mul_right this p2
 .intro h
  have:=Int.mul_le_mul_of_nonneg_right h (Int.le_of_lt p2)
  rw[<-e1,<-e2]at this
  exact Int.le_of_mul_le_mul_right this p1
theorem Sc.X3(h1:1<=x.2)(h2:1<=x'.2)(h3:1<=y.2)(h4:1<=y'.2)(a:Sc c x x')(b:Sc d y y'):Sc (c*d) (aP x y) (aP x' y'):=by
 have p1:0<x.2*y.2:=Int.mul_pos (by lia) (by lia)
 have p2:0<x'.2*y'.2:=Int.mul_pos (by lia) (by lia)
 have v1:=(eV (a:=x.1*y.1) (b:=x.2*y.2) (by lia)).1
 have v2:=(eV (a:=x'.1*y'.1) (b:=x'.2*y'.2) (by lia)).1
 unfold Sc at *
 unfold aP
 generalize (red (x'.1*y'.1) (x'.2*y'.2)).2=q',(red (x'.1*y'.1) (x'.2*y'.2)).1=p',(red (x.1*y.1) (x.2*y.2)).2=q,(red (x.1*y.1) (x.2*y.2)).1=p at *
 refine Int.eq_of_mul_eq_mul_right (a:=x.2*y.2*(x'.2*y'.2)) (Int.ne_of_gt (Int.mul_pos p1 p2)) ?_
 grind
theorem Sc.sum(h1:1<=x.2)(h2:1<=x'.2)(h3:1<=y.2)(h4:1<=y'.2)(a:Sc c x x')(b:Sc c y y'):Sc c (sumF x y) (sumF x' y'):=by
 have p1:0<x.2*y.2:=Int.mul_pos (by lia) (by lia)
 have p2:0<x'.2*y'.2:=Int.mul_pos (by lia) (by lia)
 have v1:=(eV (a:=x.1*y.2+y.1*x.2) (b:=x.2*y.2) (by lia)).1
 have v2:=(eV (a:=x'.1*y'.2+y'.1*x'.2) (b:=x'.2*y'.2) (by lia)).1
 unfold Sc at *
 unfold sumF
 generalize (red (x'.1*y'.2+y'.1*x'.2) (x'.2*y'.2)).2=q',(red (x'.1*y'.2+y'.1*x'.2) (x'.2*y'.2)).1=p',(red (x.1*y.2+y.1*x.2) (x.2*y.2)).2=q,(red (x.1*y.2+y.1*x.2) (x.2*y.2)).1=p at *
 refine Int.eq_of_mul_eq_mul_right (a:=x.2*y.2*(x'.2*y'.2)) (Int.ne_of_gt (Int.mul_pos p1 p2)) ?_
 grind
noncomputable def sc(B:Int)(x:Int × Int):Int × Int:=aP x (B,1)
theorem X4(B:Int):sc B (0,1)=(0,1):=by
 unfold sc aP red
 simp
theorem ahP:sc B (1,1)=(B,1):=by
 unfold sc aP red
 simp
theorem iu(h:1<=x.2):Sc B x (sc B x):=by
 have v:=(eV (a:=x.1*B) (b:=x.2*1) (by lia)).1
 unfold Sc sc aP
 dsimp only
 generalize (red (x.1*B) (x.2*1)).2=q,(red (x.1*B) (x.2*1)).1=p at *
 grind
theorem X5(h:1<=x.2)(hd:x.2∣B):∃k,B=x.2*k/\sc B x=(x.1*k,1):=by
 obtain⟨k,rfl⟩:=hd
 refine⟨k,rfl,?_⟩
 have g:Int.gcd (x.1*(x.2*k)) (x.2*1)=x.2.natAbs:=by
  rw[Int.mul_one,show x.1*(x.2*k)=x.2*(x.1*k) by ac_rfl]
  exact Int.gcd_mul_right_left ..
 have e:((Int.gcd (x.1*(x.2*k)) (x.2*1):Nat):Int)=x.2:=by rw[g]; lia
 show red (x.1*(x.2*k)) (x.2*1)=_
 unfold red
 rw[e,show x.1*(x.2*k)=x.2*(x.1*k) by ac_rfl,Int.mul_ediv_cancel_left _ (by lia),Int.mul_one,Int.ediv_self (by lia)]
theorem Cj(h:Wo x)(hd:x.2∣B)(h1:1<=B)(hB:B<=1000000000000):Fq 45 (sc B x)/\(sc B x).2=1:=by
 obtain⟨k,e,v⟩:=X5 h.2.2.1 hd
 obtain⟨w1,w2,w3,_⟩:=h
 have k0:0<=k:=by
  rcases Int.lt_or_le k 0 with z|z
  .have:=Int.mul_neg_of_pos_of_neg (a:=x.2) (b:=k) (by lia) z
   lia
  .exact z
 have l1:=Int.mul_nonneg w1 k0
 have l2:=Int.mul_le_mul_of_nonneg_right w2 k0
 rw[v]
 refine⟨⟨l1,?_,by show(1:Int)<=1; lia,by show(1:Int)<2 ^ 45; decide,by show Int.gcd _ 1=1; simp⟩,rfl⟩
 show x.1*k<2 ^ 45
 have:(2:Int) ^ 45=35184372088832:=by decide
 lia
theorem Ck(h1:1<=x.2)(h2:1<=y.2):1<=(aP x y).2:=(eV (by have:=Int.mul_pos (a:=x.2) (b:=y.2) (by lia) (by lia); lia)).2.1
theorem X6(h1:1<=x.2)(h2:1<=y.2):1<=(sumF x y).2:=(eV (by have:=Int.mul_pos (a:=x.2) (b:=y.2) (by lia) (by lia); lia)).2.1
noncomputable def eE(k:Int):Ru->Ru
 |.sh ws=>.sh (ws.map (sc k))
 |r=>r
noncomputable def fV(k B:Int)(n:Nat):Ru->Int
 |.sh _=>k*B
 |.product=>B ^ n
 |_=>B
theorem JX:∀(ws xs:List (Int × Int)) (t t':Int × Int),(∀w∈ws,1<=w.2/\1<=(sc k w).2)->(∀x∈xs,1<=x.2/\1<=(sc B x).2)->1<=t.2->1<=t'.2->Sc (k*B) t t'->Sc (k*B) (cY (ws.zip xs) t) (cY ((ws.map (sc k)).zip (xs.map (sc B))) t')
 | [],_,t,t',_,_,_,_,h=>h
 |_::_,[],t,t',_,_,_,_,h=>h
 |w::ws,x::xs,t,t',hw,hx,h1,h2,h=>by
  obtain⟨w1,w2⟩:=hw w (by simp)
  obtain⟨x1,x2⟩:=hx x (by simp)
  have b1:=Ck w1 x1
  have b2:=Ck w2 x2
  exact JX ws xs _ _ (λw m=>hw w (by simp[m])) (λx m=>hx x (by simp[m])) (X6 h1 b1) (X6 h2 b2) (Sc.sum h1 h2 b1 b2 h (Sc.X3 w1 w2 x1 x2 (iu w1) (iu x1)))
theorem JZ:∀(xs:List (Int × Int)) (c:Int) (t t':Int × Int),(∀x∈xs,1<=x.2/\1<=(sc B x).2)->1<=t.2->1<=t'.2->Sc c t t'->Sc (c*B ^ xs.length) (dB xs t) (dB (xs.map (sc B)) t')
 | [],c,t,t',_,_,_,h=>by
  rw[List.length_nil,Int.pow_zero,Int.mul_one]
  exact h
 |x::xs,c,t,t',hx,h1,h2,h=>by
  obtain⟨x1,x2⟩:=hx x (by simp)
  have:=JZ xs (c*B) (aP t x) (aP t' (sc B x)) (λx m=>hx x (by simp[m])) (Ck h1 x1) (Ck h2 x2) (Sc.X3 h1 h2 x1 x2 h (iu x1))
  rw[List.length_cons,Int.pow_succ,show c*(B ^ xs.length*B)=c*B*B ^ xs.length by ac_rfl]
  exact this
theorem LT.of(h:∀x∈xs,Fq 45 x):LT xs:=λx m=>⟨(h x m).2.2.1,(h x m).2.2.2.2⟩
theorem X7(hx:∀x∈xs,Wo x/\x.2∣B)(b1:1<=B)(b2:B<=1000000000000)(h1:1<=xs.length)(h4:xs.length<=4)(ho:bD xs.length r)(ho':bD xs.length (eE k r)):∃v',gh [aY (eE k r),aG (xs.map (sc B))]=.ok (fT v',false)/\Sc (fV k B xs.length r) (wv r xs) v'/\Fq 400 v':=by
 have hf:∀x∈xs,Fq 45 (sc B x)/\(sc B x).2=1:=λx m=>Cj (hx x m).1 (hx x m).2 b1 b2
 have hq:∀x∈xs.map (sc B),Fq 45 x:=λy m=>by
  obtain⟨x,mx,rfl⟩:=List.mem_map.mp m
  exact(hf x mx).1
 have ll:(xs.map (sc B)).length=xs.length:=List.length_map ..
 have ho2:bD (xs.map (sc B)).length (eE k r):=by rw[ll]; exact ho'
 obtain⟨v',e,h'⟩:=W4 hq (by lia) (by lia) ho2
 have hw:=(Cg (r:=r) (λx m=>(hx x m).1) h1 (by lia) ho).2
 refine⟨v',e,?_,Wv.W5 hq (by lia) ho2 h'⟩
 have px:∀x∈xs,1<=x.2/\1<=(sc B x).2:=λx m=>⟨(hx x m).1.2.2.1,(hf x m).1.2.2.1⟩
 have pl:placed r=true->eE k r=r->fV k B xs.length r=B->(∃zs,bZ xs zs/\zs[dD xs.length r-1]?=some (wv r xs))->(∃zs,bZ (xs.map (sc B)) zs/\zs[dD (xs.map (sc B)).length r-1]?=some v')->Sc (fV k B xs.length r) (wv r xs) v':=λ_ _ es ⟨zs,d,e1⟩ ⟨zs',d',e2⟩=>by
  have dm:bZ (xs.map (sc B)) (zs.map (sc B)):=⟨d.1.map _,by
   rw[List.pairwise_map]
   refine d.2.imp_of_mem λ{a b} ma mb hab=>?_
   have ma:=px a (d.1.mem_iff.mp ma)
   have mb:=px b (d.1.mem_iff.mp mb)
   exact(Sc.le b1 mb.1 mb.2 ma.1 ma.2 (iu mb.1) (iu ma.1)).mpr hab⟩
  rw[bZ.uniq (LT.of hq) d' dm,ll,List.getElem?_map,e1]at e2
  cases e2
  rw[es]
  exact iu (px _ (d.1.mem_iff.mp (List.mem_of_getElem? e1))).1
 cases r with
 |sh ws =>
  have hw:wv (.sh ws) xs=cY (ws.zip xs) (0,1):=hw
  have h':v'=cY ((ws.map (sc k)).zip (xs.map (sc B))) (0,1):=h'
  rw[hw,h']
  exact JX ws xs _ _ (λw m=>⟨(ho.2 w m).2.2.1,(ho'.2 _ (List.mem_map.mpr ⟨w,m,rfl⟩)).2.2.1⟩) px (by decide) (by decide) (by unfold Sc; simp)
 |product =>
  have hw:wv .product xs=dB xs (1,1):=hw
  have h':v'=dB (xs.map (sc B)) (1,1):=h'
  rw[hw,h']
  have:=JZ xs 1 (1,1) (1,1) px (by decide) (by decide) (by unfold Sc; simp)
  rw[Int.one_mul]at this
  exact this
 |least=>exact pl rfl rfl rfl hw h'
 |greatest=>exact pl rfl rfl rfl hw h'
 |mid j=>exact pl rfl rfl rfl hw h'
noncomputable def cL(B:Int)(rows:List (List (Int × Int))):List (List (Int × Int)):=rows.map λl=>l.map (sc B)
section
variable {m:Nat}{rows:List (List (Int × Int))}{ds:List Nat}{as:List (Nat × Nat)}{B:Int}
theorem qU(l:List (Int × Int))(t:Nat):(l.map (sc B)).getD t (0,1)=sc B (l.getD t (0,1)):=by
 by_cases h:t<l.length
 .simp[h]
 .simp[h,X4]
theorem X8(k:Nat):(cL B rows).getD k []=(rows.getD k []).map (sc B):=by
 unfold cL
 by_cases h:k<rows.length <;> simp[h]
theorem Yb(k t:Nat):aZ (cL B rows) k t=sc B (aZ rows k t):=by
 unfold aZ
 rw[X8,qU]
theorem Yc(hw:∀x∈l,Wo x/\x.2∣B)(hl:l.length<=12)(b1:1<=B)(b2:B<=1000000000000):aq (l.map (sc B))=aq l:=by
 have hF:=(qR (N:=40) (l:=l) (Wo.frs λx m=>(hw x m).1) (by lia) (by lia) (by lia)).1
 refine Ce ⟨by rw[List.length_map]; exact hF.1,hF.2.imp_of_mem λ{i j} mi mj h=>?_⟩
 have li:=List.mem_range.mp (hF.1.mem_iff.mp mi)
 have lj:=List.mem_range.mp (hF.1.mem_iff.mp mj)
 have wi:=hw (l.getD i (0,1)) (List.mem_of_getElem? (i:=i) (by simp[li]))
 have wj:=hw (l.getD j (0,1)) (List.mem_of_getElem? (i:=j) (by simp[lj]))
 have fi:=(Cj wi.1 wi.2 b1 b2).1
 have fj:=(Cj wj.1 wj.2 b1 b2).1
 have l1:=Sc.le b1 wi.1.2.2.1 fi.2.2.1 wj.1.2.2.1 fj.2.2.1 (iu wi.1.2.2.1) (iu wj.1.2.2.1)
 have l2:=Sc.le b1 wj.1.2.2.1 fj.2.2.1 wi.1.2.2.1 fi.2.2.1 (iu wj.1.2.2.1) (iu wi.1.2.2.1)
 unfold dZ at *
 rw[qU,qU]
 unfold le2 at l1 l2
 lia
end
noncomputable def Bd(B:Int)(rows:List (List (Int × Int))):Prop:=1<=B/\B<=1000000000000/\∀l∈rows,∀x∈l,x.2∣B
section
variable {m:Nat}{rows:List (List (Int × Int))}{ds:List Nat}{as:List (Nat × Nat)}{B k:Int}{s:Nat->Nat->Bool}{aV:List (Int × Int)}{t:Nat}{r:Ru}
theorem xg:(cL B rows).length=rows.length:=List.length_map ..
theorem ahQ(hB:Bk m rows)(hD:Bd B rows)(j:Nat):aq ((rows.getD j []).map (sc B))=aq (rows.getD j []):=by
 by_cases h:j<rows.length
 .obtain⟨ml,q1,q2⟩:=hB.row h
  exact Yc (λx mx=>⟨q2 x mx,hD.2.2 _ ml x mx⟩) (by have:=hB.2.2.2.1; lia) hD.1 hD.2.1
 .rw[show rows.getD j []=[] by simp[h]]
  rfl
theorem Yd(hB:Bk m rows)(hD:Bd B rows):sA aq (cL B rows) ds as=sA aq rows ds as:=by
 funext j t
 unfold sA sn
 rw[X8,ahQ hB hD]
theorem ahR:lo (cL B rows) s t=(lo rows s t).map (sc B):=by
 unfold lo
 rw[xg,List.map_map]
 refine List.map_congr_left λj _=>?_
 dsimp only[Function.comp]
 rw[Yb]
 split
 .rfl
 .exact(X4 B).symm
theorem ahS:hi (cL B rows) s (aV.map (sc B)) t=(hi rows s aV t).map (sc B):=by
 unfold hi
 rw[xg,List.map_map]
 refine List.map_congr_left λj _=>?_
 dsimp only[Function.comp]
 rw[Yb,qU]
 split <;> rfl
theorem ahT{rows:List (List (Int × Int))}{ds:List Nat}(h:∀l∈rows,aq (l.map (sc B))=aq l):cJ aq (B,1) (cL B rows) ds=(cJ aq (1,1) rows ds).map (sc B):=by
 unfold cJ
 rw[List.map_map,show(cL B rows).length=rows.length by unfold cL; simp]
 refine List.map_congr_left λk hk=>?_
 have hk:=List.mem_range.mp hk
 show cH aq (B,1) ((cL B rows).getD k []) _=sc B (cH aq (1,1) (rows.getD k []) _)
 rw[show(cL B rows).getD k []=(rows.getD k []).map (sc B) by unfold cL; simp[hk]]
 unfold cH
 rw[h _ (getM hk),qU]
 split
 .rfl
 .exact ahP.symm
theorem ahU(hB:Bk m rows)(hD:Bd B rows):∀l∈rows,aq (l.map (sc B))=aq l:=λl ml=>by
 have:=hB.2.2.2.2 l ml
 exact Yc (λx mx=>⟨this.2 x mx,hD.2.2 l ml x mx⟩) (by have:=hB.2.2.2.1; lia) hD.1 hD.2.1
theorem ahV(hD:Bd B rows)(hB:Bk m rows)(ht:t<m):∀x∈lo rows s t,Wo x/\x.2∣B:=λx mx=>by
 refine⟨wW hB ht x mx,?_⟩
 obtain⟨j,mj,rfl⟩:=List.mem_map.mp mx
 have hj:=List.mem_range.mp mj
 split
 .obtain⟨ml,q1,q2⟩:=hB.row hj
  refine hD.2.2 _ ml _ ?_
  unfold aZ
  generalize rows.getD j []=l at *
  have lt:t<l.length:=by lia
  exact List.mem_of_getElem? (i:=t) (by simp[lt])
 .exact Int.one_dvd _
theorem ahW(hD:Bd B rows)(hB:Bk m rows)(hL:Lk rows.length m ds as):∀x∈cJ aq (1,1) rows ds,x.2∣B:=λx mx=>by
 obtain⟨j,hj,e⟩:=List.getElem_of_mem mx
 have ll:=lE (od:=aq) (one:=(1,1)) hL.1
 have hj':j<rows.length:=by lia
 have e2:=ud (od:=aq) (one:=(1,1)) hL.1 hj'
 have e3:(cJ aq (1,1) rows ds).getD j (0,1)=x:=by simp[hj,e]
 rw[<-e3,e2]
 have ld:j<ds.length:=by have:=hL.1; lia
 have e4:ds[j]?=some (ds.getD j 0):=by simp[ld]
 have hd:=hL.2.1 _ (List.mem_of_getElem? e4)
 obtain⟨ml,q1,q2⟩:=hB.row hj'
 have hO:=hB.od
 have w1:=hO.ln _ ml
 have w2:=hO.lt _ ml
 have w3:=hD.2.2 _ ml
 unfold cH
 generalize ds.getD j 0=d,rows.getD j []=l at *
 split
 .have lt:d-1<(aq l).length:=by lia
  have e:(aq l)[d-1]?=some ((aq l).getD (d-1) 0):=by simp[lt]
  have aN:=w2 _ (List.mem_of_getElem? e)
  have j4:(aq l).getD (d-1) 0<l.length:=by lia
  generalize (aq l).getD (d-1) 0=i at *
  exact w3 _ (List.mem_of_getElem? (i:=i) (by simp[j4]))
 .exact Int.one_dvd _
theorem ahX(hD:Bd B rows)(hB:Bk m rows)(hL:Lk rows.length m ds as)(ht:t<m):∀x∈hi rows s (cJ aq (1,1) rows ds) t,Wo x/\x.2∣B:=λx mx=>by
 refine⟨wX hB ht (lE hL.1) (ug hB hL) x mx,?_⟩
 obtain⟨j,mj,rfl⟩:=List.mem_map.mp mx
 have hj:=List.mem_range.mp mj
 split
 .obtain⟨ml,q1,q2⟩:=hB.row hj
  refine hD.2.2 _ ml _ ?_
  unfold aZ
  generalize rows.getD j []=l at *
  have lt:t<l.length:=by lia
  exact List.mem_of_getElem? (i:=t) (by simp[lt])
 .have ll:=lE (od:=aq) (one:=(1,1)) hL.1
  have lt:j<(cJ aq (1,1) rows ds).length:=by lia
  exact ahW hD hB hL _ (List.mem_of_getElem? (i:=j) (by simp[lt]))
theorem ahY(hB:Bk m rows)(hD:Bd B rows)(hL:Lk rows.length m ds as)(ho:bD rows.length r)(ho':bD rows.length (eE k r)):∃a b:Nat->Int × Int,BZ [aO (cL B rows),aY (eE k r),dM ds as,fT (B,1)]=.ok (.lst (dF a b m),true)/\∀t,t<m->Sc (fV k B rows.length r) (loV r rows ds as t) (a t)/\Sc (fV k B rows.length r) (hiV r rows ds as t) (b t)/\Fq 400 (a t)/\Fq 400 (b t):=by
 have h1:=hB.1
 have h4:=hB.2.1
 have A:∀t,∃v,t<m->gh [aY (eE k r),aG (lo (cL B rows) (sA aq (cL B rows) ds as) t)]=.ok (fT v,false)/\Sc (fV k B rows.length r) (loV r rows ds as t) v/\Fq 400 v:=λt=>by
  by_cases ht:t<m
  .obtain⟨v,q⟩:=X7 (k:=k) (B:=B) (r:=r) (ahV (s:=sA aq rows ds as) hD hB ht) hD.1 hD.2.1 (by rw[eX]; exact h1) (by rw[eX]; exact h4) (by rw[eX]; exact ho) (by rw[eX]; exact ho')
   rw[eX]at q
   refine⟨v,λ_=>?_⟩
   rw[Yd hB hD,ahR]
   exact q
  .exact⟨(0,1),λz=>absurd z ht⟩
 have C:∀t,∃v,t<m->gh [aY (eE k r),aG (hi (cL B rows) (sA aq (cL B rows) ds as) (cJ aq (B,1) (cL B rows) ds) t)]=.ok (fT v,false)/\Sc (fV k B rows.length r) (hiV r rows ds as t) v/\Fq 400 v:=λt=>by
  by_cases ht:t<m
  .obtain⟨v,q⟩:=X7 (k:=k) (B:=B) (r:=r) (ahX (s:=sA aq rows ds as) hD hB hL ht) hD.1 hD.2.1 (by rw[fU]; exact h1) (by rw[fU]; exact h4) (by rw[fU]; exact ho) (by rw[fU]; exact ho')
   rw[fU]at q
   refine⟨v,λ_=>?_⟩
   rw[Yd hB hD,ahT (ahU hB hD),ahS]
   exact q
  .exact⟨(0,1),λz=>absurd z ht⟩
 have hO:Od aq m (cL B rows):=Od.of (N:=45) (by rw[xg]; exact h1) (by rw[xg]; exact h4) hB.2.2.1 hB.2.2.2.1 (λl ml=>by
   obtain⟨l',Cm,rfl⟩:=List.mem_map.mp ml
   rw[List.length_map]
   exact(hB.2.2.2.2 l' Cm).1) (λl ml=>by
   obtain⟨l',Cm,rfl⟩:=List.mem_map.mp ml
   refine Fq.frs λy my=>?_
   obtain⟨x,mx,rfl⟩:=List.mem_map.mp my
   exact(Cj ((hB.2.2.2.2 l' Cm).2 x mx) (hD.2.2 l' Cm x mx) hD.1 hD.2.1).1) (by lia)
 refine⟨λt=>(A t).choose,λt=>(C t).choose,XD hO (by rw[xg]; exact hL) (λt ht=>((A t).choose_spec ht).1) (λt ht=>((C t).choose_spec ht).1),λt ht=>?_⟩
 have q1:=(A t).choose_spec ht
 have q2:=(C t).choose_spec ht
 exact⟨q1.2.1,q2.2.1,q1.2.2,q2.2.2⟩
end
end BH
end
section
set_option maxHeartbeats 400000
namespace BH
open PySem L2
noncomputable def Cp:Ru->Prop
 |.sh ws=>∀w∈ws,w.2∣12/\w.1<=100
 |_=>True
theorem Ye(s0:Sl):∀(ts:List Tr) (s1:Sl),∃t1,gC (gN 1) jw (bL 1) ts [s0,s1]=.ok (ts,[s0,t1])
 | [],s1=>⟨s1,rfl⟩
 |u::ts,s1=>by
  obtain⟨t1,e⟩:=Ye s0 ts (.sh u)
  exact⟨t1,bk rfl (bk rfl (bk e rfl))⟩
theorem Yg:∀(rows:List (List (Int × Int))) (s0 s1:Sl),(∀l∈rows,l.length<=1000)->∃t0 t1,wI (gN 0) (sU (bL 0)) (gN 1) (bL 1) (rows.map aG) [s0,s1]=.ok (rows.flatten.map fT,[t0,t1])
 | [],s0,s1,_=>⟨s0,s1,rfl⟩
 |l::rows,s0,s1,h=>by
  obtain⟨u1,e1⟩:=Ye (.sh (aG l)) (l.map fT) s1
  obtain⟨t0,t1,e2⟩:=Yg rows (.sh (aG l)) u1 λl ml=>h l (by simp[ml])
  refine⟨t0,t1,bk rfl (bk rfl ((if_pos (by show(l.map fT).length<=1000; rw[List.length_map]; exact h l (by simp))).trans (bk e1 (bk e2 ?_))))⟩
  rw[List.flatten_cons,List.map_append]
theorem Yh(b1:1<=B)(b2:B<=1000000000000):Fq 45 (B,1):=by
 have e:(2:Int) ^ 45=35184372088832:=by decide
 refine⟨?_,?_,Int.le_refl 1,by show(1:Int)<2 ^ 45; decide,by show Int.gcd B 1=1; simp⟩
 .show 0<=B
  lia
 .show B<2 ^ 45
  lia
theorem Yi{rows:List (List (Int × Int))}{fi:IF}{us:List Tr}{ρ : En}(h:fi ρ=.ok (us,ρ))(hu:us=rows.map aG)(hl:rows.length<=100)(hr:∀l∈rows,l.length<=1000):Ip [none,none] fi (gN 0) (sU (bL 0)) (gN 1) (bL 1) ρ=.ok (.v (.lst (rows.flatten.map fT)) true,ρ):=by
 subst hu
 obtain⟨t0,t1,eg⟩:=Yg rows .un .un hr
 refine bk h ((if_pos (by rw[List.length_map]; exact hl)).trans ?_)
 show(gA (wI _ _ _ _ (rows.map aG) [.un,.un])).bind _=_
 rw[eg]
 rfl
section
variable {m:Nat}{rows:List (List (Int × Int))}{r:Ru}
theorem ahZ(hB:Bk m rows)(hD:∃D,Bd D rows)(ho:bD rows.length r)(hS:Cp r):∃B k:Int,Bd B rows/\bD rows.length (eE k r)/\1<=k/\Ca [aO rows,aY r]=.ok (.tup [aO (cL B rows),aY (eE k r),fT (B,1)],false):=by
 obtain⟨c1,c2,c3,c4,c5⟩:=id hB
 obtain⟨D,d1,d2,d3⟩:=hD
 have wo:∀x∈rows.flatten,Wo x:=λx mx=>by
  obtain⟨l,ml,mx⟩:=List.mem_flatten.mp mx
  exact(c5 l ml).2 x mx
 have lf:rows.flatten.length<=48:=by
  have:∀rs:List (List (Int × Int)),(∀l∈rs,l.length=m)->rs.flatten.length=rs.length*m:=λrs=>by
   induction rs with
   |nil=>intro _; simp
   |cons l rs ih =>
    intro h
    rw[List.flatten_cons,List.length_append,ih λl ml=>h l (by simp[ml]),h l (by simp),List.length_cons,Nat.succ_mul]
    lia
  rw[this rows λl ml=>(c5 l ml).1]
  exact Nat.mul_le_mul (show rows.length<=4 by lia) c4
 obtain⟨_,eB,B,⟨b1,_,b3,b4⟩,rfl⟩:=Js (N:=40) rows.flatten (Wo.frs wo) (by lia) (by lia)
 have b2:B<=1000000000000:=Int.le_trans (Int.le_of_dvd (by lia) (b4 D λx mx=>by
  obtain⟨l,ml,mx⟩:=List.mem_flatten.mp mx
  exact d3 l ml x mx)) d2
 have ft:∀x,Fq 45 x->tR [fT x,.tup [.int B,.int 1]]=.ok (fT (sc B x),false):=λx h=>tY (y:=(B,1)) h (Yh b1 b2) (by lia)
 have eW:aO (cL B rows)=.lst (rows.map λl=>.lst (l.map λx=>fT (sc B x))):=by
  unfold aO cL
  rw[List.map_map]
  refine congrArg Tr.lst (List.map_congr_left λl _=>?_)
  show aG (l.map (sc B))=_
  rw[uf]
 have c6:∀l∈rows,l.length<=1000:=λl ml=>by rw[(c5 l ml).1]; lia
 suffices h:∃k,bD rows.length (eE k r)/\1<=k/\Ca [aO rows,aY r]=.ok (.tup [.lst (rows.map λl=>.lst (l.map λx=>fT (sc B x))),aY (eE k r),.tup [.int B,.int 1]],false) by
  obtain⟨k,h1,h2,h3⟩:=h
  exact⟨B,k,⟨b1,b2,λl ml x mx=>b3 x (List.mem_flatten.mpr ⟨l,ml,mx⟩)⟩,h1,h2,by rw[eW]; exact h3⟩
 have fq:∀l∈rows,∀x∈l,Fq 45 x:=λl ml x mx=>((c5 l ml).2 x mx).fq
 cases r
 case sh ws =>
  obtain⟨hl,hq⟩:=ho
  obtain⟨_,ek,k,⟨k1,_,k3,k4⟩,rfl⟩:=Js (N:=45) ws (Fq.frs hq) (by lia) (by lia)
  have k12:k<=12:=Int.le_of_dvd (by lia) (k4 12 λx mx=>(hS x mx).1)
  have fk:∀x,Fq 45 x->tR [fT x,.tup [.int k,.int 1]]=.ok (fT (sc k x),false):=λx h=>tY (y:=(k,1)) h (Yh k1 (by lia)) (by lia)
  refine⟨k,⟨by rw[List.length_map]; exact hl,λy my=>?_⟩,k1,?_⟩
  .obtain⟨x,mx,rfl⟩:=List.mem_map.mp my
   obtain⟨j,ej,v⟩:=X5 (hq x mx).2.2.1 (k3 x mx)
   have x1:=(hq x mx).1
   have x3:=(hq x mx).2.2.1
   have x2:=(hS x mx).2
   have j0:0<=j:=by
    rcases Int.lt_or_le j 0 with z|z
    .have:=Int.mul_neg_of_pos_of_neg (a:=x.2) (b:=j) (by lia) z
     lia
    .exact z
   have j1:j<=12:=by
    have:=Int.mul_le_mul_of_nonneg_right (a:=1) (b:=x.2) (c:=j) (by lia) j0
    lia
   have l1:=Int.mul_nonneg x1 j0
   have l2:=Int.mul_le_mul (a:=x.1) (b:=j) (c:=100) (d:=12) x2 j1 j0 (by lia)
   have e45:(2:Int) ^ 45=35184372088832:=by decide
   rw[v]
   refine⟨l1,?_,Int.le_refl 1,by show(1:Int)<2 ^ 45; decide,by show Int.gcd _ 1=1; simp⟩
   show x.1*j<2 ^ 45
   lia
  .dsimp only[aY,eE]
   rw[uf]
   unfold aG
   walk_at "d"
   exact Yi rfl rfl (by lia) c6
   walk_at "r"
   exact ft _ (fq _ (by assumption) _ (by assumption))
   walk_at "r"
   have:=c6 _ (by assumption)
   lia
   walk_at "r"
   exact fk _ (hq _ (by assumption))
   walk_at "r"
 all_goals
  refine⟨1,ho,Int.le_refl 1,?_⟩
  dsimp only[aY,eE]
  walk_at "d"
  exact Yi rfl rfl (by lia) c6
  walk_at "r"
  exact ft _ (fq _ (by assumption) _ (by assumption))
  walk_at "r"
  have:=c6 _ (by assumption)
  lia
  walk_at "r"
end
noncomputable def o9(a b:Nat->Int × Int)(i j:Nat):Prop:=(a j).1*(a i).2<(a i).1*(a j).2\/((a j).1*(a i).2=(a i).1*(a j).2/\((b j).1*(b i).2<(b i).1*(b j).2\/((b j).1*(b i).2=(b i).1*(b j).2/\i<j)))
noncomputable def um(a b:Nat->Int × Int)(m:Nat)(ys:List Nat):Prop:=ys.Perm (List.range m)/\ys.Pairwise (o9 a b)
section
variable {m:Nat}{a b:Nat->Int × Int}
theorem ah0(hf:∀t,t<m->Fq 400 (a t)/\Fq 400 (b t))(hm:m<=12):∃ys,um a b m ys/\wV [.lst (dF a b m)]=.ok (.lst (ys.map iT),true):=by
 have fr:∀c:Nat->Int × Int,(∀t,t<m->Fq 400 (c t))->Frs 400 ((List.range m).map c):=λc hc x mx=>by
  obtain⟨t,mt,rfl⟩:=List.mem_map.mp mx
  obtain⟨q1,q2,q3,q4,_⟩:=hc t (List.mem_range.mp mt)
  have:=gD 400
  exact⟨q3,q4,by lia⟩
 have ln:∀c:Nat->Int × Int,((List.range m).map c).length=m:=λc=>by simp
 have top:∀c:Nat->Int × Int,(∀t,t<m->Fq 400 (c t))->∃B:Int,Jh [.lst ((List.range m).map λt=>fT (c t))]=.ok (.lst ((List.range m).map λt=>.int ((c t).1*B.fdiv (c t).2)),true)/\1<=B/\∀t,t<m->(c t).2∣B:=λc hc=>by
  obtain⟨B,e,p,d⟩:=WK ((List.range m).map c) (fr c hc) (by rw[ln]; lia) (by lia) (by rw[ln]; lia)
  rw[List.map_map,List.map_map]at e
  exact⟨B,e,p,λt ht=>d _ (List.mem_map.mpr ⟨t,List.mem_range.mpr ht,rfl⟩)⟩
 obtain⟨B1,e1,p1,d1⟩:=top a λt ht=>(hf t ht).1
 obtain⟨B2,e2,p2,d2⟩:=top b λt ht=>(hf t ht).2
 have el:eH (.lst (dF a b m))=.ok (.int (m:Nat),false):=by
  unfold dF
  rw[CV,List.length_range]
 obtain⟨ys,e,p,q⟩:=WL (n:=m) (ρ:=[.sh (.lst (dF a b m)),.sh (.lst ((List.range m).map λt=>.int ((a t).1*B1.fdiv (a t).2))),.sh (.lst ((List.range m).map λt=>.int ((b t).1*B2.fdiv (b t).2)))]) (kt:=Ij) (src:=[some 1,some 2]) (fa:=cW (mR (g1 eH) (cW (bL 0) dU)) dU) (fb:=Sv (Bp m7 (Bo aW (oV 1) (oV 0))) (Bp m7 (Bo aW (oV 2) (oV 0)))) (λi=>(-((a i).1*B1.fdiv (a i).2),-((b i).1*B2.fdiv (b i).2))) (uG (xC1 rfl rfl el) rfl) (by lia) λi hi=>by
  have g:∀f:Nat->Int,aW (.lst ((List.range m).map λt=>.int (f t))) (.int (i:Int))=.ok (.int (f i),false):=λf=>lB (by simp[hi])
  have g1:=g λt=>(a t).1*B1.fdiv (a t).2
  have g2:=g λt=>(b t).1*B2.fdiv (b t).2
  exact⟨.tup [.int (-((a i).1*B1.fdiv (a i).2)),.int (-((b i).1*B2.fdiv (b i).2))],bk (bk (bk rfl (bk rfl (bk g1 rfl))) rfl) (bk (bk (bk rfl (bk rfl (bk g2 rfl))) rfl) rfl),rfl⟩
 refine⟨ys,⟨p,q.imp_of_mem λ{i j} hi hj hb=>?_⟩,?_⟩
 .have hi:=List.mem_range.mp (p.mem_iff.mp hi)
  have hj:=List.mem_range.mp (p.mem_iff.mp hj)
  have t1:=top_lt (p:=(a j).1) (r:=(a i).1) p1 (hf j hj).1.2.2.1 (hf i hi).1.2.2.1 (d1 j hj) (d1 i hi)
  have t2:=top_lt (p:=(b j).1) (r:=(b i).1) p2 (hf j hj).2.2.2.1 (hf i hi).2.2.2.1 (d2 j hj) (d2 i hi)
  unfold jc at hb
  dsimp only at hb
  unfold o9
  rw[<-t1.1,<-t1.2,<-t2.1,<-t2.2]
  simp only[Int.neg_lt_neg_iff,Int.neg_inj]at hb
  rcases hb with(h|⟨h1,h2⟩)|⟨⟨h1,h2⟩,h3⟩
  .exact .inl h
  .exact .inr ⟨h1.symm,.inl h2⟩
  .exact .inr ⟨h1.symm,.inr ⟨h2.symm,h3⟩⟩
 .walk_at "d"
end
theorem ah1(hx:Fq 400 x)(hy:Fq 400 y):Uq [fT x,fT y]=.ok (.bl (aN x y),false):=by
 obtain⟨a1,a2,a3,a4,_⟩:=hx
 obtain⟨b1,b2,b3,b4,_⟩:=hy
 have:=gD 400
 have c1:cX x.1 y.2=true:=jF (M:=400) (N:=400) (by lia) (by lia) (by lia) (by lia)
 have c2:cX y.1 x.2=true:=jF (M:=400) (N:=400) (by lia) (by lia) (by lia) (by lia)
 walk_at "d"
theorem Yj(h:Fall l ys)(n:l≠[]):∃p q,ys[0]?=some p/\ys[ys.length-1]?=some q/\p<l.length/\q<l.length/\∀i,i<l.length->aN (at2 l p) (at2 l i)=false/\aN (at2 l i) (at2 l q)=false:=by
 obtain⟨h1,h2⟩:=h
 have ln:ys.length=l.length:=by rw[h1.length_eq,List.length_range]
 have l0:0<l.length:=List.length_pos_iff.mpr n
 have mm:∀i,i∈ys↔i<l.length:=λi=>by rw[h1.mem_iff,List.mem_range]
 have hp:0<ys.length:=by lia
 have hq:ys.length-1<ys.length:=by lia
 refine⟨ys[0],ys[ys.length-1],List.getElem?_eq_getElem hp,List.getElem?_eq_getElem hq,(mm _).mp (List.getElem_mem hp),(mm _).mp (List.getElem_mem hq),λi hi=>?_⟩
 obtain⟨k,hk,rfl⟩:=List.mem_iff_getElem.mp ((mm i).mpr hi)
 have pw:=List.pairwise_iff_getElem.mp h2
 unfold aN at2
 constructor
 .rcases Nat.eq_zero_or_pos k with rfl|k0
  .exact decide_eq_false (by lia)
  .have:=pw 0 k hp hk k0
   unfold dZ at this
   exact decide_eq_false (by lia)
 .rcases Nat.lt_or_ge k (ys.length-1)with c|c
  .have:=pw k (ys.length-1) hk hq c
   unfold dZ at this
   exact decide_eq_false (by lia)
  .have:k=ys.length-1:=by lia
   subst this
   exact decide_eq_false (by lia)
theorem jJ(hx:1<=x.2)(hy:1<=y.2)(hz:1<=z.2)(h1:aN x y=false)(h2:aN y z=false):aN x z=false:=by
 unfold aN at *
 have h1:=of_decide_eq_false h1
 have h2:=of_decide_eq_false h2
 refine decide_eq_false λh3=>?_
 have a1:y.1*x.2*z.2<=x.1*y.2*z.2:=Int.mul_le_mul_of_nonneg_right (by lia) (by lia)
 have a2:z.1*y.2*x.2<=y.1*z.2*x.2:=Int.mul_le_mul_of_nonneg_right (by lia) (by lia)
 have a3:x.1*z.2*y.2<z.1*x.2*y.2:=Int.mul_lt_mul_of_pos_right h3 (by lia)
 have e1:y.1*x.2*z.2=y.1*z.2*x.2:=Int.mul_right_comm _ _ _
 have e2:z.1*y.2*x.2=z.1*x.2*y.2:=Int.mul_right_comm _ _ _
 have e3:x.1*y.2*z.2=x.1*z.2*y.2:=Int.mul_right_comm _ _ _
 lia
theorem Yk(h:xs[xs.length-1]?=some T):aW (.lst xs) (.int (-1))=.ok (T,false):=by
 obtain⟨hi,e⟩:=List.getElem?_eq_some_iff.mp h
 have z:fW xs.length (-1)=some (xs.length-1):=by
  unfold fW
  rw[if_neg (by lia),if_pos (by lia)]
  congr 1
  lia
 show(match dH xs (-1)with
  |some t=>Rs.ok (t,false)
  |none=>.bad)=_
 unfold dH
 rw[z]
 dsimp only[Option.bind]
 rw[h]
section
variable {m:Nat}{a b:Nat->Int × Int}
theorem xJ(h:t<m):aW (.lst (dF a b m)) (iT t)=.ok (.tup [fT (a t),fT (b t)],false):=lC (by unfold dF; simp[h])
noncomputable def eY(a b:Nat->Int × Int)(m:Nat)(ys:List Nat):Prop:=∀t∈ys,∀o,o<m->o∉ys->aN (a t) (b o)=false
noncomputable abbrev gj(m:Nat)(ys:List Nat):List Nat:=(List.range m).filter λt=>!decide (t∈ys)
theorem Mh:eH (.lst (dF a b m))=.ok (.int (m:Nat),false):=by
 show Rs.ok (Tr.int ((dF a b m).length:Int),false)=_
 unfold dF
 simp
theorem Yl(hf:∀t,t<m->Fq 400 (a t)/\Fq 400 (b t))(hm:m<=12){ys:List Nat}(hy:∀t∈ys,t<m)(hl:ys.length<=12):∃T,Wi [.lst (dF a b m),.lst (ys.map iT)]=.ok (T,false)/\((T=.non/\(ys=[]\/gj m ys=[]))\/∃t o,T=.tup [iT t,iT o]/\t∈ys/\o∈gj m ys/\(∀s∈ys,aN (a s) (a t)=false)/\∀s∈gj m ys,aN (b o) (b s)=false):=by
 have ho:∀t∈gj m ys,t<m:=λt ht=>List.mem_range.mp (List.mem_filter.mp ht).1
 have hol:(gj m ys).length<=12:=Nat.le_trans (List.length_filter_le ..) (by rw[List.length_range]; exact hm)
 have em:∀zs:List Nat,zs≠[]->(zs.map iT).isEmpty=false:=λzs h=>by cases zs with|nil=>exact(h rfl).elim|cons _ _=>rfl
 by_cases c1:ys=[]
 .refine⟨.non,?_,.inl ⟨rfl,.inl c1⟩⟩
  have n1:(ys.map iT).isEmpty=true:=by rw[c1]; rfl
  walk_at "d"
 have n1:=em ys c1
 by_cases c2:gj m ys=[]
 .refine⟨.non,?_,.inl ⟨rfl,.inr c2⟩⟩
  have n2:((gj m ys).map iT).isEmpty=true:=by rw[c2]; rfl
  walk_at "d"
 have n2:=em _ c2
 have fr:∀(c:Nat->Int × Int) (zs:List Nat),(∀t∈zs,Fq 400 (c t))->Frs 400 (zs.map c):=λc zs hc x mx=>by
  obtain⟨t,mt,rfl⟩:=List.mem_map.mp mx
  obtain⟨q1,q2,q3,q4,_⟩:=hc t mt
  have:=gD 400
  exact⟨q3,q4,by lia⟩
 obtain⟨f1,g1⟩:=qR (fr a ys λt mt=>(hf t (hy t mt)).1) (by rw[List.length_map]; lia) (by lia) (by rw[List.length_map]; lia)
 obtain⟨f2,g2⟩:=qR (fr b (gj m ys) λt mt=>(hf t (ho t mt)).2) (by rw[List.length_map]; lia) (by lia) (by rw[List.length_map]; lia)
 obtain⟨_,q,_,hq,_,q1,hq2⟩:=Yj f1 (by simpa using c1)
 obtain⟨p,_,hp,_,p1,_,hp2⟩:=Yj f2 (by simpa using c2)
 rw[List.length_map]at q1 p1 hq2 hp2
 have ga:∀(c:Nat->Int × Int) (zs:List Nat) i (h:i<zs.length),at2 (zs.map c) i=c zs[i]:=λc zs i h=>by unfold at2; simp[h]
 rw[uf]at g1 g2
 have i1:aW (.lst ((aq (ys.map a)).map iT)) (.int (-1))=.ok (iT q,false):=Yk (by rw[List.length_map,List.getElem?_map,hq]; rfl)
 have i2:aW (.lst ((aq ((gj m ys).map b)).map iT)) (.int 0)=.ok (iT p,false):=lC (i:=0) (by rw[List.getElem?_map,hp]; rfl)
 have i3:aW (.lst (ys.map iT)) (iT q)=.ok (iT ys[q],false):=lC (by rw[List.getElem?_map,List.getElem?_eq_getElem q1]; rfl)
 have i4:aW (.lst ((gj m ys).map iT)) (iT p)=.ok (iT (gj m ys)[p],false):=lC (by rw[List.getElem?_map,List.getElem?_eq_getElem p1]; rfl)
 refine⟨.tup [iT ys[q],iT (gj m ys)[p]],?_,.inr ⟨ys[q],(gj m ys)[p],rfl,List.getElem_mem q1,List.getElem_mem p1,λs ms=>?_,λs ms=>?_⟩⟩
 .walk_at "d"
  exact hy x hx
  walk_at "r"
  exact ho x hx
  walk_at "r"
  exact Nat.le_trans hol (by lia)
  walk_at "r"
 .obtain⟨i,hi,rfl⟩:=List.mem_iff_getElem.mp ms
  have:=(hq2 i hi).2
  rwa[ga a ys i hi,ga a ys q q1]at this
 .obtain⟨i,hi,rfl⟩:=List.mem_iff_getElem.mp ms
  have:=(hp2 i hi).1
  rwa[ga b _ i hi,ga b _ p p1]at this
theorem Ym(hf:∀t,t<m->Fq 400 (a t)/\Fq 400 (b t))(hm:m<=12)(hy:∀t∈ys,t<m)(hl:ys.length<=12):∃bb,BK [.lst (dF a b m),.lst (ys.map iT)]=.ok (.bl bb,false)/\(bb=true↔eY a b m ys):=by
 obtain⟨T,e,h⟩:=Yl hf hm hy hl
 have mo:∀o,o∈gj m ys↔o<m/\o∉ys:=λo=>by unfold gj; simp
 rcases h with⟨rfl,h⟩|⟨t,o,rfl,mt,mo',h1,h2⟩
 .refine⟨true,by walk_at "d",λ_ t mt o ho no=>?_,λ_=>rfl⟩
  rcases h with h|h
  .rw[h]at mt; cases mt
  .have:=(mo o).mpr ⟨ho,no⟩
   rw[h]at this; cases this
 .obtain⟨om,on⟩:=(mo o).mp mo'
  have tm:=hy t mt
  have fb:=ah1 (hf t tm).1 (hf o om).2
  refine⟨!aN (a t) (b o),by walk_at "d",λhb=>?_,λhs=>by rw[hs t mt o om on]; rfl⟩
  have hb':aN (a t) (b o)=false:=by simpa using hb
  intro s ms r hr nr
  exact jJ (hf s (hy s ms)).1.2.2.1 (hf o om).2.2.2.1 (hf r hr).2.2.2.1 (jJ (hf s (hy s ms)).1.2.2.1 (hf t tm).1.2.2.1 (hf o om).2.2.2.1 (h1 s ms) hb') (h2 r ((mo r).mpr ⟨hr,nr⟩))
end
noncomputable def bT(m:Nat)(zs:List Nat):List Nat:=(List.range m).filter λt=>decide (t∈zs)
theorem Yn{m t:Nat}{zs:List Nat}(h:∀t∈zs,t<m):t∈bT m zs↔t∈zs:=by
 unfold bT
 rw[List.mem_filter,List.mem_range,decide_eq_true_iff]
 exact⟨And.right,λq=>⟨h t q,q⟩⟩
theorem Yo{m c:Nat}{ys:List Nat}(h:ys.Perm (List.range m)):(bT m (ys.take c)).Perm (ys.take c):=by
 have nd:ys.Nodup:=h.nodup_iff.mpr List.nodup_range
 have e:ys.filter (λt=>decide (t∈ys.take c))=ys.take c:=by
  have nd':=nd
  rw[<-List.take_append_drop c ys]at nd'
  obtain⟨_,_,dj⟩:=List.nodup_append.mp nd'
  calc ys.filter (λt=>decide (t∈ys.take c))=(ys.take c++ys.drop c).filter (λt=>decide (t∈ys.take c)):=by rw[List.take_append_drop]
   _=ys.take c:=by
    rw[List.filter_append,List.filter_eq_self.mpr λt ht=>decide_eq_true ht,List.filter_eq_nil_iff.mpr λt ht=>by
     rw[decide_eq_true_iff]
     exact λq=>dj t q t ht rfl,List.append_nil]
 unfold bT
 have:=(h.filter λt=>decide (t∈ys.take c)).symm
 rwa[e]at this
theorem Yp{m c:Nat}{ys:List Nat}(h:ys.Perm (List.range m))(hm:m<=12):qI (.lst ((ys.take c).map iT))=.ok (.lst ((bT m (ys.take c)).map iT),true):=by
 have p:=Yo (c:=c) h
 have ln:ys.length=m:=by rw[h.length_eq,List.length_range]
 have l2:=List.length_take_le c ys
 have iq:tL ((ys.take c).map iT)=some ((ys.take c).map λi:Nat=>(i:Int)):=WW _
 have s:((bT m (ys.take c)).map λi:Nat=>(i:Int)).Pairwise (· <= ·):=by
  rw[List.pairwise_map]
  unfold bT
  exact((List.pairwise_lt_range (n:=m)).filter _).imp λ{a b} h=>by lia
 unfold qI
 simp only[iq]
 rw[if_pos (by rw[List.length_map,List.length_take]; lia),<-R6 (p.map _) s,List.map_map]
 rfl
section
variable {m:Nat}{a b:Nat->Int × Int}
noncomputable def uo(bb:Bool)(zs:List Nat):Tr:=if bb=true then .lst (zs.map iT)else .non
theorem ah2(hf:∀t,t<m->Fq 400 (a t)/\Fq 400 (b t))(hm:m<=12)(c:Nat):∃ys bb,um a b m ys/\Xf [.lst (dF a b m),iT c]=.ok (uo bb (bT m (ys.take c)),bb)/\(bb=true↔eY a b m (ys.take c)):=by
 obtain⟨ys,ho,e⟩:=ah0 hf hm
 have lt:∀t∈ys.take c,t<m:=λt ht=>by simpa using ho.1.mem_iff.mp (List.mem_of_mem_take ht)
 have ms:∀t,t∈bT m (ys.take c)↔t∈ys.take c:=λt=>Yn lt
 have es:=Yp (c:=c) ho.1 hm
 have l:(bT m (ys.take c)).length<=12:=by
  have:=List.length_filter_le (λt=>decide (t∈ys.take c)) (List.range m)
  rw[List.length_range]at this
  unfold bT
  lia
 obtain⟨bb,e2,h2⟩:=Ym hf hm (ys:=bT m (ys.take c)) (λt ht=>lt t ((ms t).mp ht)) l
 refine⟨ys,bb,ho,?_,h2.trans ?_⟩
 .have ec:jx none (some (c:Int)) (.lst (ys.map iT))=.ok (.lst ((ys.take c).map iT),true):=by
   show Rs.ok (Tr.lst (cut (ys.map iT) none (some (c:Int))),true)=_
   rw[Jt,<-List.map_take]
  generalize Tr.lst (dF a b m)=B at *
  have sr:uo true (bT m (ys.take c))=.lst ((bT m (ys.take c)).map iT):=rfl
  generalize (bT m (ys.take c)).map iT=zs at *
  have k1:iU wV (cW (bL 0) dU) [.sh B,.sh (iT c),.un]=.ok (.v (.lst (ys.map iT)) true,[.sh B,.sh (iT c),.un]):=fO (fM rfl rfl) rfl rfl e
  have k2:Aa (iU wV (cW (bL 0) dU)) xH (z9 (bL 1)) [.sh B,.sh (iT c),.un]=.ok (.v (.lst ((ys.take c).map iT)) true,[.sh B,.sh (iT c),.un]):=bk k1 (bk rfl (bk rfl (bk rfl (bk ec rfl))))
  have k3:mR (g1 qI) (cW (Aa (iU wV (cW (bL 0) dU)) xH (z9 (bL 1))) dU) [.sh B,.sh (iT c),.un]=.ok (.v (.lst zs) true,[.sh B,.sh (iT c),.un]):=Jb (z:=(.lst zs,true)) (fM k2 rfl) rfl es
  have k4:iU BK (cW (bL 0) (cW (bL 2) dU)) [.sh B,.sh (iT c),.ow zs]=.ok (.v (.bl bb) false,[.sh B,.sh (iT c),.ow zs]):=bk (fM rfl (fM rfl rfl)) (bk rfl (bk e2 (if_neg λq=>Bool.noConfusion q.2)))
  have k5:zX (iU BK (cW (bL 0) (cW (bL 2) dU))) [.sh B,.sh (iT c),.ow zs]=.ok (bb,[.sh B,.sh (iT c),.ow zs]):=Jc k4 rfl rfl
  cases bb
  .exact tQ (mX (T4 k3) (wN (bk k5 rfl)))
  .rw[sr]
   exact tQ (mX (T4 k3) (bk (bk k5 rfl) rfl))
 .unfold eY
  simp only[ms]
end
theorem ah3(hk:1<=k)(hB:1<=B)(n:Nat)(r:Ru):1<=fV k B n r:=by
 cases r
 case sh=>exact Int.mul_pos (a:=k) (b:=B) (by lia) (by lia)
 case product=>exact Int.pow_pos (show 0<B by lia)
 all_goals exact hB
section
variable {m:Nat}{a b a' b':Nat->Int × Int}{C:Int}
noncomputable def gF(C:Int)(m:Nat)(a a':Nat->Int × Int):Prop:=∀t,t<m->Sc C (a t) (a' t)/\1<=(a t).2/\1<=(a' t).2
theorem gF.le(hC:1<=C)(h:gF C m a a')(h':gF C m b b')(hi:i<m)(hj:j<m):((a' i).1*(b' j).2<=(b' j).1*(a' i).2↔(a i).1*(b j).2<=(b j).1*(a i).2)/\((b' j).1*(a' i).2<=(a' i).1*(b' j).2↔(b j).1*(a i).2<=(a i).1*(b j).2) :=
 ⟨Sc.le hC (h i hi).2.1 (h i hi).2.2 (h' j hj).2.1 (h' j hj).2.2 (h i hi).1 (h' j hj).1,Sc.le hC (h' j hj).2.1 (h' j hj).2.2 (h i hi).2.1 (h i hi).2.2 (h' j hj).1 (h i hi).1⟩
theorem gF.ord(hC:1<=C)(h:gF C m a a')(h':gF C m b b')(o:um a' b' m ys):um a b m ys:=by
 refine⟨o.1,o.2.imp_of_mem λ{i j} mi mj q=>?_⟩
 have hi:i<m:=by simpa using o.1.mem_iff.mp mi
 have hj:j<m:=by simpa using o.1.mem_iff.mp mj
 have t1:=gF.le hC h h hi hj
 have t2:=gF.le hC h' h' hi hj
 unfold o9 at *
 lia
theorem gF.sure(hC:1<=C)(h:gF C m a a')(h':gF C m b b')(hz:∀t∈zs,t<m):eY a' b' m zs↔eY a b m zs:=by
 have k:∀t∈zs,∀o,o<m->(aN (a' t) (b' o)=false↔aN (a t) (b o)=false):=λt mt o ho=>by
  have t1:=(gF.le hC h h' (hz t mt) ho).2
  unfold aN
  rw[decide_eq_false_iff_not,decide_eq_false_iff_not]
  lia
 exact⟨λq t mt o ho no=>(k t mt o ho).mp (q t mt o ho no),λq t mt o ho no=>(k t mt o ho).mpr (q t mt o ho no)⟩
end
section
variable {m c:Nat}{rows:List (List (Int × Int))}{ds:List Nat}{as:List (Nat × Nat)}{r:Ru}
theorem Yq(hB:Bk m rows)(ho:bD rows.length r)(hc:c<=m):Vz [aO rows,aY r,iT c]=.ok (.non,false):=by
 have hl:0<rows.length:=by have:=hB.1; lia
 have e1:aW (aO rows) (.int 0)=.ok (aG rows[0],false):=lB (i:=0) (by rw[List.getElem?_map,List.getElem?_eq_getElem hl]; rfl)
 have e2:eH (aG rows[0])=.ok (.int (m:Int),false):=by
  show Rs.ok (Tr.int ((rows[0].map fT).length:Int),false)=_
  rw[List.length_map,(hB.2.2.2.2 _ (List.getElem_mem hl)).1]
 have nc:Vx [aO rows,iT c]=.ok (.non,false):=by
  have k1:mR (g1 eH) (cW (kY aW (bL 0) (eC (.int 0))) dU) [.sh (aO rows),.sh (iT c)]=.ok (.v (.int (m:Int)) false,[.sh (aO rows),.sh (iT c)]):=Jb (z:=(.int (m:Int),false)) (fM (afN (z:=(aG rows[0],false)) (T:=aO rows) (b:=false) (U:=.int 0) (b':=false) rfl rfl e1) rfl) rfl e2
  exact Ja (T5 (T6 (Jc (fO (fM rfl (fM k1 rfl)) rfl rfl (count_eq hc)) rfl rfl)) rfl)
 exact Ja (mX (qP (fO rfl rfl rfl (JR hB ho))) (qP (fO rfl rfl rfl nc)))
theorem ah4(hB:Bk m rows)(hD:∃D,Bd D rows)(hL:Lk rows.length m ds as)(ho:bD rows.length r)(hS:Cp r)(hc:c<=m):∃ys bb,um (loV r rows ds as) (hiV r rows ds as) m ys/\Xj [aO rows,aY r,iT c,dM ds as]=.ok (uo bb (bT m (ys.take c)),bb)/\(bb=true↔eY (loV r rows ds as) (hiV r rows ds as) m (ys.take c)):=by
 obtain⟨B,k,Yr,ho',hk,e1⟩:=ahZ hB hD ho hS
 obtain⟨a,b,e2,hs⟩:=ahY (k:=k) hB Yr hL ho ho'
 have hm:m<=12:=by have:=hB.2.2.2.1; lia
 obtain⟨ys,bb,h1,e3,h2⟩:=ah2 (λt ht=>(hs t ht).2.2) hm c
 have hC:1<=fV k B rows.length r:=ah3 hk Yr.1 _ _
 have sa:gF (fV k B rows.length r) m (loV r rows ds as) a:=λt ht=>⟨(hs t ht).1,(uh hB ho ht).2.2.2.1,(hs t ht).2.2.1.2.2.1⟩
 have sb:gF (fV k B rows.length r) m (hiV r rows ds as) b:=λt ht=>⟨(hs t ht).2.1,(w6 hB hL ho ht).2.2.2.1,(hs t ht).2.2.2.2.2.1⟩
 refine⟨ys,bb,gF.ord hC sa sb h1,?_,h2.trans (gF.sure hC sa sb λt ht=>by simpa using h1.1.mem_iff.mp (List.mem_of_mem_take ht))⟩
 have ei:Xh [.tup [aO (cL B rows),aY (eE k r),fT (B,1)],iT c,dM ds as]=.ok (uo bb (bT m (ys.take c)),bb):=by
  have z1:iU BZ (cW (bL 3) (cW (bL 4) (cW (bL 2) (cW (bL 5) dU)))) [.sh (.tup [aO (cL B rows),aY (eE k r),fT (B,1)]),.sh (iT c),.sh (dM ds as),.sh (aO (cL B rows)),.sh (aY (eE k r)),.sh (fT (B,1))]=.ok (.v (.lst (dF a b m)) true,[.sh (.tup [aO (cL B rows),aY (eE k r),fT (B,1)]),.sh (iT c),.sh (dM ds as),.sh (aO (cL B rows)),.sh (aY (eE k r)),.sh (fT (B,1))]):=fO rfl rfl rfl e2
  exact tQ (mX (afM rfl rfl) (wN (fO (fM z1 (fM rfl rfl)) rfl rfl e3)))
 have z2:iU Ca (cW (bL 0) (cW (bL 1) dU)) [.sh (aO rows),.sh (aY r),.sh (iT c),.sh (dM ds as)]=.ok (.v (.tup [aO (cL B rows),aY (eE k r),fT (B,1)]) false,[.sh (aO rows),.sh (aY r),.sh (iT c),.sh (dM ds as)]):=fO rfl rfl rfl e1
 exact tQ (mX (qP (fO rfl rfl rfl (Yq hB ho hc))) (mX (qP (fO rfl rfl rfl (JK hB hL))) (wN (fO (fM z2 (fM rfl (fM rfl rfl))) rfl rfl ei))))
end
section
variable {m c:Nat}{a b:Nat->Int × Int}
theorem o9.ge(h:o9 a b i j):aN (a i) (a j)=false/\(aN (a j) (a i)=false->aN (b i) (b j)=false):=by
 unfold o9 at h
 unfold aN
 rw[decide_eq_false_iff_not,decide_eq_false_iff_not,decide_eq_false_iff_not]
 lia
theorem Ys{T G:List Nat}(hT:T.Nodup)(hG:G.Nodup)(hl:G.length<=T.length){t:Nat}(tG:t∈G)(tT:t∉T):∃x∈T,x∉G:=by
 refine Classical.byContradiction λn=>?_
 have s:T ⊆ G.erase t:=λx mx=>(List.Nodup.mem_erase_iff hG).mpr ⟨λq=>tT (q▸mx),Classical.byContradiction λq=>n ⟨x,mx,q⟩⟩
 have:=hT.length_le_of_subset s
 rw[List.length_erase_of_mem tG]at this
 have:=List.length_pos_of_mem tG
 lia
theorem ah5{ys T:List Nat}(hf:∀t,t<m->1<=(a t).2/\1<=(b t).2/\aN (b t) (a t)=false)(ho:um a b m ys)(hT:T.Nodup)(hm:∀t∈T,t<m)(hs:eY a b m T):eY a b m (ys.take T.length):=by
 have nd:ys.Nodup:=ho.1.nodup_iff.mpr List.nodup_range
 have my:∀t,t∈ys↔t<m:=λt=>by rw[ho.1.mem_iff,List.mem_range]
 have nd':(ys.take T.length++ys.drop T.length).Nodup:=by rw[List.take_append_drop]; exact nd
 have pw:(ys.take T.length++ys.drop T.length).Pairwise (o9 a b):=by rw[List.take_append_drop]; exact ho.2
 have ah:∀t o,t∈ys.take T.length->o<m->o∉ys.take T.length->o9 a b t o:=λt o ht hm no=>by
  have q:o∈ys.take T.length++ys.drop T.length:=by rw[List.take_append_drop]; exact(my o).mpr hm
  exact(List.pairwise_append.mp pw).2.2 t ht o ((List.mem_append.mp q).resolve_left no)
 have gG:(ys.take T.length).Nodup:=(List.nodup_append.mp nd').1
 have gm:∀t∈ys.take T.length,t<m:=λt ht=>(my t).mp (List.mem_of_mem_take ht)
 have lG:(ys.take T.length).length=T.length:=by
  have l1:ys.length=m:=by rw[ho.1.length_eq,List.length_range]
  have l2:=hT.length_le_of_subset (l₂ := List.range m) λt ht=>List.mem_range.mpr (hm t ht)
  rw[List.length_range]at l2
  rw[List.length_take]
  lia
 generalize ys.take T.length=G at *
 intro t tG o om oG
 have tm:=gm t tG
 have hto:=(ah t o tG om oG).ge
 by_cases tT:t∈T
 .by_cases oT:o∈T
  .obtain⟨y,yG,yT⟩:=Ys gG hT (by lia) oT oG
   have ym:=gm y yG
   have q1:=hs t tT y ym yT
   have q2:=hs o oT y ym yT
   have q3:=(ah y o yG om oG).ge
   have q4:=jJ (hf o om).1 (hf y ym).2.1 (hf y ym).1 q2 (hf y ym).2.2
   exact jJ (hf t tm).1 (hf y ym).2.1 (hf o om).2.1 q1 (q3.2 q4)
  .exact hs t tT o om oT
 .by_cases oT:o∈T
  .have q1:=hs o oT t tm tT
   have q2:=jJ (hf o om).1 (hf t tm).2.1 (hf t tm).1 q1 (hf t tm).2.2
   have q3:=hto.2 q2
   exact jJ (hf t tm).1 (hf t tm).2.1 (hf o om).2.1 (jJ (hf t tm).1 (hf o om).1 (hf t tm).2.1 hto.1 q1) q3
  .obtain⟨x,xT,xG⟩:=Ys hT gG (by lia) tG tT
   have xm:=hm x xT
   exact jJ (hf t tm).1 (hf x xm).1 (hf o om).2.1 (ah t x tG xm xG).ge.1 (hs x xT o om oT)
end
end BH
end
section
namespace K91
open PySem L2 BH
noncomputable def top(i:Nat):Stmt:=PySem.Challenge.pw_bestheads_k91_whole_sure_in_all_books.main.body.getD i (.Pass ⟨0,0,0,0⟩)
noncomputable abbrev Yt:=(bC (dz (Jk (ak (aj 0) (ak (aj 1) ao)))) (bC (sI (bQ (bG (agT (ak (aj 2) (ak (bh (ak (au (aj 0) (vC (.int 0))) ao)) ao))))) (b1 (oK "NoThings" (vC (.str "this is no rising list of unlike things")))) b0) (bC (dz (Jo (ak (aj 0) (ak (aj 3) ao)))) (bC (sA 4 (aE (Wc (ak (aj 0) (ak (aj 3) ao))))) (bC (sA 5 (aE (W8 (ak (aj 0) (ak (au (aj 3) (vC (.int 0))) (ak (vG "FULL" (.tup [(.int 1),(.int 1)])) ao)))))) (bC (sA 6 (aE (Wg (ak (aj 1) (ak (aj 4) (ak (aj 5) ao)))))) (bC (sI (bG (Wl (ak (aj 6) (ak (aj 2) ao)))) (b1 (aB (vC .non))) b0) (bC (sH (Wj (ak (aj 6) (ak (aj 2) ao))) (fK 2 (bJ (gV 7) (bJ (gV 8) fJ)))) (bC (sA 9 (aE (agV (ak (au (au (aj 6) (aj 7)) (vC (.int 0))) (ak (au (au (aj 6) (aj 8)) (vC (.int 1))) (ak (bh (ak (aj 0) ao)) ao)))))) (b1 (aB (agX (ak (aj 4) (ak (aj 5) (ak (aj 8) (ak (aj 9) ao))))))))))))))))
noncomputable abbrev ah6:SF:=by exists Yt
noncomputable def Yu:FP:=aJ 10 ah6
noncomputable abbrev Yv{f:AF}(a:VA f):=vF "other_book" ["book", "rule", "things", "looks"] Yu 8 a
noncomputable abbrev Yw:=(bC (sA 2 (aE (vC (.int 0)))) (bC (sI (tK (aM mW (aj 1) (bh (ak (aj 0) ao)))) (b1 (sA 2 (aE (au (aj 0) (aj 1))))) b0) (bC (sI (tK (aM IK (aj 2) (Iz (vC (.int 10)) (vC (.int 18))))) (b1 (aB (dK (qK (aj 2) (Iz (vC (.int 10)) (vC (.int 18)))) (Iz (vC (.int 10)) (vC (.int 60)))))) b0) (bC (sA 3 (aE (dK (dJ (dJ (cF (aj 2) (vC (.int 48271))) (cF (aj 1) (vC (.int 69621)))) (vC (.int 11))) (vC (.int 2147483629))))) (bC (sA 3 (aE (dK (cF (aj 3) (aj 3)) (vC (.int 2147483587))))) (b1 (aB (dJ (cF (aj 3) (vC (.int 2147483563))) (dK (cF (aj 3) (aj 3)) (vC (.int 2147483563)))))))))))
noncomputable abbrev ah7:SF:=by exists Yw
noncomputable def J0:FP:=aJ 4 ah7
noncomputable abbrev pq{f:AF}(a:VA f):=vF "_law_cell" ["_law_script", "_law_k"] J0 1 a
noncomputable abbrev Yx:=(bC (sA 2 (aE (IW (ak (aj 0) ao)))) (bC (sA 3 (aE (IW (ak (aj 1) ao)))) (bC (sN (sW (Tc 3) (tK (aM qL (aj 3) (vC (.int 0)))) (b1 (GP 2 3 (ak (aj 3) (ak (dK (aj 2) (aj 3)) ao)))))) (bC (sI (tK (aM mW (aj 1) (vC (.int 0)))) (b1 (sA 2 (aE (qK (vC (.int 0)) (aj 2))))) b0) (b1 (aB (f9 (ak (dY (aj 0) (aj 2)) (ak (dY (aj 1) (aj 2)) ao)))))))))
noncomputable abbrev ah8:SF:=by exists Yx
noncomputable def uq:FP:=aJ 4 ah8
noncomputable abbrev ur{f:AF}(a:VA f):=vF "_law_frac" ["_law_top", "_law_bottom"] uq 1 a
noncomputable abbrev Yy:=(b1 (aB (ur (ak (dJ (cF (au (aj 0) (vC (.int 0))) (au (aj 1) (vC (.int 1)))) (cF (au (aj 1) (vC (.int 0))) (au (aj 0) (vC (.int 1))))) (ak (cF (au (aj 0) (vC (.int 1))) (au (aj 1) (vC (.int 1)))) ao)))))
noncomputable abbrev ah9:SF:=by exists Yy
noncomputable def Yz:FP:=aJ 2 ah9
noncomputable abbrev aia{f:AF}(a:VA f):=vF "_law_add" ["_law_one", "_law_other"] Yz 2 a
noncomputable abbrev YB:=(b1 (aB (ur (ak (cF (au (aj 0) (vC (.int 0))) (au (aj 1) (vC (.int 0)))) (ak (cF (au (aj 0) (vC (.int 1))) (au (aj 1) (vC (.int 1)))) ao)))))
noncomputable abbrev aib:SF:=by exists YB
noncomputable def J1:FP:=aJ 2 aib
noncomputable abbrev J3{f:AF}(a:VA f):=vF "_law_mul" ["_law_one", "_law_other"] J1 2 a
noncomputable abbrev YC:=(b1 (aB (vK (aM mW (cF (au (aj 0) (vC (.int 0))) (au (aj 1) (vC (.int 1)))) (cF (au (aj 1) (vC (.int 0))) (au (aj 0) (vC (.int 1))))))))
noncomputable abbrev aic:SF:=by exists YC
noncomputable def J4:FP:=aJ 2 aic
noncomputable abbrev xq{f:AF}(a:VA f):=vF "_law_below" ["_law_one", "_law_other"] J4 1 a
noncomputable abbrev YD:=(bC (sA 4 (aE (pq (ak (aj 0) (ak (aj 1) ao))))) (bC (sA 5 (aE (dJ (vC (.int 1)) (dK (aj 4) (aj 3))))) (bC (sA 6 (aE (dJ (vC (.int 1)) (dK (dY (aj 4) (aj 3)) (aj 2))))) (bC (sA 7 (aE (au (Q6 [.int 2,.int 3,.int 4,.int 6,.int 10,.int 24,.int 97,.int 999999999999]) (dK (dY (aj 4) (vC (.int 1000))) (vC (.int 8)))))) (bC (sO 8 (aE (iQ ao))) (bC (sN (sF (fL (ak (aj 6) ao)) (gV 9) (bC (sA 10 (aE (pq (ak (aj 0) (ak (dJ (dJ (aj 1) (vC (.int 1))) (aj 9)) ao))))) (bC (sO 11 (aE (iQ ao))) (bC (sF (fL (ak (aj 5) ao)) (gV 12) (bC (sI (tK (aM qL (aj 7) (vC (.int 100)))) (b1 (sA 10 (aE (pq (ak (aj 0) (ak (dK (dJ (dJ (dJ (aj 1) (vC (.int 1))) (aj 9)) (cF (vC (.int 5)) (aj 12))) (vC (.int 63))) ao)))))) b0) (bC (dz (j7 11 (ak (ur (ak (dK (aj 10) (dJ (aj 7) (vC (.int 1)))) (ak (aj 7) ao))) ao))) (b1 (sA 10 (aE (dY (aj 10) (dJ (aj 7) (vC (.int 1)))))))))) (b1 (sZ 11 (dz (j7 8 (ak (aj 11) ao)))))))))) (b1 (aB (aj 8)))))))))
noncomputable abbrev aie:SF:=by exists YD
noncomputable def J5:FP:=aJ 13 aie
noncomputable abbrev aif{f:AF}(a:VA f):=vF "_law_book" ["_law_script", "_law_at", "_law_lists", "_law_most"] J5 2 a
noncomputable abbrev YF:=(bC (sA 2 (aE (dK (aj 0) (vC (.int 7))))) (bC (sA 0 (aE (dY (aj 0) (vC (.int 7))))) (bC (sI (tK (aM dG (aj 2) (vC (.int 0)))) (b1 (aB (mQ [.str "least"]))) b0) (bC (sI (tK (aM dG (aj 2) (vC (.int 1)))) (b1 (aB (mQ [.str "greatest"]))) b0) (bC (sI (tK (aM dG (aj 2) (vC (.int 2)))) (b1 (aB (f9 (ak (vC (.str "middle")) (ak (dJ (vC (.int 1)) (dK (aj 0) (aj 1))) ao))))) b0) (bC (sI (tK (aM dG (aj 2) (vC (.int 3)))) (b1 (aB (mQ [.str "product"]))) b0) (bC (sO 3 (aE (iQ ao))) (bC (sN (sF (fL (ak (aj 1) ao)) (gV 4) (bC (dz (j7 3 (ak (ur (ak (dK (aj 0) (vC (.int 7))) (ak (dJ (vC (.int 1)) (dK (dY (aj 0) (vC (.int 7))) (vC (.int 4)))) ao))) ao))) (b1 (sA 0 (aE (dY (aj 0) (vC (.int 28))))))))) (b1 (sZ 3 (aB (f9 (ak (vC (.str "shares")) (ak (aj 3) ao))))))))))))))
noncomputable abbrev aii:SF:=by exists YF
noncomputable def J6:FP:=aJ 5 aii
noncomputable abbrev aij{f:AF}(a:VA f):=vF "_law_rule" ["_law_number", "_law_lists"] J6 2 a
noncomputable abbrev YG:=(bC (sI (tK (aM dG (au (aj 0) (vC (.int 0))) (vC (.str "shares")))) (bC (sA 2 (aE (mQ [.int 0,.int 1]))) (bC (sN (sF (fL (ak (bh (ak (aj 1) ao)) ao)) (gV 3) (b1 (sA 2 (aE (aia (ak (aj 2) (ak (J3 (ak (au (au (aj 0) (vC (.int 1))) (aj 3)) (ak (au (aj 1) (aj 3)) ao))) ao)))))))) (b1 (aB (aj 2))))) b0) (bC (sI (tK (aM dG (au (aj 0) (vC (.int 0))) (vC (.str "product")))) (bC (sA 2 (aE (mQ [.int 1,.int 1]))) (bC (sN (sF (bK (aj 1)) (gV 4) (b1 (sA 2 (aE (J3 (ak (aj 2) (ak (aj 4) ao)))))))) (b1 (aB (aj 2))))) b0) (bC (sO 5 (aE (iQ ao))) (bC (sN (sF (bK (aj 1)) (gV 4) (bC (sA 6 (aE (bh (ak (dw (cO [none,some 4] ["_law_one", "_law_worth_here"] 5 (gV 0) (bG (xq (ak (aj 0) (ak (aj 1) ao)))) (aj 0))) ao)))) (b1 (dz (TY 5 (ak (aj 6) (ak (aj 4) ao)))))))) (bC (sI (tK (aM dG (au (aj 0) (vC (.int 0))) (vC (.str "least")))) (b1 (aB (au (aj 5) (vC (.int 0))))) b0) (bC (sI (tK (aM dG (au (aj 0) (vC (.int 0))) (vC (.str "greatest")))) (b1 (aB (au (aj 5) (vH (vC (.int 1)))))) b0) (b1 (aB (au (aj 5) (qK (bh (ak (aj 5) ao)) (au (aj 0) (vC (.int 1)))))))))))))
noncomputable abbrev aik:SF:=by exists YG
noncomputable def uw:FP:=aJ 7 aik
noncomputable abbrev YH{f:AF}(a:VA f):=vF "_law_worth" ["_law_rule_here", "_law_worths"] uw 3 a
noncomputable abbrev YJ:=(bC (sO 1 (aE (iQ ao))) (bC (sN (sF (fL (ak (bh (ak (aj 0) ao)) ao)) (gV 2) (bC (sA 3 (aE (bh (ak (dw (cO [none,some 0,some 2] ["_law_one", "_law_worths", "_law_thing"] 1 (gV 0) (bQ (bG (xq (ak (au (aj 1) (aj 0)) (ak (au (aj 1) (aj 2)) ao))))) (aj 0))) ao)))) (b1 (dz (TY 1 (ak (aj 3) (ak (aj 2) ao)))))))) (b1 (aB (aj 1)))))
noncomputable abbrev ail:SF:=by exists YJ
noncomputable def Cr:FP:=aJ 4 ail
noncomputable abbrev J7{f:AF}(a:VA f):=vF "_law_order" ["_law_worths"] Cr 2 a
noncomputable abbrev YK:=(bC (sA 3 (aE (pq (ak (aj 0) (ak (aj 1) ao))))) (bC (sA 4 (aE (bh (ak (au (aj 2) (vC (.int 0))) ao)))) (bC (sO 5 (aE (iQ ao))) (bC (sN (sF (fL (ak (bh (ak (aj 2) ao)) ao)) (gV 6) (bC (dz (j7 5 (ak (dK (aj 3) (dJ (aj 4) (vC (.int 1)))) ao))) (b1 (sA 3 (aE (dY (aj 3) (dJ (aj 4) (vC (.int 1)))))))))) (bC (sI (tK (aM dG (dK (aj 3) (vC (.int 4))) (vC (.int 0)))) (b1 (sZ 5 (sO 5 (cC [none] ["_law_depth"] (bK (aj 5)) (gV 0) (dY (aj 0) (vC (.int 2))))))) b0) (bC (sO 7 (aE (iQ ao))) (bC (sA 8 (aE (pq (ak (aj 0) (ak (dJ (aj 1) (vC (.int 1))) ao))))) (bC (sN (sF (fL (ak (bh (ak (aj 2) ao)) ao)) (gV 6) (b1 (sF (fL (ak (aj 4) ao)) (gV 9) (bC (sI (tK (aM dG (dK (aj 8) (vC (.int 5))) (vC (.int 1)))) (b1 (dz (j7 7 (ak (f9 (ak (aj 6) (ak (aj 9) ao))) ao)))) b0) (b1 (sA 8 (aE (dY (aj 8) (vC (.int 5))))))))))) (bC (sI (tK (aM dG (dK (dY (aj 3) (vC (.int 4))) (vC (.int 3))) (vC (.int 0)))) (b1 (sO 7 (aE (iQ ao)))) b0) (b1 (sZ 7 (sZ 5 (aB (f9 (ak (aj 5) (ak (aj 7) ao))))))))))))))))
noncomputable abbrev ain:SF:=by exists YK
noncomputable def J8:FP:=aJ 10 ain
noncomputable abbrev aio{f:AF}(a:VA f):=vF "_law_looks" ["_law_script", "_law_at", "_law_book_here"] J8 2 a
noncomputable abbrev YL:=(bC (sI (tW .Or (wO (bQ (bG (wM (aj 0)))) (w1 .Or (tK (aM g8 (bh (ak (aj 0) ao)) (vC (.int 2))))))) (b1 (aB (vC (.bl false)))) b0) (b1 (aB (vK (aM dG (bh (ak (dw (Bj [none] ["_law_one"] (bK (aj 0)) (gV 0) (tW .Or (wO (bQ (bG (TQ (aj 0)))) (w1 .Or (bG (TV (aj 0)))))) (aj 0))) ao)) (vC (.int 0)))))))
noncomputable abbrev aip:SF:=by exists YL
noncomputable def YM:FP:=aJ 1 aip
noncomputable abbrev aiq{f:AF}(a:VA f):=vF "_law_is" ["_law_found"] YM 1 a
noncomputable abbrev YQ:=(bC (sI (tW .Or (wO (bQ (bG (o7 (aj 1)))) (w1 .Or (tK (aM g8 (bh (ak (aj 1) ao)) (bh (ak (aj 0) ao))))))) (b1 (aB (vC (.bl false)))) b0) (bC (sN (sF (fL (ak (bh (ak (aj 0) ao)) ao)) (gV 3) (bC (sI (tW .Or (wO (bQ (bG (o7 (au (aj 1) (aj 3))))) (w1 .Or (tK (aM g8 (bh (ak (au (aj 1) (aj 3)) ao)) (bh (ak (au (aj 0) (aj 3)) ao))))))) (b1 (aB (vC (.bl false)))) b0) (bC (sF (bK (au (aj 1) (aj 3))) (gV 4) (bC (sI (tW .Or (wO (bQ (bG (aiq (ak (aj 4) ao)))) (wO (tK (aM mW (au (aj 4) (vC (.int 1))) (vC (.int 1)))) (wO (tK (aM mW (au (aj 4) (vC (.int 0))) (vC (.int 0)))) (w1 .Or (tK (aM qL (au (aj 4) (vC (.int 0))) (au (aj 4) (vC (.int 1)))))))))) (b1 (aB (vC (.bl false)))) b0) (b1 (sI (tK (aM g8 (ur (ak (au (aj 4) (vC (.int 0))) (ak (au (aj 4) (vC (.int 1))) ao))) (aj 4))) (b1 (aB (vC (.bl false)))) b0)))) (bC (sA 5 (aE (qj (J7 (ak (au (aj 0) (aj 3)) ao)) oN (oS (au (au (aj 2) (vC (.int 0))) (aj 3)))))) (bC (sI (tK (aM g8 (qj (J7 (ak (au (aj 1) (aj 3)) ao)) oN (oS (au (au (aj 2) (vC (.int 0))) (aj 3)))) (aj 5))) (b1 (aB (vC (.bl false)))) b0) (b1 (sI (tK (aM qL (bh (ak (dw (Bj [none,some 1,some 3,some 0] ["_law_thing", "_law_other", "_law_k", "_law_book_here"] (bK (aj 5)) (gV 0) (tK (aM g8 (au (au (aj 1) (aj 2)) (aj 0)) (au (au (aj 3) (aj 2)) (aj 0)))) (aj 0))) ao)) (vC (.int 0)))) (b1 (aB (vC (.bl false)))) b0)))))))) (b1 (aB (vK (aM dG (bh (ak (dw (Bj [none,some 1,some 0] ["_law_one", "_law_other", "_law_book_here"] (bK (au (aj 2) (vC (.int 1)))) (gV 0) (tK (aM g8 (au (au (aj 1) (au (aj 0) (vC (.int 0)))) (au (aj 0) (vC (.int 1)))) (au (au (aj 2) (au (aj 0) (vC (.int 0)))) (au (aj 0) (vC (.int 1)))))) (aj 0))) ao)) (vC (.int 0))))))))
noncomputable abbrev air:SF:=by exists YQ
noncomputable def YS:FP:=aJ 6 air
noncomputable abbrev YT{f:AF}(a:VA f):=vF "_law_agrees" ["_law_book_here", "_law_other", "_law_looks_here"] YS 3 a
noncomputable abbrev YW:=(bC (sO 3 (aE (iQ ao))) (bC (sN (sF (fL (ak (bh (ak (au (aj 0) (vC (.int 0))) ao)) ao)) (gV 4) (b1 (dz (j7 3 (ak (YH (ak (aj 1) (ak (dw (cC [none,some 4] ["_law_row", "_law_thing"] (bK (aj 0)) (gV 0) (au (aj 0) (aj 1)))) ao))) ao)))))) (bC (sN (sF (bK (aj 2)) (gV 4) (b1 (sF (fL (ak (bh (ak (aj 3) ao)) ao)) (gV 5) (b1 (sI (tW .And (wA (tK (aM Bu (aj 5) (aj 2))) (w1 .And (bG (xq (ak (au (aj 3) (aj 4)) (ak (au (aj 3) (aj 5)) ao))))))) (b1 (aB (vC (.bl false)))) b0)))))) (b1 (aB (vC (.bl true)))))))
noncomputable abbrev ais:SF:=by exists YW
noncomputable def J9:FP:=aJ 6 ais
noncomputable abbrev Ka{f:AF}(a:VA f):=vF "_law_best" ["_law_book_here", "_law_rule_here", "_law_things"] J9 4 a
noncomputable abbrev YX:=(bC (sO 4 (aE (iQ ao))) (bC (sN (sF (fL (ak (bh (ak (aj 2) ao)) ao)) (gV 5) (bC (sA 6 (aE (qj (J7 (ak (au (aj 2) (aj 5)) ao)) oN (oS (au (au (aj 3) (vC (.int 0))) (aj 5)))))) (bC (sO 7 (aE (iQ ao))) (bC (sA 8 (aE (pq (ak (aj 0) (ak (dJ (aj 1) (aj 5)) ao))))) (bC (sF (fL (ak (bh (ak (au (aj 2) (aj 5)) ao)) ao)) (gV 9) (bC (sA 10 (aE (au (au (aj 2) (aj 5)) (aj 9)))) (bC (sI (tW .And (wA (tK (aM Bu (aj 9) (aj 6))) (w1 .And (tK (aM Bu (f9 (ak (aj 5) (ak (aj 9) ao))) (au (aj 3) (vC (.int 1)))))))) (bC (sA 11 (aE (mQ [.int 1,.int 1]))) (bC (sA 12 (aE (vC (.bl true)))) (bC (sI (tK (aM qL (bh (ak (aj 6) ao)) (vC (.int 0)))) (bC (sA 11 (aE (au (au (aj 2) (aj 5)) (au (aj 6) (vH (vC (.int 1))))))) (b1 (sA 12 (aE (vK (aM qL (aj 9) (au (aj 6) (vH (vC (.int 1)))))))))) b0) (bC (sA 10 (aE (J3 (ak (aj 11) (ak (ur (ak (dK (aj 8) (vC (.int 8))) (ak (vC (.int 8)) ao))) ao))))) (bC (sI (tW .And (wA (tK (aM dG (dK (dY (aj 8) (vC (.int 8))) (vC (.int 3))) (vC (.int 0)))) (w1 .And (bG (aj 12))))) (b1 (sA 10 (aE (aj 11)))) b0) (b1 (sI (tK (aM dG (dK (dY (aj 8) (vC (.int 8))) (vC (.int 3))) (vC (.int 1)))) (b1 (sA 10 (aE (mQ [.int 0,.int 1])))) b0))))))) b0) (bC (dz (j7 7 (ak (aj 10) ao))) (b1 (sA 8 (aE (dY (aj 8) (vC (.int 24)))))))))) (b1 (sZ 7 (dz (j7 4 (ak (aj 7) ao))))))))))) (b1 (aB (aj 4)))))
noncomputable abbrev ait:SF:=by exists YX
noncomputable def Kc:FP:=aJ 13 ait
noncomputable abbrev aiu{f:AF}(a:VA f):=vF "_law_filled" ["_law_script", "_law_at", "_law_book_here", "_law_looks_here"] Kc 3 a
noncomputable abbrev YZ:=(bC (sA 1 (aE (aif (ak (aj 0) (ak (vC (.int 0)) (ak (vC (.int 4)) (ak (vC (.int 12)) ao))))))) (bC (sA 2 (aE (aio (ak (aj 0) (ak (vC (.int 5)) (ak (aj 1) ao)))))) (bC (sA 3 (aE (aij (ak (pq (ak (aj 0) (ak (vC (.int 7)) ao))) (ak (bh (ak (aj 1) ao)) ao))))) (bC (sA 4 (aE (dK (pq (ak (aj 0) (ak (vC (.int 8)) ao))) (dJ (bh (ak (au (aj 1) (vC (.int 0))) ao)) (vC (.int 1)))))) (bC (sA 5 (aE (ahx (ak (aj 1) (ak (aj 3) (ak (aj 4) (ak (aj 2) ao))))))) (bC (sA 6 (aE (aho (ak (aj 1) (ak (aj 3) (ak (aj 2) ao)))))) (bC (sI (tW .And (wA (tK (aM IV (aj 5) (vC .non))) (w1 .And (bQ (bG (Ka (ak (aj 1) (ak (aj 3) (ak (aj 5) ao))))))))) (b1 (aB (vC (.bl false)))) b0) (bC (sN (sF (fL (ak (vC (.int 8)) ao)) (gV 7) (bC (sA 8 (aE (aiu (ak (aj 0) (ak (dJ (vC (.int 10)) (cF (vC (.int 4)) (aj 7))) (ak (aj 1) (ak (aj 2) ao))))))) (bC (sI (bQ (bG (YT (ak (aj 1) (ak (aj 8) (ak (aj 2) ao)))))) (b1 (aB (vC (.bl false)))) b0) (bC (sI (tW .And (wA (tK (aM IV (aj 5) (vC .non))) (w1 .And (bQ (bG (Ka (ak (aj 8) (ak (aj 3) (ak (aj 5) ao))))))))) (b1 (aB (vC (.bl false)))) b0) (b1 (sF (fL (ak (bh (ak (aj 6) ao)) ao)) (gV 9) (bC (sA 10 (aE (YH (ak (aj 3) (ak (dw (cC [none,some 9] ["_law_row", "_law_thing"] (bK (aj 8)) (gV 0) (au (aj 0) (aj 1)))) ao))))) (b1 (sI (tW .Or (wO (bG (xq (ak (aj 10) (ak (au (au (aj 6) (aj 9)) (vC (.int 0))) ao)))) (w1 .Or (bG (xq (ak (au (au (aj 6) (aj 9)) (vC (.int 1))) (ak (aj 10) ao))))))) (b1 (aB (vC (.bl false)))) b0)))))))))) (bC (sI (tK (aM qN (aj 5) (vC .non))) (bC (sA 11 (aE (TJ (ak (dw (cC [none,none] ["_law_thing", "_law_worth_here"] (bK (agE (ak (aj 1) (ak (aj 3) (ak (aj 4) ao))))) (fK 2 (bJ (gV 0) (bJ (gV 1) fJ))) (aj 0))) ao)))) (bC (sA 8 (aE (Yv (ak (aj 1) (ak (aj 3) (ak (aj 11) (ak (aj 2) ao))))))) (b1 (aB (vV .And (uA (vK (aM IV (aj 8) (vC .non))) (uA (YT (ak (aj 1) (ak (aj 8) (ak (aj 2) ao)))) (u1 .And (Gf (Ka (ak (aj 8) (ak (aj 3) (ak (aj 11) ao))))))))))))) b0) (b1 (aB (vK (aM qN (Yv (ak (aj 1) (ak (aj 3) (ak (aj 5) (ak (aj 2) ao))))) (vC .non))))))))))))))
noncomputable abbrev aiv:SF:=by exists YZ
noncomputable def ux:FP:=aJ 12 aiv
theorem p18:uJ (.int 10) (.int 18)=.ok (.int 1000000000000000000,false):=by kernel_rfl
theorem p60:uJ (.int 10) (.int 60)=.ok (.int 1000000000000000000000000000000000000000000000000000000000000,false):=by kernel_rfl
theorem aat{rows:List (List (Int × Int))}(h:0<rows.length):aW (aO rows) (.int 0)=.ok (aG (rows.getD 0 []),false):=jM h
theorem half{d:Nat}:yP (.int d) (.int 2)=.ok (.int ((d / 2:Nat):Int),false):=by
 refine(LQ (Ma (by lia) (by lia))).trans ?_
 rw[Int.fdiv_eq_ediv_of_nonneg _ (by lia)]
 rfl
theorem qY{α : Type}{f : α -> Tr}{l:List α}{d:Nat}:jx none (some (d:Int)) (.lst (l.map f))=.ok (.lst ((l.take d).map f),true):=by
 show Rs.ok (Tr.lst (cut (l.map f) none (some (d:Int))),true)=_
 rw[Jt,<-List.map_take]
theorem Bk.lt{m k t:Nat}{rows:List (List (Int × Int))}(hB:Bk m rows)(hk:k<rows.length)(ht:t<m):t<(rows.getD k []).length:=by rw[(hB.row hk).2.1]; exact ht
theorem inP{f:Bool->Bool}{k t:Nat}{as:List (Nat × Nat)}:jW f (.tup [.int k,.int t]) (.lst (as.map pT))=.ok (.bl (f (decide ((k,t)∈as))),false):=ahE f (k,t) as
theorem aax{L:List Nat}:aW (.lst (L.map iT++[.int 0])) (.int (L.length-1))=.ok (iT (L.getLastD 0),false):=by
 cases L with
 |nil=>rfl
 |cons x L =>
  rw[show((x::L).length:Int)-1=(L.length:Nat) by simp]
  refine lC ?_
  rw[List.getElem?_append_left (by simp),List.getElem?_map,List.getLastD_eq_getLast?,List.getLast?_eq_getElem?]
  simp
theorem aav{n:Nat}{a b:Int}{y:Int × Int}:aW (.lst [.tup [.int a,.int b],fT y]) (.int (if decide (0<(n:Int))=true then 1 else 0))=.ok (fT (if 0<n then y else(a,b)),false):=by
 by_cases h:0<n
 .rw[if_pos (decide_eq_true (by lia)),if_pos h]; rfl
 .rw[if_neg (by simp; lia),if_neg h]; rfl
theorem pick{b:Bool}{x y:Int × Int}:aW (.lst [fQ b x,fT y]) (.int (if id (yL (fQ b x))=true then 1 else 0))=.ok (fT (if b=true then x else y),false):=by cases b <;> rfl
theorem aaw{b:Bool}{x:Int × Int}{c d:Int}:aW (.lst [fQ b x,.tup [.int c,.int d]]) (.int (if id (yL (fQ b x))=true then 1 else 0))=.ok (fT (if b=true then x else(c,d)),false):=pick (y:=(c,d))
theorem aau{b:Bool}{x:Int × Int}:aW (.lst [.non,fT x]) (.int (if b=true then 1 else 0))=.ok (fQ b x,false):=by cases b <;> rfl
theorem cell_eq(ns:List Int)(k:Nat):∃x:Int,J0 [.lst (ns.map .int),.int k]=.ok (.int x,false)/\0<=x/\x<2 ^ 200:=by
 have a1:=p18
 have a2:=p60
 have big:∀c:Int,0<=c.fmod 1000000000000000000000000000000000000000000000000000000000000/\c.fmod 1000000000000000000000000000000000000000000000000000000000000<2 ^ 200:=λc=>(jd c _ (by decide)).imp id λh=>Int.lt_trans h (by decide)
 have c1:∀c:Int,cX (c.fmod 2147483629) (c.fmod 2147483629)=true:=λc=>by
  have:=jd c 2147483629 (by lia)
  exact jF (M:=40) (N:=40) (by lia) (by lia) (by lia) (by lia)
 have c2:∀c:Int,cX (c.fmod 2147483587) (c.fmod 2147483587)=true:=λc=>by
  have:=jd c 2147483587 (by lia)
  exact jF (M:=40) (N:=40) (by lia) (by lia) (by lia) (by lia)
 have fin:∀c d:Int,0<=c.fmod 2147483587*2147483563+d.fmod 2147483563/\c.fmod 2147483587*2147483563+d.fmod 2147483563<2 ^ 200:=λc d=>by
  have:=jd c 2147483587 (by lia)
  have:=jd d 2147483563 (by lia)
  lia
 by_cases z:k<ns.length
 .have g:=m9 (f:=Tr.int) 0 z
  by_cases y:1000000000000000000<=ns.getD k 0 <;> apply T8
  .walk_at "d"
  .exact big _
  .walk_at "d"
  .exact fin _ _
 .apply T8
  .walk_at "d"
  .exact fin _ _
theorem uy{a b:Int}{M:Nat}(ha:0<=a)(hb:1<=b)(hb2:b<2 ^ M)(hM:M<=8900):uq [.int a,.int b]=.ok (fT (red a b),false):=by
 have np:=gD M
 obtain⟨g1,g2,_⟩:=pU (a:=a) (b:=b) (by lia)
 have c1:∀n,iy n ((Int.gcd a b:Nat):Int)=true:=λn=>wR (M:=M) (by lia) (by lia) hM
 walk_at "d"
 refine T7 [] (λs:Int × Int=>[(2,.sh (.int s.1)),(3,.sh (.int s.2))]) (λs=>0<=s.1/\0<=s.2/\Int.gcd s.1 s.2=Int.gcd a b) (λs=>s.2.natAbs) (a,b) ⟨ha,by lia,rfl⟩ rfl (by show b.natAbs<b.natAbs+1; lia) ?_
 rintro v ⟨x,y⟩ ⟨h1,h2,h3⟩
 dsimp only[pt,List.map,List.set]at *
 by_cases z:0<y
 .have r:=jd x y z
  apply Bv
  walk_at "r"
  exact⟨(y,x.fmod y),⟨h2,r.1,by rw[<-h3]; exact Py ..⟩,Px x y (by lia),λ_=>.un,rfl⟩
 .obtain rfl:y=0:=by lia
  obtain rfl:x=(Int.gcd a b:Nat):=by rw[<-h3,Int.gcd_zero_right]; lia
  apply Bv
  walk_at "r"
  unfold fT red
  rw[Int.fdiv_eq_ediv_of_nonneg _ (by lia),Int.fdiv_eq_ediv_of_nonneg _ (by lia)]
  rfl
theorem Y0{x y:Int × Int}{M N:Nat}(hx:Fq M x)(hy:Fq N y)(hM:M+N<=8900):J4 [fT x,fT y]=.ok (.bl (aN x y),false):=by
 obtain⟨_,c1,c2,_⟩:=mulC hx hy hM
 walk_at "d"
theorem mul_eq{x y:Int × Int}{M N:Nat}(hx:Fq M x)(hy:Fq N y)(hM:M+N<=8900):J1 [fT x,fT y]=.ok (fT (aP x y),false):=by
 obtain⟨c1,_,_,c4⟩:=mulC hx hy hM
 have p:=Int.mul_pos (a:=x.2) (b:=y.2) (by have:=hx.2.2.1; lia) (by have:=hy.2.2.1; lia)
 have e:=uy (a:=x.1*y.1) (b:=x.2*y.2) (M:=M+N) (Int.mul_nonneg hx.1 hy.1) (by lia) (ig (by have:=hx.2.2.1; lia) hx.2.2.2.1 (by have:=hy.2.2.1; lia) hy.2.2.2.1) hM
 walk_at "d"
theorem add_eq{x y:Int × Int}{M N:Nat}(hx:Fq M x)(hy:Fq N y)(hM:M+N<=8900):Yz [fT x,fT y]=.ok (fT (sumF x y),false):=by
 obtain⟨_,c2,c3,c4⟩:=mulC hx hy hM
 have x3:=hx.2.2.1
 have y3:=hy.2.2.1
 have p:=Int.mul_pos (a:=x.2) (b:=y.2) (by lia) (by lia)
 have e:=uy (a:=x.1*y.2+y.1*x.2) (b:=x.2*y.2) (M:=M+N) (Int.add_nonneg (Int.mul_nonneg hx.1 (by lia)) (Int.mul_nonneg hy.1 (by lia))) (by lia) (ig (by lia) hx.2.2.2.1 (by lia) hy.2.2.2.1) hM
 walk_at "d"
theorem Cu(ns:List Int){i:Int}(h:0<=i):∃x:Int,J0 [.lst (ns.map .int),.int i]=.ok (.int x,false)/\0<=x/\x<2 ^ 200:=by
 obtain⟨k,rfl⟩:=Int.eq_ofNat_of_zero_le h
 exact cell_eq ns k
theorem Kd(x:Int){n:Nat}(h:1<=n):∃m:Nat,1<=m/\m<=n/\n8 (.int 1) (.int (x.fmod n))=.ok (.int m,false):=by
 have r:=jd x n (by lia)
 exact⟨(1+x.fmod n).toNat,by lia,by lia,by rw[Int.toNat_of_nonneg (by lia)]; rfl⟩
theorem aiw{z b:Int}(h0:0<=z)(h1:z<=b)(h2:1<=b)(h3:b<=1000000000000):Wo (red z b):=by
 obtain⟨g1,g2,g3,g4,g5,g6,g7⟩:=pU (a:=z) (b:=b) (by lia)
 have d2:=Int.ediv_le_self (a:=b) ((Int.gcd z b:Nat):Int) (by lia)
 have d3:=Int.ediv_le_ediv g1 h1
 exact⟨g5 h0,d3,g3,by show b / ((Int.gcd z b:Nat):Int)<=_; lia,g4⟩
noncomputable def Cv(b:Int)(x:Int × Int):Prop:=Wo x/\x.2∣b
theorem aix(x:Int):∃b:Int,aW (.lst [.int 2,.int 3,.int 4,.int 6,.int 10,.int 24,.int 97,.int 999999999999]) (.int (x.fmod 8))=.ok (.int b,false)/\1<=b/\b<=1000000000000:=by
 have r:=jd x 8 (by lia)
 obtain⟨k,hk⟩:=Int.eq_ofNat_of_zero_le r.1
 rw[hk]
 have:k<8:=by lia
 rcases k with _|_|_|_|_|_|_|_|k <;> first|exact⟨_,rfl,by decide,by decide⟩|lia
theorem snoc{α : Type}{p : α -> Prop}{l:List α}{x : α}(h:∀y∈l,p y)(k:p x):∀y∈l++[x],p y:=λy hy=>(List.mem_append.mp hy).elim (h y) λz=>List.mem_singleton.mp z▸k
theorem pA{α β : Type}{f : α -> β}{l:List α}{x : α}:l.map f++[f x]=(l++[x]).map f:=by simp
theorem aiy(ns:List Int)(a:Nat){L M:Nat}(hL:1<=L/\L<=4)(hM:1<=M/\M<=12):∃(m:Nat) (rows:List (List (Int × Int))),Bk m rows/\(∃D,Bd D rows)/\m<=M/\rows.length<=L/\J5 [.lst (ns.map .int),.int a,.int L,.int M]=.ok (aO rows,true):=by
 obtain⟨x,ex,_⟩:=cell_eq ns a
 obtain⟨m,m1,m2,em⟩:=Kd x hM.1
 obtain⟨w,w1,w2,ew⟩:=Kd (x.fdiv M) hL.1
 obtain⟨b,eb,b1,b2⟩:=aix (x.fdiv 1000)
 suffices h:∃z,J5 [.lst (ns.map .int),.int a,.int L,.int M]=.ok z/\∃rows:List (List (Int × Int)),(rows.length=w/\∀l∈rows,l.length=m/\∀x∈l,Cv b x)/\z=(aO rows,true) by
  obtain⟨_,e,rows,⟨h1,h2⟩,rfl⟩:=h
  exact⟨m,rows,⟨by lia,by lia,by lia,by lia,λl hl=>⟨(h2 l hl).1,λx hx=>((h2 l hl).2 x hx).1⟩⟩,⟨b,b1,b2,λl hl x hx=>((h2 l hl).2 x hx).2⟩,m2,by lia,e⟩
 walk_at "e"
 refine jr [9,10,11,12] (λs:List (List (Int × Int))=>[(8,.ow (s.map aG))]) (λk s=>s.length=k/\∀l∈s,l.length=m/\∀x∈l,Cv b x) [] ⟨rfl,λ_ h=>by cases h⟩ rfl (λk v rows hk ⟨i1,i2⟩=>?_) (λv rows i=>?_)
 rotate_left
 .walk_at "p"
  exact⟨_,rfl,rows,i,rfl⟩
 obtain⟨o,eo,_⟩:=Cu ns (i:=(a:Int)+1+k) (by lia)
 walk_at "p"
 refine jr [12] (λs:Int × List (Int × Int)=>[(10,.sh (.int s.1)),(11,.ow (s.2.map fT))]) (λk s=>s.2.length=k/\∀x∈s.2,Cv b x) (o,[]) ⟨rfl,λ_ h=>by cases h⟩ rfl (λt v s ht ⟨j1,j2⟩=>?_) (λv s j=>?_)
 .obtain⟨o1,l⟩:=s
  have j1:l.length=t:=j1
  obtain⟨o2,eo2,_⟩:=Cu ns (i:=((a:Int)+1+k+5*t).fmod 63) (jd _ _ (by lia)).1
  have fr:∀o:Int,uq [.int (o.fmod (b+1)),.int b]=.ok (fT (red (o.fmod (b+1)) b),false)/\Cv b (red (o.fmod (b+1)) b):=λo=>by
   have r:=jd o (b+1) (by lia)
   exact⟨uy (M:=60) r.1 b1 (by lia) (by lia),aiw r.1 (by lia) b1 b2,Int.ediv_dvd_of_dvd (Int.gcd_dvd_right ..)⟩
  have f1:=fr o1
  have f2:=fr o2
  have e1:=f1.1
  have e2:=f2.1
  by_cases h:100<b
  .walk_at "p"
   exact⟨(_,l++[_]),⟨by simp[j1],snoc j2 f2.2⟩,exV (by rw[<-pA]; rfl)⟩
  .walk_at "p"
   exact⟨(_,l++[_]),⟨by simp[j1],snoc j2 f1.2⟩,exV (by rw[<-pA]; rfl)⟩
 .walk_at "p"
  exact⟨rows++[s.2],⟨by simp[i1],snoc i2 j⟩,exV (by rw[<-pA]; rfl)⟩
theorem Y4(x:Int)(m:Nat):∃d:Nat,d<=m/\yQ (.int x) (.int ((m:Int)+1))=.ok (.int d,false):=by
 have r:=jd x (m+1) (by omega)
 exact⟨(x.fmod (m+1)).toNat,by omega,by rw[Int.toNat_of_nonneg r.1]; exact LK (by omega)⟩
noncomputable def Ak(m k j:Nat)(as:List (Nat × Nat)):Prop:=as.Pairwise Lx/\(∀p∈as,Lx p (k,j)/\p.2<m)/\as.length<=m*k+j
theorem Ak.step{m k j:Nat}{as r:List (Nat × Nat)}(h:Ak m k j as)(hj:j<m)(hr:r=[]\/r=[(k,j)]):Ak m k (j+1) (as++r):=by
 obtain⟨h1,h2,h3⟩:=h
 have lx:∀p,Lx p (k,j)->Lx p (k,j+1):=λp q=>by
  unfold Lx at *
  rcases q with q|q
  .exact .inl q
  .exact .inr ⟨q.1,by have:=q.2; dsimp only at this ⊢; omega⟩
 rcases hr with rfl|rfl
 .rw[List.append_nil]
  exact⟨h1,λp m=>⟨lx p (h2 p m).1,(h2 p m).2⟩,by omega⟩
 .refine⟨List.pairwise_append.mpr ⟨h1,List.pairwise_singleton _ _,λp mp q mq=>?_⟩,λp mp=>?_,by rw[List.length_append,List.length_singleton]; omega⟩
  .rw[List.mem_singleton.mp mq]
   exact(h2 p mp).1
  .rcases List.mem_append.mp mp with mp|mp
   .exact⟨lx p (h2 p mp).1,(h2 p mp).2⟩
   .rw[List.mem_singleton.mp mp]
    exact⟨.inr ⟨rfl,Nat.lt_succ_self j⟩,hj⟩
theorem Ak.next{m k:Nat}{as:List (Nat × Nat)}(h:Ak m k m as):Ak m (k+1) 0 as:=by
 obtain⟨h1,h2,h3⟩:=h
 refine⟨h1,λp m=>⟨.inl ?_,(h2 p m).2⟩,by rw[Nat.mul_succ]; omega⟩
 rcases(h2 p m).1 with q|q
 .dsimp only at q ⊢; omega
 .have:=q.1; dsimp only at this ⊢; omega
theorem Ak.lk{n m:Nat}{ds:List Nat}{as:List (Nat × Nat)}(h1:ds.length=n)(h2:∀d∈ds,d<=m)(hn:n<=4)(hm:m<=12)(h:Ak m n 0 as):Lk n m ds as:=by
 have mk:m*n<=12*4:=Nat.mul_le_mul hm hn
 refine⟨h1,h2,h.1,by have:=h.2.2; omega,λp mp=>⟨?_,(h.2.1 p mp).2⟩⟩
 rcases(h.2.1 p mp).1 with q|q
 .exact q
 .have:=q.2; dsimp only at this; omega
theorem aiz(ns:List Int)(a:Nat){m:Nat}{rows:List (List (Int × Int))}(hB:Bk m rows):∃(ds:List Nat) (as:List (Nat × Nat)),Lk rows.length m ds as/\J8 [.lst (ns.map .int),.int a,aO rows]=.ok (dM ds as,false):=by
 obtain⟨b1,b2,b3,b4,b5⟩:=id hB
 have l0:=(hB.row b1).2.1
 obtain⟨x,ex,_⟩:=cell_eq ns a
 obtain⟨y,ey,_⟩:=Cu ns (i:=(a:Int)+1) (by omega)
 have el:eH (aG (rows.getD 0 []))=.ok (.int m,false):=by rw[jy,l0]
 suffices h:∃z,J8 [.lst (ns.map .int),.int a,aO rows]=.ok z/\∃ds as,Lk rows.length m ds as/\z=(dM ds as,false) by
  obtain⟨_,e,ds,as,h,rfl⟩:=h
  exact⟨ds,as,h,e⟩
 walk_at "e"
 refine jr [6] (λs:Int × List Nat=>[(3,.sh (.int s.1)),(5,.ow (s.2.map iT))]) (λk s=>s.2.length=k/\∀d∈s.2,d<=m) (x,[]) ⟨rfl,λ_ h=>by cases h⟩ rfl (λk v s hk i=>?_) (λv s i=>?_)
 .obtain⟨x,ds⟩:=s
  obtain⟨d,hd,ed⟩:=Y4 x m
  have i1:ds.length=k:=i.1
  walk_at "p"
  exact⟨(_,ds++[d]),⟨by simp[i1],snoc i.2 hd⟩,exV (by rw[<-pA]; rfl)⟩
 obtain⟨x,ds⟩:=s
 have i1:ds.length=rows.length:=i.1
 walk_at "p"
 refine Bw (λs=>[(5,.ow (s.map iT))]) (λs:List Nat=>s.length=rows.length/\∀d∈s,d<=m) ?_ λds i=>?_
 .by_cases z:x.fmod 4=0
  .walk_at "r"
   exact⟨rfl,ds.map (· / 2),⟨by simp[i1],λd hd=>by obtain⟨e,he,rfl⟩:=List.mem_map.mp hd; have:=i.2 e he; omega⟩,by rw[List.map_map]; rfl⟩
  .walk_at "r"
   exact⟨rfl,ds,i,rfl⟩
 walk_at "p"
 refine jr [6,9] (λs:Int × List (Nat × Nat)=>[(8,.sh (.int s.1)),(7,.ow (s.2.map pT))]) (λk s=>Ak m k 0 s.2) (y,[]) ⟨.nil,λ_ h=>(by cases h),Nat.zero_le _⟩ rfl (λk v s hk ia=>?_) (λv s ia=>?_)
 .have mk:m*k<=12*4:=Nat.mul_le_mul b4 (by omega)
  obtain⟨o,as⟩:=s
  walk_at "p"
  refine jr [9] (λs:Int × List (Nat × Nat)=>[(8,.sh (.int s.1)),(7,.ow (s.2.map pT))]) (λj s=>Ak m k j s.2) (o,as) ia rfl (λj v s hj ij=>?_) (λv s ij=>⟨s,ij.next,exV rfl⟩)
  obtain⟨o,as⟩:=s
  have la:as.length<=m*k+j:=ij.2.2
  by_cases z:o.fmod 5=1
  .walk_at "p"
   exact⟨(_,as++[(k,j)]),ij.step hj (.inr rfl),exV (by rw[<-pA]; rfl)⟩
  .walk_at "p"
   exact⟨(_,as),by have:=ij.step hj (.inl rfl); rwa[List.append_nil]at this,exV rfl⟩
 obtain⟨o,as⟩:=s
 walk_at "p"
 refine Bw (λs=>[(7,.ow (s.map pT))]) (λs:List (Nat × Nat)=>s=as\/s=[]) ?_ λas' ia'=>?_
 .by_cases z:(x.fdiv 4).fmod 3=0
  .walk_at "r"
   exact⟨rfl,[],.inr rfl,rfl⟩
  .walk_at "r"
   exact⟨rfl,as,.inl rfl,rfl⟩
 walk_at "p"
 refine⟨_,rfl,ds,as',?_,rfl⟩
 have L:=Ak.lk i.1 i.2 b2 b4 ia
 rcases ia' with rfl|rfl
 .exact L
 .exact⟨L.1,L.2.1,.nil,by simp,λ_ h=>by cases h⟩
end K91
end
section
namespace BH
open PySem L2
theorem uz(hB:0<=B)(hx:Fx x):Fx (sc B x):=JD hx ⟨hB,Int.le_refl 1,by show Int.gcd B 1=1; simp⟩
theorem Y5(hx:Fx x):sc 1 x=x:=by
 unfold sc aP red
 rw[Int.mul_one,Int.mul_one,hx.2.2]
 simp
theorem Y6{xs:List (Int × Int)}(hx:∀x∈xs,Fx x)(h1:1<=xs.length)(ho:bD xs.length r)(hB:1<=B):Sc (fV 1 B xs.length r) (wv r xs) (wv r (xs.map (sc B))):=by
 have hy:∀x∈xs.map (sc B),Fx x:=λy m=>by
  obtain⟨x,mx,rfl⟩:=List.mem_map.mp m
  exact uz (by lia) (hx x mx)
 have ll:(xs.map (sc B)).length=xs.length:=List.length_map ..
 have px:∀x∈xs,1<=x.2/\1<=(sc B x).2:=λx m=>⟨(hx x m).2.1,(uz (by lia) (hx x m)).2.1⟩
 have h:=(mZ (r:=r) hx h1 ho).1
 have h':=(mZ (r:=r) hy (by lia) (by rw[ll]; exact ho)).1
 have pl:(∃zs,bZ xs zs/\zs[dD xs.length r-1]?=some (wv r xs))->(∃zs,bZ (xs.map (sc B)) zs/\zs[dD (xs.map (sc B)).length r-1]?=some (wv r (xs.map (sc B))))->Sc B (wv r xs) (wv r (xs.map (sc B))):=λ⟨zs,d,e1⟩ ⟨zs',d',e2⟩=>by
  have dm:bZ (xs.map (sc B)) (zs.map (sc B)):=⟨d.1.map _,by
   rw[List.pairwise_map]
   refine d.2.imp_of_mem λ{a b} ma mb hab=>?_
   have ma:=px a (d.1.mem_iff.mp ma)
   have mb:=px b (d.1.mem_iff.mp mb)
   exact(Sc.le hB mb.1 mb.2 ma.1 ma.2 (iu mb.1) (iu ma.1)).mpr hab⟩
  rw[bZ.uniq (JF hy) d' dm,ll,List.getElem?_map,e1]at e2
  exact Option.some.inj e2▸iu (px _ (d.1.mem_iff.mp (List.mem_of_getElem? e1))).1
 cases r with
 |sh ws =>
  have e:ws.map (sc 1)=ws:=(List.map_congr_left λw m=>Y5 (ho.2 w m).fx).trans (List.map_id _)
  have:=JX (B:=B) (k:=1) ws xs (0,1) (0,1) (λw m=>by rw[Y5 (ho.2 w m).fx]; exact⟨(ho.2 w m).2.2.1,(ho.2 w m).2.2.1⟩) px (by decide) (by decide) (by unfold Sc; simp)
  rw[e]at this
  rw[show wv (.sh ws) xs=_ from h,show wv (.sh ws) (xs.map (sc B))=_ from h']
  exact this
 |product =>
  have:=JZ (B:=B) xs 1 (1,1) (1,1) px (by decide) (by decide) (by unfold Sc; simp)
  rw[Int.one_mul]at this
  rw[show wv .product xs=_ from h,show wv .product (xs.map (sc B))=_ from h']
  exact this
 |least=>exact pl h h'
 |greatest=>exact pl h h'
 |mid k=>exact pl h h'
theorem aiA{n:Nat}{q:Int}(hq:2<=q)(h1:1<=n)(h4:n<=4)(r:Ru):fV 1 q n r*(q-n)<=fV 1 (q-1) n r*q/\1<=fV 1 q n r/\1<=fV 1 (q-1) n r:=by
 have one:q*(q-n)<=(q-1)*q:=by
  rw[Int.mul_comm (q-1)]
  exact Int.mul_le_mul_of_nonneg_left (by lia) (by lia)
 have pw:∀b:Int,1<=b->1<=b ^ n:=λb hb=>Int.pow_pos (show 0<b by lia)
 cases r with
 |product =>
  refine⟨?_,pw _ (by lia),pw _ (by lia)⟩
  show q ^ n*(q-n)<=(q-1) ^ n*q
  have p:=Int.mul_nonneg (show 0<=q by lia) (show 0<=q by lia)
  have c:n=1\/n=2\/n=3\/n=4:=by lia
  rcases c with rfl|rfl|rfl|rfl
  .have:(q-1) ^ 1*q-q ^ 1*(q-(1:Nat))=0:=by grind
   lia
  .have:(q-1) ^ 2*q-q ^ 2*(q-(2:Nat))=q:=by grind
   lia
  .have:(q-1) ^ 3*q-q ^ 3*(q-(3:Nat))=q*(3*q-1):=by grind
   have:=Int.mul_nonneg (a:=q) (b:=3*q-1) (by lia) (by lia)
   lia
  .have:(q-1) ^ 4*q-q ^ 4*(q-(4:Nat))=q*(6*(q*q)-4*q+1):=by grind
   have:=Int.mul_le_mul_of_nonneg_left (show 2<=q from hq) (show 0<=q by lia)
   have:=Int.mul_nonneg (a:=q) (b:=6*(q*q)-4*q+1) (by lia) (by lia)
   lia
 |sh ws =>
  show 1*q*(q-n)<=1*(q-1)*q/\1<=1*q/\1<=1*(q-1)
  rw[Int.one_mul,Int.one_mul]
  exact⟨one,by lia,by lia⟩
 |least=>exact⟨one,by show 1<=q; lia,by show 1<=q-1; lia⟩
 |greatest=>exact⟨one,by show 1<=q; lia,by show 1<=q-1; lia⟩
 |mid k=>exact⟨one,by show 1<=q; lia,by show 1<=q-1; lia⟩
theorem Y7{c d:Int}(hx:1<=x.2)(hx':1<=x'.2)(hy:1<=y.2)(hy':1<=y'.2)(a:Sc c x x')(b:Sc d y y'):le2 x' y'↔c*x.1*y.2<=d*y.1*x.2:=by
 unfold Sc at a b
 unfold le2
 have p1:=Int.mul_pos (a:=x.2) (b:=y.2) (by lia) (by lia)
 have p2:=Int.mul_pos (a:=x'.2) (b:=y'.2) (by lia) (by lia)
 have e1:x'.1*y'.2*(x.2*y.2)=c*x.1*y.2*(x'.2*y'.2):=by grind
 have e2:y'.1*x'.2*(x.2*y.2)=d*y.1*x.2*(x'.2*y'.2):=by grind
 rw[<-Int.mul_le_mul_right p1,e1,e2,Int.mul_le_mul_right p2]
theorem aiB{xs ys:List (Int × Int)}{q:Int}{a:Int × Int}(hx:∀x∈xs,Fx x)(hy:∀y∈ys,Fx y)(hl:xs.length=ys.length)(h1:1<=xs.length)(h4:xs.length<=4)(ho:bD xs.length r)(hq:2<=q)(h:∀k,k<xs.length->(q-1)*(xs.getD k (0,1)).1*(ys.getD k (0,1)).2<=q*(ys.getD k (0,1)).1*(xs.getD k (0,1)).2)
  (ha:1<=a.2) (hw:xs.length*(wv r xs).1*a.2<q*((wv r xs).1*a.2-a.1*(wv r xs).2)):aN a (wv r ys)=true:=by
 have mx:∀x∈xs.map (sc (q-1)),Fx x:=λy m=>by
  obtain⟨x,mx,rfl⟩:=List.mem_map.mp m
  exact uz (by lia) (hx x mx)
 have my:∀x∈ys.map (sc q),Fx x:=λy m=>by
  obtain⟨x,mx,rfl⟩:=List.mem_map.mp m
  exact uz (by lia) (hy x mx)
 have lx:(xs.map (sc (q-1))).length=xs.length:=List.length_map ..
 have ly:(ys.map (sc q)).length=ys.length:=List.length_map ..
 have m:=Ci (r:=r) mx my (by lia) (by lia) (by rw[lx]; exact ho) λk hk=>by
  have fx:=hx _ (getM (d:=(0,1)) (by lia:k<xs.length))
  have fy:=hy _ (getM (d:=(0,1)) (by lia:k<ys.length))
  rw[qU,qU]
  exact(Y7 fx.2.1 (uz (by lia) fx).2.1 fy.2.1 (uz (by lia) fy).2.1 (iu fx.2.1) (iu fy.2.1)).mpr (h k (by lia))
 have f1:=(mZ (r:=r) hx h1 ho).2
 have f2:=(mZ (r:=r) hy (by lia) (hl▸ho)).2
 have f3:=(mZ (r:=r) mx (by lia) (by rw[lx]; exact ho)).2
 have f4:=(mZ (r:=r) my (by lia) (by rw[ly,<-hl]; exact ho)).2
 have k1:=(Y7 f1.2.1 f3.2.1 f2.2.1 f4.2.1 (Y6 hx h1 ho (by lia)) (Y6 hy (by lia) (hl▸ho) (by lia))).mp m
 rw[<-hl]at k1
 obtain⟨b1,b2,b3⟩:=aiA (n:=xs.length) hq h1 h4 r
 generalize wv r ys=V,wv r xs=W,fV 1 q xs.length r=S,fV 1 (q-1) xs.length r=P at *
 have p1:=Int.mul_le_mul_of_nonneg_right k1 (show 0<=q*a.2 from Int.mul_nonneg (by lia) (by lia))
 have p2:=Int.mul_le_mul_of_nonneg_right b1 (show 0<=W.1*(V.2*a.2)from Int.mul_nonneg f1.1 (Int.mul_nonneg (by have:=f2.2.1; lia) (by lia)))
 have p3:=Int.mul_lt_mul_of_pos_right hw (show 0<S*V.2 from Int.mul_pos (by lia) (by have:=f2.2.1; lia))
 have pos:0<S*q*W.2:=Int.mul_pos (Int.mul_pos (by lia) (by lia)) (by have:=f1.2.1; lia)
 unfold aN
 refine decide_eq_true (Int.lt_of_mul_lt_mul_right (a:=S*q*W.2) ?_ (by lia))
 have e1:a.1*V.2*(S*q*W.2)=q*(a.1*W.2)*(S*V.2):=by grind
 have e2:V.1*a.2*(S*q*W.2)=S*V.1*W.2*(q*a.2):=by grind
 have e3:q*(W.1*a.2-a.1*W.2)*(S*V.2)=q*(W.1*a.2)*(S*V.2)-q*(a.1*W.2)*(S*V.2):=by grind
 have e4:S*(q-(xs.length:Int))*(W.1*(V.2*a.2))=q*(W.1*a.2)*(S*V.2)-xs.length*W.1*a.2*(S*V.2):=by grind
 have e5:P*q*(W.1*(V.2*a.2))=P*W.1*V.2*(q*a.2):=by grind
 lia
end BH
end
section
namespace L2
open PySem
theorem wSI{ρ ρ2:En}{fe fk:EF}{T:Tr}{b:Bool}{i n:Nat}{ts:List Tr}{x:Rv}{Q:Fl->En->Prop}(h:fe ρ=.ok (.v T b,ρ))(c : ρ[i]?=some (.ow ts))(q:fk ρ=.ok (x,ρ))(d:dr ρ x=.ok (.int (n:Nat)))(l:n<ts.length)(e : ρ.set i (.ow (ts.set n T)) = ρ2)(k:Q .nx ρ2):W (T3 i fk fe ρ) Q:=by
 have cd:con ρ i=.ok ts:=by unfold con; rw[c]
 have u:cU i (ts.set n T) ρ = ρ2:=by unfold cU; rw[c]; exact e
 have ix:fW ts.length (n:Int)=some n:=by
  unfold fW
  rw[if_pos (by lia),if_pos (by lia)]
  rfl
 refine⟨.nx,ρ2,bk h (bk (a:=[T]) rfl (bk cd (bk q (bk d (bk (a:=(n:Int)) rfl (bk cd ?_)))))),k⟩
 dsimp only
 rw[ix]
 exact u▸rfl
end L2
namespace BH
open PySem L2
theorem Fq.c(hx:Fq M x)(hM:M<=8900):x.1.natAbs<2 ^ M/\x.2.natAbs<2 ^ M:=by
 obtain⟨x1,x2,x3,x4,_⟩:=hx
 have:=gD M
 lia
theorem aiC{x y:Int × Int}{M N:Nat}(hx:Fq M x)(hy:Fq N y)(hM:M+N<=8900):Uj [fT x,fT y]=.ok (fT (red (x.1*y.2-y.1*x.2) (x.2*y.2)),false):=by
 obtain⟨_,c1,c2,c3⟩:=mulC hx hy hM
 have e:=BR (a:=x.1*y.2-y.1*x.2) (b:=x.2*y.2) (M:=M+N) (jH hx.2.2.1 hy.2.2.1) (ig (by have:=hx.2.2.1; lia) hx.2.2.2.1 (by have:=hy.2.2.1; lia) hy.2.2.2.1) hM
 walk_at "d"
theorem aiD{x y:Int × Int}{M N:Nat}(hx:Fq M x)(hy:Fq N y)(h1:1<=y.1)(hM:M+N<=8900):Um [fT x,fT y]=.ok (fT (red (x.1*y.2) (x.2*y.1)),false):=by
 obtain⟨_,c1,c3,_⟩:=mulC hx hy hM
 rw[show cX y.1 x.2=cX x.2 y.1 by unfold cX; rw[Bool.and_comm,Bool.or_assoc,Bool.or_assoc,Bool.or_comm (tiny y.1)]]at c3
 have e:=BR (a:=x.1*y.2) (b:=x.2*y.1) (M:=M+N) (jH hx.2.2.1 h1) (ig (by have:=hx.2.2.1; lia) hx.2.2.2.1 hy.1 hy.2.1) hM
 walk_at "d"
theorem aiE(ha:1<=a)(hb:1<=b):1<=(red a b).1:=by
 obtain⟨v,p,_⟩:=eV (a:=a) hb
 rcases Int.lt_or_le 0 (red a b).1 with z|z
 .exact z
 .have:=jH ha p
  have:=Int.mul_nonpos_of_nonpos_of_nonneg z (show 0<=b by lia)
  lia
theorem aiF{a h:Int × Int}{n:Nat}(ha:Fq 400 a)(hh:Fq 400 h)(l:aN a h=true)(h1:1<=n)(h4:n<=4):∃q:Int,Ws [fT a,fT h,.int n]=.ok (.tup [.int (q-1),.int q],false)/\2<=q/\q<2 ^ 1204/\n*h.1*a.2<q*(h.1*a.2-a.1*h.2):=by
 have l:a.1*h.2<h.1*a.2:=of_decide_eq_true l
 have fn:Fq 3 ((n:Int),1):=⟨by lia,by show(n:Int)<2 ^ 3; lia,Int.le_refl 1,by show(1:Int)<2 ^ 3; decide,by simp⟩
 have n0:=Int.mul_nonneg ha.1 (show 0<=h.2 by have:=hh.2.2.1; lia)
 have e1:tR [.tup [.int n,.int 1],fT h]=.ok (fT (aP ((n:Int),1) h),false):=tY (x:=((n:Int),1)) fn hh (by lia)
 have e2:=aiC hh ha (by lia)
 have fN:=lD fn hh
 have b1:=ig hh.1 hh.2.1 (by have:=ha.2.2.1; lia) ha.2.2.2.1
 have b2:=ig (by have:=hh.2.2.1; lia) hh.2.2.2.1 (by have:=ha.2.2.1; lia) ha.2.2.2.1
 have fD:Fq 800 (red (h.1*a.2-a.1*h.2) (h.2*a.2)):=tX (by lia) (by lia) (jH hh.2.2.1 ha.2.2.1) b2
 have vD:=(eV (a:=h.1*a.2-a.1*h.2) (jH hh.2.2.1 ha.2.2.1)).1
 have pD:=aiE (a:=h.1*a.2-a.1*h.2) (by lia) (jH hh.2.2.1 ha.2.2.1)
 have vN:=(eV (a:=(n:Int)*h.1) (b:=1*h.2) (by have:=hh.2.2.1; lia)).1
 have e3:=aiD fN fD pD (by lia)
 change n*h.1*(aP (n,1) h).2=(aP (n,1) h).1*(1*h.2)at vN
 generalize red (h.1*a.2-a.1*h.2) (h.2*a.2)=D,aP ((n:Int),1) h=N at *
 have p2:=jH fN.2.2.1 pD
 have fB:Fq 1203 (red (N.1*D.2) (N.2*D.1)):=tX (Int.mul_nonneg fN.1 (by have:=fD.2.2.1; lia)) (ig fN.1 fN.2.1 (by have:=fD.2.2.1; lia) fD.2.2.2.1) p2 (ig (by have:=fN.2.2.1; lia) fN.2.2.2.1 fD.1 fD.2.1)
 have vB:=(eV (a:=N.1*D.2) p2).1
 generalize red (N.1*D.2) (N.2*D.1)=B at *
 have fl:B.1.fdiv B.2=B.1 / B.2:=Int.fdiv_eq_ediv_of_nonneg _ (by have:=fB.2.2.1; lia)
 have lt:=Int.lt_ediv_add_one_mul_self B.1 (b:=B.2) (by have:=fB.2.2.1; lia)
 have le:=Int.ediv_le_self (a:=B.1) B.2 fB.1
 have nn:=Int.ediv_nonneg (a:=B.1) (b:=B.2) fB.1 (by have:=fB.2.2.1; lia)
 rw[<-fl]at lt le nn
 have c1:iy B.1 B.2=true:=wR (M:=1203) (by have:=fB.2.2.1; lia) (fB.c (by lia)).2 (by lia)
 have key:n*h.1*a.2<(B.1.fdiv B.2+1)*(h.1*a.2-a.1*h.2):=by
  generalize B.1.fdiv B.2+1=q at *
  have s1:=Int.mul_lt_mul_of_pos_right lt (show 0<N.2*D.1 by lia)
  have s2:N.1*D.2<q*(N.2*D.1):=Int.lt_of_mul_lt_mul_right (a:=B.2) (by
   rw[vB]
   have:q*(N.2*D.1)*B.2=q*B.2*(N.2*D.1):=by grind
   lia) (by have:=fB.2.2.1; lia)
  have hp:=hh.2.2.1
  have ap:=ha.2.2.1
  have s3:=Int.mul_lt_mul_of_pos_right s2 (show 0<h.2*(h.2*a.2)from Int.mul_pos (by lia) (Int.mul_pos (by lia) (by lia)))
  refine Int.lt_of_mul_lt_mul_right (a:=N.2*D.2*h.2) ?_ (Int.mul_nonneg (Int.mul_nonneg (by have:=fN.2.2.1; lia) (by have:=fD.2.2.1; lia)) (by lia))
  have q1:n*h.1*a.2*(N.2*D.2*h.2)=N.1*D.2*(h.2*(h.2*a.2)):=by grind
  have q2:q*(h.1*a.2-a.1*h.2)*(N.2*D.2*h.2)=q*(N.2*D.1)*(h.2*(h.2*a.2)):=by grind
  lia
 refine⟨B.1.fdiv B.2+1,?_,?_,?_,key⟩
 .walk_at "d"
 .rcases Int.lt_or_le (B.1.fdiv B.2+1) 2 with z|z
  .rw[show B.1.fdiv B.2+1=1 by lia,Int.one_mul]at key
   have:=Int.mul_le_mul_of_nonneg_right (show 1<=(n:Int) by lia) (show 0<=h.1*a.2 by lia)
   rw[<-Int.mul_assoc]at this
   lia
  .exact z
 .have:(2:Int) ^ 1203<2 ^ 1204:=by decide
  have:=fB.2.1
  lia
theorem Y8{q:Int}(hq:2<=q)(hq2:q<2 ^ 1204):Fq 1204 (q-1,q):=⟨by show 0<=q-1; lia,by show q-1<2 ^ 1204; lia,by show 1<=q; lia,hq2,by
  show Int.gcd (q-1) q=1
  have g:=Int.dvd_sub (Int.gcd_dvd_right (q-1) q) (Int.gcd_dvd_left (q-1) q)
  rw[show q-(q-1)=1 by lia]at g
  exact Int.ofNat_inj.mp (Int.eq_one_of_dvd_one (by lia) g)⟩
noncomputable def lF(rows:List (List (Int × Int)))(s:Nat->Nat->Bool)(aV:List (Int × Int))(o:Nat)(q:Int)(k:Nat):List (Int × Int):=(List.range (rows.getD k []).length).map λt=>if s k t=true then aZ rows k t else if t=o then aP (aV.getD k (0,1)) (q-1,q)else(0,1)
noncomputable def jK(rows:List (List (Int × Int)))(s:Nat->Nat->Bool)(aV:List (Int × Int))(o:Nat)(q:Int):List (List (Int × Int)):=(List.range rows.length).map (lF rows s aV o q)
theorem aiG{rows:List (List (Int × Int))}{s:Nat->Nat->Bool}{aV:List (Int × Int)}{o:Nat}{q:Int}(k:Nat)(ho:o<(rows.getD k []).length):(s k o=true->((List.range (rows.getD k []).length).map λt=>fT (if s k t=true then(rows.getD k []).getD t (0,1)else(0,1)))=(lF rows s aV o q k).map fT)/\(s k o=false->((List.range (rows.getD k []).length).map λt=>fT (if s k t=true then(rows.getD k []).getD t (0,1)else(0,1))).set o (fT (aP (aV.getD k (0,1)) (q-1,q)))=(lF rows s aV o q k).map fT):=by
 unfold lF aZ
 generalize rows.getD k []=L at *
 generalize aV.getD k (0,1)=la
 rw[List.map_map]
 refine⟨λh=>List.map_congr_left λt _=>?_,λh=>List.ext_getElem? λt=>?_⟩
 .by_cases z:s k t=true
  .simp[z]
  .have:t≠o:=λe=>z (e▸h)
   simp[z,this]
 .rw[List.getElem?_set,List.getElem?_map,List.getElem?_map]
  by_cases e:o=t
  .subst e
   simp[h,ho]
  .have e':¬t=o:=λz=>e z.symm
   by_cases z:t<L.length
   .rw[if_neg e,List.getElem?_range z]
    simp[e']
   .rw[if_neg e,List.getElem?_eq_none (by simp; lia)]
    rfl
theorem aiH{rows:List (List (Int × Int))}{s:Nat->Nat->Bool}{aV:List (Int × Int)}{o m:Nat}{q:Int}(h4:rows.length<=4)(hm:m<=12)(hl:aV.length=rows.length)(hr:∀l∈rows,l.length=m)(ho:o<m)(fl:∀x∈aV,Fq 45 x)(hq:2<=q)(hq2:q<2 ^ 1204):Wu [.lst (gs rows s),aG aV,.int o,.tup [.int (q-1),.int q]]=.ok (aO (jK rows s aV o q),true):=by
 have fs:=Y8 hq hq2
 have ez:iW (gs rows s) (aV.map fT)=(List.range rows.length).map λk=>.tup [.lst (gr (rows.getD k []) (s k)),fT (aV.getD k (0,1))]:=by
  refine List.ext_getElem? λi=>?_
  unfold iW gs
  rw[List.getElem?_map,List.getElem?_map]
  by_cases z:i<rows.length
  .have z':i<aV.length:=by lia
   rw[List.getElem?_zip_eq_some (z:=(.lst (gr (rows.getD i []) (s i)),fT (aV.getD i (0,1)))) |>.mpr ⟨by simp[z],by simp[z']⟩]
   simp[z]
  .rw[List.getElem?_eq_none (by simp; lia),List.getElem?_eq_none (by simp; lia)]
   rfl
 have eb:aO (jK rows s aV o q)=.lst ((List.range rows.length).map λk=>aG (lF rows s aV o q k)):=by
  unfold aO jK
  rw[List.map_map]
  rfl
 rw[eb]
 unfold aG at *
 walk_at "d"
 rw[ez]
 refine qQ [5,6,7] (λk=>[(4,.ow ((List.range k).map λk=>aG (lF rows s aV o q k)))]) rfl (λk v hk=>?_) (λv=>?_)
 .have lk:(rows.getD k []).length=m:=hr _ (getM hk)
  have e1:tR [fT (aV.getD k (0,1)),.tup [.int (q-1),.int q]]=.ok (fT (aP (aV.getD k (0,1)) (q-1,q)),false):=tY (y:=(q-1,q)) (fl _ (getM (by lia))) fs (by lia)
  have g1:=CZ (s:=s k) (show o<(rows.getD k []).length by lia)
  walk_at "p"
  obtain⟨r1,r2⟩:=aiG (s:=s) (aV:=aV) (q:=q) k (show o<(rows.getD k []).length by lia)
  refine Bw (λs=>[(7,.ow s)]) (λl:List Tr=>l=(lF rows s aV o q k).map fT) ?_ λl hl=>?_
  .cases hb:s k o with
   |true =>
    refine wF (by rfl) ?_
    exact⟨_,_,rfl,rfl,_,r1 hb,rfl⟩
   |false =>
    refine wT (by rfl) ?_
    refine wSI (n:=o) (Ly (ps:=[.v (fT (aV.getD k (0,1))) false,.v (.tup [.int (q-1),.int q]) false]) rfl rfl e1 rfl) rfl rfl rfl (by rw[List.length_map,List.length_range]; lia) rfl ?_
    exact⟨rfl,_,r2 hb,rfl⟩
  .subst hl
   walk_at "p"
   rw[List.range_succ,List.map_append]
   rfl
 .walk_at "p"
theorem Y9(h:Fall l ys):ys.Nodup:=h.1.nodup_iff.mpr List.nodup_range
theorem uD(h:Fall l ys):ys.length=l.length:=by simpa using h.1.length_eq
theorem Za{l:List (Int × Int)}{zs:List Nat}{k:Nat}(hg:∀i,i<l.length->1<=(l.getD i (0,1)).2)(hk:k<l.length)(p:zs.Perm (List.range k))(w:zs.Pairwise (dZ l)):(zs.take (zs.filter λx=>!aN (l.getD x (0,1)) (l.getD k (0,1))).length++k::zs.drop (zs.filter λx=>!aN (l.getD x (0,1)) (l.getD k (0,1))).length).Perm (List.range (k+1))/\(zs.take (zs.filter λx=>!aN (l.getD x (0,1)) (l.getD k (0,1))).length++k::zs.drop (zs.filter λx=>!aN (l.getD x (0,1)) (l.getD k (0,1))).length).Pairwise (dZ l):=by
 have lz:∀a∈zs,a<k:=λa ha=>List.mem_range.mp (p.mem_iff.mp ha)
 have h:=jq (p:=λx=>!aN (l.getD x (0,1)) (l.getD k (0,1))) (n:=k) w (λa ma b mb r q=>by
  have ab:aN (l.getD a (0,1)) (l.getD b (0,1))=false:=decide_eq_false (by unfold dZ at r; lia)
  simpa using jJ (hg a (Nat.lt_trans (lz a ma) hk)) (hg b (Nat.lt_trans (lz b mb) hk)) (hg k hk) ab (by simpa using q)) (λa ma q=>by
  have:=lz a ma
  unfold aN at q
  unfold dZ
  simp only[Bool.not_eq_true',decide_eq_false_iff_not]at q
  lia) λb mb q=>.inl (by unfold aN at q; simp only[Bool.not_eq_false',decide_eq_true_eq]at q; exact q)
 exact⟨h.1.trans ((p.cons k).trans (List.range_succ▸List.perm_append_comm (l₁:=[k]))),h.2⟩
theorem aiI{l:List (Int × Int)}(hg:∀i,i<l.length->1<=(l.getD i (0,1)).2):Fall l (aq l):=by
 have go:∀k,k<=l.length->∃zs:List Nat,zs.Perm (List.range k)/\zs.Pairwise (dZ l):=λk=>by
  induction k with
  |zero=>exact λ_=>⟨[],.nil,.nil⟩
  |succ k ih =>
   intro h
   obtain⟨zs,p,w⟩:=ih (by lia)
   exact⟨_,Za hg h p w⟩
 obtain⟨zs,h⟩:=go l.length (Nat.le_refl _)
 have h:Fall l zs:=h
 rw[Ce h]
 exact h
theorem Zb(h:Fall l ys){t u:Nat}(ht:t∈ys.take d)(hu:u<l.length)(n:u∉ys.take d):dZ l t u:=by
 have mu:u∈ys:=h.1.mem_iff.mpr (List.mem_range.mpr hu)
 rw[<-List.take_append_drop d ys]at mu
 have pw:=h.2
 rw[<-List.take_append_drop d ys]at pw
 rcases List.mem_append.mp mu with m|m
 .exact absurd m n
 .exact(List.pairwise_append.mp pw).2.2 _ ht _ m
theorem Kf(h:Fall l ys)(h0:0<d)(hd:d<=l.length):ys.getD (d-1) 0∈ys.take d:=by
 have:=uD h
 refine List.mem_of_getElem? (i:=d-1) ?_
 rw[List.getElem?_take,if_pos (by lia),List.getD_eq_getElem?_getD,List.getElem?_eq_getElem (by lia)]
 rfl
theorem aiJ(h:Fall l ys)(hd:d<=l.length){t:Nat}(ht:t∈ys.take d):t=ys.getD (d-1) 0\/dZ l t (ys.getD (d-1) 0):=by
 have ln:=uD h
 obtain⟨i,hi,e⟩:=List.getElem_of_mem ht
 rw[List.length_take]at hi
 rw[List.getElem_take]at e
 have g:ys.getD (d-1) 0=ys[d-1]:=by rw[List.getD_eq_getElem?_getD,List.getElem?_eq_getElem (by lia)]; rfl
 rw[g,<-e]
 by_cases z:i=d-1
 .subst z; exact .inl rfl
 .exact .inr (List.pairwise_iff_getElem.mp h.2 _ _ _ _ (by lia))
theorem aiK{l l':List (Int × Int)}{ys zs:List Nat}{d:Nat}(h:Fall l ys)(h':Fall l' zs)(ll:l'.length=l.length)(hd:d<=l.length)(hk:∀t∈ys.take d,l'.getD t (0,1)=l.getD t (0,1))(hb:∀t∈ys.take d,∀u,u<l.length->u∉ys.take d->dZ l' t u):zs.take d=ys.take d:=by
 have ln:=uD h
 have nd:=Y9 h
 have lt:∀t∈ys.take d,t<l.length:=λt m=>List.mem_range.mp (h.1.mem_iff.mp (List.mem_of_mem_take m))
 have lz:∀t,t∈zs↔t<l.length:=λt=>by rw[h'.1.mem_iff,List.mem_range,ll]
 have f:Fall l' (ys.take d++zs.filter λu=>decide (u∉ys.take d)):=by
  refine⟨(List.perm_ext_iff_of_nodup (List.nodup_append.mpr ⟨nd.sublist (List.take_sublist ..),(Y9 h').filter _,λa ma b mb e=>?_⟩) List.nodup_range).mpr λa=>?_,List.pairwise_append.mpr ⟨?_,h'.2.filter _,λt ht u hu=>?_⟩⟩
  .subst e
   exact(of_decide_eq_true (List.mem_filter.mp mb).2) ma
  .rw[List.mem_append,List.mem_filter,List.mem_range,lz,ll,decide_eq_true_iff]
   by_cases z:a∈ys.take d
   .simp[z,lt a z]
   .simp[z]
  .refine(h.2.sublist (List.take_sublist d ys)).imp_of_mem λ{a b} ma mb r=>?_
   unfold dZ at *
   rw[hk a ma,hk b mb]
   exact r
  .obtain⟨m,q⟩:=List.mem_filter.mp hu
   exact hb t ht u ((lz u).mp m) (of_decide_eq_true q)
 rw[JQ h' f,List.take_append_of_le_length (by rw[List.length_take]; lia),List.take_take,Nat.min_self]
section
variable {m:Nat}{rows bA:List (List (Int × Int))}{ds:List Nat}{as:List (Nat × Nat)}{r:Ru}
noncomputable def ju(m:Nat)(rows:List (List (Int × Int)))(ds:List Nat)(as:List (Nat × Nat))(bA:List (List (Int × Int))):Prop:=bA.length=rows.length/\∀k,k<rows.length->(bA.getD k []).length=m/\∀t,t<m->Fq 1300 (aZ bA k t)/\(aZ bA k t).1<=(aZ bA k t).2/\(sA aq rows ds as k t=true->aZ bA k t=aZ rows k t)/\(sA aq rows ds as k t=false->0<ds.getD k 0->aN (aZ bA k t) (cH aq (1,1) (rows.getD k []) (ds.getD k 0))=true\/aZ bA k t=cH aq (1,1) (rows.getD k []) (ds.getD k 0)/\(aq (rows.getD k [])).getD (ds.getD k 0-1) 0<t)
theorem Bk.fall(hB:Bk m rows)(hk:k<rows.length):Fall (rows.getD k []) (aq (rows.getD k [])):=by
 obtain⟨_,q1,q2⟩:=hB.row hk
 have:=hB.2.2.2.1
 exact(qR (N:=40) (Wo.frs q2) (by lia) (by lia) (by lia)).1
theorem Lk.d(hL:Lk rows.length m ds as)(hk:k<rows.length):ds.getD k 0<=m:=hL.2.1 _ (getM (by rw[hL.1]; exact hk))
theorem ju.fall(h:ju m rows ds as bA)(hk:k<rows.length):Fall (bA.getD k []) (aq (bA.getD k [])):=by
 obtain⟨l,f⟩:=h.2 k hk
 exact aiI λi hi=>(f i (by lia)).1.2.2.1
theorem ju.agree(hB:Bk m rows)(hL:Lk rows.length m ds as)(h:ju m rows ds as bA)(hk:k<rows.length):(aq (bA.getD k [])).take (ds.getD k 0)=(aq (rows.getD k [])).take (ds.getD k 0)/\∀t∈(aq (rows.getD k [])).take (ds.getD k 0),aZ bA k t=aZ rows k t:=by
 have F:=hB.fall hk
 have F':=h.fall hk
 obtain⟨l',f⟩:=h.2 k hk
 obtain⟨_,l,_⟩:=hB.row hk
 have hd:=hL.d hk
 have lt:∀t∈(aq (rows.getD k [])).take (ds.getD k 0),t<m:=λt mt=>l▸List.mem_range.mp (F.1.mem_iff.mp (List.mem_of_mem_take mt))
 have keep:∀t∈(aq (rows.getD k [])).take (ds.getD k 0),aZ bA k t=aZ rows k t:=λt mt=>(f t (lt t mt)).2.2.1 (by unfold sA sn; rw[decide_eq_true mt]; rfl)
 refine⟨aiK F F' (by lia) (by lia) keep λt mt u hu nu=>?_,keep⟩
 have B:=Zb F mt hu nu
 have d0:0<ds.getD k 0:=by
  rcases Nat.eq_zero_or_pos (ds.getD k 0)with z|z
  .rw[z]at mt; cases mt
  .exact z
 have hp:1<=(aZ rows k t).2:=(hB.jt hk (lt t mt)).2.2.1
 have et:=keep t mt
 have L:=aiJ F (by lia) mt
 unfold aZ at et hp
 unfold dZ at *
 rw[et]
 cases z:sA aq rows ds as k u with
 |true =>
  have eu:=(f u (by lia)).2.2.1 z
  unfold aZ at eu
  rw[eu]
  exact B
 |false =>
  have q:=(f u (by lia)).2.2.2 z d0
  have pu:=(f u (by lia)).1.2.2.1
  have ml:=Kf F d0 (by lia)
  have wl:=hB.jt hk (lt _ ml)
  unfold cH at q
  rw[if_pos d0]at q
  unfold aZ at q pu wl
  generalize (bA.getD k []).getD u (0,1)=v,(aq (rows.getD k [])).getD (ds.getD k 0-1) 0=T at *
  rcases q with q|⟨e,q⟩
  .refine .inl (Int.not_le.mp λn=>?_)
   have yx:le2 ((rows.getD k []).getD T (0,1)) ((rows.getD k []).getD t (0,1)):=by
    unfold le2
    rcases L with rfl|L
    .exact Int.le_refl _
    .lia
   have:=fP.mpr (o8 wl.2.2.1 hp pu yx n)
   rw[q]at this
   cases this
  .subst e
   rcases L with rfl|L
   .exact .inr ⟨rfl,q⟩
   .lia
theorem ju.fx(h:ju m rows ds as bA)(ht:t<m):∀x∈col bA t,Fx x/\Fq 1300 x:=λx mx=>by
 unfold col at mx
 obtain⟨k,hk,rfl⟩:=List.mem_map.mp mx
 have q:=((h.2 k (by have:=List.mem_range.mp hk; have:=h.1; lia)).2 t ht).1
 exact⟨q.fx,q⟩
theorem ju.between(hB:Bk m rows)(hL:Lk rows.length m ds as)(h:ju m rows ds as bA)(ho:bD rows.length r)(ht:t<m):le2 (loV r rows ds as t) (wv r (col bA t))/\le2 (wv r (col bA t)) (hiV r rows ds as t):=by
 have ll:=lE (od:=aq) (one:=(1,1)) hL.1
 have b1:=hB.1
 have fl:∀x∈lo rows (sA aq rows ds as) t,Fx x:=λx m=>(wW hB ht x m).fx
 have fh:∀x∈hi rows (sA aq rows ds as) (cJ aq (1,1) rows ds) t,Fx x:=λx m=>(wX hB ht ll (ug hB hL) x m).fx
 have fc:∀x∈col bA t,Fx x:=λx m=>(h.fx ht x m).1
 refine⟨Ci fl fc (by rw[eX,d8,h.1]) (by rw[eX]; lia) (by rw[eX]; exact ho) λk hk=>?_,Ci fc fh (by rw[fU,d8,h.1]) (by rw[d8,h.1]; lia) (by rw[d8,h.1]; exact ho) λk hk=>?_⟩
 .rw[eX]at hk
  obtain⟨q1,q2,q3,q4⟩:=(h.2 k hk).2 t ht
  rw[XR hk,wZ (by rw[h.1]; exact hk)]
  cases z:sA aq rows ds as k t with
  |true=>rw[if_pos rfl,q3 z]; exact jG _
  |false =>
   rw[if_neg (by simp)]
   have:=q1.1
   unfold le2
   lia
 .rw[d8,h.1]at hk
  obtain⟨q1,q2,q3,q4⟩:=(h.2 k hk).2 t ht
  rw[JV hk,wZ (by rw[h.1]; exact hk),ud hL.1 hk]
  cases z:sA aq rows ds as k t with
  |true=>rw[if_pos rfl,q3 z]; exact jG _
  |false =>
   rw[if_neg (by simp)]
   by_cases d0:0<ds.getD k 0
   .rcases q4 z d0 with q|⟨q,_⟩
    .have:=of_decide_eq_true q
     unfold le2
     lia
    .rw[q]; exact jG _
   .unfold cH le2
    rw[if_neg d0]
    lia
theorem Zc(hk:k<rows.length)(s:Nat->Nat->Bool)(aV:List (Int × Int))(o:Nat)(q:Int):(jK rows s aV o q).getD k []=lF rows s aV o q k:=by unfold jK; simp[hk]
theorem Kg(hk:k<rows.length)(ht:t<(rows.getD k []).length)(s:Nat->Nat->Bool)(aV:List (Int × Int))(o:Nat)(q:Int):aZ (jK rows s aV o q) k t=if s k t=true then aZ rows k t else if t=o then aP (aV.getD k (0,1)) (q-1,q)else(0,1):=by
 unfold aZ
 rw[Zc hk]
 unfold lF aZ
 generalize rows.getD k []=L at *
 simp[ht]
theorem Cw{x:Int × Int}(h:Wo x)(e:x.1=0):x=(0,1):=by
 obtain⟨_,_,h3,_,h5⟩:=h
 obtain⟨a,b⟩:=x
 have e:a=0:=e
 subst e
 have h5:Int.gcd 0 b=1:=h5
 have h3:1<=b:=h3
 rw[Int.gcd_zero_left]at h5
 have:b=1:=by lia
 rw[this]
theorem Zd{x:Int × Int}{q:Int}(hx:Wo x)(hq:2<=q):(q-1)*x.1*(aP x (q-1,q)).2=q*(aP x (q-1,q)).1*x.2/\(aP x (q-1,q)).1<=(aP x (q-1,q)).2/\(aN (aP x (q-1,q)) x=true\/x=(0,1)/\aP x (q-1,q)=(0,1)):=by
 obtain⟨h1,h2,h3,_,h5⟩:=hx
 have hb:=jH h3 (show 1<=q by lia)
 obtain⟨v,p,_⟩:=eV (a:=x.1*(q-1)) hb
 have le:x.1*(q-1)<=x.2*q:=Int.mul_le_mul h2 (by lia) (by lia) (by lia)
 have z:x.1=0->x=(0,1)/\aP x (q-1,q)=(0,1):=λe=>by
  have:=Cw ⟨h1,h2,h3,by assumption,h5⟩ e
  subst this
  refine⟨rfl,?_⟩
  unfold aP red
  dsimp only
  rw[Int.zero_mul,Int.one_mul,Int.gcd_zero_left,Int.zero_ediv,show((q.natAbs:Nat):Int)=q by lia,Int.ediv_self (by lia)]
 show _/\_/\_
 change x.1*(q-1)*(aP x (q-1,q)).2=(aP x (q-1,q)).1*(x.2*q)at v
 change 1<=(aP x (q-1,q)).2 at p
 generalize aP x (q-1,q)=y at *
 refine⟨by grind,?_,?_⟩
 .refine Int.le_of_mul_le_mul_right (a:=x.2*q) ?_ (by lia)
  rw[<-v,Int.mul_comm y.2]
  exact Int.mul_le_mul_of_nonneg_right le (by lia)
 .by_cases e:x.1=0
  .exact .inr (z e)
  .refine .inl (decide_eq_true (Int.lt_of_mul_lt_mul_right (a:=q) ?_ (by lia)))
   have:y.1*x.2*q=x.1*y.2*q-x.1*y.2:=by grind
   have:=jH (show 1<=x.1 by lia) p
   lia
theorem tie(hB:Bk m rows)(hL:Lk rows.length m ds as)(hk:k<rows.length)(ht:t<m)(z:sA aq rows ds as k t=false)(d0:0<ds.getD k 0)(h0:cH aq (1,1) (rows.getD k []) (ds.getD k 0)=(0,1)):(aq (rows.getD k [])).getD (ds.getD k 0-1) 0<t:=by
 obtain⟨_,l,_⟩:=hB.row hk
 have F:=hB.fall hk
 have hd:=hL.d hk
 have nt:t∉(aq (rows.getD k [])).take (ds.getD k 0):=λh=>by
  unfold sA sn at z
  rw[decide_eq_true h]at z
  cases z
 have B:=Zb F (Kf F d0 (by lia)) (show t<(rows.getD k []).length by lia) nt
 unfold cH at h0
 rw[if_pos d0]at h0
 have w:=(hB.jt hk ht).1
 unfold aZ at w
 unfold dZ at B
 rw[h0]at B
 lia
theorem Ze{o:Nat}{q:Int}(hB:Bk m rows)(hL:Lk rows.length m ds as)(hq:2<=q)(hq2:q<2 ^ 1204):ju m rows ds as (jK rows (sA aq rows ds as) (cJ aq (1,1) rows ds) o q):=by
 refine⟨by unfold jK; simp,λk hk=>?_⟩
 obtain⟨_,l,_⟩:=hB.row hk
 have hd:=hL.d hk
 refine⟨by rw[Zc hk]; unfold lF; rw[List.length_map,List.length_range,l],λt ht=>?_⟩
 rw[Kg hk (by lia),ud hL.1 hk]
 have wl:=qT hB hk hd
 have wx:=hB.jt hk ht
 cases z:sA aq rows ds as k t with
 |true =>
  rw[if_pos rfl]
  exact⟨wx.fq.up (by lia),wx.2.1,λ_=>rfl,λh=>(by cases h)⟩
 |false =>
  rw[if_neg (by simp)]
  have tq:=tie hB hL hk ht z
  by_cases e:t=o
  .rw[if_pos e]
   obtain⟨_,s2,s3⟩:=Zd wl hq
   refine⟨(lD wl.fq (Y8 hq hq2)).up (by lia),s2,λh=>(by cases h),λ_ d0=>?_⟩
   rcases s3 with s3|⟨s3,s4⟩
   .exact .inl s3
   .exact .inr ⟨s4.trans s3.symm,tq d0 s3⟩
  .rw[if_neg e]
   refine⟨tZ.up (by lia),by decide,λh=>(by cases h),λ_ d0=>?_⟩
   by_cases p:0<(cH aq (1,1) (rows.getD k []) (ds.getD k 0)).1
   .exact .inl (decide_eq_true (by lia))
   .have z0:=Cw wl (by have:=wl.1; lia)
    exact .inr ⟨z0.symm,tq d0 z0⟩
theorem aiL{w o:Nat}{q:Int}(hB:Bk m rows)(hL:Lk rows.length m ds as)(ho:bD rows.length r)(hw:w<m)(hm:o<m)(ne:w≠o)(hq:2<=q)(hq2:q<2 ^ 1204)(h:rows.length*(hiV r rows ds as o).1*(loV r rows ds as w).2<q*((hiV r rows ds as o).1*(loV r rows ds as w).2-(loV r rows ds as w).1*(hiV r rows ds as o).2)):aN (wv r (col (jK rows (sA aq rows ds as) (cJ aq (1,1) rows ds) o q) w)) (wv r (col (jK rows (sA aq rows ds as) (cJ aq (1,1) rows ds) o q) o))=true:=by
 have A:=Ze (o:=o) hB hL hq hq2
 have ll:=lE (od:=aq) (one:=(1,1)) hL.1
 have b1:=hB.1
 have ew:col (jK rows (sA aq rows ds as) (cJ aq (1,1) rows ds) o q) w=lo rows (sA aq rows ds as) w:=by
  unfold col lo
  rw[A.1]
  refine List.map_congr_left λk hk=>?_
  have hk:=List.mem_range.mp hk
  rw[Kg hk (by rw[(hB.row hk).2.1]; exact hw),if_neg ne]
 rw[ew]
 refine aiB (xs:=hi rows (sA aq rows ds as) (cJ aq (1,1) rows ds) o) (λx m=>(wX hB hm ll (ug hB hL) x m).fx) (λx m=>(A.fx hm x m).1) (by rw[fU,d8,A.1]) (by rw[fU]; exact b1) (by rw[fU]; exact hB.2.1) (by rw[fU]; exact ho) hq (λk hk=>?_) ?_ (by rw[fU]; exact h)
 .rw[fU]at hk
  rw[JV hk,wZ (by rw[A.1]; exact hk),Kg hk (by rw[(hB.row hk).2.1]; exact hm),if_pos rfl]
  cases z:sA aq rows ds as k o with
  |true =>
   rw[if_pos rfl,if_pos rfl]
   have wx:=hB.jt hk hm
   have:=Int.mul_nonneg wx.1 (show 0<=(aZ rows k o).2 by have:=wx.2.2.1; lia)
   rw[Int.mul_assoc,Int.mul_assoc]
   exact Int.mul_le_mul_of_nonneg_right (by lia) this
  |false =>
   rw[if_neg (by simp),if_neg (by simp)]
   rw[ud hL.1 hk]
   exact Int.le_of_eq (Zd (qT hB hk (hL.d hk)) hq).1
 .exact(uh hB ho hw).2.2.2.1
end
end BH
end
section
namespace K91
open PySem L2 BH
theorem Wo.fq{x:Int × Int}(h:Wo x):Fq 1300 x:=by
 obtain⟨h1,h2,h3,h4,h5⟩:=h
 exact⟨h1,by omega,h3,by omega,h5⟩
theorem order_eq{l:List (Int × Int)}(h:∀x∈l,Fq 1300 x)(hc:l.length<=12):∃zs:List Nat,Cr [aG l]=.ok (.lst (zs.map iT),true)/\Fall l zs:=by
 suffices h:∃z,Cr [aG l]=.ok z/\∃zs:List Nat,Fall l zs/\z=(.lst (zs.map iT),true) by
  obtain⟨_,e,zs,h,rfl⟩:=h
  exact⟨zs,e,h⟩
 have hg:∀i,i<l.length->Fq 1300 (l.getD i (0,1)):=λi hi=>h _ (by rw[List.getD_eq_getElem?_getD,List.getElem?_eq_getElem hi]; exact List.getElem_mem _)
 walk_at "e"
 refine jr [2,3] (λs:List Nat=>[(1,.ow (s.map iT))]) (λk s=>s.Perm (List.range k)/\s.Pairwise (dZ l)) [] ⟨.nil,.nil⟩ rfl (λk v zs hk i=>?_) (λv zs i=>?_)
 .have ll:zs.length=k:=by simpa using i.1.length_eq
  have lz:∀a∈zs,a<k:=λa ha=>List.mem_range.mp (i.1.mem_iff.mp ha)
  walk_at "p"
  exact Nat.lt_trans (lz x hx) hk
  walk_at "r"
  exact Y0 (hg x (Nat.lt_trans (lz x hx) hk)) (hg k hk) (by omega)
  walk_at "r"
  have h:=Za (λi hi=>(hg i hi).2.2.1) hk i.1 i.2
  exact⟨_,h,exV (by rw[List.map_append,List.map_cons,List.map_take,List.map_drop]; rfl)⟩
 .walk_at "p"
  exact⟨_,rfl,zs,i,rfl⟩
theorem Zf{l:List (Int × Int)}(h:∀x∈l,Wo x)(hc:l.length<=12):Fall l (aq l)/\Cr [aG l]=.ok (.lst ((aq l).map iT),true)/\tV [aG l]=.ok (.lst ((aq l).map iT),true):=by
 obtain⟨zs,e1,f1⟩:=order_eq (λx hx=>Wo.fq (h x hx)) hc
 have e2:=qR (N:=40) (BH.Wo.frs h) (by omega) (by omega) (by omega)
 rw[<-Ce f1]at e1
 exact⟨e2.1,e1,e2.2⟩
noncomputable def Zg(w:Int × Int):Prop:=Fq 45 w/\w.2∣12/\w.1<=100
theorem wgt(x y:Int):uq [.int (x.fmod 7),.int (1+y.fmod 4)]=.ok (fT (red (x.fmod 7) (1+y.fmod 4)),false)/\Zg (red (x.fmod 7) (1+y.fmod 4)):=by
 have r1:=jd x 7 (by lia)
 have r2:=jd y 4 (by lia)
 have hb:1<=1+y.fmod 4/\1+y.fmod 4<=4:=by lia
 generalize 1+y.fmod 4=b,x.fmod 7=a at *
 obtain⟨g1,g2,g3,g4,g5,g6,g7⟩:=pU (a:=a) (b:=b) (by lia)
 have d2:=Int.ediv_le_self (a:=a) ((Int.gcd a b:Nat):Int) (by lia)
 refine⟨uy (M:=60) r1.1 hb.1 (by lia) (by lia),tX (M:=45) r1.1 (by lia) hb.1 (by lia),Int.dvd_trans (Int.ediv_dvd_of_dvd (Int.gcd_dvd_right a b)) ?_,by show a / ((Int.gcd a b:Nat):Int)<=100; lia⟩
 have:b=1\/b=2\/b=3\/b=4:=by omega
 rcases this with rfl|rfl|rfl|rfl <;> decide
theorem aiM(x:Int){n:Nat}(h1:1<=n)(h4:n<=4):∃r,J6 [.int x,.int n]=.ok (aY r,false)/\bD n r/\Cp r:=by
 suffices h:∃z,J6 [.int x,.int n]=.ok z/\∃r,(bD n r/\Cp r)/\z=(aY r,false) by
  obtain⟨_,e,r,h,rfl⟩:=h
  exact⟨r,e,h⟩
 obtain⟨j,j1,j2,ej⟩:=Kd (x.fdiv 7) h1
 by_cases w0:x.fmod 7=0
 .walk_at "e"
  exact⟨_,rfl,.least,⟨trivial,trivial⟩,rfl⟩
 by_cases w1:x.fmod 7=1
 .walk_at "e"
  exact⟨_,rfl,.greatest,⟨trivial,trivial⟩,rfl⟩
 by_cases w2:x.fmod 7=2
 .walk_at "e"
  exact⟨_,rfl,.mid j,⟨⟨j1,j2⟩,trivial⟩,rfl⟩
 by_cases w3:x.fmod 7=3
 .walk_at "e"
  exact⟨_,rfl,.product,⟨trivial,trivial⟩,rfl⟩
 walk_at "e"
 refine jr [4] (λs:Int × List (Int × Int)=>[(0,.sh (.int s.1)),(3,.ow (s.2.map fT))]) (λk s=>s.2.length=k/\∀w∈s.2,Zg w) (x.fdiv 7,[]) ⟨rfl,λ_ h=>by cases h⟩ rfl (λk v s hk i=>?_) (λv s i=>?_)
 .obtain⟨y,ws⟩:=s
  have i1:ws.length=k:=i.1
  obtain⟨e,q⟩:=wgt y (y.fdiv 7)
  walk_at "p"
  exact⟨(_,ws++[_]),⟨by simp[i1],snoc i.2 q⟩,exV (by rw[<-pA]; rfl)⟩
 .walk_at "p"
  exact⟨_,rfl,.sh s.2,⟨⟨i.1,λw hw=>(i.2 w hw).1⟩,λw hw=>(i.2 w hw).2⟩,rfl⟩
section
variable {m:Nat}{rows:List (List (Int × Int))}{ds:List Nat}{as:List (Nat × Nat)}{r:Ru}{s:Nat->Nat->Bool}{xs:List (Int × Int)}
theorem aiN{l:List Tr}{T:Tr}(h:l.getLast? = some T):aW (.lst l) (.int (-1))=.ok (T,false):=by
 have n0:l.length≠0:=λz=>by rw[List.length_eq_zero_iff.mp z]at h; cases h
 have e:dH l (-1)=some T:=by
  unfold dH fW
  rw[if_neg (by lia),if_pos (by lia),<-h,List.getLast?_eq_getElem?]
  exact congrArg (λj=>l[j]?) (show(-1+(l.length:Int)).toNat=l.length-1 by lia)
 show(match dH l (-1)with|some t=>Rs.ok (t,false)|none=>.bad)=_
 rw[e]
theorem aiO(hq:∀x∈xs,Fq 1300 x)(h1:1<=xs.length)(h2:xs.length<=4)(ho:bD xs.length r):∃v,uw [aY r,aG xs]=.ok (fT v,false)/\Wv r xs v:=by
 have pl:placed r=true->∃z,uw [aY r,aG xs]=.ok z/\∃v zs,(bZ xs zs/\zs[dD xs.length r-1]?=some v)/\z=(fT v,false):=λhp=>by
  obtain⟨w,e1,e2,e3,e4,e5⟩:=ahk hp
  walk_at "e"
  refine lA [4,6] (λs:List (Int × Int)=>[(5,.ow (s.map fT))]) (λk s=>s.Perm (xs.take k)/\s.Pairwise le2) [] ⟨.nil,.nil⟩ rfl (λk y v zs gx i=>?_) (λv zs i=>?_)
  .have kl:=(List.getElem?_eq_some_iff.mp gx).1
   have lz:zs.length=k:=by rw[i.1.length_eq,List.length_take]; lia
   have hz:∀z∈zs,Fq 1300 z:=λz m=>hq z (List.mem_of_mem_take (i.1.mem_iff.mp m))
   have hy:=hq y (List.mem_of_getElem? gx)
   walk_at "p"
   exact Y0 (hz x hx) hy (by lia)
   walk_at "r"
   have h:=jq (R:=le2) (p:=λz=>aN z y) (n:=y) i.2 (λa ma b mb r q=>by
    cases e:aN a y with
    |true=>rfl
    |false=>rw[fP.mpr (o8 hy.2.2.1 (hz a ma).2.2.1 (hz b mb).2.2.1 (fP.mp e) r)]at q; cases q) (λa ma q=>by unfold aN at q; unfold le2; simp only[decide_eq_true_eq]at q; lia) λb mb q=>fP.mp q
   refine⟨_,⟨h.1.trans ((i.1.cons y).trans ?_),h.2⟩,exV (by rw[List.map_append,List.map_cons,List.map_take,List.map_drop]; rfl)⟩
   rw[List.take_add_one,gx]
   exact List.perm_append_comm (l₁:=[y])
  .rw[List.take_length]at i
   have lz:=i.1.length_eq
   obtain⟨p1,p2⟩:=JC hp ho h1
   have go:∀k:Nat,k=xs.length-dD xs.length r->∃v ys,(bZ xs ys/\ys[dD xs.length r-1]?=some v)/\(fT (zs.getD k (0,1)),false)=(fT v,false):=λk hk=>⟨_,zs.reverse,⟨⟨(List.reverse_perm zs).trans i.1,List.pairwise_reverse.mpr i.2⟩,by
    rw[List.getElem?_reverse (by lia),show zs.length-1-(dD xs.length r-1)=k by lia,List.getElem?_eq_getElem (by lia),List.getD_eq_getElem?_getD,List.getElem?_eq_getElem (by lia)]; rfl⟩,rfl⟩
   have g0:aW (.lst (zs.map fT)) (.int 0)=.ok (fT (zs.getD 0 (0,1)),false):=m9 (k:=0) _ (by lia)
   have gl:aW (.lst (zs.map fT)) (.int (-1))=.ok (fT (zs.getD (xs.length-1) (0,1)),false):=aiN (by rw[List.getLast?_eq_getElem?,List.getElem?_map,List.length_map,lz,List.getD_eq_getElem?_getD,List.getElem?_eq_getElem (by lia)]; rfl)
   cases r with
   |sh ws=>cases hp
   |product=>cases hp
   |least=>walk_at "p"; exact⟨_,rfl,go 0 (Nat.sub_self _).symm⟩
   |greatest=>walk_at "p"; exact⟨_,rfl,go _ rfl⟩
   |mid k =>
    have p1:1<=k:=p1
    have p2:k<=xs.length:=p2
    have i1:aW (aY (.mid k)) (.int 1)=.ok (.int k,false):=rfl
    have d1:u0 (.int (zs.length:Int)) (.int k)=.ok (.int ((xs.length-k:Nat):Int),false):=by show Rs.ok (Tr.int ((zs.length:Int)-k),false)=_; rw[lz,Int.ofNat_sub p2]
    walk_at "p"; exact⟨_,rfl,go _ rfl⟩
 cases r with
 |sh ws =>
  have ol:=ho.1
  suffices h:uw [aY (.sh ws),aG xs]=.ok (fT (cY (ws.zip xs) (0,1)),false)from⟨_,h,rfl⟩
  have zl:(ws.zip xs).length=xs.length:=by rw[List.length_zip,ol,Nat.min_self]
  have i1:aW (aY (.sh ws)) (.int 1)=.ok (aG ws,false):=rfl
  walk_at "d"
  refine jr [3] (λt:Int × Int=>[(2,.sh (fT t))]) (λk t=>t=cY ((ws.zip xs).take k) (0,1)/\Fq (1+1346*k) t) (0,1) ⟨rfl,tZ⟩ rfl (λk v t hk i=>?_) (λv t i=>?_)
  .have fx:=hq _ (List.getElem_mem hk)
   have fw:=ho.2 _ (List.getElem_mem (ol▸hk))
   have f:=lD fw fx
   have e1:=mul_eq fw fx (by lia)
   have e2:=add_eq i.2 f (by lia)
   have g1:aW (aG xs) (.int k)=.ok (fT xs[k],false):=lC (by simp[hk])
   have g2:aW (aG ws) (.int k)=.ok (fT (ws[k]'(ol▸hk)),false):=lC (by simp[ol▸hk])
   walk_at "p"
   refine⟨_,⟨?_,(Jv i.2 f).up (by lia)⟩,exV rfl⟩
   rw[i.1,List.take_add_one,List.getElem?_eq_getElem (by lia)]
   unfold cY
   rw[List.foldl_append]
   simp
  .rw[i.1,List.take_of_length_le (by lia)]
   walk_at "p"
 |product =>
  suffices h:uw [aY .product,aG xs]=.ok (fT (dB xs (1,1)),false)from⟨_,h,rfl⟩
  walk_at "d"
  refine lA [4] (λt:Int × Int=>[(2,.sh (fT t))]) (λk t=>t=dB (xs.take k) (1,1)/\Fq (1+1300*k) t) (1,1) ⟨rfl,BW⟩ rfl (λk x v t gx i=>?_) (λv t i=>?_)
  .have kl:=(List.getElem?_eq_some_iff.mp gx).1
   have fx:=hq x (List.mem_of_getElem? gx)
   have e1:=mul_eq i.2 fx (by lia)
   walk_at "p"
   refine⟨_,⟨?_,(lD i.2 fx).up (by lia)⟩,exV rfl⟩
   rw[i.1,List.take_add_one,gx]
   unfold dB
   rw[List.foldl_append]
   rfl
  .rw[i.1,List.take_length]
   walk_at "p"
 |least=>obtain⟨_,e,v,zs,h,rfl⟩:=pl rfl; exact⟨v,e,zs,h⟩
 |greatest=>obtain⟨_,e,v,zs,h,rfl⟩:=pl rfl; exact⟨v,e,zs,h⟩
 |mid k=>obtain⟨_,e,v,zs,h,rfl⟩:=pl rfl; exact⟨v,e,zs,h⟩
end
theorem nextR{α : Type}{R : α -> α -> Prop}:∀{as:List α},as.Pairwise R->∀z∈as.zip (as.drop 1),R z.1 z.2
 | [],_,z,hz=>by cases hz
 | [a],_,z,hz=>by cases hz
 |a::b::as,h,z,hz=>by
  rw[List.drop_one,List.tail_cons,List.zip_cons_cons]at hz
  rcases List.mem_cons.mp hz with rfl|hz
  .exact(List.pairwise_cons.mp h).1 b (List.mem_cons_self ..)
  .exact nextR (as:=b::as) (List.pairwise_cons.mp h).2 z (by rw[List.drop_one,List.tail_cons]; exact hz)
theorem aiP{ys:List Nat}(h:ys.Pairwise (· < ·))(hl:ys.length<=12):Jm [.lst (ys.map iT)]=.ok (.bl true,false):=by
 have ez:iW (ys.map iT) ((ys.map iT).drop 1)=(ys.zip (ys.drop 1)).map λz=>Tr.tup [iT z.1,iT z.2]:=by
  unfold iW
  rw[<-List.map_drop,List.zip_map,List.map_map]
  rfl
 have ec:jx (some 1) none (.lst (ys.map iT))=.ok (.lst ((ys.map iT).drop 1),true):=congrArg (λL=>Rs.ok (Tr.lst L,true)) (WM (ys.map iT) 1)
 walk_at "d"
 rw[List.length_zip]; lia
 walk_at "r"
 rw[List.map_congr_left (g:=λ_=>Tr.bl true) λx hx=>by
  have:=nextR h x hx
  rw[decide_eq_true (by lia)]]
 exact all_true _
 walk_at "r"
theorem aiQ{ys:List Nat}{m:Nat}(h:ys.Pairwise (· < ·))(hl:ys.length<=12)(hy:∀t∈ys,t<m):Wn [.lst (ys.map iT),.int m]=.ok (.bl true,false):=by
 have e:=aiP h hl
 walk_at "d"
 have p:=BL x m
 rw[decide_eq_true (by lia),decide_eq_true (by have:=hy x hx; lia)]at p
 exact p
 walk_at "r"
 exact all_true ys
 walk_at "r"
section
variable {m:Nat}{rows:List (List (Int × Int))}{ds:List Nat}{as:List (Nat × Nat)}{r:Ru}
theorem Zh{ys:List Nat}(hB:Bk m rows)(hL:Lk rows.length m ds as)(ho:bD rows.length r)(h:ys.Pairwise (· < ·))(hl:ys.length<=12)(hy:∀t∈ys,t<m):∃z,Yu [aO rows,aY r,.lst (ys.map iT),dM ds as]=.ok z/\(eY (loV r rows ds as) (hiV r rows ds as) m ys/\z=(.non,false)\/¬eY (loV r rows ds as) (hiV r rows ds as) m ys/\∃(w o:Nat) (q:Int),w∈ys/\o<m/\o∉ys/\2<=q/\q<2 ^ 1204/\rows.length*(hiV r rows ds as o).1*(loV r rows ds as w).2<q*((hiV r rows ds as o).1*(loV r rows ds as w).2-(loV r rows ds as w).1*(hiV r rows ds as o).2)/\z=(aO (jK rows (sA aq rows ds as) (cJ aq (1,1) rows ds) o q),true)):=by
 obtain⟨b1,b2,b3,b4,b5⟩:=id hB
 have ll:=lE (od:=aq) (one:=(1,1)) hL.1
 have l0:=(hB.row b1).2.1
 have hf:∀t,t<m->Fq 400 (loV r rows ds as t)/\Fq 400 (hiV r rows ds as t):=λt ht=>⟨(uh hB ho ht).2,(w6 hB hL ho ht).2⟩
 have e1:=JR hB ho
 have e2:=aiQ h hl hy
 have e3:=JK hB hL
 have e4:=Xx hB.od hL
 have e5:JG [aO rows,.lst (ds.map iT),.tup [.int 1,.int 1]]=.ok (aG (cJ aq (1,1) rows ds),true):=Xz (one:=(1,1)) hB.od hL.1 hL.2.1
 have e6:=XC (s:=sA aq rows ds as) b1 b2 ll b4 (λl ml=>(b5 l ml).1) (λt ht=>(uh hB ho ht).1) λt ht=>(w6 hB hL ho ht).1
 obtain⟨bb,e7,h7⟩:=Ym hf b4 hy hl
 have g0:aW (aO rows) (.int 0)=.ok (aG (rows.getD 0 []),false):=jM b1
 have e8:=jy (rows.getD 0 [])
 rw[l0]at e8
 cases bb with
 |true =>
  refine⟨_,?_,.inl ⟨h7.mp rfl,rfl⟩⟩
  walk_at "d"
 |false =>
  have ns:¬eY (loV r rows ds as) (hiV r rows ds as) m ys:=λs=>by have:=h7.mpr s; cases this
  obtain⟨T,e9,h9⟩:=Yl hf b4 hy hl
  have mo:∀o,o∈gj m ys↔o<m/\o∉ys:=λo=>by unfold gj; simp
  rcases h9 with⟨rfl,h9⟩|⟨w,o,rfl,mw,om,q1,q2⟩
  .refine absurd (λt mt o ho no=>?_) ns
   rcases h9 with h9|h9
   .rw[h9]at mt; cases mt
   .have:=(mo o).mpr ⟨ho,no⟩
    rw[h9]at this; cases this
  .obtain⟨om,on⟩:=(mo o).mp om
   have wm:=hy w mw
   have lt:aN (loV r rows ds as w) (hiV r rows ds as o)=true:=by
    cases z:aN (loV r rows ds as w) (hiV r rows ds as o)with
    |true=>rfl
    |false =>
     refine absurd (λs ms p hp np=>?_) ns
     exact jJ (hf s (hy s ms)).1.2.2.1 (hf o om).2.2.2.1 (hf p hp).2.2.2.1 (jJ (hf s (hy s ms)).1.2.2.1 (hf w wm).1.2.2.1 (hf o om).2.2.2.1 (q1 s ms) z) (q2 p ((mo p).mpr ⟨hp,np⟩))
   obtain⟨q,e10,s1,s2,s3⟩:=aiF (hf w wm).1 (hf o om).2 lt b1 b2
   have e11:=aiH (s:=sA aq rows ds as) (aV:=cJ aq (1,1) rows ds) b2 b4 ll (λl ml=>(b5 l ml).1) om (λx mx=>(ug hB hL x mx).fq) s1 s2
   have i1:=xJ (a:=loV r rows ds as) (b:=hiV r rows ds as) wm
   have i2:=xJ (a:=loV r rows ds as) (b:=hiV r rows ds as) om
   refine⟨_,?_,.inr ⟨ns,w,o,q,mw,om,on,s1,s2,s3,rfl⟩⟩
   walk_at "d"
end
theorem Zi:∀(ps:List ((Int × Int) × (Int × Int))) (t:Int × Int) (M:Nat),Fq M t->(∀p∈ps,Fq 45 p.1/\Fq 1300 p.2)->Fq (M+1346*ps.length) (cY ps t)
 | [],t,M,h,_=>h
 |p::ps,t,M,h,hp=>by
  have h1:=lD (hp p (List.mem_cons_self ..)).1 (hp p (List.mem_cons_self ..)).2
  have:=Zi ps _ _ (Jv h h1) λq hq=>hp q (List.mem_cons_of_mem _ hq)
  rw[show M+1346*(p::ps).length=M+(45+1300)+1+1346*ps.length by rw[List.length_cons]; lia]
  exact this
theorem Zj:∀(ps:List (Int × Int)) (t:Int × Int) (M:Nat),Fq M t->(∀p∈ps,Fq 1300 p)->Fq (M+1300*ps.length) (dB ps t)
 | [],t,M,h,_=>h
 |p::ps,t,M,h,hp=>by
  have:=Zj ps _ _ (lD h (hp p (List.mem_cons_self ..))) λq hq=>hp q (List.mem_cons_of_mem _ hq)
  rw[show M+1300*(p::ps).length=M+1300+1300*ps.length by rw[List.length_cons]; lia]
  exact this
theorem Wv.fqX{xs:List (Int × Int)}{v:Int × Int}{r:Ru}(hq:∀x∈xs,Fq 1300 x)(hl:xs.length<=4)(ho:bD xs.length r)(a:Wv r xs v):Fq 5400 v:=by
 have pl:(∃zs,bZ xs zs/\zs[dD xs.length r-1]?=some v)->Fq 5400 v:=λ⟨z,d,e⟩=>(hq v (d.1.mem_iff.mp (List.mem_of_getElem? e))).up (by lia)
 cases r with
 |sh ws =>
  have a:v=cY (ws.zip xs) (0,1):=a
  rw[a]
  exact(Zi _ _ 1 tZ λp m=>⟨ho.2 _ (List.of_mem_zip m).1,hq _ (List.of_mem_zip m).2⟩).up (by rw[List.length_zip]; lia)
 |product =>
  have a:v=dB xs (1,1):=a
  rw[a]
  exact(Zj _ _ 1 BW hq).up (by lia)
 |least=>exact pl a
 |greatest=>exact pl a
 |mid k=>exact pl a
theorem Kh{x y:Int × Int}{M N:Nat}(hx:Fq M x)(hy:Fq N y)(hM:M<=8900)(hN:N<=8900):J4 [fT x,fT y]=.ok (.bl (aN x y),false):=by
 have c1:cX x.1 y.2=true:=jF (hx.c hM).1 hM (hy.c hN).2 hN
 have c2:cX y.1 x.2=true:=jF (hy.c hN).1 hN (hx.c hM).2 hM
 walk_at "d"
section
variable {n m:Nat}{rows:List (List (Int × Int))}{r:Ru}
noncomputable def Gd(n m:Nat)(rows:List (List (Int × Int))):Prop:=rows.length=n/\∀k,k<n->(rows.getD k []).length=m/\∀t,t<m->Fq 1300 (aZ rows k t)
theorem Gd.of(h:ju m rows ds as bA):Gd rows.length m bA:=⟨h.1,λk hk=>⟨(h.2 k hk).1,λt ht=>((h.2 k hk).2 t ht).1⟩⟩
theorem Gd.bk(h:Bk m rows):Gd rows.length m rows:=⟨rfl,λk hk=>⟨(h.row hk).2.1,λt ht=>(h.jt hk ht).fq.up (by lia)⟩⟩
theorem Gd.len(h:Gd n m rows):∀l∈rows,l.length=m:=λl ml=>by
 obtain⟨k,hk,e⟩:=List.getElem_of_mem ml
 have:=(h.2 k (by have:=h.1; lia)).1
 rw[List.getD_eq_getElem?_getD,List.getElem?_eq_getElem hk]at this
 exact e▸this
theorem Gd.col(h:Gd n m rows)(ht:t<m):∀x∈col rows t,Fq 1300 x:=λx mx=>by
 unfold BH.col at mx
 obtain⟨k,hk,rfl⟩:=List.mem_map.mp mx
 exact(h.2 k (by have:=List.mem_range.mp hk; have:=h.1; lia)).2 t ht
theorem Km(rows:List (List (Int × Int)))(t:Nat):(.lst (rows.map λl=>fT (l.getD t (0,1))))=aG (BH.col rows t):=by
 unfold aG BH.col
 rw[List.map_map]
 refine congrArg Tr.lst (List.ext_getElem? λi=>?_)
 by_cases z:i<rows.length
 .simp[z,aZ]
 .simp[z]
theorem uE(h:Gd n m rows)(h1:1<=n)(h4:n<=4)(ho:bD n r)(ht:t<m):uw [aY r,aG (BH.col rows t)]=.ok (fT (wv r (BH.col rows t)),false)/\Fq 5400 (wv r (BH.col rows t)):=by
 have q:=h.col ht
 have l:(BH.col rows t).length=n:=by rw[d8,h.1]
 obtain⟨v,e,w⟩:=aiO q (by lia) (by lia) (by rw[l]; exact ho)
 rw[JT (λx mx=>⟨(q x mx).2.2.1,(q x mx).2.2.2.2⟩) w]
 exact⟨e,Wv.fqX q (by lia) (by rw[l]; exact ho) w⟩
theorem Ko{ys:List Nat}(h:Gd n m rows)(h1:1<=n)(h4:n<=4)(hm:m<=12)(ho:bD n r)(hy:∀t∈ys,t<m):∃b,J9 [aO rows,aY r,.lst (ys.map iT)]=.ok (.bl b,false)/\(b=true↔eY (λt=>wv r (BH.col rows t)) (λt=>wv r (BH.col rows t)) m ys):=by
 suffices h:∃z,J9 [aO rows,aY r,.lst (ys.map iT)]=.ok z/\∃b:Bool,(b=true↔eY (λt=>wv r (BH.col rows t)) (λt=>wv r (BH.col rows t)) m ys)/\z=(.bl b,false) by
  obtain⟨_,e,b,h,rfl⟩:=h
  exact⟨b,e,h⟩
 have g0:aW (aO rows) (.int 0)=.ok (aG (rows.getD 0 []),false):=jM (by have:=h.1; lia)
 have e0:=jy (rows.getD 0 [])
 rw[(h.2 0 (by lia)).1]at e0
 have h1':=h.1
 walk_at "e"
 refine qQ [4] (λk=>[(3,.ow ((List.range k).map λt=>fT (wv r (BH.col rows t))))]) rfl (λt v ht=>?_) (λv=>?_)
 .have e:=(uE h h1 h4 ho ht).1
  have cm:=Km rows t
  walk_at "p"
  have:=h.len x hx
  lia
  walk_at "r"
  rw[cm]
  exact e
  walk_at "r"
  rw[List.range_succ,List.map_append]; rfl
 walk_at "p"
 refine lA [4,5] (λ_:Unit=>[]) (λk _=>∀t∈ys.take k,∀o,o<m->o∉ys->aN (wv r (BH.col rows t)) (wv r (BH.col rows o))=false) () (λ_ h=>by cases h) rfl (λk t v _ g i=>?_) (λv _ i=>?_)
 .have mt:=List.mem_of_getElem? g
  have ht:=hy t mt
  walk_at "p"
  rw[List.length_range]
  refine jr [5] (λ_:Unit=>[]) (λj _=>∀o,o<j->o∉ys->aN (wv r (BH.col rows t)) (wv r (BH.col rows o))=false) () (λ_ h=>by lia) rfl (λo v _ ho' j=>?_) (λv _ j=>⟨(),λt' h=>?_,exV rfl⟩)
  .have e:=Kh (uE h h1 h4 ho ht).2 (uE h h1 h4 ho ho').2 (by lia) (by lia)
   have i1:aW (.lst ((List.range m).map λt=>fT (wv r (BH.col rows t)))) (.int t)=.ok (fT (wv r (BH.col rows t)),false):=lB (by simp[ht])
   have i2:aW (.lst ((List.range m).map λt=>fT (wv r (BH.col rows t)))) (.int o)=.ok (fT (wv r (BH.col rows o)),false):=lB (by simp[ho'])
   have nx:(o∉ys->aN (wv r (BH.col rows t)) (wv r (BH.col rows o))=false)->∀p,p<o+1->p∉ys->aN (wv r (BH.col rows t)) (wv r (BH.col rows p))=false:=λh p hp n=>by
    by_cases q:p=o
    .subst q; exact h n
    .exact j p (by lia) n
   by_cases c:o∈ys
   .walk_at "p"
    exact⟨(),nx λh=>(h c).elim,exV rfl⟩
   .by_cases c2:aN (wv r (BH.col rows t)) (wv r (BH.col rows o))=true
    .walk_at "p"
     exact⟨_,rfl,false,⟨λh=>(by cases h),λh=>(by have:=h t mt o ho' c; dsimp only at this; rw[this]at c2; cases c2)⟩,rfl⟩
    .have c2:=Bool.eq_false_iff.mpr c2
     walk_at "p"
     exact⟨(),nx λ_=>c2,exV rfl⟩
  .rw[List.take_add_one,g]at h
   rcases List.mem_append.mp h with h|h
   .exact i t' h
   .obtain rfl:t'=t:=by simpa using h
    exact j
 .rw[List.take_length]at i
  walk_at "p"
  exact⟨_,rfl,true,⟨λ_=>i,λ_=>rfl⟩,rfl⟩
end
theorem aiR(x:Int × Int):YM [fT x]=.ok (.bl true,false):=by kernel_rfl
theorem aiS{x:Int × Int}(h:Int.gcd x.1 x.2=1):red x.1 x.2=x:=by
 unfold red
 rw[h]
 simp
theorem aiT{x:Int × Int}{M:Nat}(h:Fq M x)(hM:M<=8900):uq [.int x.1,.int x.2]=.ok (fT x,false):=by
 have:=uy h.1 h.2.2.1 h.2.2.2.1 hM
 rwa[aiS h.2.2.2.2]at this
theorem aiU(l:List Nat):iK (.lst (l.map iT)) (.lst (l.map iT))=.ok (.bl false,false):=WT (by rw[ag4,JM]; lia)
theorem Kp(x:Int × Int):iK (fT x) (fT x)=.ok (.bl false,false):=WT (by rw[ag6]; lia)
section
variable {m:Nat}{rows bA:List (List (Int × Int))}{ds:List Nat}{as:List (Nat × Nat)}{r:Ru}
theorem Zk(hB:Bk m rows)(hL:Lk rows.length m ds as)(A:ju m rows ds as bA):YS [aO rows,aO bA,dM ds as]=.ok (.bl true,false):=by
 obtain⟨b1,b2,b3,b4,b5⟩:=id hB
 have a1:=A.1
 have ty:nW (aO bA) .list=true:=rfl
 have e1:=lH bA
 rw[a1]at e1
 have dl:ds.length=rows.length:=hL.1
 have ap:=Lk.ok hB.od hL
 have i0:aW (dM ds as) (.int 0)=.ok (.lst (ds.map iT),false):=rfl
 have i1:aW (dM ds as) (.int 1)=.ok (.lst (as.map pT),false):=rfl
 walk_at "d"
 refine qQ [3,4,5] (λk=>[]) rfl (λk v hk=>?_) (λv=>?_)
 .have hk':k<bA.length:=by lia
  have l1:=(hB.row hk).2.1
  have l2:=(A.2 k hk).1
  have ty2:nW (aG (bA.getD k [])) .list=true:=rfl
  have g1:=jM hk
  have g2:=jM hk'
  have gd:=m9 (f:=iT) 0 (show k<ds.length by lia)
  obtain⟨F,o1,_⟩:=Zf (hB.row hk).2.2 (by lia)
  have fx:∀x∈bA.getD k [],Fq 1300 x/\x.1<=x.2:=λx mx=>by
   obtain⟨t,ht,rfl⟩:=List.getElem_of_mem mx
   have:=(A.2 k hk).2 t (by lia)
   unfold aZ at this
   rw[List.getD_eq_getElem?_getD (l:=bA.getD k []),List.getElem?_eq_getElem ht]at this
   exact⟨this.1,this.2.1⟩
  obtain⟨zs,o2,F2⟩:=order_eq (λx mx=>(fx x mx).1) (by lia)
  have ag:=A.agree hB hL hk
  rw[JQ F2 (A.fall hk)]at o2
  have sl:jx none (some (ds.getD k 0:Nat)) (.lst ((aq (bA.getD k [])).map iT))=.ok (.lst (((aq (rows.getD k [])).take (ds.getD k 0)).map iT),true):=by rw[<-ag.1]; exact qY
  have n1:=aiU ((aq (rows.getD k [])).take (ds.getD k 0))
  have z0:(((aq (rows.getD k [])).take (ds.getD k 0)).filter λ_=>false).length=0:=by simp
  have tl:((aq (rows.getD k [])).take (ds.getD k 0)).length<=12:=by rw[List.length_take,uD F]; lia
  have lt:∀t∈(aq (rows.getD k [])).take (ds.getD k 0),t<m:=λt mt=>l1▸List.mem_range.mp (F.1.mem_iff.mp (List.mem_of_mem_take mt))
  walk_at "p"
  refine lA [4] (λ_:Unit=>[]) (λ_ _=>True) () trivial rfl (λj x v _ gx _=>?_) (λv _ _=>?_)
  .obtain⟨q1,q2⟩:=fx x (List.mem_of_getElem? gx)
   have f1:=aiT q1 (by lia)
   have f2:=aiR x
   have f3:=Kp x
   obtain⟨p1,_,p2,_⟩:=q1
   walk_at "p"
   exact⟨(),trivial,exV rfl⟩
  .walk_at "p"
   have:=lt x hx
   lia
   walk_at "r"
   have:=lt x hx
   lia
   walk_at "r"
   exact(congrArg (λy=>iK (fT y) _) (ag.2 x hx)).trans (Kp _)
   walk_at "r"
   done
 .have z1:(as.filter λ_=>false).length=0:=by simp
  have al:=hL.2.2.2.1
  walk_at "p"
  have:=(ap x hx).1
  lia
  walk_at "r"
  have:=(A.2 x.1 (ap x hx).1).1
  have:=(hB.row (ap x hx).1).2.1
  have:=(ap x hx).2
  lia
  walk_at "r"
  exact(ap x hx).1
  walk_at "r"
  exact(ap x hx).1
  walk_at "r"
  exact(hL.2.2.2.2 x hx).2
  walk_at "r"
  have es:aZ bA x.1 x.2=aZ rows x.1 x.2:=((A.2 x.1 (ap x hx).1).2 x.2 (hL.2.2.2.2 x hx).2).2.2.1 (by unfold BH.sA sn; rw[decide_eq_true (show(x.1,x.2)∈as from hx),Bool.or_true])
  exact(congrArg (λy=>iK (fT y) _) es).trans (Kp _)
  walk_at "r"
  exact congrArg (λb=>Rs.ok (Tr.bl b,false)) (decide_eq_true (by lia))
end
theorem aiV{x f:Int × Int}(hx:Wo x)(f0:0<=f.1)(f1:1<=f.2)(hf:f.1<f.2):(aP x f).1<=(aP x f).2/\(aN (aP x f) x=true\/x=(0,1)/\aP x f=(0,1)):=by
 obtain⟨h1,h2,h3,h4,h5⟩:=hx
 have hb:=jH h3 f1
 obtain⟨v,p,_⟩:=eV (a:=x.1*f.1) hb
 have le:x.1*f.1<=x.2*f.2:=Int.mul_le_mul h2 (by lia) f0 (by lia)
 have z:x.1=0->x=(0,1)/\aP x f=(0,1):=λe=>by
  have:=Cw ⟨h1,h2,h3,h4,h5⟩ e
  subst this
  refine⟨rfl,?_⟩
  unfold aP red
  dsimp only
  rw[Int.zero_mul,Int.one_mul,Int.gcd_zero_left,Int.zero_ediv,show((f.2.natAbs:Nat):Int)=f.2 by lia,Int.ediv_self (by lia)]
 change x.1*f.1*(aP x f).2=(aP x f).1*(x.2*f.2)at v
 change 1<=(aP x f).2 at p
 generalize aP x f=y at *
 refine⟨?_,?_⟩
 .refine Int.le_of_mul_le_mul_right (a:=x.2*f.2) ?_ (by lia)
  rw[<-v,Int.mul_comm y.2]
  exact Int.mul_le_mul_of_nonneg_right le (by lia)
 .by_cases e:x.1=0
  .exact .inr (z e)
  .refine .inl (decide_eq_true (Int.lt_of_mul_lt_mul_right (a:=f.2) ?_ (by lia)))
   have p2:=Int.mul_lt_mul_of_pos_right hf (show 0<x.1*y.2 from Int.mul_pos (by lia) (by lia))
   have e1:y.1*x.2*f.2=f.1*(x.1*y.2):=by grind
   have e2:x.1*y.2*f.2=f.2*(x.1*y.2):=by grind
   lia
theorem part8(y:Int):uq [.int (y.fmod 8),.int 8]=.ok (fT (red (y.fmod 8) 8),false)/\Fq 4 (red (y.fmod 8) 8)/\(red (y.fmod 8) 8).1<(red (y.fmod 8) 8).2:=by
 have r:=jd y 8 (by lia)
 obtain⟨v,p,_⟩:=eV (a:=y.fmod 8) (b:=8) (by lia)
 exact⟨uy (M:=4) r.1 (by lia) (by lia) (by lia),tX (M:=4) r.1 (by lia) (by lia) (by lia),by
  have:=Int.mul_lt_mul_of_pos_right r.2 (show 0<(red (y.fmod 8) 8).2 by lia)
  lia⟩
section
variable {m:Nat}{rows:List (List (Int × Int))}{ds:List Nat}{as:List (Nat × Nat)}{r:Ru}
noncomputable def Pl(rows:List (List (Int × Int)))(ds:List Nat)(as:List (Nat × Nat))(k t:Nat)(v:Int × Int):Prop:=Fq 1300 v/\v.1<=v.2/\(BH.sA aq rows ds as k t=true->v=aZ rows k t)/\(BH.sA aq rows ds as k t=false->0<ds.getD k 0->aN v (cH aq (1,1) (rows.getD k []) (ds.getD k 0))=true\/v=cH aq (1,1) (rows.getD k []) (ds.getD k 0)/\(aq (rows.getD k [])).getD (ds.getD k 0-1) 0<t)
theorem Zm(hB:Bk m rows)(hk:k<rows.length)(ht:t<m)(z:BH.sA aq rows ds as k t=true):Pl rows ds as k t (aZ rows k t) :=
 ⟨(hB.jt hk ht).fq.up (by lia),(hB.jt hk ht).2.1,λ_=>rfl,λh=>by rw[z]at h; cases h⟩
theorem aiW(hB:Bk m rows)(hL:Lk rows.length m ds as)(hk:k<rows.length)(z:BH.sA aq rows ds as k t=false)(h:0<ds.getD k 0->(aq (rows.getD k [])).getD (ds.getD k 0-1) 0<t):Pl rows ds as k t (cH aq (1,1) (rows.getD k []) (ds.getD k 0)) :=
 have w:=qT hB hk (hL.d hk)
 ⟨w.fq.up (by lia),w.2.1,λh=>(by rw[z]at h; cases h),λ_ d0=>.inr ⟨rfl,h d0⟩⟩
theorem aiX(hB:Bk m rows)(hL:Lk rows.length m ds as)(hk:k<rows.length)(ht:t<m)(z:BH.sA aq rows ds as k t=false):Pl rows ds as k t (0,1):=by
 have w:=qT hB hk (hL.d hk)
 refine⟨tZ.up (by lia),by decide,λh=>(by rw[z]at h; cases h),λ_ d0=>?_⟩
 by_cases p:0<(cH aq (1,1) (rows.getD k []) (ds.getD k 0)).1
 .exact .inl (decide_eq_true (by lia))
 .have z0:=Cw w (by have:=w.1; lia)
  exact .inr ⟨z0.symm,tie hB hL hk ht z d0 z0⟩
theorem aiY(hB:Bk m rows)(hL:Lk rows.length m ds as)(hk:k<rows.length)(ht:t<m)(z:BH.sA aq rows ds as k t=false)(y:Int):Pl rows ds as k t (aP (cH aq (1,1) (rows.getD k []) (ds.getD k 0)) (red (y.fmod 8) 8)):=by
 have w:=qT hB hk (hL.d hk)
 obtain⟨_,q1,q2⟩:=part8 y
 obtain⟨s1,s2⟩:=aiV w q1.1 q1.2.2.1 q2
 refine⟨(lD w.fq q1).up (by lia),s1,λh=>(by rw[z]at h; cases h),λ_ d0=>?_⟩
 rcases s2 with s2|⟨s2,s3⟩
 .exact .inl s2
 .exact .inr ⟨s3.trans s2.symm,tie hB hL hk ht z d0 s2⟩
theorem aiZ(ns:List Int){a:Int}(ha:0<=a)(hB:Bk m rows)(hL:Lk rows.length m ds as):∃bA,Kc [.lst (ns.map .int),.int a,aO rows,dM ds as]=.ok (aO bA,true)/\ju m rows ds as bA:=by
 suffices h:∃z,Kc [.lst (ns.map .int),.int a,aO rows,dM ds as]=.ok z/\∃bA,ju m rows ds as bA/\z=(aO bA,true) by
  obtain⟨_,e,bA,h,rfl⟩:=h
  exact⟨bA,e,h⟩
 obtain⟨b1,b2,b3,b4,b5⟩:=id hB
 have dl:ds.length=rows.length:=hL.1
 have i0:aW (dM ds as) (.int 0)=.ok (.lst (ds.map iT),false):=rfl
 have i1:aW (dM ds as) (.int 1)=.ok (.lst (as.map pT),false):=rfl
 walk_at "e"
 refine jr [5,6,7,8,9,10,11,12] (λR:List (List (Int × Int))=>[(4,.ow (R.map aG))]) (λk R=>R.length=k/\∀i,i<k->(R.getD i []).length=m/\∀t,t<m->Pl rows ds as i t (aZ R i t)) [] ⟨rfl,λ_ h=>by lia⟩ rfl (λk v R hk iR=>?_) (λv R iR=>?_)
 .have hk':k<ds.length:=by lia
  have l1:=(hB.row hk).2.1
  have g1:=jM hk
  have gd:=m9 (f:=iT) 0 hk'
  obtain⟨F,o1,_⟩:=Zf (hB.row hk).2.2 (by lia)
  have hd:=hL.d hk
  have tl:((aq (rows.getD k [])).take (ds.getD k 0)).length=ds.getD k 0:=by rw[List.length_take,uD F]; lia
  obtain⟨y,ey,_⟩:=Cu ns (i:=a+k) (by lia)
  have lR:=iR.1
  walk_at "p"
  refine jr [9,10,11,12] (λs:Int × List (Int × Int)=>[(8,.sh (.int s.1)),(7,.ow (s.2.map fT))]) (λj s=>s.2.length=j/\∀t,t<j->Pl rows ds as k t (s.2.getD t (0,1))) (y,[]) ⟨rfl,λ_ h=>by lia⟩ rfl (λt v s ht is=>?_) (λv s is=>?_)
  .obtain⟨y,L⟩:=s
   have ls:L.length=t:=is.1
   have tm:t<m:=by lia
   have g2:=m8 (l:=rows.getD k []) (i:=t) ht
   walk_at "p"
   refine Bw (λs:(Int × Int) × Sl × Sl=>[(11,s.2.1),(12,s.2.2),(10,.sh (fT s.1))]) (λs=>Pl rows ds as k t s.1) ?_ λs iS=>?_
   .have sd:BH.sA aq rows ds as k t=(decide (t∈(aq (rows.getD k [])).take (ds.getD k 0)) || decide ((k,t)∈as)):=rfl
    by_cases c1:t∈(aq (rows.getD k [])).take (ds.getD k 0)
    .have z:BH.sA aq rows ds as k t=true:=by rw[sd,decide_eq_true c1]; rfl
     walk_at "r"
     refine wF (by rw[decide_eq_true c1]; rfl) ?_
     walk_at "r"
     exact⟨rfl,(aZ rows k t,_,_),Zm hB hk tm z,rfl⟩
    by_cases c2:(k,t)∈as
    .have z:BH.sA aq rows ds as k t=true:=by rw[sd,decide_eq_true c2,Bool.or_true]
     walk_at "r"
     refine wF (by rw[decide_eq_true c2,Bool.not_true,Bool.and_false]) ?_
     walk_at "r"
     exact⟨rfl,(aZ rows k t,_,_),Zm hB hk tm z,rfl⟩
    have z:BH.sA aq rows ds as k t=false:=by rw[sd,decide_eq_false c1,decide_eq_false c2]; rfl
    have wl:=qT hB hk hd
    obtain⟨p1,p2,_⟩:=part8 y
    have pm:=mul_eq wl.fq p2 (by lia)
    have pp:=aiY hB hL hk tm z y
    have p0:=aiX hB hL hk tm z
    have pt:=aiW hB hL hk z
    by_cases d0:0<ds.getD k 0
    .have el:cH aq (1,1) (rows.getD k []) (ds.getD k 0)=(rows.getD k []).getD ((aq (rows.getD k [])).getD (ds.getD k 0-1) 0) (0,1):=by unfold cH; rw[if_pos d0]
     have ml:=Kf F d0 (by lia)
     have gl:aW (.lst (((aq (rows.getD k [])).take (ds.getD k 0)).map iT)) (.int (-1))=.ok (iT ((aq (rows.getD k [])).getD (ds.getD k 0-1) 0),false):=Yk (by
      rw[List.length_map,tl,List.getElem?_map,List.getElem?_take,if_pos (by lia),List.getD_eq_getElem?_getD (l:=aq (rows.getD k [])),List.getElem?_eq_getElem (by rw[uD F]; lia)]
      rfl)
     have gT:=m8 (l:=rows.getD k []) (i:=(aq (rows.getD k [])).getD (ds.getD k 0-1) 0) (List.mem_range.mp (F.1.mem_iff.mp (List.mem_of_mem_take ml)))
     rw[<-el]at gT
     walk_at "r"
     refine wT (by rw[decide_eq_false c1,decide_eq_false c2]; rfl) ?_
     walk_at "r"
     by_cases c3:(y.fdiv 8).fmod 3=0
     .by_cases c4:(((aq (rows.getD k [])).getD (ds.getD k 0-1) 0:Nat):Int)<t
      .refine wT (by rw[decide_eq_true c3,decide_eq_true c4]; rfl) ?_
       walk_at "r"
       exact⟨rfl,(cH aq (1,1) (rows.getD k []) (ds.getD k 0),_,_),pt λ_=>by lia,rfl⟩
      .refine wF (by rw[decide_eq_false c4,Bool.and_false]) ?_
       walk_at "r"
       exact⟨rfl,(_,_,_),pp,rfl⟩
     .refine wF (by rw[decide_eq_false c3]; rfl) ?_
      by_cases c5:(y.fdiv 8).fmod 3=1
      .walk_at "r"
       exact⟨rfl,((0,1),_,_),p0,rfl⟩
      .walk_at "r"
       exact⟨rfl,(_,_,_),pp,rfl⟩
    .have el:cH aq (1,1) (rows.getD k []) (ds.getD k 0)=(1,1):=by unfold cH; rw[if_neg d0]
     rw[el]at pm pp pt
     have pm:J1 [.tup [.int 1,.int 1],fT (red (y.fmod 8) 8)]=.ok (fT (aP (1,1) (red (y.fmod 8) 8)),false):=pm
     walk_at "r"
     refine wT (by rw[decide_eq_false c1,decide_eq_false c2]; rfl) ?_
     walk_at "r"
     by_cases c3:(y.fdiv 8).fmod 3=0
     .refine wT (by rw[decide_eq_true c3]; rfl) ?_
      walk_at "r"
      exact⟨rfl,((1,1),_,_),pt λh=>(d0 h).elim,rfl⟩
     .refine wF (by rw[decide_eq_false c3]; rfl) ?_
      by_cases c5:(y.fdiv 8).fmod 3=1
      .walk_at "r"
       exact⟨rfl,((0,1),_,_),p0,rfl⟩
      .walk_at "r"
       exact⟨rfl,(_,_,_),pp,rfl⟩
   .obtain⟨v',s1,s2⟩:=s
    walk_at "p"
    refine⟨(_,L++[v']),⟨by simp[ls],λj hj=>?_⟩,exV (by rw[<-pA]; rfl)⟩
    by_cases e:j=t
    .subst e
     rw[List.getD_eq_getElem?_getD,List.getElem?_append_right (by lia),ls,Nat.sub_self]
     exact iS
    .have:=is.2 j (by lia)
     rw[List.getD_eq_getElem?_getD,List.getElem?_append_left (by lia),<-List.getD_eq_getElem?_getD]
     exact this
  .walk_at "p"
   refine⟨R++[s.2],⟨by simp[lR],λi hi=>?_⟩,exV (by rw[<-pA]; rfl)⟩
   by_cases e:i=k
   .subst e
    unfold aZ
    rw[List.getD_eq_getElem?_getD (l:=R++[s.2]),List.getElem?_append_right (by lia),lR,Nat.sub_self]
    exact⟨by have:=is.1; rw[l1]at this; exact this,λt ht=>is.2 t (by lia)⟩
   .have:=iR.2 i (by lia)
    unfold aZ at *
    rw[List.getD_eq_getElem?_getD (l:=R++[s.2]),List.getElem?_append_left (by lia),<-List.getD_eq_getElem?_getD]
    exact this
 .walk_at "p"
  exact⟨_,rfl,R,⟨iR.1,iR.2⟩,rfl⟩
end
end K91
end
section
namespace BH
open PySem L2
end BH
end
section
namespace K91
open PySem L2 BH
section
variable {m:Nat}{rows:List (List (Int × Int))}{r:Ru}
theorem ai0(hB:Bk m rows)(ht:t<m):Jl [aO rows,.int t]=.ok (aG (BH.col rows t),true):=by
 have cm:=Km rows t
 have:=hB.2.1
 rw[<-cm]
 unfold aO
 walk_at "d"
 have:=(hB.2.2.2.2 x hx).1
 lia
 walk_at "r"
theorem ai1(hB:Bk m rows)(ho:bD rows.length r):Vs [aO rows,aY r]=.ok (.lst ((List.range m).map λt=>fT (wv r (BH.col rows t))),true):=by
 have g0:aW (aO rows) (.int 0)=.ok (aG (rows.getD 0 []),false):=jM hB.1
 have e0:=jy (rows.getD 0 [])
 rw[(hB.row hB.1).2.1]at e0
 have:=hB.2.2.2.1
 walk_at "d"
 exact ai0 hB hx
 walk_at "r"
 exact(JW hB ho hx).1
 walk_at "r"
theorem ai2(hB:Bk m rows)(ho:bD rows.length r)(hc:c<=m):∃zs:List Nat,zs.Perm (List.range m)/\VH [aO rows,aY r,iT c]=.ok (.lst ((zs.take c).map λt=>.tup [iT t,fT (wv r (BH.col rows t))]),true):=by
 have b4:=hB.2.2.2.1
 have e1:=Yq hB ho hc
 have e2:=ai1 hB ho
 have fw:∀t,t<m->Fq 400 (wv r (BH.col rows t)):=λt ht=>Wv.fq (wY hB ht) (by rw[d8]; exact hB.2.1) (by rw[d8]; exact ho) (JW (r:=r) hB ho ht).2
 have ll:((List.range m).map λt=>wv r (BH.col rows t)).length=m:=by simp
 obtain⟨zs,e3,f⟩:=BP (N:=400) ((List.range m).map λt=>wv r (BH.col rows t)) (λx mx=>by
  obtain⟨t,mt,rfl⟩:=List.mem_map.mp mx
  obtain⟨q1,q2,q3,q4,_⟩:=fw t (List.mem_range.mp mt)
  have:=gD 400
  exact⟨q3,q4,by lia⟩) (by rw[ll]; lia) (by lia) (by rw[ll]; lia)
 rw[uf]at e3
 have p:=f.1
 rw[ll]at p
 have tl:(zs.take c).length<=12:=by rw[List.length_take,p.length_eq,List.length_range]; lia
 refine⟨zs,p,?_⟩
 rw[show((zs.take c).map λt=>Tr.tup [iT t,fT (wv r (BH.col rows t))])=(zs.take c).map λt=>Tr.tup [iT t,fT (wv r (BH.col rows ((List.range m).getD t 0)))]from List.map_congr_left λt mt=>by
  have xm:=List.mem_range.mp (p.mem_iff.mp (List.mem_of_mem_take mt))
  rw[List.getD_eq_getElem?_getD,List.getElem?_range xm]
  rfl]
 walk_at "d"
 have xm:=List.mem_range.mp (p.mem_iff.mp (List.mem_of_mem_take hx))
 rw[List.length_range]
 exact xm
 walk_at "r"
end
theorem Cy{m:Nat}{zs:List Nat}:(bT m zs).Pairwise (· < ·):=(List.pairwise_lt_range (n:=m)).filter _
theorem uF{m:Nat}{zs:List Nat}:∀t∈bT m zs,t<m:=λt h=>List.mem_range.mp (List.mem_filter.mp h).1
theorem ai3{m:Nat}{zs:List Nat}:(bT m zs).length<=m:=Nat.le_trans (List.length_filter_le ..) (by rw[List.length_range]; exact Nat.le_refl _)
theorem ai4(ns:List Int):ux [.lst (ns.map .int)]=.ok (.bl true,false):=by
 obtain⟨m,rows,hB,hD,h8,h4,e1⟩:=aiy ns 0 (L:=4) (M:=12) (by lia) (by lia)
 obtain⟨ds,as,hL,e2⟩:=aiz ns 5 hB
 obtain⟨x7,c7,_⟩:=cell_eq ns 7
 obtain⟨x8,c8,_⟩:=cell_eq ns 8
 obtain⟨r,q1,o1,oS⟩:=aiM x7 hB.1 hB.2.1
 obtain⟨b1,b2,b3,b4,b5⟩:=id hB
 obtain⟨c,hc,ec⟩:=Y4 x8 m
 have e3:=ahO hB hL o1
 have hf:∀t,t<m->Fq 400 (loV r rows ds as t)/\Fq 400 (hiV r rows ds as t):=λt ht=>⟨(uh hB o1 ht).2,(w6 hB hL o1 ht).2⟩
 have l0:=(hB.row b1).2.1
 have g0:aW (aO rows) (.int 0)=.ok (aG (rows.getD 0 []),false):=jM b1
 have el:eH (aG (rows.getD 0 []))=.ok (.int m,false):=by rw[jy,l0]
 have ea:n8 (.int (m:Nat)) (.int 1)=.ok (.int ((m:Int)+1),false):=rfl
 have hl:∀t,t<m->aN (hiV r rows ds as t) (loV r rows ds as t)=false:=λt ht=>by
  obtain⟨b1,b2⟩:=XS hB hL o1 ht
  exact jJ (hf t ht).2.2.2.1 (Wv.fq (wY hB ht) (by rw[d8]; exact hB.2.1) (by rw[d8]; exact o1) (JW (r:=r) hB o1 ht).2).2.2.1 (hf t ht).1.2.2.1 (fP.mpr b2) (fP.mpr b1)
 obtain⟨ys,bb,ho,f1,h1⟩:=ah4 hB hD hL o1 oS hc
 -- a sure few is a best few of each book between the bounds
 have Zn:∀(W:Nat->Int × Int) (zs:List Nat),(∀t,t<m->1<=(W t).2/\le2 (loV r rows ds as t) (W t)/\le2 (W t) (hiV r rows ds as t))->(∀t∈zs,t<m)->eY (loV r rows ds as) (hiV r rows ds as) m zs->eY W W m zs:=λW zs hW hz s t mt o om on=>by
  obtain⟨w1,w2,_⟩:=hW t (hz t mt)
  obtain⟨v1,_,v3⟩:=hW o om
  have k:=fP.mp (s t mt o om on)
  exact fP.mpr (o8 v1 (hf t (hz t mt)).1.2.2.1 w1 (o8 v1 (hf o om).2.2.2.1 (hf t (hz t mt)).1.2.2.1 v3 k) w2)
 have ob:=λt ht=>XS (r:=r) hB hL o1 (t:=t) ht
 have fc:=λt ht=>(uE (Gd.bk hB) b1 b2 o1 (t:=t) ht).2
 have hz:∀t∈bT m (ys.take c),t<m:=uF
 have zr:(bT m (ys.take c)).Pairwise (· < ·):=Cy
 have zl:=ai3 (m:=m) (zs:=ys.take c)
 have ms:∀t,t∈bT m (ys.take c)↔t∈ys.take c:=λt=>Yn λt h=>List.mem_range.mp (ho.1.mem_iff.mp (List.mem_of_mem_take h))
 have h1:bb=true↔eY (loV r rows ds as) (hiV r rows ds as) m (bT m (ys.take c)):=by
  refine h1.trans ?_
  unfold eY
  simp only[ms]
 have bl:=Mh (a:=loV r rows ds as) (b:=hiV r rows ds as) (m:=m)
 obtain⟨bq,eq,hq⟩:=Ko (ys:=bT m (ys.take c)) (Gd.bk hB) b1 b2 b4 o1 hz
 cases bb
 case' true =>
  rw[show uo true (bT m (ys.take c))=.lst ((bT m (ys.take c)).map iT)from rfl]at f1
  obtain rfl:bq=true:=hq.mpr (Zn _ _ (λt ht=>⟨(fc t ht).2.2.1,ob t ht⟩) hz (h1.mp rfl))
 case' false=>rw[show uo false (bT m (ys.take c))=.non from rfl]at f1
 all_goals
  walk_at "d"
  refine qQ [7,8,9,10] (λ_=>[]) rfl (λk v hk=>?_) (λv=>?_)
  .obtain⟨bA,ef,A⟩:=aiZ ns (a:=10+4*(k:Int)) (by lia) hB hL
   have eg:=Zk hB hL A
   have gd:=Gd.of A
   obtain⟨b',eb,hb⟩:=Ko (ys:=bT m (ys.take c)) gd b1 b2 b4 o1 hz
   have ob':=λt ht=>A.between (r:=r) hB hL o1 (t:=t) ht
   have Kq:=λt ht=>(uE gd b1 b2 o1 (t:=t) ht).2
   have hb':=λh=>hb.mpr (Zn _ _ (λt ht=>⟨(Kq t ht).2.2.1,ob' t ht⟩) hz h)
   have ht:0=0:=rfl
   first
   |(have q:=hb' (h1.mp rfl); subst q)
   |skip
   walk_at "p"
   refine qQ [9,10] (λ_=>[]) rfl (λt v ht=>?_) (λv=>?_)
   .have cm:=Km bA t
    have ew:=(uE gd b1 b2 o1 ht).1
    have bg:=xJ (a:=loV r rows ds as) (b:=hiV r rows ds as) ht
    have w1:=Kh (Kq t ht) (hf t ht).1 (by lia) (by lia)
    have w2:=Kh (hf t ht).2 (Kq t ht) (by lia) (by lia)
    rw[fP.mpr (ob' t ht).1]at w1
    rw[fP.mpr (ob' t ht).2]at w2
    have a1:=A.1
    walk_at "p"
    have:=gd.len x hx
    lia
    walk_at "r"
    rw[cm]
    exact ew
    walk_at "r"
   .walk_at "p"
    exact exV rfl
 .obtain⟨zs,pz,ebf⟩:=ai2 hB o1 hc
  have es:=Yp (c:=c) pz b4
  have sl:(bT m (zs.take c)).length=c:=by rw[(Yo (c:=c) pz).length_eq,List.length_take,pz.length_eq,List.length_range]; lia
  have ns:¬eY (loV r rows ds as) (hiV r rows ds as) m (bT m (zs.take c)):=λs=>by
   have:=ah5 (λt ht=>⟨(hf t ht).1.2.2.1,(hf t ht).2.2.2.1,hl t ht⟩) ho (Cy.imp λh=>Nat.ne_of_lt h) uF s
   rw[sl]at this
   have:=h1.mpr (by unfold eY at *; simp only[ms]; exact this)
   cases this
  obtain⟨z,eo,h9⟩:=Zh (ys:=bT m (zs.take c)) hB hL o1 Cy (by rw[sl]; lia) uF
  rcases h9 with⟨s,_⟩|⟨_,w,o,q,mw,om,on,s1,s2,s3,rfl⟩
  .exact(ns s).elim
  .have A:=Ze (o:=o) hB hL s1 s2
   have eg:=Zk hB hL A
   obtain⟨b',eb,hb⟩:=Ko (ys:=bT m (zs.take c)) (Gd.of A) b1 b2 b4 o1 uF
   have bf:b'=false:=by
    cases b' with
    |false=>rfl
    |true =>
     have:=hb.mp rfl w mw o om on
     dsimp only at this
     rw[aiL hB hL o1 (uF w mw) om (λe=>on (e▸mw)) s1 s2 s3]at this
     cases this
   subst bf
   walk_at "p"
   done
 .obtain⟨z,eo,h9⟩:=Zh (ys:=bT m (ys.take c)) hB hL o1 Cy (by lia) uF
  rcases h9 with⟨_,rfl⟩|⟨n,_⟩
  .walk_at "p"
  .exact(n (h1.mp rfl)).elim
end K91
end
section
namespace L2
open PySem PySem.Spec PyProof.Rows PySem.W
noncomputable def Zo:List Ty:=[.int,.bool,.str,.tuple,.list]
noncomputable def Zq(K:Frag)(cs:List Str)(p:Str->Addr->Bool):Bool:=cs.all λc=>match nsIn K mainGlobals c with
 |some (some (.ref C))=>p c C
 |_=>true
theorem ai5{K:Frag}{cs:List Str}{p:Str->Addr->Bool}(h:Zq K cs p=true){c:Str}(m:c∈cs){C:Addr}(n:nsIn K mainGlobals c=some (some (.ref C))):p c C=true:=by
 have:=List.all_eq_true.mp h c m
 rw[n]at this
 exact this
noncomputable def Kr(K:Frag)(C:Addr):Bool:=findIn K (.ref C) "__getattribute__" == some (some (.builtin "BaseException.__getattribute__"))&&findIn K (.ref C) "__getattr__" == some none&&findIn K (.ref C) "__class__" == some (some (.builtin "object.__class__"))&&mroIn K C (.type "object") == some true&&mroIn K C (.type "BaseException") == some true&&(clsIn K C).isSome
theorem ai6{K:Frag}{C:Addr}(h:Kr K C=true):nY K C:=by
 unfold Kr at h
 simp only[Bool.and_eq_true]at h
 obtain⟨⟨⟨⟨⟨h1,h2⟩,h3⟩,h4⟩,h5⟩,h6⟩:=h
 exact⟨beq_iff_eq.mp h1,beq_iff_eq.mp h2,beq_iff_eq.mp h3,beq_iff_eq.mp h4,beq_iff_eq.mp h5,h6⟩
theorem lX.of{K:Frag}(h:(Zq K yt λ_ C=>Kr K C&&Zo.all λy=>kitOne K (.ref C) (.type y.name) == some false)=true):lX K:=λc m C n=>by
 obtain⟨x1,x2⟩:=an.mp (ai5 h m n)
 exact⟨λa=>acY (ai6 x1),λy=>beq_iff_eq.mp (List.all_eq_true.mp x2 y (by cases y <;> simp[Zo]))⟩
theorem ai7{P:Program}{w:World}{K:PySem.W.Frag}{mg mb:Str->Option Value}{CX:gO}{k:Nat}{fa a:Addr}{x:Str}{sp:Sp}{s₁ : Shared}{vs:List Value}{ns:List Int}
  (KX:K.In s₁.heap) (hns:s₁.heap.Ns mainGlobals mg) (hb:s₁.heap.Ns builtinsNs mb) (hbb:∀x:Str,x ≠ "__name__" -> mb x=bootBuiltins x) (hlim:s₁.heap.NoLimit) (hg:s₁.gens = #[])
  (ha:s₁.heap.get? a=some {cls:=.type "list",data:=.seq vs.toArray }) (hi:IntsAre vs ns) (hl:ns.length<=sizeLine) (hr:dg k callerA)
  (hT:∀x∈fC,∀c b,tabIn K x=some (c,b)->CodeHd s₁.heap c b/\s₁.heap.get? b=some (tabObj #[])) (qW:noTabs K=true) (hB:mO mg s₁.heap)
  (F:∀base:Heap,K.In base->base.Ns mainGlobals mg->(∀x∈fC,∀c b,tabIn K x=some (c,b)->CodeHd base c b)->mO mg base->∃fd:FuncData,(∀(s:Shared) (u:Value),K.In s.heap->BindsTo s fd ⟨[u],[]⟩ [(x,u)])/\gP P w K mg base CX k fa fd [x] sp)
  (hsp:∀H:Hp,bW (aC K) H->iH K H a (ns.map V.int)->sp [.ref a] H (λv _=>v=.bl true) λ_ _ _=>False)
  (Ks:∀H e s',CX [] H s₁ (λ_ _ _=>False) e s'->False) :
  codeAny (model P w) callerA (.call (.ref fa) ⟨[.ref a],[]⟩) (λr s'=>r=.ok (.ret (.bool true))/\OldK s₁.heap s'.heap/\s'.os=s₁.os/\AllBare s'.gens) s₁ := by
 have rv:=DX hi
 have lenV:=hi.length
 -- from an abstract heap in which nothing but the script may be tracked
 have hT':∀b,Tb (aC K) b->∃c,CodeHd s₁.heap c b/\s₁.heap.get? b=some (tabObj #[]):=λb ⟨x,hx,c,e⟩=>⟨c,hT x hx c b (QH e)⟩
 have core:∀H:Hp,(∀b,H b=none\/(∃o xs,H b=some (.cZ o (.lst xs)))\/(H b=some (.cM #[])/\Tb (aC K) b))->bW (aC K) H->iH K H a (ns.map V.int)->cQ P w H s₁.heap->(∀b,H b≠none->b=a\/Tb (aC K) b)->(H a≠none->K.lookup a=none) ->
   codeAny (model P w) callerA (.call (.ref fa) ⟨[.ref a],[]⟩) (λr s'=>r=.ok (.ret (.bool true))/\OldK s₁.heap s'.heap/\s'.os=s₁.os/\AllBare s'.gens) s₁ := by
  intro H hO hTb hS hok hA hK
  have Cz:∀{b:Addr} {o:Obj},s₁.heap.get? b=some o->H b=none->(lJ s₁.heap H).get? b=some o:=λe n=>aaB e n
  have uR:∀{b:Addr} {o:Obj} {es:Array DictEntry} {ep:Nat},s₁.heap.get? b=some o->o.data=.dict es ep->H b=none:=λ{b o es ep} e d=>by
   cases q:H b with
   |none=>rfl
   |some u =>
    rcases hA b (by rw[q]; simp)with e'|e'
    .subst e'
     rw[ha]at e; cases e
     have d':Data.seq vs.toArray _=Data.dict es ep:=d
     cases d'
    .obtain⟨c,_,z⟩:=hT' b e'
     rw[z]at e; cases e
     cases d
  have CG:∀{b:Addr} {m:Str->Option Value},s₁.heap.Ns b m->(lJ s₁.heap H).Ns b m:=λ{b m} ⟨o,es,ep,e,d,r⟩=>⟨o,es,ep,Cz e (uR e d),d,r⟩
  have Zr:K.In (lJ s₁.heap H):=λb o e=>Cz (KX b o e) (by
   cases q:H b with
   |none=>rfl
   |some u =>
    rcases hA b (by rw[q]; simp)with e'|e'
    .subst e'
     rw[hK (by rw[q]; simp)]at e; cases e
    .obtain⟨c,_,z⟩:=hT' b e'
     have z2:=KX b o e
     rw[z]at z2
     cases z2
     have h2:=List.all_eq_true.mp qW (b,_) (mem_of_lookupK e)
     exact absurd (show false=true from h2) Bool.false_ne_true)
  have hM:Mod K mg (lJ s₁.heap H):=⟨Zr,CG hns,⟨mb,CG hb,hbb⟩,let⟨mc,h1,h2⟩:=hlim; ⟨mc,CG h1,h2⟩⟩
  have e0:pN P w K mg (lJ s₁.heap H) callerA [] s₁ H:=⟨rfl,hM,λb o e=>aaC e,Nat.le_of_eq (aaA _ _),trivial,λb hb=>absurd (show b∈([]:List Addr)from hb) (by simp),hok,.of_eq hg⟩
  have free:∀{b:Addr} {o:Obj},s₁.heap.get? b=some o->o.cls ≠ .none->(∀its n,o.data ≠ .seq its n)->H b=none:=λ{b o} e n1 n2=>by
   cases q:H b with
   |none=>rfl
   |some u =>
    rcases hA b (by rw[q]; simp)with e'|e'
    .subst e'
     rw[ha]at e; cases e
     exact(n2 _ _ rfl).elim
    .obtain⟨c,_,z⟩:=hT' b e'
     rw[z]at e; cases e
     exact(n1 rfl).elim
  obtain⟨fd,hbind,F1⟩:=F _ Zr (CG hns) (λx hx c b e=>by
   obtain⟨o,vs',file,tf,flags,tg,inF,text,tt,e1,r1,r2,r3⟩:=(hT x hx c b e).1
   exact⟨o,vs',file,tf,flags,tg,inF,text,tt,Cz e1 (free e1 (by rw[r1]; intro z; cases z) (λ_ _ z=>by rw[r2]at z; cases z)),r1,r2,r3⟩) (by
   obtain⟨bm,ob,b1,b2,b3,b4,b5,b6,b7⟩:=hB
   exact⟨bm,ob,b1,b2,b3,Cz b4 (free b4 (by rw[b5]; intro z; cases z) (λ_ _ z=>by rw[b7]at z; cases z)),b5,b6,b7⟩)
  refine codeAny_mono (F1.run callerA [] s₁ H ⟨[.ref a],[]⟩ [.ref a] [.ref a] _ _ hr e0 (hbind s₁ (.ref a) KX) (.cons rfl .nil) (hsp H hTb hS)) λr s' h=>?_
  cases r with
  |error e=>exact(Ks H e s' h).elim
  |ok fl =>
   cases fl with
   |next=>exact False.elim h
   |brk=>exact False.elim h
   |cont=>exact False.elim h
   |ret u =>
    obtain⟨v,H',os,bare,un,hok',r',q⟩:=h
    have q':v=.bl true:=q
    subst q'
    obtain rfl:u=Value.bool true:=r'
    refine⟨rfl,⟨λb o e=>?_,λb o e=>un.there b o e (by simp)⟩,os,bare⟩
    cases q:H b with
    |none=>exact .inl (un.keep b o e q (by intro z; exact absurd (show b∈([]:List Addr)from z) (by simp)) (by simp))
    |some u =>
     rcases hO b with z|⟨ob,xs,z⟩|⟨z,zt⟩
     .rw[q]at z; cases z
     .have z2:=un.gJ b ob _ z
      obtain⟨e1,_⟩:=hok b _ z
      obtain⟨e2,_⟩:=hok' b _ z2
      rw[e]at e1; cases e1
      exact .inl e2
     .obtain⟨more,z2⟩:=un.gK b _ z
      have e1:s₁.heap.get? b=some (tabObj #[]):=hok b _ z
      have e2:s'.heap.get? b=some (tabObj (#[]++more)):=hok' b _ z2
      rw[e]at e1; cases e1
      obtain⟨c,hc,_⟩:=hT' b zt
      exact .inr (.inl ⟨(hc.tab e).isCodeTable,rfl,#[],more,rfl,e2⟩)
 classical
 have Zt:∀H:Hp,(∀b,Tb (aC K) b->H b=some (.cM #[]))->bW (aC K) H:=λH h x hx c b e=>⟨#[],h b ⟨x,hx,c,e⟩,trivial,λpos v z=>by cases z⟩
 have Zu:¬Tb (aC K) a:=λz=>by
  obtain⟨c,_,e⟩:=hT' a z
  rw[ha]at e
  cases e
 cases hk:K.lookup a with
 |some o =>
  have e:=KX a o hk
  rw[ha]at e
  cases e
  refine core (λb=>if Tb (aC K) b then some (.cM #[])else none) (λb=>?_) (Zt _ λb z=>if_pos z) (.inr ⟨vs.toArray,_,hk,by rw[List.size_toArray,lenV]; exact hl,by simpa using rv⟩) (λb u z=>?_) (λb z=>?_) λz=>?_
  .by_cases q:Tb (aC K) b
   .exact .inr (.inr ⟨if_pos q,q⟩)
   .exact .inl (if_neg q)
  .by_cases q:Tb (aC K) b
   .have z':=(if_pos q).symm.trans z
    cases z'
    obtain⟨c,_,e⟩:=hT' b q
    exact e
   .have z':=(if_neg q).symm.trans z
    cases z'
  .by_cases q:Tb (aC K) b
   .exact .inr q
   .exact absurd (if_neg q) z
  .exact absurd (if_neg Zu) z
 |none =>
  refine core (λb=>if b=a then some (.cZ {cls:=.type "list",data:=.seq vs.toArray } (.lst (ns.map V.int)))else if Tb (aC K) b then some (.cM #[])else none) (λb=>?_) (Zt _ λb z=>by
   have nb:¬b=a:=λq=>Zu (by rw[<-q]; exact z)
   exact(if_neg nb).trans (if_pos z)) (.inl (.inr ⟨{cls:=.type "list",data:=.seq vs.toArray },if_pos rfl⟩)) (λb u z=>?_) (λb z=>?_) λ_=>hk
  .by_cases hb:b=a
   .exact .inr (.inl ⟨_,_,if_pos hb⟩)
   .by_cases q:Tb (aC K) b
    .exact .inr (.inr ⟨(if_neg hb).trans (if_pos q),q⟩)
    .exact .inl ((if_neg hb).trans (if_neg q))
  .by_cases hb:b=a
   .have z':=(if_pos hb).symm.trans z
    cases z'
    subst hb
    exact⟨ha,by rw[List.length_map]; exact hl,vs,_,rv,ha⟩
   .have z':=(if_neg hb).symm.trans z
    by_cases q:Tb (aC K) b
    .have z':=(if_pos q).symm.trans z'
     cases z'
     obtain⟨c,_,e⟩:=hT' b q
     exact e
    .have z':=(if_neg q).symm.trans z'
     cases z'
  .by_cases hb:b=a
   .exact .inl hb
   .by_cases q:Tb (aC K) b
    .exact .inr q
    .exact absurd ((if_neg hb).trans (if_neg q)) z
theorem ai8{l:PySem.W.OpenLaw}{n k:Nat}{q:Program}{loose:List Str}{XP:(Str->Option Value)->Heap->Prop}{YP:World->Heap->Prop}{d:DefRec}{K:Params->PySem.W.Frag}{CX:World->gO}{sp:World->Sp}{x:Str}
  (hn:l.most=some n) (hn2:n<=sizeLine) (hdf:d.params.defaults=[]) (hr:dg k callerA)
  (xr:∀x∈fC,((recsOf q).find? (λe=>e.name == x)).isSome=true\/∀w:World,nsIn (K w.params) mainGlobals x=some none) (qW:∀w:World,noTabs (K w.params)=true)
  (hY:∀(w:World) (h:Heap),YP w h->(K w.params).In h)
  (F:∀(w:World) (mg:Str->Option Value) (fa:Addr) (h:Heap),(K w.params).In h->h.Ns mainGlobals mg->mg d.name=some (.ref fa) ->
   ∀base:Heap,(K w.params).In base->base.Ns mainGlobals mg->(∀x∈fC,∀c b,tabIn (K w.params) x=some (c,b)->CodeHd base c b)->mO mg base->∃fd:FuncData,(∀(s:Shared) (u:Value),(K w.params).In s.heap->BindsTo s fd ⟨[u],[]⟩ [(x,u)])/\gP l.prog w (K w.params) mg base (CX w) k fa fd [x] (sp w))
  (hsp:∀(w:World) (H:Hp) (a:Addr) (ns:List Int),ns.length<=n->bW (aC (K w.params)) H->iH (K w.params) H a (ns.map V.int)->sp w [.ref a] H (λv _=>v=.bl true) λ_ _ _=>False)
  (Ks:∀(w:World) (H:Hp) (s:Shared) (e:Value) (s':Shared),CX w [] H s (λ_ _ _=>False) e s'->False) :
  PySem.W.WalkO q loose XP YP l.row.toRowW d [] (λf vs=>PySem.call f vs):=by
 refine Oz.acE hn hdf λw s₀ s₁ mg mb fa o pm cd doc a vs ns G Y ho hd hcd hmg hobj hints hlen hg=>?_
 have KX:=hY w _ Y
 have hT:∀x∈fC,∀c b,tabIn (K w.params) x=some (c,b)->CodeHd s₁.heap c b/\s₁.heap.get? b=some (tabObj #[]):=λx hx c b e=>by
  rcases xr x hx with z|z
  .obtain⟨d,z⟩:=Option.isSome_iff_exists.mp z
   exact tab_of G.T KX z e
  .rw[aee (z w)]at e; cases e
 have hB:mO mg s₁.heap:=by
  obtain⟨bm,ob,b1,b2,b3,b4,b5,b6⟩:=G.T.bmain
  refine⟨bm,ob,b1,b2,λz=>?_,b3,b4,b5,b6⟩
  obtain⟨o,es,ep,e,hd,_⟩:=G.T.g
  rw[z,e]at b3; cases b3
  rw[hd]at b6; cases b6
 exact ai7 KX G.T.g G.T.b G.T.builtins G.T.nolimit hg hobj hints (Nat.le_trans hlen hn2) hr hT (qW w) hB (F w mg fa _ KX G.T.g hmg) (λH hO hS=>hsp w H a ns hlen hO hS) λH e s'=>Ks w H s₁ e s'
end L2
end
section
namespace K91
open PySem L2 BH PySem.W
section
variable {K:Frag}{mg:Str->Option Value}{h:Heap}
theorem ai9{x:Str}{st:Stmt}(X:K.In h)(G:h.Ns mainGlobals mg){f:Addr}{od an:Option Addr}{sl:Array (Option Value)}{oc kV dc pm cd ct:Value}
  (a:nsIn K mainGlobals x=some (some (.ref f))) (l:K.lookup f=some ⟨oc,od,.func (fnOf x x (jR st) (gQ st) (bU st) .none kV dc pm an cd ct),sl⟩) (c:codeIn K cd x=true) (k:keepIn K (.ref f)=true):At K mg x st :=
 ⟨f,_,OD (st:=st) l c k,mg_of X G a⟩
theorem Zv{x:Str}{st:Stmt}(X:K.In h)(G:h.Ns mainGlobals mg){f c:Addr}{od an:Option Addr}{sl:Array (Option Value)}{oc kV dc pm ct:Value}
  (a:nsIn K mainGlobals x=some (some (.ref f))) (l:K.lookup f=some ⟨oc,od,.func (fnOf x x (jR st) (gQ st) (bU st) .none kV dc pm an (.ref c) ct),sl⟩) (cc:codeIn K (.ref c) x=true) (k:keepIn K (.ref f)=true):rM K mg x st c :=
 ⟨f,_,OD (st:=st) l cc k,mg_of X G a,rfl⟩
theorem Zw{x:Str}{i:Int}{tk:Tok}(X:K.In h)(G:h.Ns mainGlobals mg)(a:nsIn K mainGlobals x=some (some (.int i tk))):Gk K mg x (.int i) (.int i):=⟨.int i tk,mg_of X G a,by first|exact rfl|exact⟨_,rfl⟩,λ_=>.int i⟩
theorem xu{H:Hp}{a:Addr}{od:Option Addr}{its:Array Value}{n:Nat}{sl:Array (Option Value)}{xs:List V}{vs:List Value}{ts:List Tr}(l:K.lookup a=some ⟨.type "tuple",od,.seq its n,sl⟩) (e:its.toList=vs) (hl:vs.length<=1000) (r:Vals xs vs) (rr:aA (aC K) H xs ts):Rep (aC K) H (.ref a) (.tup ts):=by
 refine .tup (xs:=xs) (.inr ⟨_,its,n,adb l rfl,rfl,rfl,?_,by rw[e]; exact r⟩) rr
 rw[<-Array.length_toList,e]
 exact Nat.le_of_lt (Ea hl)
theorem aja(X:K.In h)(G:h.Ns mainGlobals mg){a r1 r2 r3:Addr}{od o1 o2 o3:Option Addr}{its i1 i2 i3:Array Value}{n n1 n2 n3:Nat}{sl Pk sl2 Em:Array (Option Value)}{t1 t2 t3:Tok}
  (m:nsIn K mainGlobals "BARE_RULES" = some (some (.ref a))) (l:K.lookup a=some ⟨.type "tuple",od,.seq its n,sl⟩) (e:its.toList=[.ref r1,.ref r2,.ref r3])
  (l1:K.lookup r1=some ⟨.type "tuple",o1,.seq i1 n1,Pk⟩) (e1:i1.toList=[.str "least" t1]) (l2:K.lookup r2=some ⟨.type "tuple",o2,.seq i2 n2,sl2⟩) (e2:i2.toList=[.str "greatest" t2]) (l3:K.lookup r3=some ⟨.type "tuple",o3,.seq i3 n3,Em⟩) (e3:i3.toList=[.str "product" t3]):Gk K mg "BARE_RULES" (.ref a) (.tup [(.tup [(.str "least")]),(.tup [(.str "greatest")]),(.tup [(.str "product")])]):=by
 refine⟨_,mg_of X G m,rfl,λH=>xu (xs:=[.ref r1,.ref r2,.ref r3]) l e (Nat.le_of_ble_eq_true rfl) (.cons rfl (.cons rfl (.cons rfl .nil))) ?_⟩
 exact .cons (xu (xs:=[.str "least"]) l1 e1 (Nat.le_of_ble_eq_true rfl) (.cons ⟨_,rfl⟩ .nil) (.cons (.str _) .nil)) (.cons (xu (xs:=[.str "greatest"]) l2 e2 (Nat.le_of_ble_eq_true rfl) (.cons ⟨_,rfl⟩ .nil) (.cons (.str _) .nil)) (.cons (xu (xs:=[.str "product"]) l3 e3 (Nat.le_of_ble_eq_true rfl) (.cons ⟨_,rfl⟩ .nil) (.cons (.str _) .nil)) .nil))
theorem Zx(X:K.In h)(G:h.Ns mainGlobals mg){x:Str}{a:Addr}{od:Option Addr}{its:Array Value}{n:Nat}{sl:Array (Option Value)}{i j:Int}{t1 t2:Tok}
  (m:nsIn K mainGlobals x=some (some (.ref a))) (l:K.lookup a=some ⟨.type "tuple",od,.seq its n,sl⟩) (e:its.toList=[.int i t1,.int j t2]):Gk K mg x (.ref a) (.tup [.int i,.int j]) :=
 ⟨_,mg_of X G m,rfl,λH=>xu (xs:=[.int i,.int j]) l e (Nat.le_of_ble_eq_true rfl) (.cons ⟨_,rfl⟩ (.cons ⟨_,rfl⟩ .nil)) (.cons (.int _) (.cons (.int _) .nil))⟩
noncomputable def CJ(K:Frag)(n:Nat)(F:FP):Sp:=λvs H Q E=>∃G ts,vs.length=n/\aA (aC K) G vs ts/\Same G H/\bW (aC K) H/\(∀b,Tb (aC K) b->G b=none)/\∃p,F ts=.ok p/\∀v G' H',VN (aC K) H G' H' v p.1 p.2->Q v H'
theorem ajb{K:Frag}{cl:Str->Addr}{n:Nat}{F:FP}(vs:List V)(H:Hp)(Q:VK)(E:XK)(h:CJ K n F vs H Q E):qd K cl n F vs H Q E:=by
 obtain⟨G,ts,h1,h2,h3,h4,h5,p,h6,h7⟩:=h
 refine⟨G,ts,h1,h2,h3,h4,h5,?_⟩
 rw[h6]
 exact λv G' H' _=>h7 v G' H'
theorem ajc{K:Frag}{H:Hp}(t:bW (aC K) H)(h:iH K H a xs):∃G,Same G H/\(∀b,Tb (aC K) b->G b=none)/\aK (aC K) G a xs:=by
 rcases h with h|h
 .refine⟨λb=>if b=a then H b else none,λb o q=>?_,λb z=>?_,.inl ?_⟩
  .dsimp only at q
   split at q
   .exact q
   .cases q
  .dsimp only
   split
   .rename_i e
    subst e
    obtain⟨ps,y⟩:=t.cM z
    rcases h with h|⟨o,h⟩ <;> (rw[y]at h; cases h)
   .rfl
  .have e:(if a=a then H a else none)=H a:=if_pos rfl
   unfold Rd at h ⊢
   dsimp only
   rw[e]
   exact h
 .exact⟨λ_=>none,λ_ _ z=>(by cases z),λ_ _=>rfl,iH.toN (.inr h)⟩
end
section
variable {P:Program}{w:World}{K:Frag}{mg:Str->Option Value}{base:Heap}
theorem ajd(M:∀x∈(["abs", "all", "bool", "enumerate", "int", "isinstance", "len", "list", "range", "sorted", "tuple", "zip"]:List Str),mg x=none) (O:∀x∈(["NoBottom", "NoBook", "NoRule", "NoCount", "NoLooks", "NoThings"]:List Str),∃k,PyProof.Rows.OwnCls x k zU "ValueError.__new__" mg base) (XT:lX K) (aje:At K mg "is_whole" (top 9)) (ajf:At K mg "common_divisor" (top 10)) (ajg:At K mg "fraction_of" (top 11)) (ajh:At K mg "frac_sum" (top 12)) (aji:At K mg "frac_less" (top 13)) (ajj:At K mg "frac_times" (top 14)) (ajk:At K mg "frac_by" (top 15)) (ajl:At K mg "frac_below" (top 16)) (ajm:At K mg "is_fraction" (top 17)) (ajn:At K mg "common_bottom" (top 18)) (ajo:At K mg "tops_on_one_bottom" (top 19)) {mY ajp:Addr} (ajq:rM K mg "falling_places" (top 20) mY) (ajr:vq K mg base "falling_places" mY ajp) (ajs:At K mg "is_worth" (top 24)) (ajt:At K mg "are_worths" (top 25)) (aju:At K mg "is_book" (top 26)) (ajv:At K mg "is_place" (top 27)) (ajw:At K mg "is_count" (top 28)) (ajx:At K mg "are_rising" (top 29)) (ajy:At K mg "are_things" (top 30)) (ajz:At K mg "need_book" (top 31)) (ajA:At K mg "read_orders" (top 32)) (ajB:At K mg "are_weights" (top 35)) (ajC:At K mg "is_rule" (top 36)) (ajD:At K mg "shares_worth" (top 37)) (ajE:At K mg "product_worth" (top 38)) (ajF:At K mg "place_of" (top 39)) (ajG:At K mg "worth_by" (top 40)) (ajH:At K mg "need_book_and_rule" (top 41)) (ajI:At K mg "whole_form" (top 42)) (ajJ:At K mg "need_count" (top 44)) (ajK:At K mg "need_book_rule_and_count" (top 45)) (ajL:At K mg "worths_of" (top 46)) (ajM:At K mg "worths_by" (top 47)) (ajN:At K mg "best_few" (top 48)) (ajO:At K mg "are_depths" (top 52)) (ajP:At K mg "is_ask" (top 53)) (ajQ:At K mg "are_asked" (top 54)) (ajR:At K mg "need_looks" (top 55)) (ajS:At K mg "seen_by" (top 56)) (ajT:At K mg "last_worths" (top 57)) (ajU:At K mg "bounds_by" (top 58)) (ajV:At K mg "bounds_of" (top 59)) (ajW:At K mg "worth_bounds" (top 60)) (ajX:At K mg "weakest_and_rival" (top 61)) (ajY:At K mg "are_sure" (top 62)) {Cd ajZ:Addr} (aj0:rM K mg "order_of_bounds" (top 63) Cd) (aj1:vq K mg base "order_of_bounds" Cd ajZ) (aj2:At K mg "sure_by" (top 64)) (aj3:At K mg "sure_in" (top 65)) (aj4:At K mg "sure_few" (top 66)) (aj5:At K mg "shrink_between" (top 68)) (aj6:At K mg "raised_book" (top 69)) (aj7:At K mg "other_book" (top 70)) (aj8:At K mg "_law_cell" (top 72)) (aj9:At K mg "_law_frac" (top 73)) (akb:At K mg "_law_add" (top 74)) (akc:At K mg "_law_mul" (top 75)) (akd:At K mg "_law_below" (top 76)) (ake:At K mg "_law_book" (top 77)) (akf:At K mg "_law_rule" (top 78)) (akg:At K mg "_law_worth" (top 79)) (akh:At K mg "_law_order" (top 80)) (aki:At K mg "_law_looks" (top 81)) (akj:At K mg "_law_is" (top 82)) (akk:At K mg "_law_agrees" (top 83)) (akl:At K mg "_law_best" (top 84)) (akm:At K mg "_law_filled" (top 85)) (akn:At K mg "law" (top 86)) {ako:V} (akp:Gk K mg "MOST_LISTS" ako (.int 4)) {akq:V} (akr:Gk K mg "MOST_THINGS" akq (.int 12)) {aks:V} (akt:Gk K mg "BARE_RULES" aks (.tup [(.tup [(.str "least")]),(.tup [(.str "greatest")]),(.tup [(.str "product")])])) {aku:V} (akv:Gk K mg "NOTHING" aku (.tup [(.int 0),(.int 1)])) {akx:V} (aky:Gk K mg "FULL" akx (.tup [(.int 1),(.int 1)])):kJ P w K mg base 10 "law" ["_law_script"] (CJ K 1 ux):=by
 have kn:=Kn.mk' (P:=P) (w:=w) M O XT
 have h:∀y∈[Ey.gk "MOST_LISTS" (.int 4),Ey.gk "MOST_THINGS" (.int 12),Ey.gk "BARE_RULES" (.tup [(.tup [(.str "least")]),(.tup [(.str "greatest")]),(.tup [(.str "product")])]),Ey.gk "NOTHING" (.tup [(.int 0),(.int 1)]),Ey.gk "FULL" (.tup [(.int 1),(.int 1)])],Ey.oE ⟨P,w,K,mg,base,clz mg⟩ y:=List.forall_mem_cons.mpr ⟨⟨_,akp⟩,List.forall_mem_cons.mpr ⟨⟨_,akr⟩,List.forall_mem_cons.mpr ⟨⟨_,akt⟩,List.forall_mem_cons.mpr ⟨⟨_,akv⟩,List.forall_mem_cons.mpr ⟨⟨_,aky⟩,λ_ z=>nomatch z⟩⟩⟩⟩⟩
 have h:=aR Ur kn h aje
 have h:=aR Ub kn h ajf
 have h:=aR Ud kn h ajg
 have h:=aR Ug kn h ajh
 have h:=aR Ui kn h aji
 have h:=aR Uk kn h ajj
 have h:=aR Ul kn h ajk
 have h:=aR Uo kn h ajl
 have h:=aR Uu kn h ajm
 have h:=aR UW kn h ajn
 have h:=aR U3 kn h ajo
 have h:=TF ["fractions", "tops"] U4 kn h ajq ajr
 have h:=aR Ux kn h ajs
 have h:=aR Uz kn h ajt
 have h:=aR UJ kn h aju
 have h:=aR U5 kn h ajv
 have h:=aR Vt kn h ajw
 have h:=aR VJ kn h ajx
 have h:=aR Wm kn h ajy
 have h:=aR U7 kn h ajz
 have h:=aR VR kn h ajA
 have h:=aR Vb kn h ajB
 have h:=aR Vd kn h ajC
 have h:=aR Vf kn h ajD
 have h:=aR Vh kn h ajE
 have h:=aR Vj kn h ajF
 have h:=aR Vl kn h ajG
 have h:=aR Vm kn h ajH
 have h:=aR Xc kn h ajI
 have h:=aR Vw kn h ajJ
 have h:=aR Vy kn h ajK
 have h:=aR Vp kn h ajL
 have h:=aR Vr kn h ajM
 have h:=aR VF kn h ajN
 have h:=aR V2 kn h ajO
 have h:=aR V4 kn h ajP
 have h:=aR V6 kn h ajQ
 have h:=aR V8 kn h ajR
 have h:=aR Wa kn h ajS
 have h:=aR W7 kn h ajT
 have h:=aR Wd kn h ajU
 have h:=aR W9 kn h ajV
 have h:=aR Xb kn h ajW
 have h:=aR Wh kn h ajX
 have h:=aR Wk kn h ajY
 have h:=TF ["bounds", "lows", "highs"] Xd kn h aj0 aj1
 have h:=aR Xe kn h aj2
 have h:=aR Xg kn h aj3
 have h:=aR Xi kn h aj4
 have h:=aR Wq kn h aj5
 have h:=aR Wt kn h aj6
 have h:=aR Yt kn h aj7
 have h:=aR Yw kn h aj8
 have h:=aR Yx kn h aj9
 have h:=aR Yy kn h akb
 have h:=aR YB kn h akc
 have h:=aR YC kn h akd
 have h:=aR YD kn h ake
 have h:=aR YF kn h akf
 have h:=aR YG kn h akg
 have h:=aR YJ kn h akh
 have h:=aR YK kn h aki
 have h:=aR YL kn h akj
 have h:=aR YQ kn h akk
 have h:=aR YW kn h akl
 have h:=aR YX kn h akm
 have h:=aR YZ kn h akn
 obtain⟨f,fd,h1,h2⟩:kJ P w K mg base 10 "law" ["_law_script"] (qd K (clz mg) 1 ux):=h (Ey.fn "law" ["_law_script"] ux 10) (fm "law" (by kernel_rfl))
 exact⟨f,fd,h1.imp ajb,h2⟩
end
theorem walk{l:OpenLaw}{q:Program}{loose:List Str}{XP:(Str->Option Value)->Heap->Prop}{YP:World->Heap->Prop}{d:DefRec}{K:Params->Frag}(hn:l.most=some 63)(hdf:d.params.defaults=[])(hd:d.name = "law")
  (xr:∀x∈fC,((PyProof.Rows.recsOf q).find? (λe=>e.name == x)).isSome=true\/∀w:World,nsIn (K w.params) mainGlobals x=some none) (qW:∀w:World,noTabs (K w.params)=true)
  (hY:∀(w:World) (h:Heap),YP w h->(K w.params).In h)
  (F:∀(w:World) (mg:Str->Option Value) (h:Heap),(K w.params).In h->h.Ns mainGlobals mg->∀base:Heap,(K w.params).In base->base.Ns mainGlobals mg->(∀x∈fC,∀c b,tabIn (K w.params) x=some (c,b)->CodeHd base c b)->mO mg base->kJ l.prog w (K w.params) mg base 10 "law" (["_law_script"]:List Str) (CJ (K w.params) 1 ux)) :
  WalkO q loose XP YP l.row.toRowW d [] (λf vs=>PySem.call f vs) :=
 L2.ai8 (n:=63) (k:=10) (x := "_law_script") (CX:=λw=>iG l.prog w) (sp:=λw=>CJ (K w.params) 1 ux) hn (by decide) hdf ⟨rfl,by decide,by decide,rfl⟩ xr qW hY
  (λw mg fa h KX G hm base kb gb hc bm=>by
   obtain⟨f,fd,h1,h2,_,h4⟩:=F w mg h KX G base kb gb hc bm
   rw[hd]at hm
   cases h4.symm.trans hm
   exact⟨fd,λs u ks=>h2 s [u] ks rfl,h1⟩)
  (λw H a ns hl hTb hS=>by
   obtain⟨G,g1,g2,g3⟩:=ajc hTb hS
   exact⟨G,[.lst (ns.map .int)],rfl,.cons (.lst g3 (Ib ns)) .nil,g1,hTb,g2,_,ai4 ns,λv G' H' r=>by cases r; rfl⟩)
  λw H s e s' h=>by
   obtain⟨_,_,_,_,_,_,z,_⟩:=h
   exact z
end K91
end
section
namespace PySem.W.Fast
end PySem.W.Fast
inductive PySem.W.Fast:Prop
|tw1001136727852559180
|tw1005236117408478742
|tw10061082950191843953
|tw10135490871382724403
|tw10242888274502759897
|tw10282280531859816824
|tw10385067418143828677
|tw10433383704044826270
|tw10449565838459962813
|tw10459374773021773313
|tw10538575629449974247
|tw10566726732812851371
|tw10738190654512066659
|tw10739717967052582790
|tw10873825437663783220
|tw1099472484093857516
|tw1101601574519656885
|tw11130456731104398043
|tw11340055862913071353
|tw11398166097156910444
|tw11528363817441052166
|tw11545065956008639138
|tw11770196524930064341
|tw11820677738640813138
|tw11827107044206110818
|tw12007397790895806247
|tw12028391987358387549
|tw12187167548889466944
|tw12241430541725342406
|tw12248036034885755980
|tw12264277425979238250
|tw12327674494053967162
|tw12446644703273210434
|tw12607754886215365688
|tw12655055168105705182
|tw12833189505122965011
|tw13029641098508907629
|tw13284162720444647474
|tw13364395588812732839
|tw13375116227057193676
|tw13499092830284424353
|tw135303944490067363
|tw13612431778329089503
|tw13687277568402172740
|tw13715364273490884169
|tw13723757623959247761
|tw1391657402537727931
|tw14021753660457253618
|tw14113207054338316106
|tw14241236476896127984
|tw14434524744868360159
|tw14486887230688671949
|tw14523454608879695731
|tw14596657473952431019
|tw14629067160978044444
|tw1475956429003688141
|tw14771096121245937668
|tw14773394180102683530
|tw14818599595374661751
|tw14819405922364465167
|tw14857171030710711149
|tw14886451209410987326
|tw14968833611770495004
|tw15477121733580545792
|tw15557482214051127324
|tw15634705172429634264
|tw15850027589292008825
|tw16211342694270492410
|tw16218798600384794266
|tw16462554232931517049
|tw16624507390320773441
|tw16766945142198719935
|tw16970579580341741401
|tw17013760846210217294
|tw17019849639285546010
|tw17079552819970483045
|tw17081406499083481360
|tw17180966990042744910
|tw17523825736583368627
|tw17689597147886663897
|tw17702556718789719286
|tw17767585606501320528
|tw17986392195661919054
|tw18036848797658910823
|tw18203649521229957075
|tw1881242628298329126
|tw2046734433174962842
|tw2118205056718475345
|tw213414703291562679
|tw2167976527907673637
|tw2168377504809629760
|tw2217710434240267203
|tw2278851316513902449
|tw2482532491824584641
|tw2515037464825959566
|tw2788620383009457095
|tw2900885649374130515
|tw293982819457262157
|tw2957828748229492894
|tw3139287308883952698
|tw3198047726242160586
|tw3198711188435502540
|tw3662902586681962137
|tw3863430688380560060
|tw3909156997823933933
|tw3926892564889616355
|tw4211271731758589100
|tw428665530573908743
|tw4304605905151442599
|tw4387752585320607458
|tw4440743200757375436
|tw4629056780001356947
|tw4749447398982534898
|tw4749748899710678503
|tw5140916572776970762
|tw5158611158027255971
|tw5253899563725060225
|tw5291912692942159020
|tw5380217829657945546
|tw5627761890873596945
|tw5735968140131999668
|tw577688903453340415
|tw5929979437937315626
|tw5939890431525964438
|tw6104522636501800621
|tw6118365782267677184
|tw6390044330748616360
|tw6478409122521127594
|tw6493473331961735093
|tw6676681470355873336
|tw6765556036912612555
|tw6894700998534382712
|tw690800691291400489
|tw6950247599241231849
|tw7329229568722180126
|tw7458683368469578253
|tw7493139729113036190
|tw7536482656857396962
|tw7585588812899255556
|tw7674907327895078062
|tw769001046016234184
|tw7692103764946978192
|tw7730888512070714094
|tw7866535991859089772
|tw7893303569234501971
|tw7981261901712469030
|tw8087842431812679966
|tw814881778685925916
|tw8499504929642484893
|tw8518110100639181259
|tw8572670485816376987
|tw8662379885805683045
|tw8682480182419530265
|tw9010309341062843005
|tw9055670375713907764
|tw9144539334891013109
|tw9204603282221913808
|tw9304807145122247249
|tw9340434086605876047
|tw9415128235320121963
|tw9431663048547903822
|tw9436010640569735192
|tw9440601713706501689
|tw9459372951578351418
|tw9494701571995855757
|tw9591486914832213783
|tw9786291198757314915
|tw9797659583549521340
|tw9856970593182792178
|tw9944533610356562613
|tw9945991459570229956
|tw9948701958566207289
open PySem PySem.W PyProof.Rows
set_option maxRecDepth 100000 in
set_option maxHeartbeats 0 in
theorem PySem.Challenge.cw_bestheads_k91_whole_sure_in_all_books_holds : PySem.Challenge.rw_bestheads_k91_whole_sure_in_all_books.Holds := by
 w_on; o_law; k_head; (case hw=>w_witness2)
 k_fill
 refine K91.walk (l:=PySem.Challenge.rw_bestheads_k91_whole_sure_in_all_books) rfl rfl rfl ?xr ?qW (λw h Y=>by first|exact PySem.W.km_in_of Y|exact PySem.W.kIn_of Y) ?F
 case xr =>
  intro x hx
  rcases(List.mem_cons.mp hx)with rfl|hx
  .exact .inl (by kernel_rfl)
  .rw[List.mem_singleton.mp hx]
   exact .inl (by kernel_rfl)
 case qW=>intro w; kernel_rfl
 case F =>
  intro w mg h KX G base kb gb hcd hbm
  refine' K91.ajd ?qM ?qO ?qXT ?qd1 ?qd2 ?qd3 ?qd4 ?qd5 ?qd6 ?qd7 ?qd8 ?qd9 ?akz ?akA ?akB ?akC ?akD ?akE ?akF ?akG ?akH ?akI ?akJ ?akK ?akL ?akM ?akN ?akO ?akP ?akQ ?akR ?akS ?akT ?akU ?akV ?akW ?akX ?akY ?akZ ?ak0 ?ak1 ?ak2 ?ak3 ?ak4 ?ak5 ?ak6 ?ak7 ?ak8 ?ak9 ?ala ?alb ?alc ?ald ?ale ?alf ?alg ?alh ?ali ?alj ?alk ?alm ?aln ?alo ?alp ?alq ?alr ?als ?alu ?alv ?alw ?alx ?aly ?alz ?alA ?alB ?alC ?alD
  case qM=>intro x m; simp only[List.mem_cons,List.not_mem_nil,or_false]at m; rcases m with rfl|rfl|rfl|rfl|rfl|rfl|rfl|rfl|rfl|rfl|rfl|rfl <;> exact mg_none_of KX G (by k_is)
  case qd1|qd2|qd3|qd4|qd5|qd6|qd7|qd8|qd9|akz|akA|akD|akE|akF|akG|akH|akI|akJ|akK|akL|akM|akN|akO|akP|akQ|akR|akS|akT|akU|akV|akW|akX|akY|akZ|ak0|ak1|ak2|ak3|ak4|ak5|ak6|ak7|ak8|ak9|alc|ald|ale|alf|alg|alh|ali|alj|alk|alm|aln|alo|alp|alq|alr|als|alu|alv|alw|alx|aly=>exact K91.ai9 KX G (by k_is) (by k_is) (by k_is) (by k_is)
  case akB =>
   refine' K91.Zv KX G ?alE ?alF ?alG ?alH
   (case alE=>k_is); (case alF=>k_is); (case alG=>k_is); (case alH=>k_is)
  case akC =>
   refine' L2.QK (by decide) hcd hbm (L2.zT ?alI ?alJ ?Ku ?alK ?Ky ?Kz ?alL ?KC ?KD) ?alM
   (case alI=>k_is); (case alJ=>k_is); (case alK=>k_is); (case Kz=>exact rfl); (case alL=>k_is); (case Ku=>kernel_rfl); (case Ky=>kernel_rfl); (case KC=>kernel_rfl); (case KD=>exact rfl)
   case alM =>
    intro x' hx'
    rcases(List.mem_cons.mp hx')with rfl|hx'
    .exact .inl rfl
    .rw[List.mem_singleton.mp hx']
     refine' .inr λc' z=>absurd ((L2.zR (L2.zT ?alN ?alO ?alP ?alQ ?alR ?alS ?alT ?alU ?alV)).1.symm.trans z) ?alW
     (case alN=>k_is); (case alO=>k_is); (case alQ=>k_is); (case alS=>exact rfl); (case alT=>k_is); (case alP=>kernel_rfl); (case alR=>kernel_rfl); (case alU=>kernel_rfl); (case alV=>exact rfl)
     (case alW=>exact λy=>absurd (Prod.mk.inj (Option.some.inj y)).2 (by decide))
  case ala =>
   refine' K91.Zv KX G ?alX ?alY ?alZ ?al0
   (case alX=>k_is); (case alY=>k_is); (case alZ=>k_is); (case al0=>k_is)
  case alb =>
   refine' L2.QK (by decide) hcd hbm (L2.zT ?al1 ?al2 ?Ku ?al3 ?Ky ?Kz ?al4 ?KC ?KD) ?al5
   (case al1=>k_is); (case al2=>k_is); (case al3=>k_is); (case Kz=>exact rfl); (case al4=>k_is); (case Ku=>kernel_rfl); (case Ky=>kernel_rfl); (case KC=>kernel_rfl); (case KD=>exact rfl)
   case al5 =>
    intro x' hx'
    rcases(List.mem_cons.mp hx')with rfl|hx'
    .refine' .inr λc' z=>absurd ((L2.zR (L2.zT ?al6 ?al7 ?al8 ?al9 ?ama ?amb ?amc ?amd ?ame)).1.symm.trans z) ?amf
     (case al6=>k_is); (case al7=>k_is); (case al9=>k_is); (case amb=>exact rfl); (case amc=>k_is); (case al8=>kernel_rfl); (case ama=>kernel_rfl); (case amd=>kernel_rfl); (case ame=>exact rfl)
     (case amf=>exact λy=>absurd (Prod.mk.inj (Option.some.inj y)).2 (by decide))
    .rw[List.mem_singleton.mp hx']
     exact .inl rfl
  case alz =>
   refine' K91.Zw KX G ?amg
   (case amg=>k_is)
  case alA =>
   refine' K91.Zw KX G ?amh
   (case amh=>k_is)
  case alB =>
   refine' K91.aja KX G ?qbm ?qbl ?qbe ?ami ?amj ?amk ?aml ?amm ?amn
   (case qbm=>k_is); (case qbl=>k_is); (case qbe=>rfl); (case ami=>k_is); (case amj=>rfl); (case amk=>k_is); (case aml=>rfl); (case amm=>k_is); (case amn=>rfl)
  case alC =>
   refine' K91.Zx KX G ?amo ?amq ?amr
   (case amo=>k_is); (case amq=>k_is); (case amr=>rfl)
  case alD =>
   refine' K91.Zx KX G ?ams ?amt ?amu
   (case ams=>k_is); (case amt=>k_is); (case amu=>rfl)
  case qXT=>exact L2.lX.of (by kernel_rfl)
  case qO=>intro x m; simp only[List.mem_cons,List.not_mem_nil,or_false]at m; rcases m with rfl|rfl|rfl|rfl|rfl|rfl <;> exact⟨_,L2.ac2 kb gb (by k_is) (by k_exc)⟩
#print axioms PySem.Challenge.cw_bestheads_k91_whole_sure_in_all_books_holds
end