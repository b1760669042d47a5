import PyProof.Rows.All
import Wide.All
import OpenK.KSplit
import OpenK.KApp
import KE.RegKMod
import KE.KJoinElse
import KE.KTops
import KE.RegKSuper
import KE.RegLcAnyAll
import KE.KCells
import KE.KPassesOwn
import KE.KNestStore
import KE.KStopIter
import KE.RegKBase
import KE.KDictOne
import KE.KxDecode
import KE.RegKMathGB
import KE.KNestM
import KE.KDflt
import KE.KOwnIterCall
import KE.KSortedM
import KE.KxLen
import KE.RegKMathGC
import KE.KIsClose
import KE.KDisp
import KE.KSetIn
import KE.KRevSl
import KE.KEqDeep
import KE.KAnyBase
import KE.KWhile
import KE.KRevIter
import KE.KTreeR
import KE.KxStill
import KE.KFinally
import KE.KTopLam
import KE.KWithOwn
import KE.KOpsOwn
import KE.KDictNew
import KE.KWhileD
import KE.KSumEnd
import KE.KPopAny
import KE.KGrown
import KE.KItemAt
import KE.KTextLit
import KE.KTupDict
import KE.KFmtOwn
import KE.KMinKey
import KE.KExtendNil
import KE.KMethU
import KE.KDictAnyTail
import KE.RegKStar
import KE.RegKTupTruth
import KE.RegKTupSum
import KE.KMethJoin
import KE.KPathRangeEnd
import KE.RegKParC
import KE.KxAffix
import KE.KxField
import KE.RegKMatchCls
import KE.KLcPair
import KE.KJoinL
import KE.RegKNeg
import KE.KxPercentT
import KE.KBytesCut
import KE.KCompIf
import KE.KxFormat
import KE.KTypeName
import KE.KCompText
import KE.BytesMulAny
import KE.KPairAssign
import KE.KTypeOf
import KE.KMulAny
import KE.KBytesMenu
import KE.KTextDict
import KE.KPathShort
import KE.KSplitRange
import KE.KKinds
import KE.KxPart
import KE.KRangeItem
import KE.KRangeNest
import KE.KSetAt
import KE.KxTruthy
import KE.KPairRows
import KE.KBytesMore
import KE.KRangePlain
import KE.KBitsMul
import KE.KTextTable
import KE.KForList
import KE.KIdxIf
import KE.KAssignIn
import KE.KFirstTurn
import KE.KOwnRange
import KE.KLooksOwn
import KE.KDictWord
import KE.KTurnsGround
import KE.KFinFacts
import KE.RegKTryOn
import KE.KCenter
import KE.KStrWords
import KE.KStateTextK
import KE.KStateWGiven
import KE.KCallTup
import KE.KTreeF
import KE.KEndWord
import KE.KStateBytes
import KE.KRangeEnd
import KE.KOf
import KE.KRepItem
import KE.KListLetter
import KE.KSliceSign
import KE.KToBytes
import KE.KPathText
import KE.KMinBuiltin
import KE.KFromBytes
import KE.KEqDat
import KE.KBytesUnr
import KE.KIsBytes
import KE.KCallRec
import KE.KEndW
import KE.RegLGeC
import Wide.FinOn
import Lean
import PyProof.EqAt
import PyProof.EqKinds
import PyProof.TupleCall
import PyProof.ReprRoads
import PyProof.ReprBulk
import PyProof.Rows.RegStrFacts
import PyProof.StrBlockH
import PyProof.FitsBits
import KE.KTurns
import PyProof.NeKinds
import KE.KNest
import KE.KSortKey
import PyProof.ListRange
import PyProof.Rows.SortWalk
import KE.KListMore
import KE.KSortTup
import PyProof.Rows.SumAny
import PyProof.Rows.SortRuns
import PySem.Challenge.RW_bestheads_k94_whole_no_fewer_lines
set_option exponentiation.threshold 6000
set_option Elab.async false
set_option linter.all false
set_option maxRecDepth 100000
set_option maxHeartbeats 4000000
set_option bootstrap.genMatcherCode false
set_option genSizeOf false
set_option compiler.extract_closed false
abbrev FZ:=PySem.W.Frag
abbrev LZ:=List (Int × Int)
abbrev LO:=List (PySem.Addr × PySem.Obj)
set_option hygiene false in
local macro_rules | `(tactic| walk_at "O")=>`(tactic| with_reducible repeat((first|replace h:=LQ h|replace h:=LR h|replace h:=Ma h|replace h:=Mf h|replace h:=Mg h|replace h:=Mh h|replace h:=Mi h|replace h:=Mj h|replace h:=Ml h|replace h:=Mp h|replace h:=Mq h|replace h:=Mr h|replace h:=xY h|replace h:=Ms h|replace h:=Mt h|replace h:=Mv h|replace h:=Mw h|replace h:=Mx h|replace h:=Mz h|replace h:=MF h|replace h:=MJ h|replace h:=MK h|replace h:=MN h|replace h:=MP h|replace h:=M4 h|replace h:=M5 h|replace h:=M6 h|replace h:=M7 h|replace h:=M8 h|replace h:=M9 h); (repeat obtain⟨_,h⟩:=h); rename_i ee; first|subst ee|cases ee))
set_option hygiene false in
local macro_rules | `(tactic| walk_at "o")=>`(tactic| with_reducible repeat first|refine aal h λ_ _ h=>?_|refine aam h λ_ _ _ _ h=>?_|refine aan h λ_ _ _ h=>?_|refine aao h λ_ _ _ _ h=>?_|refine aap h λ_ _ _ h=>?_|refine aaq h λ_ _ _ _ h=>?_|refine aar h λ_ _ _ h=>?_|refine aas h λ_ _ _ h=>?_|refine aat h λ_ _ h=>?_|refine aau h λ_ _ _ _ h=>?_|refine aav h λ_ _ _ _ h=>?_|refine aaw h λ_ _ _ h=>?_|refine aax h λ_ _ _ _ h=>?_|refine aay h λ_ _ _ _ h=>?_|refine aaz h λ_ _ _ h=>?_|refine aaA h λ_ _ h=>?_|refine aaB h λ_ _ h=>?_|refine aaC h λ_ _ _ _ h=>?_|refine aaD h λ_ _ _ h=>?_|refine aaE h λ_ _ _ _ h=>?_|refine aaF h λ_ _ _ _ _ h=>?_|refine aaG h λ_ _ _ _ h=>?_|refine aaH h λ_ _ _ h=>?_|refine aaI h λ_ _ _ h=>?_|refine aaJ h λ_ _ _ _ _ _ _ h=>?_|refine aaK h λ_ _ h=>?_|refine aaL h λh=>?_|refine aaM h λ_ h=>?_|refine aaN h λh=>?_|refine aaO h λh=>?_|refine aaP h λ_ _ _ h=>?_|refine aaQ h λ_ h=>?_|refine aaR h λ_ h=>?_|refine aaS h λ_ h=>?_|refine aaT h λh=>?_)
set_option hygiene false in
local macro_rules | `(tactic| exists $t)=>`(tactic| (refine(?h:VB ?f->SF) ?g; (case g=>exact $t); (case h=>exact λ_=>?f)))
set_option hygiene false in
local macro_rules | `(tactic| walk_at "b")=>`(tactic| first|with_reducible assumption|exact decide_eq_true (by first|assumption|omega)|exact decide_eq_false (by first|assumption|omega)|((with_reducible apply L2.xNb); walk_at "b")|((with_reducible apply L2.xNB); walk_at "b")|exact rfl)
set_option hygiene false in
local macro_rules | `(tactic| walk_at "u")=>`(tactic| fail)
set_option hygiene false in
local macro_rules | `(tactic| walk_at "w")=>`(tactic| fail)
set_option hygiene false in
local macro_rules | `(tactic| walk_at "q")=>`(tactic| repeat' (first|with_reducible rfl|((with_reducible change _=List.getD _ _ _); exact rfl)|(with_reducible apply L2.cn2)|(with_reducible refine congrArg L2.Sl.ow ?_)|(with_reducible refine congrArg L2.Sl.sh ?_)|(with_reducible refine congrArg L2.Sl.dp ?_)))
set_option hygiene false in
local macro_rules | `(tactic| walk_at "1")=>`(tactic| first|(with_reducible first|assumption|apply L2.wSq|apply L2.wSn|apply L2.wAs|apply L2.pP|apply L2.pQ|apply L2.xCl)|walk_at "u" |walk_at "w" | ((with_reducible first | change L2.bx _ _=_ | change L2.eC _ _=_ | change L2.cY _=_ | change L2.dr _ _=_ | change L2.drs _ _=_ | change L2.con _ _=_ | change L2.cls _=_ | change L2.Dr _ _=_ | change L2.Ds _=_ | change L2.gq _=_ | change L2.Rs.ok _=_ | change L2.xZ _=_ | change L2.Dt _=_ | change L2.nQ _=_ | change L2.rG _=_ | change _=some _ | change _=List.map _ _ | change L2.dX _ _=_ | change _=Tr.lst _ | change _=Tr.int _ | change _=Tr.tup _ | change L2.kW _ _ _=_ | change L2.Nb _ _=_ | change (_ && _)=_); exact rfl) | (with_reducible first | exact L2.st0 | exact L2.st1 | exact L2.st2 | exact L2.st3 | exact L2.pR | exact L2.iB | exact L2.st6 | exact L2.gA | apply L2.st8) | (with_reducible first | exact L2.Nf | exact L2.aaU | exact L2.xLt | exact L2.xGt | exact L2.xLe | exact L2.xGe | exact L2.xEq | exact L2.Ng | exact L2.xSe | exact L2.xSn | exact L2.Du | exact L2.xLL | exact L2.xLT | apply L2.aaV | apply L2.xAb | apply L2.aaW | apply L2.aaX | apply L2.Nh) | (with_reducible first | apply L2.wSr | apply L2.wSc | apply L2.aaY | apply L2.wIf | apply L2.xTe | apply L2.xTr | apply L2.xBN | apply L2.xBA | apply L2.xBO | apply L2.wRt | apply L2.xC1 | apply L2.wEx | apply L2.wNo | apply L2.wFo | apply L2.xFS | apply L2.xIs | apply L2.Ni | apply L2.xTu | apply L2.xAp | apply L2.wOw | apply L2.wON | apply L2.oV1 | apply L2.oV2 | apply L2.xEI | apply L2.xEA | apply L2.xEO | apply L2.xEN | apply L2.xUn | apply L2.xC2 | apply L2.xCh | apply L2.xCk | apply L2.wPa | apply L2.wFr | apply L2.xFz | apply L2.wDw | apply L2.xVw | apply L2.xSl | apply L2.xOS | apply L2.Nj | apply L2.xMp | apply L2.xM2 | apply L2.xZi | apply L2.xFl | apply L2.xLR | apply L2.xFO | apply L2.xIn | apply L2.xG2 | apply L2.xG3 | apply L2.xGN | apply L2.wAg) | ((with_reducible first | apply L2.xT | apply L2.wT | apply L2.pT); (walk_at "b"))|((with_reducible first|apply L2.xF|apply L2.wF|apply L2.pF); (walk_at "b"))|(with_reducible first|apply L2.xOv|apply L2.xAv|apply L2.xOV|apply L2.xAV)|((with_reducible change L2.eH _=_); exact rfl)|((with_reducible change L2.vw _=_); (dsimp only[L2.vw,L2.Nk,List.map] <;> exact rfl))|((with_reducible change L2.pU _ _ _=_); exact rfl)|((with_reducible change L2.aZ _ _=_); exact rfl)|((with_reducible change L2.uH _ _=_); exact rfl)|((with_reducible change L2.nU _=_); exact rfl)|((with_reducible change L2.aaZ _=_); exact rfl)|((with_reducible change L2.aa0 _ _=_); exact rfl)|((with_reducible change L2.aa1 _ _=_); exact rfl)|((with_reducible change L2.aa2 _=_); exact rfl)|((with_reducible first|apply L2.xSE|apply L2.xSN); decide +kernel)|exact λ_=>rfl|((with_reducible first|change ∀_ _,L2.eN _ _ _=_|change ∀_ _,L2.bH _ _ _=_); exact λ_ _=>rfl)|(dsimp only; (with_reducible apply L2.exV); walk_at "q")|((change ∀_,_∈_->_=_); intro x hx; try rw[List.mem_range]at hx)|((with_reducible change L2.dH _ _=_); (first|(with_reducible first|exact c1 _|exact c2 _|exact c3 _)|exact L2.cMr (by omega)|exact L2.cMl (by omega)))|((with_reducible change L2.jd _ _=_); first|(with_reducible first|exact c1 _|exact c2 _|exact c3 _)|exact L2.Nm (by omega) (by omega))|omega|((with_reducible change _≠_); decide)|(rw[List.length_map]; exact List.length_filter_le ..)|((with_reducible first|change _<=_|change _<_); simp only[List.length_map,List.length_range,List.length_take,List.length_append,List.length_cons,List.length_nil]; omega))
set_option hygiene false in
local macro_rules | `(tactic| walk_at "p")=>`(tactic| (dsimp only[L2.pt,List.map,List.set]; (try with_reducible apply L2.wG); walk_at "r"))
set_option hygiene false in
local macro_rules | `(tactic| walk_at "r")=>`(tactic| (repeat(walk_at "1")))
set_option hygiene false in
local macro_rules | `(tactic| walk_at "e")=>`(tactic| (apply L2.wFe; (dsimp only[L2.fL,List.map,List.length,List.replicate,List.append,HAppend.hAppend,Append.append,Nat.reduceSub,Nat.reduceAdd] <;> exact rfl); walk_at "r"))
set_option hygiene false in
local macro_rules | `(tactic| walk_at "d")=>`(tactic| (apply L2.Np; (dsimp only[L2.fL,List.map,List.length,List.replicate,List.append,HAppend.hAppend,Append.append,Nat.reduceSub,Nat.reduceAdd] <;> exact rfl); walk_at "r"))
set_option hygiene false in
local macro_rules | `(tactic| walk_at "u")=>`(tactic| with_reducible first|exact pW _|exact lU _|apply rH)
set_option hygiene false in
local macro_rules | `(tactic| walk_at "w")=>`(tactic| first|(with_reducible first|apply L2.Nq|apply L2.Nr|apply L2.Nt|apply L2.Nu|apply L2.Nv|apply L2.Nx|apply L2.Ny|apply L2.Nz|apply L2.xCD|apply L2.NK|apply L2.NP|apply L2.NQ|apply L2.NT|apply L2.NZ)|((with_reducible change L2.nW _ _=_); first|(apply L2.N5; exact rfl)|(apply L2.N6; exact rfl))|((with_reducible change L2.lV _ _ _=_); first|(apply L2.N7; exact rfl)|(apply L2.N8; exact rfl; exact rfl))|((with_reducible first|change L2.Dv _=_|change L2.dJ _ _=_|change L2.bA _=_|change L2.fM _=_); exact rfl))
set_option hygiene false in
local macro_rules | `(tactic| walk_at "m")=>`(tactic| (apply L2.dFn; (dsimp only[L2.fL,List.map,List.length,List.replicate,List.append,HAppend.hAppend,Append.append,Nat.reduceSub,Nat.reduceAdd] <;> exact rfl); walk_at "r"))
set_option hygiene false in
local macro_rules | `(tactic| walk_at "n")=>`(tactic| (apply L2.dFe; (dsimp only[L2.fL,List.map,List.length,List.replicate,List.append,HAppend.hAppend,Append.append,Nat.reduceSub,Nat.reduceAdd] <;> exact rfl); walk_at "r"))
set_option hygiene false in
local macro_rules | `(tactic| walk_at "u")=>`(tactic| with_reducible first|exact pW _|exact lU _|apply rH|apply Oa)
set_option hygiene false in
local macro_rules | `(tactic| walk_at "u")=>`(tactic| with_reducible first|exact pW _|exact lU _|apply rH|apply Oa|apply Dw|apply aa3|apply Oh|exact aa4|exact aa5|exact aa6)
set_option hygiene false in
local macro_rules | `(tactic| walk_at "u")=>`(tactic| with_reducible first|exact aa7|apply aa8|exact Oi _ _ _)
set_option hygiene false in
local macro_rules | `(tactic| walk_at "u")=>`(tactic| with_reducible first|exact pW _|exact lU _|apply rH|apply yc|apply aa9|exact half|exact Oi _ _ _|exact inP|exact abb|apply Dw|apply Oh|exact uJ|exact abd|exact pick|exact abe|exact abf|apply pX (0:Nat)|apply pX ((0,1):Int × Int)|apply Bk.lt (by assumption))
set_option hygiene false in
local macro_rules | `(tactic| walk_at "w")=>`(tactic| first|(with_reducible first|apply L2.Nq|apply L2.Nr|apply L2.Nt|apply L2.Nu|apply L2.Nv|apply L2.Nx|apply L2.Ny|apply L2.Nz|apply L2.xCD|apply L2.NK|apply L2.NP|apply L2.NQ|apply L2.abg|apply L2.wAx|apply L2.wPm|apply L2.wPc|apply L2.wRv|apply L2.xVv|apply L2.NT|apply L2.NZ)|((with_reducible change L2.nW _ _=_); first|(apply L2.N5; exact rfl)|(apply L2.N6; exact rfl))|((with_reducible change L2.lV _ _ _=_); first|(apply L2.N7; exact rfl)|(apply L2.N8; exact rfl; exact rfl))|((with_reducible first|change L2.Dv _=_|change L2.dJ _ _=_|change L2.bA _=_|change L2.pY _ _=_|change L2.fM _=_); exact rfl))
section
namespace L2
open PySem PySem.Spec PyProof.Rows
inductive V where
 |non|bl (b:Bool)|int (i:Int)|str (x:Str)|uK (b:Array UInt8)|flt (b:UInt64)|ref (a:Addr)|ty (n:String)
 deriving DecidableEq
def RelV:V->Value->Prop
 |.non,u=>u=Value.none
 |.bl b,u=>u=Value.bool b
 |.int i,u=>∃t,u=Value.int i t
 |.str x,u=>∃t,u=Value.str x t
 |.uK b,u=>∃t,u=Value.bytes b t
 |.flt b,u=>∃t,u=Value.float b t
 |.ref a,u=>u=Value.ref a
 |.ty n,u=>u=Value.type n
abbrev Vals:List V->List Value->Prop:=Paired RelV
theorem Vals.length{xs:List V}{us:List Value}(r:Vals xs us):xs.length=us.length:=Paired.length r
theorem Vals.get:∀{xs:List V} {us:List Value} {i:Nat} {x:V},Vals xs us->xs[i]?=some x->∃u,us[i]?=some u/\RelV x u
 |_,_,_,_,.nil,e=>by simp at e
 |_,_,0,_,.cons r _,e=>by simp at e; subst e; exact⟨_,rfl,r⟩
 |_,_,i+1,x,.cons _ t,e=>by
  obtain⟨u,h1,h2⟩:=Vals.get (i:=i) (x:=x) t (by simpa using e)
  exact⟨u,by simpa using h1,h2⟩
theorem Vals.set{x:V}{u:Value}(r:RelV x u):∀{xs:List V} {us:List Value} (i:Nat),Vals xs us->Vals (xs.set i x) (us.set i u)
 |_,_,_,.nil=>.nil
 |_,_,0,.cons _ t=>.cons r t
 |_,_,i+1,.cons q t=>.cons q (Vals.set r i t)
theorem Vals.append:∀{xs ys:List V} {us ws:List Value},Vals xs us->Vals ys ws->Vals (xs++ys) (us++ws)
 |_,_,_,_,.nil,s=>s
 |_,_,_,_,.cons r t,s=>.cons r (Vals.append t s)
theorem Vals.take:∀{xs:List V} {us:List Value} (n:Nat),Vals xs us->Vals (xs.take n) (us.take n)
 |_,_,0,_=>.nil
 |_,_,_+1,.nil=>.nil
 |_,_,n+1,.cons r t=>.cons r (Vals.take n t)
theorem Vals.drop:∀{xs:List V} {us:List Value} (n:Nat),Vals xs us->Vals (xs.drop n) (us.drop n)
 |_,_,0,r=>r
 |_,_,_+1,.nil=>.nil
 |_,_,n+1,.cons _ t=>Vals.drop n t
def anj:Option V->Option Value->Prop
 |some v,some u=>RelV v u
 |none,none=>True
 |_,_=>False
inductive HO where
 |lst (xs:List V)
 |tup (xs:List V)
 |own (x:Addr)
 |rng (lo hi:Int)
 |cV (o:Obj) (u:HO)
 |cF (ps:Array Value)
 |ext (φ : Heap->Prop)
abbrev Hp:=Addr->Option HO
noncomputable def upd(H:Hp)(a:Addr)(o:HO):Hp:=λb=>if b=a then some o else H b
theorem bY{H:Hp}{a:Addr}{o:HO}:upd H a o a=some o:=by unfold upd; rw[if_pos rfl]
theorem aJ{H:Hp}{a b:Addr}{o:HO}(h:b≠a):upd H a o b=H b:=by unfold upd; rw[if_neg h]
theorem iC{H:Hp}{a b:Addr}{o:HO}(h:H a=some o)(h':H b=none):a≠b:=by
 intro e; subst e; rw[h]at h'; cases h'
section
variable (P:Program)(w:World)
def je(P:Program)(w:World)(H:Hp)(h:Heap)(a:Addr):HO->Prop
 |.lst xs=>xs.length<=sizeLine/\∃(its:List Value) (n:Nat),Vals xs its/\h.get? a=some {cls:=.type "list",data:=.seq its.toArray n }
 |.tup xs=>xs.length<=sizeLine/\∃its:List Value,Vals xs its/\IsTup h a its.toArray
 |.own _=>∃o,h.get? a=some o
 |.rng lo hi=>∃t u v,h.get? a=some {cls:=.type "range",data:=.fields #[.int lo t,.int hi u,.int 1 v] }
 |.cV o u=>h.get? a=some o/\je P w H h a u
 |.cF ps=>h.get? a=some {cls:=.none,data:=.fields ps }
 |.ext φ=>φ h/\(∃o,h.get? a=some o)/\∀h1 h2:Heap,φ h1->(∀o,h1.get? a=some o->h2.get? a=some o) -> φ h2
def cH(H:Hp)(h:Heap):Prop:=∀a o,H a=some o->je P w H h a o
end
section
variable {P:Program}{w:World}{H H':Hp}{h h':Heap}{a:Addr}{o:HO}
theorem je.lt(x:je P w H h a o):a<h.objs.size:=by
 cases o with
 |lst xs=>obtain⟨_,_,_,_,e⟩:=x; exact Heap.lt_size e
 |tup xs=>obtain⟨_,_,_,p⟩:=x; exact p.lt
 |own y=>obtain⟨_,e⟩:=x; exact Heap.lt_size e
 |rng lo hi=>obtain⟨_,_,_,e⟩:=x; exact Heap.lt_size e
 |cV ob u=>obtain⟨e,_⟩:=x; exact Heap.lt_size e
 |cF ps=>exact Heap.lt_size (show h.get? a=some _ from x)
 |ext φ=>obtain⟨_,⟨_,e⟩,_⟩:=x; exact Heap.lt_size e
theorem je.stay(x:je P w H h a o)(k:∀b u,(b=a\/H b=some (.own a))->h.get? b=some u->h'.get? b=some u)
  (ho:∀b,H b=some (.own a)->H' b=some (.own a)) (ht:∀b xs,H b=some (.tup xs)->H' b=some (.tup xs)):je P w H' h' a o:=by
 induction o with
 |lst xs=>obtain⟨z,its,n,r,e⟩:=x; exact⟨z,its,n,r,k _ _ (.inl rfl) e⟩
 |tup xs=>obtain⟨z,its,r,ob,e,c⟩:=x; exact⟨z,its,r,ob,k _ _ (.inl rfl) e,c⟩
 |own y=>obtain⟨ob,e⟩:=x; exact⟨ob,k _ _ (.inl rfl) e⟩
 |rng lo hi=>obtain⟨t,u,v,e⟩:=x; exact⟨t,u,v,k _ _ (.inl rfl) e⟩
 |cV ob u ih=>obtain⟨e,q⟩:=x; exact⟨k _ _ (.inl rfl) e,ih q⟩
 |cF ps =>
  have e:h.get? a=some {cls:=.none,data:=.fields ps }:=x
  show h'.get? a=some {cls:=.none,data:=.fields ps }
  exact k a _ (.inl rfl) e
 |ext φ=>obtain⟨p,⟨o,e⟩,st⟩:=x; exact⟨st _ _ p λo q=>k _ _ (.inl rfl) q,⟨o,k _ _ (.inl rfl) e⟩,st⟩
theorem cH.lt(x:cH P w H h)(e:H a=some o):a<h.objs.size:=(x a o e).lt
theorem cH.fresh(x:cH P w H h)(e:h.objs.size<=a):H a=none:=by
 cases q:H a with
 |none=>rfl
 |some u=>exact absurd (Nat.lt_of_lt_of_le (x.lt q) e) (Nat.lt_irrefl _)
theorem cH.kept(x:cH P w H h)(k:∀b u,h.get? b=some u->h'.get? b=some u):cH P w H h':=λa o e =>
 (x a o e).stay (λb u _ q=>k b u q) (λ_ q=>q) λ_ _ q=>q
theorem cH.laid(x:cH P w H h)(k:∀b u,h.get? b=some u->h'.get? b=some u)(hp:h.objs.size<=a)(new:je P w (upd H a o) h' a o):cH P w (upd H a o) h':=λb u e=>by
 have hn:=x.fresh hp
 by_cases hb:b=a
 .subst hb; rw[bY]at e; cases e; exact new
 .rw[aJ hb]at e
  exact(x b u e).stay (λc v _ q=>k c v q) (λc q=>by rw[aJ (iC q hn)]; exact q) λc xs q=>by rw[aJ (iC q hn)]; exact q
end
def Rd(H:Hp)(a:Addr)(u:HO):Prop:=H a=some u\/∃o,H a=some (.cV o u)
theorem Rd.ok{P:Program}{w:World}{H:Hp}{h:Heap}{a:Addr}{u:HO}(r:Rd H a u)(x:cH P w H h):je P w H h a u:=by
 rcases r with r|⟨o,r⟩
 .exact x a u r
 .obtain⟨_,q⟩:=x a _ r
  exact q
def yd:Option HO->Prop
 |some (.lst _)=>True
 |some (.ext _)=>True
 |_=>False
section
variable {P:Program}{w:World}{H:Hp}{h h':Heap}{x e:Addr}{o':HO}
theorem cH.write(ok:cH P w H h)(mu:yd (H x))(he:e=x\/H e=some (.own x))(k:∀b u,b≠e->h.get? b=some u->h'.get? b=some u)(heo:∃u,h'.get? e=some u)
  (new:je P w (upd H x o') h' x o'):cH P w (upd H x o') h':=λb u q=>by
 have Oj:∀c y,H c=some (.own y)->c≠x:=λc y r z=>by subst z; rw[r]at mu; exact mu
 have abh:∀c xs,H c=some (.tup xs)->c≠x:=λc xs r z=>by subst z; rw[r]at mu; exact mu
 by_cases hb:b=x
 .subst hb; rw[bY]at q; cases q; exact new
 .rw[aJ hb]at q
  by_cases hbe:b=e
  .have q':H b=some (.own x):=by
    rcases he with z|z
    .exact absurd (hbe.trans z) hb
    .rw[hbe]; exact z
   rw[q]at q'; cases q'
   obtain⟨v,hv⟩:=heo
   exact⟨v,by rw[hbe]; exact hv⟩
  .refine(ok b u q).stay (λc v hc r=>k c v ?_ r) (λc r=>by rw[aJ (Oj c b r)]; exact r) λc xs r=>by rw[aJ (abh c xs r)]; exact r
   rcases hc with rfl|hc
   .exact hbe
   .rintro rfl
    rcases he with z|z
    .exact Oj c b hc z
    .rw[hc]at z; cases z; exact hb rfl
end
structure Un(fs ex:List Addr)(H H':Hp)(h h':Heap):Prop where
 keep:∀b o,h.get? b=some o->H b=none->b∉fs->b∉ex->h'.get? b=some o
 slot:∀b o,h.get? b=some o->H b=none->b∈fs->b∉ex->∃sl,h'.get? b=some {o with slots:=sl }
 free:∀b o,h.get? b=some o->H b=none->b∉ex->H' b=none
 there:∀b o,h.get? b=some o->b∉ex->∃o',h'.get? b=some o'
 tups:∀b xs,H b=some (.tup xs)->H' b=some (.tup xs)
 jP:∀b o u,H b=some (.cV o u)->H' b=some (.cV o u)
 jQ:∀b ps,H b=some (.cF ps)->∃more,H' b=some (.cF (ps++more))
section
variable {fs fs' ex ex':List Addr}{H H1 H2:Hp}{h h1 h2 h':Heap}{a x e:Addr}{o:HO}
theorem Un.any(u:Un fs ex H H1 h h1)(q:h.get? b=some ob)(n:H b=none)(hx:b∉ex):∃sl,h1.get? b=some {ob with slots:=sl }:=by
 by_cases hb:b∈fs
 .exact u.slot b ob q n hb hx
 .exact⟨ob.slots,u.keep b ob q n hb hx⟩
theorem Un.kept(k:∀b u,h.get? b=some u->h'.get? b=some u):Un fs ex H H h h' :=
 ⟨λb ob q _ _ _=>k b ob q,λb ob q _ _ _=>⟨ob.slots,k b ob q⟩,λ_ _ _ n _=>n,λb ob q _=>⟨ob,k b ob q⟩,λ_ _ q=>q,λ_ _ _ q=>q,λ_ ps q=>⟨#[],by rw[q]; simp⟩⟩
theorem Un.refl:Un fs ex H H h h:=Un.kept λ_ _ q=>q
theorem Un.laid(k:∀b u,h.get? b=some u->h'.get? b=some u)(hp:h.objs.size<=a)(hn:H a=none):Un fs ex H (upd H a o) h h' where
 keep:=λb u q _ _ _=>k b u q
 slot:=λb u q _ _ _=>⟨u.slots,k b u q⟩
 free:=λb u q n _=>by rw[aJ (Nat.ne_of_lt (Nat.lt_of_lt_of_le (Heap.lt_size q) hp))]; exact n
 there:=λb u q _=>⟨u,k b u q⟩
 tups:=λb xs q=>by rw[aJ (iC q hn)]; exact q
 jP:=λb u xs q=>by rw[aJ (iC q hn)]; exact q
 jQ:=λb ps q=>⟨#[],by rw[aJ (iC q hn),q]; simp⟩
theorem Un.write(mu:yd (H x))(he:e=x\/H e=some (.own x))(k:∀b u,b≠e->h.get? b=some u->h'.get? b=some u)(heo:∃u,h'.get? e=some u):Un fs ex H (upd H x o) h h':=by
 have hx:∀b,H b=none->b≠x:=λb n z=>by subst z; rw[n]at mu; exact mu
 have hb:∀b,H b=none->b≠e:=λb n z=>by
  subst z
  rcases he with r|r
  .exact hx b n r
  .rw[n]at r; cases r
 have hm:∀b u,H b=some u->¬yd (some u)->b≠x:=λb u q nm z=>by subst z; rw[q]at mu; exact nm mu
 refine⟨λb u q n _ _=>k b u (hb b n) q,λb u q n _ _=>⟨u.slots,k b u (hb b n) q⟩,λb u q n _=>by rw[aJ (hx b n)]; exact n,λb u q _=>?_,
  λb xs q=>by rw[aJ (hm b _ q λz=>z)]; exact q,λb u xs q=>by rw[aJ (hm b _ q λz=>z)]; exact q,λb ps q=>⟨#[],by rw[aJ (hm b _ q λz=>z),q]; simp⟩⟩
 by_cases hbe:b=e
 .subst hbe; exact heo
 .exact⟨u,k b u hbe q⟩
end
noncomputable def yg(h:Heap)(H:Hp):List Addr:=(List.range h.objs.size).filter λa=>(H a).isSome
noncomputable def lW(h:Heap)(H:Hp):Heap:=PySem.W.hideAll h (yg h H)
theorem abj(h:Heap)(H:Hp):(lW h H).objs.size=h.objs.size:=PySem.W.hideAll_size _ _
theorem abk(e:h.get? b=some o)(n:H b=none):(lW h H).get? b=some o :=
 PySem.W.hideAll_get _ e λhm=>by
  have q:(H b).isSome=true:=(List.mem_filter.mp hm).2
  rw[n]at q; simp at q
theorem abl(e:(lW h H).get? b=some o):h.get? b=some o/\H b=none:=by
 have e':h.get? b=some o:=PySem.W.of_hideAll (yg h H) e
 refine⟨e',?_⟩
 cases q:H b with
 |none=>rfl
 |some x =>
  have hm:b∈yg h H:=List.mem_filter.mpr ⟨List.mem_range.mpr (Heap.lt_size e'),by simp[q]⟩
  have z:(lW h H).get? b=none:=PySem.W.hideAll_none (yg h H) hm
  rw[z]at e; cases e
noncomputable def abm(g h:Heap)(L:Addr):LO:=(List.range h.objs.size).filterMap λa=>if a=L\/(g.get? a).isSome=true then none else(h.get? a).map λo=>(a,o)
noncomputable def rest(g h:Heap)(L d:Addr):LO:=(abm g h L).filter λp=>decide (p.1≠d)
structure Mod(K:FZ)(mg:Str->Option Value)(base:Heap):Prop where
 Dy:K.In base
 glob:base.Ns mainGlobals mg
 blt:∃mb,base.Ns builtinsNs mb/\∀x:Str,x ≠ "__name__" -> mb x=bootBuiltins x
 nolimit:base.NoLimit
structure Cx where
 prog:Program
 w:World
 K:FZ
 mg:Str->Option Value
 base:Heap
 A:Around
 N:List Str
 s₀ : Shared
 H₀ : Hp
 env:Env
 outer:List Env
 stack:List Env
 ex:List Addr
 fn:Str->Bool
 calm:Bool
 pn:LO
 xe:Value->Shared->Prop
noncomputable def frs(l:List Env):List Addr:=l.filterMap (·.frame)
noncomputable abbrev Cx.fs(X:Cx):List Addr:=frs X.outer
def uL(sc:Scope)(x:Str):Prop:=sc.names.lookup x=some .local\/sc.names.lookup x=some .cell\/sc.names.lookup x=some .free
def Loc(sc:Scope)(x:Str):Prop:=sc.names.lookup x=some .local\/sc.names.lookup x=some .cell
def Look(env:Env)(h:Heap)(m:Str->Option Value)(x:Str)(u:Value):Prop :=
 (env.kindOf x=some .local/\m x=some u)\/((env.kindOf x=some .cell\/env.kindOf x=some .free)/\∃c,env.cells.lookup x=some c/\h.IsCell c (some u))
structure Cx.Ok(X:Cx):Prop where
 mod:Mod X.K X.mg X.base
 kind:X.env.scope.kind=.function
 glob:X.env.globals=mainGlobals
 blt:X.env.builtins=builtinsNs
 above:X.s₀.heap.objs.size<=X.env.locals
 inj:∀x y c,X.env.cells.lookup x=some c->X.env.cells.lookup y=some c->x=y
 has:∀x,(X.env.kindOf x=some .cell\/X.env.kindOf x=some .free)->∃c,X.env.cells.lookup x=some c
 cab:∀x c,X.fn x=true->X.env.cells.lookup x=some c->X.s₀.heap.objs.size<=c
 hd:X.calm=true->X.A.handled=none
 frames:X.A.frames=some X.stack
 stk:X.stack=X.outer\/(X.stack=X.env::X.outer/\X.env.frame=some X.env.locals)
 Ol:∀b∈X.ex,b≠X.env.locals/\∀x c,X.env.cells.lookup x=some c->c≠b
 bs:∀b o,X.base.get? b=some o->X.s₀.heap.get? b=some o/\X.H₀ b=none
 nY:X.base.objs.size<=X.s₀.heap.objs.size
 uM:∀b o,X.base.get? b=some o->b∉X.ex
 yh:∀b∈X.ex,b∉X.fs
 jy:X.s₀.heap.FunFrames X.base X.outer
 pZ:∀b∈X.fs,X.H₀ b=none
structure Inv(X:Cx)(pins:LO)(σ : List (Option V))(H:Hp)(s:Shared):Prop where
 ok:X.Ok
 os:s.os=X.s₀.os
 bare:AllBare s.gens
 base:Un X.fs X.ex X.H₀ H X.s₀.heap s.heap
 loc:∃m,s.heap.Ns X.env.locals m/\∀(i:Nat) (x:Str) (v:V),X.N[i]?=some x -> σ[i]?=some (some v)->uL X.env.scope x->∃u,RelV v u/\Look X.env s.heap m x u
 cell:∀x c,X.env.cells.lookup x=some c->∃v,s.heap.IsCell c v
 free:H X.env.locals=none
 jR:∀x c,X.env.cells.lookup x=some c->H c=none
 pin:∀p∈X.pn++pins,s.heap.get? p.1=some p.2/\H p.1=none/\p.1≠X.env.locals/\p.1∉X.fs/\∀v,p.2.data ≠ .cell v
 hok:cH X.prog X.w H s.heap
 len : σ.length=X.N.length
section
variable {X:Cx}{pins:LO}{σ : List (Option V)}{H H':Hp}{s:Shared}{h':Heap}
theorem Cx.Ok.rJ(ok:X.Ok)(e:X.base.get? b=some o):b∉X.fs:=λhb=>by
 have:=(ok.jy.mem hb).1
 rw[e]at this; cases this
theorem Inv.bs(I:Inv X pins σ H s):∀b o,X.base.get? b=some o->s.heap.get? b=some o/\H b=none:=λb o e =>
 ⟨I.base.keep b o (I.ok.bs b o e).1 (I.ok.bs b o e).2 (I.ok.rJ e) (I.ok.uM b o e),I.base.free b o (I.ok.bs b o e).1 (I.ok.bs b o e).2 (I.ok.uM b o e)⟩
theorem Inv.bk(I:Inv X pins σ H s):∀b o,X.base.get? b=some o->s.heap.get? b=some o:=λb o e=>(I.bs b o e).1
theorem Inv.mod(I:Inv X pins σ H s):Mod X.K X.mg X.base:=I.ok.mod
theorem Inv.iD(I:Inv X pins σ H s):X.K.In s.heap:=I.ok.mod.Dy.keeps I.bk
theorem Inv.nolimit(I:Inv X pins σ H s):s.heap.NoLimit:=I.ok.mod.nolimit.keeps I.bk
theorem Inv.lt(I:Inv X pins σ H s):X.env.locals<s.heap.objs.size:=let⟨_,hn,_⟩:=I.loc; hn.lt
theorem Inv.sz(I:Inv X pins σ H s):X.s₀.heap.objs.size<=s.heap.objs.size:=Nat.le_trans I.ok.above (Nat.le_of_lt I.lt)
theorem Inv.abn(I:Inv X pins σ H s)(h:s.heap.objs.size<=a):a∉X.fs:=λhb=>by
 obtain⟨_,o,ho,_⟩:=I.ok.jy.mem hb
 exact absurd (Nat.lt_of_lt_of_le (Heap.lt_size ho) (Nat.le_trans I.sz h)) (Nat.lt_irrefl _)
theorem Inv.p7(I:Inv X pins σ H s):∀x c,X.env.cells.lookup x=some c->c≠X.env.locals:=λx c e z=>by
 obtain⟨v,o,ho,hd⟩:=I.cell x c e
 obtain⟨m,⟨o',es,ep,ho',hd',_⟩,_⟩:=I.loc
 rw[z,ho']at ho; cases ho; rw[hd']at hd; cases hd
theorem Inv.jy(I:Inv X pins σ H s):s.heap.FunFrames X.base X.outer:=by
 have all:∀(l:List Env),(∀b∈frs l,b∈X.fs)->X.s₀.heap.FunFrames X.base l->s.heap.FunFrames X.base l:=by
  intro l
  induction l with
  |nil=>intro _ _; trivial
  |cons env r ih =>
   intro hs hl
   obtain⟨hk,⟨L,o,hf,hn,ho,hd⟩,hr⟩:=hl
   have hL:L∈X.fs:=hs L (by unfold frs; rw[List.filterMap_cons,hf]; exact List.mem_cons_self)
   obtain⟨sl,e⟩:=I.base.slot L o ho (I.ok.pZ L hL) hL λz=>I.ok.yh L z hL
   exact⟨hk,⟨L,_,hf,hn,e,hd⟩,ih (λb hb=>hs b (by unfold frs; rw[List.filterMap_cons,hf]; exact List.mem_cons_of_mem _ hb)) hr⟩
 exact all X.outer (λ_ hb=>hb) I.ok.jy
theorem Inv.stack(I:Inv X pins σ H s):s.heap.FunFrames X.base X.stack:=by
 rcases I.ok.stk with e|⟨e,hf⟩
 .rw[e]; exact I.jy
 .rw[e]
  obtain⟨m,hn,_⟩:=I.loc
  refine .cons (by rw[I.ok.kind]; decide) hf hn ?_ I.jy
  exact Heap.get?_none_of_le (Nat.le_trans I.ok.nY I.ok.above)
theorem Inv.uN(I:Inv X pins σ H s):∀b∈frs X.stack,b∈X.env.locals::X.fs:=λb hb=>by
 rcases I.ok.stk with e|⟨e,hf⟩
 .rw[e]at hb; exact List.mem_cons_of_mem _ hb
 .rw[e]at hb
  unfold frs at hb
  rw[List.filterMap_cons,hf]at hb
  exact hb
theorem Inv.yj(I:Inv X pins σ H s):∀b∈frs X.stack,H b=none:=λb hb=>by
 rcases List.mem_cons.mp (I.uN b hb)with e|hb
 .rw[e]; exact I.free
 .obtain⟨_,o,ho,_⟩:=I.ok.jy.mem hb
  exact I.base.free b o ho (I.ok.pZ b hb) λz=>I.ok.yh b z hb
theorem Inv.step{g':Array GenState}{t':Nat}{d':Drawn}{ch:List Addr}(I:Inv X pins σ H s)
  (hch:∀b∈ch,(b∈X.ex\/X.s₀.heap.objs.size<=b)/\b≠X.env.locals/\(∀x c,X.env.cells.lookup x=some c->c≠b)/\∀p∈X.pn++pins,p.1≠b)
  (keep:∀b o,b≠X.env.locals->b∉X.fs->b∉ch->s.heap.get? b=some o->H b=none->h'.get? b=some o)
  (slot:∀b o,b≠X.env.locals->b∈X.fs->b∉ch->s.heap.get? b=some o->H b=none->∃sl,h'.get? b=some {o with slots:=sl }) (free:∀b o,b∉ch->s.heap.get? b=some o->H b=none->H' b=none)
  (there:∀b o,b∉ch->s.heap.get? b=some o->∃o',h'.get? b=some o')
  (tups:∀b xs,H b=some (.tup xs)->H' b=some (.tup xs)) (jP:∀b o u,H b=some (.cV o u)->H' b=some (.cV o u)) (jQ:∀b ps,H b=some (.cF ps)->∃more,H' b=some (.cF (ps++more)))
  (ns:∀m,s.heap.Ns X.env.locals m->h'.Ns X.env.locals m) (hok:cH X.prog X.w H' h') (hg:AllBare g') :
  Inv X pins σ H' {s with heap:=h',gens:=g',drawn:=d',toks:=t' }:=by
 have Om:∀b o,X.s₀.heap.get? b=some o->b≠X.env.locals:=λb o e=>Nat.ne_of_lt (Nat.lt_of_lt_of_le (Heap.lt_size e) I.ok.above)
 have yp:∀b o,X.s₀.heap.get? b=some o->b∉X.ex->b∉ch:=λb o e hx hb=>by
  rcases(hch b hb).1 with z|z
  .exact hx z
  .exact absurd (Nat.lt_of_lt_of_le (Heap.lt_size e) z) (Nat.lt_irrefl _)
 have cellK:∀x c,X.env.cells.lookup x=some c->∀v,s.heap.IsCell c v->h'.IsCell c v:=λx c e v ⟨o,ho,hd⟩=>by
  have uO:c∉ch:=λz=>(hch c z).2.2.1 x c e rfl
  by_cases hc:c∈X.fs
  .obtain⟨sl,q⟩:=slot c o (I.p7 x c e) hc uO ho (I.jR x c e)
   exact⟨_,q,hd⟩
  .exact⟨o,keep c o (I.p7 x c e) hc uO ho (I.jR x c e),hd⟩
 refine⟨I.ok,I.os,hg,⟨λb o e n hb hx=>?_,λb o e n hb hx=>?_,λb o e n hx=>?_,λb o e hx=>?_,λb xs e=>tups b xs (I.base.tups b xs e),λb o xs e=>jP b o xs (I.base.jP b o xs e),λb ps e=>?_⟩,?_,λx c e=>?_,?_,λx c e=>?_,λp hp=>?_,hok,I.len⟩
 .exact keep b o (Om b o e) hb (yp b o e hx) (I.base.keep b o e n hb hx) (I.base.free b o e n hx)
 .obtain⟨sl,e1⟩:=I.base.slot b o e n hb hx
  obtain⟨sl',e2⟩:=slot b _ (Om b o e) hb (yp b o e hx) e1 (I.base.free b o e n hx)
  exact⟨sl',e2⟩
 .obtain⟨o',e1⟩:=I.base.there b o e hx
  exact free b o' (yp b o e hx) e1 (I.base.free b o e n hx)
 .obtain⟨o',e1⟩:=I.base.there b o e hx
  exact there b o' (yp b o e hx) e1
 .obtain⟨m1,e1⟩:=I.base.jQ b ps e
  obtain⟨m2,e2⟩:=jQ b _ e1
  exact⟨m1++m2,by rw[e2,Array.append_assoc]⟩
 .obtain⟨m,hn,hl⟩:=I.loc
  refine⟨m,ns m hn,λi x v e1 e2 e3=>?_⟩
  obtain⟨u,r,l⟩:=hl i x v e1 e2 e3
  refine⟨u,r,?_⟩
  rcases l with l|⟨k,c,e,z⟩
  .exact .inl l
  .exact .inr ⟨k,c,e,cellK x c e _ z⟩
 .obtain⟨v,z⟩:=I.cell x c e
  exact⟨v,cellK x c e v z⟩
 .obtain⟨m,⟨o,_,_,ho,_⟩,_⟩:=I.loc
  exact free _ o (λz=>(hch _ z).2.1 rfl) ho I.free
 .obtain⟨v,o,ho,hd⟩:=I.cell x c e
  exact free c o (λz=>(hch c z).2.2.1 x c e rfl) ho (I.jR x c e)
 .obtain⟨e,n,ne,nf,d⟩:=I.pin p hp
  have uO:p.1∉ch:=λz=>(hch p.1 z).2.2.2 p hp rfl
  exact⟨keep p.1 p.2 ne nf uO e n,free p.1 p.2 uO e n,ne,nf,d⟩
theorem Inv.un{t':Nat}(I:Inv X pins σ H s)(u:Un X.fs [] H H' s.heap h')(hok:cH X.prog X.w H' h'):Inv X pins σ H' {s with heap:=h',toks:=t' }:=by
 obtain⟨m,⟨o,es,ep,ho,r⟩,_⟩:=id I.loc
 obtain⟨sl,hL⟩:=u.any ho I.free (by simp)
 exact I.step (g':=s.gens) (d':=s.drawn) (ch:=[]) (λ_ z=>nomatch z) (λb o _ hb _ e n=>u.keep b o e n hb (by simp)) (λb o _ hb _ e n=>u.slot b o e n hb (by simp)) (λb o _ e n=>u.free b o e n (by simp)) (λb o _ e=>u.there b o e (by simp)) u.tups u.jP u.jQ (λm' hm=>by
  obtain⟨o',es',ep',ho',r'⟩:=hm
  rw[ho]at ho'; cases ho'
  exact⟨_,es',ep',hL,r'⟩) hok I.bare
theorem Inv.call{g':Array GenState}{t':Nat}{d':Drawn}{ch:List Addr}(I:Inv X pins σ H s)(u:Un (frs X.stack) ch H H' s.heap h')(hok:cH X.prog X.w H' h')(hg:AllBare g')
  (hch:∀b∈ch,(b∈X.ex\/X.s₀.heap.objs.size<=b)/\b≠X.env.locals/\(∀x c,X.env.cells.lookup x=some c->c≠b)/\∀p∈X.pn++pins,p.1≠b) :
  Inv X pins σ H' {s with heap:=h',gens:=g',drawn:=d',toks:=t' }:=by
 obtain⟨m,⟨o,es,ep,ho,r⟩,_⟩:=id I.loc
 obtain⟨sl,hL⟩:=u.any ho I.free λz=>(hch _ z).2.1 rfl
 exact I.step (ch:=ch) hch (λb o hL hb hc e n=>u.keep b o e n (λz=>(List.mem_cons.mp (I.uN b z)).elim hL hb) hc) (λb o _ _ hc e n=>u.any e n hc) (λb o hc e n=>u.free b o e n hc) (λb o hc e=>u.there b o e hc) u.tups u.jP u.jQ (λm' hm=>by
  obtain⟨o',es',ep',ho',r'⟩:=hm
  rw[ho]at ho'; cases ho'
  exact⟨_,es',ep',hL,r'⟩) hok hg
theorem Inv.turned{t':Nat}{it:Addr}(I:Inv X pins σ H s)(k:∀b o,b≠it->s.heap.get? b=some o->h'.get? b=some o)(hn:H it=none)(hL:it≠X.env.locals)
  (h1:it∈X.ex\/X.s₀.heap.objs.size<=it) (h2:∀x c,X.env.cells.lookup x=some c->c≠it) (h3:∀p∈X.pn++pins,p.1≠it):Inv X pins σ H {s with heap:=h',toks:=t' }:=by
 have Oo:∀b u,H b=some u->b≠it:=λb u e z=>by rw[z,hn]at e; cases e
 refine I.step (g':=s.gens) (d':=s.drawn) (ch:=[it]) (λb hb=>?_) (λb o _ _ hc e _=>k b o (λz=>hc (by simp[z])) e) (λb o _ _ hc e _=>⟨o.slots,k b o (λz=>hc (by simp[z])) e⟩) (λ_ _ _ _ n=>n)
  (λb o hc e=>⟨o,k b o (λz=>hc (by simp[z])) e⟩) (λ_ _ e=>e) (λ_ _ _ e=>e) (λb ps e=>⟨#[],by rw[e]; simp⟩) (λm hm=>?_) (λb u e=>?_) I.bare
 .have e:b=it:=by simpa using hb
  subst e
  exact⟨h1,hL,h2,h3⟩
 .obtain⟨o,es,ep,ho,r⟩:=hm
  exact⟨o,es,ep,k _ o (Ne.symm hL) ho,r⟩
 .refine(I.hok b u e).stay (λc v hc q=>k c v ?_ q) (λ_ q=>q) λ_ _ q=>q
  rcases hc with z|z
  .rw[z]; exact Oo b u e
  .exact Oo c _ z
theorem Inv.tok(I:Inv X pins σ H s)(t:Nat):Inv X pins σ H {s with toks:=t }:=I.un (h':=s.heap) (t':=t) Un.refl I.hok
theorem Inv.kept(I:Inv X pins σ H s)(k:∀b u,s.heap.get? b=some u->h'.get? b=some u):Inv X pins σ H {s with heap:=h',toks:=t' }:=I.un (Un.kept k) (I.hok.kept k)
theorem Inv.laid{a:Addr}{o:HO}{t':Nat}(I:Inv X pins σ H s)(k:∀b u,s.heap.get? b=some u->h'.get? b=some u)(hp:s.heap.objs.size<=a)(new:je X.prog X.w (upd H a o) h' a o) :
  Inv X pins σ (upd H a o) {s with heap:=h',toks:=t' }:=I.un (Un.laid k hp (I.hok.fresh hp)) (I.hok.laid k hp new)
theorem Inv.write(I:Inv X pins σ H s)(mu:yd (H x))(he:e=x\/H e=some (.own x))(k:∀b u,b≠e->s.heap.get? b=some u->h'.get? b=some u)(heo:∃u,h'.get? e=some u)
  (new:je X.prog X.w (upd H x o) h' x o):Inv X pins σ (upd H x o) {s with heap:=h',toks:=t' }:=I.un (Un.write mu he k heo) (I.hok.write mu he k heo new)
theorem Inv.yq(I:Inv X pins σ H s)(h:∀p∈jf,s.heap.get? p.1=some p.2/\H p.1=none/\p.1≠X.env.locals/\p.1∉X.fs/\∀v,p.2.data ≠ .cell v):Inv X jf σ H s :=
 ⟨I.ok,I.os,I.bare,I.base,I.loc,I.cell,I.free,I.jR,λp hp=>(List.mem_append.mp hp).elim (λz=>I.pin p (List.mem_append_left _ z)) (h p),I.hok,I.len⟩
theorem Oq{N:List Str}(hN:N.Nodup){i j:Nat}{x:Str}(a:N[i]?=some x)(b:N[j]?=some x):i=j:=by
 obtain⟨h1,e1⟩:=List.getElem?_eq_some_iff.mp a
 obtain⟨h2,e2⟩:=List.getElem?_eq_some_iff.mp b
 exact(List.getElem_inj hN).mp (e1.trans e2.symm)
theorem Dz{M:Model}{A:Around}{E:Value->Shared->Prop}{i:Nat}{x:Str}{v:V}{u:Value}{Q:Unit->Shared->Prop}(I:Inv X pins σ H s)(hN:X.N.Nodup)(hi:X.N[i]?=some x)(hx:Loc X.env.scope x)(r:RelV v u)
  (h:∀s',Inv X pins (σ.set i (some v)) H s'->(∃a,Heap.SameBut a s.heap s'.heap/\(a=X.env.locals\/X.env.cells.lookup x=some a))->Q () s') (hf:X.fn x=true\/X.env.scope.names.lookup x=some .local:=by first|exact .inl rfl|exact .inr rfl|assumption):wpAny M A (storeName X.env x u) Q E s:=by
 obtain⟨m,hn,hl⟩:=id I.loc
 have hcls:(X.env.scope.kind == .class || (X.env.scope.kind == .module&&X.env.locals != X.env.globals))=false:=by rw[I.ok.kind]; rfl
 have Ot:i < σ.length:=by rw[I.len]; exact(List.getElem?_eq_some_iff.mp hi).1
 have p7:=I.p7
 have tracked:∀{a:Addr} {h':Heap},(∃o,s.heap.get? a=some o/\H a=none)->Heap.SameBut a s.heap h'->cH X.prog X.w H h':=λ{a h'} ha hs b ob e=>by
  obtain⟨_,_,hfree⟩:=ha
  refine(I.hok b ob e).stay (λc w' hc q=>(hs.2 c ?_).trans q) (λ_ q=>q) λ_ _ q=>q
  rintro rfl
  rcases hc with rfl|hc
  .rw[hfree]at e; cases e
  .rw[hfree]at hc; cases hc
 rcases hx with hk|hk
 .refine wpAny_storeName_local hk hn (λh' hn' hs=>?_) hcls
  obtain⟨oL,_,_,hoL,_⟩:=id hn
  refine h _ ⟨I.ok,I.os,I.bare,⟨λb o e n hb hx=>?_,λb o e n hb hx=>?_,I.base.free,λb o e hx=>?_,I.base.tups,I.base.jP,I.base.jQ⟩,⟨_,hn',λj y v' e1 e2 e3=>?_⟩,λy c e=>?_,I.free,I.jR,λp hp=>?_,tracked ⟨oL,hoL,I.free⟩ hs,by simpa using I.len⟩ ⟨_,hs,.inl rfl⟩
  .exact(hs.2 b (Nat.ne_of_lt (Nat.lt_of_lt_of_le (Heap.lt_size e) I.ok.above))).trans (I.base.keep b o e n hb hx)
  .obtain⟨sl,e1⟩:=I.base.slot b o e n hb hx
   exact⟨sl,(hs.2 b (Nat.ne_of_lt (Nat.lt_of_lt_of_le (Heap.lt_size e) I.ok.above))).trans e1⟩
  .obtain⟨o',e1⟩:=I.base.there b o e hx
   exact⟨o',(hs.2 b (Nat.ne_of_lt (Nat.lt_of_lt_of_le (Heap.lt_size e) I.ok.above))).trans e1⟩
  .by_cases hj:j=i
   .subst hj
    rw[hi]at e1; cases e1
    rw[List.getElem?_set_self Ot]at e2
    cases e2
    exact⟨u,r,.inl ⟨hk,by simp⟩⟩
   .rw[List.getElem?_set_ne (Ne.symm hj)]at e2
    obtain⟨u',r',q⟩:=hl j y v' e1 e2 e3
    refine⟨u',r',?_⟩
    rcases q with⟨k,e⟩|⟨k,c,e,z⟩
    .refine .inl ⟨k,?_⟩
     have:y≠x:=λe=>hj (Oq hN e1 (e▸hi))
     simp[this,e]
    .exact .inr ⟨k,c,e,z.sameBut hs (p7 y c e)⟩
  .obtain⟨w',z⟩:=I.cell y c e
   exact⟨w',z.sameBut hs (p7 y c e)⟩
  .obtain⟨e,n,ne,nf,d⟩:=I.pin p hp
   exact⟨(hs.2 p.1 ne).trans e,n,ne,nf,d⟩
 .have hfn:X.fn x=true:=by
   rcases hf with z|z
   .exact z
   .rw[z]at hk; cases hk
  obtain⟨c,hc⟩:=I.ok.has x (.inl hk)
  obtain⟨w',z⟩:=I.cell x c hc
  refine wpAny_storeName_cell I.ok.kind hk hc z (λh' hc' hs=>?_)
  obtain⟨oc,hoc,abo⟩:=id z
  refine h {s with heap:=h' } ⟨I.ok,I.os,I.bare,⟨λb o e n hb hx=>?_,λb o e n hb hx=>?_,I.base.free,λb o e hx=>?_,I.base.tups,I.base.jP,I.base.jQ⟩,⟨m,hn.sameBut hs (Ne.symm (p7 x c hc)),λj y v' e1 e2 e3=>?_⟩,λy c' e=>?_,I.free,I.jR,λp hp=>?_,tracked ⟨oc,hoc,I.jR x c hc⟩ hs,by simpa using I.len⟩ ⟨c,hs,.inr hc⟩
  .exact(hs.2 b (Nat.ne_of_lt (Nat.lt_of_lt_of_le (Heap.lt_size e) (I.ok.cab x c hfn hc)))).trans (I.base.keep b o e n hb hx)
  .obtain⟨sl,e1⟩:=I.base.slot b o e n hb hx
   exact⟨sl,(hs.2 b (Nat.ne_of_lt (Nat.lt_of_lt_of_le (Heap.lt_size e) (I.ok.cab x c hfn hc)))).trans e1⟩
  .obtain⟨o',e1⟩:=I.base.there b o e hx
   exact⟨o',(hs.2 b (Nat.ne_of_lt (Nat.lt_of_lt_of_le (Heap.lt_size e) (I.ok.cab x c hfn hc)))).trans e1⟩
  .by_cases hj:j=i
   .subst hj
    rw[hi]at e1; cases e1
    rw[List.getElem?_set_self Ot]at e2
    cases e2
    exact⟨u,r,.inr ⟨.inl hk,c,hc,hc'⟩⟩
   .rw[List.getElem?_set_ne (Ne.symm hj)]at e2
    obtain⟨u',r',q⟩:=hl j y v' e1 e2 e3
    refine⟨u',r',?_⟩
    rcases q with q|⟨k,c',e,z'⟩
    .exact .inl q
    .refine .inr ⟨k,c',e,z'.sameBut hs ?_⟩
     rintro rfl
     exact hj (Oq hN e1 (I.ok.inj _ _ _ e hc▸hi))
  .by_cases hcc:c'=c
   .subst hcc; exact⟨_,hc'⟩
   .obtain⟨w2,z2⟩:=I.cell y c' e
    exact⟨w2,z2.sameBut hs hcc⟩
  .obtain⟨e,n,ne,nf,d⟩:=I.pin p hp
   refine⟨(hs.2 p.1 ?_).trans e,n,ne,nf,d⟩
   intro q
   rw[q,hoc]at e
   have q':oc=p.2:=Option.some.inj e
   exact d w' (by rw[<-q']; exact abo)
theorem uP(I:Inv X pins σ H s)(hN:X.N.Nodup)(hi:X.N[i]?=some x)(hx:Loc X.env.scope x)(r:RelV v u)
  (h:∀s',Inv X pins (σ.set i (some v)) H s'->Q () s') (hf:X.fn x=true\/X.env.scope.names.lookup x=some .local:=by first|exact .inl rfl|exact .inr rfl|assumption):wpAny M A (storeName X.env x u) Q E s :=
 Dz I hN hi hx r (λs' I' _=>h s' I') hf
theorem Inv.call'(I:Inv X pins σ H s)(ho:s'.os=s.os)(u:Un (frs X.stack) ch H H' s.heap s'.heap)(hok:cH X.prog X.w H' s'.heap)(hg:AllBare s'.gens)
  (hch:∀b∈ch,(b∈X.ex\/X.s₀.heap.objs.size<=b)/\b≠X.env.locals/\(∀x c,X.env.cells.lookup x=some c->c≠b)/\∀p∈X.pn++pins,p.1≠b):Inv X pins σ H' s':=by
 obtain⟨h',g',d',t',o'⟩:=s'
 have e:o'=s.os:=ho
 subst e
 exact I.call (g':=g') (t':=t') (d':=d') u hok hg hch
end
abbrev XK:=Value->Option Addr->Hp->Prop
abbrev St:=List (Option V)
abbrev VK:=V->Hp->Prop
abbrev TE:=St->Hp->VK->Prop
abbrev TT:=St->Hp->(Bool->Hp->Prop)->Prop
abbrev TA:=St->Hp->(List V->Hp->Prop)->Prop
structure Ends where
 nx:St->Hp->Prop
 rt:VK
 bk:St->Hp->Prop:=λ_ _=>False
 ct:St->Hp->Prop:=λ_ _=>False
abbrev TS:=Ends->St->Hp->Prop
def EP(X:Cx)(pins:LO)(σ : St)(Q:VK)(u:Value)(s':Shared):Prop:=∃v H',Inv X pins σ H' s'/\RelV v u/\Q v H'
def TP(X:Cx)(pins:LO)(σ : St)(Q:Bool->Hp->Prop)(b:Bool)(s':Shared):Prop:=∃H',Inv X pins σ H' s'/\Q b H'
def AP(X:Cx)(pins:LO)(σ : St)(Q:List V->Hp->Prop)(us:List Value)(s':Shared):Prop:=∃vs H',Inv X pins σ H' s'/\Vals vs us/\Q vs H'
def SP(X:Cx)(pins:LO)(D:Ends)(f:Flow)(s':Shared):Prop :=
 match f with
 |.next=>∃σ' H',Inv X pins σ' H' s'/\D.nx σ' H'
 |.brk=>∃σ' H',Inv X pins σ' H' s'/\D.bk σ' H'
 |.cont=>∃σ' H',Inv X pins σ' H' s'/\D.ct σ' H'
 |.ret u=>∃v σ' H',Inv X pins σ' H' s'/\RelV v u/\D.rt v H'
structure PE(X:Cx)(e:Expr)(t:TE):Prop where
 run:∀(pins:LO) (s:Shared) (σ : St) (H:Hp) (Q:VK),Inv X pins σ H s->t σ H Q->wpAny (model X.prog X.w) X.A (eval e X.env) (EP X pins σ Q) X.xe s
noncomputable instance {X:Cx}{e:Expr}{t:TE}:CoeFun (PE X e t) λ_=>∀(pins:LO) (s:Shared) (σ : St) (H:Hp) (Q:VK),Inv X pins σ H s->t σ H Q->wpAny (model X.prog X.w) X.A (eval e X.env) (EP X pins σ Q) X.xe s:=⟨PE.run⟩
structure PT(X:Cx)(e:Expr)(t:TT):Prop where
 run:∀(pins:LO) (s:Shared) (σ : St) (H:Hp) (Q:Bool->Hp->Prop),Inv X pins σ H s->t σ H Q->wpAny (model X.prog X.w) X.A (isTrue e X.env (eval e X.env)) (TP X pins σ Q) X.xe s
noncomputable instance {X:Cx}{e:Expr}{t:TT}:CoeFun (PT X e t) λ_=>∀(pins:LO) (s:Shared) (σ : St) (H:Hp) (Q:Bool->Hp->Prop),Inv X pins σ H s->t σ H Q->wpAny (model X.prog X.w) X.A (isTrue e X.env (eval e X.env)) (TP X pins σ Q) X.xe s:=⟨PT.run⟩
structure PW(X:Cx)(e:Expr)(t:TT):Prop where
 run:∀(whole:Sem Value) (pins:LO) (s:Shared) (σ : St) (H:Hp) (Q:Bool->Hp->Prop),Inv X pins σ H s->t σ H Q->wpAny (model X.prog X.w) X.A (isTrue e X.env whole) (TP X pins σ Q) X.xe s
noncomputable instance {X:Cx}{e:Expr}{t:TT}:CoeFun (PW X e t) λ_=>∀(whole:Sem Value) (pins:LO) (s:Shared) (σ : St) (H:Hp) (Q:Bool->Hp->Prop),Inv X pins σ H s->t σ H Q->wpAny (model X.prog X.w) X.A (isTrue e X.env whole) (TP X pins σ Q) X.xe s:=⟨PW.run⟩
theorem PW.pt(h:PW X e t):PT X e t:=⟨h.run _⟩
structure PA(X:Cx)(es:List Expr)(t:TA):Prop where
 run:∀(pos:Pos) (pins:LO) (s:Shared) (σ : St) (H:Hp) (Q:List V->Hp->Prop),Inv X pins σ H s->t σ H Q->wpAny (model X.prog X.w) X.A (spliced (backTo pos (starEach es X.env))) (AP X pins σ Q) X.xe s
noncomputable instance {X:Cx}{es:List Expr}{t:TA}:CoeFun (PA X es t) λ_=>∀(pos:Pos) (pins:LO) (s:Shared) (σ : St) (H:Hp) (Q:List V->Hp->Prop),Inv X pins σ H s->t σ H Q->wpAny (model X.prog X.w) X.A (spliced (backTo pos (starEach es X.env))) (AP X pins σ Q) X.xe s:=⟨PA.run⟩
structure PS(X:Cx)(st:Stmt)(t:TS):Prop where
 run:∀(pins:LO) (s:Shared) (σ : St) (H:Hp) (D:Ends),Inv X pins σ H s->t D σ H->wpAny (model X.prog X.w) X.A (exec st X.env) (SP X pins D) X.xe s
noncomputable instance {X:Cx}{st:Stmt}{t:TS}:CoeFun (PS X st t) λ_=>∀(pins:LO) (s:Shared) (σ : St) (H:Hp) (D:Ends),Inv X pins σ H s->t D σ H->wpAny (model X.prog X.w) X.A (exec st X.env) (SP X pins D) X.xe s:=⟨PS.run⟩
structure eO(X:Cx)(st:List Stmt)(t:TS):Prop where
 run:∀(pins:LO) (s:Shared) (σ : St) (H:Hp) (D:Ends),Inv X pins σ H s->t D σ H->wpAny (model X.prog X.w) X.A (execs st X.env) (SP X pins D) X.xe s
noncomputable instance {X:Cx}{st:List Stmt}{t:TS}:CoeFun (eO X st t) λ_=>∀(pins:LO) (s:Shared) (σ : St) (H:Hp) (D:Ends),Inv X pins σ H s->t D σ H->wpAny (model X.prog X.w) X.A (execs st X.env) (SP X pins D) X.xe s:=⟨eO.run⟩
theorem aC{α : Type}{t:Sem α}{Q Q' : α -> Shared->Prop}{M:Model}{A:Around}{E:Value->Shared->Prop}{s:Shared}(h:wpAny M A t Q E s)(hQ:∀a s,Q a s->Q' a s):wpAny M A t Q' E s:=wpAny_mono h hQ λ_ _ x=>x
section
variable {X:Cx}
def DG(i:Nat):TE:=λσ H Q=>∃v,σ[i]?=some (some v)/\Q v H
def tC(v:V):TE:=λ_ H Q=>Q v H
theorem Ou(hN:X.N[i]?=some x)(hv:uL X.env.scope x)(hd:(x == ("__debug__" : Str))=false:=by decide) (hcd:(x == ("__classdict__" : Str))=false:=by decide):PE X (.Name x pos) (DG i):=by
 refine⟨λpins s σ H Q I h=>?_⟩
 obtain⟨v,e,h⟩:=h
 obtain⟨m,hn,hl⟩:=I.loc
 obtain⟨u,r,l⟩:=hl i x v hN e hv
 have fin:EP X pins σ Q u s:=⟨v,H,I,r,h⟩
 rcases l with⟨hk,hm⟩|⟨hk,c,hc,hcell⟩
 .exact wpAny_Name (wpAny_loadName_local I.ok.kind hk hn hm fin) hd
 .rcases hk with hk|hk
  .exact wpAny_Name (wpAny_loadName_cell I.ok.kind hk hc hcell fin) hd
  .exact wpAny_Name (wpAny_loadName_free I.ok.kind hk hc hcell fin hcd) hd
theorem yr{i j pos}:PE X (.Constant (.int i) j pos) (tC (.int i)):=⟨λ_ _ _ H _ I h=>wpAny_Constant_int ⟨.int i,H,I.tok _,⟨_,rfl⟩,h⟩⟩
theorem Ov{b j pos}:PE X (.Constant (.bool b) j pos) (tC (.bl b)):=⟨λ_ _ _ H _ I h=>Constant_bool ⟨.bl b,H,I,rfl,h⟩⟩
theorem Ow{j pos}:PE X (.Constant .none j pos) (tC .non):=⟨λ_ _ _ H _ I h=>Constant_none ⟨.non,H,I,rfl,h⟩⟩
theorem Oz{x j pos}:PE X (.Constant (.str x) j pos) (tC (.str x)):=⟨λ_ _ _ H _ I h=>Calls.Constant_str ⟨.str x,H,I.tok _,⟨_,rfl⟩,h⟩⟩
def Gl(X:Cx)(x:Str):Prop:=X.env.kindOf x=some .globalImplicit
theorem DK(I:Inv X pins σ H s)(hg:Gl X x)(hm:X.mg x=some u)(h:Q u s)
  (hd:(x == ("__debug__" : Str))=false:=by decide):wpAny (model X.prog X.w) X.A (eval (.Name x pos) X.env) Q E s :=
 Calls.Name_function_global I.ok.kind hg (Calls.loadGlobal_global (by rw[I.ok.glob]; exact I.mod.glob.keeps I.bk) hm h) hd
theorem jT(I:Inv X pins σ H s)(hg:Gl X x)(hm:X.mg x=none)(hv:bootBuiltins x=some u)(h:Q u s)
  (hn:x ≠ "__name__" := by decide) (hd:(x == ("__debug__" : Str))=false:=by decide):wpAny (model X.prog X.w) X.A (eval (.Name x pos) X.env) Q E s:=by
 obtain⟨mb,h1,h2⟩:=I.mod.blt
 exact Calls.Name_function_global I.ok.kind hg (Calls.loadGlobal_builtin (by rw[I.ok.glob]; exact I.mod.glob.keeps I.bk) hm (by rw[I.ok.blt]; exact h1.keeps I.bk) ((h2 x hn).trans hv) h) hd
theorem abp(hg:Gl X x)(hm:X.mg x=some u)(r:RelV v u)(hd:(x == ("__debug__" : Str))=false:=by decide):PE X (.Name x pos) (tC v) :=
 ⟨λ_ _ _ H _ I h=>DK I hg hm ⟨v,H,I,r,h⟩ hd⟩
theorem abq(hg:Gl X x)(hm:X.mg x=none)(hv:bootBuiltins x=some u)(r:RelV v u)(hn:x ≠ "__name__" := by decide) (hd:(x == ("__debug__" : Str))=false:=by decide):PE X (.Name x pos) (tC v) :=
 ⟨λ_ _ _ H _ I h=>jT I hg hm hv ⟨v,H,I,r,h⟩ hn hd⟩
variable {a b:Expr}{ta tb:TE}{pos:Pos}
variable {tA yt:TT}{rest:List Expr}
def OD(t u:TT):TT:=λσ H Q=>t σ H λc H1=>if c=true then u σ H1 Q else Q false H1
def OJ(t u:TT):TT:=λσ H Q=>t σ H λc H1=>if c=true then Q true H1 else u σ H1 Q
def O4(t:TT):TT:=λσ H Q=>t σ H λc H1=>Q (!c) H1
theorem abr(ha:PT X a tA):PW X (.BoolOp .And [a] pos) tA:=by
 refine⟨λwh pins s σ H Q I h=>?_⟩
 refine isTrue_and (aC (ha pins s σ H Q I h) λc s1 e=>?_)
 cases c with
 |true=>exact isTrue_and_nil e
 |false=>exact e
theorem abt(ha:PT X a tA):PW X (.BoolOp .Or [a] pos) tA:=by
 refine⟨λwh pins s σ H Q I h=>?_⟩
 refine isTrue_or (aC (ha pins s σ H Q I h) λc s1 e=>?_)
 cases c with
 |false=>exact isTrue_or_nil e
 |true=>exact e
theorem abu(ha:PT X a tA)(hb:PW X (.BoolOp .And (b::rest) pos) yt):PW X (.BoolOp .And (a::b::rest) pos) (OD tA yt):=by
 refine⟨λwh pins s σ H Q I h=>?_⟩
 refine isTrue_and (aC (ha pins s σ H _ I h) λc s1 ⟨H1,I1,q1⟩=>?_)
 cases c with
 |true=>exact hb wh pins s1 σ H1 Q I1 q1
 |false=>exact⟨H1,I1,q1⟩
theorem abv(ha:PT X a tA)(hb:PW X (.BoolOp .Or (b::rest) pos) yt):PW X (.BoolOp .Or (a::b::rest) pos) (OJ tA yt):=by
 refine⟨λwh pins s σ H Q I h=>?_⟩
 refine isTrue_or (aC (ha pins s σ H _ I h) λc s1 ⟨H1,I1,q1⟩=>?_)
 cases c with
 |true=>exact⟨H1,I1,q1⟩
 |false=>exact hb wh pins s1 σ H1 Q I1 q1
theorem abw(ha:PT X a tA):PT X (.UnaryOp .Not a pos) (O4 tA):=by
 refine⟨λpins s σ H Q I h=>?_⟩
 exact isTrue_not (ha pins s σ H (λc H1=>Q (!c) H1) I h)
def O5(ta tb:TE):TE:=λσ H Q=>ta σ H λx H1=>∃c,x=.bl c/\if c=true then tb σ H1 Q else Q (.bl false) H1
def O6(ta:TE):TE:=λσ H Q=>ta σ H λx H1=>∃c,x=.bl c/\Q (.bl (!c)) H1
theorem abx{op}{t:TE}(h:PE X a t):PE X (.BoolOp op [a] pos) t:=⟨λpins s σ H Q I hw=>BoolOp_one (h pins s σ H Q I hw)⟩
theorem aby(ha:PE X a ta)(hb:PE X (.BoolOp .And (b::rest) pos) tb):PE X (.BoolOp .And (a::b::rest) pos) (O5 ta tb):=by
 refine⟨λpins s σ H Q I h=>?_⟩
 refine BoolOp_and (aC (ha pins s σ H _ I h) λv s1 ⟨x,H1,I1,r1,q1⟩=>?_)
 obtain⟨c,rfl,q1⟩:=q1
 cases r1
 refine wpAny_truthy_bool ?_
 cases c with
 |true=>exact hb pins s1 σ H1 Q I1 q1
 |false=>exact⟨.bl false,H1,I1,rfl,q1⟩
theorem abz(ha:PE X a ta):PE X (.UnaryOp .Not a pos) (O6 ta):=by
 refine⟨λpins s σ H Q I h=>?_⟩
 refine UnaryOp_ (aC (ha pins s σ H _ I h) λv s1 ⟨x,H1,I1,r1,q1⟩=>?_)
 obtain⟨c,rfl,q1⟩:=q1
 cases r1
 exact not_of (wpAny_truthy_bool ⟨.bl (!c),H1,I1,rfl,q1⟩)
def O7(t:TT)(ta tb:TE):TE:=λσ H Q=>t σ H λc H1=>if c=true then ta σ H1 Q else tb σ H1 Q
theorem abA{c:Expr}(hc:PT X c tA)(ha:PE X a ta)(hb:PE X b tb):PE X (.IfExp c a b pos) (O7 tA ta tb):=by
 refine⟨λpins s σ H Q I h=>?_⟩
 refine wpAny_IfExp (aC (hc pins s σ H _ I h) λd s1 ⟨H1,I1,q1⟩=>?_)
 cases d with
 |true=>exact ha pins s1 σ H1 Q I1 q1
 |false=>exact hb pins s1 σ H1 Q I1 q1
end
def aF(K:FZ)(H:Hp)(a:Addr)(xs:List V):Prop :=
 Rd H a (.lst xs) \/
  ∃(o:Obj) (its:Array Value) (n:Nat),K.lookup a=some o/\o.cls=.type "list" /\ o.dict=none/\o.data=.seq its n/\its.size<=sizeLine/\Vals xs its.toList
def bh(K:FZ)(H:Hp)(a:Addr)(xs:List V):Prop :=
 Rd H a (.tup xs) \/
  ∃(o:Obj) (its:Array Value) (n:Nat),K.lookup a=some o/\o.cls=.type "tuple" /\ o.data=.seq its n/\its.size<=sizeLine/\Vals xs its.toList
noncomputable def abB:Value->Option V
 |.none=>some .non
 |.bool b=>some (.bl b)
 |.int i _=>some (.int i)
 |.str x _=>some (.str x)
 |.bytes b _=>some (.uK b)
 |.float b _=>some (.flt b)
 |.ref a=>some (.ref a)
 |.type n=>some (.ty n)
 |_=>none
theorem RelV.abs(r:RelV x u):abB u=some x:=by
 cases x with
 |non=>cases r; rfl
 |bl _=>cases r; rfl
 |int _=>obtain⟨t,rfl⟩:=r; rfl
 |str _=>obtain⟨t,rfl⟩:=r; rfl
 |uK _=>obtain⟨t,rfl⟩:=r; rfl
 |flt _=>obtain⟨t,rfl⟩:=r; rfl
 |ref _=>cases r; rfl
 |ty _=>cases r; rfl
theorem RelV.inj{x y:V}{u:Value}(r:RelV x u)(q:RelV y u):x=y:=Option.some.inj (r.abs.symm.trans q.abs)
theorem Vals.inj:∀{xs ys:List V} {us:List Value},Vals xs us->Vals ys us->xs=ys
 |_,_,_,.nil,.nil=>rfl
 |_,_,_,.cons r t,.cons r' t'=>by rw[r.inj r',Vals.inj t t']
section
variable {X:Cx}{pins:LO}{σ : St}{H:Hp}{s:Shared}{a:Addr}{xs ys:List V}
theorem aF.of{K:FZ}(h:H a=some (.lst xs)):aF K H a xs:=.inl (.inl h)
theorem bh.of{K:FZ}(h:H a=some (.tup xs)):bh K H a xs:=.inl (.inl h)
theorem Inv.list(I:Inv X pins σ H s)(h:aF X.K H a xs):∃its:List Value,Vals xs its/\PlainL s.heap a its.toArray/\xs.length<=sizeLine:=by
 rcases h with h|⟨o,its,n,hk,hc,hd,hs,hz,r⟩
 .obtain⟨z,its,n,r,e⟩:=h.ok I.hok
  exact⟨its,r,⟨_,n,e,rfl,rfl,rfl⟩,z⟩
 .refine⟨its.toList,r,⟨o,n,I.iD a o hk,hc,hd,by simpa using hs⟩,?_⟩
  have e:=r.length
  simp only[Array.length_toList]at e
  lia
theorem Inv.tuple(I:Inv X pins σ H s)(h:bh X.K H a xs):∃its:List Value,Vals xs its/\IsTup s.heap a its.toArray/\xs.length<=sizeLine:=by
 rcases h with h|⟨o,its,n,hk,hc,hs,hz,r⟩
 .obtain⟨z,its,r,p⟩:=h.ok I.hok
  exact⟨its,r,p,z⟩
 .refine⟨its.toList,r,⟨o,I.iD a o hk,hc,n,by simpa using hs⟩,?_⟩
  have e:=r.length
  simp only[Array.length_toList]at e
  lia
theorem Inv.nZ(I:Inv X pins σ H s)(h:aF X.K H a xs)(h':aF X.K H a ys):xs=ys:=by
 obtain⟨its,r,⟨o,n,e,_,_,d⟩,_⟩:=I.list h
 obtain⟨its',r',⟨o',n',e',_,_,d'⟩,_⟩:=I.list h'
 rw[e]at e'; cases e'
 rw[d]at d'
 injection d' with d1 _
 have:its=its':=by simpa using congrArg Array.toList d1
 subst this
 exact r.inj r'
theorem Inv.O8(I:Inv X pins σ H s)(h:bh X.K H a xs)(h':bh X.K H a ys):xs=ys:=by
 obtain⟨its,r,⟨o,e,_,n,d⟩,_⟩:=I.tuple h
 obtain⟨its',r',⟨o',e',_,n',d'⟩,_⟩:=I.tuple h'
 rw[e]at e'; cases e'
 rw[d]at d'
 injection d' with d1 _
 have:its=its':=by simpa using congrArg Array.toList d1
 subst this
 exact r.inj r'
end
noncomputable abbrev Cx.wish(X:Cx)(E:Value->Shared->Prop):Cx:={X with xe:=E }
noncomputable abbrev Cx.uQ(X:Cx):Cx:=X.wish λ_ _=>False
theorem Cx.Ok.wish{X:Cx}(ok:X.Ok)(E:Value->Shared->Prop):(X.wish E).Ok :=
 ⟨ok.mod,ok.kind,ok.glob,ok.blt,ok.above,ok.inj,ok.has,ok.cab,ok.hd,ok.frames,ok.stk,ok.Ol,ok.bs,ok.nY,ok.uM,ok.yh,ok.jy,ok.pZ⟩
theorem Cx.Ok.n8{X:Cx}{E:Value->Shared->Prop}(ok:(X.wish E).Ok):X.Ok :=
 ⟨ok.mod,ok.kind,ok.glob,ok.blt,ok.above,ok.inj,ok.has,ok.cab,ok.hd,ok.frames,ok.stk,ok.Ol,ok.bs,ok.nY,ok.uM,ok.yh,ok.jy,ok.pZ⟩
section
variable {X:Cx}{pins:LO}{σ : St}{H:Hp}{s:Shared}{E:Value->Shared->Prop}
theorem Inv.wish(I:Inv X pins σ H s)(E:Value->Shared->Prop):Inv (X.wish E) pins σ H s:=⟨I.ok.wish E,I.os,I.bare,I.base,I.loc,I.cell,I.free,I.jR,I.pin,I.hok,I.len⟩
theorem Inv.n8(I:Inv (X.wish E) pins σ H s):Inv X pins σ H s:=⟨I.ok.n8,I.os,I.bare,I.base,I.loc,I.cell,I.free,I.jR,I.pin,I.hok,I.len⟩
theorem SP.n8{D:Ends}{f:Flow}{s':Shared}(h:SP (X.wish E) pins D f s'):SP X pins D f s':=by
 cases f with
 |next=>obtain⟨σ',H',I,q⟩:=h; exact⟨σ',H',I.n8,q⟩
 |brk=>obtain⟨σ',H',I,q⟩:=h; exact⟨σ',H',I.n8,q⟩
 |cont=>obtain⟨σ',H',I,q⟩:=h; exact⟨σ',H',I.n8,q⟩
 |ret u=>obtain⟨v,σ',H',I,r,q⟩:=h; exact⟨v,σ',H',I.n8,r,q⟩
end
section
variable {X:Cx}{st:Stmt}{rest:List Stmt}{t u:TS}{e:Expr}{te:TE}{pos:Pos}
def abC:TS:=λD σ H=>D.nx σ H
def O9(t u:TS):TS:=λD σ H=>t {D with nx:=u D } σ H
theorem abD:eO X [] abC:=⟨λ_ _ σ H _ I h=>wpAny_execs_nil ⟨σ,H,I,h⟩⟩
theorem Pa(h1:PS X st t)(h2:eO X rest u):eO X (st::rest) (O9 t u):=by
 refine⟨λpins s σ H D I h=>?_⟩
 refine wpAny_execs_cons (aC (h1 pins s σ H {D with nx:=u D } I h) λf s1 q=>?_)
 cases f with
 |next =>
  obtain⟨σ',H',I',q⟩:=q
  exact h2 pins s1 σ' H' D I' q
 |ret v=>exact q
 |brk=>exact q
 |cont=>exact q
theorem Pb(h1:PS X st t):eO X [st] t:=by
 refine⟨λpins s σ H D I h=>?_⟩
 refine wpAny_execs_cons (aC (h1 pins s σ H D I h) λf s1 q=>?_)
 cases f with
 |next=>exact wpAny_execs_nil q
 |ret v=>exact q
 |brk=>exact q
 |cont=>exact q
theorem Inv.quiet{pins:LO}{σ : St}{H:Hp}{s:Shared}(I:Inv X pins σ H s):interactive X.env=false:=by simp[interactive,I.ok.kind]
def abE(te:TE):TS:=λD σ H=>te σ H λ_ H1=>D.nx σ H1
theorem abF(he:PE X e te)(hs:swapsWith e none pos.line X.env=pure false:=by rfl):PS X (.Expr e pos) (abE te):=by
 refine⟨λpins s σ H D I h=>?_⟩
 exact wpAny_Expr_any (aC (he pins s σ H _ I h) λv s1 ⟨x,H1,I1,r1,q1⟩=>⟨σ,H1,I1,q1⟩) I.quiet hs
def abG(te:TE):TS:=λD σ H=>te σ H D.rt
theorem Pg(he:PE X e te):PS X (.Return (some e) pos) (abG te):=by
 refine⟨λpins s σ H D I h=>?_⟩
 exact wpAny_Return_some (aC (he pins s σ H _ I h) λv s1 ⟨x,H1,I1,r1,q1⟩=>⟨x,σ,H1,I1,r1,q1⟩)
def abH(c:TT)(t u:TS):TS:=λD σ H=>c σ H λb H1=>if b=true then t D σ H1 else u D σ H1
theorem abI{c:Expr}{a b:List Stmt}{tc:TT}(hc:PT X c tc)(ha:eO X a t)(hb:eO X b u):PS X (.If c a b pos) (abH tc t u):=by
 refine⟨λpins s σ H D I h=>?_⟩
 refine wpAny_If (aC (hc pins s σ H _ I h) λd s1 ⟨H1,I1,q1⟩=>?_)
 cases d with
 |true=>exact ha pins s1 σ H1 D I1 q1
 |false=>exact hb pins s1 σ H1 D I1 q1
end
abbrev TG:=V->St->Hp->(St->Hp->Prop)->Prop
abbrev p8:=List V->St->Hp->(St->Hp->Prop)->Prop
def PG(X:Cx)(target:Expr)(t:TG):Prop :=
 ∀(pins:LO) (s:Shared) (σ : St) (H:Hp) (v:V) (u:Value) (Q:St->Hp->Prop),Inv X pins σ H s->RelV v u->t v σ H Q ->
  wpAny (model X.prog X.w) X.A (assign target X.env u) (λ_ s'=>∃σ' H',Inv X pins σ' H' s'/\Q σ' H') X.xe s
def oh(X:Cx)(ts:List Expr)(t:p8):Prop :=
 ∀(pins:LO) (s:Shared) (σ : St) (H:Hp) (vs:List V) (us:List Value) (Q:St->Hp->Prop),Inv X pins σ H s->Vals vs us->t vs σ H Q ->
  wpAny (model X.prog X.w) X.A (assignInOrder ((assignEach ts X.env).map (·.2)) us) (λ_ s'=>∃σ' H',Inv X pins σ' H' s'/\Q σ' H') X.xe s
abbrev yu:=V->V->V->Hp->(Hp->Prop)->Prop
def DN(X:Cx)(t:yu):Prop :=
 ∀(pins:LO) (s:Shared) (σ : St) (H:Hp) (o i v:V) (ov iv u:Value) (Q:Hp->Prop),Inv X pins σ H s->RelV o ov->RelV i iv->RelV v u->t o i v H Q ->
  wpAny (model X.prog X.w) X.A (setItem ov iv u) (λ_ s'=>∃H',Inv X pins σ H' s'/\Q H') X.xe s
abbrev yw:=V->V->Hp->VK->Prop
def DP(X:Cx)(op:Operator)(t:yw):Prop :=
 ∀(pins:LO) (s:Shared) (σ : St) (H:Hp) (x y:V) (v u:Value) (Q:VK),Inv X pins σ H s->RelV x v->RelV y u->t x y H Q ->
  wpAny (model X.prog X.w) X.A (inplaceOp op v u) (EP X pins σ Q) X.xe s
section
variable {X:Cx}{pos:Pos}
def kY(i:Nat):TG:=λv σ H Q=>Q (σ.set i (some v)) H
theorem abJ(hN:X.N.Nodup)(hi:X.N[i]?=some x)(hx:Loc X.env.scope x)(hf:X.fn x=true\/X.env.scope.names.lookup x=some .local:=by first|exact .inl rfl|exact .inr rfl|assumption):PG X (.Name x pos) (kY i):=by
 intro pins s σ H v u Q I r h
 exact wpAny_assign_Name (uP I hN hi hx r (λs' I'=>⟨_,H,I',h⟩) hf)
def abK:p8:=λvs σ H Q=>vs=[]/\Q σ H
def abL(t:TG)(u:p8):p8:=λvs σ H Q=>∃v r,vs=v::r/\t v σ H λσ' H'=>u r σ' H' Q
theorem abM:oh X [] abK:=by
 intro pins s σ H vs us Q I r h
 obtain⟨e,h⟩:=h
 subst e
 cases r
 exact assignInOrder_nil ⟨σ,H,I,h⟩
theorem abN{e:Expr}{es:List Expr}{t:TG}{u:p8}(h1:PG X e t)(h2:oh X es u)
  (hs:(assignEach (e::es) X.env).map (·.2)=assign e X.env::(assignEach es X.env).map (·.2):=by rfl):oh X (e::es) (abL t u):=by
 intro pins s σ H vs us Q I r h
 obtain⟨v,vr,e1,h⟩:=h
 subst e1
 cases r with
 |cons r rr =>
  rw[hs]
  refine assignInOrder_cons (aC (h1 pins s σ H _ _ _ I r h) λ_ s1 ⟨σ1,H1,I1,q1⟩=>?_)
  exact h2 pins s1 σ1 H1 _ _ Q I1 rr q1
def abO(K:FZ)(n:Nat)(t:p8):TG:=λv σ H Q=>∃a xs,v=.ref a/\bh K H a xs/\xs.length=n/\t xs σ H Q
theorem abP(hc:X.calm=true)(h:oh X es t)
  (hn:(assignEach es X.env).length=n:=by rfl) (hst:(assignEach es X.env).findIdx? (·.1)=none:=by rfl):PG X (.Tuple es k pos) (abO X.K n t):=by
 intro pins s σ H v u Q I r hw
 obtain⟨a,xs,e1,hq,hl,hw⟩:=hw
 subst e1
 cases r
 obtain⟨its,rv,ht,hz⟩:=I.tuple hq
 refine assign_Tuple_tuple (I.ok.hd hc) ht (by simp[hn,<-hl,rv.length]) hst λh' hx=>?_
 have I1:Inv X pins σ H {s with heap:=h' }:=I.kept (t':=s.toks) λb o e=>hx b o (Nat.ne_of_lt (Heap.lt_size e)) e
 exact h pins _ σ H xs _ Q I1 (by simpa using rv) hw
def abQ(to ti:TE)(t:yu):TG:=λv σ H Q=>to σ H λo H1=>ti σ H1 λi H2=>t o i v H2 λH3=>Q σ H3
theorem abR{o i:Expr}{to ti:TE}{t:yu}(ho:PE X o to)(hi:PE X i ti)(hs:DN X t)
  (ha:∀v,assign (.Subscript o i pos) X.env v=(do
   let ov <-holding [v] (eval o X.env)
   let iv <-holding [v,ov] (eval i X.env)
   standAt pos
   holding [v,ov,iv] (setItem ov iv v)
   release [v,ov,iv] []):=by intro _; rfl):PG X (.Subscript o i pos) (abQ to ti t):=by
 intro pins s σ H v u Q I r h
 rw[ha]
 refine wpAny_bind (wpAny_holding (aC (ho pins s σ H _ I h) λov s1 ⟨x,H1,I1,r1,q1⟩=>?_))
 refine wpAny_bind (wpAny_holding (aC (hi pins s1 σ H1 _ I1 q1) λiv s2 ⟨y,H2,I2,r2,q2⟩=>?_))
 refine wpAny_bind (wpAny_standAt (wpAny_bind (wpAny_holding (aC (hs pins s2 σ H2 x y v ov iv u _ I2 r1 r2 r q2) λ_ s3 ⟨H3,I3,q3⟩=>?_))))
 exact wpAny_release ⟨σ,H3,I3,q3⟩
def kZ(te:TE)(g:TG):TS:=λD σ H=>te σ H λx H1=>g x σ H1 D.nx
theorem Ph{tg e:Expr}{te:TE}{g:TG}(he:PE X e te)(hg:PG X tg g)(hs:swapsWithSole [tg] e pos.line X.env=pure false:=by rfl)(hw:swappedStores [tg] e X.env=pure none:=by rfl)
  (h1:(assignEach [tg] X.env).map (·.2)=[assign tg X.env]:=by rfl):PS X (.Assign [tg] e pos) (kZ te g):=by
 refine⟨λpins s σ H D I h=>?_⟩
 refine wpAny_Assign_stores (aC (he pins s σ H _ I h) λv s1 ⟨x,H1,I1,r1,q1⟩=>?_) hs hw
 rw[h1]
 exact aC (hg pins s1 σ H1 x v _ I1 r1 q1) λ_ s2 q=>q
theorem DQ{i:Nat}{x:Str}{e:Expr}{te:TE}{pos':Pos}(hN:X.N.Nodup)(hi:X.N[i]?=some x)(hx:Loc X.env.scope x)(he:PE X e te)(hs:swapsWith e (some (.Name x pos')) pos.line X.env=pure false:=by rfl)(hf:X.fn x=true\/X.env.scope.names.lookup x=some .local:=by first|exact .inl rfl|exact .inr rfl|assumption) :
  PS X (.Assign [.Name x pos'] e pos) (kZ te (kY i)):=by
 refine⟨λpins s σ H D I h=>?_⟩
 refine wpAny_Assign_Name (aC (he pins s σ H _ I h) λv s1 ⟨y,H1,I1,r1,q1⟩=>?_) hs
 exact uP I1 hN hi hx r1 (λs2 I2=>⟨_,H1,I2,q1⟩) hf
def abS(i j:Nat)(ta:TA):TS:=λD σ H=>ta σ H λvs H1=>∃v w,vs=[v,w]/\D.nx ((σ.set i (some v)).set j (some w)) H1
theorem abT{kt k2 DW}(hc:X.calm=true)(hN:X.N.Nodup)(hi:X.N[i]?=some x)(hj:X.N[j]?=some y)(hij:i≠j)
  (hx:X.env.scope.names.lookup x=some .local) (hy:X.env.scope.names.lookup y=some .local) (ha:PA X [a,b] ta)
  (hw:swappedStores [.Tuple [.Name x px,.Name y py] kt pt] (.Tuple [a,b] k2 DW) X.env=pure (some [x,y]))
  (hs:swapsWithSole [.Tuple [.Name x px,.Name y py] kt pt] (.Tuple [a,b] k2 DW) pos.line X.env=pure false:=by rfl) :
  PS X (.Assign [.Tuple [.Name x px,.Name y py] kt pt] (.Tuple [a,b] k2 DW) pos) (abS i j ta):=by
 refine⟨λpins s σ H D I h=>?_⟩
 rw[exec_Assign_arm]
 refine wpAny_bind (wpAny_standAt ?_)
 rw[hs]
 refine wpAny_bind (wpAny_pure ?_)
 rw[if_neg (by decide)]
 refine wpAny_bind (Tuple_ (aC (ha _ pins s σ H _ I h) λus s1 ⟨vs,H1,I1,r1,q1⟩=>?_))
 obtain⟨v,w,e1,q1⟩:=q1
 subst e1
 obtain⟨u1,u2,rfl,rv,lX⟩:∃u1 u2,us=[u1,u2]/\RelV v u1/\RelV w u2:=by
  cases r1 with
  |cons p q =>
   cases q with
   |cons p' q' =>
    cases q'
    exact⟨_,_,rfl,p,p'⟩
 refine wpAny_newObj_type ?_ (by show 2<=sizeLine; decide)
 have I2:Inv X pins σ H1 {s1 with heap:=s1.heap.push {cls:=.type "tuple",data:=.seq [u1,u2].toArray } }:=I1.kept (t':=s1.toks) λb o e=>Heap.get?_push_of_some _ e
 rw[hw]
 refine wpAny_bind (wpAny_pure ?_)
 show wpAny (model X.prog X.w) X.A (do rule "assign.swapped-stores"; let items <-unpackItems (.ref s1.heap.objs.size) 2 none; assignInOrder [λv=>bindName X.env y v,λv=>bindName X.env x v] items.reverse; pure Flow.next) _ _ _
 refine wpAny_bind (wpAny_rule (wpAny_bind (unpackItems_tuple (items:=#[u1,u2]) (I.ok.hd hc) (IsTup.new s1.heap _) λh' hx'=>?_)))
 have I3:=I2.kept (h':=h') (t':=s1.toks) λb o e=>hx' b o (Nat.ne_of_lt (Heap.lt_size e)) e
 show wpAny _ _ (assignInOrder [λv=>bindName X.env y v,λv=>bindName X.env x v] [u2,u1] >>= λ_=>pure Flow.next) _ _ _
 refine wpAny_bind (assignInOrder_cons (wpAny_bindName (uP I3 hN hj (.inl hy) lX (λs2 I4=>?_) (.inr hy))))
 refine assignInOrder_cons (wpAny_bindName (uP I4 hN hi (.inl hx) rv (λs3 I5=>assignInOrder_nil (wpAny_pure ?_)) (.inr hx)))
 rw[List.set_comm _ _ (Ne.symm hij)]at I5
 exact⟨_,H1,I5,q1⟩
def abU(i:Nat)(te:TE)(ti:yw):TS:=λD σ H=>∃x,σ[i]?=some (some x)/\te σ H λy H1=>ti x y H1 λz H2=>D.nx (σ.set i (some z)) H2
theorem abV(hN:X.N.Nodup)(hi:X.N[i]?=some x)(hx:Loc X.env.scope x)(he:PE X e te)(ho:DP X op ti)(hf:X.fn x=true\/X.env.scope.names.lookup x=some .local:=by first|exact .inl rfl|exact .inr rfl|assumption) :
  PS X (.AugAssign (.Name x pos') op e pos) (abU i te ti):=by
 refine⟨λpins s σ H D I h=>?_⟩
 obtain⟨v,e1,h⟩:=h
 obtain⟨m,hn,hl⟩:=I.loc
 have vis:uL X.env.scope x:=by rcases hx with k|k; exact .inl k; exact .inr (.inl k)
 obtain⟨u,r,l⟩:=hl i x v hi e1 vis
 refine wpAny_AugAssign_Name ?_
 have go:wpAny (model X.prog X.w) X.A (eval e X.env) (λw s₂=>wpAny (model X.prog X.w) X.A (inplaceOp op u w) (λr s₃=>wpAny (model X.prog X.w) X.A (storeName X.env x r) (λ_=>SP X pins D .next) X.xe s₃) X.xe s₂) X.xe s:=by
  refine aC (he pins s σ H _ I h) λw s1 ⟨y,H1,I1,r1,q1⟩=>?_
  refine aC (ho pins s1 σ H1 v y u w _ I1 r r1 q1) λz s2 ⟨zv,H2,I2,r2,q2⟩=>?_
  exact uP I2 hN hi hx r2 (λs3 I3=>⟨_,H2,I3,q2⟩) hf
 rcases l with⟨hk,hm⟩|⟨hk,c,hc,hcell⟩
 .exact wpAny_loadName_local I.ok.kind hk hn hm go
 .rcases hk with hk|hk
  .exact wpAny_loadName_cell I.ok.kind hk hc hcell go
  .rcases hx with k|k
   .have:X.env.scope.names.lookup x=some .free:=hk
    rw[k]at this; cases this
   .have:X.env.scope.names.lookup x=some .free:=hk
    rw[k]at this; cases this
def abW(to ti te:TE)(DX:V->V->Hp->VK->Prop)(DY:yw)(Ea:yu):TS:=λD σ H=>to σ H λo H1=>ti σ H1 λi H2=>DX o i H2 λx H3=>te σ H3 λy H4=>DY x y H4 λz H5=>Ea o i z H5 λH6=>D.nx σ H6
def Pk(X:Cx)(t:V->V->Hp->VK->Prop):Prop :=
 ∀(pins:LO) (s:Shared) (σ : St) (H:Hp) (o i:V) (ov iv:Value) (Q:VK),Inv X pins σ H s->RelV o ov->RelV i iv->t o i H Q ->
  wpAny (model X.prog X.w) X.A (getItem ov iv) (EP X pins σ Q) X.xe s
theorem abX(ho:PE X o to)(hi:PE X i ti)(hg:Pk X DX)(he:PE X e te)(hp:DP X op DY)(hs:DN X Ea)
  (ha:∀ov iv new,augStore i ov iv new=(do holding [new,ov,iv] (setItem ov iv new); release [new,ov,iv] []; pure .next):=by intros; rfl):PS X (.AugAssign (.Subscript o i tpos) op e pos) (abW to ti te DX DY Ea):=by
 refine⟨λpins s σ H D I h=>?_⟩
 refine wpAny_AugAssign_SubscriptAny (aC (ho pins s σ H _ I h) λov s1 ⟨x1,H1,I1,r1,q1⟩=>?_) ha
 refine aC (hi pins s1 σ H1 _ I1 q1) λiv s2 ⟨x2,H2,I2,r2,q2⟩=>?_
 refine aC (hg pins s2 σ H2 x1 x2 ov iv _ I2 r1 r2 q2) λold s3 ⟨x3,H3,I3,r3,q3⟩=>?_
 refine aC (he pins s3 σ H3 _ I3 q3) λv s4 ⟨x4,H4,I4,r4,q4⟩=>?_
 refine aC (hp pins s4 σ H4 x3 x4 old v _ I4 r3 r4 q4) λnew s5 ⟨x5,H5,I5,r5,q5⟩=>?_
 exact aC (hs pins s5 σ H5 x1 x2 x5 ov iv new _ I5 r1 r2 r5 q5) λ_ s6 ⟨H6,I6,q6⟩=>⟨σ,H6,I6,q6⟩
def ipI(f:Int->Int->Int):yw:=λx y H Q=>∃i j,x=.int i/\y=.int j/\Q (.int (f i j)) H
theorem Pn:DP X .Add (ipI λi j=>i+j):=by
 intro pins s σ H x y v u Q I r1 r2 h
 obtain⟨i,j,e1,e2,q⟩:=h
 subst e1; subst e2
 obtain⟨t,rfl⟩:=r1
 obtain⟨t',rfl⟩:=r2
 exact iadd_int ⟨.int _,H,I.tok _,⟨_,rfl⟩,q⟩
end
section
variable {X:Cx}{pos:Pos}
def abY(c:TT)(tb:TS):TS:=λD σ H=>∃W:Nat->St->Hp->Prop,(∃m,W m σ H)/\∀m σ H,W m σ H ->
 c σ H λb H1=>if b=true then ∃N:St->Hp->Prop,(∀σ' H',N σ' H'->∃m',m'<m/\W m' σ' H')/\tb {D with nx:=N,ct:=N,bk:=D.nx } σ H1 else D.nx σ H1
theorem abZ(hp:PassesOwn (model X.prog X.w) X.A X.env X.xe)(hc:PT X c tc)(hb:eO X body tb):PS X (.While c body [] pos) (abY tc tb):=by
 refine⟨λpins s σ H D I h=>?_⟩
 obtain⟨W,⟨m0,w0⟩,turn⟩:=h
 refine wpAny_While (codeAny_whileLoop (λn s'=>∃σ' H',Inv X pins σ' H' s'/\W n σ' H') ?_ m0 ⟨σ,H,I,w0⟩)
 rintro n s1 ⟨σ1,H1,I1,w1⟩
 refine wpAny_passesOwn hp (aC (hc pins s1 σ1 H1 _ I1 (turn n σ1 H1 w1)) λb s2 ⟨H2,I2,q2⟩=>?_)
 cases b with
 |true =>
  obtain⟨N,hN,q2⟩:=q2
  rw[if_pos rfl]
  refine wpAny_passesOwn hp (aC (hb pins s2 σ1 H2 _ I2 q2) λf s3 q3=>?_)
  cases f with
  |next =>
   obtain⟨σ3,H3,I3,n3⟩:=q3
   obtain⟨m',hm,w3⟩:=hN σ3 H3 n3
   exact⟨m',hm,σ3,H3,I3,w3⟩
  |cont =>
   obtain⟨σ3,H3,I3,n3⟩:=q3
   obtain⟨m',hm,w3⟩:=hN σ3 H3 n3
   exact⟨m',hm,σ3,H3,I3,w3⟩
  |brk=>exact q3
  |ret v=>exact q3
 |false =>
  rw[if_neg Bool.false_ne_true]
  exact wpAny_execs_nil ⟨σ1,H2,I2,q2⟩
end
structure It where
 go:Nat->Hp->Prop
 jU:Nat->Hp->V->Hp->Prop
 stop:Nat->Hp->Prop
def bD(X:Cx)(pins:LO)(H:Hp)(b:Addr):Prop :=
 H b=none/\b≠X.env.locals/\b∉X.fs/\(b∈X.ex\/X.s₀.heap.objs.size<=b)/\(∀x c,X.env.cells.lookup x=some c->c≠b)/\∀p∈X.pn++pins,p.1≠b
theorem Inv.jg(I:Inv X pins σ H s)(hb:s.heap.objs.size<=b)(hn:H' b=none):bD X pins H' b:=by
 refine⟨hn,Nat.ne_of_gt (Nat.lt_of_lt_of_le I.lt hb),I.abn hb,.inr (Nat.le_trans I.sz hb),λx c e z=>?_,λp hp z=>?_⟩
 .obtain⟨v,q⟩:=I.cell x c e
  exact absurd (Nat.lt_of_lt_of_le q.lt (by rw[z]; exact hb)) (Nat.lt_irrefl _)
 .exact absurd (Nat.lt_of_lt_of_le (Heap.lt_size (I.pin p hp).1) (by rw[z]; exact hb)) (Nat.lt_irrefl _)
structure Turn(P:Program)(w:World)(K:FZ)(tg:Expr)(J:It)(fp:List Addr)(it:Addr)(tn:Nat->Heap->Prop):Prop where
 mem:it∈fp
 obj:∀i h,tn i h->∀b∈fp,∃o,h.get? b=some o/\∀v,o.data ≠ .cell v
 keep:∀i h h',tn i h->(∀b∈fp,∀o,h.get? b=some o->h'.get? b=some o)->tn i h'
 item:∀(X:Cx),X.prog=P->X.w=w->X.K=K->X.calm=true->∀(i:Nat) (pins:LO) (s:Shared) (σ : St) (H:Hp) (E:Value->Shared->Prop),Inv X pins σ H s->(∀b∈fp,bD X pins H b)->tn i s.heap->J.go i H ->
  wpAny (model P w) X.A (pyNext (.ref it)) (λr s1=>∃u,r=some u /\
   wpAny (model P w) X.A (letOwnedTupleGo tg (.ref it) u) (λ_ s2=>∃x H',Inv X pins σ H' s2/\RelV x u/\J.jU i H x H'/\tn (i+1) s2.heap/\∀b∈fp,H' b=none) E s1) E s
 done:∀(X:Cx),X.prog=P->X.w=w->X.K=K->X.calm=true->∀(i:Nat) (pins:LO) (s:Shared) (σ : St) (H:Hp) (E:Value->Shared->Prop),Inv X pins σ H s->(∀b∈fp,bD X pins H b)->tn i s.heap->J.stop i H ->
  wpAny (model P w) X.A (pyNext (.ref it)) (λr s1=>r=none/\Inv X pins σ H s1) E s
 self:∀(A:Around) (i:Nat) (s:Shared) (Q:Value->Shared->Prop) (E:Value->Shared->Prop),tn i s.heap->Q (.ref it) s->wpAny (model P w) A (pyIter (.ref it)) Q E s
abbrev TI:=St->Hp->(It->Hp->Prop)->Prop
def PIE(X:Cx)(pins:LO)(σ : St)(tg:Expr)(R:It->Hp->Prop)(itv:Value)(s2:Shared):Prop :=
 ∃(it:Addr) (fp:List Addr) (tn:Nat->Heap->Prop) (J:It) (H':Hp),itv=.ref it/\Inv X pins σ H' s2/\Turn X.prog X.w X.K tg J fp it tn/\tn 0 s2.heap/\(∀b∈fp,bD X pins H' b)/\R J H'
def PI(X:Cx)(tg iter:Expr)(wi:TI):Prop :=
 ∀(pins:LO) (s:Shared) (σ : St) (H:Hp) (R:It->Hp->Prop),Inv X pins σ H s->wi σ H R ->
  wpAny (model X.prog X.w) X.A (eval iter X.env) (λv s1=>wpAny (model X.prog X.w) X.A (pyIter v) (PIE X pins σ tg R) X.xe s1) X.xe s
theorem Eb(ho:s.heap.get? it=some o)(hc:o.cls=.type n)(hd:o.data=.fields vs)
    (hn : ["enumerate", "zip", "dict_itemiterator", "dict_reverseitemiterator", "odict_iterator", "itertools.zip_longest", "itertools.pairwise"].contains n=false) (hQ:Q () s):wpAny M A (letOwnedTupleGo tg (.ref it) u) Q E s:=by
  unfold letOwnedTupleGo
  cases tg <;> first
    |exact wpAny_pure hQ
    | (cases u <;> first
        |exact wpAny_pure hQ
        | (refine wpAny_bind (wpAny_load ho ?_)
           rw[hc,hd]
           show wpAny M A (if(["enumerate", "zip", "dict_itemiterator", "dict_reverseitemiterator", "odict_iterator", "itertools.zip_longest", "itertools.pairwise"].contains n&&vs[0]? == some (rawInt _))=true then _ else _) Q E s
           rw[if_neg (by intro h; rw[hn,Bool.false_and]at h; cases h)]
           exact wpAny_pure hQ))
noncomputable def Ec(K:FZ)(a:Addr):It :=
 ⟨λi H=>∃xs x,aF K H a xs/\xs[i]?=some x,λi H x H'=>H'=H/\∀xs,aF K H a xs->xs[i]?=some x,λi H=>∃xs,aF K H a xs/\xs.length<=i⟩
noncomputable def Ed(K:FZ)(a:Addr):It :=
 ⟨λi H=>∃xs x,bh K H a xs/\xs[i]?=some x,λi H x H'=>H'=H/\∀xs,bh K H a xs->xs[i]?=some x,λi H=>∃xs,bh K H a xs/\xs.length<=i⟩
noncomputable def yx(lo:Int)(n:Nat):It:=⟨λi _=>i<n,λi H x H'=>H'=H/\x=.int (lo+i),λi _=>n<=i⟩
theorem ab0{P:Program}{w:World}{K:FZ}{tg:Expr}(a it:Addr):Turn P w K tg (Ec K a) [it] it (λi h=>h.IsListIter it a i) where
 mem:=by simp
 obj:=λi h st b hb=>by
  have e:b=it:=by simpa using hb
  subst e
  obtain⟨o,e,c,d⟩:=st
  exact⟨o,e,λv z=>by rw[d]at z; cases z⟩
 keep:=λi h h' st k=>st.at λo e=>k it (by simp) o e
 item:=by
  intro X hP hw hK hc i pins s σ H E I hf st hg
  subst hP hw hK
  obtain⟨xs,x,hq,hx⟩:=hg
  obtain⟨its,rv,p,hz⟩:=I.list hq
  obtain⟨u,hu,ru⟩:=rv.get hx
  obtain⟨f0,f1,f2,f3,f4,f5⟩:=hf it (by simp)
  refine wpAny_pyNext_list_item st p.isList (x:=u) (by simpa using hu) λh' st' sb=>?_
  have I1:Inv X pins σ H {s with heap:=h' }:=I.turned (t':=s.toks) (λb o hb e=>(sb.2 b hb).trans e) f0 f1 f3 f4 f5
  obtain⟨o,e,c,d⟩:=id st'
  exact⟨u,rfl,Eb (s:={s with heap:=h' }) e c d (by decide) ⟨x,H,I1,ru,⟨rfl,λys hy=>by rw[I.nZ hy hq]; exact hx⟩,st',λb hb=>(hf b hb).1⟩⟩
 done:=by
  intro X hP hw hK hc i pins s σ H E I hf st hg
  subst hP hw hK
  obtain⟨xs,hq,hx⟩:=hg
  obtain⟨its,rv,p,hz⟩:=I.list hq
  obtain⟨f0,f1,f2,f3,f4,f5⟩:=hf it (by simp)
  have hl:=rv.length
  exact wpAny_pyNext_list_end (I.ok.hd hc) st p.isList (by simp; lia) λh' eb=>⟨rfl,I.turned (t':=s.toks) (λb o hb e=>eb b o hb e) f0 f1 f3 f4 f5⟩
 self:=λ_ _ _ _ _ st h=>wpAny_pyIter_listiter st h
theorem ab1{P:Program}{w:World}{K:FZ}{tg:Expr}(a it:Addr):Turn P w K tg (Ed K a) [it] it (λi h=>h.IsTupleIter it a i) where
 mem:=by simp
 obj:=λi h st b hb=>by
  have e:b=it:=by simpa using hb
  subst e
  obtain⟨o,e,c,d⟩:=st
  exact⟨o,e,λv z=>by rw[d]at z; cases z⟩
 keep:=λi h h' st k=>st.at λo e=>k it (by simp) o e
 item:=by
  intro X hP hw hK hc i pins s σ H E I hf st hg
  subst hP hw hK
  obtain⟨xs,x,hq,hx⟩:=hg
  obtain⟨its,rv,p,hz⟩:=I.tuple hq
  obtain⟨u,hu,ru⟩:=rv.get hx
  obtain⟨f0,f1,f2,f3,f4,f5⟩:=hf it (by simp)
  refine wpAny_pyNext_tuple_item st (show s.heap.IsTuple a its.toArray from p) (x:=u) (by simpa using hu) λh' st' sb=>?_
  have I1:Inv X pins σ H {s with heap:=h' }:=I.turned (t':=s.toks) (λb o hb e=>(sb.2 b hb).trans e) f0 f1 f3 f4 f5
  obtain⟨o,e,c,d⟩:=id st'
  exact⟨u,rfl,Eb (s:={s with heap:=h' }) e c d (by decide) ⟨x,H,I1,ru,⟨rfl,λys hy=>by rw[I.O8 hy hq]; exact hx⟩,st',λb hb=>(hf b hb).1⟩⟩
 done:=by
  intro X hP hw hK hc i pins s σ H E I hf st hg
  subst hP hw hK
  obtain⟨xs,hq,hx⟩:=hg
  obtain⟨its,rv,p,hz⟩:=I.tuple hq
  obtain⟨f0,f1,f2,f3,f4,f5⟩:=hf it (by simp)
  have hl:=rv.length
  exact wpAny_pyNext_tuple_end (I.ok.hd hc) st (show s.heap.IsTuple a its.toArray from p) (by simp; lia) λh' eb=>⟨rfl,I.turned (t':=s.toks) (λb o hb e=>eb b o hb e) f0 f1 f3 f4 f5⟩
 self:=λ_ _ _ _ _ st h=>wpAny_pyIter_tupleiter st h
theorem ab2{P:Program}{w:World}{K:FZ}{tg:Expr}(it:Addr)(lo:Int)(n:Nat):Turn P w K tg (yx lo n) [it] it (λi h=>IsRangeIter h it (lo+(i:Nat)*1) ((n:Int)-(i:Nat)) 1) where
 mem:=by simp
 obj:=λi h st b hb=>by
  have e:b=it:=by simpa using hb
  subst e
  exact⟨_,st,λv z=>by
   have z':Data.fields _=Data.cell v:=z
   cases z'⟩
 keep:=λi h h' st k=>k it (by simp) _ st
 item:=by
  intro X hP hw hK hc i pins s σ H E I hf st hg
  subst hP hw hK
  obtain⟨f0,f1,f2,f3,f4,f5⟩:=hf it (by simp)
  have W:=Walks.range (prog:=X.prog) (w:=X.w) (I.ok.hd hc) it lo 1 n
  refine W.item i s _ _ hg st λv h' tk hv st' kk=>?_
  obtain⟨t,rfl⟩:=hv
  have I1:Inv X pins σ H {s with heap:=h',toks:=tk }:=I.turned (λb o hb e=>kk b o (by simpa using hb) e) f0 f1 f3 f4 f5
  refine⟨_,rfl,Eb (s:={s with heap:=h',toks:=tk }) (n := "range_iterator") st' rfl rfl (by decide) ⟨.int (lo+i),H,I1,⟨t,?_⟩,⟨rfl,rfl⟩,st',λb hb=>(hf b hb).1⟩⟩
  rw[Int.mul_one]
 done:=by
  intro X hP hw hK hc i pins s σ H E I hf st hg
  subst hP hw hK
  obtain⟨f0,f1,f2,f3,f4,f5⟩:=hf it (by simp)
  exact wpAny_pyNext_range_end (I.ok.hd hc) st (by have:n<=i:=hg; lia) λh' eb=>⟨rfl,I.turned (t':=s.toks) (λb o hb e=>eb b o hb e) f0 f1 f3 f4 f5⟩
 self:=λ_ _ _ _ _ st h=>wpAny_pyIter_rangeiter st h
section
variable {X:Cx}{tg:Expr}
def Pq(K:FZ)(tl:TE):TI:=λσ H R=>tl σ H λx H1=>∃a,x=.ref a/\(∃xs,aF K H1 a xs)/\R (Ec K a) H1
def Pu(K:FZ)(tl:TE):TI:=λσ H R=>tl σ H λx H1=>∃a,x=.ref a/\(∃xs,bh K H1 a xs)/\R (Ed K a) H1
theorem ab3{l:Expr}{tl:TE}(hl:PE X l tl):PI X tg l (Pq X.K tl):=by
 intro pins s σ H R I h
 refine aC (hl pins s σ H _ I h) λv s1 ⟨x,H1,I1,r1,q1⟩=>?_
 obtain⟨a,e,⟨xs,hq⟩,q⟩:=q1
 subst e
 cases r1
 obtain⟨its,rv,p,hz⟩:=I1.list hq
 refine wpAny_pyIter_list p.isList ?_
 refine⟨s1.heap.objs.size,[s1.heap.objs.size],_,_,H1,rfl,I1.kept (t':=s1.toks) λb o e=>Heap.get?_push_of_some _ e,ab0 a _,⟨_,Heap.get?_push_size _ rfl,rfl,rfl⟩,λb hb=>?_,q⟩
 have e:b=s1.heap.objs.size:=by simpa using hb
 subst e
 exact I1.jg (Nat.le_refl _) (I1.hok.fresh (Nat.le_refl _))
theorem ab4{l:Expr}{tl:TE}(hl:PE X l tl):PI X tg l (Pu X.K tl):=by
 intro pins s σ H R I h
 refine aC (hl pins s σ H _ I h) λv s1 ⟨x,H1,I1,r1,q1⟩=>?_
 obtain⟨a,e,⟨xs,hq⟩,q⟩:=q1
 subst e
 cases r1
 obtain⟨its,rv,p,hz⟩:=I1.tuple hq
 refine wpAny_pyIter_tuple (show s1.heap.IsTuple a its.toArray from p) ?_
 refine⟨s1.heap.objs.size,[s1.heap.objs.size],_,_,H1,rfl,I1.kept (t':=s1.toks) λb o e=>Heap.get?_push_of_some _ e,ab1 a _,⟨_,Heap.get?_push_size _ rfl,rfl,rfl⟩,λb hb=>?_,q⟩
 have e:b=s1.heap.objs.size:=by simpa using hb
 subst e
 exact I1.jg (Nat.le_refl _) (I1.hok.fresh (Nat.le_refl _))
theorem ab5{pins:LO}{σ : St}{H:Hp}{s:Shared}{R:It->Hp->Prop}{E:Value->Shared->Prop}{lo hi:Int}{t u v:Tok}{tk:Nat}(I:Inv X pins σ H s)(h1 : -(2 ^ 62)<=lo)(h2:lo<2 ^ 62)(h3 : -(2 ^ 62)<=hi)(h4:hi<2 ^ 62)
  (q:R (yx lo (hi-lo).toNat) H):wpAny (model X.prog X.w) X.A (pyIter (.ref s.heap.objs.size)) (PIE X pins σ tg R) E {s with heap:=s.heap.push {cls:=.type "range",data:=.fields #[.int lo t,.int hi u,.int 1 v] },toks:=tk }:=by
 refine wpAny_pyIter_range (IsRange.new ..) (small_one h1 h2 h3 h4) ?_
 have I1:Inv X pins σ H {s with heap:=s.heap.push {cls:=.type "range",data:=.fields #[.int lo t,.int hi u,.int 1 v] },toks:=tk }:=I.kept λb o e=>Heap.get?_push_of_some _ e
 refine⟨(s.heap.push {cls:=.type "range",data:=.fields #[.int lo t,.int hi u,.int 1 v] }).objs.size,[(s.heap.push {cls:=.type "range",data:=.fields #[.int lo t,.int hi u,.int 1 v] }).objs.size],_,_,H,rfl,
  I1.kept (t':=tk) λb o e=>Heap.get?_push_of_some _ e,ab2 _ lo (hi-lo).toNat,?_,λb hb=>?_,q⟩
 .have e1:lo+((0:Nat):Int)*1=lo:=by simp
  have e2:(((hi-lo).toNat:Nat):Int)-((0:Nat):Int)=Builtin.Range.rangeSize lo hi 1:=by rw[rangeSize_one]; split <;> lia
  show IsRangeIter _ _ (lo+((0:Nat):Int)*1) ((((hi-lo).toNat:Nat):Int)-((0:Nat):Int)) 1
  rw[e1,e2]
  exact Heap.get?_push_size _ rfl
 .have e:b=(s.heap.push {cls:=.type "range",data:=.fields #[.int lo t,.int hi u,.int 1 v] }).objs.size:=by simpa using hb
  subst e
  exact I1.jg (Nat.le_refl _) (I1.hok.fresh (Nat.le_refl _))
def ab6(ta:TA):TI:=λσ H R=>ta σ H λvs H1=>∃j:Int,vs=[.int j] /\ -(2 ^ 62)<=j/\j<2 ^ 62/\R (yx 0 j.toNat) H1
theorem ab7{a:Expr}{ta:TA}{p pos:Pos}(hg:Gl X "range") (hm:X.mg "range" = none) (ha:PA X [a] ta) (hs:starEach [a] X.env=[(false,eval a X.env)]:=by rfl):PI X tg (.Call (.Name "range" p) [a] [] pos) (ab6 ta):=by
 intro pins s σ H R I h
 refine Call_ (jT I hg hm boot_range (PyProof.Rows.callWith_type1 (aC (ha pos pins s σ H _ I h) λus s1 ⟨vs,H1,I1,r1,q1⟩=>?_) hs rfl))
 obtain⟨j,e,q1,q2,q⟩:=q1
 subst e
 cases r1 with
 |cons r rr =>
  cases rr
  obtain⟨t,rfl⟩:=r
  exact call_range_1 (ab5 I1 (by lia) (by lia) q1 q2 (by simpa using q))
def ab8(wi:TI)(g:TG)(tb:TS):TS:=λD σ H=>wi σ H λJ H1=>∃W:Nat->Nat->St->Hp->Prop,(∃m,W 0 m σ H1)/\∀i m σ H,W i m σ H ->
 (J.stop i H/\D.nx σ H)\/(J.go i H/\∃N:St->Hp->Prop,(∀σ' H',N σ' H'->∃m',m'<m/\W (i+1) m' σ' H')/\∀x H',J.jU i H x H'->g x σ H' λσ2 H2=>tb {D with nx:=N,ct:=N,bk:=D.nx } σ2 H2)
noncomputable def yC(fp:List Addr)(h:Heap):LO:=fp.filterMap λb=>(h.get? b).map λo=>(b,o)
theorem lg(hb:b∈fp)(e:h.get? b=some o):(b,o)∈yC fp h:=List.mem_filterMap.mpr ⟨b,hb,by rw[e]; rfl⟩
theorem ab9(hp:p∈yC fp h):p.1∈fp/\h.get? p.1=some p.2:=by
 obtain⟨b,hb,e⟩:=List.mem_filterMap.mp hp
 cases q:h.get? b with
 |none=>rw[q]at e; cases e
 |some o =>
  rw[q]at e
  have e':(b,o)=p:=Option.some.inj e
  subst e'
  exact⟨hb,q⟩
theorem Inv.pinned(I:Inv X pins σ H s)(hf:∀b∈fp,bD X pins H b)(ho:∀b∈fp,∃o,s.heap.get? b=some o/\∀v,o.data ≠ .cell v):Inv X (pins++yC fp s.heap) σ H s :=
 I.yq λp hp=>(List.mem_append.mp hp).elim (λz=>I.pin p (List.mem_append_right _ z)) λz=>by
  obtain⟨hb,e⟩:=ab9 z
  obtain⟨f0,f1,f2,_⟩:=hf p.1 hb
  obtain⟨o,e',d⟩:=ho p.1 hb
  rw[e]at e'; cases e'
  exact⟨e,f0,f1,f2,d⟩
theorem Inv.qd(I:Inv X (pins++pl) σ H s):Inv X pins σ H s:=I.yq λp hp=>I.pin p (List.mem_append_right _ (List.mem_append_left _ hp))
theorem acd(hp:PassesOwn (model X.prog X.w) X.A X.env X.xe)(hc:X.calm=true)(hi:PI X tg iter wi)(hg:PG X tg g)(hb:eO X body tb)
  (hs:∀x,foldedSetIterable iter X.env x=pure x:=by intro _; rfl):PS X (.For tg iter body [] pos) (ab8 wi g tb):=by
 refine⟨λpins s σ H D I h=>?_⟩
 refine wpAny_For (aC (hi pins s σ H _ I h) λv s1 h1=>aC h1 λitv s2 h2=>?_) hs
 obtain⟨it,fp,tn,J,H2,e,I2,T,st2,f2,W,⟨m0,w0⟩,turn⟩:=h2
 subst e
 -- what stays true of the iterator's objects through the loop
 have stat:∀{H':Hp},(∀b∈fp,H' b=none)->∀b∈fp,bD X pins H' b:=λhn b hb=>⟨hn b hb,(f2 b hb).2⟩
 refine codeAny_forLoop_any (λn s'=>∃i σ' H',Inv X pins σ' H' s'/\tn i s'.heap/\(∀b∈fp,H' b=none)/\W i n σ' H') ?_ m0 ⟨0,σ,H2,I2,st2,λb hb=>(f2 b hb).1,w0⟩
 rintro n s3 ⟨i,σ3,H3,I3,st3,Px,w3⟩
 rcases turn i n σ3 H3 w3 with⟨stop,qn⟩|⟨go,N,hN,step⟩
 .refine wpAny_passesOwn hp (aC (T.done X rfl rfl rfl hc i pins s3 σ3 H3 X.xe I3 (stat Px) st3 stop) λr s4 ⟨hr,I4⟩=>?_)
  subst hr
  exact wpAny_execs_nil ⟨σ3,H3,I4,qn⟩
 .refine wpAny_passesOwn hp (aC (T.item X rfl rfl rfl hc i pins s3 σ3 H3 X.xe I3 (stat Px) st3 go) λr s4 ⟨u,hr,h4⟩=>?_)
  subst hr
  refine wpAny_passesOwn hp (aC h4 λ_ s5 ⟨x,H5,I5,r5,y5,iB,lq⟩=>?_)
  have I5':=I5.pinned (stat lq) (T.obj _ _ iB)
  refine wpAny_passesOwn hp (aC (hg _ s5 σ3 H5 x u _ I5' r5 (step x H5 y5)) λ_ s6 ⟨σ6,H6,I6,q6⟩=>?_)
  refine wpAny_passesOwn hp (aC (hb _ s6 σ6 H6 _ I6 q6) λf s7 q7=>?_)
  have again:∀{σ7:St} {H7:Hp},Inv X (pins++yC fp s5.heap) σ7 H7 s7->N σ7 H7->∃m,m<n/\∃i σ' H',Inv X pins σ' H' s7/\tn i s7.heap/\(∀b∈fp,H' b=none)/\W i m σ' H':=λ{σ7 H7} I7 n7=>by
   obtain⟨m',hm,w7⟩:=hN σ7 H7 n7
   refine⟨m',hm,i+1,σ7,H7,I7.qd,T.keep _ _ _ iB λb hb o e=>(I7.pin (b,o) (List.mem_append_right _ (List.mem_append_right _ (lg hb e)))).1,λb hb=>?_,w7⟩
   obtain⟨o,e,d⟩:=T.obj _ _ iB b hb
   exact(I7.pin (b,o) (List.mem_append_right _ (List.mem_append_right _ (lg hb e)))).2.1
  cases f with
  |next=>obtain⟨σ7,H7,I7,n7⟩:=q7; exact again I7 n7
  |cont=>obtain⟨σ7,H7,I7,n7⟩:=q7; exact again I7 n7
  |brk=>obtain⟨σ7,H7,I7,q7⟩:=q7; exact⟨σ7,H7,I7.qd,q7⟩
  |ret v=>obtain⟨x7,σ7,H7,I7,r7,q7⟩:=q7; exact⟨x7,σ7,H7,I7.qd,r7,q7⟩
end
abbrev R2:=V->V->Hp->VK->Prop
def aY(X:Cx)(f:Value->Value->Sem Value)(r:R2):Prop :=
 ∀(pins:LO) (s:Shared) (σ : St) (H:Hp) (x y:V) (v u:Value) (Q:VK),Inv X pins σ H s->RelV x v->RelV y u->r x y H Q ->
  wpAny (model X.prog X.w) X.A (f v u) (EP X pins σ Q) X.xe s
def Ef(X:Cx)(f:Value->Sem Value)(r:V->Hp->VK->Prop):Prop :=
 ∀(pins:LO) (s:Shared) (σ : St) (H:Hp) (x:V) (v:Value) (Q:VK),Inv X pins σ H s->RelV x v->r x H Q ->
  wpAny (model X.prog X.w) X.A (f v) (EP X pins σ Q) X.xe s
def fX(X:Cx)(f:Value)(r:List V->Hp->VK->Prop):Prop :=
 ∀(pins:LO) (s:Shared) (σ : St) (H:Hp) (xs:List V) (us:List Value) (Q:VK),Inv X pins σ H s->Vals xs us->r xs H Q ->
  wpAny (model X.prog X.w) X.A (call f us) (EP X pins σ Q) X.xe s
def ace(X:Cx)(r:V->Hp->(Bool->Hp->Prop)->Prop):Prop :=
 ∀(pins:LO) (s:Shared) (σ : St) (H:Hp) (x:V) (v:Value) (Q:Bool->Hp->Prop),Inv X pins σ H s->RelV x v->r x H Q ->
  wpAny (model X.prog X.w) X.A (truthy v) (TP X pins σ Q) X.xe s
def uR(r:R2)(ta tb:TE):TE:=λσ H Q=>ta σ H λx H1=>tb σ H1 λy H2=>r x y H2 Q
def Py(r:V->Hp->VK->Prop)(ta:TE):TE:=λσ H Q=>ta σ H λx H1=>r x H1 Q
def rI(C:Int->Int->Prop)(g:Int->Int->V):R2:=λx y H Q=>∃i j,x=.int i/\y=.int j/\C i j/\Q (g i j) H
def dY(g:Int->Int->V):R2:=λx y H Q=>∃i j,x=.int i/\y=.int j/\Q (g i j) H
def rU(g:Int->V):V->Hp->VK->Prop:=λx H Q=>∃i,x=.int i/\Q (g i) H
section
variable {X:Cx}{a b c:Expr}{ta tb tc:TE}{pos:Pos}
theorem Eh(ha:PE X a ta)(hb:PE X b tb){pins:LO}{s:Shared}{σ : St}{H:Hp}{R:V->V->Hp->Prop}(I:Inv X pins σ H s)
  (h:ta σ H λx H1=>tb σ H1 λy H2=>R x y H2) {Q:Value->Shared->Prop} {f:Value->Value->Sem Value}
  (hf:∀v u s2 x y H2,Inv X pins σ H2 s2->RelV x v->RelV y u->R x y H2->wpAny (model X.prog X.w) X.A (f v u) Q X.xe s2) :
  wpAny (model X.prog X.w) X.A (eval a X.env) (λv s₁=>wpAny (model X.prog X.w) X.A (eval b X.env) (λu s₂=>wpAny (model X.prog X.w) X.A (f v u) Q X.xe s₂) X.xe s₁) X.xe s:=by
 refine aC (ha pins s σ H _ I h) λv s1 ⟨x,H1,I1,r1,q1⟩=>?_
 refine aC (hb pins s1 σ H1 _ I1 q1) λu s2 ⟨y,H2,I2,r2,q2⟩=>?_
 exact hf v u s2 x y H2 I2 r1 r2 q2
theorem yD{op:Operator}{r:R2}(ho:aY X (binaryOp op) r)(ha:PE X a ta)(hb:PE X b tb):PE X (.BinOp a op b pos) (uR r ta tb):=by
 refine⟨λpins s σ H Q I h=>?_⟩
 exact wpAny_BinOp (Eh ha hb I h λv u s2 x y H2 I2 rx ry q=>ho pins s2 σ H2 x y v u Q I2 rx ry q)
theorem Ei(ho:Ef X (unaryOp op) r)(ha:PE X a ta):PE X (.UnaryOp op a pos) (Py r ta):=by
 refine⟨λpins s σ H Q I h=>?_⟩
 exact UnaryOp_ (aC (ha pins s σ H _ I h) λv s1 ⟨x,H1,I1,r1,q1⟩=>ho pins s1 σ H1 x v Q I1 r1 q1)
theorem yE{f:Value->Value->Sem Value}{C:Int->Int->Prop}{g:Int->Int->Int}
  (rule:∀(i j:Int) (t u:Tok) (s:Shared) (Q:Value->Shared->Prop) (E:Value->Shared->Prop),C i j->Q (.int (g i j) s.toks) {s with toks:=s.toks+1 }->wpAny (model X.prog X.w) X.A (f (.int i t) (.int j u)) Q E s) :
  aY X f (rI C λi j=>.int (g i j)):=by
 intro pins s σ H x y v u Q I rx ry h
 obtain⟨i,j,rfl,rfl,hc,q⟩:=h
 obtain⟨t,rfl⟩:=rx
 obtain⟨t',rfl⟩:=ry
 exact rule i j t t' s _ _ hc ⟨.int (g i j),H,I.tok _,⟨_,rfl⟩,q⟩
theorem PB{f:Value->Value->Sem Value}{g:Int->Int->Int}
  (rule:∀(i j:Int) (t u:Tok) (s:Shared) (Q:Value->Shared->Prop) (E:Value->Shared->Prop),Q (.int (g i j) s.toks) {s with toks:=s.toks+1 }->wpAny (model X.prog X.w) X.A (f (.int i t) (.int j u)) Q E s) :
  aY X f (dY λi j=>.int (g i j)):=by
 intro pins s σ H x y v u Q I rx ry h
 obtain⟨i,j,rfl,rfl,q⟩:=h
 obtain⟨t,rfl⟩:=rx
 obtain⟨t',rfl⟩:=ry
 exact rule i j t t' s _ _ ⟨.int (g i j),H,I.tok _,⟨_,rfl⟩,q⟩
theorem yF{f:Value->Value->Sem Value}{g:Int->Int->Bool}
  (rule:∀(i j:Int) (t u:Tok) (s:Shared) (Q:Value->Shared->Prop) (E:Value->Shared->Prop),Q (.bool (g i j)) s->wpAny (model X.prog X.w) X.A (f (.int i t) (.int j u)) Q E s) :
  aY X f (dY λi j=>.bl (g i j)):=by
 intro pins s σ H x y v u Q I rx ry h
 obtain⟨i,j,rfl,rfl,q⟩:=h
 obtain⟨t,rfl⟩:=rx
 obtain⟨t',rfl⟩:=ry
 exact rule i j t t' s _ _ ⟨.bl (g i j),H,I,rfl,q⟩
def yH(i j:Int):Prop:=0<=j/\j<=1000000/\i.natAbs<2 ^ 64
theorem PJ:aY X (binaryOp .Add) (dY λi j=>.int (i+j)):=PB λ_ _ _ _ _ _ _ q=>add_int q
theorem PK:aY X (binaryOp .Sub) (dY λi j=>.int (i-j)):=PB λ_ _ _ _ _ _ _ q=>sub_int q
theorem acf:aY X (binaryOp .Mod) (rI (λ_ j=>j≠0) λi j=>.int (i.fmod j)):=yE λ_ _ _ _ _ _ _ hc q=>mod_int' hc q
theorem PL:aY X (binaryOp .Pow) (rI yH λi j=>.int (i ^ j.toNat)):=yE λ_ _ _ _ _ _ _ hc q=>pow_int_small hc.1 hc.2.1 hc.2.2 q
theorem unI{f:Value->Sem Value}{g:Int->Int}
  (rule:∀(i:Int) (t:Tok) (s:Shared) (Q:Value->Shared->Prop) (E:Value->Shared->Prop),Q (.int (g i) s.toks) {s with toks:=s.toks+1 }->wpAny (model X.prog X.w) X.A (f (.int i t)) Q E s) :
  Ef X f (rU λi=>.int (g i)):=by
 intro pins s σ H x v Q I rx h
 obtain⟨i,rfl,q⟩:=h
 obtain⟨t,rfl⟩:=rx
 exact rule i t s _ _ ⟨.int (g i),H,I.tok _,⟨_,rfl⟩,q⟩
theorem Ej:Ef X (unaryOp .USub) (rU λi=>.int (-i)):=unI λ_ _ _ _ _ q=>neg_int q
end
section
variable {X:Cx}{a b c:Expr}{ta tb tc:TE}{pos:Pos}
theorem PN(I:Inv X pins σ H s)(q:Q (.bl k) H)(e:k=k'):EP X pins σ Q (.bool k') s:=by
 subst e
 exact⟨.bl k,H,I,rfl,q⟩
theorem acg:aY X (compareOp .Lt) (dY λi j=>.bl (decide (i<j))):=yF λ_ _ _ _ _ _ _ q=>lt_int q
theorem ach:aY X (compareOp .LtE) (dY λi j=>.bl (decide (i<=j))):=yF λ_ _ _ _ _ _ _ q=>le_int q
theorem aci:aY X (compareOp .Gt) (dY λi j=>.bl (decide (j<i))):=yF λ_ _ _ _ _ _ _ q=>gt_int q
theorem acj:aY X (compareOp .GtE) (dY λi j=>.bl (decide (j<=i))):=yF λ_ _ _ _ _ _ _ q=>ge_int q
theorem acn:aY X (compareOp .Is) (λx y H Q=>y=.non/\Q (.bl (decide (x=.non))) H):=by
 intro pins s σ H x y v u Q I rx ry h
 obtain⟨rfl,q⟩:=h
 cases ry
 refine is_none_gen (PN I q ?_)
 cases x <;> first
  |(cases rx; rfl)
  |(obtain⟨t,rfl⟩:=rx; rfl)
theorem aco:aY X (compareOp .IsNot) (λx y H Q=>y=.non/\Q (.bl (!decide (x=.non))) H):=by
 intro pins s σ H x y v u Q I rx ry h
 obtain⟨rfl,q⟩:=h
 cases ry
 refine isnot_none_gen (PN I q ?_)
 cases x <;> first
  |(cases rx; rfl)
  |(obtain⟨t,rfl⟩:=rx; rfl)
theorem aY.or(h:aY X f r)(h':aY X f r'):aY X f (λx y H Q=>r x y H Q\/r' x y H Q):=by
 intro pins s σ H x y v u Q I rx ry q
 rcases q with q|q
 .exact h pins s σ H x y v u Q I rx ry q
 .exact h' pins s σ H x y v u Q I rx ry q
theorem acp{op:CmpOp}{r:R2}(ho:aY X (compareOp op) r)(ha:PE X a ta)(hb:PE X b tb)(hm:behindInMarks op b=false):PE X (.Compare a [op] [b] pos) (uR r ta tb):=by
 refine⟨λpins s σ H Q I h=>?_⟩
 exact wpAny_Compare1 (Eh ha hb I h λv u s2 x y H2 I2 rx ry q=>ho pins s2 σ H2 x y v u Q I2 rx ry q) hm
def ou(t:TE):TT:=λσ H Q=>t σ H λx H'=>∃k,x=.bl k/\Q k H'
theorem acq(ho:aY X (compareOp op) r)(ha:PE X a ta)(hb:PE X b tb)(hm:behindInMarks op b=false):PT X (.Compare a [op] [b] pos) (ou (uR r ta tb)):=by
 refine⟨λpins s σ H Q I h=>?_⟩
 refine wpAny_isTrue_Compare1 (aC (ha pins s σ H _ I h) λv s1 ⟨x,H1,I1,r1,q1⟩=>aC (hb pins s1 σ H1 _ I1 q1) λu s2 ⟨y,H2,I2,r2,q2⟩ =>
  aC (ho pins s2 σ H2 x y v u _ I2 r1 r2 q2) λc s3 ⟨z,H3,I3,r3,k,e,q3⟩=>?_) hm
 subst e
 cases r3
 exact wpAny_truthy_bool ⟨H3,I3,q3⟩
def Ek(r r':R2)(ta tb tc:TE):TE:=λσ H Q=>ta σ H λx H1=>tb σ H1 λy H2=>r x y H2 λz H3=>∃k,z=.bl k /\
 (if k=true then tc σ H3 λw' H4=>r' y w' H4 Q else Q (.bl false) H3)
theorem acr(ho:aY X (compareOp op) r)(ho':aY X (compareOp op') r')(ha:PE X a ta)(hb:PE X b tb)(hc:PE X c tc)
  (hm:lastMarks [op,op'] [b,c]=false:=by with_unfolding_all rfl):PE X (.Compare a [op,op'] [b,c] pos) (Ek r r' ta tb tc):=by
 refine⟨λpins s σ H Q I h=>?_⟩
 refine Compare_chain (aC (ha pins s σ H _ I h) λv s1 ⟨x,H1,I1,r1,q1⟩=>chain_link (aC (hb pins s1 σ H1 _ I1 q1) λu s2 ⟨y,H2,I2,r2,q2⟩ =>
  aC (ho pins s2 σ H2 x y v u _ I2 r1 r2 q2) λd s3 ⟨z,H3,I3,r3,k,e,q3⟩=>?_)) hm
 subst e
 cases r3
 refine wpAny_truthy_bool ?_
 cases k with
 |false=>exact ite_ff ⟨.bl false,H3,I3,rfl,q3⟩
 |true=>exact ite_tt (chain_last (aC (hc pins s3 σ H3 _ I3 q3) λw' s4 ⟨z',H4,I4,r4,q4⟩=>ho' pins s4 σ H4 y z' u w' Q I4 r2 r4 q4))
theorem acs(ho:aY X (compareOp op) r)(ho':aY X (compareOp op') r')(ha:PE X a ta)(hb:PE X b tb)(hc:PE X c tc)
  (hm:lastMarks [op,op'] [b,c]=false:=by with_unfolding_all rfl):PT X (.Compare a [op,op'] [b,c] pos) (ou (Ek r r' ta tb tc)):=by
 refine⟨λpins s σ H Q I h=>?_⟩
 refine isTrue_chain (aC (ha pins s σ H _ I h) λv s1 ⟨x,H1,I1,r1,q1⟩=>test_link (aC (hb pins s1 σ H1 _ I1 q1) λu s2 ⟨y,H2,I2,r2,q2⟩ =>
  aC (ho pins s2 σ H2 x y v u _ I2 r1 r2 q2) λd s3 ⟨z,H3,I3,r3,k,e,q3⟩=>?_)) hm
 subst e
 cases r3
 refine wpAny_truthy_bool ?_
 cases k with
 |false =>
  obtain⟨k',e',q'⟩:=q3
  cases e'
  exact ite_ff ⟨H3,I3,q'⟩
 |true =>
  refine ite_tt (test_last (aC (hc pins s3 σ H3 _ I3 q3) λw' s4 ⟨z',H4,I4,r4,q4⟩=>aC (ho' pins s4 σ H4 y z' u w' _ I4 r2 r4 q4) λd' s5 ⟨z2,H5,I5,r5,k2,e2,q5⟩=>?_))
  subst e2
  cases r5
  exact wpAny_truthy_bool ⟨H5,I5,q5⟩
def El(K:FZ)(x:V)(H:Hp)(k:Bool):Prop :=
 match x with
 |.non=>k=false
 |.bl b=>k=b
 |.int i=>k=(i != 0)
 |.str y=>y.length<=sizeLine/\k=((y.length:Int) != 0)
 |.uK y=>y.size<=sizeLine/\k=((y.size:Int) != 0)
 |.ref p=>(∃xs,aF K H p xs/\k = !xs.isEmpty)\/(∃xs,bh K H p xs/\k = !xs.isEmpty)
 |_=>False
theorem PX{xs:List V}{its:List Value}(r:Vals xs its):(!its.toArray.isEmpty) = !xs.isEmpty:=by
 cases r <;> simp
theorem oA:(sizeLine:Nat)<2 ^ 63:=by rw[sizeLine_eq]; decide
theorem acu:ace X (λx H Q=>∃k,El X.K x H k/\Q k H):=by
 intro pins s σ H x v Q I rx h
 obtain⟨k,e,q⟩:=h
 have hl:=oA
 have hs:sizeLine=16777216:=sizeLine_eq
 cases x with
 |non =>
  cases rx
  have e':k=false:=e
  subst e'
  exact truthy_none ⟨H,I,q⟩
 |bl b =>
  cases rx
  have e':k=b:=e
  subst e'
  exact wpAny_truthy_bool ⟨H,I,q⟩
 |int i =>
  obtain⟨t,rfl⟩:=rx
  have e':k=(i != 0):=e
  subst e'
  exact PySem.P.truthy_int ⟨H,I,q⟩
 |str y =>
  obtain⟨t,rfl⟩:=rx
  obtain⟨hy,e'⟩:y.length<=sizeLine/\k=((y.length:Int) != 0):=e
  subst e'
  exact PySem.P.truthy_str (by lia) ⟨H,I.tok _,q⟩
 |uK y =>
  obtain⟨t,rfl⟩:=rx
  obtain⟨hy,e'⟩:y.size<=sizeLine/\k=((y.size:Int) != 0):=e
  subst e'
  exact PySem.W.truthy_bytes (by lia) ⟨H,I.tok _,q⟩
 |ref p =>
  cases rx
  have e':(∃xs,aF X.K H p xs/\k = !xs.isEmpty)\/(∃xs,bh X.K H p xs/\k = !xs.isEmpty):=e
  rcases e' with⟨xs,hx,e'⟩|⟨xs,hx,e'⟩
  .subst e'
   obtain⟨its,r,pl,hz⟩:=I.list hx
   have hlen:=r.length
   exact wpAny_truthy_list pl.isList (by simp only[List.size_toArray]; lia) ⟨H,I.tok _,by rw[PX r]; exact q⟩
  .subst e'
   obtain⟨its,r,pl,hz⟩:=I.tuple hx
   have hlen:=r.length
   exact truthy_tuple pl (by simp only[List.size_toArray]; lia) ⟨H,I.tok _,by rw[PX r]; exact q⟩
 |_=>exact(show False from e).elim
theorem acv(ha:PE X a ta)(he:∀whole,isTrue a X.env whole=(do let v <-whole; standAt a.pos; holding [v] (truthy v))) :
  PT X a (λσ H Q=>ta σ H λx H'=>∃k,El X.K x H' k/\Q k H'):=by
 refine⟨λpins s σ H Q I h=>?_⟩
 exact isTrue_plain (aC (ha pins s σ H _ I h) λv s1 ⟨x,H1,I1,r1,q1⟩=>acu pins s1 σ H1 x v Q I1 r1 q1) (he _)
theorem acw:aY X (binaryOp .Add) (λx y H Q=>∃i j,x=.str i/\y=.str j/\i.length+j.length<=sizeLine/\Q (.str (i++j)) H):=by
 intro pins s σ H x y v u Q I rx ry h
 obtain⟨i,j,rfl,rfl,hz,q⟩:=h
 obtain⟨t,rfl⟩:=rx
 obtain⟨t',rfl⟩:=ry
 exact add_str (λt' tk=>⟨.str (i++j),H,I.tok _,⟨_,rfl⟩,q⟩) hz
theorem vals1(r:Vals [x] us):∃u,us=[u]/\RelV x u:=by
 cases r with
 |cons r1 r2=>cases r2; exact⟨_,rfl,r1⟩
theorem vals2(r:Vals [x,y] us):∃u w',us=[u,w']/\RelV x u/\RelV y w':=by
 cases r with
 |cons r1 r2 =>
  cases r2 with
  |cons r3 r4=>cases r4; exact⟨_,_,rfl,r1,r3⟩
theorem acy:fX X (.builtin "abs") (λxs H Q=>∃i,xs=[.int i]/\Q (.int (if i<0 then -i else i)) H):=by
 intro pins s σ H xs us Q I r h
 obtain⟨i,rfl,q⟩:=h
 obtain⟨u,rfl,t,rfl⟩:=vals1 r
 exact call_abs_int λu tk=>⟨.int (if i<0 then -i else i),H,I.tok _,⟨_,rfl⟩,q⟩
end
structure dK(k:Nat)(A:Around):Prop where
 hd:A.handled=none
 dp:A.depth+3*k+5<recursionLimit
 un:A.units+16*k+200<cLine
 gd:A.guards=some []:=by rfl
theorem dK.mono(r:dK k A)(h:j<=k):dK j A:=⟨r.hd,by have:=r.dp; lia,by have:=r.un; lia,r.gd⟩
theorem dK.deeper(r:dK (k+1) A)(env:Env):dK k (A.deeper env) :=
 ⟨r.hd,by have:=r.dp; show A.depth+1+3*k+5<_; lia,by have:=r.un; show A.units+3+16*k+200<_; lia,r.gd⟩
theorem dK.depth(r:dK k A):A.depth<recursionLimit:=by have:=r.dp; lia
def P0:TA:=λ_ H Q=>Q [] H
def Em(ta:TE)(tr:TA):TA:=λσ H Q=>ta σ H λx H1=>tr σ H1 λxs H2=>Q (x::xs) H2
section
variable {X:Cx}{e:Expr}{es:List Expr}{te:TE}{t:TA}{pos:Pos}
theorem rK:PA X [] P0:=⟨λ_ _ _ _ H Q I h=>Calls.spliced_nil ⟨[],H,I,.nil,h⟩⟩
theorem oE(ha:PE X e te)(hr:PA X es t)(hs:starEach (e::es) X.env=(false,eval e X.env)::starEach es X.env:=by rfl):PA X (e::es) (Em te t):=by
 refine⟨λpos pins s σ H Q I h=>?_⟩
 rw[hs]
 show wpAny _ _ (spliced ((false,eval e X.env)::backTo pos (starEach es X.env))) _ _ s
 refine Calls.spliced_cons (aC (ha pins s σ H _ I h) λu s1 ⟨x,H1,I1,r1,q1⟩=>?_)
 exact aC (hr pos pins s1 σ H1 _ I1 q1) λus s2 ⟨xs,H2,I2,r2,q2⟩=>⟨x::xs,H2,I2,.cons r1 r2,q2⟩
def acz(t:TA):TE:=λσ H Q=>t σ H λxs H1=>xs.length<=sizeLine/\∀p,H1 p=none->Q (.ref p) (upd H1 p (.tup xs))
def acA(t:TA):TE:=λσ H Q=>t σ H λxs H1=>xs.length<=sizeLine/\∀p,H1 p=none->Q (.ref p) (upd H1 p (.lst xs))
theorem yJ{x1}(h:PA X es t):PE X (.Tuple es x1 pos) (acz t):=by
 refine⟨λpins s σ H Q I hq=>?_⟩
 refine wpAny_Tuple_spliced (aC (h pos pins s σ H _ I hq) λus s1 ⟨xs,H1,I1,r,z,q⟩=>⟨by rw[<-r.length]; exact z,?_⟩)
 have hf:H1 s1.heap.objs.size=none:=I1.hok.fresh (Nat.le_refl _)
 refine⟨.ref s1.heap.objs.size,upd H1 s1.heap.objs.size (.tup xs),I1.laid (t':=s1.toks) (λb u e=>Heap.get?_push_of_some _ e) (Nat.le_refl _) ?_,rfl,q _ hf⟩
 exact⟨z,us,r,⟨_,Heap.get?_push_size _ rfl,rfl,_,rfl⟩⟩
theorem Qa(h:PA X es t):PE X (.List es pos) (acA t):=by
 refine⟨λpins s σ H Q I hq=>?_⟩
 refine wpAny_List_spliced (aC (h pos pins s σ H _ I hq) λus s1 ⟨xs,H1,I1,r,z,q⟩=>⟨by rw[<-r.length]; exact z,?_⟩)
 have hf:H1 s1.heap.objs.size=none:=I1.hok.fresh (Nat.le_refl _)
 refine⟨.ref s1.heap.objs.size,upd H1 s1.heap.objs.size (.lst xs),I1.laid (t':=s1.toks) (λb u e=>Heap.get?_push_of_some _ e) (Nat.le_refl _) ?_,rfl,q _ hf⟩
 exact⟨z,us,0,r,Heap.get?_push_size _ rfl⟩
end
abbrev Sp:=List V->Hp->VK->XK->Prop
abbrev iG:=List Env->Hp->Shared->XK->Value->Shared->Prop
structure yK(P:Program)(w:World)(K:FZ)(mg:Str->Option Value)(base:Heap)(A:Around)(outer:List Env)(s:Shared)(H:Hp):Prop where
 frames:A.frames=some outer
 mod:Mod K mg base
 bs:∀b o,base.get? b=some o->s.heap.get? b=some o/\H b=none
 nY:base.objs.size<=s.heap.objs.size
 jy:s.heap.FunFrames base outer
 pZ:∀b∈frs outer,H b=none
 hok:cH P w H s.heap
 bare:AllBare s.gens
def CE(outer:List Env)(P:Program)(w:World)(H:Hp)(s:Shared)(Q:VK)(u:Value)(s':Shared):Prop :=
 ∃v H',s'.os=s.os/\AllBare s'.gens/\Un (frs outer) [] H H' s.heap s'.heap/\cH P w H' s'.heap/\RelV v u/\Q v H'
def CR(CX:iG)(outer:List Env)(P:Program)(w:World)(H:Hp)(s:Shared)(Q:VK)(E:XK)(r:Result)(s':Shared):Prop :=
 match r with
 |.ok (.ret u)=>CE outer P w H s Q u s'
 |.ok _=>False
 |.error e=>CX outer H s E e s'
structure jh(P:Program)(w:World)(K:FZ)(mg:Str->Option Value)(base:Heap)(CX:iG)(k:Nat)(f:Addr)(fd:FuncData)(ps:List Str)(sp:Sp):Prop where
 len:∀vs H Q E,sp vs H Q E->vs.length=ps.length
 run:∀(A:Around) (outer:List Env) (s:Shared) (H:Hp) (args:Args) (us:List Value) (vs:List V) (Q:VK) (E:XK),dK k A->yK P w K mg base A outer s H->BindsTo s fd args (ps.zip us)->Vals vs us->sp vs H Q E ->
  codeAny (model P w) A (.call (.ref f) args) (CR CX outer P w H s Q E) s
theorem jh.mono{P:Program}{w:World}{K:FZ}{mg:Str->Option Value}{base:Heap}{CX:iG}{j k:Nat}{f:Addr}{fd:FuncData}{ps:List Str}{sp:Sp}(F:jh P w K mg base CX j f fd ps sp)(h:j<=k) :
  jh P w K mg base CX k f fd ps sp:=⟨F.len,λA outer s H args us vs Q E hr=>F.run A outer s H args us vs Q E (hr.mono h)⟩
theorem jh.imp{P:Program}{w:World}{K:FZ}{mg:Str->Option Value}{base:Heap}{CX:iG}{k:Nat}{f:Addr}{fd:FuncData}{ps:List Str}{sp Qc:Sp}(F:jh P w K mg base CX k f fd ps sp)
  (h:∀vs H Q E,Qc vs H Q E->sp vs H Q E):jh P w K mg base CX k f fd ps Qc :=
 ⟨λvs H Q E q=>F.len vs H Q E (h _ _ _ _ q),λA outer s H args us vs Q E hr he hb hv hs=>F.run A outer s H args us vs Q E hr he hb hv (h _ _ _ _ hs)⟩
section
variable {X:Cx}{pins:LO}{σ : St}{H:Hp}{s s':Shared}
theorem Inv.env0(I:Inv X pins σ H s):yK X.prog X.w X.K X.mg X.base X.A X.stack s H :=
 ⟨I.ok.frames,I.ok.mod,I.bs,Nat.le_trans I.ok.nY I.sz,I.stack,I.yj,I.hok,I.bare⟩
theorem Inv.after(I:Inv X pins σ H s)(h:CE X.stack X.prog X.w H s Q u s'):EP X pins σ Q u s':=by
 obtain⟨v,H',os,bare,un,hok,r,q⟩:=h
 obtain⟨hh,g,d,t,os'⟩:=s'
 obtain rfl:os'=s.os:=os
 exact⟨v,H',I.call (h':=hh) (g':=g) (d':=d) (t':=t) (ch:=[]) un hok bare (λb z=>absurd z (by simp)),r,q⟩
end
def Eo(sp:Sp)(oF:List V)(E:XK)(t:TA):TE:=λσ H Q=>t σ H λvs H1=>sp (vs++oF) H1 Q E
def Binds(K:FZ)(fd:FuncData)(ps:List Str)(ds:List Value):Prop :=
 ∀(s:Shared) (us:List Value),K.In s.heap->(us++ds).length=ps.length->BindsTo s fd ⟨us,[]⟩ (ps.zip (us++ds))
theorem Binds.all{K:FZ}{fd:FuncData}{ps:List Str}(h:∀us:List Value,us.length=ps.length->bindArgs fd ⟨us,[]⟩=pure (ps.zip us)):Binds K fd ps []:=λs us _ hl=>by
 rw[List.append_nil]at hl ⊢
 exact .of_eq (h us hl)
def Passes(CX:iG)(X:Cx)(E:XK):Prop:=∀(pins:LO) (σ : St) (H:Hp) (s:Shared) (e:Value) (s':Shared),Inv X pins σ H s->CX X.stack H s E e s'->X.xe e s'
section
variable {X:Cx}{CX:iG}{k:Nat}{f C:Addr}{fd:FuncData}{ps:List Str}{sp:Sp}{oF:List V}{ds:List Value}{E:XK}{x m:Str}{p pos apos:Pos}{e o:Expr}{es:List Expr}{ta:TE}{t:TA}
theorem acB(F:jh X.prog X.w X.K X.mg X.base CX k f fd ps sp)(hr:dK k X.A)(hb:Binds X.K fd ps ds)(hd:Vals oF ds)(hx:Passes CX X E)
  (I:Inv X pins σ H s) (r:Vals vs us) (h:sp (vs++oF) H Q E):wpAny (model X.prog X.w) X.A (call (.ref f) us) (EP X pins σ Q) X.xe s:=by
 have r2:Vals (vs++oF) (us++ds):=r.append hd
 have hl:(us++ds).length=ps.length:=by rw[<-r2.length]; exact F.len _ _ _ _ h
 refine wpAny_call (codeAny_mono (F.run X.A X.stack s H ⟨us,[]⟩ (us++ds) (vs++oF) Q E hr I.env0 (hb s us I.iD hl) r2 h) λr s' hq=>?_)
 cases r with
 |error e=>exact hx pins σ H s e s' I hq
 |ok fl =>
  cases fl with
  |ret u=>exact I.after hq
  |next=>exact False.elim hq
  |brk=>exact False.elim hq
  |cont=>exact False.elim hq
theorem Qd(F:jh X.prog X.w X.K X.mg X.base CX k f fd ps sp)(hr:dK k X.A)(hg:Gl X x)(hm:X.mg x=some (.ref f))(hk:PySem.W.keepIn X.K (.ref f)=true)(hb:Binds X.K fd ps ds)(hd:Vals oF ds)(hx:Passes CX X E)
  (ha:PA X (e::es) t) (hdb:(x == ("__debug__" : Str))=false:=by decide) (he:starEach (e::es) X.env=(false,eval e X.env)::starEach es X.env:=by rfl) (hpl:(backTo pos (starEach es X.env)).any (·.1)=false:=by rfl) :
  PE X (.Call (.Name x p) (e::es) [] pos) (Eo sp oF E t):=by
 refine⟨λpins s σ H Q I h=>?_⟩
 refine wpAny_Call_Name_kw (DK I hg hm ?_ hdb)
 refine PySem.W.callWith_K (h₀ := X.base) I.ok.mod.Dy hk (aC (ha pos pins s σ H _ I h) λus s1 ⟨vs,H1,I1,r,q⟩=>⟨I1.iD,?_⟩) he hpl
 exact acB F hr hb hd hx I1 r q
end
structure rM(N P:List Str)(sc:Scope):Prop where
 kind:sc.kind=.function
 co:sc.isCoroutine=false
 gen:sc.isGenerator=false
 nd:N.Nodup
 pre:N.take P.length=P
 par:∀x∈P,sc.names.lookup x=some .local\/sc.names.lookup x=some .cell
 acC:∀y∈sc.names,y.2 ≠ .free
theorem Qe{kindOf:Str->Option NameKind}{x:Str}:∀{binds:List (Str × Value)} {m:Str->Option Value},(∀v,(x,v)∉binds)->bindL kindOf binds m x=m x
 | [],_,_=>rfl
 |(n,v)::r,m,h=>by
  unfold bindL
  rw[Qe λw hw=>h w (List.mem_cons_of_mem _ hw)]
  split
  .have:x≠n:=by rintro rfl; exact h v List.mem_cons_self
   simp[this]
  .rfl
theorem Qf{kindOf:Str->Option NameKind}{x:Str}:∀{binds:List (Str × Value)} {m:Str->Option Value},(∀v,(x,v)∉binds)->bindC kindOf binds m x=m x
 | [],_,_=>rfl
 |(n,v)::r,m,h=>by
  unfold bindC
  rw[Qf λw hw=>h w (List.mem_cons_of_mem _ hw)]
  split
  .rfl
  .have:x≠n:=by rintro rfl; exact h v List.mem_cons_self
   simp[this]
theorem Qg{kindOf:Str->Option NameKind}{x:Str}{v:Value}:∀{P:List Str} {vs:List Value} {i:Nat} {m:Str->Option Value},P.Nodup->P[i]?=some x->vs[i]?=some v->kindOf x=some .local ->
  bindL kindOf (P.zip vs) m x=some v
 | [],_,_,_,_,h,_,_=>by simp at h
 |_::_,[],_,_,_,_,h,_=>by simp at h
 |p::P,w::vs,0,m,nd,h1,h2,hk=>by
  simp at h1 h2; subst h1; subst h2
  show bindL kindOf ((p,w)::P.zip vs) m p=_
  unfold bindL
  rw[Qe λv hv=>(List.nodup_cons.mp nd).1 (List.of_mem_zip hv).1,if_pos hk]
  simp
 |p::P,w::vs,i+1,m,nd,h1,h2,hk=>by
  show bindL kindOf ((p,w)::P.zip vs) m x=_
  unfold bindL
  exact Qg (i:=i) (List.nodup_cons.mp nd).2 (by simpa using h1) (by simpa using h2) hk
theorem Qh{kindOf:Str->Option NameKind}{x:Str}{v:Value}:∀{P:List Str} {vs:List Value} {i:Nat} {m:Str->Option Value},P.Nodup->P[i]?=some x->vs[i]?=some v->kindOf x≠some .local ->
  bindC kindOf (P.zip vs) m x=some v
 | [],_,_,_,_,h,_,_=>by simp at h
 |_::_,[],_,_,_,_,h,_=>by simp at h
 |p::P,w::vs,0,m,nd,h1,h2,hk=>by
  simp at h1 h2; subst h1; subst h2
  show bindC kindOf ((p,w)::P.zip vs) m p=_
  unfold bindC
  rw[Qf λv hv=>(List.nodup_cons.mp nd).1 (List.of_mem_zip hv).1,if_neg hk]
  simp
 |p::P,w::vs,i+1,m,nd,h1,h2,hk=>by
  show bindC kindOf ((p,w)::P.zip vs) m x=_
  unfold bindC
  exact Qh (i:=i) (List.nodup_cons.mp nd).2 (by simpa using h1) (by simpa using h2) hk
noncomputable def start(N:List Str)(vs:List V):St:=vs.map some++List.replicate (N.length-vs.length) none
noncomputable def iH(CX:iG)(P:Program)(w:World)(K:FZ)(mg:Str->Option Value)(base:Heap)(N:List Str)(qual:Str)(scope:Scope)(f:Addr)(cd:Value)(A:Around)(outer:List Env)(s:Shared)(H:Hp)(E:XK):Cx where
 prog:=P
 w:=w
 K:=K
 mg:=mg
 base:=base
 A:=A.deeper (envOfC qual scope s.heap.objs.size f cd)
 N:=N
 s₀ := s
 H₀ := H
 env:=envOfC qual scope s.heap.objs.size f cd
 outer:=outer
 stack:=envOfC qual scope s.heap.objs.size f cd::outer
 ex:=[]
 calm:=true
 fn:=λ_=>true
 pn:=[]
 xe:=λe s'=>wpAny (model P w) (A.deeper (envOfC qual scope s.heap.objs.size f cd)) (leaving (envOfC qual scope s.heap.objs.size f cd) e) (λ_ s''=>CX outer H s E e s'') (λe' s''=>CX outer H s E e' s'') s'
theorem Qi{sc:Scope}{n:Nat}{x:Str}(h:sc.names.lookup x=some .cell):∃c,(cellsFrom n sc.names []).lookup x=some c:=by
 have q:=PySem.W.cellsFrom_some sc.names n [] (.inl h)
 exact Option.isSome_iff_exists.mp q
theorem acD{CX:iG}{P:Program}{w:World}{K:FZ}{mg:Str->Option Value}{base:Heap}{N ps:List Str}{qual:Str}{scope:Scope}{f:Addr}{cd:Value}{A:Around}{outer:List Env}{s s1:Shared}{H:Hp}{E:XK}{us:List Value}{vs:List V}
  (S:rM N ps scope) (hd:A.handled=none) (e0:yK P w K mg base A outer s H) (hl:vs.length=ps.length) (r:Vals vs us)
  (x:InCallC s s.heap.objs.size (bindL (envOfC qual scope s.heap.objs.size f cd).kindOf (ps.zip us) λ_=>none) (cellsFrom (s.heap.objs.size+1) scope.names []) (bindC (envOfC qual scope s.heap.objs.size f cd).kindOf (ps.zip us) λ_=>none) s1) :
  Inv (iH CX P w K mg base N qual scope f cd A outer s H E) [] (start N vs) H s1:=by
 have hpl:ps.length<=N.length:=by have:=congrArg List.length S.pre; rw[List.length_take]at this; lia
 obtain⟨h1,tk,rfl,hk⟩:=x.done
 have uT:∀b:Addr,b∉(iH CX P w K mg base N qual scope f cd A outer s H E).ex:=λb z=>absurd (show b∈([]:List Addr)from z) (by simp)
 refine⟨⟨e0.mod,S.kind,rfl,rfl,Nat.le_refl _,λy z c h1 h2=>?_,λy hy=>?_,λy c _ h=>?_,λ_=>hd,Around.frames_deeper e0.frames,.inr ⟨rfl,rfl⟩,λb z=>absurd z (uT b),e0.bs,e0.nY,λb _ _=>uT b,λb z=>absurd z (uT b),e0.jy,e0.pZ⟩,
  rfl,e0.bare,Un.kept hk,⟨_,x.toInCall.ns,λi y v h1 h2 h3=>?_⟩,λy c h=>⟨_,x.cell y c h⟩,e0.hok.fresh (Nat.le_refl _),λy c h=>?_,λp hp=>absurd (show p∈([]:LO)from hp) (by simp),e0.hok.kept hk,?_⟩
 .exact name_of_addr x.apart (PySem.mem_of_lookup h1) (PySem.mem_of_lookup h2)
 .have hy:scope.names.lookup y=some .cell\/scope.names.lookup y=some .free:=hy
  rcases hy with hy|hy
  .exact Qi hy
  .exact absurd rfl (S.acC _ (PySem.mem_of_lookup hy))
 .exact Nat.le_of_lt (x.above y c (PySem.mem_of_lookup h))
 .have hi:i<vs.length:=by
   unfold start at h2
   by_cases hi:i<vs.length
   .exact hi
   .rw[List.getElem?_append_right (by simpa using hi)]at h2
    rw[List.getElem?_replicate]at h2
    split at h2 <;> cases h2
  have ha:vs[i]?=some v:=by
   unfold start at h2
   rw[List.getElem?_append_left (by simpa using hi),List.getElem?_map]at h2
   cases e:vs[i]? with
   |none=>rw[e]at h2; cases h2
   |some a=>rw[e]at h2; cases h2; rfl
  obtain⟨u,hu,rv⟩:=r.get ha
  have hp:ps[i]?=some y:=by
   rw[<-S.pre,List.getElem?_take_of_lt (by lia)]; exact h1
  have Qj:ps.Nodup:=by rw[<-S.pre]; exact S.nd.sublist (List.take_sublist _ _)
  refine⟨u,rv,?_⟩
  rcases S.par y (List.mem_of_getElem? hp)with k|k
  .exact .inl ⟨k,Qg Qj hp hu k⟩
  .obtain⟨c,e⟩:=Qi (n:=s.heap.objs.size+1) k
   refine .inr ⟨.inl k,c,e,?_⟩
   have q:=x.cell y c e
   rw[Qh Qj hp hu (by show scope.names.lookup y≠_; rw[k]; decide)]at q
   exact q
 .exact e0.hok.fresh (Nat.le_of_lt (x.above y c (PySem.mem_of_lookup h)))
 .unfold start
  show _=N.length
  rw[List.length_append,List.length_map,List.length_replicate]
  lia
theorem Qk{CX:iG}{P:Program}{w:World}{K:FZ}{mg:Str->Option Value}{base:Heap}{k:Nat}{f:Addr}{name qual:Str}{params:Arguments}{body:List Stmt}{scope:Scope}{dV kV doc pm cdv ct oc:Value}{an od:Option Addr}
  {osl:Array (Option Value)} {N ps:List Str} {sp:Sp} (lk:K.lookup f=some ⟨oc,od,.func (PySem.W.fnOf name qual params body scope dV kV doc pm an cdv ct),osl⟩) (hcd:PySem.W.codeIn K cdv qual=true) (S:rM N ps scope)
  (len:∀vs H Q E,sp vs H Q E->vs.length=ps.length)
  (hbody:∀(A:Around) (outer:List Env) (s:Shared) (H:Hp) (vs:List V) (Q:VK) (E:XK),dK k (A.deeper (envOfC qual scope s.heap.objs.size f cdv))->sp vs H Q E ->
   ∃t,eO (iH CX P w K mg base N qual scope f cdv A outer s H E) body t/\t {nx:=λ_ H'=>Q .non H',rt:=Q } (start N vs) H) :
  jh P w K mg base CX (k+1) f (PySem.W.fnOf name qual params body scope dV kV doc pm an cdv ct) ps sp:=by
 refine⟨len,λA outer s H args us vs Q E hr e0 hb r hsp=>?_⟩
 have hl:=len _ _ _ _ hsp
 have KX:K.In s.heap:=e0.mod.Dy.keeps λb o e=>(e0.bs b o e).1
 have lim:s.heap.NoLimit:=e0.mod.nolimit.keeps λb o e=>(e0.bs b o e).1
 have hkind:∀y∈ps.zip us,scope.names.lookup y.1=some .local\/(scope.names.lookup y.1=some .cell/\((cellsFrom (s.heap.objs.size+1) scope.names []).lookup y.1).isSome=true):=λ⟨n,v⟩ hy=>by
  rcases S.par n (List.of_mem_zip hy).1 with q|q
  .exact .inl q
  .exact .inr ⟨q,PySem.W.cellsFrom_some _ _ _ (.inl q)⟩
 refine codeAny_call_function hr.depth (KX _ _ lk) rfl S.co S.gen rfl (PySem.W.codeRec_of KX hcd) (hb _ _ _ _ ?_)
 refine wpAny_newFunctionEnv_cells S.kind hkind λenv he s1 x=>?_
 subst he
 refine⟨lim.keeps x.toInCall.keep,codeAny_func ?_⟩
 obtain⟨t,ht,hq⟩:=hbody A outer s H vs Q E (hr.deeper _) hsp
 have I:Inv (iH CX P w K mg base N qual scope f cdv A outer s H E) [] (start N vs) H s1:=acD S hr.hd e0 hl r x
 refine wpAny_mono (ht [] s1 (start N vs) H _ I hq) (λfl s' hs=>?_) λe s' hs=>hs
 have fin:∀{σ':St} {H':Hp} {v:V} {u:Value},Inv (iH CX P w K mg base N qual scope f cdv A outer s H E) [] σ' H' s'->RelV v u->Q v H'->CE outer P w H s Q u s' :=
  λ{σ' H' v u} J rv q=>⟨v,H',J.os,J.bare,J.base,J.hok,rv,q⟩
 cases fl with
 |ret u =>
  obtain⟨v,σ',H',J,rv,q⟩:=hs
  exact fin J rv q
 |next =>
  obtain⟨σ',H',J,q⟩:=hs
  exact fin (v:=V.non) (u:=Value.none) J rfl q
 |brk =>
  obtain⟨_,_,_,q⟩:=hs
  exact False.elim q
 |cont =>
  obtain⟨_,_,_,q⟩:=hs
  exact False.elim q
section
variable {X:Cx}{x:Str}{p pos:Pos}{e:Expr}{es:List Expr}{t:TA}{id T:String}{r:List V->Hp->VK->Prop}
def yL(r:List V->Hp->VK->Prop)(t:TA):TE:=λσ H Q=>t σ H λvs H1=>r vs H1 Q
theorem Ql(hc:fX X (.builtin id) r)(hg:Gl X x)(hm:X.mg x=none)(hv:bootBuiltins x=some (.builtin id))(ha:PA X (e::es) t)(hn:x ≠ "__name__" := by decide) (hdb:(x == ("__debug__" : Str))=false:=by decide)
  (he:starEach (e::es) X.env=(false,eval e X.env)::starEach es X.env:=by rfl) (hpl:(backTo pos (starEach es X.env)).any (·.1)=false:=by rfl):PE X (.Call (.Name x p) (e::es) [] pos) (yL r t):=by
 refine⟨λpins s σ H Q I h=>?_⟩
 refine wpAny_Call_Name_kw (jT I hg hm hv ?_ hn hdb)
 exact PyProof.Rows.callWith_builtin1 (aC (ha pos pins s σ H _ I h) λus s1 ⟨vs,H1,I1,r1,q1⟩=>hc pins s1 σ H1 vs us Q I1 r1 q1) he hpl
theorem acE(hc:fX X (.type T) r)(hg:Gl X x)(hm:X.mg x=none)(hv:bootBuiltins x=some (.type T))(ha:PA X (e::es) t)(hn:x ≠ "__name__" := by decide) (hdb:(x == ("__debug__" : Str))=false:=by decide)
  (he:starEach (e::es) X.env=(false,eval e X.env)::starEach es X.env:=by rfl) (hpl:(backTo pos (starEach es X.env)).any (·.1)=false:=by rfl):PE X (.Call (.Name x p) (e::es) [] pos) (yL r t):=by
 refine⟨λpins s σ H Q I h=>?_⟩
 refine wpAny_Call_Name_kw (jT I hg hm hv ?_ hn hdb)
 exact PyProof.Rows.callWith_type1 (aC (ha pos pins s σ H _ I h) λus s1 ⟨vs,H1,I1,r1,q1⟩=>hc pins s1 σ H1 vs us Q I1 r1 q1) he hpl
end
end L2
namespace HT
open PySem PyProof.Rows
noncomputable def lexLt:List Int->List Int->Bool
 | [],[]=>false
 | [],_::_=>true
 |_::_,[]=>false
 |x::xs,y::ys=>if x=y then lexLt xs ys else decide (x<y)
theorem yM(x y:Int)(xs ys:List Int):lexLt (x::xs) (y::ys)=if x=y then lexLt xs ys else decide (x<y):=rfl
theorem acF:lexLt [] []=false:=rfl
theorem acG(y:Int)(ys:List Int):lexLt [] (y::ys)=true:=rfl
theorem acH(x:Int)(xs:List Int):lexLt (x::xs) []=false:=rfl
theorem acI(A:Around)(s:Shared)(a:Int)(t:Tok)(c:Int)(u:Tok):∃e,SeqAt.EqAt A s (.int a t) (.int c u) e/\(e=true↔a=c) :=
 ⟨(a == c),SeqAt.EqAt.int_int a t c u,by simp⟩
theorem Ep(A:Around)(s:Shared)(a:Int)(t:Tok)(c:Int)(u:Tok)(prog:Program)(w:World)(E:Value->Shared->Prop)(Q:Value->Shared->Prop)(h:Q (.bool (decide (a<c))) s) :
  wpAny (model prog w) A (richCompare .Lt (.int a t) (.int c u)) Q E s :=
 (PyProof.Rows.lt_int h:wpAny (model prog w) A (compareOp .Lt (.int a t) (.int c u)) Q E s)
section
open PySem.SeqAt
open PySem.AutoSeq1 (wpAny_loadPart')
open PySem.MeetsSeq PySem.MeetsSeq2 PySem.MeetsSeq3
theorem acJ(l b:Addr)(items items2:Array Value)(n n2:Nat)(dd dd2:Option Addr)(sl sl2:Array (Option Value))(ns ms:List Int)(hi:IntsAre items.toList ns)(hj:IntsAre items2.toList ms) :
  Meets (Builtin.«tuple.__lt__» ⟨[.ref l,.ref b],[]⟩)
   (λ_ R s=>s.heap.get? l=some {cls:=.type "tuple",dict:=dd,data:=.seq items n,slots:=sl }∧s.heap.get? b=some {cls:=.type "tuple",dict:=dd2,data:=.seq items2 n2,slots:=sl2 } ∧
    R (.ok (.ret (.bool (lexLt ns ms)))) s) :=
 .of_wp λprog w A R s h=>by
  obtain⟨hp,g,d,tk,os⟩:=s; obtain⟨hl,hb,h⟩:=h
  have f2:=AutoSeq1.sub_tuple_tuple
  have z1:items.size=ns.length:=by rw[<-hi.length]; simp
  have z2:items2.size=ms.length:=by rw[<-hj.length]; simp
  wp_walk using wpAny_loadPart' hl,wpAny_loadPart' hb,wpAny_forIn_list _ (λrest b s'=>b.1=none/\s'=⟨hp,g,d,tk,os⟩/\∃(vs ws:List Value) (ns' rN:List Int),rest=vs.zip ws /\
   IntsAre vs ns'/\IntsAre ws rN/\ns'.length+items2.size=rN.length+items.size/\R (.ok (.ret (.bool (lexLt ns' rN)))) ⟨hp,g,d,tk,os⟩) _
  case turn =>
   rintro⟨y,x⟩ rest b s' ⟨hb',rfl,vs,ws,ns',rN,hz,Er,hwi,hlen,hR⟩
   cases Er with
   |nil=>rw[List.zip_nil_left]at hz; cases hz
   |cons a t acK =>
    cases hwi with
    |nil=>rw[List.zip_nil_right]at hz; cases hz
    |cons c u acL =>
     rw[List.zip_cons_cons]at hz
     injection hz with hyx hrest
     injection hyx with hy hx
     subst hy hx
     rw[yM]at hR
     simp only[List.length_cons]at hlen
     obtain⟨e,he,hiff⟩:=acI A.in1 ⟨hp,g,d,tk,os⟩ a t c u
     refine wpAny_bind (he prog w _ _ ?_)
     cases e with
     |true =>
      rw[if_pos (hiff.mp rfl)]at hR
      wp_walk
      exact⟨rfl,rfl,_,_,_,_,hrest,acK,acL,by lia,hR⟩
     |false =>
      rw[if_neg (λq=>absurd (hiff.mpr q) Bool.false_ne_true)]at hR
      have hri:=Ep A.in1 ⟨hp,g,d,tk,os⟩ a t c u prog w
      wp_walk using hri
      exact⟨_,rfl,by simpa using hR⟩
  case fin =>
   rintro⟨b1,b2⟩ s' ⟨hb',rfl,vs,ws,ns',rN,hz,Er,hwi,hlen,hR⟩
   simp only at hb'
   subst hb'
   have hv:lexLt ns' rN=decide (items.size<items2.size):=by
    cases Er with
    |nil =>
     cases hwi with
     |nil =>
      simp only[List.length_nil]at hlen
      rw[acF]
      exact(decide_eq_false (by lia)).symm
     |cons c u hw =>
      simp only[List.length_nil,List.length_cons]at hlen
      rw[acG]
      exact(decide_eq_true (by lia)).symm
    |cons a t hv =>
     cases hwi with
     |nil =>
      simp only[List.length_nil,List.length_cons]at hlen
      rw[acH]
      exact(decide_eq_false (by lia)).symm
     |cons c u hw =>
      rw[List.zip_cons_cons]at hz
      cases hz
   rw[hv]at hR
   wp_walk
   exact⟨_,rfl,by simpa[Builtin.Tuple.tupleCompareSizes]using hR⟩
  case h =>
   exact⟨rfl,rfl,items.toList,items2.toList,ns,ms,rfl,hi,hj,by lia,h⟩
end
section
variable {prog:Program}{w:World}{A:Around}{E:Value->Shared->Prop}{s:Shared}
theorem acM(hl:IsTup s.heap l items)(hb:IsTup s.heap b items2)(hi:IntsAre items.toList ns)(hj:IntsAre items2.toList ms)
  (hu:A.units<cLine) (h:Q (.bool (lexLt ns ms)) s):wpAny (model prog w) A (compareOp .Lt (.ref l) (.ref b)) Q E s:=by
 obtain⟨⟨cls,dd,data,sl⟩,ho,hc,n,hd⟩:=id hl
 obtain⟨⟨cls2,dd2,data2,sl2⟩,ho2,hc2,n2,hd2⟩:=id hb
 simp only at hc hd hc2 hd2
 subst hc hd hc2 hd2
 exact richCompare_meets_room (op:=.Lt) ⟨_,ho,rfl⟩ ⟨_,ho2,rfl⟩ PySem.F.slot_tuple_lt PySem.F.entry_tuple_lt (PySem.F.args_tuple_lt_2 _ _) (acJ l b items items2 n n2 dd dd2 sl sl2 ns ms hi hj)
  ⟨ho,ho2,show Value.bool (lexLt ns ms)≠Value.notImplemented/\Q (.bool (lexLt ns ms)) s from⟨(λx=>nomatch x),h⟩⟩ hu
theorem acN(ht:IsTup s.heap t vs.toArray)(hb:IsTup s.heap b ws.toArray)(hv:vs≠[])
  (h1:ws=[]->Q (.ref t) s) (h2:ws≠[]->Q (.ref s.heap.objs.size) {s with heap:=s.heap.push {cls:=.type "tuple",data:=.seq (vs++ws).toArray } })
  (hsz:vs.length+ws.length<=sizeLine):wpAny (model prog w) A (binaryOp .Add (.ref t) (.ref b)) Q E s:=by
 obtain⟨⟨cls,dd,data,sl⟩,ho,hc,n,hd⟩:=id ht
 obtain⟨⟨cls2,dd2,data2,sl2⟩,ho2,hc2,n2,hd2⟩:=id hb
 simp only at hc hd hc2 hd2
 subst hc hd hc2 hd2
 have e:vs.toArray++ws.toArray=(vs++ws).toArray:=by simp
 by_cases hw:ws=[]
 .exact concat_meets ⟨_,ho,rfl⟩ ⟨_,ho2,rfl⟩ noFill_tuple_add seq_tuple_add PySem.F.slot_tuple_add PySem.F.entry_tuple_add (PySem.F.args_tuple_add_2 _ _)
   (tuple_addW1 t b vs.toArray ws.toArray n n2 dd dd2 sl sl2 (by simpa using hv) (by simp[hw])) ⟨ho,ho2,h1 hw⟩
 .refine concat_meets ⟨_,ho,rfl⟩ ⟨_,ho2,rfl⟩ noFill_tuple_add seq_tuple_add PySem.F.slot_tuple_add PySem.F.entry_tuple_add (PySem.F.args_tuple_add_2 _ _)
   (tuple_addW2 t b vs.toArray ws.toArray n n2 dd dd2 sl sl2 (by simpa using hv) (by simpa using hw) (by rw[List.size_toArray,List.size_toArray]; exact hsz)) ⟨ho,ho2,?_⟩
  rw[e]
  exact h2 hw
noncomputable def aO(n d:Nat):Option Int->Nat
 |none=>d
 |some v=>if v<0 then(v+(n:Int)).toNat else min v.toNat n
theorem acO(n d:Nat)(hd:d<=n)(o:Option Int):aO n d o<=n:=by
 cases o with
 |none=>exact hd
 |some v =>
  show(if v<0 then(v+(n:Int)).toNat else min v.toNat n)<=n
  by_cases hv:v<0
  .rw[if_pos hv]; lia
  .rw[if_neg hv]; exact Nat.min_le_right _ _
theorem Qm(v:Int)(n d:Nat):(if v<0 then max (v+(n:Int)) 0 else min v (n:Int))=((aO n d (some v):Nat):Int):=by
 show(if v<0 then max (v+(n:Int)) 0 else min v (n:Int))=(((if v<0 then(v+(n:Int)).toNat else min v.toNat n):Nat):Int)
 by_cases hv:v<0
 .simp only[if_pos hv]; lia
 .simp only[if_neg hv]; lia
theorem acP(lo hi:Option Int)(n:Nat):Builtin.Slice.sliceAdjust lo hi 1 (n:Int)=(((aO n 0 lo:Nat):Int),((aO n n hi:Nat):Int)):=by
 have h1:¬((1:Int)<0):=by lia
 unfold Builtin.Slice.sliceAdjust
 simp only[h1,if_false]
 refine Prod.ext ?_ ?_
 .cases lo with
  |none=>rfl
  |some v=>exact Qm v n 0
 .cases hi with
  |none=>rfl
  |some v=>exact Qm v n n
theorem acQ(i j:Nat):Builtin.Slice.slicePlaces (i:Int) (j:Int) 1=j-i:=by
 unfold Builtin.Slice.slicePlaces
 have h1:(1:Int) > 0:=by lia
 simp only[h1,if_true,Int.ediv_one]
 split <;> lia
theorem Qn(p:IsPart v o)(h:Q o s):wpAny (model prog w) A (Builtin.Slice.slicePartIndex v) Q E s:=by
 cases p with
 |none=>exact slicePart_none h
 |int i t=>exact slicePart_int h
theorem acR{sl:Addr}{vl vu:Value}{lo hi:Option Int}{n:Nat}{Q:Int × Int × Nat->Shared->Prop}(hs:s.heap.IsSliceOf sl vl vu .none)(pl:IsPart vl lo)(pu:IsPart vu hi)
  (h:Q (((aO n 0 lo:Nat):Int),1,aO n n hi-aO n 0 lo) s):wpAny (model prog w) A (Builtin.Slice.sliceApplied (.ref sl) (pure (n:Int))) Q E s:=by
 obtain⟨os,hos,hcs,hds⟩:=id hs
 unfold Builtin.Slice.sliceApplied Builtin.Slice.sliceFields
 refine wpAny_bind (wpAny_bind (wpAny_field hos hds (x:=vl) rfl (wpAny_bind (wpAny_field hos hds (x:=vu) rfl (wpAny_bind (wpAny_field hos hds (x:=.none) rfl (wpAny_pure ?_)))))))
 refine wpAny_bind (slicePart_none ?_)
 show wpAny _ _ (if((1:Int) == 0)=true then _ else _) _ _ s
 rw[if_neg (by decide)]
 refine wpAny_bind (Qn pl (wpAny_bind (Qn pu (wpAny_bind (wpAny_pure ?_)))))
 show wpAny _ _ (match Builtin.Slice.sliceAdjust lo hi 1 (n:Int)with|(lo,hi)=>pure (lo,(1:Int),Builtin.Slice.slicePlaces lo hi 1)) _ _ s
 rw[acP lo hi n]
 show wpAny _ _ (pure (((aO n 0 lo:Nat):Int),(1:Int),Builtin.Slice.slicePlaces ((aO n 0 lo:Nat):Int) ((aO n n hi:Nat):Int) 1)) _ _ s
 rw[acQ]
 exact wpAny_pure h
theorem acS(xs:Array Value)(i k:Nat):((List.range k).filterMap λ(m:Nat)=>xs[((i:Int)+(m:Int)*1).toNat]?).toArray=((xs.toList.drop i).take k).toArray:=by
 have e:(λ(m:Nat)=>xs[((i:Int)+(m:Int)*1).toNat]?)=λm=>xs[i+m]? := by
  funext m
  have:((i:Int)+(m:Int)*1).toNat=i+m:=by lia
  rw[this]
 rw[e]
 have:=pick_run xs i k
 rw[List.filterMap_map]at this
 have e2:((λx=>xs[x]?) ∘ λx=>i+x)=λm=>xs[i+m]? := rfl
 rw[e2]at this
 rw[this]
theorem acT{t sl:Addr}{items:Array Value}{vl vu:Value}{lo hi:Option Int}{Q:Value->Shared->Prop}(ht:IsTup s.heap t items)(hs:s.heap.IsSliceOf sl vl vu .none)(pl:IsPart vl lo)(pu:IsPart vu hi)
  (hw:¬(aO items.size 0 lo=0/\aO items.size items.size hi=items.size))
  (h:Q (.ref s.heap.objs.size) {s with heap:=s.heap.push {cls:=.type "tuple",data:=.seq ((items.toList.drop (aO items.size 0 lo)).take (aO items.size items.size hi-aO items.size 0 lo)).toArray } })
  (hsz:items.size<=sizeLine):wpAny (model prog w) A (getItem (.ref t) (.ref sl)) Q E s:=by
 have yN:sizeOk (.seq ((items.toList.drop (aO items.size 0 lo)).take (aO items.size items.size hi-aO items.size 0 lo)).toArray):=by
  show((items.toList.drop (aO items.size 0 lo)).take (aO items.size items.size hi-aO items.size 0 lo)).toArray.size<=sizeLine
  rw[List.size_toArray,List.length_take,List.length_drop,Array.length_toList]
  lia
 have hj:aO items.size items.size hi<=items.size:=acO _ _ (Nat.le_refl _) hi
 obtain⟨os,hos,hcs,hds⟩:=id hs
 have hTs:s.TypeIs (.ref sl) "slice" := ⟨os,hos,hcs⟩
 unfold getItem
 try with_reducible refine wpAny_holding ?_
 first|refine wpAny_bind (wpAny_pure ?_)|skip
 refine wpAny_bind (wpAny_sequenceKey ht.typeIs (by decide) ?_)
 refine wpAny_bind (wpAny_callSpecial?_slot (name:=Str.ofString "__getitem__") ht.typeIs PyProof.Rows.slot_tuple_getitem
  (wpAny_call_entry PyProof.Rows.slot_tuple_getitem ht.typeIs entry_tuple_getitem ?_ (args_tuple_getitem _ _)))
 show wpAny _ _ (Builtin.Tuple.tupleItemsOf (.ref t) >>= _) _ _ s
 refine wpAny_bind (tupleItemsOf_ ht ?_)
 refine wpAny_bind (wpAny_typeOf hTs ?_)
 rw[if_pos (by decide)]
 refine wpAny_bind (acR hs pl pu ?_)
 have hno:¬((((aO items.size 0 lo:Nat):Int) == 0&&(1:Int) == 1&&(aO items.size items.size hi-aO items.size 0 lo) == items.size)=true):=by
  intro q
  rw[Bool.and_eq_true,Bool.and_eq_true]at q
  have q1:((aO items.size 0 lo:Nat):Int)=0:=eq_of_beq q.1.1
  have q2:aO items.size items.size hi-aO items.size 0 lo=items.size:=eq_of_beq q.2
  exact hw ⟨by lia,by lia⟩
 show wpAny _ _ (if(((aO items.size 0 lo:Nat):Int) == 0&&(1:Int) == 1&&(aO items.size items.size hi-aO items.size 0 lo) == items.size)=true then _ else _) _ _ s
 rw[if_neg hno,acS]
 first
  |exact wpAny_bind (m:=Builtin.Tuple.tupleExact _) (wpAny_newObj_type (wpAny_pure ⟨_,rfl,wpAny_pure h⟩) yN)
  |exact wpAny_bind (m:=Builtin.Tuple.tupleExact _) (wpAny_newObj_type (wpAny_bind (wpAny_pure (wpAny_pure ⟨_,rfl,wpAny_pure h⟩))) yN)
  |exact wpAny_bind (wpAny_bind (m:=Builtin.Tuple.tupleExact _) (wpAny_newObj_type (wpAny_pure (wpAny_pure ⟨_,rfl,wpAny_pure h⟩)) yN))
  |exact wpAny_bind (wpAny_bind (m:=Builtin.Tuple.tupleExact _) (wpAny_newObj_type (wpAny_pure ⟨_,rfl,wpAny_pure h⟩) yN))
end
end HT
namespace L2
open PySem PySem.Spec PyProof.Rows
abbrev TO:=St->Hp->(Option Int->Hp->Prop)->Prop
def PO(X:Cx)(e:Option Expr)(t:TO):Prop :=
 ∀(pins:LO) (s:Shared) (σ : St) (H:Hp) (Q:Option Int->Hp->Prop),Inv X pins σ H s->t σ H Q ->
  wpAny (model X.prog X.w) X.A (evalPart e X.env) (λu s'=>∃o H',Inv X pins σ H' s'/\IsPart u o/\Q o H') X.xe s
def acU:TO:=λ_ H Q=>Q none H
def acV(t:TE):TO:=λσ H Q=>t σ H λx H1=>∃i,x=.int i/\Q (some i) H1
theorem intsAre_of:∀{us:List Value},Vals (ns.map V.int) us->IntsAre us ns:=by
 induction ns with
 |nil=>intro us r; rw[List.map_nil]at r; cases r; exact .nil
 |cons n ns ih =>
  intro us r
  rw[List.map_cons]at r
  cases r with
  |cons r1 r2 =>
   obtain⟨t,e⟩:=r1
   subst e
   exact .cons n t (ih r2)
section
variable {X:Cx}{e:Expr}{te:TE}{lo hi:Option Expr}{tl th:TO}{pos p2:Pos}
theorem acW:PO X none acU:=by
 intro pins s σ H Q I h
 rw[evalPart_none]
 exact wpAny_pure ⟨none,H,I,.none,h⟩
theorem acX(h:PE X e te):PO X (some e) (acV te):=by
 intro pins s σ H Q I hw
 rw[evalPart_some]
 refine aC (h pins s σ H _ I hw) λu s1 ⟨x,H1,I1,r1,q1⟩=>?_
 obtain⟨i,rfl,q⟩:=q1
 obtain⟨t,rfl⟩:=r1
 exact⟨some i,H1,I1,.int i t,q⟩
def lY(X:Cx)(r:V->Option Int->Option Int->Hp->VK->Prop):Prop :=
 ∀(pins:LO) (s:Shared) (σ : St) (H:Hp) (x:V) (v vl vu:Value) (lo hi:Option Int) (sl:Addr) (Q:VK),Inv X pins σ H s->RelV x v->s.heap.IsSliceOf sl vl vu .none->IsPart vl lo->IsPart vu hi->r x lo hi H Q ->
  ∃T id,typeLookup (.type T) "__getitem__" = pure (some (.builtin id))/\s.TypeIs v T/\wpAny (model X.prog X.w) X.A (getItem v (.ref sl)) (EP X pins σ Q) X.xe s
theorem lY.or(h:lY X r)(h':lY X r'):lY X (λx lo hi H Q=>r x lo hi H Q\/r' x lo hi H Q):=by
 intro pins s σ H x v vl vu lo hi sl Q I rx hs pl pu q
 rcases q with q|q
 .exact h pins s σ H x v vl vu lo hi sl Q I rx hs pl pu q
 .exact h' pins s σ H x v vl vu lo hi sl Q I rx hs pl pu q
def tSl(r:V->Option Int->Option Int->Hp->VK->Prop)(te:TE)(tl th:TO):TE:=λσ H Q=>te σ H λx H1=>tl σ H1 λl H2=>th σ H2 λu H3=>r x l u H3 Q
theorem acY(hr:lY X r)(he:PE X e te)(hl:PO X lo tl)(hu:PO X hi th):PE X (.Subscript e (.Slice lo hi none p2) pos) (tSl r te tl th):=by
 refine⟨λpins s σ H Q I h=>?_⟩
 refine Subscript_ (aC (he pins s σ H _ I h) λv s1 ⟨x,H1,I1,r1,q1⟩=>?_)
 refine wpAny_Slice (aC (hl pins s1 σ H1 _ I1 q1) λvl s2 ⟨l,H2,I2,pl,q2⟩=>aC (hu pins s2 σ H2 _ I2 q2) λvu s3 ⟨u,H3,I3,pu,q3⟩=>?_)
 rw[evalPart_none]
 refine wpAny_pure ?_
 have I4:Inv X pins σ H3 {s3 with heap:=s3.heap.push {cls:=.type "slice",data:=.fields #[vl,vu,.none] } }:=I3.kept (t':=s3.toks) λb ob q=>Heap.get?_push_of_some _ q
 obtain⟨T,id,hT,ht,hg⟩:=hr pins {s3 with heap:=s3.heap.push {cls:=.type "slice",data:=.fields #[vl,vu,.none] } } σ H3 x v vl vu l u s3.heap.objs.size Q I4 r1 (Heap.IsSliceOf.new ..) pl pu q3
 show wpAny (model X.prog X.w) X.A (subscriptTail e (.Slice lo hi none p2) v (.ref s3.heap.objs.size)) (EP X pins σ Q) X.xe {s3 with heap:=s3.heap.push {cls:=.type "slice",data:=.fields #[vl,vu,.none] } }
 exact tail_any (ops:=[.ref s3.heap.objs.size,v]) ht hT hg (by with_unfolding_all rfl)
noncomputable def oH(xs:List V)(lo hi:Option Int):List V:=(xs.drop (HT.aO xs.length 0 lo)).take (HT.aO xs.length xs.length hi-HT.aO xs.length 0 lo)
theorem Qo(xs:List V)(lo hi:Option Int):(oH xs lo hi).length<=xs.length:=by
 unfold oH
 rw[List.length_take,List.length_drop]
 lia
def Qp(K:FZ):V->Option Int->Option Int->Hp->VK->Prop:=λx lo hi H Q=>∃a xs,x=.ref a/\bh K H a xs /\
 ¬(HT.aO xs.length 0 lo=0/\HT.aO xs.length xs.length hi=xs.length)/\∀p,H p=none->Q (.ref p) (upd H p (.tup (oH xs lo hi)))
theorem acZ:lY X (Qp X.K):=by
 intro pins s σ H x v vl vu lo hi sl Q I rx hs pl pu h
 obtain⟨a,xs,rfl,hx,hw,q⟩:=h
 cases rx
 obtain⟨its,r,ht,hz⟩:=I.tuple hx
 have hlen:its.toArray.size=xs.length:=by rw[List.size_toArray]; exact r.length.symm
 refine⟨"tuple",_,PyProof.Rows.slot_tuple_getitem.lookup,ht.typeIs,?_⟩
 refine HT.acT ht hs pl pu (by rw[hlen]; exact hw) ?_ (by rw[hlen]; exact hz)
 rw[hlen]
 refine⟨.ref s.heap.objs.size,_,I.laid (t':=s.toks) (o:=.tup (oH xs lo hi)) (λb ob q=>Heap.get?_push_of_some _ q) (Nat.le_refl _) ?_,rfl,q _ (I.hok.fresh (Nat.le_refl _))⟩
 exact⟨Nat.le_trans (Qo xs lo hi) hz,_,(r.drop (HT.aO xs.length 0 lo)).take (HT.aO xs.length xs.length hi-HT.aO xs.length 0 lo),IsTup.new _ _⟩
def Qq(K:FZ):R2:=λx y H Q=>∃a b ns ms,x=.ref a/\y=.ref b/\bh K H a (ns.map V.int)/\bh K H b (ms.map V.int)/\Q (.bl (HT.lexLt ns ms)) H
theorem ac0(hu:X.A.units<cLine):aY X (compareOp .Lt) (Qq X.K):=by
 intro pins s σ H x y v u Q I rx ry h
 obtain⟨a,b,ns,ms,rfl,rfl,ha,hb,q⟩:=h
 cases rx
 cases ry
 obtain⟨its,r1,p1,_⟩:=I.tuple ha
 obtain⟨its2,r2,p2,_⟩:=I.tuple hb
 have i1:IntsAre its.toArray.toList ns:=intsAre_of r1
 have i2:IntsAre its2.toArray.toList ms:=intsAre_of r2
 exact HT.acM p1 p2 i1 i2 hu ⟨.bl (HT.lexLt ns ms),H,I,rfl,q⟩
def Qs(K:FZ):R2:=λx y H Q=>∃a b xs ys,x=.ref a/\y=.ref b/\bh K H a xs/\bh K H b ys/\xs≠[]/\xs.length+ys.length<=sizeLine /\
 (ys=[]->Q (.ref a) H)/\(ys≠[]->∀p,H p=none->Q (.ref p) (upd H p (.tup (xs++ys))))
theorem Vals.Es(r:Vals xs us):us=[]↔xs=[]:=by
 cases r with
 |nil=>simp
 |cons _ _=>simp
theorem ac1:aY X (binaryOp .Add) (Qs X.K):=by
 intro pins s σ H x y v u Q I rx ry h
 obtain⟨a,b,xs,ys,rfl,rfl,ha,hb,hx,hz,q1,q2⟩:=h
 cases rx
 cases ry
 obtain⟨its,r1,p1,_⟩:=I.tuple ha
 obtain⟨its2,r2,p2,_⟩:=I.tuple hb
 refine HT.acN p1 p2 (λz=>hx (r1.Es.mp z)) (λz=>⟨.ref a,H,I,rfl,q1 (r2.Es.mp z)⟩) (λz=>?_) (by rw[<-r1.length,<-r2.length]; exact hz)
 refine⟨.ref s.heap.objs.size,_,I.laid (t':=s.toks) (o:=.tup (xs++ys)) (λb ob q=>Heap.get?_push_of_some _ q) (Nat.le_refl _) ?_,rfl,q2 (λw=>z (r2.Es.mpr w)) _ (I.hok.fresh (Nat.le_refl _))⟩
 exact⟨by rw[List.length_append]; exact hz,_,r1.append r2,IsTup.new _ _⟩
end
noncomputable def gC(n:Nat)(i:Int):Option Nat:=if 0<=i then(if i<n then some i.toNat else none)else if -(n:Int)<=i then some (i+n).toNat else none
noncomputable def dZ{α : Type}(xs:List α)(i:Int):Option α := (gC xs.length i).bind λj=>xs[j]?
theorem Qt(h:gC n i=some j):seqIndex? i n=some j/\j<n /\ -(n:Int)<=i/\i<n:=by
 unfold gC at h
 by_cases h0:0<=i
 .rw[if_pos h0]at h
  by_cases h1:i<n
  .rw[if_pos h1]at h
   have e:i.toNat=j:=Option.some.inj h
   exact⟨by rw[seqIndex_of h0 h1,e],by lia,by lia,h1⟩
  .rw[if_neg h1]at h; cases h
 .rw[if_neg h0]at h
  by_cases h1 : -(n:Int)<=i
  .rw[if_pos h1]at h
   have e:(i+n).toNat=j:=Option.some.inj h
   exact⟨by rw[seqIndex_neg (by lia) h1,e],by lia,h1,by lia⟩
  .rw[if_neg h1]at h; cases h
theorem Et{α : Type}{xs:List α}{i:Int}{v : α}(h:dZ xs i=some v):∃j,seqIndex? i xs.length=some j/\xs[j]?=some v/\j<xs.length /\ -(xs.length:Int)<=i/\i<xs.length:=by
 unfold dZ at h
 cases e:gC xs.length i with
 |none=>rw[e]at h; cases h
 |some j =>
  rw[e]at h
  obtain⟨h1,h2,h3,h4⟩:=Qt e
  exact⟨j,h1,h,h2,h3,h4⟩
def Qu(b:Expr):Prop:=∀o i,subscripted b false o i=operate [o,i] (getItem o i)
def lZ(X:Cx)(r:R2):Prop :=
 ∀(value slice:Expr) (pins:LO) (s:Shared) (σ : St) (H:Hp) (x y:V) (v u:Value) (Q:VK),Inv X pins σ H s->RelV x v->RelV y u->r x y H Q ->
  subscripted slice false v u=operate [v,u] (getItem v u)->wpAny (model X.prog X.w) X.A (subscriptTail value slice v u) (EP X pins σ Q) X.xe s
def MtR(X:Cx)(id:String)(r:V->List V->Hp->VK->Prop):Prop :=
 ∀(pins:LO) (s:Shared) (σ : St) (H:Hp) (x:V) (xs:List V) (v:Value) (us:List Value) (Q:VK),Inv X pins σ H s->RelV x v->Vals xs us->r x xs H Q ->
  wpAny (model X.prog X.w) X.A (call (.builtin id) (v::us)) (EP X pins σ Q) X.xe s
section
variable {X:Cx}{a b:Expr}{ta tb:TE}{pos:Pos}
theorem lZ.or(h:lZ X r)(h':lZ X r'):lZ X (λx y H Q=>r x y H Q\/r' x y H Q):=by
 intro value slice pins s σ H x y v u Q I rx ry q hs
 rcases q with q|q
 .exact h value slice pins s σ H x y v u Q I rx ry q hs
 .exact h' value slice pins s σ H x y v u Q I rx ry q hs
theorem Eu(hr:lZ X r)(ha:PE X a ta)(hb:PE X b tb)(hs:Qu b):PE X (.Subscript a b pos) (uR r ta tb):=by
 refine⟨λpins s σ H Q I h=>?_⟩
 exact Subscript_ (Eh ha hb I h λv u s2 x y H2 I2 rx ry q=>hr a b pins s2 σ H2 x y v u Q I2 rx ry q (hs _ _))
def Qv(K:FZ):R2:=λx y H Q=>∃p xs i v,x=.ref p/\y=.int i/\aF K H p xs/\dZ xs i=some v/\Q v H
def Qw(K:FZ):R2:=λx y H Q=>∃p xs i v,x=.ref p/\y=.int i/\bh K H p xs/\dZ xs i=some v/\Q v H
def Qx:R2:=λx y H Q=>∃z i c,x=.str z/\y=.int i/\z.length<=sizeLine/\dZ z.cps.toList i=some c/\Q (.str ⟨#[c]⟩) H
theorem ac2:lZ X (Qv X.K):=by
 intro value slice pins s σ H x y v u Q I rx ry h hs
 obtain⟨p,xs,i,z,rfl,rfl,hq,he,q⟩:=h
 cases rx
 obtain⟨t,rfl⟩:=ry
 obtain⟨its,r,pl,hz⟩:=I.list hq
 obtain⟨j,h1,h2,h3,h4,h5⟩:=Et he
 obtain⟨w,ew,lX⟩:=r.get h2
 have hl:=r.length
 have hn:=oA
 have fin:EP X pins σ Q w s:=⟨z,H,I,lX,q⟩
 by_cases h0:0<=i
 .have hj:i.toNat=j:=by
   rw[seqIndex_of h0 h5]at h1
   exact Option.some.inj h1
  exact item_listR pl.isList h0 (by lia) (by rw[hj]; simpa using ew) fin hs
 .have hj:(i+(its.toArray.size:Int)).toNat=j:=by
   rw[seqIndex_neg (by lia) h4]at h1
   rw[List.size_toArray,<-hl]
   exact Option.some.inj h1
  exact subscriptTail_builtinR (x:=w) pl.isList.typeIs slot_list_getitem.lookup
   (wpAny_getItem_list_neg (Q:=λr s'=>r=w/\EP X pins σ Q r s') pl.isList (by lia) (by rw[List.size_toArray] <;> lia) (by lia) (by rw[hj]; simpa using ew) ⟨rfl,fin⟩) hs
theorem ac3:lZ X (Qw X.K):=by
 intro value slice pins s σ H x y v u Q I rx ry h hs
 obtain⟨p,xs,i,z,rfl,rfl,hq,he,q⟩:=h
 cases rx
 obtain⟨t,rfl⟩:=ry
 obtain⟨its,r,pl,hz⟩:=I.tuple hq
 obtain⟨j,h1,h2,h3,h4,h5⟩:=Et he
 obtain⟨w,ew,lX⟩:=r.get h2
 have hl:=r.length
 have hn:=oA
 have fin:EP X pins σ Q w s:=⟨z,H,I,lX,q⟩
 exact subscriptTail_builtinR (x:=w) pl.typeIs slot_tuple_getitem.lookup
  (getItem_tuple (j:=j) (Q:=λr s'=>r=w/\EP X pins σ Q r s') pl (by lia) (by lia) (by rw[List.size_toArray,<-hl]; exact h1) (by simpa using ew) ⟨rfl,fin⟩) hs
theorem ac4:lZ X Qx:=by
 intro value slice pins s σ H x y v u Q I rx ry h hs
 obtain⟨z,i,c,rfl,rfl,hz,he,q⟩:=h
 obtain⟨t,rfl⟩:=rx
 obtain⟨t',rfl⟩:=ry
 obtain⟨j,h1,h2,h3,h4,h5⟩:=Et he
 have hl:z.cps.toList.length=z.length:=by simp[Str.length]
 rw[hl]at h1 h4 h5
 have hn:=oA
 exact tail_any (typeIs_str s z t) slot_str_getitem.lookup (getItem_str (c:=c) (by
  have e1:decide (i < -(2 ^ 63:Int))=false:=decide_eq_false (by lia)
  have e2:decide (i >= 2 ^ 63)=false:=decide_eq_false (by lia)
  rw[e1,e2,Bool.or_false]) (by rw[h1]; simpa using h2) ⟨.str ⟨#[c]⟩,H,I.tok _,⟨_,rfl⟩,q⟩) hs
def Qy(K:FZ):R2:=λx y H Q=>Qv K x y H Q\/Qw K x y H Q\/Qx x y H Q
theorem Ew:lZ X (Qy X.K):=ac2.or (ac3.or ac4)
theorem ac5(its:List Value)(n j:Nat)(u:Value):Obj.mapSeq (·.setIfInBounds j u) {cls:=.type "list",data:=.seq its.toArray n }={cls:=.type "list",data:=.seq (its.set j u).toArray n }:=by
 simp[Obj.mapSeq]
theorem Inv.lst{pins:LO}{σ : St}{H:Hp}{s:Shared}{p:Addr}{xs:List V}(I:Inv X pins σ H s)(h:H p=some (.lst xs)) :
  ∃(its:List Value) (n:Nat),Vals xs its/\s.heap.get? p=some {cls:=.type "list",data:=.seq its.toArray n }/\xs.length<=sizeLine:=by
 obtain⟨z,its,n,r,e⟩:=I.hok p _ h
 exact⟨its,n,r,e,z⟩
theorem Inv.ac6{pins:LO}{σ : St}{H:Hp}{s:Shared}{p:Addr}{xs ys:List V}{its its':List Value}{n n':Nat}{f:Obj->Obj}(I:Inv X pins σ H s)(h:H p=some (.lst xs))
  (ho:s.heap.get? p=some {cls:=.type "list",data:=.seq its.toArray n }) (hf:f {cls:=.type "list",data:=.seq its.toArray n }={cls:=.type "list",data:=.seq its'.toArray n' }) (r:Vals ys its') (hz:ys.length<=sizeLine) (t:Nat) :
  Inv X pins σ (upd H p (.lst ys)) {s with heap:=s.heap.update p f,toks:=t }:=by
 have e:(s.heap.update p f).get? p=some {cls:=.type "list",data:=.seq its'.toArray n' }:=by
  rw[Heap.get?_update_self f ho (by rw[hf] <;> rfl),hf]
 refine I.write (x:=p) (e:=p) (by rw[h]; trivial) (.inl rfl) (λb u hb q=>(Heap.get?_update_other _ _ (Ne.symm hb)).trans q) ⟨_,e⟩ ?_
 exact⟨hz,its',n',r,e⟩
def ac7:V->V->V->Hp->(Hp->Prop)->Prop:=λo i v H Q=>∃p xs k j,o=.ref p/\i=.int k/\H p=some (.lst xs)/\gC xs.length k=some j/\Q (upd H p (.lst (xs.set j v)))
theorem set_list:DN X ac7:=by
 intro pins s σ H o i v ov iv u Q I ro ri rv h
 obtain⟨p,xs,k,j,rfl,rfl,hp,hj,q⟩:=h
 cases ro
 obtain⟨t,rfl⟩:=ri
 obtain⟨its,n,r,ho,hz⟩:=I.lst hp
 obtain⟨h1,h2,h3,h4⟩:=Qt hj
 have hl:=r.length
 have hn:=oA
 have I':Inv X pins σ (upd H p (.lst (xs.set j v))) {s with heap:=s.heap.update p (Obj.mapSeq (·.setIfInBounds j u)) } :=
  I.ac6 hp ho (ac5 its n j u) (r.set rv j) (by rw[List.length_set]; exact hz) s.toks
 by_cases h0:0<=k
 .have hk:k.toNat=j:=by
   rw[seqIndex_of h0 h4]at h1
   exact Option.some.inj h1
  exact PySem.W.ki_setAt ho h0 (by lia) (by rw[List.size_toArray,<-hl]; exact h4) (by rw[hk]; exact⟨_,I',q⟩)
 .have hk:(k+(its.toArray.size:Int)).toNat=j:=by
   rw[seqIndex_neg (by lia) h3]at h1
   rw[List.size_toArray,<-hl]
   exact Option.some.inj h1
  exact PySem.W.ki_setBack ho (by lia) (by rw[List.size_toArray,<-hl]; exact h3) (by lia) (by rw[hk]; exact⟨_,I',q⟩)
theorem ac8(lo hi:Option Int)(n:Nat):(sliceBounds lo hi none n).1=((HT.aO n 0 lo:Nat):Int)/\(sliceBounds lo hi none n).2.1=((HT.aO n n hi:Nat):Int)/\(sliceBounds lo hi none n).2.2=1:=by
 refine⟨?_,?_,rfl⟩
 .cases lo with
  |none=>simp[sliceBounds,HT.aO]
  |some i =>
   simp only[sliceBounds,HT.aO,Option.getD_none,show(1:Int) > 0 by decide,if_true]
   by_cases h:i<0
   .simp only[h,if_true] <;> lia
   .simp only[h,if_false] <;> lia
 .cases hi with
  |none=>simp[sliceBounds,HT.aO]
  |some i =>
   simp only[sliceBounds,HT.aO,Option.getD_none,show(1:Int) > 0 by decide,if_true]
   by_cases h:i<0
   .simp only[h,if_true] <;> lia
   .simp only[h,if_false] <;> lia
theorem ac9(its:List Value)(lo hi:Option Int):slicePick its.toArray lo hi none=((its.drop (HT.aO its.length 0 lo)).take (HT.aO its.length its.length hi-HT.aO its.length 0 lo)).toArray:=by
 obtain⟨h1,h2,h3⟩:=ac8 lo hi its.toArray.size
 unfold slicePick
 rw[h1,h2,h3]
 simp only[sliceRange_one,pick_run,List.size_toArray] <;> rfl
def Qz(K:FZ):V->Option Int->Option Int->Hp->VK->Prop:=λx lo hi H Q=>∃a xs,x=.ref a/\aF K H a xs/\∀p,H p=none->Q (.ref p) (upd H p (.lst (oH xs lo hi)))
theorem ada:lY X (Qz X.K):=by
 intro pins s σ H x v vl vu lo hi sl Q I rx hs pl pu h
 obtain⟨a,xs,rfl,hx,q⟩:=h
 cases rx
 obtain⟨its,r,ht,hz⟩:=I.list hx
 have hlen:=r.length
 refine⟨"list",_,slot_list_getitem.lookup,ht.isList.typeIs,?_⟩
 refine wpAny_getItem_list_slice ht.isList hs pl pu .none (by simp) ?_ (by rw[List.size_toArray] <;> lia)
 rw[ac9,<-hlen]
 refine⟨.ref s.heap.objs.size,_,I.laid (t':=s.toks) (o:=.lst (oH xs lo hi)) (λb ob q=>Heap.get?_push_of_some _ q) (Nat.le_refl _) ?_,rfl,q _ (I.hok.fresh (Nat.le_refl _))⟩
 exact⟨Nat.le_trans (Qo xs lo hi) hz,_,0,(r.drop (HT.aO xs.length 0 lo)).take (HT.aO xs.length xs.length hi-HT.aO xs.length 0 lo),Heap.get?_push_size _ rfl⟩
theorem adb:fX X (.builtin "len") (λxs H Q=>∃p ys,xs=[.ref p]/\(aF X.K H p ys\/bh X.K H p ys)/\Q (.int ys.length) H):=by
 intro pins s σ H xs us Q I r h
 obtain⟨p,ys,rfl,hq,q⟩:=h
 obtain⟨u,rfl,rx⟩:=vals1 r
 cases rx
 have hn:=oA
 rcases hq with hq|hq
 .obtain⟨its,r',pl,hz⟩:=I.list hq
  have hlen:=r'.length
  exact Calls.call_len_list pl.isList (by simp only[List.size_toArray] <;> lia) ⟨.int ys.length,H,I.tok _,⟨s.toks+1,by rw[List.size_toArray,hlen]⟩,q⟩
 .obtain⟨its,r',pl,hz⟩:=I.tuple hq
  have hlen:=r'.length
  exact len_tuple pl (by simp only[List.size_toArray] <;> lia) ⟨.int ys.length,H,I.tok _,⟨s.toks+1,by rw[List.size_toArray,hlen]⟩,q⟩
theorem ade:fX X (.builtin "len") (λxs H Q=>∃z,xs=[.str z]/\z.length<=sizeLine/\Q (.int z.length) H):=by
 intro pins s σ H xs us Q I r h
 obtain⟨z,rfl,hz,q⟩:=h
 obtain⟨u,rfl,t,rfl⟩:=vals1 r
 have hn:=oA
 exact len_str (by lia) ⟨.int z.length,H,I.tok _,⟨_,rfl⟩,q⟩
theorem fX.or(h:fX X f r)(h':fX X f r'):fX X f (λxs H Q=>r xs H Q\/r' xs H Q):=by
 intro pins s σ H xs us Q I rs q
 rcases q with q|q
 .exact h pins s σ H xs us Q I rs q
 .exact h' pins s σ H xs us Q I rs q
def QB(K:FZ)(T:String)(x:V)(H:Hp):Prop:=match x with
 |.str _=>T = "str"
 |.int _=>T = "int"
 | .ref p=>(T = "list" ∧ ∃xs,aF K H p xs)∨(T = "tuple" ∧ ∃o,K.lookup p=some o∧o.cls=.type "tuple" ∧ o.dict=none)
 |_=>False
theorem adf(I:Inv X pins σ H s)(r:RelV x v)(ty:QB X.K T x H) :
  s.TypeIs v T/\∀a,v=.ref a->∃ob,s.heap.get? a=some ob/\ob.dict=none:=by
 cases x with
 |str z =>
  obtain⟨t,rfl⟩:=r
  cases(show T = "str" from ty)
  exact⟨typeIs_str s z t,λ_ e=>nomatch e⟩
 |int i =>
  obtain⟨t,rfl⟩:=r
  cases(show T = "int" from ty)
  exact⟨typeIs_int s i t,λ_ e=>nomatch e⟩
 |ref p =>
  cases r
  rcases ty with⟨rfl,xs,hq⟩|⟨rfl,o,hk,hc,hd⟩
  .obtain⟨its,_,pl,_⟩:=I.list hq
   refine⟨pl.isList.typeIs,λa e=>?_⟩
   cases e
   obtain⟨o,n,e,c,hd,_⟩:=pl
   exact⟨o,e,hd⟩
  .refine⟨⟨o,I.iD p o hk,hc⟩,λa e=>?_⟩
   cases e
   exact⟨o,I.iD _ o hk,hd⟩
 |_=>exact False.elim ty
def tBM(K:FZ)(T:String)(r:V->List V->Hp->VK->Prop)(to:TE)(t:TA):TE:=λσ H Q=>to σ H λx H1=>QB K T x H1/\t σ H1 λxs H2=>r x xs H2 Q
variable {o e:Expr}{es:List Expr}{to:TE}{t:TA}{name:Str}{apos cpos:Pos}{T id:String}{r:V->List V->Hp->VK->Prop}
theorem adg(pa:PlainAttrs T)(slot:Slot T name id)(hty:typeOf (.builtin id)=pure (.type "method_descriptor")) (hm:MtR X id r) (ho:PE X o to) (ha:PA X (e::es) t)
  (hbase:attributeBase o name X.env (eval o X.env)=eval o X.env:=by rfl)
  (hfew:((backTo cpos (starEach (e::es) X.env)).all (λx=>!x.1)&&(backToKw cpos (keywordEach [] X.env)).all (λx=>x.1.isSome)
   && decide ((e::es).length+([]:List Keyword).length+(if([]:List Keyword).isEmpty then 0 else 1)<30))=true:=by rfl)
  (hline:(apos.endLine == cpos.line)=true:=by rfl) (hs:starEach (e::es) X.env=(false,eval e X.env)::starEach es X.env:=by rfl) (hplain:(backTo cpos (starEach es X.env)).any (·.1)=false:=by rfl) :
  PE X (.Call (.Attribute o name apos) (e::es) [] cpos) (tBM X.K T r to t):=by
 refine⟨λpins s σ H Q I h=>?_⟩
 refine wpAny_Call_method_late hbase hfew hline rfl (aC (ho pins s σ H _ I h) λv s1 ⟨x,H1,I1,r1,ty,q1⟩=>?_)
 obtain⟨h1,h2⟩:=adf I1 r1 ty
 refine⟨T,id,pa,slot,hty,h1,h2,?_⟩
 have hA:=ha cpos pins s1 σ H1 _ I1 q1
 rw[hs]at hA ⊢
 refine Calls.callWith_builtin (by show(false || (backTo cpos (starEach es X.env)).any (·.1))=false; rw[hplain] <;> rfl) (Calls.evalArgs_plain ?_)
 exact aC hA λus s2 ⟨vs,H2,I2,r2,q2⟩=>hm pins s2 σ H2 x vs v us Q I2 r1 r2 q2
end
def QC(X:Cx)(id:String)(r:V->List V->Hp->VK->Prop):Prop :=
 ∀(pins:LO) (s:Shared) (σ : St) (H:Hp) (x:V) (xs:List V) (v:Value) (us:List Value) (Q:VK),Inv X pins σ H s->RelV x v->Vals xs us->r x xs H Q ->
  wpAny (model X.prog X.w) X.A (call (.builtin id) (v::us)) (EP X pins σ Q) X.xe s
theorem Vals.one:∀{x:V} {us:List Value},Vals [x] us->∃u,us=[u]/\RelV x u
 |_,_,.cons r .nil=>⟨_,rfl,r⟩
theorem Vals.rep(h:Vals xs us):∀k:Nat,Vals (List.replicate k xs).flatten (List.replicate k us).flatten
 | 0=>.nil
 |k+1=>by
  rw[List.replicate_succ,List.replicate_succ,List.flatten_cons,List.flatten_cons]
  exact Vals.append h (Vals.rep h k)
theorem foldl_rep(its:List Value):∀(k:Nat) (acc:List Value),
  List.foldl (λx1 x2=>x1++x2) acc.toArray (List.replicate k its.toArray)=(acc++(List.replicate k its).flatten).toArray
 | 0,acc=>by simp
 |k+1,acc=>by
  have e:acc.toArray++its.toArray=(acc++its).toArray:=by simp
  have e2:(acc++its)++(List.replicate k its).flatten=acc++(List.replicate (k+1) its).flatten:=by
   rw[List.replicate_succ,List.flatten_cons,List.append_assoc]
  rw[<-e2,<-foldl_rep its k (acc++its),<-e,List.replicate_succ,List.foldl_cons]
section
variable {X:Cx}{pins:LO}{σ : St}{H:Hp}{s:Shared}{l b:Addr}{xs ys zs:List V}
theorem Inv.adh{its its':List Value}{n:Nat}{f:Array Value->Array Value}{t':Nat}(I:Inv X pins σ H s)(hH:H l=some (.lst xs))
  (e:s.heap.get? l=some {cls:=.type "list",data:=.seq its.toArray n }) (hf:f its.toArray=its'.toArray) (hv:Vals ys its') (hz:ys.length<=sizeLine) :
  Inv X pins σ (upd H l (.lst ys)) {s with heap:=s.heap.update l (Obj.mapSeq f),toks:=t' }:=by
 have q:=PySem.IsL.update e f
 rw[hf]at q
 refine I.write (x:=l) (e:=l) (by rw[hH]; exact trivial) (.inl rfl) (λb' u hb hu=>(Heap.get?_update_other s.heap (Obj.mapSeq f) (Ne.symm hb)).trans hu) ⟨_,q⟩ ?_
 exact⟨hz,its',_,hv,q⟩
theorem Inv.yP(I:Inv X pins σ H s)(hv:Vals ys its)(hz:ys.length<=sizeLine) :
  Inv X pins σ (upd H s.heap.objs.size (.lst ys)) {s with heap:=s.heap.push {cls:=.type "list",data:=.seq its.toArray },toks:=t' } :=
 I.laid (λ_ _ q=>Heap.get?_push_of_some _ q) (Nat.le_refl _) ⟨hz,its,0,hv,Heap.get?_push_size _ rfl⟩
theorem Inv.fresh(I:Inv X pins σ H s):H s.heap.objs.size=none:=I.hok.fresh (Nat.le_refl _)
theorem Inv.adi(I:Inv X pins σ H s)(hH:H l=some (.lst xs)):xs.length<=sizeLine/\∃(its:List Value) (n:Nat),Vals xs its/\xs.length=its.length/\s.heap.get? l=some {cls:=.type "list",data:=.seq its.toArray n }:=by
 obtain⟨z,its,n,r,e⟩:=I.hok l _ hH
 exact⟨z,its,n,r,r.length,e⟩
theorem adk{n:Nat}(h:n<=sizeLine):Builtin.List.listTooLong n=false:=by
 unfold Builtin.List.listTooLong
 exact decide_eq_false (by lia)
end
section
variable {X:Cx}
def Ez:V->List V->Hp->VK->Prop:=λx vs H Q=>∃l xs y,x=.ref l/\vs=[y]/\H l=some (.lst xs)/\xs.length<sizeLine/\Q .non (upd H l (.lst (xs++[y])))
theorem EY:QC X "list.append" Ez:=by
 intro pins s σ H x vs v us Q I rx rv h
 obtain⟨l,xs,y,rfl,rfl,hH,hz,q⟩:=h
 cases rx
 obtain⟨u,rfl,ru⟩:=rv.one
 obtain⟨z,its,n,r,hl,e⟩:=I.adi hH
 refine call_meets F.slot_list_append ⟨_,e,rfl⟩ F.entry_list_append (F.args_list_append_2 _ _) (PySem.list_append l its.toArray n u (by rw[List.size_toArray]; lia)) ⟨e,?_⟩
 refine⟨.non,_,I.adh (its':=its++[u]) hH e (by simp) (r.append (.cons ru .nil)) ?_,rfl,q⟩
 rw[List.length_append,List.length_singleton]
 lia
theorem len_rep{α : Type}(xs:List α)(k:Nat):(List.replicate k xs).flatten.length=k*xs.length:=by
 induction k with
 |zero=>simp
 |succ k ih=>rw[List.replicate_succ,List.flatten_cons,List.length_append,ih,Nat.succ_mul,Nat.add_comm]
end
end L2
namespace QD
open PySem PySem.W PySem.Calls PyProof.Rows
theorem adl:∀(ns:List Int) (vs:List Value),WellAll P h vs (ns.map WData.int)->IntsAre vs ns:=by
 intro ns
 induction ns with
 |nil =>
  intro vs w
  rw[List.map_nil]at w
  cases w
  exact .nil
 |cons n ns ih =>
  intro vs w
  rw[List.map_cons]at w
  cases w with
  |cons a b =>
   cases a
   exact .cons _ _ (ih _ b)
theorem adn{l:OpenLaw}{n:Nat}(hn:l.most=some n){P:Params}{h:Heap}{args:List WData}{vals:List Value}
  (hpre:l.row.toRowW.claim.pre args=true) (hwl:WellAll P h vals args) :
  ∃a vs ns,vals=[Value.ref a]/\args=[WData.list (ns.map WData.int)]/\h.get? a=some {cls:=.type "list",data:=.seq vs.toArray }/\IntsAre vs ns/\ns.length<=n:=by
 have hsh:WShape.hasAll [] args [.list .int]=true:=(pre_splitW hpre).1
 have hc:l.pre.holds [] {args:=args }=true:=(pre_splitW hpre).2
 obtain⟨d,r,rfl,h1,h2⟩:=hasAllW_cons hsh
 obtain rfl:=hasAllW_nil h2
 obtain⟨xs,rfl,h3⟩:=hasW_list h1
 obtain⟨ns,rfl⟩:=items_int h3
 have hlen:ns.length<=n:=by
  unfold OpenLaw.pre at hc
  have h4:(WTm.not (.lt (.lit (.int (n:Int))) (.len (.arg 0)))).holds [] {args:=[.list (ns.map .int)] }=true:=by
   have h4:=(holds_andW hc).1
   rw[hn]at h4
   exact h4
  have h5:=condW_of h4 (w_not (w_lt w_lit (w_len_list (w_arg rfl))))
  rw[List.length_map]at h5
  refine Nat.le_of_not_lt λq=>?_
  have q':(n:Int)<((ns.length:Nat):Int):=by lia
  first
   |(rw[decide_eq_true q']at h5; exact absurd h5 (by decide))
   |(simp at h5; lia)
 cases hwl with
 |cons w1 w2 =>
  cases w2
  cases w1 with
  |list ho hall=>exact⟨_,_,ns,rfl,rfl,ho,adl ns _ hall,hlen⟩
theorem ado(l:OpenLaw)(args:List WData):l.row.toRowW.claim.post args (.bool true) args=true :=
 postW_of (r:=l.row.toRowW) (X:=(true == true))
  (show WShape.has [] (.bool true) .bool=true by first|rfl|decide|simp[WShape.has,WShape.arms,WShape.armsAll])
  (show(WTm.eq .res (.lit (.bool true))).value [] {args:=args,res:=some (.bool true),after:=args }=some (.bool (true == true))from w_eq_bool (w_res rfl) w_lit) rfl
theorem adp{l:OpenLaw}{n:Nat}{q:Program}{loose:List Str}{XP:(Str->Option Value)->Heap->Prop}{YP:World->Heap->Prop}{d:DefRec}
  (hn:l.most=some n) (hdf:d.params.defaults=[])
  (call:∀(w:World) (s₀ s₁ : Shared) (mg mb:Str->Option Value) (fa:Addr) (o:Obj) (pm cd doc:Value) (a:Addr) (vs:List Value) (ns:List Int),
   Ground q loose [] XP w s₀ mg mb s₁.heap->YP w s₁.heap ->
   s₁.heap.get? fa=some o->o.data=.func (docDef d.name d.params d.body d.scope pm cd doc)->s₁.heap.CodeRec cd d.name->mg d.name=some (.ref fa) ->
   s₁.heap.get? a=some {cls:=.type "list",data:=.seq vs.toArray }->IntsAre vs ns->ns.length<=n->s₁.gens = #[] ->
   codeAny (model l.prog w) callerA (.call (.ref fa) ⟨[.ref a],[]⟩) (λr s'=>r=.ok (.ret (.bool true))/\OldK s₁.heap s'.heap/\s'.os=s₁.os/\AllBare s'.gens) s₁) :
  WalkO q loose XP YP l.row.toRowW d [] (λf vs=>PySem.call f vs):=by
 intro w s₀ s₁ mg mb G Y fa o pm cd doc dV kV ho hd hcd hD hmg hg args vals as hpre hlay hrd hwl hlo
 obtain rfl:dV=.none:=Dflts.none hD hdf
 obtain rfl:kV=.none:=Dflts.noKw hD
 obtain⟨a,vs,ns,rfl,rfl,hobj,hints,hlen⟩:=adn hn hpre hwl
 refine enter_call (codeAny_mono (call w s₀ s₁ mg mb fa o pm cd doc a vs ns G Y ho (fd_plain hd) hcd hmg hobj hints hlen hg) λr s' hq=>?_)
 obtain⟨rfl,h2,h3,h4⟩:=hq
 exact⟨.inl ⟨.bool true,.bool true,[],rfl,λ_=>rfl,.bool true,ado l _,λ_=>⟨List.Pairwise.nil,λ_ hm=>(nomatch hm)⟩⟩,h2,h3,h4⟩
end QD
namespace L2
open PySem PySem.Spec PyProof.Rows
theorem Fb:∀{vs:List Value} {ns:List Int},IntsAre vs ns->Vals (ns.map V.int) vs
 |_,_,.nil=>.nil
 |_,_,.cons n t h=>.cons ⟨t,rfl⟩ (Fb h)
noncomputable def jV(s:Stmt):Arguments:=match s with
 |.FunctionDef _ a _ _ _ _ _ _ _ _=>a
 |_=>{posonlyargs:=[],args:=[],vararg:=none,kwonlyargs:=[],kw_defaults:=[],kwarg:=none,defaults:=[] }
noncomputable def gD(s:Stmt):List Stmt:=match s with
 |.FunctionDef _ _ b _ _ _ _ _ _ _=>b
 |_=>[]
noncomputable def bV(s:Stmt):Scope:=match s with
 |.FunctionDef _ _ _ _ _ _ sc _ _ _=>sc
 |_=>{kind:=.function,names:=[],isGenerator:=false,isCoroutine:=false }
abbrev E0:XK:=λ_ _ _=>False
structure qe(K:FZ)(x qual:Str)(st:Stmt)(f:Addr)(fd:FuncData):Prop where
 ex:∃(oc:Value) (od:Option Addr) (kV doc pm:Value) (an:Option Addr) (cdv ct:Value) (osl:Array (Option Value)),
  fd=PySem.W.fnOf x qual (jV st) (gD st) (bV st) .none kV doc pm an cdv ct/\K.lookup f=some ⟨oc,od,.func fd,osl⟩/\PySem.W.codeIn K cdv qual=true
 kp:PySem.W.keepIn K (.ref f)=true
section
variable {P:Program}{w:World}{K:FZ}{mg:Str->Option Value}{base:Heap}
theorem qe.binds{x qual:Str}{st:Stmt}{f:Addr}{fd:FuncData}{ps:List Str}(F:qe K x qual st f fd)
  (h:∀(kV doc pm:Value) (an:Option Addr) (cdv ct:Value) (us:List Value),us.length=ps.length->bindArgs (PySem.W.fnOf x qual (jV st) (gD st) (bV st) .none kV doc pm an cdv ct) ⟨us,[]⟩=pure (ps.zip us)):Binds K fd ps []:=by
 obtain⟨oc,od,kV,doc,pm,an,cdv,ct,osl,rfl,lk,hcd⟩:=F.ex
 exact .all (h kV doc pm an cdv ct)
theorem QG{x qual:Str}{st:Stmt}{f:Addr}{oc:Value}{od an:Option Addr}{osl:Array (Option Value)}{kV doc pm cdv ct:Value}(l:K.lookup f=some ⟨oc,od,.func (PySem.W.fnOf x qual (jV st) (gD st) (bV st) .none kV doc pm an cdv ct),osl⟩)
  (c:PySem.W.codeIn K cdv qual=true) (k:PySem.W.keepIn K (.ref f)=true):qe K x qual st f (PySem.W.fnOf x qual (jV st) (gD st) (bV st) .none kV doc pm an cdv ct):=⟨⟨oc,od,kV,doc,pm,an,cdv,ct,osl,rfl,l,c⟩,k⟩
end
theorem Fd(h:n<=1000):n<sizeLine:=Nat.lt_of_le_of_lt h (by decide)
def Same(H H':Hp):Prop:=∀b o,H b=some o->H' b=some o
theorem Same.refl(H:Hp):Same H H:=λ_ _ h=>h
theorem Same.trans(a:Same H H1)(b:Same H1 H2):Same H H2:=λc o h=>b c o (a c o h)
theorem Same.free{H H':Hp}(e:Same H H'){l:Addr}(h:H' l=Option.none):H l=Option.none:=by
 cases q:H l with
 |none=>rfl
 |some o =>
  rw[e l o q]at h
  cases h
theorem Same.seq{K:FZ}{H H':Hp}{a:Addr}{xs:List V}(e:Same H H')(h:aF K H a xs):aF K H' a xs:=by
 rcases h with(h|⟨o,h⟩)|h
 .exact .inl (.inl (e _ _ h))
 .exact .inl (.inr ⟨o,e _ _ h⟩)
 .exact .inr h
noncomputable def bM(cells:List (Str × Addr)):List (Str × NameKind)->List (Str × Addr)->List (Str × Addr)
 | [],acc=>acc
 |(n,k)::r,acc=>if k=.free then(match cells.lookup n with|some a=>bM cells r ((n,a)::acc)|none=>bM cells r acc)else bM cells r acc
theorem oJ:∀{names:List (Str × NameKind)} {acc:List (Str × Addr)},(bM cells names acc).lookup x=some c->acc.lookup x=some c\/cells.lookup x=some c
 | [],acc,h=>.inl h
 |(n,k)::r,acc,h=>by
  unfold bM at h
  split at h
  .split at h
   .rename_i a ha
    rcases oJ h with q|q
    .by_cases e:x=n
     .subst e
      rw[List.lookup_cons,beq_self_eq_true]at q
      cases q
      exact .inr ha
     .rw[List.lookup_cons,beq_false_of_ne e]at q
      exact .inl q
    .exact .inr q
   .exact oJ h
  .exact oJ h
theorem qg:∀{names:List (Str × NameKind)} {acc:List (Str × Addr)},((acc.lookup x).isSome=true\/((x,NameKind.free)∈names/\(cells.lookup x).isSome=true))->((bM cells names acc).lookup x).isSome=true
 | [],acc,h=>by
  rcases h with h|⟨h,_⟩
  .exact h
  .cases h
 |(n,k)::r,acc,h=>by
  have up:∀a,(acc.lookup x).isSome=true->(List.lookup x ((n,a)::acc)).isSome=true:=λa q=>by
   rw[List.lookup_cons]
   split
   .rfl
   .exact q
  unfold bM
  split
  .rename_i hk
   split
   .rename_i a ha
    refine qg ?_
    rcases h with h|⟨h,hc⟩
    .exact .inl (up a h)
    .rcases List.mem_cons.mp h with e|e
     .cases e
      refine .inl ?_
      rw[List.lookup_cons,beq_self_eq_true]
      rfl
     .exact .inr ⟨e,hc⟩
   .rename_i hn
    refine qg ?_
    rcases h with h|⟨h,hc⟩
    .exact .inl h
    .rcases List.mem_cons.mp h with e|e
     .cases e
      rw[hn]at hc; cases hc
     .exact .inr ⟨e,hc⟩
  .rename_i hk
   refine qg ?_
   rcases h with h|⟨h,hc⟩
   .exact .inl h
   .rcases List.mem_cons.mp h with e|e
    .cases e; exact absurd rfl hk
    .exact .inr ⟨e,hc⟩
theorem uU(h:∀y∈scope.names,y.2=.free->(env.cells.lookup y.1).isSome=true):closureFor scope env=pure (bM env.cells scope.names []):=by
 suffices q:∀(names:List (Str × NameKind)) (acc:List (Str × Addr)),(∀y∈names,y.2=.free->(env.cells.lookup y.1).isSome=true) ->
   (forIn names acc λx r=>do
    match x with
    |(name,kind)=>if(kind == NameKind.free)=true then do let a <-cellOf env name; pure (ForInStep.yield ((name,a)::r))else pure (ForInStep.yield r):Sem _)=pure (bM env.cells names acc) by
  have z:=q scope.names [] h
  exact(congrArg (λm=>m >>= λcs=>pure cs) z)
 intro names
 induction names with
 |nil=>intro acc _; rfl
 |cons y r ih =>
  intro acc hy
  obtain⟨n,k⟩:=y
  rw[List.forIn_cons]
  unfold bM
  by_cases hk:k=.free
  .subst hk
   have q:=hy (n,.free) List.mem_cons_self rfl
   cases e:env.cells.lookup n with
   |none=>rw[e]at q; cases q
   |some a =>
    have ec:cellOf env n=pure a:=by unfold cellOf; rw[e]
    simp only[ec]
    exact ih _ λz hz=>hy z (List.mem_cons_of_mem _ hz)
  .rw[if_neg hk]
   have hb:(k == NameKind.free)=false:=by simpa using hk
   simp only[hb]
   exact ih _ λz hz=>hy z (List.mem_cons_of_mem _ hz)
noncomputable def QH(scope sc:Scope):Scope :=
 {scope with names:=scope.names.map λ(n,k)=>if(k == .free&&sc.kind == .function&&sc.names.lookup n == some .cell)then(n,.cell)else(n,k) }
theorem QJ{env:Env}:∀{names:List (Str × NameKind)} {x:Str},names.lookup x=some .free ->
  (names.map λ(n,k)=>if(k == NameKind.free&&env.scope.kind == .function&&env.kindOf n == some .cell)then(n,NameKind.cell)else(n,k)).lookup x=some .cell \/
  (names.map λ(n,k)=>if(k == NameKind.free&&env.scope.kind == .function&&env.kindOf n == some .cell)then(n,NameKind.cell)else(n,k)).lookup x=some .free
 | [],_,h=>by simp at h
 |(n,k)::r,x,h=>by
  have ih:=@QJ env r x
  rw[List.map_cons]
  dsimp only
  cases hx:x == n with
  |true =>
   simp only[List.lookup_cons,hx]at h
   cases h
   by_cases hc:(NameKind.free == NameKind.free&&env.scope.kind == .function&&env.kindOf n == some .cell)=true
   .rw[if_pos hc]; simp[List.lookup_cons,hx]
   .rw[if_neg hc]; simp[List.lookup_cons,hx]
  |false =>
   simp only[List.lookup_cons,hx]at h
   by_cases hc:(k == NameKind.free&&env.scope.kind == .function&&env.kindOf n == some .cell)=true
   .rw[if_pos hc]; simp only[List.lookup_cons,hx]; exact ih h
   .rw[if_neg hc]; simp only[List.lookup_cons,hx]; exact ih h
theorem QK{env:Env}:∀{names:List (Str × NameKind)} {x:Str},
  ((names.map λ(n,k)=>if(k == NameKind.free&&env.scope.kind == .function&&env.kindOf n == some .cell)then(n,NameKind.cell)else(n,k)).lookup x=some .cell \/
  (names.map λ(n,k)=>if(k == NameKind.free&&env.scope.kind == .function&&env.kindOf n == some .cell)then(n,NameKind.cell)else(n,k)).lookup x=some .free)->names.lookup x=some .cell\/names.lookup x=some .free
 | [],_,h=>by simp at h
 |(n,k)::r,x,h=>by
  have ih:=@QK env r x
  rw[List.map_cons]at h
  dsimp only at h
  cases hx:x == n with
  |true =>
   by_cases hcc:(k == NameKind.free&&env.scope.kind == .function&&env.kindOf n == some .cell)=true
   .have hk:k=.free:=by
     simp only[Bool.and_eq_true,beq_iff_eq]at hcc
     exact hcc.1.1
    subst hk
    exact .inr (by simp only[List.lookup_cons,hx])
   .rw[if_neg hcc]at h
    simp only[List.lookup_cons,hx]at h ⊢
    exact h
  |false =>
   have q:=ih (by
    by_cases hcc:(k == NameKind.free&&env.scope.kind == .function&&env.kindOf n == some .cell)=true
    .rw[if_pos hcc]at h; simp only[List.lookup_cons,hx]at h; exact h
    .rw[if_neg hcc]at h; simp only[List.lookup_cons,hx]at h; exact h)
   simp only[List.lookup_cons,hx]
   exact q
theorem mq:∀(names:List (Str × NameKind)) (n:Nat) (acc:List (Str × Addr)),cellsFrom n names acc=cellsFrom n names []++acc
 | [],_,_=>rfl
 |(x,k)::r,n,acc=>by
  unfold cellsFrom
  split
  .rw[mq r (n+1) ((x,n)::acc),mq r (n+1) [(x,n)],List.append_assoc]
   rfl
  .exact mq r n acc
theorem Fe:∀(names:List (Str × NameKind)) (n:Nat) {x:Str} {c:Addr},(x,c)∈cellsFrom n names []->(x,NameKind.cell)∈names
 | [],_,_,_,h=>by cases h
 |(y,k)::r,n,x,c,h=>by
  unfold cellsFrom at h
  split at h
  .rename_i hk
   have hk:k=.cell:=by simpa using hk
   rw[mq]at h
   rcases List.mem_append.mp h with z|z
   .exact List.mem_cons_of_mem _ (Fe r _ z)
   .have z:=List.mem_singleton.mp z
    cases z
    rw[hk]
    exact List.mem_cons_self
  .exact List.mem_cons_of_mem _ (Fe r _ h)
theorem rO(x:Str):∀(a b:List (Str × Addr)),(a++b).lookup x=(match a.lookup x with|some c=>some c|none=>b.lookup x)
 | [],_=>rfl
 |(y,c)::r,b=>by
  have ih:=rO x r b
  rw[List.cons_append,List.lookup_cons,List.lookup_cons]
  cases h:x == y with
  |true=>rfl
  |false=>exact ih
theorem QL
  (hQ:∀h',h'.Ns s.heap.objs.size (λ_=>none)->(∀b o,s.heap.get? b=some o->h'.get? b=some o)->CellsOk h' (s.heap.objs.size+1) (cellsFrom (s.heap.objs.size+1) scope.names []) ->
   Q {scope:=scope,locals:=s.heap.objs.size,globals:=globals,cells:=cellsFrom (s.heap.objs.size+1) scope.names cl,qual:=qual,func:=none,code:=env.code,frame:=env.frame,builtins:=env.builtins } {s with heap:=h',toks:=s.toks+([]:List (Str × Value)).length }) :
  wpAny M A (newFunctionEnv scope globals cl [] qual none .none (some env)) Q E s:=by
 simp only[newFunctionEnv,Option.isSome_some,if_true]
 refine wpAny_bind (wpAny_alloc ?_)
 refine wpAny_bind (wpAny_layCells _ (λname kind cells=>by cases hkc:kind == NameKind.cell <;> simp[hkc]) _ _ _ _ ?_)
 have ok:=cellsFrom_ok scope.names (s.heap.push {cls:=.type "dict",data:=.dict #[] }) (s.heap.objs.size+1) [] ⟨λ_ _ hm=>(nomatch hm),List.Pairwise.nil⟩ (by rw[Heap.size_push]; exact Nat.le_refl _)
 rw[Heap.size_push]at ok
 rw[show({s with heap:=s.heap.push {cls:=.type "dict",data:=.dict #[] } }:Shared).heap.objs.size=s.heap.objs.size+1 from Heap.size_push ..]
 exact wpAny_bind (wpAny_pure (wpAny_pure (hQ _ ((Heap.Ns.new s.heap (.type "dict")).keeps (pushCells_keeps _ _)) (λb o e=>pushCells_keeps _ _ b o (Heap.get?_push_of_some _ e)) ok)))
structure mD(sc:Scope)(No N:List Str)(src:List (Option Nat))(scope:Scope):Prop where
 kind:scope.kind=.function
 cells:∀y∈scope.names,y.2=.cell->scope.names.lookup y.1=some .cell
 names:∀y∈scope.names,y.2=.local->scope.names.lookup y.1=some .local
 free:∀y∈scope.names,y.2=.free->sc.names.lookup y.1=some .cell\/sc.names.lookup y.1=some .free
 len:src.length=N.length
 up:∀p∈N.zip src,∀j∈p.2,No[j]?=some p.1/\scope.names.lookup p.1=some .free
noncomputable def bW(src:List (Option Nat))(σ : St):St:=src.map λo=>o.bind λj=>(σ[j]?).join
noncomputable def aR(X:Cx)(N:List Str)(scope:Scope)(C:Addr)(s:Shared)(H:Hp)(ex:List Addr):Cx where
 prog:=X.prog
 w:=X.w
 K:=X.K
 mg:=X.mg
 base:=X.base
 A:=X.A
 N:=N
 s₀ := s
 H₀ := H
 env:=compEnvC scope (cellsFrom (C+1) scope.names (bM X.env.cells scope.names [])) C X.env
 outer:=X.stack
 stack:=X.stack
 ex:=ex
 fn:=λx=>scope.names.lookup x == some .cell
 calm:=X.calm
 pn:=[]
 xe:=λ_ _=>False
def Fg(Q:VK)(D:Addr)(H:Hp):Prop:=Q (.ref D) H
section
variable {X:Cx}{elt tg iter:Expr}{scope sc:Scope}{pos:Pos}{No N:List Str}{src:List (Option Nat)}{wi:TI}{g:TG}{te:TE}
theorem QM{pins:LO}{σ : St}{H:Hp}{s:Shared}{h₁ : Heap}{fp:List Addr}{tk:Nat}(hsc:X.env.scope=sc)(eU:X.N=No)(S:mD sc No N src scope)(I:Inv X pins σ H s)
  (hf:∀b∈fp,bD X pins H b) (hlt:∀b∈fp,b<s.heap.objs.size)
  (hns:h₁.Ns s.heap.objs.size (λ_=>none)) (old:∀b o,s.heap.get? b=some o->h₁.get? b=some o) (ck:CellsOk h₁ (s.heap.objs.size+1) (cellsFrom (s.heap.objs.size+1) scope.names [])) :
  Inv (aR X N scope s.heap.objs.size s H fp) [] (bW src σ) H {s with heap:=h₁,toks:=tk }:=by
 subst hsc
 subst eU
 have rP:∀x c,(cellsFrom (s.heap.objs.size+1) scope.names (bM X.env.cells scope.names [])).lookup x=some c->(cellsFrom (s.heap.objs.size+1) scope.names []).lookup x=some c\/X.env.cells.lookup x=some c:=λx c h=>by
  rw[mq,rO]at h
  split at h
  .rename_i e
   exact .inl (e.trans h)
  .rcases oJ h with q|q
   .simp at q
   .exact .inr q
 have big:=λx c h=>(ck.empty x c (PySem.mem_of_lookup h)).2
 have QS:∀x c,X.env.cells.lookup x=some c->c<s.heap.objs.size:=λx c e=>by
  obtain⟨v,q⟩:=I.cell x c e
  exact q.lt
 have ank:∀b∈frs X.stack,b<s.heap.objs.size:=λb hb=>by
  obtain⟨_,o,ho,_⟩:=I.stack.mem hb
  exact Heap.lt_size ho
 refine⟨⟨I.ok.mod,S.kind,I.ok.glob,I.ok.blt,Nat.le_refl _,λx y c h1 h2=>?_,λx hx=>?_,λx c hfn h=>?_,I.ok.hd,I.ok.frames,.inl rfl,λb hb=>⟨Nat.ne_of_lt (hlt b hb),λx c e=>?_⟩,
   I.bs,Nat.le_trans I.ok.nY I.sz,λb o e hb=>?_,λb hb hb'=>?_,I.stack,I.yj⟩,
  rfl,I.bare,Un.kept old,⟨_,hns,λi x v h1 h2 h3=>?_⟩,λx c e=>?_,I.hok.fresh (Nat.le_refl _),λx c e=>?_,λp hp=>absurd (show p∈([]:LO)from hp) (by simp),I.hok.kept old,?_⟩
 .rcases rP _ _ h1 with z1|z1
  .rcases rP _ _ h2 with z2|z2
   .exact name_of_addr ck.apart (PySem.mem_of_lookup z1) (PySem.mem_of_lookup z2)
   .exact absurd (Nat.le_trans (big _ _ z1) (Nat.le_of_lt (QS _ _ z2))) (Nat.not_succ_le_self _)
  .rcases rP _ _ h2 with z2|z2
   .exact absurd (Nat.le_trans (big _ _ z2) (Nat.le_of_lt (QS _ _ z1))) (Nat.not_succ_le_self _)
   .exact I.ok.inj x y c z1 z2
 ·-- every cell or free name has its cell
  rcases QK hx with m|m
  .exact Option.isSome_iff_exists.mp (PySem.W.cellsFrom_some _ _ _ (.inl m))
  .have m:=PySem.mem_of_lookup m
   have q:=qg (cells:=X.env.cells) (acc:=[]) (.inr ⟨m,by
    obtain⟨c,e⟩:=I.ok.has x (S.free _ m rfl)
    rw[e]; rfl⟩)
   exact Option.isSome_iff_exists.mp (PySem.W.cellsFrom_some _ _ _ (.inr q))
 .have hfn:scope.names.lookup x=some .cell:=by
   have z:(scope.names.lookup x == some .cell)=true:=hfn
   simpa using z
  obtain⟨c',e'⟩:=Option.isSome_iff_exists.mp (PySem.W.cellsFrom_some _ (s.heap.objs.size+1) [] (.inl hfn))
  have h:(cellsFrom (s.heap.objs.size+1) scope.names (bM X.env.cells scope.names [])).lookup x=some c:=h
  rw[mq,rO,e']at h
  cases h
  exact Nat.le_of_succ_le (big _ _ e')
 .rcases rP _ _ e with z|z
  .exact λy=>absurd (Nat.le_trans (big _ _ z) (y▸Nat.le_of_lt (hlt b hb))) (Nat.not_succ_le_self _)
  .exact(hf b hb).2.2.2.2.1 x c z
 .obtain⟨f0,f1,f2,f3,f4,f5⟩:=hf b hb
  rcases f3 with z|z
  .exact I.ok.uM b o e z
  .have q:=Heap.lt_size (I.ok.bs b o e).1
   exact absurd q (Nat.not_lt.mpr z)
 .obtain⟨f0,f1,f2,_⟩:=hf b hb
  rcases List.mem_cons.mp (I.uN b hb')with z|z
  .exact f1 z
  .exact f2 z
 .have hi:i<src.length:=by
   unfold bW at h2
   have:=(List.getElem?_eq_some_iff.mp h2).1
   simpa using this
  have h2':((src[i]).bind λj=>(σ[j]?).join)=some v:=by
   unfold bW at h2
   rw[List.getElem?_map,List.getElem?_eq_getElem hi]at h2
   exact Option.some.inj h2
  cases es:src[i]with
  |none=>rw[es]at h2'; cases h2'
  |some j =>
   rw[es]at h2'
   have hj : σ[j]?=some (some v):=by
    have z:(σ[j]?).join=some v:=h2'
    cases q : σ[j]? with
    |none=>rw[q]at z; cases z
    |some o=>rw[q]at z; have z':o=some v:=z; rw[z']
   have hz:(x,some j)∈N.zip src:=by
    refine List.mem_of_getElem? (i:=i) ?_
    rw[List.getElem?_zip_eq_some]
    exact⟨h1,by rw[List.getElem?_eq_getElem hi,es]⟩
   obtain⟨u1,u2⟩:=S.up _ hz j rfl
   have m:(x,NameKind.free)∈scope.names:=PySem.mem_of_lookup u2
   have kx:=S.free _ m rfl
   obtain⟨m0,hn0,hl0⟩:=id I.loc
   obtain⟨u,r,lk⟩:=hl0 j x v u1 hj (kx.elim (λz=>.inr (.inl z)) λz=>.inr (.inr z))
   refine⟨u,r,?_⟩
   rcases lk with⟨k,_⟩|⟨_,c,e,ic⟩
   .have k':X.env.scope.names.lookup x=some .local:=k
    rcases kx with z|z
    .rw[z]at k'; cases k'
    .rw[z]at k'; cases k'
   .refine .inr ⟨QJ u2,c,?_,?_⟩
    .have q:=qg (cells:=X.env.cells) (acc:=[]) (.inr ⟨m,by rw[e]; rfl⟩)
     obtain⟨c',e'⟩:=Option.isSome_iff_exists.mp q
     have e2:X.env.cells.lookup x=some c':=by
      rcases oJ e' with q|q
      .simp at q
      .exact q
     rw[e]at e2; cases e2
     show(cellsFrom (s.heap.objs.size+1) scope.names (bM X.env.cells scope.names [])).lookup x=some c
     rw[mq,rO]
     split
     .rename_i c2 z
      have y:=S.cells _ (Fe _ _ (PySem.mem_of_lookup z)) rfl
      rw[u2]at y; cases y
     .exact e'
    .obtain⟨o,ho,hd⟩:=ic
     exact⟨o,old _ _ ho,hd⟩
 .rcases rP _ _ e with z|z
  .exact⟨_,(ck.empty x c (PySem.mem_of_lookup z)).1⟩
  .obtain⟨v,o,ho,hd⟩:=I.cell x c z
   exact⟨v,o,old _ _ ho,hd⟩
 .rcases rP _ _ e with z|z
  .exact I.hok.fresh (Nat.le_of_succ_le (big _ _ z))
  .exact I.jR x c z
 .unfold bW
  rw[List.length_map]
  exact S.len
end
def Fi(e C:Addr)(h:Heap):Prop:=∃o vs,h.get? e=some o/\o.cls=.ref C/\o.data=.fields vs
noncomputable def yQ(e C:Addr):HO:=.ext (Fi e C)
noncomputable def yR:List Str:=["NoBottom", "NoBook", "NoList", "NoRule", "NoCount", "NoLooks", "NoThings", "NotSure", "NoSlack", "NoThing", "NoWorth", "TooMany", "NoText", "NoLine"]
inductive Tr where
 |non|bl (b:Bool)|int (i:Int)|str (x:Str)|tup (ts:List Tr)|lst (ts:List Tr)|bU (c:Str)
mutual
inductive Rep(K:FZ)(H:Hp):V->Tr->Prop
 |non:Rep K H .non .non
 |bl (b:Bool):Rep K H (.bl b) (.bl b)
 |int (i:Int):Rep K H (.int i) (.int i)
 |str (x:Str):Rep K H (.str x) (.str x)
 |tup {a:Addr} {xs:List V} {ts:List Tr} (h:bh K H a xs) (r:aq K H xs ts):Rep K H (.ref a) (.tup ts)
 |lst {a:Addr} {xs:List V} {ts:List Tr} (h:aF K H a xs) (r:aq K H xs ts):Rep K H (.ref a) (.lst ts)
 |bU {a C:Addr} {c:Str} (h:H a=some (yQ a C)) (m:c∈yR) (n:PySem.W.nsIn K mainGlobals c=some (some (.ref C))):Rep K H (.ref a) (.bU c)
inductive aq(K:FZ)(H:Hp):List V->List Tr->Prop
 |nil:aq K H [] []
 |cons {x:V} {t:Tr} {xs:List V} {ts:List Tr} (h:Rep K H x t) (r:aq K H xs ts):aq K H (x::xs) (t::ts)
end
theorem Rep.both{K:FZ}{H:Hp}{P:V->Tr->Prop}{Q:List V->List Tr->Prop}(h1:P .non .non)(h2:∀b,P (.bl b) (.bl b))(h3:∀i,P (.int i) (.int i))(h4:∀x,P (.str x) (.str x))(h5:∀a xs ts,bh K H a xs->Q xs ts->P (.ref a) (.tup ts))(h6:∀a xs ts,aF K H a xs->Q xs ts->P (.ref a) (.lst ts))(h7:∀a C c,H a=some (yQ a C)->c∈yR->PySem.W.nsIn K mainGlobals c=some (some (.ref C))->P (.ref a) (.bU c))(h8:Q [] [])(h9:∀x t xs ts,P x t->Q xs ts->Q (x::xs) (t::ts)):(∀{v t},Rep K H v t->P v t)/\∀{vs ts},aq K H vs ts->Q vs ts :=
 ⟨λh=>Rep.rec (motive_1:=λv t _=>P v t) (motive_2:=λv t _=>Q v t) h1 h2 h3 h4 (λh _ q=>h5 _ _ _ h q) (λh _ q=>h6 _ _ _ h q) (λh m n=>h7 _ _ _ h m n) h8 (λ_ _ p q=>h9 _ _ _ _ p q) h,λh=>aq.rec (motive_1:=λv t _=>P v t) (motive_2:=λv t _=>Q v t) h1 h2 h3 h4 (λh _ q=>h5 _ _ _ h q) (λh _ q=>h6 _ _ _ h q) (λh m n=>h7 _ _ _ h m n) h8 (λ_ _ p q=>h9 _ _ _ _ p q) h⟩
theorem Same.jz{K:FZ}{H H':Hp}{a:Addr}{xs:List V}(e:Same H H')(h:bh K H a xs):bh K H' a xs:=by
 rcases h with(h|⟨o,h⟩)|h
 .exact .inl (.inl (e _ _ h))
 .exact .inl (.inr ⟨o,e _ _ h⟩)
 .exact .inr h
theorem QT{K:FZ}{H H':Hp}(e:Same H H'):(∀{v t},Rep K H v t->Rep K H' v t)/\∀{vs ts},aq K H vs ts->aq K H' vs ts:=Rep.both .non .bl .int .str (λ_ _ _ h q=>.tup (e.jz h) q) (λ_ _ _ h q=>.lst (e.seq h) q) (λ_ _ _ h m n=>.bU (e _ _ h) m n) .nil λ_ _ _ _ p q=>.cons p q
theorem Rep.mono{K:FZ}{H H':Hp}(e:Same H H'){v:V}{t:Tr}(h:Rep K H v t):Rep K H' v t:=(QT e).1 h
theorem aq.mono{K:FZ}{H H':Hp}(e:Same H H'){v:List V}{t:List Tr}(h:aq K H v t):aq K H' v t:=(QT e).2 h
theorem aq.length{K:FZ}{H:Hp}:∀{v:List V} {t:List Tr},aq K H v t->v.length=t.length
 |_,_,.nil=>rfl
 |_,_,.cons _ r=>by rw[List.length_cons,List.length_cons,aq.length r]
theorem aq.get{K:FZ}{H:Hp}:∀{v:List V} {t:List Tr} {i:Nat} {x:V},aq K H v t->v[i]?=some x->∃u,t[i]?=some u/\Rep K H x u
 |_,_,_,_,.nil,e=>by simp at e
 |_,_,0,_,.cons h _,e=>by
  simp at e
  subst e
  exact⟨_,rfl,h⟩
 |_,_,i+1,x,.cons _ r,e=>by
  obtain⟨u,h1,h2⟩:=aq.get (i:=i) (x:=x) r (by simpa using e)
  exact⟨u,by simpa using h1,h2⟩
theorem aq.app{K:FZ}{H:Hp}:∀{v w:List V} {t u:List Tr},aq K H v t->aq K H w u->aq K H (v++w) (t++u)
 |_,_,_,_,.nil,s=>s
 |_,_,_,_,.cons h r,s=>.cons h (aq.app r s)
theorem aq.take{K:FZ}{H:Hp}:∀{v:List V} {t:List Tr} (n:Nat),aq K H v t->aq K H (v.take n) (t.take n)
 |_,_,0,_=>by rw[List.take_zero,List.take_zero]; exact .nil
 |_,_,n+1,.nil=>by simpa using aq.nil
 |_,_,n+1,.cons h r=>by
  exact .cons h (aq.take n r)
theorem aq.drop{K:FZ}{H:Hp}:∀{v:List V} {t:List Tr} (n:Nat),aq K H v t->aq K H (v.drop n) (t.drop n)
 |_,_,0,r=>by rw[List.drop_zero,List.drop_zero]; exact r
 |_,_,n+1,.nil=>by simpa using aq.nil
 |_,_,n+1,.cons h r=>by
  exact aq.drop n r
mutual
noncomputable def dep:Tr->Nat
 |.tup ts=>deps ts+1
 |.lst ts=>deps ts+1
 |.bU _=>100
 |_=>0
noncomputable def deps:List Tr->Nat
 | []=>0
 |t::r=>max (dep t) (deps r)
end
mutual
noncomputable def eqT:Tr->Tr->Bool
 |.non,.non=>true
 |.bl a,.bl b=>a == b
 |.bl a,.int b=>(if a then 1 else 0) == b
 |.int a,.bl b=>a == (if b then 1 else 0)
 |.int a,.int b=>a == b
 |.str a,.str b=>a == b
 |.tup a,.tup b=>gF a b
 |.lst a,.lst b=>gF a b
 |.bU a,.bU b=>a == b
 |_,_=>false
noncomputable def gF:List Tr->List Tr->Bool
 | [],[]=>true
 |a::x,b::y=>eqT a b&&gF x y
 |_,_=>false
end
mutual
theorem yS:∀t:Tr,eqT t t=true
 |.non=>rfl
 |.bl b=>by exact beq_self_eq_true b
 |.int i=>by exact beq_self_eq_true i
 |.str x=>by exact beq_self_eq_true x
 |.tup ts=>by exact Fj ts
 |.lst ts=>by exact Fj ts
 |.bU c=>by exact beq_self_eq_true c
theorem Fj:∀ts:List Tr,gF ts ts=true
 | []=>rfl
 |t::r=>by show(eqT t t&&gF r r)=true; rw[yS t,Fj r]; rfl
end
theorem uV:∀{a b:List Tr},a.length≠b.length->gF a b=false
 | [],[],h=>absurd rfl h
 | [],_::_,_=>rfl
 |_::_,[],_=>rfl
 |x::a,y::b,h=>by
  show(_&&gF a b)=false
  rw[uV (a:=a) (b:=b) (by simpa using h),Bool.and_false]
noncomputable def mF(a b:List Tr)(j:Nat):Bool:=match a[j]?,b[j]? with
 |some x,some y=>eqT x y
 |_,_=>true
theorem uW:∀{a b:List Tr},a.length=b.length->(List.range a.length).all (mF a b)=gF a b
 | [],[],_=>rfl
 | [],_::_,h=>by cases h
 |_::_,[],h=>by cases h
 |x::a,y::b,h=>by
  have ih:=uW (a:=a) (b:=b) (by simpa using h)
  rw[List.length_cons,List.range_succ_eq_map,List.all_cons,List.all_map]
  show _=(eqT x y&&gF a b)
  rw[<-ih]
  rfl
section
variable {X:Cx}{pins:LO}{σ : St}{H:Hp}{s:Shared}
theorem Inv.adq(I:Inv X pins σ H s)(h:H a=some (yQ a C))(p:IsTup s.heap a its):False:=by
 obtain⟨o,_,e1,e2,_⟩:=(I.hok a _ h).1
 obtain⟨o',e1',e2',_⟩:=p
 rw[e1]at e1'
 cases e1'
 rw[e2]at e2'
 cases e2'
theorem Inv.adt(I:Inv X pins σ H s)(h:H a=some (yQ a C))(p:PlainL s.heap a its):False:=by
 obtain⟨o,_,e1,e2,_⟩:=(I.hok a _ h).1
 obtain⟨o',_,e1',e2',_⟩:=p
 rw[e1]at e1'
 cases e1'
 rw[e2]at e2'
 cases e2'
theorem adu(I:Inv X pins σ H s):(∀{v t},Rep X.K H v t->dep t<=99->∀u,Rep X.K H v u->t=u)/\∀{vs ts},aq X.K H vs ts->deps ts<=99->∀us,aq X.K H vs us->ts=us:=by
 refine Rep.both (λ_ u h=>?_) (λ_ _ u h=>?_) (λ_ _ u h=>?_) (λ_ _ u h=>?_) (λa xs ts h q d u h'=>?_) (λa xs ts h q d u h'=>?_) (λa C c h m n d u _=>?_) (λ_ u h=>?_) λx t xs ts p q d u h=>?_
 .cases h; rfl
 .cases h; rfl
 .cases h; rfl
 .cases h; rfl
 .obtain⟨_,_,p,_⟩:=I.tuple h
  cases h' with
  |tup h' r' =>
   have e:=I.O8 h h'
   subst e
   rw[q (by unfold dep at d; lia) _ r']
  |lst h' r' =>
   obtain⟨_,_,p',_⟩:=I.list h'
   exact absurd rfl (SeqAt.ne_of_list_tuple p'.isList p)
  |bU h' _ _=>exact(I.adq h' p).elim
 .obtain⟨_,_,p,_⟩:=I.list h
  cases h' with
  |tup h' r' =>
   obtain⟨_,_,p',_⟩:=I.tuple h'
   exact absurd rfl (SeqAt.ne_of_list_tuple p.isList p')
  |lst h' r' =>
   have e:=I.nZ h h'
   subst e
   rw[q (by unfold dep at d; lia) _ r']
  |bU h' _ _=>exact(I.adt h' p).elim
 .unfold dep at d; lia
 .cases h; rfl
 .cases h with
  |cons h r =>
   unfold deps at d
   rw[p (by lia) _ h,q (by lia) _ r]
theorem Rep.inj(I:Inv X pins σ H s){v:V}{t u:Tr}(d:dep t<=99)(h:Rep X.K H v t)(h':Rep X.K H v u):t=u:=(adu I).1 h d u h'
theorem in1_units(A:Around):A.in1.units<=A.units+1:=by
 show A.units+1<=_
 lia
theorem yU{xs:List V}{its:List Value}{j:Nat}(r:Vals xs its)(h:j<its.toArray.size):∃x,xs[j]?=some x/\RelV x its.toArray[j]:=by
 have h':j<its.length:=by simpa using h
 have hx:j<xs.length:=by rw[r.length]; exact h'
 obtain⟨u,h1,h2⟩:=r.get (List.getElem?_eq_getElem hx)
 refine⟨xs[j],List.getElem?_eq_getElem hx,?_⟩
 have e:u=its.toArray[j]:=by
  rw[List.getElem?_eq_getElem h']at h1
  have:=Option.some.inj h1
  simpa using this.symm
 rw[<-e]; exact h2
theorem QV{a b:List Tr}{j:Nat}{x y:Tr}(h1:a[j]?=some x)(h2:b[j]?=some y):mF a b j=eqT x y:=by
 unfold mF
 rw[h1,h2]
theorem oK:∀{ts:List Tr} {j:Nat} {t:Tr},ts[j]?=some t->dep t<=deps ts
 | [],_,_,h=>by simp at h
 |x::r,0,t,h=>by
  simp at h
  subst h
  unfold deps
  exact Nat.le_max_left _ _
 |x::r,j+1,t,h=>by
  have:=oK (ts:=r) (j:=j) (t:=t) (by simpa using h)
  unfold deps
  exact Nat.le_trans this (Nat.le_max_right _ _)
theorem uX(I:Inv X pins σ H s)(A:Around)(t u:Tr)(x y:V)(xv yv:Value)(hu:A.units+0<cLine)(hd:dep t<=0)(du:dep u<=99)(rx:Rep X.K H x t)(ry:Rep X.K H y u)(vx:RelV x xv)(vy:RelV y yv) :
  SeqAt.RcAt A s xv yv (eqT t u)/\SeqAt.EqAt A s xv yv (eqT t u):=by
 have hu0:A.units<cLine:=by lia
 cases rx with
 |tup h r=>unfold dep at hd; lia
 |lst h r=>unfold dep at hd; lia
 |bU h m n=>unfold dep at hd; lia
 |non =>
  cases vx
  cases ry with
  |non=>cases vy; exact⟨SeqAt.RcAt.none_none,.same _⟩
  |bl b2=>cases vy; exact⟨SeqAt.RcAt.none_bool _,SeqAt.EqAt.none_bool _⟩
  |int i2=>obtain⟨_,rfl⟩:=vy; exact⟨SeqAt.RcAt.none_int _ _,SeqAt.EqAt.none_int _ _⟩
  |str z2=>obtain⟨_,rfl⟩:=vy; exact⟨SeqAt.RcAt.none_str _ _,SeqAt.EqAt.none_str _ _⟩
  |tup h r=>cases vy; obtain⟨_,_,p,_⟩:=I.tuple h; exact⟨SeqAt.RcAt.none_tuple p hu0,SeqAt.EqAt.none_tuple p hu0⟩
  |lst h r=>cases vy; obtain⟨_,_,p,_⟩:=I.list h; exact⟨SeqAt.RcAt.none_list p.isList hu0,SeqAt.EqAt.none_list p.isList hu0⟩
  |bU h m n=>unfold dep at du; lia
 |bl b =>
  cases vx
  cases ry with
  |non=>cases vy; exact⟨SeqAt.RcAt.bool_none _,SeqAt.EqAt.bool_none _⟩
  |bl b2=>cases vy; exact⟨SeqAt.RcAt.bool_bool _ _,SeqAt.EqAt.bool_bool _ _⟩
  |int i2=>obtain⟨_,rfl⟩:=vy; exact⟨SeqAt.RcAt.bool_int _ _ _,SeqAt.EqAt.bool_int _ _ _⟩
  |str z2=>obtain⟨_,rfl⟩:=vy; exact⟨SeqAt.RcAt.bool_str _ _ _,SeqAt.EqAt.bool_str _ _ _⟩
  |tup h r=>cases vy; obtain⟨_,_,p,_⟩:=I.tuple h; exact⟨SeqAt.RcAt.bool_tuple _ p hu0,SeqAt.EqAt.bool_tuple _ p hu0⟩
  |lst h r=>cases vy; obtain⟨_,_,p,_⟩:=I.list h; exact⟨SeqAt.RcAt.bool_list _ p.isList hu0,SeqAt.EqAt.bool_list _ p.isList hu0⟩
  |bU h m n=>unfold dep at du; lia
 |int i =>
  obtain⟨_,rfl⟩:=vx
  cases ry with
  |non=>cases vy; exact⟨SeqAt.RcAt.int_none _ _,SeqAt.EqAt.int_none _ _⟩
  |bl b2=>cases vy; exact⟨SeqAt.RcAt.int_bool _ _ _,SeqAt.EqAt.int_bool _ _ _⟩
  |int i2=>obtain⟨_,rfl⟩:=vy; exact⟨SeqAt.RcAt.int_int _ _ _ _,SeqAt.EqAt.int_int _ _ _ _⟩
  |str z2=>obtain⟨_,rfl⟩:=vy; exact⟨SeqAt.RcAt.int_str _ _ _ _,SeqAt.EqAt.int_str _ _ _ _⟩
  |tup h r=>cases vy; obtain⟨_,_,p,_⟩:=I.tuple h; exact⟨SeqAt.RcAt.int_tuple _ _ p hu0,SeqAt.EqAt.int_tuple _ _ p hu0⟩
  |lst h r=>cases vy; obtain⟨_,_,p,_⟩:=I.list h; exact⟨SeqAt.RcAt.int_list _ _ p.isList hu0,SeqAt.EqAt.int_list _ _ p.isList hu0⟩
  |bU h m n=>unfold dep at du; lia
 |str z =>
  obtain⟨_,rfl⟩:=vx
  cases ry with
  |non=>cases vy; exact⟨SeqAt.RcAt.str_none _ _,SeqAt.EqAt.str_none _ _⟩
  |bl b2=>cases vy; exact⟨SeqAt.RcAt.str_bool _ _ _,SeqAt.EqAt.str_bool _ _ _⟩
  |int i2=>obtain⟨_,rfl⟩:=vy; exact⟨SeqAt.RcAt.str_int _ _ _ _,SeqAt.EqAt.str_int _ _ _ _⟩
  |str z2=>obtain⟨_,rfl⟩:=vy; exact⟨SeqAt.RcAt.str_str _ _ _ _,SeqAt.EqAt.str_str _ _ _ _⟩
  |tup h r=>cases vy; obtain⟨_,_,p,_⟩:=I.tuple h; exact⟨SeqAt.RcAt.str_tuple _ _ p hu0,SeqAt.EqAt.str_tuple _ _ p hu0⟩
  |lst h r=>cases vy; obtain⟨_,_,p,_⟩:=I.list h; exact⟨SeqAt.RcAt.str_list _ _ p.isList hu0,SeqAt.EqAt.str_list _ _ p.isList hu0⟩
  |bU h m n=>unfold dep at du; lia
theorem uY(I:Inv X pins σ H s):∀(n:Nat) (A:Around) (t u:Tr) (x y:V) (xv yv:Value),A.units+n<cLine->dep t<=n->dep t<=99->dep u<=99->Rep X.K H x t->Rep X.K H y u->RelV x xv->RelV y yv ->
  SeqAt.RcAt A s xv yv (eqT t u)/\SeqAt.EqAt A s xv yv (eqT t u):=by
 intro n
 induction n with
 |zero=>exact λA t u x y xv yv hu hd _ du rx ry vx vy=>uX I A t u x y xv yv hu hd du rx ry vx vy
 |succ n ih =>
  intro A t u x y xv yv hu hd rQ du rx ry vx vy
  have hu0:A.units<cLine:=by lia
  have hu1:A.in1.units+n<cLine:=by
   have:=in1_units A
   lia
  have he:∀{xs ys:List V} {ts us:List Tr} {its its2:List Value},Vals xs its->Vals ys its2->aq X.K H xs ts->aq X.K H ys us->deps ts<=n->deps ts<=99->deps us<=99->∀j (h1:j<its.toArray.size) (h2:j<its2.toArray.size),SeqAt.EqAt A.in1 s its.toArray[j] its2.toArray[j] (mF ts us j):=by
   intro xs ys ts us its its2 r1 r2 q1 q2 hde hd9 QW j h1 h2
   obtain⟨a,ea,ra⟩:=yU r1 h1
   obtain⟨b,eb,rb⟩:=yU r2 h2
   obtain⟨ta,eta,qa⟩:=q1.get ea
   obtain⟨tb,uZ,qb⟩:=q2.get eb
   rw[QV eta uZ]
   exact(ih A.in1 ta tb a b _ _ hu1 (Nat.le_trans (oK eta) hde) (Nat.le_trans (oK eta) hd9) (Nat.le_trans (oK uZ) QW) qa qb ra rb).2
  have dt:∀{ts:List Tr},dep (.tup ts)<=n+1->deps ts<=n:=λ{ts} h=>by unfold dep at h; lia
  have dl:∀{ts:List Tr},dep (.lst ts)<=n+1->deps ts<=n:=λ{ts} h=>by unfold dep at h; lia
  have nt:∀{ts:List Tr},dep (.tup ts)<=99->deps ts<=99:=λ{ts} h=>by unfold dep at h; lia
  have nl:∀{ts:List Tr},dep (.lst ts)<=99->deps ts<=99:=λ{ts} h=>by unfold dep at h; lia
  have refs:∀{a b:Addr} {t u:Tr} {k:Bool},dep t<=99->Rep X.K H (.ref a) t->Rep X.K H (.ref b) u->k=eqT t u->SeqAt.RcAt A s (.ref a) (.ref b) k->SeqAt.EqAt A s (.ref a) (.ref b) k:=λ{a b t u k} d9 r1 r2 ek h=>by
   by_cases e:a=b
   .subst e
    have:=Rep.inj I d9 r1 r2
    subst this
    rw[ek,yS]
    exact .same _
   .exact .of_refs e h
  cases rx with
  | @tup a1 xs1 ts h r =>
   cases vx
   obtain⟨its,rv,p,_⟩:=I.tuple h
   cases ry with
   | @tup a2 xs2 us h' r' =>
    cases vy
    obtain⟨its2,fY,p2,_⟩:=I.tuple h'
    have R:=SeqAt.RcAt.tuples p p2 hu0 (he rv fY r r' (dt hd) (nt rQ) (nt du))
    have el:its.toArray.size=ts.length:=by simpa using(rv.length.symm.trans r.length)
    have el2:its2.toArray.size=us.length:=by simpa using(fY.length.symm.trans r'.length)
    rw[el,el2]at R
    have eb:((List.range (min ts.length us.length)).all (mF ts us)&&ts.length == us.length)=eqT (.tup ts) (.tup us):=by
     show _=gF ts us
     by_cases e:ts.length=us.length
     .rw[e,Nat.min_self,<-e,uW e,beq_self_eq_true,Bool.and_true]
     .rw[beq_false_of_ne e,Bool.and_false,uV e]
    rw[eb]at R
    exact⟨R,refs rQ (.tup h r) (.tup h' r') rfl R⟩
   |lst h' r' =>
    cases vy
    obtain⟨_,_,p2,_⟩:=I.list h'
    exact⟨SeqAt.RcAt.tuple_list p p2.isList hu0,.tuple_list p p2.isList hu0⟩
   |bU h' m n=>unfold dep at du; lia
   |non=>cases vy; exact⟨SeqAt.RcAt.tuple_none p hu0,.tuple_none p hu0⟩
   |bl b=>cases vy; exact⟨SeqAt.RcAt.tuple_bool _ p hu0,.tuple_bool _ p hu0⟩
   |int i=>obtain⟨_,rfl⟩:=vy; exact⟨SeqAt.RcAt.tuple_int _ _ p hu0,.tuple_int _ _ p hu0⟩
   |str z=>obtain⟨_,rfl⟩:=vy; exact⟨SeqAt.RcAt.tuple_str _ _ p hu0,.tuple_str _ _ p hu0⟩
  | @lst a1 xs1 ts h r =>
   cases vx
   obtain⟨its,rv,p,_⟩:=I.list h
   cases ry with
   | @lst a2 xs2 us h' r' =>
    cases vy
    obtain⟨its2,fY,p2,_⟩:=I.list h'
    have el:its.toArray.size=ts.length:=by simpa using(rv.length.symm.trans r.length)
    have el2:its2.toArray.size=us.length:=by simpa using(fY.length.symm.trans r'.length)
    by_cases e:ts.length=us.length
    .have R:=SeqAt.RcAt.lists p.isList p2.isList (by rw[el,el2,e]) hu0 (he rv fY r r' (dl hd) (nl rQ) (nl du))
     rw[el,uW e]at R
     have eb:gF ts us=eqT (.lst ts) (.lst us):=by rfl
     rw[eb]at R
     exact⟨R,refs rQ (.lst h r) (.lst h' r') rfl R⟩
    .have R:SeqAt.RcAt A s _ _ false:=SeqAt.RcAt.lists_lengths p.isList p2.isList (by rw[el,el2]; simpa using e) hu0
     have eb:false=eqT (.lst ts) (.lst us):=(uV e).symm
     rw[eb]at R
     exact⟨R,refs rQ (.lst h r) (.lst h' r') rfl R⟩
   |tup h' r' =>
    cases vy
    obtain⟨_,_,p2,_⟩:=I.tuple h'
    exact⟨SeqAt.RcAt.list_tuple p.isList p2 hu0,.list_tuple p.isList p2 hu0⟩
   |bU h' m n=>unfold dep at du; lia
   |non=>cases vy; exact⟨SeqAt.RcAt.list_none p.isList hu0,.list_none p.isList hu0⟩
   |bl b=>cases vy; exact⟨SeqAt.RcAt.list_bool _ p.isList hu0,.list_bool _ p.isList hu0⟩
   |int i=>obtain⟨_,rfl⟩:=vy; exact⟨SeqAt.RcAt.list_int _ _ p.isList hu0,.list_int _ _ p.isList hu0⟩
   |str z=>obtain⟨_,rfl⟩:=vy; exact⟨SeqAt.RcAt.list_str _ _ p.isList hu0,.list_str _ _ p.isList hu0⟩
  |bU h m n=>unfold dep at rQ; lia
  |non=>exact uX I A _ _ _ _ _ _ (by lia) (by unfold dep; lia) du .non ry vx vy
  |bl b=>exact uX I A _ _ _ _ _ _ (by lia) (by unfold dep; lia) du (.bl b) ry vx vy
  |int i=>exact uX I A _ _ _ _ _ _ (by lia) (by unfold dep; lia) du (.int i) ry vx vy
  |str z=>exact uX I A _ _ _ _ _ _ (by lia) (by unfold dep; lia) du (.str z) ry vx vy
end
section
variable {X:Cx}{a b:Expr}{ta tb:TE}{pos:Pos}
def Fo(K:FZ):R2:=λx y H Q=>∃t u,Rep K H x t/\Rep K H y u/\dep t<=40/\dep u<=40/\Q (.bl (eqT t u)) H
theorem adv(hu:X.A.units+64<cLine):aY X (compareOp .Eq) (Fo X.K):=by
 intro pins s σ H x y v u Q I rx ry h
 obtain⟨t,t',q1,q2,hd,hd2,q⟩:=h
 exact(uY I 40 X.A t t' x y v u (by lia) hd (by lia) (by lia) q1 q2 rx ry).1 _ _ _ _ ⟨.bl _,H,I,rfl,q⟩
noncomputable def lu(t:Tr)(ts:List Tr):Bool:=ts.any λu=>eqT u t
def Ft(K:FZ):R2:=λx y H Q=>∃t ts p xs,Rep K H x t/\y=.ref p/\(aF K H p xs\/bh K H p xs)/\aq K H xs ts/\deps ts<=40/\dep t<=40/\Q (.bl (lu t ts)) H
theorem yV{xs:List V}{its:List Value}{ts:List Tr}{K:FZ}{H:Hp}(f:Tr->Bool)(e:Value->Bool)(r:Vals xs its)(q:aq K H xs ts)(h:∀x v t,x∈xs->RelV x v->Rep K H x t->t∈ts->e v=f t):its.any e=ts.any f:=by
 induction r generalizing ts with
 |nil=>cases q; rfl
 |cons r1 r2 ih =>
  cases q with
  |cons q1 q2 =>
   rw[List.any_cons,List.any_cons,h _ _ _ List.mem_cons_self r1 q1 List.mem_cons_self,ih q2 λx v t hx hr hq ht=>h x v t (List.mem_cons_of_mem _ hx) hr hq (List.mem_cons_of_mem _ ht)]
theorem rR:∀{ts:List Tr} {t:Tr},t∈ts->dep t<=deps ts:=λ{ts t} h=>by
 obtain⟨i,hi,e⟩:=List.mem_iff_getElem.mp h
 exact oK (j:=i) (by rw[List.getElem?_eq_getElem hi,e])
open Classical in
theorem adw(hu:X.A.units+64<cLine):aY X (compareOp .In) (Ft X.K):=by
 intro pins s σ H x y v u Q I rx ry h
 obtain⟨t,ts,p,xs,q1,rfl,hq,qs,hd,hd2,q⟩:=h
 cases ry
 have hu1:X.A.in1.units+40<cLine:=by
  have:=in1_units X.A
  lia
 -- what == tells of an item,by the item itself
 let e:Value->Bool:=λw'=>if h:∃z tz,z∈xs/\RelV z w'/\Rep X.K H z tz/\tz∈ts then eqT (Classical.choose (Classical.choose_spec h)) t else false
 have ee:∀z w' tz,z∈xs->RelV z w'->Rep X.K H z tz->tz∈ts->e w'=eqT tz t:=λz w' tz h1 h2 h3 h4=>by
  have hx:∃z tz,z∈xs/\RelV z w'/\Rep X.K H z tz/\tz∈ts:=⟨z,tz,h1,h2,h3,h4⟩
  show(if h:_ then _ else _)=_
  rw[dif_pos hx]
  have sp:=Classical.choose_spec (Classical.choose_spec hx)
  have key:∀z z' t1 t2,RelV z w'->RelV z' w'->dep t1<=99->Rep X.K H z t1->Rep X.K H z' t2->t1=t2:=λz z' t1 t2 a1 a2 d9 a3 a4=>by
   obtain rfl:=RelV.inj a1 a2
   exact Rep.inj I d9 a3 a4
  rw[key _ _ _ _ sp.2.1 h2 (by have:=rR sp.2.2.2; lia) sp.2.2.1 h3]
 have mem:∀{its:List Value},Vals xs its->∀w'∈its,SeqAt.EqAt X.A.in1 s w' v (e w'):=by
  intro its r w' hw
  obtain⟨j,hj,ej⟩:=List.mem_iff_getElem.mp hw
  have hjx:j<xs.length:=by rw[r.length]; exact hj
  obtain⟨u',h1,h2⟩:=r.get (List.getElem?_eq_getElem hjx)
  rw[List.getElem?_eq_getElem hj,ej]at h1
  cases h1
  obtain⟨tz,h3,h4⟩:=qs.get (List.getElem?_eq_getElem hjx)
  have hm:=List.mem_of_getElem? h3
  rw[ee _ _ tz (List.getElem_mem hjx) h2 h4 hm]
  exact(uY I 40 X.A.in1 tz t _ x _ v hu1 (Nat.le_trans (rR hm) hd) (by have:=rR hm; lia) (by lia) h4 q1 h2 rx).2
 rcases hq with hq|hq
 .obtain⟨its,r,pl,hz⟩:=I.list hq
  refine SeqAt.in_listAt e pl.isList (λw hw=>mem r w (by simpa using hw)) ⟨.bl _,H,I,rfl,?_⟩
  rw[show its.toArray.any e=its.any e by simp,yV (λz=>eqT z t) e r qs λz w' tz h1 h2 h3 h4=>ee z w' tz h1 h2 h3 h4]
  exact q
 .obtain⟨its,r,pl,hz⟩:=I.tuple hq
  refine SeqAt.in_tupleAt e pl (λw hw=>mem r w (by simpa using hw)) ⟨.bl _,H,I,rfl,?_⟩
  rw[show its.toArray.any e=its.any e by simp,yV (λz=>eqT z t) e r qs λz w' tz h1 h2 h3 h4=>ee z w' tz h1 h2 h3 h4]
  exact q
inductive Ty where|int|bool|str|tuple|list
noncomputable def Ty.name:Ty->String
 |.int => "int" |.bool => "bool" |.str => "str" |.tuple => "tuple" |.list => "list"
noncomputable def rW:Tr->Ty->Bool
 |.bl _,.bool=>true|.bl _,.int=>true|.int _,.int=>true|.str _,.str=>true|.tup _,.tuple=>true|.lst _,.list=>true
 |_,_=>false
def QX(K:FZ):List V->Hp->VK->Prop:=λxs H Q=>∃v t c,xs=[v,.ty (Ty.name c)]/\Rep K H v t/\Q (.bl (rW t c)) H
def mG(K:FZ):Prop:=∀c∈yR,∀C,PySem.W.nsIn K mainGlobals c=some (some (.ref C))->(∀a,PySem.W.KitX K (.ref a) (.ref C) (Fi a C))/\∀y:Ty,PySem.W.kitOne K (.ref C) (.type y.name)=some false
theorem adx(hX:mG X.K):fX X (.builtin "isinstance") (QX X.K):=by
 intro pins s σ H xs us Q I r h
 obtain⟨v,t,c,rfl,q1,q⟩:=h
 obtain⟨u,w',rfl,ru,lX⟩:=vals2 r
 obtain rfl:w'=Value.type (Ty.name c):=lX
 have fin:∀tk,EP X pins σ Q (.bool (rW t c)) {s with toks:=tk }:=λtk=>⟨.bl _,H,I.tok tk,rfl,q⟩
 cases q1 with
 |non=>cases ru; cases c <;> exact PySem.W.kia_one PySem.W.kitx_none I.iD True.intro (by kernel_rfl) (λz=>nomatch z) fin
 |bl y=>cases ru; cases c <;> exact PySem.W.kia_one PySem.W.kitx_bool I.iD True.intro (by kernel_rfl) (λz=>nomatch z) fin
 |int i=>obtain⟨_,rfl⟩:=ru; cases c <;> exact PySem.W.kia_one PySem.W.kitx_int I.iD True.intro (by kernel_rfl) (λz=>nomatch z) fin
 |str y=>obtain⟨_,rfl⟩:=ru; cases c <;> exact PySem.W.kia_one PySem.W.kitx_str I.iD True.intro (by kernel_rfl) (λz=>nomatch z) fin
 |tup h r =>
  cases ru
  obtain⟨_,_,⟨o,h1,h2,_⟩,_⟩:=I.tuple h
  cases c <;> exact PySem.W.kia_one PySem.W.kitx_tuple I.iD ⟨o,h1,h2⟩ (by kernel_rfl) (λz=>nomatch z) fin
 |lst h r =>
  cases ru
  obtain⟨_,_,p,_⟩:=I.list h
  obtain⟨o,h1,h2,_⟩:=p.isList
  cases c <;> exact PySem.W.kia_one PySem.W.kitx_list I.iD ⟨o,h1,h2⟩ (by kernel_rfl) (λz=>nomatch z) fin
 |bU h m n =>
  cases ru
  obtain⟨z1,z2⟩:=hX _ m _ n
  exact PySem.W.kia_one (z1 _) I.iD (I.hok _ _ h).1 (z2 c) (λz=>nomatch z) fin
def Fv(K:FZ):List V->Hp->VK->Prop:=λxs H Q=>∃(p:Addr) (bs:List Bool),xs=[.ref p]/\aF K H p (bs.map V.bl)/\Q (.bl (bs.all id)) H
theorem ady(hc:X.calm=true):fX X (.builtin "all") (Fv X.K):=by
 intro pins s σ H xs us Q I r h
 obtain⟨p,bs,rfl,hq,q⟩:=h
 obtain⟨u,rfl,ru⟩:=vals1 r
 cases ru
 obtain⟨its,rv,pl,hz⟩:=I.list hq
 refine call_all_walk (wpAny_pyIter_list pl.isList ?_)
 obtain⟨ol,hol,hol'⟩:=id pl.isList
 have hlt:p<s.heap.objs.size:=Heap.lt_size hol
 have hlen:its.toArray.size=bs.length:=by simpa using rv.length.symm
 have at_:∀(i:Nat) (v:Value),its.toArray[i]?=some v->∃k,bs[i]?=some k/\v=Value.bool k:=λi v e=>by
  have e':its[i]?=some v:=by simpa using e
  have hi:i<its.length:=(List.getElem?_eq_some_iff.mp e').1
  have hb:i<(bs.map V.bl).length:=by rw[rv.length]; exact hi
  obtain⟨u',h1,h2⟩:=rv.get (List.getElem?_eq_getElem hb)
  rw[e']at h1
  cases h1
  have hb':i<bs.length:=by simpa using hb
  refine⟨bs[i],List.getElem?_eq_getElem hb',?_⟩
  rw[List.getElem_map]at h2
  exact h2
 refine⟨s.heap.objs.size,_,_,_,_,_,λi=>bs.getD i true,rfl,Walks.list (A:=X.A.in1) (I.ok.hd hc) s.heap.objs.size p (Nat.ne_of_lt hlt) its.toArray,⟨⟨_,Heap.get?_push_size _ rfl,rfl,rfl⟩,⟨ol,Heap.get?_push_of_some _ hol,hol'⟩⟩,?_,?_⟩
 .intro i v s' Q' E' hP hQ'
  obtain⟨k,h1,rfl⟩:=at_ i v hP
  have:bs.getD i true=k:=by rw[List.getD_eq_getElem?_getD,h1]; rfl
  dsimp only at hQ'
  rw[this]at hQ'
  exact wpAny_truthy_bool hQ'
 .intro h' tk hk
  have I1:Inv X pins σ H {s with heap:=h',toks:=tk }:=I.kept λb o e=>hk b o (by
   have:=Heap.lt_size e
   simp
   exact Nat.ne_of_lt this) (Heap.get?_push_of_some _ e)
  refine⟨.bl _,H,I1,rfl,?_⟩
  have eq:(List.range its.toArray.size).all (λi=>bs.getD i true)=bs.all id:=by
   rw[hlen]
   clear q hq rv at_ hlen hz
   induction bs with
   |nil=>rfl
   |cons b r ih =>
    rw[List.length_cons,List.range_succ_eq_map,List.all_cons,List.all_map,List.all_cons]
    exact congrArg (b && ·) ih
  rw[eq]
  exact q
end
def At(K:FZ)(mg:Str->Option Value)(x:Str)(st:Stmt):Prop:=∃f fd,qe K x x st f fd/\mg x=some (.ref f)
section
variable {X:Cx}{k:Nat}{x:Str}{ps:List Str}{sp:Sp}{p q pos:Pos}{e:Expr}{es:List Expr}{te:TE}{t:TA}
theorem adz(hX:mG X.K)(c:Ty)(he:PE X e te)(h1:X.mg "isinstance" = none) (h2:X.mg x=none) (hb:bootBuiltins x=some (.type c.name):=by decide +kernel) (hg1:Gl X "isinstance" := by rfl) (hg2:Gl X x:=by rfl) (hn:x ≠ "__name__" := by decide) (hd:(x == ("__debug__" : Str))=false:=by decide)
  (hs:starEach (e::[.Name x q]) X.env=(false,eval e X.env)::starEach [.Name x q] X.env:=by rfl):PE X (.Call (.Name "isinstance" p) [e,.Name x q] [] pos) (yL (QX X.K) (Em te (Em (tC (.ty c.name)) P0))) :=
 Ql (adx hX) hg1 h1 PyProof.Rows.boot_isinstance (oE he (oE (abq hg2 h2 hb rfl hn hd) rK) hs) (he:=hs)
end
structure Pj(Pr:Hp->Hp)(H0:Hp):Prop where
 mono:∀{H H':Hp},Same H H'->Same (Pr H) (Pr H')
 sub:∀H,Same (Pr H) H
 new:∀{H:Hp} {r:Addr} {o:HO},Same H0 H->H r=none->Pr (upd H r o) r=some o
theorem Pj.id(H0:Hp):Pj (λH=>H) H0:=⟨λs=>s,λH=>Same.refl H,λ_ _=>bY⟩
theorem Pj.le(p:Pj Pr H0)(s:Same H0 H1):Pj Pr H1:=⟨p.mono,p.sub,λs' h=>p.new (s.trans s') h⟩
theorem iI(h:H p=none)(o:HO):Same H (upd H p o):=λb u q=>by rw[aJ (iC q h)]; exact q
noncomputable def notStar:Expr->Bool
 |.Starred _ _=>false
 |_=>true
theorem eY(h:notStar e=true):starEach (e::es) env=(false,eval e env)::starEach es env:=by
 cases e <;> first|rfl|(unfold notStar at h; cases h)
def qj(K:FZ)(T:Tr):TE:=λ_ H Q=>∀v H',Same H H'->(∀Pr,Pj Pr H->Rep K (Pr H') v T)->Q v H'
def rY(K:FZ)(Ts:List Tr):TA:=λ_ H Q=>∀vs H',Same H H'->(∀Pr,Pj Pr H->aq K (Pr H') vs Ts)->Q vs H'
def Fw(K:FZ)(Ts:List Tr):TE:=λ_ H Q=>∀a xs H1,Same H H1->H1 a=none->(∀Pr,Pj Pr H->aq K (Pr H1) xs Ts)->xs.length=Ts.length->Q (.ref a) (upd H1 a (.lst xs))
theorem PE.imp(h:PE X e t)(i:∀σ H Q,u σ H Q->t σ H Q):PE X e u:=⟨λpins s σ H Q I q=>h pins s σ H Q I (i σ H Q q)⟩
theorem PA.imp(h:PA X e t)(i:∀σ H Q,u σ H Q->t σ H Q):PA X e u:=⟨λpos pins s σ H Q I q=>h pos pins s σ H Q I (i σ H Q q)⟩
mutual
noncomputable def pd:Tr->PyData
 |.non=>.none
 |.bl b=>.bool b
 |.int i=>.int i
 |.str x=>.str x
 |.tup ts=>.tuple (Fy ts)
 |.lst ts=>.list (Fy ts)
 |.bU _=>.none
noncomputable def Fy:List Tr->List PyData
 | []=>[]
 |t::r=>pd t::Fy r
end
noncomputable def nw(H H':Hp):Hp:=λb=>match H b with
 |none=>H' b
 |some _=>none
def gH(P:Program)(w:World):iG:=λouter H s E e s'=>∃ea cls a0 H' B,e=.ref ea/\E cls none H'/\s'.os=s.os/\AllBare s'.gens/\Un (frs outer) [] H H' s.heap s'.heap/\cH P w H' B /\
 Heap.FlyingW B outer ea cls a0 s'.heap/\∀b o,s.heap.get? b=some o->b∉frs outer->∃o',B.get? b=some o'
theorem adA(hf:env.frame=some L)(h:b∈frs (env::outer)):b=L\/b∈frs outer:=by
 unfold frs at h
 rw[List.filterMap_cons_some hf]at h
 exact List.mem_cons.mp h
theorem adB(h:b∈frs outer):b∈frs (env::outer):=by
 obtain⟨e,he,q⟩:=List.mem_filterMap.mp h
 exact List.mem_filterMap.mpr ⟨e,List.mem_cons_of_mem _ he,q⟩
theorem adC(x:cH P w H h)(fr:∀b∈l,H b=none):cH P w H (PySem.W.hideAll h l):=λa o e =>
 (x a o e).stay (λb u hb q=>PySem.W.hideAll_get _ q λhm=>by
  rcases hb with rfl|hb
  .rw[fr _ hm]at e; cases e
  .rw[fr _ hm]at hb; cases hb) (λ_ q=>q) λ_ _ q=>q
section
variable {P:Program}{w:World}{K:FZ}{mg:Str->Option Value}{base:Heap}{N:List Str}{qual:Str}{scope:Scope}{f:Addr}{cd:Value}{A:Around}{outer:List Env}{s:Shared}{H:Hp}{E:XK}{CX:iG}
theorem Un.left{pins:LO}{σ : St}{H1 H2:Hp}{s1:Shared}{h2 h3 B:Heap}(I:Inv (iH CX P w K mg base N qual scope f cd A outer s H E) pins σ H1 s1)
  (u:Un (frs (envOfC qual scope s.heap.objs.size f cd::outer)) [] H1 H2 s1.heap h2) (st:B.StaysIn h2) (kb:∀b o,s1.heap.get? b=some o->b∉frs (envOfC qual scope s.heap.objs.size f cd::outer)->∃o',B.get? b=some o')
  (fl:B.StaysIn h3) (sl:h2.UpToSlots h3):Un (frs outer) [] H H2 s.heap h3/\∀b o,s.heap.get? b=some o->b∉frs outer->∃o',B.get? b=some o':=by
 have ub:=I.base
 have hf:(envOfC qual scope s.heap.objs.size f cd).frame=some s.heap.objs.size:=by
  rcases I.ok.stk with z|z
  .exact absurd (congrArg List.length z) (by show outer.length+1≠outer.length; lia)
  .exact z.2
 have no:∀b o,s.heap.get? b=some o->b∉frs outer->b∉frs (envOfC qual scope s.heap.objs.size f cd::outer):=λb o e n z=>by
  rcases adA hf z with rfl|z
  .exact absurd (Heap.lt_size e) (Nat.lt_irrefl _)
  .exact n z
 have nx:∀b:Addr,b∉([]:List Addr):=λb z=>nomatch z
 have inB:∀b o,s.heap.get? b=some o->b∉frs outer->∃o',B.get? b=some o':=λb o e n=>by
  obtain⟨o1,e1⟩:=ub.there b o e (nx b)
  exact kb b o1 e1 (no b o e n)
 have slots:∀b o,s.heap.get? b=some o->H b=none->b∈frs outer->∃sl,h3.get? b=some {o with slots:=sl }:=λb o e n z=>by
  obtain⟨QZ,e1⟩:=ub.slot b o e n z (nx b)
  obtain⟨sl2,e2⟩:=u.slot b _ e1 (ub.free b o e n (nx b)) (adB z) (nx b)
  obtain⟨_,o',e',nf⟩:=I.ok.jy.mem z
  have e'':s.heap.get? b=some o':=e'
  rw[e]at e''
  cases e''
  obtain⟨Fz,e3⟩:=sl b _ e2 nf
  exact⟨Fz,e3⟩
 refine⟨⟨λb o e n z _=>?_,λb o e n z _=>slots b o e n z,λb o e n _=>?_,λb o e _=>?_,λb xs q=>u.tups b xs (ub.tups b xs q),λb o q z=>u.jP b o q (ub.jP b o q z),λb ps q=>?_⟩,inB⟩
 .have e1:=ub.keep b o e n z (nx b)
  have e2:=u.keep b o e1 (ub.free b o e n (nx b)) (no b o e z) (nx b)
  obtain⟨o',e3⟩:=inB b o e z
  have e4:=st b o' e3
  rw[e2]at e4
  cases e4
  exact fl b o e3
 .obtain⟨o1,e1⟩:=ub.there b o e (nx b)
  exact u.free b o1 e1 (ub.free b o e n (nx b)) (nx b)
 .by_cases z:b∈frs outer
  .obtain⟨sl,e1⟩:=slots b o e (I.ok.pZ b z) z
   exact⟨_,e1⟩
  .obtain⟨o',e1⟩:=inB b o e z
   exact⟨o',fl b o' e1⟩
 .obtain⟨m1,e1⟩:=ub.jQ b ps q
  obtain⟨m2,e2⟩:=u.jQ b _ e1
  exact⟨m1++m2,by rw[e2,Array.append_assoc]⟩
end
def Raises(X:Cx)(E:XK):Prop:=∀(pins:LO) (σ : St) (H:Hp) (s:Shared) (h':Heap) (e C:Addr) (us:List Value),Inv X pins σ H s->Heap.MadeExcOf s.heap h' e (.ref C) us->E (.ref C) none H->X.xe (.ref e) {s with heap:=h' }
theorem FJ{P:Program}{w:World}{K:FZ}{mg:Str->Option Value}{base:Heap}{N:List Str}{qual:Str}{scope:Scope}{f:Addr}{cd:Value}{A:Around}{outer:List Env}{s:Shared}{H:Hp}{E:XK} :
  Raises (iH (gH P w) P w K mg base N qual scope f cd A outer s H E) E:=by
 intro pins σ H1 s1 h' e C us I hx q
 have hs:=I.stack
 have hf:(envOfC qual scope s.heap.objs.size f cd).frame=some s.heap.objs.size:=by
  rcases I.ok.stk with z|z
  .exact absurd (congrArg List.length z) (by show outer.length+1≠outer.length; lia)
  .exact z.2
 have hin:∀env∈(envOfC qual scope s.heap.objs.size f cd::outer),∀a,env.frame=some a->a∈frs (envOfC qual scope s.heap.objs.size f cd::outer):=λenv he b hb=>List.mem_filterMap.mpr ⟨env,he,hb⟩
 have Q5:(PySem.W.hideAll s1.heap (frs (envOfC qual scope s.heap.objs.size f cd::outer))).StaysIn s1.heap:=λb o z=>PySem.W.of_hideAll _ z
 have stH:=λb o z=>hx.keeps b o (Q5 b o z)
 refine wpAny_leaves_madeW (base:=PySem.W.hideAll s1.heap (frs (envOfC qual scope s.heap.objs.size f cd::outer))) (h:=s1.heap) I.ok.frames hf Q5 (PySem.W.funFrames_hide hs hin) hx λh'' t fl _ _ sl=>?_
 obtain⟨un,ib⟩:=Un.left (B:=PySem.W.hideAll s1.heap (frs (envOfC qual scope s.heap.objs.size f cd::outer))) I (Un.kept (h':=h') hx.keeps) stH (λb o z n=>⟨o,PySem.W.hideAll_get _ z n⟩) fl.1 sl
 exact⟨e,.ref C,.ref t,H1,_,rfl,q,I.os,I.bare,un,adC I.hok I.yj,fl,ib⟩
theorem FN{P:Program}{w:World}{K:FZ}{mg:Str->Option Value}{base:Heap}{N:List Str}{qual:Str}{scope:Scope}{f:Addr}{cd:Value}{A:Around}{outer:List Env}{s:Shared}{H:Hp}{E:XK} :
  Passes (gH P w) (iH (gH P w) P w K mg base N qual scope f cd A outer s H E) E:=by
 intro pins σ H1 s1 e s' I h
 obtain⟨ea,cls,a0,H2,B,rfl,q,os,bare,un,hok,fl,kb⟩:=h
 have hf:(envOfC qual scope s.heap.objs.size f cd).frame=some s.heap.objs.size:=by
  rcases I.ok.stk with z|z
  .exact absurd (congrArg List.length z) (by show outer.length+1≠outer.length; lia)
  .exact z.2
 refine wpAny_leaves_onW (base:=B) I.ok.frames hf fl λh'' yW sl=>?_
 obtain⟨un',ib⟩:=Un.left (B:=B) I un fl.1 kb yW.1 sl
 exact⟨ea,cls,a0,H2,B,rfl,q,os.trans I.os,bare,un',hok,yW,ib⟩
def adD(E:XK)(C:Addr)(te:TE):TS:=λ_ σ H=>te σ H λv H1=>[v].length=1/\E (.ref C) none H1
theorem adE(R:Raises X E)(O:OwnCls x C bm newId X.mg X.base)(FB:ExcBaseFacts B newId initId bm)(hc:X.calm=true)(ha:PE X e te)
  (hg:Gl X x:=by rfl) (hd:(x == ("__debug__" : Str))=false:=by decide) (hs:starEach [e] X.env=[(false,eval e X.env)]:=by rfl) :
  PS X (.Raise (some (.Call (.Name x np) [e] [] cpos)) none pos) (adD E C te):=by
 refine⟨λpins s σ H D I h=>?_⟩
 obtain⟨tl,N,nm,q,bs,hdct,sn,sub,ab,col,dd,k0,k1,k2,k3,k5,mN,hC,hN,hni,T⟩:=O.obj
 refine wpAny_Raise_call_subT (C:=C) (nm:=nm) (q:=q) (N:=N) (bs:=bs) (bm:=tl) (hdct:=hdct) (sn:=sn) (sub:=sub) (ab:=ab) (col:=col) (dd:=dd) (k0:=k0) (k1:=k1) (k2:=k2) (k3:=k3) (k5:=k5)
  FB (mN:=mN) (T.hasType FB.hasBase) (I.ok.hd hc) (by rw[hs]; rfl) hni (DK I hg O.bound ⟨rfl,?_⟩ hd)
 have ga:=oE ha rK (by rw[hs]; rfl)
 have z:=ga cpos pins s σ H (λvs H1=>vs.length=1/\E (.ref C) none H1) I (by
  exact h)
 rw[hs]at z ⊢
 refine Calls.evalArgs_plain (wpAny_mono z (λus s₂ h₂=>?_) λ_ _ y=>y)
 obtain⟨vs,H2,I2,rv,hl,hE⟩:=h₂
 refine⟨rfl,?_,I2.bk _ _ hC,hN.keeps I2.bk,T.keeps I2.bk,λh' e' hm=>R pins σ H2 s₂ h' e' C us I2 hm hE⟩
 rw[<-rv.length,hl]
 decide
def XP(X:Cx)(pins:LO)(EX:St->XK)(e:Value)(s':Shared):Prop:=∃σ H s,Inv X pins σ H s/\gH X.prog X.w X.stack H s (EX σ) e s'
abbrev TX:=Ends->(St->XK)->St->Hp->Prop
abbrev TEX:=(St->XK)->TE
end L2
end
section
namespace L2
open PySem PySem.Spec PyProof.Rows PySem.W PySem.Builtin PySem.Builtin.ObjectAttr PySem.Builtin.Getset_descriptor
structure oM(K:Frag)(C:Addr):Prop where
 ga:findIn K (.ref C) "__getattribute__" = some (some (.builtin "BaseException.__getattribute__"))
 gn:findIn K (.ref C) "__getattr__" = some none
 cl:findIn K (.ref C) "__class__" = some (some (.builtin "object.__class__"))
 ob:mroIn K C (.type "object")=some true
 be:mroIn K C (.type "BaseException")=some true
 is:(clsIn K C).isSome=true
section
variable {prog:Program}{w:World}{A:Around}{E:Value->Shared->Prop}{h:Heap}{g:Array GenState}{d:Drawn}{t:Nat}{os:OsState}{a C:Addr}{o:Obj}{K:Frag}
theorem adF(X:K.In h)(Z:oM K C)(hx:h.get? a=some o)(hc:o.cls=.ref C)(hq:R (.ok (.ret (.ref C))) ⟨h,g,d,t,os⟩) :
  codeAny (model prog w) A (.call (.builtin "getset_descriptor.__get__") ⟨[.builtin "object.__class__",.ref a,.ref C],[]⟩) R ⟨h,g,d,t,os⟩:=by
 have ty:Looks (model prog w) h (typeOf (.ref a)) (.ref C):=hc▸(Looks.ld hx).andThen .now
 have ms:=looks_mroIn (M:=model prog w) X Z.ob
 refine codeAny_call_builtin KF.slot_gs.plain KF.entry_gs (KF.slot_gs.check _ _ _ _ _ _ _ _ KF.type_class (KF.args_gs _ _ _) ?_)
 unfold Builtin.«getset_descriptor.__get__»
 unfold Builtin.Getset_descriptor.descrGet
 rw[dga_obj]
 refine wpAny_bind (wpAny_pure ?_)
 unfold Builtin.Getset_descriptor.descrGetter
 unfold Builtin.Getset_descriptor.descrCheckInstance
 unfold Builtin.Getset_descriptor.descrNameAndClass
 unfold isInstance
 simp only[KF.owner_class]
 repeat lk
 refine⟨Code.quiet_builtin _ (by decide +kernel),codeAny_builtin KF.entry_class ?_⟩
 unfold Builtin.«object.__class__»
 unfold shownTypeOf
 repeat lk
 all_goals first|exact hq|assumption
theorem adG(X:K.In h)(Z:oM K C)(hx:h.get? a=some o)(hc:o.cls=.ref C)(hq:Q (.done (.ret (.ref C))) ⟨h,g,d,t,os⟩) :
  wpAny (model prog w) A (Builtin.«object.__getattribute__» ⟨[.ref a,.str "__class__" tk],[]⟩) Q E ⟨h,g,d,t,os⟩:=by
 have hT5:(⟨h,g,d,t,os⟩:Shared).TypeIs (.builtin "object.__class__") "getset_descriptor" := KF.type_class
 have f6:=F.slot_gs_get.lookup
 have f7:=F.slot_gs_set.lookup
 have lc:=λA (Q:Option Value->Shared->Prop) E (q:Q (some (.builtin "object.__class__")) ⟨h,g,d,t,os⟩)=>looks_findIn (M:=model prog w) X Z.cl A Q E ⟨h,g,d,t,os⟩ (λ_ _ z=>z) q
 repeat(any_goals (first|assumption|(with_reducible refine wpAny_loadPart_at hx ?_; rw[hc])|with_reducible refine lc _ _ _ ?_|wp_step))
 refine adF X Z hx hc ?_
 repeat(any_goals (first|assumption|wp_step))
theorem adH(X:K.In h)(Z:oM K C)(hx:h.get? a=some o)(hc:o.cls=.ref C)(hq:Q () ⟨h,g,d,t,os⟩) :
  wpAny (model prog w) A (checkBuiltinCall "BaseException.__getattribute__" ⟨[.ref a,nameV],[]⟩) Q E ⟨h,g,d,t,os⟩:=by
 have b1:builtinKind "BaseException.__getattribute__" = some .slot:=by decide +kernel
 have b2:splitId "BaseException.__getattribute__" = some ("BaseException", "__getattribute__"):=by decide +kernel
 have ha:=F.args_bexc_ga (.ref a) nameV
 have lc:=λA (Q:Bool->Shared->Prop) E (q:Q true ⟨h,g,d,t,os⟩)=>looks_mroIn (M:=model prog w) X Z.be A Q E ⟨h,g,d,t,os⟩ (λ_ _ z=>z) q
 simp only[checkBuiltinCall,b1,b2]
 refine wpAny_bind ?_
 unfold isInstance
 repeat(first|(with_reducible refine wpAny_loadPart_at hx ?_; rw[hc])|with_reducible refine lc _ _ _ ?_|wp_step)
 exact hq
theorem adI(X:K.In h)(Z:oM K C)(hx:h.get? a=some o)(hc:o.cls=.ref C)(hq:R (.ok (.ret (.ref C))) ⟨h,g,d,t,os⟩) :
  codeAny (model prog w) A (.call (.builtin "BaseException.__getattribute__") ⟨[.ref a,.str "__class__" tk],[]⟩) R ⟨h,g,d,t,os⟩ :=
 codeAny_call_builtin PySem.F.attr_ValueError.ga.plain F.entry_bexc_ga (adH X Z hx hc (adG X Z hx hc hq))
theorem adJ(X:K.In h)(Z:oM K C)(hx:h.get? a=some o)(hc:o.cls=.ref C)(hq:Q (.ref C) ⟨h,g,d,t,os⟩) :
  wpAny (model prog w) A (getAttrBy (.ref a) (.str "__class__" tk) false) Q E ⟨h,g,d,t,os⟩:=by
 have f3:=PySem.F.attr_ValueError.ga.bind (.ref a)
 have hx2:(Value.builtin "BaseException.__getattribute__" == Value.builtin "object.__getattribute__")=false:=by decide +kernel
 have hx1:(onTheHeap (Value.ref C)&&Value.builtin "BaseException.__getattribute__" == Value.builtin "object.__getattribute__")=false:=by rw[hx2]; rfl
 have l1:=λA (Q:Option Value->Shared->Prop) E (q:Q (some (.builtin "BaseException.__getattribute__")) ⟨h,g,d,t,os⟩)=>looks_findIn (M:=model prog w) X Z.ga A Q E ⟨h,g,d,t,os⟩ (λ_ _ z=>z) q
 have l2:=λA (Q:Option Value->Shared->Prop) E (q:Q none ⟨h,g,d,t,os⟩)=>looks_findIn (M:=model prog w) X Z.gn A Q E ⟨h,g,d,t,os⟩ (λ_ _ z=>z) q
 repeat(any_goals (first|assumption|(with_reducible refine wpAny_loadPart_at hx ?_; rw[hc])|with_reducible refine l1 _ _ _ ?_|with_reducible refine l2 _ _ _ ?_|wp_step))
 refine adI X Z hx hc ?_
 repeat(any_goals (first|assumption|wp_step))
theorem adK(X:K.In h)(Z:oM K C)(hx:h.get? a=some o)(hc:o.cls=.ref C)(hq:Q (some (.ref C)) ⟨h,g,d,t+1,os⟩) :
  wpAny (model prog w) A (getAttr? (.ref a) "__class__") Q E ⟨h,g,d,t,os⟩:=by
 repeat(any_goals (first|assumption|with_reducible apply adJ X Z hx hc|wp_step))
theorem adL(Z:oM K C):KitX K (.ref a) (.ref C) (Fi a C) where
 ty:=λ_ _ _ ⟨o,_,h1,h2,_⟩=>h2▸(Looks.ld h1).andThen .now
 it:=λ_ _ X _=>by
  obtain⟨cd,e⟩:=Option.isSome_iff_exists.mp Z.is
  unfold clsIn at e
  split at e
  .rename_i ho
   intro A' Q' E' s' k q
   unfold isType loadHead
   exact wpAny_bind (wpAny_loadPart (k _ _ (X _ _ ho)) (wpAny_pure q))
  .cases e
 ne:=λh tp dd its n sl X htp=>by
  obtain⟨cd,e⟩:=Option.isSome_iff_exists.mp Z.is
  refine Bool.eq_false_iff.mpr λq=>?_
  have q':C=tp:=Value.ref.inj (beq_iff_eq.mp q)
  subst q'
  unfold clsIn at e
  split at e
  .rename_i ho
   have z:=(X _ _ ho).symm.trans htp
   cases z
  .cases e
 ca:=λ{_ _ _ _ _ s} X p k=>by
  obtain⟨h,g,d,t,os⟩:=s
  obtain⟨o,_,h1,h2,_⟩:=p
  exact adK X Z h1 h2 k
end
open PySem
theorem adM(a b:Int):a=b*a.fdiv b+a.fmod b:=by
 have:=Int.mul_fdiv_add_fmod a b
 omega
theorem Q6(a b:Int)(h:b≠0):(a.fmod b).natAbs<b.natAbs:=by
 have h1:=Int.emod_nonneg a h
 have h2:=Int.emod_lt a h
 rw[Int.fmod_eq_emod]
 split
 .omega
 .rename_i hn
  have hb:¬0<=b:=λz=>hn (.inl z)
  have hd:¬b∣a:=λz=>hn (.inr z)
  have h3:a%b≠0:=λz=>hd (Int.dvd_of_emod_eq_zero z)
  omega
theorem Q7(a b:Int):Int.gcd b (a.fmod b)=Int.gcd a b:=by
 have e:=adM a b
 apply Nat.dvd_antisymm
 .refine Int.dvd_gcd ?_ ?_
  .have h1:(Int.gcd b (a.fmod b):Int)∣b:=Int.gcd_dvd_left ..
   have h2:(Int.gcd b (a.fmod b):Int)∣a.fmod b:=Int.gcd_dvd_right ..
   have h3:=Int.dvd_add (Int.dvd_mul_of_dvd_left (c:=a.fdiv b) h1) h2
   rw[<-e]at h3
   exact h3
  .exact Int.gcd_dvd_left ..
 .refine Int.dvd_gcd ?_ ?_
  .exact Int.gcd_dvd_right ..
  .have h1:(Int.gcd a b:Int)∣a:=Int.gcd_dvd_left ..
   have h2:(Int.gcd a b:Int)∣b:=Int.gcd_dvd_right ..
   have e2:a.fmod b=a-b*a.fdiv b:=by omega
   rw[e2]
   exact Int.dvd_sub h1 (Int.dvd_mul_of_dvd_left h2)
theorem adN(a:Int):(if a<0 then -a else a)=((Int.gcd a 0:Nat):Int):=by
 rw[Int.gcd_zero_right]
 split <;> omega
theorem ql(hb:0<b):0<((Int.gcd a b:Nat):Int)/\((Int.gcd a b:Nat):Int)<=b/\1<=b / (Int.gcd a b:Nat)/\Int.gcd (a / (Int.gcd a b:Nat)) (b / (Int.gcd a b:Nat))=1/\(0<=a->0<=a / (Int.gcd a b:Nat)) /\
  a=(a / (Int.gcd a b:Nat))*(Int.gcd a b:Nat)/\b=(b / (Int.gcd a b:Nat))*(Int.gcd a b:Nat):=by
 have hg:0<Int.gcd a b:=Int.gcd_pos_of_ne_zero_right a (by omega)
 have hgi:0<((Int.gcd a b:Nat):Int):=by omega
 have d1:(Int.gcd a b:Int)∣a:=Int.gcd_dvd_left ..
 have d2:(Int.gcd a b:Int)∣b:=Int.gcd_dvd_right ..
 have e1:=Int.ediv_mul_cancel d1
 have e2:=Int.ediv_mul_cancel d2
 refine⟨hgi,Int.le_of_dvd hb d2,?_,Int.gcd_ediv_gcd_ediv_gcd hg,λh=>Int.ediv_nonneg h (by omega),e1.symm,e2.symm⟩
 have:0<b / (Int.gcd a b:Nat):=Int.ediv_pos_of_pos_of_dvd hb (by omega) d2
 omega
open PySem.Spec PyProof.Rows
theorem adO(h1:1<=q)(h2:1<=q')(g1:Int.gcd p q=1)(g2:Int.gcd p' q'=1)(e:p*q'=p'*q):p=p'/\q=q':=by
 have en:p.natAbs*q'.natAbs=p'.natAbs*q.natAbs:=by rw[<-Int.natAbs_mul,<-Int.natAbs_mul,e]
 have c1:Nat.Coprime q.natAbs p.natAbs:=by rw[Nat.coprime_comm]; exact g1
 have c2:Nat.Coprime q'.natAbs p'.natAbs:=by rw[Nat.coprime_comm]; exact g2
 have d1:q.natAbs∣q'.natAbs:=c1.dvd_of_dvd_mul_left ⟨p'.natAbs,by rw[en,Nat.mul_comm]⟩
 have d2:q'.natAbs∣q.natAbs:=c2.dvd_of_dvd_mul_left ⟨p.natAbs,by rw[<-en,Nat.mul_comm]⟩
 have ea:=Nat.dvd_antisymm d1 d2
 have eq:q=q':=by lia
 refine⟨?_,eq⟩
 rw[<-eq]at e
 exact Int.eq_of_mul_eq_mul_right (by lia) e
open PySem.W
theorem adP{K:Frag}{h:Heap}{mg:Str->Option Value}{x:Str}{C:Addr}{bmB:List Value}{newId:String}(X:K.In h)(G:h.Ns mainGlobals mg)(e:nsIn K mainGlobals x=some (some (.ref C)))(q:excIn K C bmB newId=true):OwnCls x C bmB newId mg h:=by
 constructor
 .exact mg_of X G e
 unfold excIn at q
 split at q
 case h_2=>cases q
 rename_i dd cd sl lk
 split at q
 case h_2=>cases q
 rename_i c0 bm y0 y1 y2 y3 nid y5 hm hl
 rw[Bool.and_eq_true,Bool.and_eq_true,Bool.and_eq_true,Bool.and_eq_true,Bool.and_eq_true]at q
 obtain⟨⟨⟨⟨⟨q1,q2⟩,q3⟩,q4⟩,q5⟩,q6⟩:=q
 have r1:=beq_iff_eq.mp q1
 have r2:=beq_iff_eq.mp q2
 have r6:=beq_iff_eq.mp q6
 have r3:cd.hasDel=false:=by simpa using q3
 subst r1 r2
 have hsl:sl = #[y0,y1,y2,y3,some (.builtin nid),y5]:=by
  cases sl with
  |mk l=>exact congrArg Array.mk hl
 subst hsl
 cases cd with
 |mk nm bs mro ns qn hd sn sub ab col del =>
  subst hm r3
  exact⟨bm,ns,nm,qn,bs,hd,sn,sub,ab,col,dd,y0,y1,y2,y3,y5,_,X _ _ lk,.of_isNs (isNs_of_in X q5),nsMap_none_of_in X q5 r6,tail_of_in X q4⟩
section
variable {P:Program}{w:World}{K:Frag}{mg:Str->Option Value}{base:Heap}
theorem qe.okX{x qual:Str}{st:Stmt}{f:Addr}{fd:FuncData}{N ps:List Str}{k:Nat}{sp:Sp}(F:qe K x qual st f fd)(S:rM N ps (bV st))(len:∀vs H Q E,sp vs H Q E->vs.length=ps.length)
  (hbody:∀(cdv:Value) (A:Around) (outer:List Env) (s:Shared) (H:Hp) (vs:List V) (Q:VK) (E:XK),dK k (A.deeper (envOfC qual (bV st) s.heap.objs.size f cdv))->sp vs H Q E ->
   ∃t,eO (iH (gH P w) P w K mg base N qual (bV st) f cdv A outer s H E) (gD st) t/\t {nx:=λ_ H'=>Q .non H',rt:=Q } (start N vs) H):jh P w K mg base (gH P w) (k+1) f fd ps sp:=by
 obtain⟨oc,od,kV,doc,pm,an,cdv,ct,osl,rfl,lk,hcd⟩:=F.ex
 exact Qk lk hcd S len λA outer s H vs Q E hr h=>hbody cdv A outer s H vs Q E hr h
def jA(P:Program)(w:World)(K:Frag)(mg:Str->Option Value)(base:Heap)(k:Nat)(x:Str)(ps:List Str)(sp:Sp):Prop :=
 ∃f fd,jh P w K mg base (gH P w) k f fd ps sp/\Binds K fd ps []/\keepIn K (.ref f)=true/\mg x=some (.ref f)
theorem jA.mono(D:jA P w K mg base j x ps sp)(h:j<=k):jA P w K mg base k x ps sp:=by
 obtain⟨f,fd,h1,h2⟩:=D
 exact⟨f,fd,h1.mono h,h2⟩
theorem At.FQ{k:Nat}{x:Str}{st:Stmt}{N ps:List Str}{sp:Sp}(a:At K mg x st)(S:rM N ps (bV st))
  (hb:∀(kV doc pm:Value) (an:Option Addr) (cdv ct:Value) (us:List Value),us.length=ps.length->bindArgs (fnOf x x (jV st) (gD st) (bV st) .none kV doc pm an cdv ct) ⟨us,[]⟩=pure (ps.zip us))
  (len:∀vs H Q E,sp vs H Q E->vs.length=ps.length)
  (hbody:∀(f:Addr) (cdv:Value) (A:Around) (outer:List Env) (s:Shared) (H:Hp) (vs:List V) (Q:VK) (E:XK),dK k (A.deeper (envOfC x (bV st) s.heap.objs.size f cdv))->sp vs H Q E ->
   ∃t,eO (iH (gH P w) P w K mg base N x (bV st) f cdv A outer s H E) (gD st) t/\t {nx:=λ_ H'=>Q .non H',rt:=Q } (start N vs) H):jA P w K mg base (k+1) x ps sp:=by
 obtain⟨f,fd,F,m⟩:=a
 exact⟨f,fd,F.okX S len λcdv A outer s H vs Q E hr h=>hbody f cdv A outer s H vs Q E hr h,F.binds hb,F.kp,m⟩
end
section
variable {X:Cx}{k:Nat}{x:Str}{ps:List Str}{sp:Sp}{p pos:Pos}{e:Expr}{es:List Expr}{t:TA}
theorem Q8:Passes (gH P w) X E0:=λ_ _ _ _ _ _ _ h=>by
 obtain⟨_,_,_,_,_,_,q,_⟩:=h
 exact q.elim
end
end L2
end
section
namespace L2
open PySem PySem.Spec PyProof.Rows
noncomputable def Q9(K:FZ)(l1 l2:Addr):It where
 go:=λi H=>∃xs ys x y,aF K H l1 xs/\aF K H l2 ys/\xs[i]?=some x/\ys[i]?=some y
 jU:=λi H v H'=>∃T x y,v=.ref T/\H T=none/\H'=upd H T (.tup [x,y])/\∀xs ys,aF K H l1 xs->aF K H l2 ys->xs[i]?=some x/\ys[i]?=some y
 stop:=λi H=>∃xs ys,aF K H l1 xs/\aF K H l2 ys/\i=min xs.length ys.length
def adQ(l1 l2 z TI TO i1 i2:Addr)(i:Nat)(h:Heap):Prop:=IsZip h z TI TO .none/\IsPair h TI (.ref i1) (.ref i2)/\(∃a b,IsPair h TO a b)/\h.IsListIter i1 l1 i/\h.IsListIter i2 l2 i
section
variable {P:Program}{w:World}{K:FZ}
theorem Inv.FT{pins:LO}{tk:Nat}{fp:List Addr}{xs:List V}{its:List Value}(I:Inv X pins σ H s)(hf:∀b∈fp,bD X pins H b)(k:∀b o,b∉fp->s.heap.get? b=some o->h'.get? b=some o)
  (th:∀b∈fp,∃o,h'.get? b=some o) (hT:s.heap.objs.size<=T) (ht:IsTup h' T its.toArray) (rv:Vals xs its) (hz:xs.length<=sizeLine):Inv X pins σ (upd H T (.tup xs)) {s with heap:=h',toks:=tk }:=by
 have fT:H T=none:=I.hok.fresh hT
 have neT:∀b o,s.heap.get? b=some o->b≠T:=λb o e z=>by rw[z]at e; exact absurd (Heap.lt_size e) (Nat.not_lt.mpr hT)
 have u0:∀b o,H b=some o->b≠T:=λb o e z=>by rw[z,fT]at e; cases e
 refine I.step (g':=s.gens) (d':=s.drawn) (ch:=fp) (λb hb=>?_) (λb o _ _ hc e _=>k b o hc e) (λb o _ _ hc e _=>⟨o.slots,k b o hc e⟩) (λb o _ e n=>by rw[aJ (neT b o e)]; exact n) (λb o hc e=>⟨o,k b o hc e⟩)
  (λb ys e=>by rw[aJ (u0 b _ e)]; exact e) (λb o u e=>by rw[aJ (u0 b _ e)]; exact e) (λb ps e=>⟨#[],by rw[aJ (u0 b _ e)]; simpa using e⟩) (λm hm=>?_) (λb u e=>?_) I.bare
 .obtain⟨f0,f1,f2,f3,f4,f5⟩:=hf b hb
  exact⟨f3,f1,f4,f5⟩
 .obtain⟨o,es,ep,ho,r⟩:=hm
  exact⟨o,es,ep,k _ o (λz=>(hf _ z).2.1 rfl) ho,r⟩
 .by_cases z:b=T
  .subst z
   rw[bY]at e
   cases e
   exact⟨hz,its,rv,ht⟩
  .rw[aJ z]at e
   refine(I.hok b u e).stay (λc o hc q=>k c o (λzc=>?_) q) (λc q=>by rw[aJ (u0 c _ q)]; exact q) λc ys q=>by rw[aJ (u0 c _ q)]; exact q
   have:=(hf c zc).1
   rcases hc with rfl|hc
   .rw[this]at e; cases e
   .rw[this]at hc; cases hc
theorem Inv.FW{pins:LO}{tk:Nat}{fp:List Addr}(I:Inv X pins σ H s)(hf:∀b∈fp,bD X pins H b)(k:∀b o,b∉fp->s.heap.get? b=some o->h'.get? b=some o):Inv X pins σ H {s with heap:=h',toks:=tk }:=by
 refine I.step (g':=s.gens) (d':=s.drawn) (ch:=fp) (λb hb=>?_) (λb o _ _ hc e _=>k b o hc e) (λb o _ _ hc e _=>⟨o.slots,k b o hc e⟩) (λb o _ e n=>n) (λb o hc e=>⟨o,k b o hc e⟩)
  (λb ys e=>e) (λb o u e=>e) (λb ps e=>⟨#[],by simpa using e⟩) (λm hm=>?_) (λb u e=>?_) I.bare
 .obtain⟨f0,f1,f2,f3,f4,f5⟩:=hf b hb
  exact⟨f3,f1,f4,f5⟩
 .obtain⟨o,es,ep,ho,r⟩:=hm
  exact⟨o,es,ep,k _ o (λz=>(hf _ z).2.1 rfl) ho,r⟩
 .refine(I.hok b u e).stay (λc o hc q=>k c o (λzc=>?_) q) (λc q=>q) λc ys q=>q
  have:=(hf c zc).1
  rcases hc with rfl|hc
  .rw[this]at e; cases e
  .rw[this]at hc; cases hc
theorem adR{elts:List Expr}{k:Nat}(l1 l2 z TI TO i1 i2:Addr)(D:ZipApart z TI TO i1 i2 l1 l2):Turn P w K (.Tuple elts k pos) (Q9 K l1 l2) [z,TI,TO,i1,i2] z (adQ l1 l2 z TI TO i1 i2) where
 mem:=by simp
 obj:=λi h st b hb=>by
  obtain⟨hz,hTI,⟨a,c,hTO⟩,⟨o1,e1,_,d1⟩,⟨o2,e2,_,d2⟩⟩:=st
  have hb':b=z\/b=TI\/b=TO\/b=i1\/b=i2:=by simpa using hb
  rcases hb' with rfl|rfl|rfl|rfl|rfl
  .exact⟨_,hz,λv q=>nomatch q⟩
  .exact⟨_,hTI,λv q=>nomatch q⟩
  .exact⟨_,hTO,λv q=>nomatch q⟩
  .exact⟨o1,e1,λv q=>by rw[d1]at q; cases q⟩
  .exact⟨o2,e2,λv q=>by rw[d2]at q; cases q⟩
 keep:=λi h h' st kp=>by
  obtain⟨hz,hTI,⟨a,c,hTO⟩,h1,h2⟩:=st
  exact⟨kp z (by simp) _ hz,kp TI (by simp) _ hTI,⟨a,c,kp TO (by simp) _ hTO⟩,h1.at λo e=>kp i1 (by simp) o e,h2.at λo e=>kp i2 (by simp) o e⟩
 item:=by
  intro X hP hw hK hc i pins s σ H E I hf st hg
  subst hP hw hK
  obtain⟨xs,ys,x,y,q1,q2,hx,hy⟩:=hg
  obtain⟨gJ,mH,p1,_⟩:=I.list q1
  obtain⟨its2,fY,p2,_⟩:=I.list q2
  obtain⟨u,hu,ru⟩:=mH.get hx
  obtain⟨v,hv,rv⟩:=fY.get hy
  have W:=WalksT.zip2 (prog:=X.prog) (w:=X.w) (A:=X.A) (I.ok.hd hc) z TI TO i1 i2 l1 l2 D gJ.toArray its2.toArray
  have lt1:i<gJ.length:=(List.getElem?_eq_some_iff.mp hu).1
  have aV:i<its2.length:=(List.getElem?_eq_some_iff.mp hv).1
  refine W.item i s _ E (by simp; lia) ⟨st.1,st.2.1,st.2.2.1,st.2.2.2.1,st.2.2.2.2,p1.isList,p2.isList⟩ λT vals h' tk hp hT ht mid kk=>?_
  obtain⟨u',v',e1,e2,rfl⟩:=hp
  have eu:u'=u:=by
   have:gJ[i]?=some u':=by simpa using e1
   rw[hu]at this; cases this; rfl
  have ev:v'=v:=by
   have:its2[i]?=some v':=by simpa using e2
   rw[hv]at this; cases this; rfl
  subst eu ev
  refine⟨.ref T,rfl,?_⟩
  refine W.go elts k pos i T _ _ E mid λh'' st' u6=>?_
  have nT:=W.apart i T _ mid
  have ob:=(λb hb=>(by
   obtain⟨hz,hTI,⟨a,c,hTO⟩,⟨o1,e1,_,d1⟩,⟨o2,e2,_,d2⟩⟩:=st
   have hb':b=z\/b=TI\/b=TO\/b=i1\/b=i2:=by simpa using hb
   rcases hb' with rfl|rfl|rfl|rfl|rfl
   .exact Heap.lt_size hz
   .exact Heap.lt_size hTI
   .exact Heap.lt_size hTO
   .exact Heap.lt_size e1
   .exact Heap.lt_size e2:b<s.heap.objs.size):∀b∈[z,TI,TO,i1,i2],b<s.heap.objs.size)
  have Ga:T∉[z,TI,TO,i1,i2]:=λm=>absurd (ob T m) (Nat.not_lt.mpr hT)
  have sub:∀b,b∉[z,TI,TO,i1,i2]->b∉[z,TO,i1,i2]:=λb n m=>n (by simp at m ⊢; rcases m with rfl|rfl|rfl|rfl <;> simp)
  have Gb:IsTup h'' T #[u',v']:=by
   obtain⟨o,e,r⟩:=ht
   exact⟨o,u6 T o nT e,r⟩
  have th:∀b∈[z,TI,TO,i1,i2],∃o,h''.get? b=some o:=λb hb=>by
   obtain⟨hz,hTI,⟨a,c,hTO⟩,⟨o1,e1,_,d1⟩,⟨o2,e2,_,d2⟩,_⟩:=st'
   have hb':b=z\/b=TI\/b=TO\/b=i1\/b=i2:=by simpa using hb
   rcases hb' with rfl|rfl|rfl|rfl|rfl
   .exact⟨_,hz⟩
   .exact⟨_,hTI⟩
   .exact⟨_,hTO⟩
   .exact⟨_,e1⟩
   .exact⟨_,e2⟩
  have I':Inv X pins σ (upd H T (.tup [x,y])) {s with heap:=h'',toks:=tk }:=I.FT (its:=[u',v']) hf (λb o n e=>u6 b o (sub b n) (kk b o (sub b n) e)) th hT Gb (.cons ru (.cons rv .nil)) (by show 2<=sizeLine; decide)
  refine⟨.ref T,_,I',rfl,⟨T,x,y,rfl,I.hok.fresh hT,rfl,λxs' ys' a1 a2=>?_⟩,⟨st'.1,st'.2.1,st'.2.2.1,st'.2.2.2.1,st'.2.2.2.2.1⟩,λb hb=>?_⟩
  .rw[I.nZ a1 q1,I.nZ a2 q2]
   exact⟨hx,hy⟩
  .have nb:b≠T:=by
    intro e0
    rw[e0]at hb
    exact Ga hb
   rw[aJ nb]
   exact(hf b hb).1
 done:=by
  intro X hP hw hK hc i pins s σ H E I hf st hg
  subst hP hw hK
  obtain⟨xs,ys,q1,q2,e⟩:=hg
  obtain⟨gJ,mH,p1,_⟩:=I.list q1
  obtain⟨its2,fY,p2,_⟩:=I.list q2
  have W:=WalksT.zip2 (prog:=X.prog) (w:=X.w) (A:=X.A) (I.ok.hd hc) z TI TO i1 i2 l1 l2 D gJ.toArray its2.toArray
  have ei:i=min gJ.toArray.size its2.toArray.size:=by simp[e,mH.length,fY.length]
  subst ei
  have sub:∀b,b∉[z,TI,TO,i1,i2]->b∉[z,TO,i1,i2]:=λb n m=>n (by simp at m ⊢; rcases m with rfl|rfl|rfl|rfl <;> simp)
  exact W.done s _ E ⟨st.1,st.2.1,st.2.2.1,st.2.2.2.1,st.2.2.2.2,p1.isList,p2.isList⟩ λh' tk kk=>⟨rfl,I.FW hf λb o n e=>kk b o (sub b n) e⟩
 self:=λA i s Q E st h=>wpAny_pyIter_zip st.1 h
end
section
variable {X:Cx}
def adS(K:FZ)(ta:TA):TI:=λσ H R=>ta σ H λvs H1=>∃l1 l2,vs=[.ref l1,.ref l2]/\(∃xs,aF K H1 l1 xs)/\(∃ys,aF K H1 l2 ys)/\R (Q9 K l1 l2) H1
theorem adT(hm:X.mg "zip" = none) (ha:PA X [a,b] ta) (hg:Gl X "zip" := by rfl) (hs:starEach [a,b] X.env=[(false,eval a X.env),(false,eval b X.env)]:=by rfl) (hs2:starEach [b] X.env=[(false,eval b X.env)]:=by rfl) :
  PI X (.Tuple elts k tpos) (.Call (.Name "zip" p) [a,b] [] pos) (adS X.K ta):=by
 intro pins s σ H R I h
 refine Call_ (jT I hg hm (show bootBuiltins "zip" = some (.type "zip") by decide +kernel) (PyProof.Rows.callWith_type1 (aC (ha pos pins s σ H _ I h) λus s1 ⟨vs,H1,I1,r1,q1⟩=>?_) (by rw[hs,hs2]) (by rw[hs2]; rfl)))
 obtain⟨l1,l2,e,⟨xs,h1⟩,⟨ys,h2⟩,q⟩:=q1
 subst e
 cases r1 with
 |cons r rr =>
  cases rr with
  |cons r' rr =>
   cases rr
   cases r
   cases r'
   obtain⟨gJ,mH,p1,_⟩:=I1.list h1
   obtain⟨its2,fY,p2,_⟩:=I1.list h2
   obtain⟨o1,e1,_⟩:=p1.isList
   obtain⟨o2,e2,_⟩:=p2.isList
   refine call_zip_2 p1.isList p2.isList λh' hz hTI hTO hi1 hi2 hsz hk=>?_
   refine wpAny_pyIter_zip hz ?_
   refine⟨_,[_,_,_,_,_],_,_,H1,rfl,I1.kept (t':=s1.toks) hk,adR l1 l2 _ _ _ _ _ (PySem.W.ktu_apart _ _ _ (Heap.lt_size e1) (Heap.lt_size e2)),⟨hz,hTI,⟨_,_,hTO⟩,hi1,hi2⟩,λc hc=>?_,q⟩
   have hc':c=s1.heap.objs.size+4\/c=s1.heap.objs.size+2\/c=s1.heap.objs.size+3\/c=s1.heap.objs.size\/c=s1.heap.objs.size+1:=by simpa using hc
   have hge:s1.heap.objs.size<=c:=by rcases hc' with rfl|rfl|rfl|rfl|rfl <;> lia
   exact I1.jg hge (I1.hok.fresh hge)
end
end L2
end
section
namespace L2
open PySem
open PySem.Spec PyProof.Rows
section
variable {X:Cx}
def Gd(K:FZ):R2:=λx y H Q=>∃t ts p xs,Rep K H x t/\y=.ref p/\(aF K H p xs\/bh K H p xs)/\aq K H xs ts/\deps ts<=40/\dep t<=40/\Q (.bl (!lu t ts)) H
open Classical in
theorem adU(hu:X.A.units+64<cLine):aY X (compareOp .NotIn) (Gd X.K):=by
 intro pins s σ H x y v u Q I rx ry h
 obtain⟨t,ts,p,xs,q1,rfl,hq,qs,hd,hd2,q⟩:=h
 cases ry
 have hu1:X.A.in1.units+40<cLine:=by
  have:=in1_units X.A
  lia
 -- what == tells of an item,by the item itself
 let e:Value->Bool:=λw'=>if h:∃z tz,z∈xs/\RelV z w'/\Rep X.K H z tz/\tz∈ts then eqT (Classical.choose (Classical.choose_spec h)) t else false
 have ee:∀z w' tz,z∈xs->RelV z w'->Rep X.K H z tz->tz∈ts->e w'=eqT tz t:=λz w' tz h1 h2 h3 h4=>by
  have hx:∃z tz,z∈xs/\RelV z w'/\Rep X.K H z tz/\tz∈ts:=⟨z,tz,h1,h2,h3,h4⟩
  show(if h:_ then _ else _)=_
  rw[dif_pos hx]
  have sp:=Classical.choose_spec (Classical.choose_spec hx)
  have key:∀z z' t1 t2,RelV z w'->RelV z' w'->dep t1<=99->Rep X.K H z t1->Rep X.K H z' t2->t1=t2:=λz z' t1 t2 a1 a2 d9 a3 a4=>by
   obtain rfl:=RelV.inj a1 a2
   exact Rep.inj I d9 a3 a4
  rw[key _ _ _ _ sp.2.1 h2 (by have:=rR sp.2.2.2; lia) sp.2.2.1 h3]
 have mem:∀{its:List Value},Vals xs its->∀w'∈its,SeqAt.EqAt X.A.in1 s w' v (e w'):=by
  intro its r w' hw
  obtain⟨j,hj,ej⟩:=List.mem_iff_getElem.mp hw
  have hjx:j<xs.length:=by rw[r.length]; exact hj
  obtain⟨u',h1,h2⟩:=r.get (List.getElem?_eq_getElem hjx)
  rw[List.getElem?_eq_getElem hj,ej]at h1
  cases h1
  obtain⟨tz,h3,h4⟩:=qs.get (List.getElem?_eq_getElem hjx)
  have hm:=List.mem_of_getElem? h3
  rw[ee _ _ tz (List.getElem_mem hjx) h2 h4 hm]
  exact(uY I 40 X.A.in1 tz t _ x _ v hu1 (Nat.le_trans (rR hm) hd) (by have:=rR hm; lia) (by lia) h4 q1 h2 rx).2
 rcases hq with hq|hq
 .obtain⟨its,r,pl,hz⟩:=I.list hq
  refine SeqAt.notIn_listAt e pl.isList (λw hw=>mem r w (by simpa using hw)) ⟨.bl _,H,I,rfl,?_⟩
  rw[show its.toArray.any e=its.any e by simp,yV (λz=>eqT z t) e r qs λz w' tz h1 h2 h3 h4=>ee z w' tz h1 h2 h3 h4]
  exact q
 .obtain⟨its,r,pl,hz⟩:=I.tuple hq
  refine SeqAt.notIn_tupleAt e pl (λw hw=>mem r w (by simpa using hw)) ⟨.bl _,H,I,rfl,?_⟩
  rw[show its.toArray.any e=its.any e by simp,yV (λz=>eqT z t) e r qs λz w' tz h1 h2 h3 h4=>ee z w' tz h1 h2 h3 h4]
  exact q
end
section
variable {X:Cx}
def Ge(K:FZ):R2:=λx y H Q=>∃t u,Rep K H x t/\Rep K H y u/\dep t<=40/\dep u<=40/\Q (.bl (!eqT t u)) H
theorem adV(hu:X.A.units+64<cLine):aY X (compareOp .NotEq) (Ge X.K):=by
 intro pins s σ H x y v u Q I vx vy h
 obtain⟨t,t',rx,ry,hd,du,q⟩:=h
 have hu0:X.A.units<cLine:=by lia
 have hu1:X.A.in1.units+40<cLine:=by
  have:=in1_units X.A
  lia
 have fin:SeqAt.RcNeAt X.A s v u (!eqT t t')->wpAny (model X.prog X.w) X.A (compareOp .NotEq v u) (EP X pins σ Q) X.xe s:=λh=>h _ _ _ _ ⟨.bl _,H,I,rfl,q⟩
 have items:∀{xs ys:List V} {ts us:List Tr} {its its2:List Value},Vals xs its->Vals ys its2->aq X.K H xs ts->aq X.K H ys us->deps ts<=40->deps us<=40->∀j (h1:j<its.toArray.size) (h2:j<its2.toArray.size),SeqAt.EqAt X.A.in1 s its.toArray[j] its2.toArray[j] (mF ts us j):=by
  intro xs ys ts us its its2 r1 r2 q1 q2 hde QW j h1 h2
  obtain⟨a,ea,ra⟩:=yU r1 h1
  obtain⟨b,eb,rb⟩:=yU r2 h2
  obtain⟨ta,eta,qa⟩:=q1.get ea
  obtain⟨tb,uZ,qb⟩:=q2.get eb
  rw[QV eta uZ]
  exact(uY I 40 X.A.in1 ta tb a b _ _ hu1 (Nat.le_trans (oK eta) hde) (by have:=oK eta; lia) (by have:=oK uZ; lia) qa qb ra rb).2
 cases rx with
 |bU h m n=>unfold dep at hd; lia
 |non =>
  cases vx
  cases ry with
  |non=>cases vy; exact fin .none_none
  |bl b2=>cases vy; exact fin (.none_bool _)
  |int i2=>obtain⟨_,rfl⟩:=vy; exact fin (.none_int _ _)
  |str z2=>obtain⟨_,rfl⟩:=vy; exact fin (.none_str _ _)
  |tup h r=>cases vy; obtain⟨_,_,p,_⟩:=I.tuple h; exact fin (.none_tuple p hu0)
  |lst h r=>cases vy; obtain⟨_,_,p,_⟩:=I.list h; exact fin (.none_list p.isList hu0)
  |bU h m n=>unfold dep at du; lia
 |bl b =>
  cases vx
  cases ry with
  |non=>cases vy; exact fin (.bool_none _)
  |bl b2=>cases vy; exact fin (.bool_bool _ _)
  |int i2=>obtain⟨_,rfl⟩:=vy; exact fin (.bool_int _ _ _)
  |str z2=>obtain⟨_,rfl⟩:=vy; exact fin (.bool_str _ _ _)
  |tup h r=>cases vy; obtain⟨_,_,p,_⟩:=I.tuple h; exact fin (.bool_tuple _ p hu0)
  |lst h r=>cases vy; obtain⟨_,_,p,_⟩:=I.list h; exact fin (.bool_list _ p.isList hu0)
  |bU h m n=>unfold dep at du; lia
 |int i =>
  obtain⟨_,rfl⟩:=vx
  cases ry with
  |non=>cases vy; exact fin (.int_none _ _)
  |bl b2=>cases vy; exact fin (.int_bool _ _ _)
  |int i2=>obtain⟨_,rfl⟩:=vy; exact fin (.int_int _ _ _ _)
  |str z2=>obtain⟨_,rfl⟩:=vy; exact fin (.int_str _ _ _ _)
  |tup h r=>cases vy; obtain⟨_,_,p,_⟩:=I.tuple h; exact fin (.int_tuple _ _ p hu0)
  |lst h r=>cases vy; obtain⟨_,_,p,_⟩:=I.list h; exact fin (.int_list _ _ p.isList hu0)
  |bU h m n=>unfold dep at du; lia
 |str z =>
  obtain⟨_,rfl⟩:=vx
  cases ry with
  |non=>cases vy; exact fin (.str_none _ _)
  |bl b2=>cases vy; exact fin (.str_bool _ _ _)
  |int i2=>obtain⟨_,rfl⟩:=vy; exact fin (.str_int _ _ _ _)
  |str z2=>obtain⟨_,rfl⟩:=vy; exact fin (.str_str _ _ _ _)
  |tup h r=>cases vy; obtain⟨_,_,p,_⟩:=I.tuple h; exact fin (.str_tuple _ _ p hu0)
  |lst h r=>cases vy; obtain⟨_,_,p,_⟩:=I.list h; exact fin (.str_list _ _ p.isList hu0)
  |bU h m n=>unfold dep at du; lia
 | @tup a1 xs1 ts h1 r1 =>
  cases vx
  obtain⟨its,rv,p,_⟩:=I.tuple h1
  have hd':deps ts<=40:=by unfold dep at hd; lia
  cases ry with
  |non=>cases vy; exact fin (.tuple_none p hu0)
  |bl b2=>cases vy; exact fin (.tuple_bool _ p hu0)
  |int i2=>obtain⟨_,rfl⟩:=vy; exact fin (.tuple_int _ _ p hu0)
  |str z2=>obtain⟨_,rfl⟩:=vy; exact fin (.tuple_str _ _ p hu0)
  |lst h r=>cases vy; obtain⟨_,_,p2,_⟩:=I.list h; exact fin (.tuple_list p p2.isList hu0)
  |bU h m n=>unfold dep at du; lia
  | @tup a2 xs2 us h2 r2 =>
   cases vy
   obtain⟨its2,fY,p2,_⟩:=I.tuple h2
   have R:=SeqAt.RcNeAt.tuples (A:=X.A) (e:=mF ts us) p p2 (by lia) λj k1 k2=>items rv fY r1 r2 hd' (by unfold dep at du; lia) j k1 k2
   have el:its.toArray.size=ts.length:=by simpa using(rv.length.symm.trans r1.length)
   have el2:its2.toArray.size=us.length:=by simpa using(fY.length.symm.trans r2.length)
   rw[el,el2]at R
   have eb:((List.range (min ts.length us.length)).all (mF ts us)&&ts.length == us.length)=eqT (.tup ts) (.tup us):=by
    show _=gF ts us
    by_cases e:ts.length=us.length
    .rw[e,Nat.min_self,<-e,uW e,beq_self_eq_true,Bool.and_true]
    .rw[beq_false_of_ne e,Bool.and_false,uV e]
   rw[eb]at R
   exact fin R
 | @lst a1 xs1 ts h1 r1 =>
  cases vx
  obtain⟨its,rv,p,_⟩:=I.list h1
  have hd':deps ts<=40:=by unfold dep at hd; lia
  cases ry with
  |non=>cases vy; exact fin (.list_none p.isList hu0)
  |bl b2=>cases vy; exact fin (.list_bool _ p.isList hu0)
  |int i2=>obtain⟨_,rfl⟩:=vy; exact fin (.list_int _ _ p.isList hu0)
  |str z2=>obtain⟨_,rfl⟩:=vy; exact fin (.list_str _ _ p.isList hu0)
  |bU h m n=>unfold dep at du; lia
  |tup h r=>cases vy; obtain⟨_,_,p2,_⟩:=I.tuple h; exact fin (.list_tuple p.isList p2 hu0)
  | @lst a2 xs2 us h2 r2 =>
   cases vy
   obtain⟨its2,fY,p2,_⟩:=I.list h2
   have el:its.toArray.size=ts.length:=by simpa using(rv.length.symm.trans r1.length)
   have el2:its2.toArray.size=us.length:=by simpa using(fY.length.symm.trans r2.length)
   by_cases e:ts.length=us.length
   .have R:=SeqAt.RcNeAt.lists (A:=X.A) (e:=mF ts us) p.isList p2.isList (by lia) (by lia) λj k1 k2=>items rv fY r1 r2 hd' (by unfold dep at du; lia) j k1 k2
    rw[el]at R
    rw[uW e]at R
    exact fin R
   .have R:=SeqAt.RcNeAt.lists_lengths (A:=X.A) p.isList p2.isList (by rw[el,el2]; simpa using e) (by lia)
    exact fin (show SeqAt.RcNeAt X.A s (.ref a1) (.ref a2) (!gF ts us)from(uV e).symm▸R)
end
open Classical in
noncomputable def bZ(o:Obj):Obj:=if o.cls=.type "list" ∧ ¬(∃its n,o={cls:=.type "list",data:=.seq its n })then{cls:=.none,data:=.fields #[] }else o
noncomputable def au(K:FZ):FZ:=K.map λp=>(p.1,bZ p.2)
theorem jB:∀(K:FZ) (a:Addr),(au K).lookup a=(K.lookup a).map bZ
 | [],a=>rfl
 |(c,q)::r,a=>by
  show((c,bZ q)::au r).lookup a=_
  rw[List.lookup_cons,List.lookup_cons]
  cases a == c with
  |true=>rfl
  |false=>exact jB r a
theorem adW{K:FZ}{a:Addr}{o:Obj}(h:(au K).lookup a=some o)(c:o.cls=.type "tuple"):K.lookup a=some o:=by
 rw[jB]at h
 cases e:K.lookup a with
 |none=>rw[e]at h; cases h
 |some q =>
  rw[e]at h
  have h:bZ q=o:=Option.some.inj h
  unfold bZ at h
  split at h
  .subst h; cases c
  .rw[h]
theorem adX{K:FZ}{a:Addr}{o:Obj}(h:(au K).lookup a=some o)(c:o.cls=.type "list"):K.lookup a=some o∧∃its n,o={cls:=.type "list",data:=.seq its n }:=by
 rw[jB]at h
 cases e:K.lookup a with
 |none=>rw[e]at h; cases h
 |some q =>
  rw[e]at h
  have h:bZ q=o:=Option.some.inj h
  unfold bZ at h
  split at h
  .subst h; cases c
  .rename_i n
   subst h
   refine⟨rfl,?_⟩
   by_cases z:∃its n,q={cls:=.type "list",data:=.seq its n }
   .exact z
   .exact(n ⟨c,z⟩).elim
theorem adY{K:FZ}{a:Addr}{o:Obj}(h:K.lookup a=some o)(c:o.cls=.type "tuple"):(au K).lookup a=some o:=by
 rw[jB,h]
 show some (bZ o)=some o
 unfold bZ
 rw[if_neg (by rintro⟨z,_⟩; rw[c]at z; injection z with z; exact absurd z (by decide))]
theorem bh.toK{K:FZ}{H:Hp}{a:Addr}{xs:List V}(h:bh (au K) H a xs):bh K H a xs:=by
 rcases h with h|⟨o,its,n,e,c,r⟩
 .exact .inl h
 .exact .inr ⟨o,its,n,adW e c,c,r⟩
def iJ(K:FZ)(H:Hp)(a:Addr)(xs:List V):Prop:=Rd H a (.lst xs)\/∃(its:Array Value) (n:Nat),K.lookup a=some {cls:=.type "list",data:=.seq its n }/\its.size<=sizeLine/\Vals xs its.toList
theorem aF.yX{K:FZ}{H:Hp}{a:Addr}{xs:List V}(h:aF (au K) H a xs):iJ K H a xs:=by
 rcases h with h|⟨o,its,n,e,c,_,d,r⟩
 .exact .inl h
 .obtain⟨e2,its',n',rfl⟩:=adX e c
  injection d with d1 d2
  subst d1 d2
  exact .inr ⟨its',n',e2,r⟩
theorem iJ.toK{K:FZ}{H:Hp}{a:Addr}{xs:List V}(h:iJ K H a xs):aF K H a xs:=by
 rcases h with h|⟨its,n,e,r⟩
 .exact .inl h
 .exact .inr ⟨_,its,n,e,rfl,rfl,rfl,r⟩
theorem iJ.toN{K:FZ}{H:Hp}{a:Addr}{xs:List V}(h:iJ K H a xs):aF (au K) H a xs:=by
 rcases h with h|⟨its,n,e,r⟩
 .exact .inl h
 .refine .inr ⟨{cls:=.type "list",data:=.seq its n },its,n,?_,rfl,rfl,rfl,r⟩
  rw[jB,e]
  show some (bZ _)=_
  unfold bZ
  rw[if_neg λz=>z.2 ⟨its,n,rfl⟩]
theorem aF.toK{K:FZ}{H:Hp}{a:Addr}{xs:List V}(h:aF (au K) H a xs):aF K H a xs:=h.yX.toK
theorem adZ{K:FZ}{N:Addr}{c:Str}{v:Value}(h:PySem.W.nsIn (au K) N c=some (some v)):PySem.W.nsIn K N c=some (some v):=by
 unfold PySem.W.nsIn at h ⊢
 rw[jB]at h
 cases e:K.lookup N with
 |none=>rw[e]at h; cases h
 |some q =>
  rw[e]at h
  by_cases z:q.cls=.type "list" ∧ ¬(∃its n,q={cls:=.type "list",data:=.seq its n })
  .have:bZ q={cls:=.none,data:=.fields #[] }:=by unfold bZ; rw[if_pos z]
   rw[show(some q).map bZ=some (bZ q)from rfl,this]at h
   cases h
  .have:bZ q=q:=by unfold bZ; rw[if_neg z]
   rw[show(some q).map bZ=some (bZ q)from rfl,this]at h
   exact h
theorem Ra{K:FZ}{H:Hp}:(∀{v t},Rep (au K) H v t->Rep K H v t)/\∀{vs ts},aq (au K) H vs ts->aq K H vs ts:=Rep.both .non .bl .int .str (λ_ _ _ h q=>.tup h.toK q) (λ_ _ _ h q=>.lst h.toK q) (λ_ _ _ h m n=>.bU h m (adZ n)) .nil λ_ _ _ _ p q=>.cons p q
theorem Rep.toK{K:FZ}{H:Hp}{v:V}{t:Tr}(h:Rep (au K) H v t):Rep K H v t:=Ra.1 h
theorem aq.toK{K:FZ}{H:Hp}{v:List V}{t:List Tr}(h:aq (au K) H v t):aq K H v t:=Ra.2 h
section
variable {X:Cx}
theorem Inv.Gf(I:Inv X pins σ H s)(hH:iJ X.K H l xs):xs.length<=sizeLine/\∃(its:List Value) (n:Nat),Vals xs its/\xs.length=its.length/\s.heap.get? l=some {cls:=.type "list",data:=.seq its.toArray n }:=by
 rcases hH with hH|⟨its,n,e,z,r⟩
 .obtain⟨z,its,n,r,e⟩:=hH.ok I.hok
  exact⟨z,its,n,r,r.length,e⟩
 .have l':=r.length.trans Array.length_toList
  exact⟨by rw[l']; exact z,its.toList,n,r,r.length,I.iD _ _ e⟩
def Rb(K:FZ):R2:=λx y H Q=>∃l b xs zs,x=.ref l/\y=.ref b/\iJ K H l xs/\iJ K H b zs/\xs.length+zs.length<=sizeLine/\∀p,H p=none->Q (.ref p) (upd H p (.lst (xs++zs)))
theorem ad0:aY X (binaryOp .Add) (Rb X.K):=by
 intro pins s σ H x y v u Q I rx ry h
 obtain⟨l,b,xs,zs,rfl,rfl,hH,hB,hz,q⟩:=h
 cases rx
 cases ry
 obtain⟨z,its,n,r,hl,e⟩:=I.Gf hH
 obtain⟨z2,its2,n2,r2,hl2,e2⟩:=I.Gf hB
 refine PySem.P.add_list e e2 ?_ (by rw[List.size_toArray,List.size_toArray]; lia)
 have ea:its.toArray++its2.toArray=(its++its2).toArray:=by simp
 rw[ea]
 exact⟨.ref _,_,I.yP (t':=s.toks) (r.append r2) (by rw[List.length_append]; lia),rfl,q _ I.fresh⟩
end
def Rf(K:FZ):R2:=λx y H Q=>∃l k xs,x=.ref l/\y=.int k/\iJ K H l xs /\ -(2 ^ 63)<=k/\k<2 ^ 63/\xs.length*k.toNat<=sizeLine/\∀p,H p=none->Q (.ref p) (upd H p (.lst (List.replicate k.toNat xs).flatten))
theorem ad1{X:Cx}:aY X (binaryOp .Mult) (Rf X.K):=by
 intro pins s σ H x y v u Q I rx ry h
 obtain⟨l,k,xs,rfl,rfl,hH,h1,h2,hz,q⟩:=h
 cases rx
 obtain⟨t,rfl⟩:=ry
 obtain⟨z,its,n,r,hl,e⟩:=I.Gf hH
 have hlen:its.toArray.size*k.toNat<=sizeLine:=by rw[List.size_toArray,<-hl]; exact hz
 have hcap:¬its.toArray.size*k.toNat > (2 ^ 63-1) / 8:=by
  have:(sizeLine:Nat)<=(2 ^ 63-1) / 8:=by decide
  lia
 have hfit:¬(!Builtin.List.listFitsIndex k)=true:=by
  rw[fitsIndex_both h1 h2]
  exact Bool.false_ne_true
 have ad2:¬Builtin.List.listTooLong (its.toArray.size*k.toNat)=true:=by
  rw[adk hlen]
  exact Bool.false_ne_true
 have hnew:List.foldl (λx1 x2=>x1++x2) #[] (List.replicate (if its.toArray.isEmpty=true then 0 else k.toNat) its.toArray)=(List.replicate k.toNat its).flatten.toArray:=by
  have f0:∀m:Nat,List.foldl (λx1 x2=>x1++x2) #[] (List.replicate m its.toArray)=(List.replicate m its).flatten.toArray:=λm=>by
   have:=foldl_rep its m []
   rw[List.nil_append]at this
   exact this
  rw[f0]
  cases its with
  |nil=>simp
  |cons a r'=>rw[if_neg (by simp)]
 refine wpAny_binaryOp_repeat_ref (T := "list") (U := "int") (by decide) ⟨_,e,rfl⟩ (λs'=>typeIs_int s' k t) noFill_list_mul F.fills_int_mul F.slot_int_rmul repeat_list F.slot_int_index.lookup
  (call_meets F.slot_int_rmul (typeIs_int s k t) F.entry_int_rmul (F.args_int_rmul_2 _ _) (int___rmul___int_list k t l its.toArray n)
   ⟨e,rfl,⟨_,e,rfl⟩,call_meets F.slot_list_mul ⟨_,e,rfl⟩ F.entry_list_mul (F.args_list_mul_2 _ _) (AutoListH.list___mul___list_int_3 l its.toArray n k t hfit hcap ad2) ⟨e,?_⟩⟩)
 rw[hnew]
 exact⟨.ref _,_,I.yP (t':=s.toks) (r.rep k.toNat) (by rw[len_rep,Nat.mul_comm]; exact hz),rfl,q _ I.fresh⟩
inductive Rs(α : Type) where
 |bad|ex (c:Str)|ok (a : α)
noncomputable def Rs.bind{α β : Type}:Rs α -> (α -> Rs β)->Rs β
 |.bad,_=>.bad
 |.ex c,_=>.ex c
 |.ok a,f=>f a
noncomputable instance:Monad Rs where
 pure:=.ok
 bind:=Rs.bind
inductive Sl where
 |un|sh (t:Tr)|ow (ts:List Tr)|rf (ts:List Tr)|dp (ts:List Tr)
abbrev En:=List Sl
inductive Rv where
 |v (T:Tr) (fr:Bool)|s (i:Nat)
abbrev EF:=En->Rs (Rv × En)
abbrev BF:=En->Rs (Bool × En)
abbrev AF:=En->Rs (List Rv × En)
abbrev OF:=En->Rs (Option Int × En)
abbrev IF:=En->Rs (List Tr × En)
abbrev GF:=Tr->En->Rs En
abbrev rZ:=List Tr->En->Rs En
inductive Fl where
 |nx|rt (T:Tr) (fr:Bool)|bk|ct
abbrev SF:=En->Rs (Fl × En)
noncomputable def qm:Tr->Bool
 |.lst _=>true
 |_=>false
noncomputable def eZ:List Str:=["falling_places", "order_of_bounds"]
def Tb(K:FZ)(b:Addr):Prop:=∃x∈eZ,∃c,PySem.W.tabIn K x=some (c,b)
def Rg(o:Obj)(q:Str):Prop:=∃vs t,o.data=.fields vs/\vs[1]?=some (.str q t)
noncomputable def yZ(x:Str):Str:=x++(".<locals>." : Str)++("<lambda>" : Str)
def zf(H:Hp)(q:Str)(ps:Array Value):Prop:=TriplesOk ps.toList/\∀pos v,codeAmong pos ps.toList=some v->∃c o,v=.ref c/\H c=some (.cV o (.own 0))/\Rg o q
def bN(K:FZ)(H:Hp):Prop:=∀x∈eZ,∀c b,PySem.W.tabIn K x=some (c,b)->∃ps,H b=some (.cF ps)/\zf H (yZ x) ps
theorem bN.cF{K:FZ}{H:Hp}(h:bN K H){b:Addr}(t:Tb K b):∃ps,H b=some (.cF ps):=by
 obtain⟨x,hx,c,e⟩:=t
 obtain⟨ps,q,_⟩:=h x hx c b e
 exact⟨ps,q⟩
theorem bN.nt{K:FZ}{H:Hp}(h:bN K H){b:Addr}{xs:List V}(e:H b=some (.lst xs)):¬Tb K b:=λt=>by
 obtain⟨ps,q⟩:=h.cF t
 rw[e]at q
 cases q
theorem bN.fr{K:FZ}{H H':Hp}(h:bN K H)(s:∀b o,(∀xs,o ≠ .lst xs)->H b=some o->H' b=some o):bN K H':=λx hx c b e=>by
 obtain⟨ps,q,t1,t2⟩:=h x hx c b e
 refine⟨ps,s _ _ (λ_ z=>by cases z) q,t1,λpos v k=>?_⟩
 obtain⟨c,o,e1,e2,e3⟩:=t2 pos v k
 exact⟨c,o,e1,s _ _ (λ_ z=>by cases z) e2,e3⟩
theorem bN.upd{K:FZ}{H:Hp}(h:bN K H){a:Addr}{xs:List V}{o:HO}(e:H a=some (.lst xs)):bN K (L2.upd H a o):=h.fr λb u n q=>by
 rw[aJ]
 .exact q
 .rintro rfl
  rw[e]at q
  cases q
  exact n _ rfl
mutual
noncomputable def bA:Tr->Bool
 |.tup ts=>cg ts
 |.lst _=>false
 |_=>true
noncomputable def cg:List Tr->Bool
 | []=>true
 |t::r=>bA t&&cg r
end
inductive DR(K:FZ)(G H:Hp):List V->List Tr->List Addr->Prop
 |nil:DR K G H [] [] []
 |cl {x:V} {u:Tr} {xs:List V} {ts:List Tr} {bs:List Addr} (n:bA u=true) (h:Rep K G x u) (r:DR K G H xs ts bs):DR K G H (x::xs) (u::ts) bs
 |rw {b:Addr} {ys:List V} {us:List Tr} {cs:List Addr} {xs:List V} {ts:List Tr} {bs:List Addr} (h:H b=some (.lst ys)) (q:DR K G H ys us cs) (r:DR K G H xs ts bs):DR K G H (.ref b::xs) (.lst us::ts) (b::(cs++bs))
 |tp {b:Addr} {ys:List V} {us:List Tr} {cs:List Addr} {xs:List V} {ts:List Tr} {bs:List Addr} (h:bh K G b ys) (q:DR K G H ys us cs) (r:DR K G H xs ts bs):DR K G H (.ref b::xs) (.tup us::ts) (cs++bs)
theorem DR.mono{K:FZ}{G G' H H':Hp}(m:Same G G'){xs:List V}{ts:List Tr}{bs:List Addr}(h:DR K G H xs ts bs):(∀b∈bs,∀o,H b=some o->H' b=some o)->DR K G' H' xs ts bs:=by
 induction h with
 |nil=>exact λ_=>.nil
 |cl n h _ ih=>exact λk=>.cl n (h.mono m) (ih k)
 |rw h _ _ i1 i2=>exact λk=>.rw (k _ (List.mem_cons_self ..) _ h) (i1 λb hb=>k b (List.mem_cons_of_mem _ (List.mem_append_left _ hb))) (i2 λb hb=>k b (List.mem_cons_of_mem _ (List.mem_append_right _ hb)))
 |tp h _ _ i1 i2=>exact λk=>.tp (m.jz h) (i1 λb hb=>k b (List.mem_append_left _ hb)) (i2 λb hb=>k b (List.mem_append_right _ hb))
theorem DR.lst{K:FZ}{G H:Hp}{xs:List V}{ts:List Tr}{bs:List Addr}(h:DR K G H xs ts bs):∀b∈bs,∃ys,H b=some (.lst ys):=by
 induction h with
 |nil=>exact λ_ h=>by cases h
 |cl _ _ _ ih=>exact ih
 |rw q _ _ i1 i2 =>
  intro b h
  rcases List.mem_cons.mp h with rfl|h
  .exact⟨_,q⟩
  .exact(List.mem_append.mp h).elim (i1 b) (i2 b)
 |tp _ _ _ i1 i2=>exact λb h=>(List.mem_append.mp h).elim (i1 b) (i2 b)
theorem DR.flat{K:FZ}{G H:Hp}:∀{ts:List Tr} {xs:List V},aq K G xs ts->cg ts=true->DR K G H xs ts []
 | [],_,h,_=>by cases h; exact .nil
 |t::ts,_,h,n=>by
  cases h with
  |cons h r =>
   have n:(bA t&&cg ts)=true:=n
   rw[Bool.and_eq_true]at n
   exact .cl n.1 h (DR.flat r n.2)
theorem DR.nil_of{K:FZ}{G H:Hp}{xs:List V}{ts:List Tr}{bs:List Addr}(h:DR K G H xs ts bs):cg ts=true->bs=[]:=by
 induction h with
 |nil=>exact λ_=>rfl
 | @cl _ u _ ts _ _ _ _ ih =>
  intro n
  have n:(bA u&&cg ts)=true:=n
  rw[Bool.and_eq_true]at n
  exact ih n.2
 |rw=>exact λn=>(by cases n)
 | @tp _ _ us _ _ ts _ _ _ _ i1 i2 =>
  intro n
  have n:(cg us&&cg ts)=true:=n
  rw[Bool.and_eq_true]at n
  rw[i1 n.1,i2 n.2]
  rfl
theorem zj:∀{ts:List Tr},(∀t∈ts,bA t=true)->cg ts=true
 | [],_=>rfl
 |t::ts,h=>by
  show(bA t&&cg ts)=true
  rw[h t (List.mem_cons_self ..),zj λx hx=>h x (List.mem_cons_of_mem _ hx)]
  rfl
theorem DR.app{K:FZ}{G H:Hp}{xs ys:List V}{ts us:List Tr}{as bs:List Addr}(h:DR K G H xs ts as)(r:DR K G H ys us bs):DR K G H (xs++ys) (ts++us) (as++bs):=by
 induction h with
 |nil=>exact r
 |cl n h _ ih=>exact .cl n h ih
 |rw h q _ _ ih=>have:=DR.rw h q ih; rw[<-List.append_assoc]at this; exact this
 |tp h q _ _ ih=>have:=DR.tp h q ih; rw[<-List.append_assoc]at this; exact this
theorem DR.reps{K:FZ}{G G' H:Hp}(m:Same G G'){xs:List V}{ts:List Tr}{bs:List Addr}(h:DR K G H xs ts bs):(∀b∈bs,G' b=H b)->aq K G' xs ts:=by
 induction h with
 |nil=>exact λ_=>.nil
 |cl n h _ ih=>exact λk=>.cons (h.mono m) (ih k)
 |rw h _ _ i1 i2=>exact λk=>.cons (.lst (aF.of ((k _ (List.mem_cons_self ..)).trans h)) (i1 λb hb=>k b (List.mem_cons_of_mem _ (List.mem_append_left _ hb)))) (i2 λb hb=>k b (List.mem_cons_of_mem _ (List.mem_append_right _ hb)))
 |tp h _ _ i1 i2=>exact λk=>.cons (.tup (m.jz h) (i1 λb hb=>k b (List.mem_append_left _ hb))) (i2 λb hb=>k b (List.mem_append_right _ hb))
theorem DR.length{K:FZ}{G H:Hp}{xs:List V}{ts:List Tr}{bs:List Addr}(h:DR K G H xs ts bs):xs.length=ts.length:=by
 induction h with
 |nil=>rfl
 |cl _ _ _ ih=>rw[List.length_cons,List.length_cons,ih]
 |rw _ _ _ _ ih=>rw[List.length_cons,List.length_cons,ih]
 |tp _ _ _ _ ih=>rw[List.length_cons,List.length_cons,ih]
theorem DR.split{K:FZ}{G H:Hp}{xs:List V}{t:Tr}{ts:List Tr}{bs:List Addr}(h:DR K G H xs (t::ts) bs):∃v ys c b,xs=v::ys/\bs=c++b/\DR K G H [v] [t] c/\DR K G H ys ts b:=by
 cases h with
 |cl n h r=>exact⟨_,_,[],_,rfl,rfl,.cl n h .nil,r⟩
 | @rw b _ _ cs _ _ bs h q r=>exact⟨_,_,b::cs,bs,rfl,rfl,by have:=DR.rw h q .nil; rwa[List.append_nil]at this,r⟩
 | @tp b _ _ cs _ _ bs h q r=>exact⟨_,_,cs,bs,rfl,rfl,by have:=DR.tp h q .nil; rwa[List.append_nil]at this,r⟩
theorem DR.at{K:FZ}{G H:Hp}:∀{ts:List Tr} {xs:List V} {bs:List Addr} {m:Nat} {T:Tr},DR K G H xs ts bs->bs.Nodup->ts[m]?=some T->∃v cs,xs[m]?=some v/\DR K G H [v] [T] cs/\cs.Nodup/\(∀c∈cs,c∈bs)/\∀G' H' T',Same G G'->(∀b∈bs,b∉cs->∀o,H b=some o->H' b=some o)->DR K G' H' [v] [T'] cs->DR K G' H' xs (ts.set m T') bs
 | [],_,_,_,_,_,_,h=>by simp at h
 |t::ts,_,_,m,T,d,n,h=>by
  obtain⟨v,ys,c,b,rfl,rfl,d1,d2⟩:=d.split
  obtain⟨n1,n2,n3⟩:=List.nodup_append.mp n
  cases m with
  |zero =>
   obtain rfl:t=T:=by simpa using h
   exact⟨v,c,rfl,d1,n1,λx hx=>List.mem_append_left _ hx,λG' H' T' g k q=>q.app (d2.mono g λx hx=>k x (List.mem_append_right _ hx) λz=>n3 x z x hx rfl)⟩
  |succ m =>
   obtain⟨w,cs,h1,h2,h3,h4,h5⟩:=DR.at d2 n2 (by simpa using h)
   exact⟨w,cs,by simpa using h1,h2,h3,λx hx=>List.mem_append_right _ (h4 x hx),λG' H' T' g k q=>(d1.mono g λx hx=>k x (List.mem_append_left _ hx) λz=>n3 x hx x (h4 x z) rfl).app (h5 G' H' T' g (λx hx=>k x (List.mem_append_right _ hx)) q)⟩
noncomputable abbrev Fp:=Nat->List Addr
noncomputable def Fn(F:Fp)(b:Addr):Prop:=∃i,b∈F i
noncomputable def Rh(K:FZ)(G H:Hp)(v:Option (Option V))(f:List Addr)(ts:List Tr)(P:Addr->Prop):Prop:=∃a xs,v=some (some (.ref a))/\f=[a]/\P a/\H a=some (.lst xs)/\aq K G xs ts
noncomputable def mJ(K:FZ)(R:Addr->Prop)(G H:Hp)(v:Option (Option V))(f:List Addr):Option Sl->Prop
 |some (.sh T)=>f=[]/\∃u,v=some (some u)/\Rep K G u T
 |some (.ow ts)=>Rh K G H v f ts λa=>¬R a
 |some (.rf ts)=>Rh K G H v f ts R
 |some (.dp ts)=>∃a xs bs,v=some (some (.ref a))/\f=a::bs/\f.Nodup/\(∀b∈f,¬R b)/\H a=some (.lst xs)/\DR K G H xs ts bs
 |_=>f=[]
theorem mJ.lst{K:FZ}{R:Addr->Prop}{G H:Hp}{v:Option (Option V)}{f:List Addr}{s:Option Sl}(h:mJ K R G H v f s):∀b∈f,∃ys,H b=some (.lst ys):=λb hb=>by
 unfold mJ at h
 split at h
 .rw[h.1]at hb; cases hb
 .obtain⟨a,xs,_,rfl,_,q,_⟩:=h; cases List.mem_singleton.mp hb; exact⟨_,q⟩
 .obtain⟨a,xs,_,rfl,_,q,_⟩:=h; cases List.mem_singleton.mp hb; exact⟨_,q⟩
 .obtain⟨a,xs,bs,_,rfl,_,_,q,d⟩:=h
  rcases List.mem_cons.mp hb with rfl|hb
  .exact⟨_,q⟩
  .exact d.lst b hb
 .rw[h]at hb; cases hb
theorem mJ.mono{K:FZ}{R:Addr->Prop}{G G' H H':Hp}{v:Option (Option V)}{f:List Addr}{s:Option Sl}(h:mJ K R G H v f s)(m:Same G G')(k:∀b∈f,∀o,H b=some o->H' b=some o):mJ K R G' H' v f s:=by
 unfold mJ at h ⊢
 split at h
 .obtain⟨h1,u,h2,h3⟩:=h; exact⟨h1,u,h2,h3.mono m⟩
 .obtain⟨a,xs,h1,rfl,n,q,r⟩:=h; exact⟨a,xs,h1,rfl,n,k _ (List.mem_singleton.mpr rfl) _ q,r.mono m⟩
 .obtain⟨a,xs,h1,rfl,n,q,r⟩:=h; exact⟨a,xs,h1,rfl,n,k _ (List.mem_singleton.mpr rfl) _ q,r.mono m⟩
 .obtain⟨a,xs,bs,h1,rfl,nd,n,q,d⟩:=h; exact⟨a,xs,bs,h1,rfl,nd,n,k _ (List.mem_cons_self ..) _ q,d.mono m λb hb=>k b (List.mem_cons_of_mem _ hb)⟩
 .exact h
structure Ok(K:FZ)(R:Addr->Prop)(ρ : En)(σ : St)(G H:Hp)(F:Fp):Prop where
 len : ρ.length = σ.length
 sub:Same G H
 tb:bN K H
 tg:∀b,Tb K b->G b=none
 hid:∀b,Fn F b->G b=none
 rg:∀b,R b->G b=none/\H b≠none
 di:∀i j b,b∈F i->b∈F j->i=j
 sl:∀i,mJ K R G H σ[i]? (F i) ρ[i]?
structure Fr(K:FZ)(H:Hp)(F:Fp)(H':Hp):Prop where
 fr:∀b o,H b=some o->¬Fn F b->¬Tb K b->H' b=some o
 tb:bN K H'
structure aD(K:FZ)(G H:Hp)(F:Fp)(G' H':Hp)(F':Fp):Prop where
 gg:Same G G'
 fr:∀b o,H b=some o->¬Fn F b->¬Tb K b->H' b=some o
 nw:∀b,G' b≠none->G b≠none\/H b=none\/Fn F b
 nf:∀b,Fn F' b->H b=none\/Fn F b
 dm:∀b,H' b=none->H b=none
section
variable {K:FZ}{R:Addr->Prop}{ρ : En}{σ : St}{G H G' H':Hp}{F F':Fp}
theorem aD.refl:aD K G H F G H F:=⟨Same.refl _,λ_ _ h _ _=>h,λ_ h=>.inl h,λ_ h=>.inr h,λ_ h=>h⟩
theorem aD.out(s:aD K G H F G' H' F')(h:H b=some o)(n:¬Fn F b):¬Fn F' b:=λz=>(s.nf b z).elim (λq=>by rw[h]at q; cases q) n
theorem aD.trans(s:aD K G H F G1 H1 F1)(u:aD K G1 H1 F1 G' H' F'):aD K G H F G' H' F' where
 gg:=s.gg.trans u.gg
 fr b o h n t:=u.fr b o (s.fr b o h n t) (s.out h n) t
 nw b h:=(u.nw b h).elim (s.nw b) λh=>.inr (h.elim (λh=>.inl (s.dm b h)) (s.nf b))
 nf b h:=(u.nf b h).elim (λh=>.inl (s.dm b h)) (s.nf b)
 dm b h:=s.dm b (u.dm b h)
theorem aD.back(s:aD K G H F G1 H1 F1)(f:Fr K H1 F1 H'):Fr K H F H':=⟨λb o h n t=>f.fr b o (s.fr b o h n t) (s.out h n) t,f.tb⟩
theorem Ok.fl(e:Ok K R ρ σ G H F)(h:Fn F b):∃ys,H b=some (.lst ys):=h.elim λi h=>(e.sl i).lst b h
theorem Ok.fs(e:Ok K R ρ σ G H F)(h:H b=none):¬Fn F b:=λz=>by
 obtain⟨ys,q⟩:=e.fl z
 rw[h]at q
 cases q
theorem Ok.rn(e:Ok K R ρ σ G H F)(h:H b=none):¬R b:=λz=>(e.rg b z).2 h
structure Gw(K:FZ)(G H G' H':Hp):Prop where
 gg:Same G G'
 hh:∀b o,H b=some o->¬Tb K b->H' b=some o
 sub:Same G' H'
 tb:bN K H->bN K H'
 nw:∀b,G' b≠none->G b≠none\/H b=none
theorem bN.new(h:bN K H)(q:H p=none):bN K (L2.upd H p o):=h.fr λb u _ z=>iI q _ b u z
theorem Gw.refl(s:Same G H):Gw K G H G H:=⟨Same.refl _,λ_ _ h _=>h,s,id,λ_ h=>.inl h⟩
theorem Gw.flt(s:Same G H)(h:H p=none):Gw K G H G (upd H p o):=⟨Same.refl _,λb u q _=>iI h o b u q,s.trans (iI h o),λt=>t.new h,λ_ h=>.inl h⟩
theorem Gw.new(s:Same G H)(h:H p=none):Gw K G H (upd G p o) (upd H p o):=⟨iI (s.free h) o,λb u q _=>iI h o b u q,λb u q=>by
 by_cases e:b=p
 .subst e; rw[bY]at q ⊢; exact q
 .rw[aJ e]at q ⊢; exact s b u q,λt=>t.new h,λb q=>by
 by_cases e:b=p
 .subst e; exact .inr h
 .rw[aJ e]at q; exact .inl q⟩
structure Gs(K:FZ)(G H G' H':Hp):Prop where
 gw:Gw K G H G' H'
 sm:Same H H'
theorem Gs.refl(s:Same G H):Gs K G H G H:=⟨.refl s,Same.refl _⟩
theorem Gs.flt(s:Same G H)(h:H p=none):Gs K G H G (upd H p o):=⟨.flt s h,iI h o⟩
theorem Gs.new(s:Same G H)(h:H p=none):Gs K G H (upd G p o) (upd H p o):=⟨.new s h,iI h o⟩
theorem Ok.grow(e:Ok K R ρ σ G H F)(w:Gw K G H G' H'):Ok K R ρ σ G' H' F/\aD K G H F G' H' F:=by
 have tb:=w.tb e.tb
 have dm:∀b,H' b=none->H b=none:=λb h=>by
  cases q:H b with
  |none=>rfl
  |some o =>
   by_cases t:Tb K b
   .obtain⟨ps,z⟩:=tb.cF t; rw[h]at z; cases z
   .rw[w.hh b o q t]at h; cases h
 have no:∀b,G b=none->H b≠none->G' b=none:=λb h n=>by
  cases q:G' b with
  |none=>rfl
  |some o=>exact((w.nw b (by rw[q]; exact λz=>by cases z)).elim (λz=>z h) n).elim
 refine⟨⟨e.len,w.sub,tb,λb t=>no b (e.tg b t) λz=>?_,λb h=>no b (e.hid b h) λz=>e.fs z h,λb h=>⟨no b (e.rg b h).1 (e.rg b h).2,λz=>(e.rg b h).2 (dm b z)⟩,e.di,λi=>(e.sl i).mono w.gg λb hb o q=>w.hh b o q ?_⟩,w.gg,λb o h _ t=>w.hh b o h t,λb h=>(w.nw b h).imp id .inl,λb h=>.inr h,dm⟩
 .obtain⟨ps,q⟩:=e.tb.cF t; rw[z]at q; cases q
 .obtain⟨ys,z⟩:=e.fl ⟨i,hb⟩
  exact e.tb.nt z
theorem Ok.show(e:Ok K R ρ σ G H F)(h:H a=some (.lst xs))(n:¬Fn F a)(r:¬R a):Ok K R ρ σ (upd G a (.lst xs)) H F/\Same G (upd G a (.lst xs)):=by
 have m:Same G (upd G a (.lst xs)):=λb o q=>by
  by_cases z:b=a
  .subst z; rw[bY,<-h]; exact(e.sub b o q)
  .rw[aJ z]; exact q
 have no:∀b,b≠a->G b=none->upd G a (.lst xs) b=none:=λb z q=>by rw[aJ z]; exact q
 refine⟨⟨e.len,λb o q=>?_,e.tb,λb t=>no b (λz=>e.tb.nt h (z▸t)) (e.tg b t),λb z=>no b (λq=>n (q▸z)) (e.hid b z),λb z=>⟨no b (λq=>r (q▸z)) (e.rg b z).1,(e.rg b z).2⟩,e.di,λi=>(e.sl i).mono m λ_ _ _ q=>q⟩,m⟩
 by_cases z:b=a
 .subst z; rw[bY]at q; rw[h]; exact q
 .rw[aJ z]at q; exact e.sub b o q
noncomputable def VN(K:FZ)(Hs G H:Hp)(v:V)(T:Tr):Bool->Prop
 |false=>Rep K G v T
 |true=>∃a xs ts,v=.ref a/\T=.lst ts/\Hs a=none/\G a=none/\H a=some (.lst xs)/\aq K G xs ts
noncomputable def fB(K:FZ)(σ : St)(Hs G H:Hp)(F:Fp)(v:V):Rv->Prop
 |.v T fr=>VN K Hs G H v T fr/\(fr=true->∀a,v=.ref a->¬Fn F a)
 |.s i=>σ[i]?=some (some v)
theorem VN.ok(h:VN K H G' H' v T fr)(e:Ok K R ρ σ G H F):fB K τ H G' H' F v (.v T fr):=⟨h,λz a q=>by
 subst z; subst q
 obtain⟨b,_,_,z,_,n,_⟩:=h
 cases z
 exact e.fs n⟩
theorem fB.low(h:Rep K G v T):fB K σ Hs G H F v (.v T false):=⟨h,λz=>by cases z⟩
theorem fB.step(h:fB K σ Hs G H F v r)(tb:bN K H)(s:aD K G H F G' H' F'):fB K σ Hs G' H' F' v r:=by
 match r,h with
 |.s i,h=>exact h
 |.v T false,h=>exact .low (Rep.mono s.gg h.1)
 |.v T true,⟨⟨a,xs,ts,e1,e2,n,g,q,r⟩,f⟩ =>
  have na:=f rfl a e1
  refine⟨⟨a,xs,ts,e1,e2,n,?_,s.fr a _ q na (tb.nt q),r.mono s.gg⟩,λ_ b z=>?_⟩
  .cases k:G' a with
   |none=>rfl
   |some o=>exact((s.nw a (by rw[k]; exact λz=>by cases z)).elim (λz=>z g) λz=>z.elim (λz=>by rw[q]at z; cases z) na).elim
  .rw[e1]at z; cases z
   exact s.out q na
theorem fB.back(h:fB K σ H1 G' H' F' v r)(d:∀b,H1 b=none->H b=none):fB K σ H G' H' F' v r:=by
 match r,h with
 |.s i,h=>exact h
 |.v T false,h=>exact .low h.1
 |.v T true,⟨⟨a,xs,ts,e1,e2,n,q⟩,f⟩=>exact⟨⟨a,xs,ts,e1,e2,d a n,q⟩,f⟩
noncomputable def Rp(K:FZ)(G H:Hp)(v:V)(T:Tr):Prop:=Rep K G v T\/∃a xs ts,v=.ref a/\T=.lst ts/\H a=some (.lst xs)/\aq K G xs ts
theorem Rp.rep(s:Same G H)(h:Rp K G H v T):Rep K H v T:=by
 rcases h with h|⟨a,xs,ts,rfl,rfl,e,r⟩
 .exact h.mono s
 .exact .lst (aF.of e) (r.mono s)
theorem Rp.lst(s:Same G H)(h:Rp K G H v (.lst ts)):∃a xs,v=.ref a/\aF K H a xs/\aq K G xs ts:=by
 rcases h with h|⟨a,xs,us,rfl,e0,e,r⟩
 .cases h with
  |lst h r=>exact⟨_,_,rfl,s.seq h,r⟩
 .cases e0
  exact⟨a,xs,rfl,aF.of e,r⟩
theorem Rp.low(h:Rp K G H v T)(n:qm T=false):Rep K G v T:=by
 rcases h with h|⟨a,xs,us,rfl,rfl,_⟩
 .exact h
 .cases n
theorem Rp.tup(s:Same G H)(h:Rp K G H v (.tup ts)):∃a xs,v=.ref a/\bh K H a xs/\aq K G xs ts:=by
 have q:=h.low rfl
 cases q with
 |tup q r=>exact⟨_,_,rfl,s.jz q,r⟩
theorem Rp.int(h:Rp K G H v (.int i)):v=.int i:=by cases h.low rfl; rfl
theorem Rp.bl(h:Rp K G H v (.bl i)):v=.bl i:=by cases h.low rfl; rfl
theorem Rp.str(h:Rp K G H v (.str i)):v=.str i:=by cases h.low rfl; rfl
theorem Rp.non(h:Rp K G H v .non):v=.non:=by cases h.low rfl; rfl
noncomputable def dr(ρ : En):Rv->Rs Tr
 |.v T _=>.ok T
 |.s i=>match ρ[i]? with
  |some (Sl.ow ts)=>.ok (.lst ts)
  |some (Sl.rf ts)=>.ok (.lst ts)
  |_=>.bad
theorem gK(ρ : En)(r:Rv)(c:Str):dr ρ r ≠ .ex c:=by
 cases r with
 |v T fr=>intro z; cases z
 |s i=>dsimp only[dr]; split <;> (intro z; cases z)
theorem fZ(e:Ok K R ρ σ G H F)(h:fB K σ Hs G H F v r)(q:dr ρ r=.ok T):Rp K G H v T:=by
 match r,h with
 |.v U false,h=>cases q; exact .inl h.1
 |.v U true,⟨⟨a,xs,ts,e1,e2,_,_,z,r⟩,_⟩=>cases q; exact .inr ⟨a,xs,ts,e1,e2,z,r⟩
 |.s i,h =>
  dsimp only[dr]at q
  have z:=e.sl i
  split at q <;> rename_i k <;> (first|cases q; done|skip) <;> (rw[k]at z; obtain⟨a,xs,h1,_,_,h4,h5⟩:=z; rw[h]at h1; cases h1; cases q; exact .inr ⟨a,xs,_,rfl,rfl,h4,h5⟩)
end
structure Tx where
 K:FZ
 xe:Str->Hp->Prop
noncomputable def bJ{α : Type}(t:Tx)(H:Hp)(F:Fp)(r:Rs α)(P : α -> Prop):Prop:=match r with
 |.bad=>False
 |.ex c=>∀H',Fr t.K H F H'->t.xe c H'
 |.ok a=>P a
theorem bB{C:Prop}{A B:(Addr->Prop)->En->Hp->Fp->Prop}(k:∀R ρ G F,A R ρ G F->B R ρ G F->C):(∃R ρ G F,A R ρ G F/\B R ρ G F)->C:=λz=>by
 obtain⟨R,ρ,G,F,e,h⟩:=z
 exact k R ρ G F e h
noncomputable def Te(t:Tx)(f:EF):TE:=λσ H Q=>∃R ρ G F,Ok t.K R ρ σ G H F/\bJ t H F (f ρ) λp=>∀v G' H' F',Ok t.K R p.2 σ G' H' F'->aD t.K G H F G' H' F'->fB t.K σ H G' H' F' v p.1->Q v H'
noncomputable def Tt(t:Tx)(f:BF):TT:=λσ H Q=>∃R ρ G F,Ok t.K R ρ σ G H F/\bJ t H F (f ρ) λp=>∀G' H' F',Ok t.K R p.2 σ G' H' F'->aD t.K G H F G' H' F'->Q p.1 H'
noncomputable def To(t:Tx)(f:OF):TO:=λσ H Q=>∃R ρ G F,Ok t.K R ρ σ G H F/\bJ t H F (f ρ) λp=>∀G' H' F',Ok t.K R p.2 σ G' H' F'->aD t.K G H F G' H' F'->Q p.1 H'
inductive dM(K:FZ)(σ : St)(Hs G H:Hp)(F:Fp):List V->List Rv->Prop
 |nil:dM K σ Hs G H F [] []
 |cons {v:V} {r:Rv} {vs:List V} {rs:List Rv} (h:fB K σ Hs G H F v r) (q:dM K σ Hs G H F vs rs):dM K σ Hs G H F (v::vs) (r::rs)
noncomputable def Ta(t:Tx)(f:AF):TA:=λσ H Q=>∃R ρ G F,Ok t.K R ρ σ G H F/\bJ t H F (f ρ) λp=>∀vs G' H' F',Ok t.K R p.2 σ G' H' F'->aD t.K G H F G' H' F'->dM t.K σ H G' H' F' vs p.1->Q vs H'
section
variable {t:Tx}{R:Addr->Prop}{ρ : En}{σ : St}{G H G0 H0:Hp}{F F0:Fp}
theorem bJ.run{α β : Type}{r:Rs α}{g : α -> Rs β}{P : β -> Prop}{P' : α -> Prop}(s:aD t.K G0 H0 F0 G H F)(h:bJ t H0 F0 (r.bind g) P)(k:∀a,bJ t H0 F0 (g a) P->P' a):bJ t H F r P':=by
 cases r with
 |bad=>exact h
 |ex c=>exact λH' f=>h H' (s.back f)
 |ok a=>exact k a h
theorem bJ.okb{α β : Type}{r:Rs α}{g : α -> Rs β}{P : β -> Prop}(h:bJ t H F (r.bind g) P)(n:∀c,r ≠ .ex c):∃a,r=.ok a/\bJ t H F (g a) P:=by
 cases r with
 |bad=>exact h.elim
 |ex c=>exact(n c rfl).elim
 |ok a=>exact⟨a,rfl,h⟩
theorem dN{β : Type}{g:Rv × En->Rs β}{P : β -> Prop}(e:Ok t.K R ρ σ G H F)(s:aD t.K G0 H0 F0 G H F)(h:bJ t H0 F0 ((f ρ).bind g) P)(k:∀p,bJ t H0 F0 (g p) P->∀v G' H' F',Ok t.K R p.2 σ G' H' F'->aD t.K G H F G' H' F'->fB t.K σ H G' H' F' v p.1->Q v H'):Te t f σ H Q:=⟨R,ρ,G,F,e,h.run s k⟩
theorem jC{β : Type}{g:List Rv × En->Rs β}{P : β -> Prop}(e:Ok t.K R ρ σ G H F)(s:aD t.K G0 H0 F0 G H F)(h:bJ t H0 F0 ((f ρ).bind g) P)(k:∀p,bJ t H0 F0 (g p) P->∀v G' H' F',Ok t.K R p.2 σ G' H' F'->aD t.K G H F G' H' F'->dM t.K σ H G' H' F' v p.1->Q v H'):Ta t f σ H Q:=⟨R,ρ,G,F,e,h.run s k⟩
theorem oO{β : Type}{g:Bool × En->Rs β}{P : β -> Prop}(e:Ok t.K R ρ σ G H F)(s:aD t.K G0 H0 F0 G H F)(h:bJ t H0 F0 ((f ρ).bind g) P)(k:∀p,bJ t H0 F0 (g p) P->∀G' H' F',Ok t.K R p.2 σ G' H' F'->aD t.K G H F G' H' F'->Q p.1 H'):Tt t f σ H Q:=⟨R,ρ,G,F,e,h.run s k⟩
theorem Ri{β : Type}{g:Option Int × En->Rs β}{P : β -> Prop}(e:Ok t.K R ρ σ G H F)(s:aD t.K G0 H0 F0 G H F)(h:bJ t H0 F0 ((f ρ).bind g) P)(k:∀p,bJ t H0 F0 (g p) P->∀G' H' F',Ok t.K R p.2 σ G' H' F'->aD t.K G H F G' H' F'->Q p.1 H'):To t f σ H Q:=⟨R,ρ,G,F,e,h.run s k⟩
end
local macro_rules | `(tactic| walk_at "x")=>`(tactic| ((repeat' split) <;> (intro z; cases z)))
def Pz{α : Type}(r:Rs α)(P : α -> Prop):Prop:=match r with
 |.ok a=>P a
 |_=>False
abbrev G1:=Tr->Rs (Tr × Bool)
abbrev G2:=Tr->Tr->Rs (Tr × Bool)
abbrev GN:=List Tr->Rs (Tr × Bool)
structure cQ(K:FZ)(r:R2)(g:G2):Prop where
 nx:∀a b c,g a b ≠ .ex c
 ok:∀G H x y a b Q,Same G H->Rp K G H x a->Rp K G H y b->Pz (g a b) (λp=>∀v G' H',Gs K G H G' H'->VN K H G' H' v p.1 p.2->Q v H')->r x y H Q
inductive mK(K:FZ)(G H:Hp):List V->List Tr->Prop
 |nil:mK K G H [] []
 |cons {x:V} {t:Tr} {xs:List V} {ts:List Tr} (h:Rp K G H x t) (r:mK K G H xs ts):mK K G H (x::xs) (t::ts)
structure Gg(K:FZ)(r:List V->Hp->VK->Prop)(g:GN):Prop where
 nx:∀as c,g as ≠ .ex c
 ok:∀G H xs as Q,Same G H->mK K G H xs as->Pz (g as) (λp=>∀v G' H',Gs K G H G' H'->VN K H G' H' v p.1 p.2->Q v H')->r xs H Q
section
variable {K:FZ}
theorem VN.flt(s:Same G H)(hz:H z=none)(r:aq K G xs ts):VN K H G (upd H z (.lst xs)) (.ref z) (.lst ts) true:=⟨z,xs,ts,rfl,rfl,hz,s.free hz,bY,r⟩
theorem VN.newT(s:Same G H)(hz:H z=none)(r:aq K G xs ts):VN K H (upd G z (.tup xs)) (upd H z (.tup xs)) (.ref z) (.tup ts) false:=Rep.tup (bh.of bY) (r.mono (iI (s.free hz) _))
theorem aq.iK:∀{v:List V} {t:List Tr} {i:Nat} {u:Tr},aq K H v t->t[i]?=some u->∃x,v[i]?=some x/\Rep K H x u
 |_,_,_,_,.nil,e=>by simp at e
 |_,_,0,_,.cons h _,e=>by simp at e; subst e; exact⟨_,rfl,h⟩
 |_,_,i+1,_,.cons _ r,e=>by
  obtain⟨x,a,b⟩:=aq.iK (i:=i) r (by simpa using e)
  exact⟨x,by simpa using a,b⟩
theorem aq.dZ(r:aq K H xs ts)(h:dZ ts i=some t):∃x,L2.dZ xs i=some x/\Rep K H x t:=by
 unfold L2.dZ at h ⊢
 rw[r.length]
 cases e:gC ts.length i with
 |none=>rw[e]at h; cases h
 |some j =>
  rw[e]at h
  exact r.iK h
theorem big(h:n<=100000):n<=sizeLine:=Nat.le_trans h (by decide)
noncomputable def gI(p:Int->Int->Int):G2
 |.int i,.int j=>.ok (.int (p i j),false)
 |_,_=>.bad
theorem ad3:cQ K (dY λi j=>.int (p i j)) (gI p):=⟨λa b c=>by unfold gI; walk_at "x",λG H x y a b Q s rx ry h=>by
 cases a <;> try exact h.elim
 cases b <;> try exact h.elim
 rw[rx.int,ry.int]
 exact⟨_,_,rfl,rfl,h _ G H (.refl s) (.int _)⟩⟩
noncomputable def sy(c:Int->Int->Bool)(p:Int->Int->Int):G2
 |.int i,.int j=>if c i j=true then .ok (.int (p i j),false)else .bad
 |_,_=>.bad
theorem Gh(hc:∀i j,c i j=true->C i j):cQ K (rI C λi j=>.int (p i j)) (sy c p):=⟨λa b c=>by unfold sy; walk_at "x",λG H x y a b Q s rx ry h=>by
 cases a <;> try exact h.elim
 cases b <;> try exact h.elim
 rw[rx.int,ry.int]
 dsimp only[sy]at h
 split at h
 .rename_i e
  exact⟨_,_,rfl,rfl,hc _ _ e,h _ G H (.refl s) (.int _)⟩
 .exact h.elim⟩
noncomputable def gB(p:Int->Int->Bool):G2
 |.int i,.int j=>.ok (.bl (p i j),false)
 |_,_=>.bad
theorem Gi:cQ K (dY λi j=>.bl (p i j)) (gB p):=⟨λa b c=>by unfold gB; walk_at "x",λG H x y a b Q s rx ry h=>by
 cases a <;> try exact h.elim
 cases b <;> try exact h.elim
 rw[rx.int,ry.int]
 exact⟨_,_,rfl,rfl,h _ G H (.refl s) (.bl _)⟩⟩
noncomputable def qp:G2:=λt u=>if dep t<=40/\dep u<=40 then .ok (.bl (eqT t u),false)else .bad
theorem ad4:cQ (au K) (Fo K) qp:=⟨λa b c=>by unfold qp; walk_at "x",λG H x y a b Q s rx ry h=>by
 unfold qp at h
 split at h
 .rename_i e
  exact⟨a,b,(rx.rep s).toK,(ry.rep s).toK,e.1,e.2,h _ G H (.refl s) (.bl _)⟩
 .exact h.elim⟩
noncomputable def jW:G2:=λt u=>if dep t<=40/\dep u<=40 then .ok (.bl (!eqT t u),false)else .bad
theorem ad5:cQ (au K) (Ge K) jW:=⟨λa b c=>by unfold jW; walk_at "x",λG H x y a b Q s rx ry h=>by
 unfold jW at h
 split at h
 .rename_i e
  exact⟨a,b,(rx.rep s).toK,(ry.rep s).toK,e.1,e.2,h _ G H (.refl s) (.bl _)⟩
 .exact h.elim⟩
noncomputable def jX(f:Bool->Bool):G2:=λt u=>match u with
 |.lst us=>if deps us<=40/\dep t<=40 then .ok (.bl (f (lu t us)),false)else .bad
 |.tup us=>if deps us<=40/\dep t<=40 then .ok (.bl (f (lu t us)),false)else .bad
 |_=>.bad
theorem Rj(hr:∀x y H Q,(∃t ts p xs,Rep K H x t/\y=.ref p/\(aF K H p xs\/bh K H p xs)/\aq K H xs ts/\deps ts<=40/\dep t<=40/\Q (.bl (f (lu t ts))) H)->r x y H Q):cQ (au K) r (jX f):=⟨λa b c=>by unfold jX; walk_at "x",λG H x y a b Q s rx ry h=>hr x y H Q (by
 cases b <;> try exact h.elim
 all_goals
  rename_i us
  dsimp only[jX]at h
  split at h
  case isFalse=>exact h.elim
  rename_i e
 .obtain⟨p,xs,rfl,q,r⟩:=ry.tup s
  exact⟨a,us,p,xs,(rx.rep s).toK,rfl,.inr q.toK,(r.mono s).toK,e.1,e.2,h _ G H (.refl s) (.bl _)⟩
 .obtain⟨p,xs,rfl,q,r⟩:=ry.lst s
  exact⟨a,us,p,xs,(rx.rep s).toK,rfl,.inl q.toK,(r.mono s).toK,e.1,e.2,h _ G H (.refl s) (.bl _)⟩)⟩
theorem ad6:cQ (au K) (Ft K) (jX id):=Rj λ_ _ _ _ h=>h
theorem ad7:cQ (au K) (Gd K) (jX not):=Rj λ_ _ _ _ h=>h
noncomputable def zm:Tr->Bool
 |.non=>true
 |_=>false
noncomputable def pU(f:Bool->Bool):G2:=λt u=>match u with
 |.non=>.ok (.bl (f (zm t)),false)
 |_=>.bad
theorem Rk(f:Bool->Bool):cQ K (λx y H Q=>y=.non/\Q (.bl (f (decide (x=.non)))) H) (pU f):=⟨λa b c=>by unfold pU; walk_at "x",λG H x y a b Q s rx ry h=>by
 cases b <;> try exact h.elim
 have z:decide (x=.non)=zm a:=by cases rx.rep s <;> rfl
 rw[ry.non,z]
 exact⟨rfl,h _ G H (.refl s) (.bl _)⟩⟩
def Gj(K:FZ):R2:=λx y H Q=>(dY λi j=>.int (i+j)) x y H Q\/Rb K x y H Q\/(∃i j,x=.str i/\y=.str j/\i.length+j.length<=sizeLine/\Q (.str (i++j)) H)\/Qs K x y H Q
theorem ad8:aY X (binaryOp .Add) (Gj X.K):=aY.or PJ (aY.or ad0 (aY.or acw ac1))
noncomputable def gM:G2
 |.int i,.int j=>.ok (.int (i+j),false)
 |.lst a,.lst b=>if a.length+b.length<=100000 then .ok (.lst (a++b),true)else .bad
 |.str a,.str b=>if a.length+b.length<=100000 then .ok (.str (a++b),false)else .bad
 |.tup a,.tup b=>if 0<a.length/\a.length+b.length<=100000 then .ok (.tup (a++b),false)else .bad
 |_,_=>.bad
theorem ad9:cQ (au K) (Gj K) gM:=⟨λa b c=>by unfold gM; walk_at "x",λG H x y a b Q s rx ry h=>by
 cases a <;> cases b <;> try exact h.elim
 .rw[rx.int,ry.int]
  exact .inl ⟨_,_,rfl,rfl,h _ G H (.refl s) (.int _)⟩
 all_goals
  rename_i us ws
  dsimp only[gM]at h
  split at h
  case isFalse=>exact h.elim
  rename_i e
 .rw[rx.str,ry.str]
  exact .inr (.inr (.inl ⟨us,ws,rfl,rfl,big e,h _ G H (.refl s) (.str _)⟩))
 .have rt:=rx.low rfl
  obtain⟨p,xs,rfl,q,r⟩:=rx.tup s
  obtain⟨p',ys,rfl,q',r'⟩:=ry.tup s
  have l1:=r.length
  have l2:=r'.length
  refine .inr (.inr (.inr ⟨p,p',xs,ys,rfl,rfl,q.toK,q'.toK,?_,by rw[l1,l2]; exact big e.2,λz=>h _ G H (.refl s) ?_,λ_ z hz=>h _ _ _ (.new s hz) (.newT s hz (r.app r'))⟩))
  .rintro rfl
   have e1:=e.1
   rw[<-l1]at e1
   cases e1
  .subst z
   cases r'
   rw[List.append_nil]
   exact rt
 .obtain⟨p,xs,rfl,q,r⟩:=rx.lst s
  obtain⟨p',ys,rfl,q',r'⟩:=ry.lst s
  exact .inr (.inl ⟨p,p',xs,ys,rfl,rfl,q.yX,q'.yX,by rw[r.length,r'.length]; exact big e,λz hz=>h _ _ _ (.flt s hz) (.flt s hz (r.app r'))⟩)⟩
noncomputable def fit(i:Int):Bool:=decide (i.natAbs.log2<1048575)
theorem Rm(h:fit i=true):Builtin.Int.intBits i<=2 ^ 20:=by
 have h:=of_decide_eq_true h
 unfold Builtin.Int.intBits
 split
 .decide
 .omega
noncomputable def tiny(i:Int):Bool:=decide (-18446744073709551616<i)&&decide (i<18446744073709551616)
noncomputable def dH(i j:Int):Bool:=(fit i&&fit j) || tiny i || tiny j
def zq(i j:Int):Prop:=dH i j=true
theorem zq.ok(h:zq i j):IntMulOk i j:=by
 unfold zq dH at h
 rw[Bool.or_eq_true,Bool.or_eq_true,Bool.and_eq_true]at h
 have tn:∀{k:Int},tiny k=true -> -(2 ^ 64)<k/\k<2 ^ 64:=λ{k} h=>by
  unfold tiny at h
  rw[Bool.and_eq_true]at h
  have h1:=of_decide_eq_true h.1
  have h2:=of_decide_eq_true h.2
  omega
 rcases h with(⟨h1,h2⟩|h)|h
 .exact .of_bits (Rm h1) (Rm h2)
 .exact .of_left (intBits_le_64 (tn h).1 (tn h).2)
 .exact .of_right (intBits_le_64 (tn h).1 (tn h).2)
def Gm(K:FZ):R2:=λx y H Q=>(rI zq λi j=>.int (i*j)) x y H Q\/Rf K x y H Q
theorem aea:aY X (binaryOp .Mult) (Gm X.K):=aY.or (yE λ_ _ _ _ _ _ _ hc q=>mul_int q hc.ok) ad1
noncomputable def lA:G2
 |.int i,.int j=>if dH i j=true then .ok (.int (i*j),false)else .bad
 |.lst a,.int k=>if(-1000<=k/\k<=1000)/\a.length<=100 then .ok (.lst (List.replicate k.toNat a).flatten,true)else .bad
 |_,_=>.bad
noncomputable def jd(_ j:Int):Bool:=decide (j≠0)&&decide (j.natAbs.log2<9000)
def zx(i j:Int):Prop:=jd i j=true
theorem aeb:aY X (binaryOp .FloorDiv) (rI zx λi j=>.int (i.fdiv j)):=yE λi j _ _ _ _ _ hc q=>by
 unfold zx jd at hc
 rw[Bool.and_eq_true]at hc
 exact floordiv_int (of_decide_eq_true hc.1) q (.inl (PyProof.noPylong_of_log2 (of_decide_eq_true hc.2)))
noncomputable def zA:G2:=sy jd Int.fdiv
noncomputable def Gn:G2:=sy (λ_ j=>decide (j≠0)) Int.fmod
noncomputable def Gp(i j:Int):Bool:=decide (0<=j)&&decide (j<=1000)&&tiny i
noncomputable def uH:G2:=sy Gp λi j=>i ^ j.toNat
noncomputable def zB:G2:=gI λi j=>i-j
section
variable {K:FZ}
theorem aq.rep(r:aq K H xs ts):∀n,aq K H (List.replicate n xs).flatten (List.replicate n ts).flatten
 | 0=>.nil
 |n+1=>by
  exact r.app (aq.rep r n)
theorem aec:cQ (au K) (Gm K) lA:=⟨λa b c=>by unfold lA; walk_at "x",λG H x y a b Q s rx ry h=>by
 cases a <;> cases b <;> try exact h.elim
 all_goals
  rename_i us k
  rw[ry.int]
  dsimp only[lA]at h
  split at h
  case isFalse=>exact h.elim
  rename_i e
 .rw[rx.int]
  exact .inl ⟨_,_,rfl,rfl,e,h _ G H (.refl s) (.int _)⟩
 .obtain⟨p,xs,rfl,q,r⟩:=rx.lst s
  refine .inr ⟨p,k,xs,rfl,rfl,q.yX,by omega,by omega,?_,λz hz=>h _ _ _ (.flt s hz) (.flt s hz (r.rep _))⟩
  rw[r.length]
  exact Nat.le_trans (Nat.mul_le_mul e.2 (show k.toNat<=1000 by omega)) (by decide)⟩
theorem aed:cQ K (rI zx λi j=>.int (i.fdiv j)) zA:=Gh λ_ _ h=>h
theorem aee:cQ K (rI (λ_ j=>j≠0) λi j=>.int (i.fmod j)) Gn:=Gh λ_ _ h=>of_decide_eq_true h
theorem aef(i j:Int)(h:Gp i j=true):yH i j:=by
 simp only[Gp,tiny,Bool.and_eq_true,decide_eq_true_eq]at h
 exact⟨h.1.1,by omega,by omega⟩
theorem aeg:cQ K (rI yH λi j=>.int (i ^ j.toNat)) uH:=Gh aef
theorem aeh:cQ K (dY λi j=>.int (i-j)) zB:=ad3
noncomputable def Gq:G2:=gB λi j=>decide (j<i)
noncomputable def Gu:G2:=gB λi j=>decide (i<=j)
noncomputable def Gv:G2:=gB λi j=>decide (j<=i)
theorem aei:cQ K (dY λi j=>.bl (decide (j<i))) Gq:=Gi
theorem aej:cQ K (dY λi j=>.bl (decide (i<=j))) Gu:=Gi
theorem aek:cQ K (dY λi j=>.bl (decide (j<=i))) Gv:=Gi
noncomputable def intsOf:List Tr->Option (List Int)
 | []=>some []
 |.int i::r=>(intsOf r).map (i :: ·)
 |_::_=>none
theorem ints_of:∀{ts:List Tr} {ns:List Int} {xs:List V},intsOf ts=some ns->aq K H xs ts->xs=ns.map V.int
 | [],ns,xs,h,r=>by cases h; cases r; rfl
 |.int i::q,ns,xs,h,r=>by
  obtain⟨ms,e,rfl⟩:=Option.map_eq_some_iff.mp h
  cases r with
  |cons h1 r1 =>
   cases h1
   rw[ints_of e r1]
   rfl
def Gy(K:FZ):R2:=λx y H Q=>(dY λi j=>.bl (decide (i<j))) x y H Q\/Qq K x y H Q
theorem ael(hu:X.A.units+64<cLine):aY X (compareOp .Lt) (Gy X.K):=aY.or acg (ac0 (by omega))
noncomputable def sE:G2
 |.int i,.int j=>.ok (.bl (decide (i<j)),false)
 |.tup a,.tup b=>match intsOf a,intsOf b with
  |some ns,some ms=>.ok (.bl (HT.lexLt ns ms),false)
  |_,_=>.bad
 |_,_=>.bad
theorem aem:cQ (au K) (Gy K) sE:=⟨λa b c=>by unfold sE; walk_at "x",λG H x y a b Q s rx ry h=>by
 cases a <;> cases b <;> try exact h.elim
 .rw[rx.int,ry.int]
  exact .inl ⟨_,_,rfl,rfl,h _ G H (.refl s) (.bl _)⟩
 .dsimp only[sE]at h
  split at h
  case h_2=>exact h.elim
  rename_i ns ms e1 e2
  obtain⟨p,xs,rfl,q,r⟩:=rx.tup s
  obtain⟨p',ys,rfl,q',r'⟩:=ry.tup s
  have z1:=ints_of e1 r
  have z2:=ints_of e2 r'
  subst z1 z2
  exact .inr ⟨p,p',ns,ms,rfl,rfl,q.toK,q'.toK,h _ G H (.refl s) (.bl _)⟩⟩
noncomputable def aZ:G2
 |.lst ts,.int i=>match dZ ts i with
  |some t=>.ok (t,false)
  |none=>.bad
 |.tup ts,.int i=>match dZ ts i with
  |some t=>.ok (t,false)
  |none=>.bad
 | .str z,.int i=>if z.length<=100000 then (match dZ z.cps.toList i with
  |some c=>.ok (.str ⟨#[c]⟩,false)
  |none=>.bad)else .bad
 |_,_=>.bad
theorem Rn:cQ (au K) (Qy K) aZ:=⟨λa b c=>by unfold aZ; walk_at "x",λG H x y a b Q s rx ry h=>by
 cases a <;> cases b <;> try exact h.elim
 all_goals
  rename_i z i
  rw[ry.int]
  dsimp only[aZ]at h
  split at h
  rotate_left
  exact h.elim
 .rename_i e
  rw[rx.str]
  split at h
  .rename_i c ec
   exact .inr (.inr ⟨z,i,c,rfl,rfl,big e,ec,h _ G H (.refl s) (.str _)⟩)
  .exact h.elim
 .rename_i t e
  obtain⟨p,xs,rfl,q,r⟩:=rx.tup s
  obtain⟨v,ev,rv⟩:=r.dZ e
  exact .inr (.inl ⟨p,xs,i,v,rfl,rfl,q.toK,ev,h _ G H (.refl s) rv⟩)
 .rename_i t e
  obtain⟨p,xs,rfl,q,r⟩:=rx.lst s
  obtain⟨v,ev,rv⟩:=r.dZ e
  exact .inl ⟨p,xs,i,v,rfl,rfl,q.toK,ev,h _ G H (.refl s) rv⟩⟩
structure mL(K:FZ)(r:V->Hp->VK->Prop)(g:G1):Prop where
 nx:∀a c,g a ≠ .ex c
 ok:∀G H x a Q,Same G H->Rp K G H x a->Pz (g a) (λp=>∀v G' H',Gs K G H G' H'->VN K H G' H' v p.1 p.2->Q v H')->r x H Q
noncomputable def g1(g:G1):GN
 | [a]=>g a
 |_=>.bad
theorem u9{r:List V->Hp->VK->Prop}{g:G1}(h:mL K (λx=>r [x]) g):Gg K r (g1 g):=⟨λas c=>(by
 unfold g1
 split
 .exact h.nx _ c
 .intro z; cases z),λG H xs as Q s rs q=>by
 cases rs with
 |nil=>exact q.elim
 |cons h1 r1 =>
  cases r1 with
  |nil=>exact h.ok G H _ _ Q s h1 q
  |cons _ _=>exact q.elim⟩
noncomputable def g2(g:G2):GN
 | [a,b]=>g a b
 |_=>.bad
noncomputable def nU:G1
 |.int i=>.ok (.int (-i),false)
 |_=>.bad
theorem Ro:mL K (rU λi=>.int (-i)) nU:=⟨λa c=>by unfold nU; walk_at "x",λG H x a Q s rx h=>by
 cases a <;> try exact h.elim
 rw[rx.int]
 exact⟨_,rfl,h _ G H (.refl s) (.int _)⟩⟩
def Gz(K:FZ):List V->Hp->VK->Prop:=λxs H Q=>(∃p ys,xs=[.ref p]/\(aF K H p ys\/bh K H p ys)/\Q (.int ys.length) H)\/(∃z,xs=[.str z]/\z.length<=sizeLine/\Q (.int z.length) H)
theorem aen:fX X (.builtin "len") (Gz X.K):=fX.or adb ade
noncomputable def eH:G1
 |.lst ts=>.ok (.int ts.length,false)
 |.tup ts=>.ok (.int ts.length,false)
 |.str z=>if z.length<=100000 then .ok (.int z.length,false)else .bad
 |_=>.bad
theorem aeo:mL (au K) (λx=>Gz K [x]) eH:=⟨λa c=>by unfold eH; walk_at "x",λG H x a Q s rx h=>by
 cases a <;> try exact h.elim
 .dsimp only[eH]at h
  split at h
  .rename_i z e
   rw[rx.str]
   exact .inr ⟨z,rfl,big e,h _ G H (.refl s) (.int _)⟩
  .exact h.elim
 .obtain⟨p,xs,rfl,q,r⟩:=rx.tup s
  refine .inl ⟨p,xs,rfl,.inr q.toK,?_⟩
  rw[r.length]
  exact h _ G H (.refl s) (.int _)
 .obtain⟨p,xs,rfl,q,r⟩:=rx.lst s
  refine .inl ⟨p,xs,rfl,.inl q.toK,?_⟩
  rw[r.length]
  exact h _ G H (.refl s) (.int _)⟩
noncomputable def vd:G1
 |.int i=>.ok (.int (if i<0 then -i else i),false)
 |_=>.bad
theorem aep:mL K (λx H Q=>∃i,[x]=[V.int i]/\Q (.int (if i<0 then -i else i)) H) vd:=⟨λa c=>by unfold vd; walk_at "x",λG H x a Q s rx h=>by
 cases a <;> try exact h.elim
 rw[rx.int]
 exact⟨_,rfl,h _ G H (.refl s) (.int _)⟩⟩
noncomputable def aaZ:G1
 |.int i=>.ok (.int i,false)
 |.bl b=>.ok (.int (if b then 1 else 0),false)
 |_=>.bad
noncomputable def aa2:G1
 |.lst ts=>.ok (.lst ts,true)
 |.tup ts=>.ok (.lst ts,true)
 |_=>.bad
noncomputable def aa0:G2
 |.int i,.int j=>.ok (.int (if j<i then j else i),false)
 |_,_=>.bad
noncomputable def aa1:G2
 |.int i,.int j=>.ok (.int (if j > i then j else i),false)
 |_,_=>.bad
noncomputable def vf:List Tr->Option (List Bool)
 | []=>some []
 |.bl i::r=>(vf r).map (i :: ·)
 |_::_=>none
theorem Rq:∀{ts:List Tr} {ns:List Bool} {xs:List V},vf ts=some ns->aq K H xs ts->xs=ns.map V.bl
 | [],ns,xs,h,r=>by cases h; cases r; rfl
 |.bl i::q,ns,xs,h,r=>by
  obtain⟨ms,e,rfl⟩:=Option.map_eq_some_iff.mp h
  cases r with
  |cons h1 r1 =>
   cases h1
   rw[Rq e r1]
   rfl
noncomputable def sG:G1
 |.lst ts=>match vf ts with
  |some bs=>.ok (.bl (bs.all id),false)
  |none=>.bad
 |_=>.bad
theorem aer:mL (au K) (λx=>Fv K [x]) sG:=⟨λa c=>by unfold sG; walk_at "x",λG H x a Q s rx h=>by
 cases a <;> try exact h.elim
 dsimp only[sG]at h
 split at h
 .rename_i bs e
  obtain⟨p,xs,rfl,q,r⟩:=rx.lst s
  have z:=Rq e r
  subst z
  exact⟨p,bs,rfl,q.toK,h _ G H (.refl s) (.bl _)⟩
 .exact h.elim⟩
noncomputable def rG:Tr->Rs Bool
 |.bl b=>.ok b
 |_=>.bad
theorem Rr(a:Tr)(c:Str):rG a ≠ .ex c:=by cases a <;> (intro z; cases z)
theorem Rw{a:Tr}(h:Rp K G H v a)(q:rG a=.ok b):v=.bl b:=by
 cases a <;> cases q
 exact h.bl
noncomputable def vg:Tr->Rs Int
 |.int i=>.ok i
 |_=>.bad
theorem GC(a:Tr)(c:Str):vg a ≠ .ex c:=by cases a <;> (intro z; cases z)
theorem zE{a:Tr}(h:Rp K G H v a)(q:vg a=.ok b):v=.int b:=by
 cases a <;> cases q
 exact h.int
noncomputable def nQ:Tr->Rs Bool
 |.non=>.ok false
 |.bl b=>.ok b
 |.int i=>.ok (i != 0)
 |.lst ts=>.ok (!ts.isEmpty)
 |.tup ts=>.ok (!ts.isEmpty)
 |.str x=>if x.length<=100000 then .ok ((x.length:Int) != 0)else .bad
 |.bU _=>.bad
theorem aes(a:Tr)(c:Str):nQ a ≠ .ex c:=by unfold nQ; walk_at "x"
theorem Rx{α β : Type}{a:List α}{b:List β}(h:a.length=b.length):a.isEmpty=b.isEmpty:=by
 cases a <;> cases b <;> first|rfl|cases h
theorem aeu(s:Same G H)(h:Rp (au K) G H v a)(q:nQ a=.ok b):El K v H b:=by
 cases a with
 |non=>cases q; rw[h.non]; rfl
 |bl i=>cases q; rw[h.bl]; rfl
 |int i=>cases q; rw[h.int]; rfl
 |str i =>
  dsimp only[nQ]at q
  split at q
  .rename_i e
   cases q
   rw[h.str]
   exact⟨big e,rfl⟩
  .cases q
 |tup ts =>
  cases q
  obtain⟨p,xs,rfl,q,r⟩:=h.tup s
  exact .inr (id ⟨xs,q.toK,by rw[Rx r.length]⟩)
 |lst ts =>
  cases q
  obtain⟨p,xs,rfl,q,r⟩:=h.lst s
  exact .inl ⟨xs,q.toK,by rw[Rx r.length]⟩
 |bU c=>cases q
end
end
end L2
end
section
namespace L2
open PySem
theorem dI{c P:Prop} [i:Decidable c]{f:c->Bool}(h:(if z:c then f z else false)=true)(k:c->∀z,f z=true->P):P:=by
 cases i with
 |isTrue z=>exact k z z h
 |isFalse z=>cases h
@[irreducible] def atName(e:Expr)(k:Str->Pos->Bool):Bool:=if h:e.ctorIdx=23 then Expr.Name.elim e h k else false
theorem Ma(h:atName e k=true):∃x0 x1,e=.Name x0 x1/\k x0 x1=true:=by unfold atName at h; exact dI h λy=>Expr.Name.elim e y λ_ _ _ h=>⟨_,_,rfl,h⟩
@[elab_as_elim] theorem aal{C:_->Prop}(h:atName e k=true)(f:∀x0 x1,k x0 x1=true->C (.Name x0 x1)):C e:=by obtain⟨_,_,rfl,h'⟩:=Ma h; exact f _ _ h'
@[irreducible] def zF(e:Expr)(k:Expr->Operator->Expr->Pos->Bool):Bool:=if h:e.ctorIdx=2 then Expr.BinOp.elim e h k else false
theorem Mf(h:zF e k=true):∃x0 x1 x2 x3,e=.BinOp x0 x1 x2 x3/\k x0 x1 x2 x3=true:=by unfold zF at h; exact dI h λy=>Expr.BinOp.elim e y λ_ _ _ _ _ h=>⟨_,_,_,_,rfl,h⟩
@[elab_as_elim] theorem aam{C:_->Prop}(h:zF e k=true)(f:∀x0 x1 x2 x3,k x0 x1 x2 x3=true->C (.BinOp x0 x1 x2 x3)):C e:=by obtain⟨_,_,_,_,rfl,h'⟩:=Mf h; exact f _ _ _ _ h'
@[irreducible] def qu(e:Expr)(k:UnaryOp->Expr->Pos->Bool):Bool:=if h:e.ctorIdx=3 then Expr.UnaryOp.elim e h k else false
theorem Mg(h:qu e k=true):∃x0 x1 x2,e=.UnaryOp x0 x1 x2/\k x0 x1 x2=true:=by unfold qu at h; exact dI h λy=>Expr.UnaryOp.elim e y λ_ _ _ _ h=>⟨_,_,_,rfl,h⟩
@[elab_as_elim] theorem aan{C:_->Prop}(h:qu e k=true)(f:∀x0 x1 x2,k x0 x1 x2=true->C (.UnaryOp x0 x1 x2)):C e:=by obtain⟨_,_,_,rfl,h'⟩:=Mg h; exact f _ _ _ h'
@[irreducible] def vh(e:Expr)(k:Expr->List CmpOp->List Expr->Pos->Bool):Bool:=if h:e.ctorIdx=15 then Expr.Compare.elim e h k else false
theorem Mh(h:vh e k=true):∃x0 x1 x2 x3,e=.Compare x0 x1 x2 x3/\k x0 x1 x2 x3=true:=by unfold vh at h; exact dI h λy=>Expr.Compare.elim e y λ_ _ _ _ _ h=>⟨_,_,_,_,rfl,h⟩
@[elab_as_elim] theorem aao{C:_->Prop}(h:vh e k=true)(f:∀x0 x1 x2 x3,k x0 x1 x2 x3=true->C (.Compare x0 x1 x2 x3)):C e:=by obtain⟨_,_,_,_,rfl,h'⟩:=Mh h; exact f _ _ _ _ h'
@[irreducible] def vm(e:Expr)(k:BoolOp->List Expr->Pos->Bool):Bool:=if h:e.ctorIdx=0 then Expr.BoolOp.elim e h k else false
theorem Mi(h:vm e k=true):∃x0 x1 x2,e=.BoolOp x0 x1 x2/\k x0 x1 x2=true:=by unfold vm at h; exact dI h λy=>Expr.BoolOp.elim e y λ_ _ _ _ h=>⟨_,_,_,rfl,h⟩
@[elab_as_elim] theorem aap{C:_->Prop}(h:vm e k=true)(f:∀x0 x1 x2,k x0 x1 x2=true->C (.BoolOp x0 x1 x2)):C e:=by obtain⟨_,_,_,rfl,h'⟩:=Mi h; exact f _ _ _ h'
@[irreducible] def zG(e:Expr)(k:Expr->Expr->Expr->Pos->Bool):Bool:=if h:e.ctorIdx=5 then Expr.IfExp.elim e h k else false
theorem Mj(h:zG e k=true):∃x0 x1 x2 x3,e=.IfExp x0 x1 x2 x3/\k x0 x1 x2 x3=true:=by unfold zG at h; exact dI h λy=>Expr.IfExp.elim e y λ_ _ _ _ _ h=>⟨_,_,_,_,rfl,h⟩
@[elab_as_elim] theorem aaq{C:_->Prop}(h:zG e k=true)(f:∀x0 x1 x2 x3,k x0 x1 x2 x3=true->C (.IfExp x0 x1 x2 x3)):C e:=by obtain⟨_,_,_,_,rfl,h'⟩:=Mj h; exact f _ _ _ _ h'
@[irreducible] def mO(e:Expr)(k:Expr->Expr->Pos->Bool):Bool:=if h:e.ctorIdx=21 then Expr.Subscript.elim e h k else false
theorem Ml(h:mO e k=true):∃x0 x1 x2,e=.Subscript x0 x1 x2/\k x0 x1 x2=true:=by unfold mO at h; exact dI h λy=>Expr.Subscript.elim e y λ_ _ _ _ h=>⟨_,_,_,rfl,h⟩
@[elab_as_elim] theorem aar{C:_->Prop}(h:mO e k=true)(f:∀x0 x1 x2,k x0 x1 x2=true->C (.Subscript x0 x1 x2)):C e:=by obtain⟨_,_,_,rfl,h'⟩:=Ml h; exact f _ _ _ h'
@[irreducible] def iM(e:Expr)(k:List Expr->Nat->Pos->Bool):Bool:=if h:e.ctorIdx=25 then Expr.Tuple.elim e h k else false
theorem Mp(h:iM e k=true):∃x0 x1 x2,e=.Tuple x0 x1 x2/\k x0 x1 x2=true:=by unfold iM at h; exact dI h λy=>Expr.Tuple.elim e y λ_ _ _ _ h=>⟨_,_,_,rfl,h⟩
@[elab_as_elim] theorem aas{C:_->Prop}(h:iM e k=true)(f:∀x0 x1 x2,k x0 x1 x2=true->C (.Tuple x0 x1 x2)):C e:=by obtain⟨_,_,_,rfl,h'⟩:=Mp h; exact f _ _ _ h'
@[irreducible] def vo(e:Expr)(k:List Expr->Pos->Bool):Bool:=if h:e.ctorIdx=24 then Expr.List.elim e h k else false
theorem Mq(h:vo e k=true):∃x0 x1,e=.List x0 x1/\k x0 x1=true:=by unfold vo at h; exact dI h λy=>Expr.List.elim e y λ_ _ _ h=>⟨_,_,rfl,h⟩
@[elab_as_elim] theorem aat{C:_->Prop}(h:vo e k=true)(f:∀x0 x1,k x0 x1=true->C (.List x0 x1)):C e:=by obtain⟨_,_,rfl,h'⟩:=Mq h; exact f _ _ h'
@[irreducible] def zH(e:Expr)(k:Option Expr->Option Expr->Option Expr->Pos->Bool):Bool:=if h:e.ctorIdx=26 then Expr.Slice.elim e h k else false
theorem Mr(h:zH e k=true):∃x0 x1 x2 x3,e=.Slice x0 x1 x2 x3/\k x0 x1 x2 x3=true:=by unfold zH at h; exact dI h λy=>Expr.Slice.elim e y λ_ _ _ _ _ h=>⟨_,_,_,_,rfl,h⟩
@[elab_as_elim] theorem aau{C:_->Prop}(h:zH e k=true)(f:∀x0 x1 x2 x3,k x0 x1 x2 x3=true->C (.Slice x0 x1 x2 x3)):C e:=by obtain⟨_,_,_,_,rfl,h'⟩:=Mr h; exact f _ _ _ _ h'
@[irreducible] def gO(e:Expr)(k:Expr->List Expr->List Keyword->Pos->Bool):Bool:=if h:e.ctorIdx=16 then Expr.Call.elim e h k else false
theorem xY(h:gO e k=true):∃x0 x1 x2 x3,e=.Call x0 x1 x2 x3/\k x0 x1 x2 x3=true:=by unfold gO at h; exact dI h λy=>Expr.Call.elim e y λ_ _ _ _ _ h=>⟨_,_,_,_,rfl,h⟩
@[elab_as_elim] theorem aav{C:_->Prop}(h:gO e k=true)(f:∀x0 x1 x2 x3,k x0 x1 x2 x3=true->C (.Call x0 x1 x2 x3)):C e:=by obtain⟨_,_,_,_,rfl,h'⟩:=xY h; exact f _ _ _ _ h'
@[irreducible] def zJ(e:Expr)(k:Expr->Str->Pos->Bool):Bool:=if h:e.ctorIdx=20 then Expr.Attribute.elim e h k else false
theorem Ms(h:zJ e k=true):∃x0 x1 x2,e=.Attribute x0 x1 x2/\k x0 x1 x2=true:=by unfold zJ at h; exact dI h λy=>Expr.Attribute.elim e y λ_ _ _ _ h=>⟨_,_,_,rfl,h⟩
@[elab_as_elim] theorem aaw{C:_->Prop}(h:zJ e k=true)(f:∀x0 x1 x2,k x0 x1 x2=true->C (.Attribute x0 x1 x2)):C e:=by obtain⟨_,_,_,rfl,h'⟩:=Ms h; exact f _ _ _ h'
@[irreducible] def oR(e:Expr)(k:Expr->List Comprehension->Scope->Pos->Bool):Bool:=if h:e.ctorIdx=8 then Expr.ListComp.elim e h k else false
theorem Mt(h:oR e k=true):∃x0 x1 x2 x3,e=.ListComp x0 x1 x2 x3/\k x0 x1 x2 x3=true:=by unfold oR at h; exact dI h λy=>Expr.ListComp.elim e y λ_ _ _ _ _ h=>⟨_,_,_,_,rfl,h⟩
@[elab_as_elim] theorem aax{C:_->Prop}(h:oR e k=true)(f:∀x0 x1 x2 x3,k x0 x1 x2 x3=true->C (.ListComp x0 x1 x2 x3)):C e:=by obtain⟨_,_,_,_,rfl,h'⟩:=Mt h; exact f _ _ _ _ h'
@[irreducible] def zK(e:Expr)(k:Arguments->Expr->Scope->Pos->Bool):Bool:=if h:e.ctorIdx=4 then Expr.Lambda.elim e h k else false
theorem Mv(h:zK e k=true):∃x0 x1 x2 x3,e=.Lambda x0 x1 x2 x3/\k x0 x1 x2 x3=true:=by unfold zK at h; exact dI h λy=>Expr.Lambda.elim e y λ_ _ _ _ _ h=>⟨_,_,_,_,rfl,h⟩
@[elab_as_elim] theorem aay{C:_->Prop}(h:zK e k=true)(f:∀x0 x1 x2 x3,k x0 x1 x2 x3=true->C (.Lambda x0 x1 x2 x3)):C e:=by obtain⟨_,_,_,_,rfl,h'⟩:=Mv h; exact f _ _ _ _ h'
@[irreducible] def oU(e:Stmt)(k:List Expr->Expr->Pos->Bool):Bool:=if h:e.ctorIdx=5 then Stmt.Assign.elim e h k else false
theorem Mw(h:oU e k=true):∃x0 x1 x2,e=.Assign x0 x1 x2/\k x0 x1 x2=true:=by unfold oU at h; exact dI h λy=>Stmt.Assign.elim e y λ_ _ _ _ h=>⟨_,_,_,rfl,h⟩
@[elab_as_elim] theorem aaz{C:_->Prop}(h:oU e k=true)(f:∀x0 x1 x2,k x0 x1 x2=true->C (.Assign x0 x1 x2)):C e:=by obtain⟨_,_,_,rfl,h'⟩:=Mw h; exact f _ _ _ h'
@[irreducible] def zL(e:Stmt)(k:Expr->Pos->Bool):Bool:=if h:e.ctorIdx=24 then Stmt.Expr.elim e h k else false
theorem Mx(h:zL e k=true):∃x0 x1,e=.Expr x0 x1/\k x0 x1=true:=by unfold zL at h; exact dI h λy=>Stmt.Expr.elim e y λ_ _ _ h=>⟨_,_,rfl,h⟩
@[elab_as_elim] theorem aaA{C:_->Prop}(h:zL e k=true)(f:∀x0 x1,k x0 x1=true->C (.Expr x0 x1)):C e:=by obtain⟨_,_,rfl,h'⟩:=Mx h; exact f _ _ h'
@[irreducible] def vp(e:Stmt)(k:Option Expr->Pos->Bool):Bool:=if h:e.ctorIdx=3 then Stmt.Return.elim e h k else false
theorem Mz(h:vp e k=true):∃x0 x1,e=.Return x0 x1/\k x0 x1=true:=by unfold vp at h; exact dI h λy=>Stmt.Return.elim e y λ_ _ _ h=>⟨_,_,rfl,h⟩
@[elab_as_elim] theorem aaB{C:_->Prop}(h:vp e k=true)(f:∀x0 x1,k x0 x1=true->C (.Return x0 x1)):C e:=by obtain⟨_,_,rfl,h'⟩:=Mz h; exact f _ _ h'
@[irreducible] def zM(e:Stmt)(k:Expr->List Stmt->List Stmt->Pos->Bool):Bool:=if h:e.ctorIdx=12 then Stmt.If.elim e h k else false
theorem MF(h:zM e k=true):∃x0 x1 x2 x3,e=.If x0 x1 x2 x3/\k x0 x1 x2 x3=true:=by unfold zM at h; exact dI h λy=>Stmt.If.elim e y λ_ _ _ _ _ h=>⟨_,_,_,_,rfl,h⟩
@[elab_as_elim] theorem aaC{C:_->Prop}(h:zM e k=true)(f:∀x0 x1 x2 x3,k x0 x1 x2 x3=true->C (.If x0 x1 x2 x3)):C e:=by obtain⟨_,_,_,_,rfl,h'⟩:=MF h; exact f _ _ _ _ h'
@[irreducible] def zN(e:Stmt)(k:Option Expr->Option Expr->Pos->Bool):Bool:=if h:e.ctorIdx=16 then Stmt.Raise.elim e h k else false
theorem MJ(h:zN e k=true):∃x0 x1 x2,e=.Raise x0 x1 x2/\k x0 x1 x2=true:=by unfold zN at h; exact dI h λy=>Stmt.Raise.elim e y λ_ _ _ _ h=>⟨_,_,_,rfl,h⟩
@[elab_as_elim] theorem aaD{C:_->Prop}(h:zN e k=true)(f:∀x0 x1 x2,k x0 x1 x2=true->C (.Raise x0 x1 x2)):C e:=by obtain⟨_,_,_,rfl,h'⟩:=MJ h; exact f _ _ _ h'
@[irreducible] def zP(e:Stmt)(k:Expr->List Stmt->List Stmt->Pos->Bool):Bool:=if h:e.ctorIdx=11 then Stmt.While.elim e h k else false
theorem MK(h:zP e k=true):∃x0 x1 x2 x3,e=.While x0 x1 x2 x3/\k x0 x1 x2 x3=true:=by unfold zP at h; exact dI h λy=>Stmt.While.elim e y λ_ _ _ _ _ h=>⟨_,_,_,_,rfl,h⟩
@[elab_as_elim] theorem aaE{C:_->Prop}(h:zP e k=true)(f:∀x0 x1 x2 x3,k x0 x1 x2 x3=true->C (.While x0 x1 x2 x3)):C e:=by obtain⟨_,_,_,_,rfl,h'⟩:=MK h; exact f _ _ _ _ h'
@[irreducible] def zQ(e:Stmt)(k:Expr->Expr->List Stmt->List Stmt->Pos->Bool):Bool:=if h:e.ctorIdx=9 then Stmt.For.elim e h k else false
theorem MN(h:zQ e k=true):∃x0 x1 x2 x3 x4,e=.For x0 x1 x2 x3 x4/\k x0 x1 x2 x3 x4=true:=by unfold zQ at h; exact dI h λy=>Stmt.For.elim e y λ_ _ _ _ _ _ h=>⟨_,_,_,_,_,rfl,h⟩
@[elab_as_elim] theorem aaF{C:_->Prop}(h:zQ e k=true)(f:∀x0 x1 x2 x3 x4,k x0 x1 x2 x3 x4=true->C (.For x0 x1 x2 x3 x4)):C e:=by obtain⟨_,_,_,_,_,rfl,h'⟩:=MN h; exact f _ _ _ _ _ h'
@[irreducible] def GD(e:Expr)(k:Const->Nat->Pos->Bool):Bool:=if h:e.ctorIdx=19 then Expr.Constant.elim e h k else false
@[elab_as_elim] theorem aaP{C:_->Prop}(h:GD e k=true)(f:∀x0 x1 x2,k x0 x1 x2=true->C (.Constant x0 x1 x2)):C e:=by unfold GD at h; exact dI h λy=>Expr.Constant.elim e y λ_ _ _ _ h=>f _ _ _ h
@[irreducible] def GJ(e:Const)(k:Int->Bool):Bool:=if h:e.ctorIdx=2 then Const.int.elim e h k else false
@[elab_as_elim] theorem aaQ{C:_->Prop}(h:GJ e k=true)(f:∀x0,k x0=true->C (.int x0)):C e:=by unfold GJ at h; exact dI h λy=>Const.int.elim e y λ_ _ h=>f _ h
@[irreducible] def GK(e:Const)(k:Str->Bool):Bool:=if h:e.ctorIdx=5 then Const.str.elim e h k else false
@[elab_as_elim] theorem aaR{C:_->Prop}(h:GK e k=true)(f:∀x0,k x0=true->C (.str x0)):C e:=by unfold GK at h; exact dI h λy=>Const.str.elim e y λ_ _ h=>f _ h
@[irreducible] def GP(e:Const)(k:Bool->Bool):Bool:=if h:e.ctorIdx=1 then Const.bool.elim e h k else false
@[elab_as_elim] theorem aaS{C:_->Prop}(h:GP e k=true)(f:∀x0,k x0=true->C (.bool x0)):C e:=by unfold GP at h; exact dI h λy=>Const.bool.elim e y λ_ _ h=>f _ h
@[irreducible] def GQ(e:Const):Bool:=decide (e.ctorIdx=0)
@[elab_as_elim] theorem aaT{C:_->Prop}(h:GQ e=true)(f:True->C .none):C e:=by unfold GQ at h; exact Const.none.elim e (of_decide_eq_true h) (f trivial)
@[irreducible] def lB(e:Comprehension)(k:Expr->Expr->List Expr->Int->Bool):Bool:=k e.target e.iter e.ifs e.is_async
theorem MP(h:lB e k=true):∃x0 x1 x2 x3,e=⟨x0,x1,x2,x3⟩/\k x0 x1 x2 x3=true:=by unfold lB at h; cases e; exact⟨_,_,_,_,rfl,h⟩
@[elab_as_elim] theorem aaG{C:_->Prop}(h:lB e k=true)(f:∀x0 x1 x2 x3,k x0 x1 x2 x3=true->C (⟨x0,x1,x2,x3⟩)):C e:=by obtain⟨_,_,_,_,rfl,h'⟩:=MP h; exact f _ _ _ _ h'
@[irreducible] def zR(e:Keyword)(k:Option Str->Expr->Pos->Bool):Bool:=k e.arg e.value e.pos
theorem M4(h:zR e k=true):∃x0 x1 x2,e=⟨x0,x1,x2⟩/\k x0 x1 x2=true:=by unfold zR at h; cases e; exact⟨_,_,_,rfl,h⟩
@[elab_as_elim] theorem aaH{C:_->Prop}(h:zR e k=true)(f:∀x0 x1 x2,k x0 x1 x2=true->C (⟨x0,x1,x2⟩)):C e:=by obtain⟨_,_,_,rfl,h'⟩:=M4 h; exact f _ _ _ h'
@[irreducible] def zT(e:Arg)(k:Str->Option Expr->Pos->Bool):Bool:=k e.arg e.annotation e.pos
theorem M5(h:zT e k=true):∃x0 x1 x2,e=⟨x0,x1,x2⟩/\k x0 x1 x2=true:=by unfold zT at h; cases e; exact⟨_,_,_,rfl,h⟩
@[elab_as_elim] theorem aaI{C:_->Prop}(h:zT e k=true)(f:∀x0 x1 x2,k x0 x1 x2=true->C (⟨x0,x1,x2⟩)):C e:=by obtain⟨_,_,_,rfl,h'⟩:=M5 h; exact f _ _ _ h'
@[irreducible] def zU(e:Arguments)(k:List Arg->List Arg->Option Arg->List Arg->List (Option Expr)->Option Arg->List Expr->Bool):Bool:=k e.posonlyargs e.args e.vararg e.kwonlyargs e.kw_defaults e.kwarg e.defaults
theorem M6(h:zU e k=true):∃x0 x1 x2 x3 x4 x5 x6,e=⟨x0,x1,x2,x3,x4,x5,x6⟩/\k x0 x1 x2 x3 x4 x5 x6=true:=by unfold zU at h; cases e; exact⟨_,_,_,_,_,_,_,rfl,h⟩
@[elab_as_elim] theorem aaJ{C:_->Prop}(h:zU e k=true)(f:∀x0 x1 x2 x3 x4 x5 x6,k x0 x1 x2 x3 x4 x5 x6=true->C (⟨x0,x1,x2,x3,x4,x5,x6⟩)):C e:=by obtain⟨_,_,_,_,_,_,_,rfl,h'⟩:=M6 h; exact f _ _ _ _ _ _ _ h'
@[irreducible] def aM{α : Type}(l:List α)(k : α -> List α -> Bool):Bool:=match l with
 |x::y=>k x y
 |_=>false
theorem LQ{α : Type}{l:List α}{k : α -> List α -> Bool}(h:aM l k=true):∃x y,l=x::y/\k x y=true:=by unfold aM at h; cases l <;> first|exact⟨_,_,rfl,h⟩|cases h
@[elab_as_elim] theorem aaK{α : Type}{l:List α}{k : α -> List α -> Bool}{C:_->Prop}(h:aM l k=true)(f:∀x y,k x y=true->C (x::y)):C l:=by obtain⟨_,_,rfl,h'⟩:=LQ h; exact f _ _ h'
@[irreducible] def aQ{α : Type}(l:List α)(k:Bool):Bool:=l.isEmpty&&k
theorem LR{α : Type}{l:List α}{k:Bool}(h:aQ l k=true):l=[]/\k=true:=by unfold aQ at h; cases l <;> first|exact⟨rfl,h⟩|cases h
@[elab_as_elim] theorem aaL{α : Type}{l:List α}{k:Bool}{C:_->Prop}(h:aQ l k=true)(f:k=true->C ([])):C l:=by obtain⟨rfl,h'⟩:=LR h; exact f h'
@[irreducible] def oV{α : Type}(l:Option α)(k : α -> Bool):Bool:=match l with
 |some x=>k x
 |_=>false
theorem M7{α : Type}{l:Option α}{k : α -> Bool}(h:oV l k=true):∃x,l=some x/\k x=true:=by unfold oV at h; cases l <;> first|exact⟨_,rfl,h⟩|cases h
@[elab_as_elim] theorem aaM{α : Type}{l:Option α}{k : α -> Bool}{C:_->Prop}(h:oV l k=true)(f:∀x,k x=true->C (some x)):C l:=by obtain⟨_,rfl,h'⟩:=M7 h; exact f _ h'
@[irreducible] def qw{α : Type}(l:Option α)(k:Bool):Bool:=l.isNone&&k
theorem M8{α : Type}{l:Option α}{k:Bool}(h:qw l k=true):l=none/\k=true:=by unfold qw at h; cases l <;> first|exact⟨rfl,h⟩|cases h
@[elab_as_elim] theorem aaN{α : Type}{l:Option α}{k:Bool}{C:_->Prop}(h:qw l k=true)(f:k=true->C (none)):C l:=by obtain⟨rfl,h'⟩:=M8 h; exact f h'
@[irreducible] def iQ{α : Type} [DecidableEq α](a b : α)(k:Bool):Bool:=decide (a=b)&&k
theorem M9{α : Type} [DecidableEq α]{a b : α}{k:Bool}(h:iQ a b k=true):a=b/\k=true:=by simpa[iQ]using h
@[elab_as_elim] theorem aaO{α : Type} [DecidableEq α]{a b : α}{k:Bool}{C : α -> Prop}(h:iQ a b k=true)(f:k=true->C b):C a:=by obtain⟨e,q⟩:=M9 h; subst e; exact f q
open PySem.Spec PyProof.Rows
def qx(i:Int):TE:=λ_ H Q=>Q (.int i) H
noncomputable def kI:Const->Option Int
 |.int i=>some i
 |_=>none
noncomputable def bI(o:Operator)(i j:Int):Option Int:=match o with
 |.Sub=>some (i-j)
 |.Add=>some (i+j)
 |.Pow=>if 0<=j/\j<=100/\i.natAbs<=1000 then some (i ^ j.toNat)else none
 |_=>none
noncomputable def uI(o:UnaryOp)(i:Int):Option Int:=match o with
 |.USub=>some (-i)
 |_=>none
noncomputable def cI:Expr->Option Int
 |.Constant c _ _=>kI c
 |.UnaryOp o e _=>(cI e).bind (uI o)
 |.BinOp a o b _=>(cI a).bind λi=>(cI b).bind λj=>bI o i j
 |_=>none
theorem aev(h:kI c=some i):PE X (.Constant c k p) (qx i):=by
 cases c <;> first|(cases h; exact yr)|cases h
theorem aew(h:uI o i=some k)(he:PE X e (qx i)):PE X (.UnaryOp o e p) (qx k):=by
 cases o <;> first|(cases h; exact(Ei Ej he).imp λσ H Q q=>⟨i,rfl,q⟩)|cases h
theorem aex(h:bI o i j=some k)(ha:PE X a (qx i))(hb:PE X b (qx j)):PE X (.BinOp a o b p) (qx k):=by
 cases o <;> try cases h
 .exact(yD PJ ha hb).imp λσ H Q q=>⟨i,j,rfl,rfl,q⟩
 .exact(yD PK ha hb).imp λσ H Q q=>⟨i,j,rfl,rfl,q⟩
 .dsimp only[bI]at h
  split at h
  .rename_i c
   cases h
   exact(yD PL ha hb).imp λσ H Q q=>⟨i,j,rfl,rfl,⟨c.1,by lia,by lia⟩,q⟩
  .cases h
theorem zV(e:Expr)(k:Int)(h:cI e=some k):PE X e (qx k):=by
 cases e with
 |Constant c _ _=>exact aev h
 |UnaryOp o a _ =>
  have h:(cI a).bind (uI o)=some k:=h
  cases e1:cI a with
  |none=>rw[e1]at h; cases h
  |some i=>rw[e1]at h; exact aew h (zV a i e1)
 |BinOp a o b _ =>
  have h:((cI a).bind λi=>(cI b).bind λj=>bI o i j)=some k:=h
  cases e1:cI a with
  |none=>rw[e1]at h; cases h
  |some i =>
   cases e2:cI b with
   |none=>rw[e1,e2]at h; cases h
   |some j=>rw[e1,e2]at h; exact aex h (zV a i e1) (zV b j e2)
 |_=>cases h
noncomputable def kT:Const->Option Tr
 |.none=>some .non
 |.bool b=>some (.bl b)
 |.str x=>some (.str x)
 |.int i=>some (.int i)
 |_=>none
mutual
noncomputable def cT:Expr->Option Tr
 |.Constant c _ _=>kT c
 |.Tuple es _ _=>(gP es).map .tup
 |.List es _=>(gP es).map .lst
 |.UnaryOp o a p=>(cI (.UnaryOp o a p)).map .int
 |.BinOp a o b p=>(cI (.BinOp a o b p)).map .int
 |_=>none
noncomputable def gP:List Expr->Option (List Tr)
 | []=>some []
 |e::r=>match cT e,gP r with
  |some T,some Ts=>if Ts.length<1000 then some (T::Ts)else none
  |_,_=>none
end
theorem zW:∀{es:List Expr} {Ts:List Tr},gP es=some Ts->Ts.length<=1000
 | [],Ts,h=>by
  cases h
  decide
 |e::r,Ts,h=>by
  unfold gP at h
  split at h
  .split at h
   .cases h
    rename_i h1
    rw[List.length_cons]
    lia
   .cases h
  .cases h
section
variable {X:Cx}{e:Expr}{es:List Expr}{T:Tr}{Ts:List Tr}{pos:Pos}{k:Nat}{G:FZ}
theorem aey:PA X [] (rY G []):=rK.imp λσ H Q q=>q [] H (Same.refl _) λ_ _=>.nil
theorem aez(h:PE X e (qj G T))(r:PA X es (rY G Ts))(hs:starEach (e::es) X.env=(false,eval e X.env)::starEach es X.env):PA X (e::es) (rY G (T::Ts)) :=
 (oE h r hs).imp λσ H Q q v H1 s1 rv vs H2 s2 rs=>q (v::vs) H2 (s1.trans s2) λPr p=>.cons ((rv Pr p).mono (p.mono s2)) (rs Pr (p.le s1))
theorem Ry(h:PA X es (rY G Ts))(hl:Ts.length<=1000):PE X (.Tuple es k pos) (qj G (.tup Ts)) :=
 (yJ h).imp λσ H Q q vs H1 s1 rs=>by
  by_cases hv:vs.length<=sizeLine
  .exact⟨hv,λa ha=>q (.ref a) _ (s1.trans (iI ha _)) λPr p=>.tup (bh.of ((p.le s1).new (Same.refl _) ha)) ((rs Pr p).mono (p.mono (iI ha _)))⟩
  .exact absurd (Nat.le_of_lt (Fd (by rw[(rs _ (Pj.id H)).length]; exact hl))) hv
theorem Rz(h:PA X es (rY G Ts))(hl:Ts.length<=1000):PE X (.List es pos) (Fw G Ts) :=
 (Qa h).imp λσ H Q q vs H1 s1 rs=>by
  have e:=(rs _ (Pj.id H)).length
  exact⟨Nat.le_of_lt (Fd (by rw[e]; exact hl)),λa ha=>q a vs H1 s1 ha rs e⟩
theorem aeA(h:PE X e (Fw G Ts)):PE X e (qj G (.lst Ts)) :=
 h.imp λσ H Q q a xs H1 s1 ha rs _=>q (.ref a) _ (s1.trans (iI ha _)) λPr p=>.lst (aF.of ((p.le s1).new (Same.refl _) ha)) ((rs Pr p).mono (p.mono (iI ha _)))
theorem RB(h:(cI e).map Tr.int=some T):PE X e (qj G T):=by
 cases e1:cI e with
 |none=>rw[e1]at h; cases h
 |some i =>
  rw[e1]at h; cases h
  exact(zV e i e1).imp λσ H Q q=>q _ H (Same.refl _) λ_ _=>.int i
end
theorem aeB(h:cT e=some T):starEach (e::es) env=(false,eval e env)::starEach es env:=by
 cases e <;> first|rfl|(unfold cT at h; cases h)
theorem aeC(h:kT c=some T):PE X (.Constant c k p) (qj G T):=by
 cases c <;> try cases h
 .exact Ow.imp λσ H Q q=>q _ H (Same.refl _) λ_ _=>.non
 .exact Ov.imp λσ H Q q=>q _ H (Same.refl _) λ_ _=>.bl _
 .exact yr.imp λσ H Q q=>q _ H (Same.refl _) λ_ _=>.int _
 .exact Oz.imp λσ H Q q=>q _ H (Same.refl _) λ_ _=>.str _
mutual
theorem aeD(e:Expr)(T:Tr)(h:cT e=some T):PE X e (qj G T):=by
 cases e with
 |Constant c _ _=>exact aeC (by unfold cT at h; exact h)
 |Tuple es _ _ =>
  unfold cT at h
  cases e:gP es with
  |none=>rw[e]at h; cases h
  |some Ts =>
   rw[e]at h
   cases h
   exact Ry (vq es Ts e) (zW e)
 |List es _ =>
  unfold cT at h
  cases e:gP es with
  |none=>rw[e]at h; cases h
  |some Ts =>
   rw[e]at h
   cases h
   exact aeA (Rz (vq es Ts e) (zW e))
 |UnaryOp o a p=>exact RB (by unfold cT at h; exact h)
 |BinOp a o b p=>exact RB (by unfold cT at h; exact h)
 |_=>unfold cT at h; cases h
theorem vq:∀(es:List Expr) (Ts:List Tr),gP es=some Ts->PA X es (rY G Ts)
 | [],Ts,h=>by
  unfold gP at h; cases h
  exact aey
 |e::r,Ts,h=>by
  unfold gP at h
  cases e1:cT e with
  |none=>rw[e1]at h; cases h
  |some T =>
   cases e2:gP r with
   |none=>rw[e1,e2]at h; cases h
   |some Us =>
    rw[e1,e2]at h
    dsimp only at h
    split at h
    .cases h
     exact aez (aeD e T e1) (vq r Us e2) (aeB e1)
    .cases h
end
theorem aeE(h:gP es=some Ts):PE X (.List es pos) (Fw G Ts):=Rz (vq es Ts h) (zW h)
theorem aeF(h:gP es=some Ts):PE X (.Tuple es k pos) (qj G (.tup Ts)):=Ry (vq es Ts h) (zW h)
class NF where
 f:Value->Int
section
variable [NF]{kf:Value->Int × Int}
noncomputable def q1(kf:Value->Int × Int)(xs:Array Keyed)(i:Nat):Int:=match xs[i]? with|some p=>(kf p.1).1|none=>0
noncomputable def q2(kf:Value->Int × Int)(xs:Array Keyed)(i:Nat):Int:=match xs[i]? with|some p=>(kf p.1).2|none=>0
noncomputable def qr(xs:Array Keyed)(i:Nat):Int:=match xs[i]? with|some p=>NF.f p.2|none=>0
def Kl(kf:Value->Int × Int)(xs:Array Keyed)(i j:Nat):Prop:=q1 kf xs i<q1 kf xs j\/(q1 kf xs i=q1 kf xs j/\q2 kf xs i<q2 kf xs j)
noncomputable instance {kf:Value->Int × Int}{xs:Array Keyed}{i j:Nat}:Decidable (Kl kf xs i j):=by unfold Kl; infer_instance
def Ke(kf:Value->Int × Int)(xs:Array Keyed)(i j:Nat):Prop:=q1 kf xs i=q1 kf xs j/\q2 kf xs i=q2 kf xs j
def Lq(kf:Value->Int × Int)(xs:Array Keyed)(i j:Nat):Prop:=Kl kf xs i j\/(Ke kf xs i j/\qr xs i<qr xs j)
def fC(kf:Value->Int × Int)(xs:Array Keyed)(m:Nat):Prop:=∀i j,i<j->j<m->Lq kf xs i j
def cW(kf:Value->Int × Int)(xs:Array Keyed)(m:Nat):Prop:=∀i j,i<j->j<m->Lq kf xs j i
def lC(kf:Value->Int × Int)(xs:Array Keyed)(m q:Nat):Prop:=(∀i j,i<j->j<m->i<q->Lq kf xs j i/\(q<=j->Kl kf xs j i))/\∀i j,q<=i->i<j->j<m->Ke kf xs i j/\qr xs i<qr xs j
def Pre(N:Nat)(xs:Array Keyed)(m:Nat):Prop:=(∀k:Nat,k<m->qr xs k<m)/\∀k:Nat,m<=k->k<N->qr xs k=k
theorem mQ(h:xs[i]?=ys[j]?):qr xs i=qr ys j:=by unfold qr; rw[h]
theorem zX(h:xs[i]?=ys[j]?):q1 kf xs i=q1 kf ys j:=by unfold q1; rw[h]
theorem zY(h:xs[i]?=ys[j]?):q2 kf xs i=q2 kf ys j:=by unfold q2; rw[h]
theorem gQ(hj:j<=xs.size)(k:Nat):(i<=k/\k<j/\(mirror xs i j ((j-i) / 2))[k]?=xs[i+j-1-k]?)\/(¬(i<=k/\k<j)/\(mirror xs i j ((j-i) / 2))[k]?=xs[k]?):=by
 have e:=getElem?_mirror_all (i:=i) hj k
 by_cases h:i<=k/\k<j
 .rw[if_pos h]at e; exact .inl ⟨h.1,h.2,e⟩
 .rw[if_neg h]at e; exact .inr ⟨h,e⟩
theorem mR(h1:xs[i]?=ys[i']?)(h2:xs[j]?=ys[j']?):Lq kf xs i j↔Lq kf ys i' j':=by
 unfold Lq Kl Ke; rw[mQ h1,mQ h2,zX h1,zX h2,zY h1,zY h2]
theorem zZ(h1:xs[i]?=ys[i']?)(h2:xs[j]?=ys[j']?):Kl kf xs i j↔Kl kf ys i' j':=by
 unfold Kl; rw[zX h1,zX h2,zY h1,zY h2]
theorem Kl.tr(a:Kl kf xs i j)(b:Kl kf xs j k):Kl kf xs i k:=by
 unfold Kl at *
 generalize q1 kf xs i=a1,q2 kf xs i=a2,q1 kf xs j=b1,q2 kf xs j=b2,q1 kf xs k=c1,q2 kf xs k=c2 at *
 lia
theorem Kl.no(a:¬Kl kf xs i j)(b:¬Kl kf xs j i):Ke kf xs i j:=by
 unfold Kl at *
 unfold Ke
 generalize q1 kf xs i=a1,q2 kf xs i=a2,q1 kf xs j=b1,q2 kf xs j=b2 at *
 lia
theorem Ke.s(a:Ke kf xs i j):Ke kf xs j i:=⟨a.1.symm,a.2.symm⟩
theorem Ke.t(a:Ke kf xs i j)(b:Ke kf xs j k):Ke kf xs i k:=⟨a.1.trans b.1,a.2.trans b.2⟩
theorem Ke.l(a:Ke kf xs i j)(b:Kl kf xs j k):Kl kf xs i k:=by
 unfold Kl at *
 rw[a.1,a.2]
 exact b
theorem Ke.r(a:Kl kf xs i j)(b:Ke kf xs j k):Kl kf xs i k:=by
 unfold Kl at *
 rw[<-b.1,<-b.2]
 exact a
theorem Kl.tq(a:Kl kf xs i j)(b:Lq kf xs j k):Kl kf xs i k:=b.elim a.tr λz=>Ke.r a z.1
theorem Kl.qt(a:Lq kf xs i j)(b:Kl kf xs j k):Kl kf xs i k:=a.elim (λz=>z.tr b) λz=>z.1.l b
theorem Lq.mk(a:¬Kl kf xs j i)(b:qr xs i<qr xs j):Lq kf xs i j:=by
 by_cases h:Kl kf xs i j
 .exact .inl h
 .exact .inr ⟨Kl.no h a,b⟩
theorem Pre.gQ(h:Pre N xs m)(hj:j<=xs.size)(hm:j<=m):Pre N (mirror xs i j ((j-i) / 2)) m:=by
 refine⟨λk hk=>?_,λk hk hN=>?_⟩
 .rcases L2.gQ hj k with⟨a,b,e⟩|⟨n,e⟩
  .rw[mQ e]; exact h.1 _ (by lia)
  .rw[mQ e]; exact h.1 _ hk
 .rcases L2.gQ hj k with⟨a,b,e⟩|⟨n,e⟩
  .lia
  .rw[mQ e]; exact h.2 _ hk hN
theorem cW.turn(h:cW kf xs m)(hm:m<=xs.size):fC kf (mirror xs 0 m ((m-0) / 2)) m:=λi j hij hj=>by
 rcases gQ (i:=0) hm i with⟨_,_,e1⟩|⟨n,_⟩
 .rcases gQ (i:=0) hm j with⟨_,_,e2⟩|⟨n,_⟩
  .rw[mR e1 e2]; exact h _ _ (by lia) (by lia)
  .lia
 .lia
theorem lC.turn(h:lC kf xs m q)(hm:m<=xs.size)(hq:q<m):cW kf (mirror xs q m ((m-q) / 2)) m:=λi j hij hj=>by
 rcases gQ (i:=q) hm i with⟨a,b,e1⟩|⟨n,e1⟩ <;> rcases gQ (i:=q) hm j with⟨a',b',e2⟩|⟨n',e2⟩
 .rw[mR e2 e1]
  have z:=h.2 (q+m-1-j) (q+m-1-i) (by lia) (by lia) (by lia)
  exact .inr z
 .lia
 .rw[mR e2 e1]
  exact(h.1 i (q+m-1-j) (by lia) (by lia) (by lia)).1
 .rw[mR e2 e1]
  exact(h.1 i j hij hj (by lia)).1
theorem lC.one(h:lC kf xs m q)(hq:m<=q+1):cW kf xs m:=λi j hij hj=>(h.1 i j hij hj (by lia)).1
end
section
variable [NF]{prog:Program}{w:World}{A:Around}{E:Value->Shared->Prop}{s:Shared}{N:Nat}{kd:SortKind}{kf:Value->Int × Int}
structure SB(a₀ : Array Keyed)(kd:SortKind)(st:SortSt):Prop where
 pm:(arrOf st).Perm a₀
 kn:kindOf st=kd
 fl:failedOf st=none
 pd:pendingOf st = #[]
theorem SB.sz{st:SortSt}(h:SB a₀ kd st):(arrOf st).size=a₀.size:=h.pm.size_eq
theorem SB.put{st:SortSt}(h:SB a₀ kd st)(p:xs.Perm (arrOf st)):SB a₀ kd (setArr st xs):=⟨p.trans h.pm,h.kn,h.fl,h.pd⟩
def Asks(prog:Program)(w:World)(A:Around)(E:Value->Shared->Prop)(s:Shared)(a₀ : Array Keyed)(kd:SortKind)(kf:Value->Int × Int):Prop :=
 ∀(st:SortSt) (i j:Nat) (Q:Option Bool->SortSt->Prop),SB a₀ kd st->i<a₀.size->j<a₀.size->Q (some (decide (Kl kf (arrOf st) i j))) st->wpS (model prog w) A E s (ltAt' i j) Q st
variable {a₀ : Array Keyed}(ask:Asks prog w A E s a₀ kd kf)
include ask
theorem RD{st:SortSt}(hn:n<=a₀.size)(ha:1<=a)(han:a<=n)(B:SB a₀ kd st)(p:Pre a₀.size (arrOf st) a)(h0:fC kf (arrOf st) a)
  (h:∀m,a<=m->m<=n->fC kf (arrOf st) m->Pre a₀.size (arrOf st) m->(m=n\/(m<n/\Kl kf (arrOf st) m (m-1)))->Q (none,m) st):wpS (model prog w) A E s (ascLoop a n) Q st:=by
 have up:∀x,a<=x->x<=n->Pre a₀.size (arrOf st) x:=λx h1 h2=>⟨λk hk=>by
  by_cases z:k<a
  .have:=p.1 k z; lia
  .rw[p.2 k (by lia) (by lia)]; lia,λk h3 h4=>p.2 k (by lia) h4⟩
 refine wpS_forRange (I:=λx c t=>t=st/\c=(none,x)/\x<=n/\fC kf (arrOf st) x) ?_ ?_ ⟨rfl,rfl,han,h0⟩
 .rintro x c t h1 h2 ⟨rfl,rfl,_,hs⟩
  refine wpS_bind (ask _ _ _ _ B (by lia) (by lia) ?_)
  by_cases l:Kl kf (arrOf t) x (x-1)
  .rw[decide_eq_true l]
   exact wpS_pure (h x h1 (by lia) hs (up x h1 (by lia)) (.inr ⟨h2,l⟩))
  .rw[decide_eq_false l]
   refine wpS_pure ⟨rfl,rfl,h2,λi j hij hj=>?_⟩
   by_cases z:j<x
   .exact hs i j hij z
   .have ej:j=x:=by lia
    subst ej
    have r1:=(up j h1 (by lia)).1 i hij
    have r2:=(up j h1 (by lia)).2 j (Nat.le_refl _) (by lia)
    by_cases z:i=j-1
    .subst z
     exact Lq.mk l (by rw[r2]; exact r1)
    .have y:=hs i (j-1) (by lia) (by lia)
     exact Lq.mk (λz=>l (z.tq y)) (by rw[r2]; exact r1)
 .rintro c t ⟨rfl,rfl,_,hs⟩
  rw[show max a n=n by lia]at hs ⊢
  exact h n han (Nat.le_refl _) hs (up n han (Nat.le_refl _)) (.inl rfl)
theorem RG{st:SortSt}(hn:n<=a₀.size)(h1:1<=m)(hm:m<=n)(B:SB a₀ kd st)(p:Pre a₀.size (arrOf st) m)(d:cW kf (arrOf st) m)
  (h:∀m t,SB a₀ kd t->1<=m->m<=n->fC kf (arrOf t) m->Pre a₀.size (arrOf t) m->Q (some m) t):wpS (model prog w) A E s (tail3 m n) Q st:=by
 unfold tail3
 have z:m<=(arrOf st).size:=by rw[B.sz]; lia
 refine wpS_bind (wpS_reverse ?_)
 have B':SB a₀ kd (setArr st (mirror (arrOf st) 0 m ((m-0) / 2))):=B.put (mirror_perm _ _ _ _)
 exact wpS_bind (RD ask hn h1 hm B' (p.gQ z (Nat.le_refl _)) (d.turn z) λk k1 k2 k3 k4 _=>wpS_pure (h k _ B' (by lia) k2 k3 k4))
theorem aeG{st:SortSt}(hn:n<=a₀.size)(h1:1<=m)(hm:m<=n)(B:SB a₀ kd st)(p:Pre a₀.size (arrOf st) m)(d:lC kf (arrOf st) m (m-1))
  (h:∀x e t,SB a₀ kd t->m<=x->x<=n->e+1<=x->lC kf (arrOf t) x (x-(e+1))->Pre a₀.size (arrOf t) x->Q (none,x,e) t):wpS (model prog w) A E s (descLoop m n) Q st:=by
 unfold descLoop
 refine wpS_forRange (I:=λx c t=>∃e,c=(none,x,e)/\SB a₀ kd t/\x<=n/\e+1<=x/\lC kf (arrOf t) x (x-(e+1))/\Pre a₀.size (arrOf t) x) ?_ ?_ ⟨0,rfl,B,hm,by lia,d,p⟩
 .rintro x c t k1 k2 ⟨e,rfl,B',_,ke,d',p'⟩
  dsimp only
  have z:x<=(arrOf t).size:=by rw[B'.sz]; lia
  have pu:∀ys:Array Keyed,Pre a₀.size ys x->Pre a₀.size ys (x+1):=λys q=>⟨λk hk=>by
   by_cases y:k<x
   .have:=q.1 k y; lia
   .rw[q.2 k (by lia) (by lia)]; lia,λk h3 h4=>q.2 k (by lia) h4⟩
  refine wpS_bind (ask _ _ _ _ B' (by lia) (by lia) ?_)
  by_cases l:Kl kf (arrOf t) x (x-1)
  .rw[decide_eq_true l]
   have next:∀ys:Array Keyed,cW kf ys x->(∀i,i<x->Kl kf ys x i)->lC kf ys (x+1) x:=λys y1 y2=>⟨λi j hij hj hi=>by
    by_cases y:j<x
    .exact⟨y1 i j hij y,λz=>by lia⟩
    .have:j=x:=by lia
     subst this
     exact⟨.inl (y2 i hi),λ_=>y2 i hi⟩,λi j h1 h2 h3=>by lia⟩
   have low:∀i,i<x->Kl kf (arrOf t) x i:=λi hi=>by
    by_cases y:i=x-1
    .rw[y]; exact l
    .by_cases y2:i<x-(e+1)
     .exact l.tq (d'.1 i (x-1) (by lia) (by lia) y2).1
     .exact Ke.r l (d'.2 i (x-1) (by lia) (by lia) (by lia)).1.s
   by_cases g:e > 0
   .rw[if_pos g]
    refine wpS_bind (wpS_reverse (wpS_pure ⟨0,rfl,B'.put (mirror_perm _ _ _ _),k2,by lia,?_,pu _ (p'.gQ z (Nat.le_refl _))⟩))
    rw[show x+1-(0+1)=x by lia]
    refine next _ (d'.turn z (by lia)) λi hi=>?_
    rcases gQ (i:=x-(e+1)) z x with⟨_,b,_⟩|⟨_,e1⟩
    .lia
    .rcases gQ (i:=x-(e+1)) z i with⟨_,_,e2⟩|⟨_,e2⟩
     .rw[zZ e1 e2]; exact low _ (by lia)
     .rw[zZ e1 e2]; exact low _ hi
   .rw[if_neg g]
    refine wpS_pure ⟨0,rfl,B',k2,by lia,?_,pu _ p'⟩
    rw[show x+1-(0+1)=x by lia]
    exact next _ (d'.one (by lia)) low
  .rw[decide_eq_false l]
   refine wpS_bind (ask _ _ _ _ B' (by lia) (by lia) ?_)
   by_cases g:Kl kf (arrOf t) (x-1) x
   .rw[decide_eq_true g]
    exact wpS_pure (h x e t B' k1 (by lia) ke d' p')
   .rw[decide_eq_false g]
    have eq:Ke kf (arrOf t) (x-1) x:=Kl.no g l
    refine wpS_pure ⟨e+1,rfl,B',k2,by lia,?_,pu _ p'⟩
    rw[show x+1-(e+1+1)=x-(e+1) by lia]
    refine⟨λi j hij hj hi=>?_,λi j hi hij hj=>?_⟩
    .by_cases y:j<x
     .exact d'.1 i j hij y hi
     .have:j=x:=by lia
      subst this
      have y:=(d'.1 i (j-1) (by lia) (by lia) hi).2 (by lia)
      have y':Kl kf (arrOf t) j i:=eq.s.l y
      exact⟨.inl y',λ_=>y'⟩
    .by_cases y:j<x
     .exact d'.2 i j hi hij y
     .have:j=x:=by lia
      subst this
      have r1:=p'.1 i hij
      have r2:=p'.2 j (Nat.le_refl _) (by lia)
      refine⟨?_,by lia⟩
      by_cases y:i=j-1
      .rw[y]; exact eq
      .exact(d'.2 i (j-1) hi (by lia) (by lia)).1.t eq
 .rintro c t ⟨e,rfl,B',_,ke,d',p'⟩
  rw[show max m n=n by lia]at ke d' p' ⊢
  exact h n e t B' hm (Nat.le_refl _) ke d' p'
theorem RJ{st:SortSt}(hn:n<=a₀.size)(hm:m+1<=n)(B:SB a₀ kd st)(p:Pre a₀.size (arrOf st) (m+1))(d:lC kf (arrOf st) (m+1) m)
  (h:∀m t,SB a₀ kd t->1<=m->m<=n->fC kf (arrOf t) m->Pre a₀.size (arrOf t) m->Q (some m) t):wpS (model prog w) A E s (descPart m n) Q st:=by
 refine wpS_bind (wpS_lift (wpAny_rule ⟨rfl,?_⟩))
 refine wpS_bind (aeG ask hn (by lia) hm B p (by rw[show m+1-1=m by lia]; exact d) λx e t B' k1 k2 ke d' p'=>?_)
 have z:x<=(arrOf t).size:=by rw[B'.sz]; lia
 show wpS _ _ _ _ (if e > 0 then(reverseSlice' (x-(e+1)) x >>= λ_=>tail3 x n)else tail3 x n) _ _
 by_cases g:e > 0
 .rw[if_pos g]
  exact wpS_bind (wpS_reverse (RG ask hn (by lia) k2 (B'.put (mirror_perm _ _ _ _)) (p'.gQ z (Nat.le_refl _)) (d'.turn z (by lia)) h))
 .rw[if_neg g]
  exact RG ask hn (by lia) k2 B' p' (d'.one (by lia)) h
theorem aeH{st:SortSt}(hn:n<=a₀.size)(h1:1<=n)(B:SB a₀ kd st)(p:Pre a₀.size (arrOf st) 0)
  (h:∀m t,SB a₀ kd t->1<=m->m<=n->fC kf (arrOf t) m->Pre a₀.size (arrOf t) m->Q (some m) t):wpS (model prog w) A E s (countRun' 0 n) Q st:=by
 rw[countRun0_eq]
 have p1:Pre a₀.size (arrOf st) 1:=⟨λk hk=>by rw[p.2 k (by lia) (by lia)]; lia,λk h3 h4=>p.2 k (by lia) h4⟩
 refine wpS_bind (RD ask hn (Nat.le_refl 1) h1 B p1 (λi j _ _=>by lia) λm m1 m2 hs hp ho=>?_)
 by_cases e:m=n
 .rw[if_pos (by simpa using e)]
  exact wpS_pure (h m st B m1 m2 hs hp)
 .rw[if_neg (by simpa using e)]
  obtain⟨ml,l⟩:=ho.resolve_left e
  have pn:∀ys:Array Keyed,Pre a₀.size ys m->Pre a₀.size ys (m+1):=λys q=>⟨λk hk=>by
   by_cases y:k<m
   .have:=q.1 k y; lia
   .rw[q.2 k (by lia) (by lia)]; lia,λk h3 h4=>q.2 k (by lia) h4⟩
  by_cases g:m > 1
  .rw[if_pos g]
   refine wpS_bind (ask _ _ _ _ B (by lia) (by lia) ?_)
   by_cases r:Kl kf (arrOf st) 0 (m-1)
   .rw[decide_eq_true r]
    exact wpS_pure (h m st B m1 m2 hs hp)
   .rw[decide_eq_false r]
    have z:m<=(arrOf st).size:=by rw[B.sz]; lia
    have all:∀i j,i<j->j<m->Ke kf (arrOf st) i j/\qr (arrOf st) i<qr (arrOf st) j:=λi j hij hj=>by
     have a1:=hs i j hij hj
     have a2:i=0\/Lq kf (arrOf st) 0 i:=by
      by_cases y:i=0
      .exact .inl y
      .exact .inr (hs 0 i (by lia) (by lia))
     have a3:j=m-1\/Lq kf (arrOf st) j (m-1):=by
      by_cases y:j=m-1
      .exact .inl y
      .exact .inr (hs j (m-1) (by lia) (by lia))
     rcases a1 with k1|k1
     .have k2:Kl kf (arrOf st) 0 j:=by
       rcases a2 with y|y
       .rw[y]at k1; exact k1
       .exact Kl.qt y k1
      refine absurd ?_ r
      rcases a3 with y|y
      .rw[y]at k2; exact k2
      .exact k2.tq y
     .exact k1
    have ds:lC kf (arrOf st) m 0:=⟨λi j _ _ hi=>by lia,λi j _ hij hj=>all i j hij hj⟩
    refine wpS_bind (wpS_reverse (RJ ask hn (by lia) (B.put (mirror_perm _ _ _ _)) (pn _ (hp.gQ z (Nat.le_refl _))) ?_ h))
    have dd:=ds.turn z (by lia)
    have low:∀i,i<m->Kl kf (arrOf st) m i:=λi hi=>by
     by_cases y:i=m-1
     .rw[y]; exact l
     .exact Ke.r l (all i (m-1) (by lia) (by lia)).1.s
    have RK:∀i,i<m->Kl kf (mirror (arrOf st) 0 m ((m-0) / 2)) m i:=λi hi=>by
     rcases gQ (i:=0) z m with⟨_,b,_⟩|⟨_,e1⟩
     .lia
     .rcases gQ (i:=0) z i with⟨_,_,e2⟩|⟨_,e2⟩
      .rw[zZ e1 e2]; exact low _ (by lia)
      .rw[zZ e1 e2]; exact low _ hi
    refine⟨λi j hij hj hi=>?_,λi j _ _ _=>by lia⟩
    by_cases y:j<m
    .exact⟨dd i j hij y,λz=>by lia⟩
    .have:j=m:=by lia
     subst this
     exact⟨.inl (RK i hi),λ_=>RK i hi⟩
  .rw[if_neg g]
   have e1:m=1:=by lia
   subst e1
   refine RJ ask hn (by lia) B (pn _ hp) ⟨λi j hij hj hi=>?_,λi j _ _ _=>by lia⟩ h
   have i0:i=0:=by lia
   have j1:j=1:=by lia
   subst i0 j1
   exact⟨.inl l,λ_=>l⟩
theorem aeI{st:SortSt}(hn:n<=a₀.size)(h1:1<=ok)(hok:ok<=n)(B:SB a₀ kd st)(p:Pre a₀.size (arrOf st) ok)(d:fC kf (arrOf st) ok)
  (h:∀t,SB a₀ kd t->fC kf (arrOf t) n->Q true t):wpS (model prog w) A E s (binarySort' 0 n ok) Q st:=by
 rw[binarySort'_eq]
 simp only[Nat.zero_add]
 refine wpS_bind (wpS_mono (wpS_forRange (I:=λk c t=>c=(none,())/\SB a₀ kd t/\k<=n/\fC kf (arrOf t) k/\Pre a₀.size (arrOf t) k) (Q:=λc t=>c=(none,())/\SB a₀ kd t/\fC kf (arrOf t) n) ?_ ?_ ?_) ?_)
 .rintro k c t k1 k2 ⟨rfl,B',_,d',p'⟩
  have hk:k<a₀.size:=by lia
  have rk:=p'.2 k (Nat.le_refl _) hk
  refine wpS_bind (wpS_mono (wpS_forRange (I:=λx c u=>u=t/\∃l r,c=(none,l,r)/\l<=r/\r<=k/\r-l<=k-x/\(∀i,i<l->¬Kl kf (arrOf t) k i)/\∀i,r<=i->i<k->Kl kf (arrOf t) k i)
   (Q:=λc u=>u=t/\∃l r,c=(none,l,r)/\l<=k/\(∀i,i<l->¬Kl kf (arrOf t) k i)/\∀i,l<=i->i<k->Kl kf (arrOf t) k i) ?_ ?_ ?_) ?_)
  .rintro x c u _ hx ⟨rfl,l,r,rfl,g1,g2,g3,lo,hi⟩
   dsimp only
   by_cases g:l >= r
   .rw[if_pos g]
    have:l=r:=by lia
    subst this
    exact wpS_pure ⟨rfl,l,l,rfl,g2,lo,hi⟩
   .rw[if_neg g]
    refine wpS_bind (ask _ _ _ _ B' hk (by lia) ?_)
    by_cases le:Kl kf (arrOf u) k ((l+r) / 2)
    .rw[decide_eq_true le]
     refine wpS_pure ⟨rfl,l,(l+r) / 2,rfl,by lia,by lia,by lia,lo,λi h1 h2=>?_⟩
     by_cases y:i=(l+r) / 2
     .rw[y]; exact le
     .exact le.tq (d' ((l+r) / 2) i (by lia) h2)
    .rw[decide_eq_false le]
     refine wpS_pure ⟨rfl,(l+r) / 2+1,r,rfl,by lia,by lia,by lia,λi h1=>?_,hi⟩
     by_cases y:i=(l+r) / 2
     .rw[y]; exact le
     .exact λz=>le (z.tq (d' i ((l+r) / 2) (by lia) (by lia)))
  .rintro c u ⟨rfl,l,r,rfl,g1,g2,g3,lo,hi⟩
   have:l=r:=by lia
   subst this
   exact⟨rfl,l,l,rfl,g2,lo,hi⟩
  .exact⟨rfl,0,k,rfl,by lia,by lia,by lia,λi hi=>by lia,λi g1 g2=>by lia⟩
  .rintro c u ⟨rfl,l,r,rfl,lk,lo,hi⟩
   rw[moveDown'_eq]
   refine wpS_bind (wpS_modify (wpS_pure ⟨rfl,B'.put (bubble_perm _ _ _),k2,?_,?_⟩))
   all_goals
    have ks:k<(arrOf u).size:=by rw[B'.sz]; exact hk
    have bb:=getElem?_bubble ks (k-l) (by lia)
    rw[show k-(k-l)=l by lia]at bb
    have b1:(bubble (arrOf u) k (k-l))[l]?=(arrOf u)[k]? := by rw[bb,if_pos rfl]
    have b2:∀i,l<i->i<=k->(bubble (arrOf u) k (k-l))[i]?=(arrOf u)[i-1]? := λi g1 g2=>by rw[bb,if_neg (by lia),if_pos ⟨g1,g2⟩]
    have b3:∀i,i<l->(bubble (arrOf u) k (k-l))[i]?=(arrOf u)[i]? := λi g1=>by rw[bb,if_neg (by lia),if_neg (by lia)]
    have b4:∀i,k<i->(bubble (arrOf u) k (k-l))[i]?=(arrOf u)[i]? := λi g1=>by rw[bb,if_neg (by lia),if_neg (by lia)]
   .intro i j hij hj
    show Lq kf (bubble (arrOf u) k (k-l)) i j
    rcases Nat.lt_trichotomy i l with y|y|y <;> rcases Nat.lt_trichotomy j l with y'|y'|y'
    .rw[mR (b3 i y) (b3 j y')]; exact d' i j hij (by lia)
    .subst y'
     rw[mR (b3 i y) b1]
     exact Lq.mk (lo i y) (by rw[rk]; exact p'.1 i (by lia))
    .rw[mR (b3 i y) (b2 j y' (by lia))]; exact d' i (j-1) (by lia) (by lia)
    .lia
    .lia
    .subst y
     rw[mR b1 (b2 j y' (by lia))]
     exact .inl (hi _ (by lia) (by lia))
    .lia
    .lia
    .rw[mR (b2 i y (by lia)) (b2 j y' (by lia))]; exact d' _ _ (by lia) (by lia)
   .refine⟨λi hi'=>?_,λi g1 g2=>?_⟩
    .show qr (bubble (arrOf u) k (k-l)) i<_
     rcases Nat.lt_trichotomy i l with y|y|y
     .rw[mQ (b3 i y)]; have:=p'.1 i (by lia); lia
     .subst y; rw[mQ b1,rk]; lia
     .rw[mQ (b2 i y (by lia))]; have:=p'.1 (i-1) (by lia); lia
    .show qr (bubble (arrOf u) k (k-l)) i=_
     rw[mQ (b4 i (by lia))]
     exact p'.2 i (by lia) g2
 .rintro c t ⟨rfl,B',kn,d',p'⟩
  refine⟨rfl,B',?_⟩
  rwa[show max (max ok 1) n=n by lia]at d'
 .rw[show max ok 1=ok by lia]
  exact⟨rfl,B,hok,d,p⟩
 .rintro c t ⟨rfl,B',d'⟩
  exact wpS_pure (h t B' d')
theorem aeJ{st:SortSt}(B:SB a₀ kd st)(h2:2<=a₀.size)(h64:a₀.size<64)(p:Pre a₀.size (arrOf st) 0)
  (h:∀t,(arrOf t).Perm a₀ -> failedOf t=none->fC kf (arrOf t) a₀.size->Q () t):wpS (model prog w) A E s sortRuns' Q st:=by
 rw[sortRuns'_eq]
 refine wpS_bind (wpS_get ?_)
 have mr:minRun' (arrOf st).size (arrOf st).size 0=a₀.size:=by
  rw[B.sz]
  obtain⟨f,hf⟩:∃f,a₀.size=f+1:=⟨a₀.size-1,by lia⟩
  have:minRun' (f+1) (f+1) 0=f+1:=by rw[minRun'_succ,if_pos (by lia)]
  rw[hf]; exact this
 dsimp only
 rw[mr,B.sz]
 have fin:∀t,SB a₀ kd t->fC kf (arrOf t) a₀.size->(arrOf (setPending t ((pendingOf t).push (0,a₀.size,0)))).Perm a₀/\failedOf (setPending t ((pendingOf t).push (0,a₀.size,0)))=none/\pendingOf (setPending t ((pendingOf t).push (0,a₀.size,0))) = #[(0,a₀.size,0)]/\fC kf (arrOf (setPending t ((pendingOf t).push (0,a₀.size,0)))) a₀.size :=
  λt B' d'=>⟨B'.pm,B'.fl,by show(pendingOf t).push _=_; rw[B'.pd]; rfl,d'⟩
 refine wpS_bind (wpS_mono (wpS_forRange (I:=λx c t=>(x=0/\c=(none,0)/\SB a₀ kd t/\Pre a₀.size (arrOf t) 0)\/(1<=x/\c=(none,a₀.size)/\(arrOf t).Perm a₀/\failedOf t=none/\pendingOf t = #[(0,a₀.size,0)]/\fC kf (arrOf t) a₀.size))
  (Q:=λc t=>c=(none,a₀.size)/\(arrOf t).Perm a₀/\failedOf t=none/\pendingOf t = #[(0,a₀.size,0)]/\fC kf (arrOf t) a₀.size) ?_ ?_ (.inl ⟨rfl,rfl,B,p⟩)) ?_)
 .rintro x c t _ hx (⟨rfl,rfl,B',p'⟩|⟨hx1,rfl,D⟩)
  .skip
   rw[if_neg (by lia)]
   simp only[Nat.sub_zero,Nat.min_self,Nat.zero_add]
   refine wpS_bind (aeH ask (Nat.le_refl _) (by lia) B' p' λm u B2 m1 m2 d2 p2=>?_)
   show wpS _ _ _ _ (if m<a₀.size then _ else _) _ _
   by_cases g:m<a₀.size
   .rw[if_pos g]
    refine wpS_bind (wpS_lift (wpAny_rule ⟨rfl,?_⟩))
    refine wpS_bind (aeI ask (Nat.le_refl _) m1 m2 B2 p2 d2 λv B3 d3=>?_)
    refine wpS_bind (wpS_get ?_)
    rw[show(pendingOf v).back? = none by rw[B3.pd]; rfl]
    exact wpS_bind (wpS_modify (wpS_pure (.inr ⟨by lia,rfl,fin v B3 d3⟩)))
   .rw[if_neg g]
    have e:m=a₀.size:=by lia
    subst e
    refine wpS_bind (wpS_get ?_)
    rw[show(pendingOf u).back? = none by rw[B2.pd]; rfl]
    exact wpS_bind (wpS_modify (wpS_pure (.inr ⟨by lia,rfl,fin u B2 d2⟩)))
  .skip
   rw[if_pos (Nat.le_refl _)]
   exact wpS_pure ⟨rfl,D⟩
 .rintro c t (⟨hx,_,_⟩|⟨_,hc,D⟩)
  .lia
  .exact⟨hc,D⟩
 .rintro c t ⟨rfl,D⟩
  refine wpS_bind (wpS_mono (wpS_forRange (I:=λ_ c u=>u=t/\c=(none,())) (Q:=λc u=>u=t/\c=(none,())) ?_ (λ_ _ z=>z) ⟨rfl,rfl⟩) ?_)
  .rintro x c u _ _ ⟨rfl,rfl⟩
   refine wpS_bind (wpS_get ?_)
   rw[if_pos (by rw[D.2.2.1]; exact Nat.le_refl 1)]
   exact wpS_pure ⟨rfl,rfl⟩
  .rintro c u ⟨rfl,rfl⟩
   exact wpS_pure (h _ D.1 D.2.1 D.2.2.2)
end
open PySem.W
section
variable {X:Cx}{pins:LO}{σ : St}{H:Hp}{s:Shared}
theorem Inv.track(I:Inv X pins σ H s)(f:bD X pins H a)(e:s.heap.get? a=some {cls:=.type "list",data:=.seq its.toArray n }) (r:Vals xs its) (hz:xs.length<=sizeLine):Inv X pins σ (upd H a (.lst xs)) s:=by
 obtain⟨f0,f1,f2,f3,f4,f5⟩:=f
 have ok:cH X.prog X.w (upd H a (.lst xs)) s.heap:=λb u q=>by
  by_cases hb:b=a
  .subst hb; rw[bY]at q; cases q; exact⟨hz,its,n,r,e⟩
  .rw[aJ hb]at q
   exact(I.hok b u q).stay (λc v _ z=>z) (λc z=>by rw[aJ (iC z f0)]; exact z) λc ys z=>by rw[aJ (iC z f0)]; exact z
 exact I.step (h':=s.heap) (g':=s.gens) (t':=s.toks) (d':=s.drawn) (ch:=[a]) (λb hb=>by
   have:b=a:=by simpa using hb
   subst this
   exact⟨f3,f1,f4,f5⟩) (λb o _ _ _ q _=>q) (λb o _ _ _ q _=>⟨o.slots,q⟩) (λb o hb _ q=>by rw[aJ (by simpa using hb)]; exact q) (λb o _ q=>⟨o,q⟩)
  (λb ys q=>by rw[aJ (iC q f0)]; exact q) (λb o u q=>by rw[aJ (iC q f0)]; exact q) (λb ps q=>⟨#[],by rw[aJ (iC q f0),q]; simp⟩) (λm q=>q) ok I.bare
theorem Inv.sub(I:Inv X pins σ H s)(h:∀p∈jf,p∈pins):Inv X jf σ H s:=I.yq λp hp=>I.pin p (List.mem_append_right _ (h p hp))
theorem Inv.lD(I:Inv X pins σ H s)(f:bD X pins H a)(e:s.heap.get? a=some o)(d:∀v,o.data ≠ .cell v):Inv X ((a,o)::pins) σ H s:=I.yq λp hp=>by
 rcases List.mem_cons.mp hp with rfl|hp
 .exact⟨e,f.1,f.2.1,f.2.2.1,d⟩
 .exact I.pin p (List.mem_append_right _ hp)
theorem bD.lD(f:bD X pins H b)(n:a≠b):bD X ((a,o)::pins) H b:=⟨f.1,f.2.1,f.2.2.1,f.2.2.2.1,f.2.2.2.2.1,λp hp=>by
 rcases List.mem_append.mp hp with hp|hp
 .exact f.2.2.2.2.2 p (List.mem_append_left _ hp)
 .rcases List.mem_cons.mp hp with rfl|hp
  .exact n
  .exact f.2.2.2.2.2 p (List.mem_append_right _ hp)⟩
theorem Inv.wr(I:Inv X pins σ H s)(f:bD X pins H a):Inv X pins σ H {s with heap:=s.heap.update a (Obj.mapSeq g),toks:=t' }:=by
 obtain⟨f0,f1,f2,f3,f4,f5⟩:=f
 exact I.turned (it:=a) (λb o hb e=>((Heap.SameBut.update s.heap a _).2 b hb).trans e) f0 f1 f3 f4 f5
end
noncomputable instance nfI:NF:=⟨numOf⟩
def mU(n:Nat)(kz:Nat->Int × Int)(ys:List Nat):Prop:=ys.Perm (List.range n)/\ys.Pairwise λi j=>((kz i).1<(kz j).1\/((kz i).1=(kz j).1/\(kz i).2<(kz j).2))\/(((kz i).1=(kz j).1/\(kz i).2=(kz j).2)/\i<j)
structure mV(X:Cx)(Kv:Hp->Value->Int × Int->Prop)(kd:SortKind):Prop where
 kind:∀(H:Hp) (keys:Array Value) (kz:Nat->Int × Int),2<=keys.size->(∀i v,keys[i]?=some v->Kv H v (kz i))->∀{pins σ s Q E},Inv X pins σ H s->Q kd s->wpAny (model X.prog X.w) X.A.in1.in1 (keyKind' keys) Q E s
 ask:∀{pins σ H s} {E:Value->Shared->Prop} (a₀ : Array Keyed) (kf:Value->Int × Int),Inv X pins σ H s->(∀p,p∈a₀.toList->Kv H p.1 (kf p.1))->Asks X.prog X.w X.A.in1.in1 E s a₀ kd kf
section
variable {X:Cx}
theorem RL:mV X (λ_ v k=>∃t,v=.int k.1 t/\k.2=0) oneType' where
 kind:=λH keys kz h2 hk pins σ s Q E I q=>by
  have hi:IntsAre keys.toList (keys.toList.map numOf):=by
   refine intsAre_map _ λv hv=>?_
   obtain⟨i,hi,e⟩:=List.getElem_of_mem hv
   obtain⟨t,z,_⟩:=hk i v (by rw[<-e]; simp[Array.getElem?_eq_getElem (show i<keys.size by simpa using hi)])
   exact⟨_,t,z⟩
  rw[ksk_kind hi h2]
  exact wpAny_pure q
 ask:=λa₀ kf I h st i j Q B hi hj q=>by
  have h0:IntKeys a₀ := λp hp=>by
   obtain⟨t,z,_⟩:=h p hp
   exact⟨_,t,z⟩
  have B':SBase a₀ st:=⟨B.pm,B.kn,B.fl,B.pd⟩
  have at_:∀i,i<a₀.size->q1 kf (arrOf st) i=K (arrOf st) i/\q2 kf (arrOf st) i=0:=λi hi=>by
   obtain⟨t,p,e⟩:=B'.at h0 hi
   have hi':i<(arrOf st).size:=by rw[B.sz]; exact hi
   have hm:(arrOf st)[i]∈a₀.toList:=(Array.perm_iff_toList_perm.mp B.pm).mem_iff.mp (by simp)
   obtain⟨t',z,z2⟩:=h _ hm
   have e':(arrOf st)[i]?=some (arrOf st)[i]:=getElem?_pos _ i hi'
   have e2:(arrOf st)[i]=(Value.int (K (arrOf st) i) t,p):=by rw[e']at e; exact Option.some.inj e
   rw[e2]at z z2
   unfold q1 q2
   rw[e]
   refine⟨?_,z2⟩
   injection z with z
   exact z.symm
  refine wpS_ltK B' h0 hi hj ?_
  have:decide (Kl kf (arrOf st) i j)=decide (K (arrOf st) i<K (arrOf st) j):=by
   rw[decide_eq_decide]
   unfold Kl
   rw[(at_ i hi).1,(at_ j hj).1,(at_ i hi).2,(at_ j hj).2]
   lia
  rw[this]at q
  exact q
end
section
variable {X:Cx}{pins:LO}{σ : St}{H:Hp}{s:Shared}{Kv:Hp->Value->Int × Int->Prop}{kd:SortKind}{a kS:Addr}{n:Nat}{kz:Nat->Int × Int}{vs:List Value}
theorem RM{st:SortSt}(I:Inv X pins σ H s)(fk:bD X pins H kS)(fa:bD X pins H a)(ne:kS≠a)(hk:s.heap.get? kS=some (seqObj "list" keys e)) (ha:s.heap.get? a=some (seqObj "list" #[] e1)) (hks:keys.size<=64) (hst:(arrOf st).size<=64) (fl:failedOf st=none)
  (h:∀s' c,Inv X pins σ H s'->s'.heap.get? a=some (seqObj "list" ((arrOf st).map (·.2)) c)->P (.done (.ret .none)) s'):wpAny (model X.prog X.w) X.A.in1.in1 (ksk_tail a false e1 (.ref kS) st) P E s:=by
 refine wpAny_bind (listUpdate_at hk rfl ?_ (by rw[sizeLine_eq]; lia) (Nat.zero_le _))
 refine wpAny_bind (wpAny_letGo ?_)
 have I1:=I.wr (g:=λ_=>#[]) (t':=s.toks) fk
 have ha1:(s.heap.update kS (Obj.mapSeq λ_=>(#[]:Array Value))).get? a=some (seqObj "list" #[] e1):=((Heap.SameBut.update s.heap kS _).2 a (Ne.symm ne)).trans ha
 refine wpAny_bind (seqEpoch_at ha1 rfl ?_)
 refine wpAny_bind (listUpdate_at ha1 rfl ?_ (Nat.zero_le _) (by simp only[Bool.false_eq_true,if_false,Array.size_map]; rw[sizeLine_eq]; lia))
 rw[fl]
 simp only[bne_self_eq_false,Bool.false_eq_true,if_false]
 exact wpAny_pure (h _ _ (I1.wr (t':=s.toks) fa) (get?_update_seq ha1 _))
theorem aeK(T:mV X Kv kd)(I:Inv X pins σ H s)(fk:bD X pins H kS)(fa:bD X pins H a)(ne:kS≠a)(hk:s.heap.get? kS=some (seqObj "list" keys e)) (ha:s.heap.get? a=some (seqObj "list" #[] e1))
  (hv:∀(i:Nat) (v:Value),vs[i]?=some v->∃t,v=Value.int i t) (hl:vs.length=n) (hkn:keys.size=n) (h64:n<64) (hK:∀i v,keys[i]?=some v->Kv H v (kz i)) (inj:∀v k k',Kv H v k->Kv H v k'->k=k')
  (h:∀s' c out,Inv X pins σ H s'->s'.heap.get? a=some (seqObj "list" out c)->(∃ys,mU n kz ys/\Vals (ys.map λi:Nat=>V.int i) out.toList)->P (.done (.ret .none)) s'):wpAny (model X.prog X.w) X.A.in1.in1 (ksk_end a false vs.toArray e1 (.ref kS) keys) P E s:=by
 have sH:(keys.zip vs.toArray).size=n:=by rw[Array.size_zip,hkn,List.size_toArray,hl,Nat.min_self]
 have vA:∀i,i<n->∃v t,(keys.zip vs.toArray)[i]?=some (v,.int i t)/\Kv H v (kz i):=λi hi=>by
  obtain⟨t,e2⟩:=hv i vs[i] (by simp[hl,hi])
  have e1:keys[i]?=some keys[i]:=getElem?_pos _ _ (by lia)
  refine⟨keys[i],t,?_,hK i _ e1⟩
  rw[<-Array.getElem?_toList,ksk_zip,List.getElem?_zip_eq_some]
  refine⟨by simp[Array.getElem?_toList,e1],?_⟩
  show vs[i]?=some (Value.int i t)
  rw[List.getElem?_eq_getElem (by lia),e2]
 -- what the sorted array says
 have fin:∀(kf:Value->Int × Int) (xs:Array Keyed),(∀(i:Nat) v t,(keys.zip vs.toArray)[i]?=some (v,Value.int i t)->kf v=kz i)->xs.Perm (keys.zip vs.toArray)->fC kf xs n->∃ys,mU n kz ys/\Vals (ys.map λi:Nat=>V.int i) (xs.map (·.2)).toList:=λkf xs hkf hp hs=>by
  have hpl:=Array.perm_iff_toList_perm.mp hp
  have mem:∀p∈xs.toList,∃i t,i<n/\p.2=.int (i:Nat) t/\kf p.1=kz i:=λp hp'=>by
   obtain⟨i,hi,e⟩:=List.getElem_of_mem (hpl.mem_iff.mp hp')
   have hi':i<n:=by rw[Array.length_toList,sH]at hi; exact hi
   obtain⟨v,t,e1,_⟩:=vA i hi'
   have e2:(keys.zip vs.toArray)[i]?=some p:=by rw[<-Array.getElem?_toList,List.getElem?_eq_getElem hi,e]
   rw[e1]at e2
   cases e2
   exact⟨i,t,hi',rfl,hkf i v t e1⟩
  refine⟨xs.toList.map λp=>(numOf p.2).toNat,⟨?_,?_⟩,?_⟩
  .have h1:=hpl.map λp:Keyed=>(numOf p.2).toNat
   refine h1.trans (List.Perm.of_eq ?_)
   refine List.ext_getElem? λi=>?_
   by_cases hi:i<n
   .obtain⟨v,t,e1,_⟩:=vA i hi
    rw[List.getElem?_map,Array.getElem?_toList,e1,List.getElem?_range hi]
    simp[numOf]
   .rw[List.getElem?_eq_none (by simp[sH]; lia),List.getElem?_eq_none (by simp; lia)]
  .rw[List.pairwise_map,List.pairwise_iff_getElem]
   intro i j hi hj hij
   have sz:xs.size=n:=by rw[hp.size_eq,sH]
   have hi':i<xs.size:=by simpa using hi
   have hj':j<xs.size:=by simpa using hj
   have z:=hs i j hij (by lia)
   obtain⟨a1,t1,_,b1,c1⟩:=mem _ (List.getElem_mem hi)
   obtain⟨a2,t2,_,b2,c2⟩:=mem _ (List.getElem_mem hj)
   have x1:xs[i]?=some xs.toList[i]:=by rw[<-Array.getElem?_toList,List.getElem?_eq_getElem hi]
   have x2:xs[j]?=some xs.toList[j]:=by rw[<-Array.getElem?_toList,List.getElem?_eq_getElem hj]
   unfold Lq Kl Ke q1 q2 qr at z
   rw[x1,x2]at z
   dsimp only at z
   rw[b1,b2,c1,c2]at z
   rw[b1,b2]
   simp only[NF.f,nfI,numOf,Int.toNat_natCast]at z ⊢
   lia
  .rw[Array.toList_map,List.map_map]
   have go:∀l:List Keyed,(∀p∈l,∃i t,i<n/\p.2=.int (i:Nat) t/\kf p.1=kz i)->Vals (l.map ((λi:Nat=>V.int i) ∘ λp:Keyed=>(numOf p.2).toNat)) (l.map (·.2)):=λl=>by
    induction l with
    |nil=>intro _; exact .nil
    |cons p r ih =>
     intro hm
     refine .cons ?_ (ih λq hq=>hm q (List.mem_cons_of_mem _ hq))
     obtain⟨i,t,_,e,_⟩:=hm p (List.mem_cons_self ..)
     exact⟨t,by simp[e,numOf]⟩
   exact go _ mem
 -- a function of the keys
 obtain⟨kf,hkf⟩:∃kf:Value->Int × Int,∀v k,Kv H v k->kf v=k:=by
  classical
  refine⟨λv=>if q:∃k,Kv H v k then q.choose else(0,0),λv k hk=>?_⟩
  have q:∃k,Kv H v k:=⟨k,hk⟩
  dsimp only
  rw[dif_pos q]
  exact inj v _ _ q.choose_spec hk
 have RN:∀(i:Nat) v t,(keys.zip vs.toArray)[i]?=some (v,Value.int i t)->kf v=kz i:=λi v t e=>by
  have hi:i<n:=by
   have:=(Array.getElem?_eq_some_iff.mp e).1
   lia
  obtain⟨v',t',e1,q⟩:=vA i hi
  rw[e1]at e
  cases e
  exact hkf _ _ q
 unfold ksk_end
 simp only[Bool.false_eq_true,if_false]
 rw[List.size_toArray,hl]
 by_cases h2:n<2
 .rw[if_pos h2,if_pos h2]
  refine wpAny_bind (wpAny_pure ?_)
  rw[StateT.run_pure]
  refine wpAny_bind (wpAny_pure ?_)
  refine RM (st:=SortSt.mk' general' (keys.zip vs.toArray) #[] 7 none) I fk fa ne hk ha (by lia) (by show(keys.zip vs.toArray).size<=64; lia) rfl λs' c I' e'=>h s' c _ I' e' (fin kf _ RN (Array.Perm.refl _) λi j hij hj=>by lia)
 .rw[if_neg h2,if_neg h2]
  refine wpAny_bind (T.kind H keys kz (by lia) hK I ?_)
  have ask:=T.ask (E:=E) (s:=s) (keys.zip vs.toArray) kf I (λp hp=>by
   obtain⟨i,hi,e⟩:=List.getElem_of_mem hp
   have hi':i<n:=by rw[Array.length_toList,sH]at hi; exact hi
   obtain⟨v,t,e1,q⟩:=vA i hi'
   have e2:(keys.zip vs.toArray)[i]?=some p:=by rw[<-Array.getElem?_toList,List.getElem?_eq_getElem hi,e]
   rw[e1]at e2
   cases e2
   rw[hkf _ _ q]
   exact q)
  have B:SB (keys.zip vs.toArray) kd (SortSt.mk' kd (keys.zip vs.toArray) #[] 7 none):=⟨Array.Perm.refl _,rfl,rfl,rfl⟩
  have p0:Pre (keys.zip vs.toArray).size (arrOf (SortSt.mk' kd (keys.zip vs.toArray) #[] 7 none)) 0:=⟨λk hk=>by lia,λk _ hk=>by
   obtain⟨v,t,e1,_⟩:=vA k (by lia)
   show qr (keys.zip vs.toArray) k=k
   unfold qr
   rw[e1]
   rfl⟩
  refine wpAny_bind (wpAny_mono (aeJ (Q:=λ_ t=>(arrOf t).Perm (keys.zip vs.toArray)/\failedOf t=none/\fC kf (arrOf t) (keys.zip vs.toArray).size) ask B (by lia) (by lia) p0 λt a1 a2 a3=>⟨a1,a2,a3⟩) ?_ λ_ _ z=>z)
  rintro⟨⟨⟩,t⟩ s' ⟨rfl,hp,hf,hs⟩
  rw[sH]at hs
  exact RM I fk fa ne hk ha (by lia) (by rw[hp.size_eq,sH]; lia) hf λs' c I' e'=>h s' c _ I' e' (fin kf _ RN hp hs)
end
section
variable {X:Cx}{pins:LO}{σ : St}{H:Hp}{s:Shared}{Kv:Hp->Value->Int × Int->Prop}{kd:SortKind}{n:Nat}{kz:Nat->Int × Int}{vs:List Value}{f:Value}
theorem bD.up(h:bD X pins H b)(e:H' b=none):bD X pins H' b:=⟨e,h.2⟩
def GR(X:Cx)(pins:LO)(σ : St)(H:Hp)(Kv:Hp->Value->Int × Int->Prop)(n:Nat)(kz:Nat->Int × Int)(f:Value):Prop :=
 ∀(jf:LO) (i:Nat) (t:Tok) (s':Shared) (H':Hp),i<n->(∀p∈pins,p∈jf)->Same H H'->Inv X jf σ H' s' ->
  wpAny (model X.prog X.w) X.A.in1.in1 (call f [.int i t]) (λv s''=>∃cU,Same H' cU/\Kv cU v (kz i)/\Inv X jf σ cU s'') (λ_ _=>False) s'
theorem aeL(T:mV X Kv kd)(mono:∀{H H':Hp} {v k},Same H H'->Kv H v k->Kv H' v k)(inj:∀{pins:LO} {σ : St} {H:Hp} {s:Shared},Inv X pins σ H s->∀v k k',Kv H v k->Kv H v k'->k=k')
  (I:Inv X pins σ H s) (fk:bD X pins H kS) (fa:bD X pins H a) (ne:kS≠a) (hk:s.heap.get? kS=some (seqObj "list" #[] 0)) (ha:s.heap.get? a=some (seqObj "list" #[] e1))
  (hv:∀(i:Nat) (v:Value),vs[i]?=some v->∃t,v=Value.int i t) (hl:vs.length=n) (h64:n<64) (key:GR X pins σ H Kv n kz f)
  (h:∀s' c out H',Same H H'->H' a=none->Inv X pins σ H' s'->s'.heap.get? a=some (seqObj "list" out c)->(∃ys,mU n kz ys/\Vals (ys.map λi:Nat=>V.int i) out.toList)->P (.done (.ret .none)) s') :
  wpAny (model X.prog X.w) X.A.in1.in1 (ksk_rest a f false vs.toArray e1 (.ref kS)) P E s:=by
 unfold ksk_rest
 refine wpAny_bind (wpAny_rule ?_)
 rw[<-Array.forIn_toList]
 refine wpAny_bind (ksk_fold (λi s'=>∃H' kA e,Same H H'∧H' kS=none∧H' a=none∧Inv X pins σ H' s'∧s'.heap.get? kS=some (seqObj "list" kA e)∧s'.heap.get? a=some (seqObj "list" #[] e1)∧kA.size=i∧∀(j:Nat) v,kA[j]?=some v→Kv H' v (kz j)) vs 0 s
  ⟨H,#[],0,Same.refl _,fk.1,fa.1,I,hk,ha,rfl,λj v z=>by simp at z⟩ ?_ ?_)
 .rintro j x s' hx ⟨H',kA,e,sm,nk,na,I',hk',ha',sz,hK⟩
  rw[Nat.zero_add]at sz ⊢
  have hj:j<vs.length:=(List.getElem?_eq_some_iff.mp hx).1
  obtain⟨t,rfl⟩:=hv j x hx
  have fk':=fk.up nk
  have fa':=fa.up na
  have I2:=(I'.lD fa' ha' (λv z=>by cases z)).lD (fk'.lD (Ne.symm ne)) hk' (λv z=>by cases z)
  refine wpAny_bind (wpAny_attempt (wpAny_mono (key _ j t s' H' (by lia) (λp hp=>List.mem_cons_of_mem _ (List.mem_cons_of_mem _ hp)) sm I2) (λv s'' he=>?_) λ_ _ z=>z.elim))
  obtain⟨cU,RP,kv,I3⟩:=he
  have p1:=I3.pin (kS,seqObj "list" kA e) (List.mem_append_right _ (List.mem_cons_self ..))
  have p2:=I3.pin (a,seqObj "list" #[] e1) (List.mem_append_right _ (List.mem_cons_of_mem _ (List.mem_cons_self ..)))
  have I4:=I3.sub λp hp=>List.mem_cons_of_mem _ (List.mem_cons_of_mem _ hp)
  refine wpAny_bind (listUpdate_at p1.1 rfl ?_ (by rw[sizeLine_eq]; lia) (Nat.le_trans (Nat.le_of_eq (Array.size_push ..)) (by rw[sizeLine_eq]; lia)))
  refine wpAny_pure ⟨rfl,cU,kA.push v,_,sm.trans RP,p1.2.1,p2.2.1,I4.wr (t':=s''.toks) (fk.up p1.2.1),get?_update_seq p1.1 _,((Heap.SameBut.update s''.heap kS _).2 a (Ne.symm ne)).trans p2.1,by rw[Array.size_push,sz],λi u q=>?_⟩
  rw[Array.getElem?_push]at q
  split at q
  .rename_i z
   cases q
   rw[z,sz]
   exact kv
  .exact mono RP (hK i u q)
 .rintro s' ⟨H',kA,e,sm,nk,na,I',hk',ha',sz,hK⟩
  refine wpAny_bind (listItems_at hk' rfl ?_)
  exact aeK T I' (fk.up nk) (fa.up na) ne hk' ha' hv hl (by lia) h64 hK (inj I') λs'' c out GX e'' q=>h s'' c out H' sm na GX e'' q
theorem aeM(T:mV X Kv kd)(mono:∀{H H':Hp} {v k},Same H H'->Kv H v k->Kv H' v k)(inj:∀{pins:LO} {σ : St} {H:Hp} {s:Shared},Inv X pins σ H s->∀v k k',Kv H v k->Kv H v k'->k=k')
  (I:Inv X pins σ H s) (fa:bD X pins H a) (ha:s.heap.get? a=some (seqObj "list" vs.toArray c0))
  (hv:∀(i:Nat) (v:Value),vs[i]?=some v->∃t,v=Value.int i t) (hl:vs.length=n) (h64:n<64) (key:GR X pins σ H Kv n kz f)
  (h:∀s' c out H',Same H H'->H' a=none->Inv X pins σ H' s'->s'.heap.get? a=some (seqObj "list" out c)->(∃ys,mU n kz ys/\Vals (ys.map λi:Nat=>V.int i) out.toList)->P (.done (.ret .none)) s') :
  wpAny (model X.prog X.w) X.A.in1.in1 (ksk_tree a f false) P E s:=by
 refine wpAny_bind (listItems_at ha rfl ?_)
 refine wpAny_bind (listUpdate_at ha rfl ?_ (by rw[List.size_toArray,sizeLine_eq]; lia) (Nat.zero_le _))
 have I1:=I.wr (g:=λ_=>#[]) (t':=s.toks) fa
 obtain⟨e1,ha1⟩:∃e1,(s.heap.update a (Obj.mapSeq λ_=>(#[]:Array Value))).get? a=some (seqObj "list" #[] e1):=⟨_,get?_update_seq ha _⟩
 refine wpAny_bind (seqEpoch_at ha1 rfl ?_)
 refine wpAny_bind (wpAny_newTuple ?_ (by show vs.toArray.toList.length<=_; rw[List.toList_toArray,sizeLine_eq]; lia))
 refine wpAny_bind (wpAny_newList ?_ (Nat.zero_le _))
 have I2:Inv X pins σ H {s with heap:=(s.heap.update a (Obj.mapSeq λ_=>(#[]:Array Value))).push {cls:=.type "tuple",data:=.seq vs.toArray.toList.toArray } }:=I1.kept (t':=s.toks) λb o e=>Heap.get?_push_of_some _ e
 have I3:Inv X pins σ H {s with heap:=((s.heap.update a (Obj.mapSeq λ_=>(#[]:Array Value))).push {cls:=.type "tuple",data:=.seq vs.toArray.toList.toArray }).push {cls:=.type "list",data:=.seq ([]:List Value).toArray } }:=I2.kept (t':=s.toks) λb o e=>Heap.get?_push_of_some _ e
 have lt:a<((s.heap.update a (Obj.mapSeq λ_=>(#[]:Array Value))).push {cls:=.type "tuple",data:=.seq vs.toArray.toList.toArray }).objs.size:=by
  rw[size_push',Heap.size_update]
  exact Nat.lt_succ_of_lt (Heap.lt_size ha)
 refine wpAny_holding ?_
 exact aeL T mono inj I3 (I2.jg (Nat.le_refl _) (I2.hok.fresh (Nat.le_refl _))) fa (Nat.ne_of_gt lt) (Heap.get?_push_size _ rfl) (Heap.get?_push_of_some _ (Heap.get?_push_of_some _ ha1)) hv hl h64 key h
theorem aeN(hh:A.handled=none)(hr:IsRange s.heap r 0 n 1 t u v)(hn:n<=1000)
  (h:∀h' tk (vs:List Value),(∀b o,s.heap.get? b=some o->h'.get? b=some o)->vs.length=n->(∀(i:Nat) (v:Value),vs[i]?=some v->∃t,v=Value.int i t)->Q vs {s with heap:=h',toks:=tk }) :
  wpAny (model P w) A (collect (.ref r)) Q E s:=by
 refine wpAny_bind (wpAny_runValue (codeAny_builtin F.entry_proto_collect ?_))
 refine wpAny_bind (wpAny_newList ?_ (Nat.zero_le _))
 refine wpAny_pure ⟨plainId_quiet F.plain_list_iadd _,codeAny_builtin F.entry_list_iadd ?_⟩
 have sz1:Builtin.Range.rangeSize 0 (n:Int) 1=n:=by rw[rangeSize_one]; split <;> lia
 have keep:∀b o,s.heap.get? b=some o->(s.heap.push {cls:=.type "list",data:=.seq ([]:List Value).toArray }).get? b=some o:=λb o e=>Heap.get?_push_of_some _ e
 refine wpAny_extend_range (A:=A) (R:=λr s'=>match r with
  | Except.ok (Flow.ret v)=>wpAny (model P w) A (match v with
   |Value.ref a=>do
    let __do_lift <-load a
    match __do_lift.data with
     |Data.seq xs epoch=>pure xs.toList
     |x=>unsupported "internal:collect"
   |x=>unsupported "internal:collect") Q E s'
  |Except.ok a=>False
  |Except.error e=>E e s') (s:={s with heap:=s.heap.push {cls:=.type "list",data:=.seq ([]:List Value).toArray } }) hh (keep _ _ hr) (small_one (by lia) (by lia) (by lia) (by lia)) sz1 (by lia) s.heap.objs.size (.ref s.heap.objs.size) 0 (Heap.get?_push_size _ rfl) λh' tk acc c hk hS hi=>?_
 refine wpAny_bind (wpAny_load hS ?_)
 refine wpAny_pure (h h' tk acc.toList (λb o e=>hk b o (Nat.ne_of_lt (Heap.lt_size e)) (keep b o e)) (by rw[Array.length_toList]; exact hi.1) λi v e=>?_)
 rw[Array.getElem?_toList]at e
 obtain⟨t,z⟩:=hi.2 i v e
 exact⟨t,by rw[z]; simp⟩
theorem aeO(T:mV X Kv kd)(mono:∀{H H':Hp} {v k},Same H H'->Kv H v k->Kv H' v k)(inj:∀{pins:LO} {σ : St} {H:Hp} {s:Shared},Inv X pins σ H s->∀v k k',Kv H v k->Kv H v k'->k=k')
  (I:Inv X pins σ H s) (hh:X.A.handled=none) (hr:IsRange s.heap r 0 n 1 t u v) (h64:n<64) (key:GR X pins σ H Kv n kz (.ref q))
  (h:∀s' D ys H',Same H H'->H' D=none->Inv X pins σ (upd H' D (.lst (ys.map λi:Nat=>V.int i))) s'->mU n kz ys->Q (.ref D) s') :
  wpAny (model X.prog X.w) X.A (call (.builtin "sorted") [.ref r] [(Str.ofString "key",.ref q)]) Q E s:=by
 refine call_function_entry_kw kind_sorted plain_sorted entry_sorted (ksk_s1 _ _) ?_
 refine wpAny_bind (m:=checkCount "sorted" 1 1 _) (wpAny_pure ?_)
 refine wpAny_bind (aeN (A:=X.A.in1) hh hr (by lia) λh1 tk vs keep hl hv=>?_)
 have I1:Inv X pins σ H {s with heap:=h1,toks:=tk }:=I.kept keep
 refine wpAny_bind (wpAny_newList ?_ (by rw[sizeLine_eq]; lia))
 have I2:Inv X pins σ H {s with heap:=h1.push {cls:=.type "list",data:=.seq vs.toArray },toks:=tk }:=I1.kept (t':=tk) λb o e=>Heap.get?_push_of_some _ e
 have ha:(h1.push {cls:=.type "list",data:=.seq vs.toArray }).get? h1.objs.size=some (seqObj "list" vs.toArray 0):=Heap.get?_push_size _ rfl
 refine wpAny_bind (wpAny_holding (wpAny_call_entry_kw slot_list_sort ⟨_,ha,rfl⟩ entry_list_sort ?_ (ksk_l1 _ _)))
 rw[ksk_t1]
 have fa:=I1.jg (Nat.le_refl _) (I1.hok.fresh (Nat.le_refl _))
 refine aeM T mono inj I2 fa ha hv hl h64 key λs' c out H' sm na I' e' ⟨ys,hs,hv'⟩=>⟨_,rfl,?_⟩
 refine wpAny_pure ⟨_,rfl,h s' _ ys H' sm na (I'.track (its:=out.toList) (n:=c) (fa.up na) e' hv' ?_) hs⟩
 have:=hs.1.length_eq
 rw[List.length_map,this,List.length_range,sizeLine_eq]
 lia
end
noncomputable def z6(X:Cx)(A:Around)(N:List Str)(qual:Str)(scope:Scope)(f:Addr)(cd:Value)(s:Shared)(H:Hp):Cx where
 prog:=X.prog
 w:=X.w
 K:=X.K
 mg:=X.mg
 base:=X.base
 A:=A.deeper (envX qual scope s.heap.objs.size f cd (bM X.env.cells scope.names []))
 N:=N
 s₀ := s
 H₀ := H
 env:=envX qual scope s.heap.objs.size f cd (bM X.env.cells scope.names [])
 outer:=X.stack
 stack:=envX qual scope s.heap.objs.size f cd (bM X.env.cells scope.names [])::X.stack
 ex:=[]
 fn:=λ_=>false
 calm:=true
 pn:=[]
 xe:=λ_ _=>False
structure z7(sc:Scope)(No:List Str)(x:Str)(Ns:List Str)(src:List (Option Nat))(scope:Scope):Prop where
 c:mD sc No (x::Ns) (none::src) scope
 RQ:∀y∈scope.names,y.2 ≠ .cell
 par:scope.names.lookup x=some .local
 co:scope.isCoroutine=false
 gen:scope.isGenerator=false
section
variable {X:Cx}{pins:LO}{σ : St}{H:Hp}{s:Shared}{sc scope:Scope}{No Ns:List Str}{src:List (Option Nat)}{x qual:Str}
theorem aeP(hsc:X.env.scope=sc)(eU:X.N=No)(S:z7 sc No x Ns src scope)(hfr:A.frames=some X.stack)(hhd:A.handled=none)(I:Inv X pins σ H s)(rv:RelV v u)
  (hns:h₁.Ns s.heap.objs.size (λy=>([(x,u)]:List (Str × Value)).reverse.lookup y)) (old:∀b o,s.heap.get? b=some o->h₁.get? b=some o) :
  Inv (z6 X A (x::Ns) qual scope f cd s H) [] (some v::bW src σ) H {s with heap:=h₁,toks:=tk }:=by
 subst hsc
 subst eU
 have vD:∀x c,(bM X.env.cells scope.names []).lookup x=some c->X.env.cells.lookup x=some c:=λx c h=>by
  rcases oJ h with q|q
  .simp at q
  .exact q
 refine⟨⟨I.ok.mod,S.c.kind,rfl,rfl,Nat.le_refl _,λx y c h1 h2=>I.ok.inj x y c (vD _ _ h1) (vD _ _ h2),λy hy=>?_,λx c h=>(Bool.false_ne_true h).elim,λ_=>hhd,Around.frames_deeper hfr,.inr ⟨rfl,rfl⟩,λb hb=>absurd (show b∈([]:List Addr)from hb) (by simp),
   I.bs,Nat.le_trans I.ok.nY I.sz,λb o e=>by intro hb; exact absurd (show b∈([]:List Addr)from hb) (by simp),λb hb=>absurd (show b∈([]:List Addr)from hb) (by simp),I.stack,I.yj⟩,
  rfl,I.bare,Un.kept old,⟨_,hns,λi y w' h1 h2 h3=>?_⟩,λy c e=>?_,I.hok.fresh (Nat.le_refl _),λy c e=>I.jR y c (vD y c e),λp hp=>absurd (show p∈([]:LO)from hp) (by simp),I.hok.kept old,?_⟩
 .skip
  have m:(y,NameKind.free)∈scope.names:=by
   rcases hy with z|z
   .exact absurd rfl (S.RQ _ (PySem.mem_of_lookup z))
   .exact PySem.mem_of_lookup z
  have q:=qg (cells:=X.env.cells) (acc:=[]) (.inr ⟨m,by
   obtain⟨c,e⟩:=I.ok.has y (S.c.free _ m rfl)
   rw[e]; rfl⟩)
  exact Option.isSome_iff_exists.mp q
 .cases i with
  |zero =>
   have h1:some x=some y:=h1
   cases h1
   cases h2
   exact⟨u,rv,.inl ⟨S.par,by show([(x,u)]:List (Str × Value)).reverse.lookup x=some u; simp⟩⟩
  |succ i =>
   have h1:Ns[i]?=some y:=h1
   have h2:(bW src σ)[i]?=some (some w'):=h2
   have hi:i<src.length:=by
    unfold bW at h2
    have:=(List.getElem?_eq_some_iff.mp h2).1
    simpa using this
   have h2':((src[i]).bind λj=>(σ[j]?).join)=some w':=by
    unfold bW at h2
    rw[List.getElem?_map,List.getElem?_eq_getElem hi]at h2
    exact Option.some.inj h2
   cases es:src[i]with
   |none=>rw[es]at h2'; cases h2'
   |some j =>
    rw[es]at h2'
    have hj : σ[j]?=some (some w'):=by
     have z:(σ[j]?).join=some w':=h2'
     cases q : σ[j]? with
     |none=>rw[q]at z; cases z
     |some o=>rw[q]at z; have z':o=some w':=z; rw[z']
    have hz:(y,some j)∈(x::Ns).zip (none::src):=by
     refine List.mem_of_getElem? (i:=i+1) ?_
     rw[List.getElem?_zip_eq_some]
     exact⟨by simpa using h1,by simp[List.getElem?_eq_getElem hi,es]⟩
    obtain⟨u1,u2⟩:=S.c.up _ hz j rfl
    have m:(y,NameKind.free)∈scope.names:=PySem.mem_of_lookup u2
    have kx:=S.c.free _ m rfl
    obtain⟨m0,hn0,hl0⟩:=id I.loc
    obtain⟨u',r,lk⟩:=hl0 j y w' u1 hj (kx.elim (λz=>.inr (.inl z)) λz=>.inr (.inr z))
    refine⟨u',r,?_⟩
    rcases lk with⟨k,_⟩|⟨_,c,e,ic⟩
    .have k':X.env.scope.names.lookup y=some .local:=k
     rcases kx with z|z <;> (rw[z]at k'; cases k')
    .refine .inr ⟨.inr u2,c,?_,?_⟩
     .have q:=qg (cells:=X.env.cells) (acc:=[]) (.inr ⟨m,by rw[e]; rfl⟩)
      obtain⟨c',e'⟩:=Option.isSome_iff_exists.mp q
      have e2:=vD y c' e'
      rw[e]at e2; cases e2
      exact e'
     .obtain⟨o,ho,hd⟩:=ic
      exact⟨o,old _ _ ho,hd⟩
 .obtain⟨v,o,ho,hd⟩:=I.cell y c (vD y c e)
  exact⟨v,o,old _ _ ho,hd⟩
 .have:=S.c.len
  show _=(x::Ns).length
  rw[List.length_cons]at this ⊢
  rw[List.length_cons]
  unfold bW
  rw[List.length_map]
  exact this
theorem aeQ(hsc:X.env.scope=sc)(eU:X.N=No)(S:z7 sc No x Ns src scope)(hfr:A.frames=some X.stack)(hhd:A.handled=none)(hroom:A.depth<recursionLimit)
  (I:Inv X pins σ H s) (ho:s.heap.get? f=some (kla_obj "<lambda>" qual params body scope (bM X.env.cells scope.names []) pm c' ctv)) (hcd:s.heap.CodeRec (.ref c') qual) (rv:RelV v u)
  (hbind:bindArgs (kla_fn "<lambda>" qual params body scope (bM X.env.cells scope.names []) pm (.ref c') ctv) ⟨[u],[]⟩=pure [(x,u)])
  (he:∀s H,PE (z6 X A (x::Ns) qual scope f (.ref c') s H) body te) (hq:te (some v::bW src σ) H Q):wpAny (model X.prog X.w) A (call (.ref f) [u]) (EP X pins σ Q) E s:=by
 refine wpAny_call (kla_callFunE hroom ho rfl S.co S.gen rfl hcd ?_)
 rw[hbind]
 refine wpAny_pure (wpAny_newFunctionEnv S.RQ (λy hy=>?_) (λh₁ hns hsb=>⟨I.nolimit.fresh _ hsb,?_⟩) S.c.kind)
 .have:y=(x,u):=by simpa using hy
  subst this
  exact S.par
 have old:=λb o e=>hsb.extBut b o (Nat.ne_of_lt (Heap.lt_size e)) (Heap.get?_push_of_some _ e)
 have J:=aeP (A:=A) (f:=f) (cd:=.ref c') (qual:=qual) (tk:=s.toks+[(x,u)].length) hsc eU S hfr hhd I rv hns old
 refine kla_codeExpr (wpAny_mono (he s H [] _ _ H Q J hq) (λw' s' hw=>?_) λ_ _ z=>z.elim)
 obtain⟨v',H',J',r',q'⟩:=hw
 exact⟨v',H',I.call' (ch:=[]) J'.os J'.base J'.hok J'.bare (λb hb=>absurd hb (by simp)),r',q'⟩
end
def mW(mg:Str→Option Value)(base:Heap):Prop:=∃bm ob,mg "__builtins__" = some (.ref bm)∧bm≠builtinsNs∧bm≠mainGlobals∧base.get? bm=some ob∧ob.cls=.type "module" ∧ ob.dict=some builtinsNs∧ob.data=.plain
theorem RT:∀{l:List Value},TriplesOk l->TriplesOk (l++[.int a t,.int b u,c])
 | [],_=>trivial
 |.int _ _ :: .int _ _::_::r,h=>RT (l:=r) h
theorem RV:∀{l:List Value},TriplesOk l->codeAmong pos (l++[.int a t,.int b u,c])=some v->codeAmong pos l=some v\/v=c
 | [],_,h=>by
  have h:(if _ then some c else none)=some v:=h
  split at h
  .cases h; exact .inr rfl
  .cases h
 |.int x _ :: .int y _::z::r,o,h=>by
  have h:(if(x == pos.line&&y == pos.col)=true then some z else codeAmong pos (r++[.int a t,.int b u,c]))=some v:=h
  show(if(x == pos.line&&y == pos.col)=true then some z else codeAmong pos r)=some v\/_
  split at h
  .rename_i q
   rw[if_pos q]
   exact .inl h
  .rename_i q
   rw[if_neg q]
   exact RV (l:=r) o h
section
variable {X:Cx}{pins:LO}{σ : St}{H:Hp}{s:Shared}{sc scope:Scope}{No Ns:List Str}{src:List (Option Nat)}{x:Str}
structure z8(P:Addr)(q:Str)(H H':Hp):Prop where
 kp:∀b o,H b=some o->b≠P->H' b=some o
 tb:∃ps,H' P=some (.cF ps)/\zf H' q ps
theorem aeR(hsc:X.env.scope=sc)(S:z7 sc No x Ns src scope)(hcode:X.env.code=.ref c)(C:CodeHd X.base c P)(B:mW X.mg X.base)
  (hdef:defaultsOf params X.env=([],[])) (I:Inv X pins σ H s) (hP:H P=some (.cF ps)) (ok:zf H (X.env.qual++("<lambda>" : Str)) ps)
  (h:∀f c' ctv pm H' s' oc,z8 P (X.env.qual++("<lambda>" : Str)) H H'→Inv X ((f,kla_obj "<lambda>" (X.env.qual++("<lambda>" : Str)) params body scope (bM X.env.cells scope.names []) pm c' ctv)::pins) σ H' s'→H' c'=some (.cV oc (.own 0))→Rg oc (X.env.qual++("<lambda>" : Str))→Q (.ref f) s') :
  wpAny (model X.prog X.w) A (eval (.Lambda params body scope pos) X.env) Q E s:=by
 have hcl:closureFor scope X.env=pure (bM X.env.cells scope.names []):=uU λy hy e=>by
  have k:=S.c.free y hy e
  rw[<-hsc]at k
  obtain⟨c,q⟩:=I.ok.has y.1 k
  rw[q]; rfl
 have oP:s.heap.get? P=some (tabObj ps):=I.hok P _ hP
 have nP:mainGlobals≠P:=λz=>by
  obtain⟨o,es,ep,e,hd,_⟩:=I.ok.mod.glob
  have:=(I.bs _ _ e).2
  rw[z,hP]at this
  cases this
 have hg:s.heap.Ns mainGlobals X.mg:=let⟨o,es,ep,e,r⟩:=I.ok.mod.glob; ⟨o,es,ep,I.bk _ _ e,r⟩
 have hB:s.heap.BuiltinsAt X.mg P:=by
  obtain⟨bm,ob,b1,b2,b3,b4,b5,b6,b7⟩:=B
  refine⟨bm,ob,b1,b2,b3,λz=>?_,I.bk _ _ b4,b5,b6,b7⟩
  have:=(I.bs _ _ b4).2
  rw[z,hP]at this
  cases this
 have C':CodeHd s.heap c P:=C.keeps I.bk
 refine kla_eval hdef ?_
 cases hf:codeAmong pos ps.toList with
 |some cv =>
  obtain⟨c',oc,rfl,e1,e2⟩:=ok.2 pos cv hf
  refine kla_makeFunctionHit (mg:=X.mg) hcl I.ok.glob hg hcode C' oP ok.1 hf hB λctv h' tk keep hsz=>?_
  have I1:Inv X pins σ H {s with heap:=h',toks:=tk }:=I.kept keep
  have I2:Inv X pins σ H {s with heap:=h'.push (kla_obj "<lambda>" (X.env.qual++("<lambda>" : Str)) params body scope (bM X.env.cells scope.names []) ((X.mg "__name__").getD .none) c' ctv),toks:=tk }:=I1.kept (t':=tk) λb o e=>Heap.get?_push_of_some _ e
  refine h _ c' ctv _ H _ oc ⟨λ_ _ q _=>q,ps,hP,ok⟩ (I2.lD (I1.jg (Nat.le_refl _) (I1.hok.fresh (Nat.le_refl _))) (Heap.get?_push_size _ rfl) (λv z=>by cases z)) e1 e2
 |none =>
  refine kla_makeFunction (mg:=X.mg) hcl I.ok.glob hg hcode C' oP ok.1 hf nP hB λc' ctv h' tk ext hge hlt hrec htb=>?_
  obtain⟨c2,oc,vs,t,e2,hoc,hd,hv⟩:=hrec
  cases e2
  have nc:H c'=none:=I.hok.fresh hge
  have cP:c'≠P:=λz=>by rw[z,hP]at nc; cases nc
  have ne:∀b u,H b=some u->b≠c':=λb u q=>iC q nc
  have up:∀b u,H b=some u->b≠P->(upd (upd H P (.cF (ps ++ #[rawInt pos.line,rawInt pos.col,.ref c']))) c' (.cV oc (.own 0))) b=some u:=λb u q z=>by rw[aJ (ne b u q),aJ z]; exact q
  have GZ:(upd (upd H P (.cF (ps ++ #[rawInt pos.line,rawInt pos.col,.ref c']))) c' (.cV oc (.own 0))) P=some (.cF (ps ++ #[rawInt pos.line,rawInt pos.col,.ref c'])):=by rw[aJ (Ne.symm cP)]; exact bY
  have keep:∀b o,b≠P->s.heap.get? b=some o->h'.get? b=some o:=λb o z e=>ext b o z e
  have hok:cH X.prog X.w (upd (upd H P (.cF (ps ++ #[rawInt pos.line,rawInt pos.col,.ref c']))) c' (.cV oc (.own 0))) h':=λb u q=>by
   by_cases z1:b=c'
   .subst z1
    rw[bY]at q
    cases q
    exact⟨hoc,oc,hoc⟩
   .by_cases z2:b=P
    .subst z2
     rw[GZ]at q
     cases q
     exact htb
    .rw[aJ z1,aJ z2]at q
     refine(I.hok b u q).stay (λd v hd' e=>keep d v ?_ e) (λd z=>up d _ z ?_) λd ys z=>up d _ z ?_
     .rcases hd' with rfl|hd'
      .exact z2
      .rintro rfl
       rw[hP]at hd'
       cases hd'
     .rintro rfl
      rw[hP]at z
      cases z
     .rintro rfl
      rw[hP]at z
      cases z
  have rJ:∀b,H b=none->b≠P:=λb n z=>by rw[z,hP]at n; cases n
  have I1:Inv X pins σ (upd (upd H P (.cF (ps ++ #[rawInt pos.line,rawInt pos.col,.ref c']))) c' (.cV oc (.own 0))) {s with heap:=h',toks:=tk } :=
   I.step (h':=h') (g':=s.gens) (d':=s.drawn) (t':=tk) (ch:=[]) (λ_ z=>nomatch z) (λb o _ _ _ e n=>keep b o (rJ b n) e) (λb o _ _ _ e n=>⟨o.slots,keep b o (rJ b n) e⟩)
    (λb o _ e n=>by
     rw[aJ (λz=>by rw[z]at e; exact absurd (Heap.lt_size e) (Nat.not_lt.mpr hge)),aJ (rJ b n)]; exact n)
    (λb o _ e=>by
     by_cases z:b=P
     .subst z; exact⟨_,htb⟩
     .exact⟨o,keep b o z e⟩)
    (λb ys q=>up b _ q (by rintro rfl; rw[hP]at q; cases q)) (λb o u q=>up b _ q (by rintro rfl; rw[hP]at q; cases q))
    (λb qs q=>by
     by_cases z:b=P
     .subst z
      rw[hP]at q
      cases q
      exact⟨_,GZ⟩
     .exact⟨#[],by rw[up b _ q z]; simp⟩)
    (λm q=>q.extBut ext (rJ _ I.free)) hok I.bare
  have I2:=I1.kept (t':=tk) (h':=h'.push (kla_obj "<lambda>" (X.env.qual++("<lambda>" : Str)) params body scope (bM X.env.cells scope.names []) ((X.mg "__name__").getD .none) c' ctv)) λb o e=>Heap.get?_push_of_some _ e
  refine h _ c' ctv _ _ _ oc ⟨up,_,GZ,?_,λpos' v q=>?_⟩ (I2.lD (I1.jg (Nat.le_refl _) (I1.hok.fresh (Nat.le_refl _))) (Heap.get?_push_size _ rfl) (λv z=>by cases z)) bY ⟨vs,t,hd,hv⟩
  .have:(ps ++ #[rawInt pos.line,rawInt pos.col,.ref c']).toList=ps.toList++[rawInt pos.line,rawInt pos.col,.ref c']:=by simp
   rw[this]
   exact RT ok.1
  .have:(ps ++ #[rawInt pos.line,rawInt pos.col,.ref c']).toList=ps.toList++[rawInt pos.line,rawInt pos.col,.ref c']:=by simp
   rw[this]at q
   rcases RV ok.1 q with q|q
   .obtain⟨d,o,z1,z2,z3⟩:=ok.2 pos' v q
    exact⟨d,o,z1,up d _ z2 (by rintro rfl; rw[hP]at z2; cases z2),z3⟩
   .exact⟨c',oc,q,bY,vs,t,hd,hv⟩
end
abbrev KW:=Hp->V->Int × Int->Prop
def z9:KW:=λ_ v k=>v=.int k.1/\k.2=0
def RW(Kw:KW)(P:Addr)(q:Str)(src:List (Option Nat))(ta:TA)(te:TE):TE:=λσ H Q=>ta σ H λvs H1=>∃(n:Nat) (kz:Nat->Int × Int),vs=[.int n]/\n<64/\(∃ps,H1 P=some (.cF ps)/\zf H1 q ps)/\∀H2,z8 P q H1 H2 ->
 (∀(i:Nat),i<n->∀H3,Same H2 H3->te (some (.int i)::bW src σ) H3 λv H4=>Kw H4 v (kz i)/\Same H3 H4)/\∀D (ys:List Nat) H3,Same H2 H3->H3 D=none->mU n kz ys->Q (.ref D) (upd H3 D (.lst (ys.map λi:Nat=>V.int i)))
section
variable {X:Cx}{sc scope:Scope}{No Ns:List Str}{src:List (Option Nat)}{x:Str}{Kw:KW}{kd:SortKind}
theorem aeS(T:mV X (λH u k=>∃v,RelV v u/\Kw H v k) kd)(mono:∀{H H':Hp} {v k},Same H H'->Kw H v k->Kw H' v k)(inj:∀{pins:LO} {σ : St} {H:Hp} {s:Shared},Inv X pins σ H s->∀u k k',(∃v,RelV v u/\Kw H v k)->(∃v,RelV v u/\Kw H v k')->k=k')
  (hr:dK k X.A) (h1:X.mg "sorted" = none) (h2:X.mg "range" = none) (hsc:X.env.scope=sc) (eU:X.N=No) (S:z7 sc No x Ns src scope) (hcode:X.env.code=.ref c) (C:CodeHd X.base c P) (B:mW X.mg X.base) (hdef:defaultsOf params X.env=([],[]))
  (ha:PA X [e] ta) (hbind:∀(pm cd ctv u:Value),bindArgs (kla_fn "<lambda>" (X.env.qual++("<lambda>" : Str)) params body scope (bM X.env.cells scope.names []) pm cd ctv) ⟨[u],[]⟩=pure [(x,u)])
  (he:∀A f cd s H,PE (z6 X A (x::Ns) (X.env.qual++("<lambda>" : Str)) scope f cd s H) body te)
  (hg:X.env.kindOf "sorted" = some .globalImplicit:=by kernel_rfl) (hg2:X.env.kindOf "range" = some .globalImplicit:=by kernel_rfl) (hs:notStar e=true:=by kernel_rfl) :
  PE X (.Call (.Name "sorted" p) [.Call (.Name "range" p2) [e] [] pos2] [⟨some (Str.ofString "key"),.Lambda params body scope anl,kp⟩] pos) (RW Kw P (X.env.qual++("<lambda>" : Str)) src ta te):=by
 refine⟨λpins s σ H Q I h=>?_⟩
 refine wpAny_Call_Name_kw (jT I hg h1 (by decide +kernel:bootBuiltins "sorted" = some (.builtin "sorted")) ?_ (by decide +kernel) (by kernel_rfl))
 refine callWith_kw (Calls.spliced_cons (wpAny_Call_Name_kw (jT I hg2 h2 boot_range (PyProof.Rows.callWith_type1 (aC (ha pos2 pins s σ H _ I h) λus s1 ⟨vs,H1,I1,r1,q1⟩=>?_) (eY hs) rfl) (by decide +kernel) (by kernel_rfl))))
 obtain⟨n,kz,rfl,h64,⟨ps,hP,ok⟩,hq⟩:=q1
 obtain⟨u1,rfl,t1,rfl⟩:=vals1 r1
 refine call_range_1 ?_
 have rfp:=I1.jg (Nat.le_refl _) (I1.hok.fresh (Nat.le_refl _))
 have I2:Inv X pins σ H1 {s1 with heap:=s1.heap.push {cls:=.type "range",data:=.fields #[.int 0 s1.toks,.int n t1,.int 1 (s1.toks+1)] },toks:=s1.toks+1+1 }:=I1.kept λb o e=>Heap.get?_push_of_some _ e
 have I3:=I2.lD rfp (Heap.get?_push_size _ rfl) (λv z=>by cases z)
 refine Calls.spliced_nil ?_
 refine kws_cons (aeR hsc S hcode C B hdef I3 hP ok λf c' ctv pm H2 s2 oc lh I4 e1 e2=>?_)
 refine kws_nil ?_
 have pr:=I4.pin _ (List.mem_append_right _ (List.mem_cons_of_mem _ (List.mem_cons_self ..)))
 obtain⟨key,fin⟩:=hq H2 lh
 refine aeO T (λ{H H' u k} sm ⟨v,a1,a2⟩=>⟨v,a1,mono sm a2⟩) inj I4 hr.hd pr.1 h64 (λjf i t s' H' hi sub sm I'=>?_) λs' D ys H3 sm nD I' hs'=>⟨.ref D,_,I'.sub λp hp=>List.mem_cons_of_mem _ (List.mem_cons_of_mem _ hp),rfl,fin D ys H3 sm nD hs'⟩
 have pf:=I'.pin _ (List.mem_append_right _ (sub _ (List.mem_cons_self ..)))
 have hcd:s'.heap.CodeRec (.ref c') (X.env.qual++("<lambda>" : Str)):=by
  obtain⟨vs,t,a1,a2⟩:=e2
  exact⟨c',oc,vs,t,rfl,(I'.hok c' _ (sm _ _ e1)).1,a1,a2⟩
 refine aC (aeQ (A:=X.A.in1.in1) (v:=.int i) (te:=te) (Q:=λv H4=>Kw H4 v (kz i)/\Same H' H4) hsc eU S I.ok.frames hr.hd hr.depth I' pf.1 hcd ⟨t,rfl⟩ (hbind _ _ _ _) (λs H=>he _ _ _ _ _) (key i hi H' sm)) λu s'' ⟨v,H4,GX,rv,q1,q2⟩=>⟨H4,q2,⟨v,rv,q1⟩,GX⟩
theorem aeT:mV X (λH u k=>∃v,RelV v u/\z9 H v k) oneType' where
 kind:=λH keys kz h2 hk pins σ s Q E I q=>RL.kind H keys kz h2 (λi v e=>by
  obtain⟨w,r,rfl,z⟩:=hk i v e
  obtain⟨t,rfl⟩:=r
  exact⟨t,rfl,z⟩) I q
 ask:=λa₀ kf I h=>RL.ask a₀ kf I λp hp=>by
  obtain⟨w,r,z1,z⟩:=h p hp
  subst z1
  obtain⟨t,r⟩:=r
  exact⟨t,r,z⟩
theorem aeU(_:Inv X pins σ H s)(u:Value)(k k':Int × Int)(h:∃v,RelV v u/\z9 H v k)(h':∃v,RelV v u/\z9 H v k'):k=k':=by
 obtain⟨v,r,rfl,z⟩:=h
 obtain⟨v',r',rfl,z'⟩:=h'
 obtain⟨t,rfl⟩:=r
 obtain⟨t',r'⟩:=r'
 injection r' with r' _
 exact Prod.ext r' (z.trans z'.symm)
end
def sJ(K:FZ)(mg:Str->Option Value)(x:Str)(st:Stmt)(c:Addr):Prop:=∃f fd,qe K x x st f fd/\mg x=some (.ref f)/\fd.code=.ref c
section
variable {P:Program}{w:World}{K:FZ}{mg:Str->Option Value}{base:Heap}
theorem sJ.aeV{c:Addr}{k:Nat}{x:Str}{st:Stmt}{N ps:List Str}{sp:Sp}(a:sJ K mg x st c)(S:rM N ps (bV st))
  (hb:∀(kV doc pm:Value) (an:Option Addr) (cdv ct:Value) (us:List Value),us.length=ps.length->bindArgs (fnOf x x (jV st) (gD st) (bV st) .none kV doc pm an cdv ct) ⟨us,[]⟩=pure (ps.zip us))
  (len:∀vs H Q E,sp vs H Q E->vs.length=ps.length)
  (hbody:∀(f:Addr) (A:Around) (outer:List Env) (s:Shared) (H:Hp) (vs:List V) (Q:VK) (E:XK),dK k (A.deeper (envOfC x (bV st) s.heap.objs.size f (.ref c)))->sp vs H Q E ->
   ∃t,eO (iH (gH P w) P w K mg base N x (bV st) f (.ref c) A outer s H E) (gD st) t/\t {nx:=λ_ H'=>Q .non H',rt:=Q } (start N vs) H):jA P w K mg base (k+1) x ps sp:=by
 obtain⟨f,fd,F,m,hc⟩:=a
 refine⟨f,fd,?_,F.binds hb,F.kp,m⟩
 obtain⟨oc,od,kV,doc,pm,an,cdv,ct,osl,rfl,lk,hcd⟩:=F.ex
 have hc:cdv=.ref c:=hc
 subst hc
 exact Qk lk hcd S len λA outer s H vs Q E hr h=>hbody f A outer s H vs Q E hr h
end
theorem G8{o:Obj}(h:(o.cls == .type "list")=false):bZ o=o:=by
 unfold bZ
 rw[if_neg]
 rintro⟨z,_⟩
 rw[z]at h
 exact absurd h (by decide +kernel)
theorem aeW{K:FZ}{x:Str}{o:Obj}(h:K.lookup mainGlobals=some o)(n:(o.cls == .type "list")=false):nsIn (au K) mainGlobals x=nsIn K mainGlobals x:=by
 have e:(au K).lookup mainGlobals=K.lookup mainGlobals:=by
  rw[jB,h]
  show some (bZ o)=some o
  rw[G8 n]
 unfold nsIn
 rw[e]
theorem Hf{K:FZ}{x:Str}{f c P:Addr}{oc:Value}{od:Option Addr}{fd:FuncData}{sl:Array (Option Value)}{cc:Value}{cd:Option Addr}{vs:Array Value}{cs:Array (Option Value)}(a:nsIn K mainGlobals x=some (some (.ref f)))(l2:K.lookup f=some ⟨oc,od,.func fd,sl⟩)(hc:fd.code=.ref c)(l3:K.lookup c=some ⟨cc,cd,.fields vs,cs⟩)(hv:vs[11]?=some (.ref P)):tabIn K x=some (c,P):=by
 unfold tabIn
 rw[a]
 dsimp only
 rw[l2]
 dsimp only
 rw[hc]
 dsimp only
 rw[l3]
 dsimp only
 rw[hv]
theorem RX{A B:Prop}(h:A/\B):A/\B:=h
theorem Hg{o:Obj}{d:Data}(h:(bZ o).data=d)(n:d ≠ .fields #[]):bZ o=o:=by
 unfold bZ at h ⊢
 split at h
 .exact(n h.symm).elim
 .rename_i q
  rw[if_neg q]
theorem RZ{K:FZ}{x:Str}{z:Addr × Addr}(h:tabIn (au K) x=some z):tabIn K x=some z:=by
 unfold tabIn at h
 split at h
 .rename_i f hf
  have g1:nsIn K mainGlobals x=some (some (.ref f)):=by
   unfold nsIn at hf
   rw[jB]at hf
   cases e:K.lookup mainGlobals with
   |none=>rw[e]at hf; cases hf
   |some o =>
    rw[e]at hf
    unfold nsIn
    rw[e]
    have q:bZ o=o:=by
     dsimp only[Option.map]at hf
     split at hf
     .rename_i a b es ep c eq
      have eq:bZ o=⟨a,b,.dict es ep,c⟩:=Option.some.inj eq
      exact Hg (d:=.dict es ep) (by rw[eq]) (by intro z; cases z)
     .cases hf
    dsimp only[Option.map]at hf
    rw[q]at hf
    exact hf
  split at h
  .rename_i a b fd osl hfo
   have g2:K.lookup f=some ⟨a,b,.func fd,osl⟩:=by
    rw[jB]at hfo
    cases e:K.lookup f with
    |none=>rw[e]at hfo; cases hfo
    |some o =>
     rw[e]at hfo
     have eq:bZ o=⟨a,b,.func fd,osl⟩:=Option.some.inj hfo
     rw[Hg (d:=.func fd) (by rw[eq]) (by intro z; cases z)]at eq
     rw[eq]
   split at h
   .rename_i c hc
    split at h
    .rename_i a' b' vs R0 hco
     split at h
     .rename_i Pp hv
      cases h
      have g3:K.lookup c=some ⟨a',b',.fields vs,R0⟩:=by
       rw[jB]at hco
       cases e:K.lookup c with
       |none=>rw[e]at hco; cases hco
       |some o =>
        rw[e]at hco
        have eq:bZ o=⟨a',b',.fields vs,R0⟩:=Option.some.inj hco
        rw[Hg (d:=.fields vs) (by rw[eq]) (by intro z; injection z with z; subst z; simp at hv)]at eq
        rw[eq]
      exact Hf g1 g2 hc g3 hv
     .cases h
    .cases h
   .cases h
  .cases h
 .cases h
structure vH(K:FZ)(mg:Str->Option Value)(base:Heap)(x:Str)(c P:Addr):Prop where
 nm:x∈eZ
 hd:CodeHd base c P
 bm:mW mg base
 tab:tabIn (au K) x=some (c,P)
 un:∀x'∈eZ,∀c',tabIn (au K) x'=some (c',P)->x'=x
theorem Aa{K:FZ}{x:Str}{f c P:Addr}{o1:Obj}{oc:Value}{od:Option Addr}{fd:FuncData}{sl:Array (Option Value)}{cc:Value}{cd:Option Addr}{vs:Array Value}{cs:Array (Option Value)}(a:nsIn K mainGlobals x=some (some (.ref f)))(l1:K.lookup mainGlobals=some o1)(n1:(o1.cls == .type "list")=false)
  (l2:K.lookup f=some ⟨oc,od,.func fd,sl⟩) (n2:(oc == .type "list")=false) (hc:fd.code=.ref c) (l3:K.lookup c=some ⟨cc,cd,.fields vs,cs⟩) (n3:(cc == .type "list")=false) (hv:vs[11]?=some (.ref P)):tabIn K x=some (c,P)/\tabIn (au K) x=some (c,P):=⟨Hf a l2 hc l3 hv,Hf ((aeW l1 n1).trans a) (by rw[jB,l2,Option.map_some,G8 n2]) hc (by rw[jB,l3,Option.map_some,G8 n3]) hv⟩
theorem aeX{K:FZ}{x:Str}(a:nsIn K mainGlobals x=some none):tabIn K x=none:=by
 unfold tabIn
 rw[a]
theorem R3{K:FZ}{mg:Str->Option Value}{base:Heap}{x:Str}{c P:Addr}(nm:x∈eZ)(hc:∀x∈eZ,∀c b,tabIn K x=some (c,b)->CodeHd base c b)(bm:mW mg base)(q:tabIn K x=some (c,P)/\tabIn (au K) x=some (c,P))(ho:∀x'∈eZ,x'=x\/∀c',tabIn K x'≠some (c',P)):vH K mg base x c P :=
 ⟨nm,hc x nm c P q.1,bm,q.2,λx' hx' c' e=>(ho x' hx').elim id λz=>(z c' (RZ e)).elim⟩
end L2
end
section
namespace L2
open PySem PySem.Spec PyProof.Rows
abbrev FP:=List Tr->Rs (Tr × Bool)
abbrev Ab:List Value:=[.type "ValueError",.type "Exception",.type "BaseException",.type "object"]
noncomputable abbrev tx(cl:Str->Addr)(E:XK)(X:Cx):Tx:=⟨au X.K,λc H'=>E (.ref (cl c)) none H'⟩
def oW(K:FZ)(cl:Str->Addr)(n:Nat)(f:FP):Sp:=λvs H Q E=>∃G ts,vs.length=n/\aq (au K) G vs ts/\Same G H/\bN (au K) H/\(∀b,Tb (au K) b->G b=none) /\
 bJ ⟨au K,λc H'=>E (.ref (cl c)) none H'⟩ H (λ_=>[]) (f ts) λp=>∀v G' H',Gw (au K) G H G' H'->VN (au K) H G' H' v p.1 p.2->Q v H'
structure Vw(K:FZ)(R:Addr->Prop)(Hs:Hp)(Fs:Fp)(G H:Hp)(F:Fp)(vs:List V)(Ts:List Tr)(bs:List Addr):Prop where
 nd:bs.Nodup
 al:∀b∈bs,(Hs b=none\/Fn Fs b)/\¬Fn F b/\¬R b/\G b=none
 dr:DR K G H vs Ts bs
def Ac(K:FZ)(cl:Str->Addr)(n:Nat)(f:FP):Sp:=λvs H Q E=>∃G ts,vs.length=n/\aq (au K) G vs ts/\Same G H/\bN (au K) H/\(∀b,Tb (au K) b->G b=none) /\
 bJ ⟨au K,λc H'=>E (.ref (cl c)) none H'⟩ H (λ_=>[]) (f ts) λp=>∀v G' H',Gw (au K) G H G' H'->(∃bs,Vw (au K) (λ_=>False) H (λ_=>[]) G' H' (λ_=>[]) [v] [p.1] bs)->Q v H'
def Gk(K:FZ)(mg:Str->Option Value)(x:Str)(v:V)(T:Tr):Prop:=∃u,mg x=some u/\RelV v u/\∀H,Rep (au K) H v T
inductive Ey
 |fn (x:Str) (ps:List Str) (f:FP) (l:Nat)
 |fd (x:Str) (ps:List Str) (f:FP) (l:Nat)
 |gk (x:Str) (T:Tr)
structure Cc where
 P:Program
 w:World
 K:FZ
 mg:Str->Option Value
 base:Heap
 cl:Str->Addr
def Ey.lE(c:Cc):Ey->Prop
 |.fn x ps f l=>jA c.P c.w c.K c.mg c.base l x ps (oW c.K c.cl ps.length f)
 |.fd x ps f l=>jA c.P c.w c.K c.mg c.base l x ps (Ac c.K c.cl ps.length f)
 |.gk x T=>∃v,Gk c.K c.mg x v T
abbrev Ey.ok(cl:Str->Addr)(X:Cx)(y:Ey):Prop:=y.lE ⟨X.prog,X.w,X.K,X.mg,X.base,cl⟩
structure Gx where
 N:List Str
 sc:Scope
 fn:Str->Bool
 B:List Str
 R:List Str
 nx:Bool
 k:Nat
 L:List Str
structure Ox(cl:Str->Addr)(Γ : Gx)(E:XK)(X:Cx):Prop where
 N:X.N = Γ.N
 s:X.env.scope = Γ.sc
 d:X.N.Nodup
 l:X.calm=true
 r:dK Γ.k X.A
 e:Passes (gH X.prog X.w) X E
 B:∀x∈Γ.B,X.mg x=none
 R:∀x∈Γ.R,OwnCls x (cl x) Ab "ValueError.__new__" X.mg X.base/\Raises X E
 x:mG X.K
 f:X.fn = Γ.fn
 n : Γ.nx=true->X.xe=λ_ _=>False
 lm:∀x∈Γ.L,∃c P,vH X.K X.mg X.base x c P/\X.env.code=.ref c/\X.env.qual++("<lambda>" : Str)=yZ x
structure Vn{τ : Type}(J:(Str->Addr)->XK->Cx -> τ -> Prop) where
 ck:Gx -> τ -> Bool
 cs:List Ey
 ok:∀{cl E Γ X e},(∀y∈cs,y.ok cl X)->Ox cl Γ E X->ck Γ e=true->J cl E X e
abbrev VE(f:EF):=Vn λcl E X e=>PE X e (Te (tx cl E X) f)
abbrev VT(f:BF):=Vn λcl E X e=>PT X e (Tt (tx cl E X) f)
abbrev VO(f:OF):=Vn λcl E X e=>PO X e (To (tx cl E X) f)
abbrev VA(f:AF):=Vn λcl E X e=>PA X e (Ta (tx cl E X) f)/\(∀ρ p,f ρ=.ok p->p.1.length=e.length)/\∀x∈e,notStar x=true
theorem an{a b:Bool}:(a&&b)=true↔a=true/\b=true:=by simp
theorem ml{P:Ey->Prop}{l m:List Ey}(h:∀y∈l++m,P y):∀y∈l,P y:=λy q=>h y (List.mem_append_left _ q)
theorem mr{P:Ey->Prop}{l m:List Ey}(h:∀y∈l++m,P y):∀y∈m,P y:=λy q=>h y (List.mem_append_right _ q)
theorem PT.imp(h:PT X e t)(i:∀σ H Q,u σ H Q->t σ H Q):PT X e u:=⟨λpins s σ H Q I q=>h pins s σ H Q I (i σ H Q q)⟩
theorem PO.imp(h:PO X e t)(i:∀σ H Q,u σ H Q->t σ H Q):PO X e u:=λpins s σ H Q I q=>h pins s σ H Q I (i σ H Q q)
noncomputable def bx(i:Nat):EF:=λρ=>match ρ[i]? with
 |some (.sh T)=>.ok (.v T false,ρ)
 |some (.ow _)=>.ok (.s i,ρ)
 |some (.rf _)=>.ok (.s i,ρ)
 |_=>.bad
noncomputable def jY(Γ : Gx)(i:Nat)(x:Str):Bool := Γ.N[i]? == some x&&(Γ.sc.names.lookup x == some .local || Γ.sc.names.lookup x == some .cell || Γ.sc.names.lookup x == some .free) && !(x == ("__debug__" : Str)) && !(x == ("__classdict__" : Str))
theorem qy(o:Ox cl Γ E X)(h:jY Γ i x=true):PE X (.Name x p) (DG i):=by
 simp only[jY,an]at h
 obtain⟨⟨⟨h1,h2⟩,h3⟩,h4⟩:=h
 exact Ou (by rw[o.N]; exact eq_of_beq h1) (by rw[o.s]; unfold uL; simpa[or_assoc]using h2) (by simpa using h3) (by simpa using h4)
theorem aeY(h:Te t (bx i) σ H Q):DG i σ H Q:=by
 obtain⟨R,ρ,G,F,e,h⟩:=h
 have z:=e.sl i
 unfold bx at h
 split at h <;> rename_i k <;> (try exact h.elim) <;> rw[k]at z
 .obtain⟨_,v,h1,h2⟩:=z
  exact⟨v,h1,h v G H F e .refl (.low h2)⟩
 all_goals
  obtain⟨a,xs,h1,_⟩:=z
  exact⟨_,h1,h _ G H F e .refl h1⟩
noncomputable def aj(i:Nat):VE (bx i) where
 ck Γ e:=atName e λx _=>jY Γ i x
 cs:=[]
 ok _ o h:=by
  walk_at "o"
  exact(qy o h).imp λ_ _ _=>aeY
noncomputable def eC(T:Tr):EF:=λρ=>.ok (.v T false,ρ)
theorem vI(r:∀H,Rep t.K H v T)(h:Te t (eC T) σ H Q):tC v σ H Q:=by
 obtain⟨R,ρ,G,F,e,h⟩:=h
 exact h v G H F e .refl (.low (r _))
noncomputable def vC(T:Tr):VE (eC T) where
 ck _ e:=GD e λc _ _=>match T with
  |.int j=>GJ c λi=>decide (i=j)
  |.str j=>GK c λi=>i == j
  |.bl j=>GP c λi=>i == j
  |.non=>GQ c
  |_=>false
 cs:=[]
 ok _ o h:=by
  walk_at "o"
  cases T <;> dsimp only at h
  .walk_at "o"
   exact Ow.imp λ_ _ _=>vI λ_=>.non
  .walk_at "o"
   cases eq_of_beq h; exact Ov.imp λ_ _ _=>vI λ_=>.bl _
  .walk_at "o"
   cases of_decide_eq_true h; exact yr.imp λ_ _ _=>vI λ_=>.int _
  .walk_at "o"
   cases eq_of_beq h; exact Oz.imp λ_ _ _=>vI λ_=>.str _
  all_goals cases h
theorem aeZ(h:(vC (.int m)).ck Γ e=true):∃k p,e=.Constant (.int m) k p:=by
 dsimp only[vC]at h
 walk_at "o"
 cases of_decide_eq_true h
 exact⟨_,_,rfl⟩
noncomputable def jD(Γ : Gx)(x:Str):Bool := Γ.sc.names.lookup x == some .globalImplicit && !(x == ("__debug__" : Str))
theorem cZ(o:Ox cl Γ E X)(h:jD Γ x=true):Gl X x/\(x == ("__debug__" : Str))=false:=by
 simp only[jD,an]at h
 exact⟨by show X.env.scope.names.lookup _=_; rw[o.s]; exact eq_of_beq h.1,by simpa using h.2⟩
noncomputable def vG(x:Str)(T:Tr):VE (eC T) where
 ck Γ e:=atName e λy _=>x == y&&jD Γ x
 cs:=[.gk x T]
 ok g o h:=by
  walk_at "o"
  simp only[an]at h
  cases eq_of_beq h.1
  obtain⟨v,u,h1,h2,h3⟩:=g _ (List.mem_singleton.mpr rfl)
  exact(abp (cZ o h.2).1 h1 h2 (cZ o h.2).2).imp λ_ _ _=>vI h3
section
variable {t:Tx}{R:Addr->Prop}{ρ : En}{σ : St}{G H G0 H0 G' H':Hp}{F F0:Fp}{Q:VK}
theorem Ok.fin(e:Ok t.K R ρ σ G H F)(s:aD t.K G0 H0 F0 G H F)(w:Gw t.K G H G' H')(n:VN t.K H G' H' v T fr)(h:∀v G' H' F',Ok t.K R ρ σ G' H' F'->aD t.K G0 H0 F0 G' H' F'->fB t.K σ H0 G' H' F' v (.v T fr)->Q v H'):Q v H':=by
 obtain⟨e',s'⟩:=e.grow w
 exact h v G' H' F e' (s.trans s') ((n.ok e).back s.dm)
noncomputable def gU(g:G2)(fa fb:EF):EF:=λρ=>(fa ρ).bind λp=>(fb p.2).bind λq=>(dr q.2 p.1).bind λa=>(dr q.2 q.1).bind λb=>(g a b).bind λz=>.ok (.v z.1 z.2,q.2)
theorem Ad(o:cQ t.K r g)(h:Te t (gU g fa fb) σ H Q):uR r (Te t fa) (Te t fb) σ H Q:=by
 obtain⟨R,ρ,G,F,e,h⟩:=h
 refine dN e .refl h λp h x G1 H1 F1 e1 s1 v1=>dN e1 s1 h λq h y G2 H2 F2 e2 s2 v2=>?_
 obtain⟨a,k1,h⟩:=h.okb (gK _ _)
 obtain⟨b,k2,h⟩:=h.okb (gK _ _)
 obtain⟨z,k3,h⟩:=h.okb (o.nx a b)
 refine o.ok G2 H2 x y a b Q e2.sub (fZ e2 (v1.step e1.tb s2) k1) (fZ e2 v2 k2) (by rw[k3]; exact λv G' H' w vn=>e2.fin (s1.trans s2) w.gw vn h)
noncomputable def v2(o:Operator)(r:FZ->R2)(g:G2)(hp:∀X,aY X (binaryOp o) (r X.K))(hs:∀K,cQ (au K) (r K) g)(a:VE aA)(b:VE bO):VE (gU g aA bO) where
 ck Γ e:=zF e λx p y _=>decide (p=o)&&a.ck Γ x&&b.ck Γ y
 cs:=a.cs++b.cs
 ok q O h:=by
  walk_at "o"
  simp only[an]at h
  cases of_decide_eq_true h.1.1
  exact(yD (hp _) (a.ok (ml q) O h.1.2) (b.ok (mr q) O h.2)).imp λ_ _ _=>Ad (hs _)
noncomputable def Hh(g:G1)(fa:EF):EF:=λρ=>(fa ρ).bind λp=>(dr p.2 p.1).bind λa=>(g a).bind λz=>.ok (.v z.1 z.2,p.2)
theorem ae0(o:mL t.K r g)(h:Te t (Hh g fa) σ H Q):Py r (Te t fa) σ H Q:=by
 obtain⟨R,ρ,G,F,e,h⟩:=h
 refine dN e .refl h λp h x G1 H1 F1 e1 s1 v1=>?_
 obtain⟨a,k1,h⟩:=h.okb (gK _ _)
 obtain⟨z,k3,h⟩:=h.okb (o.nx a)
 exact o.ok G1 H1 x a Q e1.sub (fZ e1 v1 k1) (by rw[k3]; exact λv G' H' w vn=>e1.fin s1 w.gw vn h)
noncomputable def R4(a:VE aA):VE (Hh nU aA) where
 ck Γ e:=qu e λaK x _=>iQ aK .USub (a.ck Γ x)
 cs:=a.cs
 ok q O h:=by
  walk_at "o"
  exact(Ei Ej (a.ok q O h)).imp λ_ _ _=>ae0 Ro
noncomputable def iR(fa:EF):BF:=λρ=>(fa ρ).bind λp=>(dr p.2 p.1).bind λa=>(rG a).bind λb=>.ok (b,p.2)
theorem Ae{Q:Bool->Hp->Prop}(h:Tt t (iR fa) σ H Q):ou (Te t fa) σ H Q:=by
 obtain⟨R,ρ,G,F,e,h⟩:=h
 refine dN e .refl h λp h x G1 H1 F1 e1 s1 v1=>?_
 obtain⟨a,k1,h⟩:=h.okb (gK _ _)
 obtain⟨b,k2,h⟩:=h.okb (Rr _)
 exact⟨b,Rw (fZ e1 v1 k1) k2,h G1 H1 F1 e1 s1⟩
noncomputable def Af(fa:EF):BF:=λρ=>(fa ρ).bind λp=>(dr p.2 p.1).bind λa=>(nQ a).bind λb=>.ok (b,p.2)
noncomputable def Hi(f g:BF):BF:=λρ=>(f ρ).bind λp=>if p.1=true then g p.2 else .ok (false,p.2)
noncomputable def Hj(f g:BF):BF:=λρ=>(f ρ).bind λp=>if p.1=true then .ok (true,p.2)else g p.2
noncomputable def Ag(f:BF):BF:=λρ=>(f ρ).bind λp=>.ok (!p.1,p.2)
theorem bJ.go{α : Type}{r:Rs α}{P P' : α -> Prop}(s:aD t.K G0 H0 F0 G H F)(h:bJ t H0 F0 r P)(k:∀a,P a->P' a):bJ t H F r P':=by
 cases r with
 |bad=>exact h
 |ex c=>exact λH' f=>h H' (s.back f)
 |ok a=>exact k a h
theorem Hl(e:Ok t.K R ρ σ G H F)(s:aD t.K G0 H0 F0 G H F)(h:bJ t H0 F0 (f ρ) λp=>∀v G' H' F',Ok t.K R p.2 σ G' H' F'->aD t.K G0 H0 F0 G' H' F'->fB t.K σ H0 G' H' F' v p.1->Q v H'):Te t f σ H Q :=
 ⟨R,ρ,G,F,e,h.go s λp h v G' H' F' e' s' v'=>h v G' H' F' e' (s.trans s') (v'.back s.dm)⟩
theorem R5{Q:Bool->Hp->Prop}(e:Ok t.K R ρ σ G H F)(s:aD t.K G0 H0 F0 G H F)(h:bJ t H0 F0 (f ρ) λp=>∀G' H' F',Ok t.K R p.2 σ G' H' F'->aD t.K G0 H0 F0 G' H' F'->Q p.1 H'):Tt t f σ H Q :=
 ⟨R,ρ,G,F,e,h.go s λp h G' H' F' e' s'=>h G' H' F' e' (s.trans s')⟩
theorem ae1{Q:Bool->Hp->Prop}(h:Tt t (Ag f) σ H Q):O4 (Tt t f) σ H Q:=by
 obtain⟨R,ρ,G,F,e,h⟩:=h
 exact oO e .refl h λp h G1 H1 F1 e1 s1=>h G1 H1 F1 e1 s1
theorem ae2{Q:Bool->Hp->Prop}(h:Tt t (Hi f g) σ H Q):OD (Tt t f) (Tt t g) σ H Q:=by
 obtain⟨R,ρ,G,F,e,h⟩:=h
 refine oO e .refl h λp h G1 H1 F1 e1 s1=>?_
 split at h <;> rename_i c
 .rw[if_pos c]; exact R5 e1 s1 h
 .rw[if_neg c]; exact h G1 H1 F1 e1 s1
theorem ae3{Q:Bool->Hp->Prop}(h:Tt t (Hj f g) σ H Q):OJ (Tt t f) (Tt t g) σ H Q:=by
 obtain⟨R,ρ,G,F,e,h⟩:=h
 refine oO e .refl h λp h G1 H1 F1 e1 s1=>?_
 split at h <;> rename_i c
 .rw[if_pos c]; exact h G1 H1 F1 e1 s1
 .rw[if_neg c]; exact R5 e1 s1 h
noncomputable def eB(b:Bool):Rv:=.v (.bl b) false
noncomputable def Ho(f g:EF):EF:=λρ=>(iR f ρ).bind λp=>if p.1=true then g p.2 else .ok (eB false,p.2)
noncomputable def eOr(f g:EF):EF:=λρ=>(iR f ρ).bind λp=>if p.1=true then .ok (eB true,p.2)else g p.2
noncomputable def Hq(f:EF):EF:=λρ=>(iR f ρ).bind λp=>.ok (eB (!p.1),p.2)
noncomputable def vJ(c:BF)(f g:EF):EF:=λρ=>(c ρ).bind λp=>if p.1=true then f p.2 else g p.2
theorem ae4(h:Te t (vJ c f g) σ H Q):O7 (Tt t c) (Te t f) (Te t g) σ H Q:=by
 obtain⟨R,ρ,G,F,e,h⟩:=h
 refine oO e .refl h λp h G1 H1 F1 e1 s1=>?_
 split at h <;> rename_i c
 .rw[if_pos c]; exact Hl e1 s1 h
 .rw[if_neg c]; exact Hl e1 s1 h
theorem ae5(h:Te t (Ho f g) σ H Q):O5 (Te t f) (Te t g) σ H Q:=by
 obtain⟨R,ρ,G,F,e,h⟩:=h
 refine Ae (oO (f:=iR f) e .refl h λp h G1 H1 F1 e1 s1=>?_)
 split at h <;> rename_i c
 .rw[if_pos c]; exact Hl e1 s1 h
 .rw[if_neg c]; exact h _ G1 H1 F1 e1 s1 (.low (.bl _))
theorem ae6(h:Te t (Hq f) σ H Q):O6 (Te t f) σ H Q:=by
 obtain⟨R,ρ,G,F,e,h⟩:=h
 exact Ae (oO (f:=iR f) e .refl h λp h G1 H1 F1 e1 s1=>h _ G1 H1 F1 e1 s1 (.low (.bl _)))
end
noncomputable def R6(a:VE aA):VE (Hq aA) where
 ck Γ e:=qu e λaK x _=>iQ aK .Not (a.ck Γ x)
 cs:=a.cs
 ok q O h:=by
  walk_at "o"
  exact(abz (a.ok q O h)).imp λ_ _ _=>ae6
abbrev VQ(f:EF):=Vn λcl E X e=>PE X e (Te (tx cl E X) f)/\PT X e (Tt (tx cl E X) (iR f))
noncomputable def vK(a:VQ f):VE f:=⟨a.ck,a.cs,λq O h=>(a.ok q O h).1⟩
noncomputable def tK(a:VQ f):VT (iR f):=⟨a.ck,a.cs,λq O h=>(a.ok q O h).2⟩
theorem ou.imp{a b:TE}(i:∀Q,a σ H Q->b σ H Q)(h:ou a σ H Q):ou b σ H Q:=i _ h
structure Cq(g:G2) where
 o:CmpOp
 r:FZ->R2
 p:∀X:Cx,X.A.units+64<cLine->aY X (compareOp o) (r X.K)
 s:∀K,cQ (au K) (r K) g
theorem sS(o:Ox cl Γ E X):X.A.units+64<cLine:=by have:=o.r.un; lia
noncomputable def aW(z:Cq g)(a:VE aA)(b:VE bO):VQ (gU g aA bO) where
 ck Γ e:=vh e λx aK bf _=>aM aK λp bF=>aQ bF (aM bf λy cM=>aQ cM (decide (p=z.o)&&a.ck Γ x&&b.ck Γ y && !behindInMarks p y))
 cs:=a.cs++b.cs
 ok q O h:=by
  walk_at "o"
  simp only[an]at h
  obtain⟨⟨⟨h1,h2⟩,h3⟩,h4⟩:=h
  cases of_decide_eq_true h1
  have pa:=a.ok (ml q) O h2
  have pb:=b.ok (mr q) O h3
  have h4:=(Bool.not_eq_true' _).mp h4
  exact⟨(acp (z.p _ (sS O)) pa pb h4).imp λ_ _ _=>Ad (z.s _),(acq (z.p _ (sS O)) pa pb h4).imp λ_ _ _ h=>ou.imp (λ_=>Ad (z.s _)) (Ae h)⟩
noncomputable def Hr(g g':G2)(fa fb fc:EF):EF:=λρ=>(fa ρ).bind λp=>(fb p.2).bind λq=>(dr q.2 p.1).bind λa=>(dr q.2 q.1).bind λb=>(g a b).bind λz=>(rG z.1).bind λk =>
 if k=true then(fc q.2).bind λs=>(dr s.2 q.1).bind λb=>(dr s.2 s.1).bind λc=>(g' b c).bind λz=>.ok (.v z.1 z.2,s.2)else .ok (eB false,q.2)
theorem R7(o:cQ t.K r g)(o':cQ t.K r' g')(h:Te t (Hr g g' fa fb fc) σ H Q):Ek r r' (Te t fa) (Te t fb) (Te t fc) σ H Q:=by
 obtain⟨R,ρ,G,F,e,h⟩:=h
 refine dN e .refl h λp h x G1 H1 F1 e1 s1 v1=>dN e1 s1 h λq h y G2 H2 F2 e2 s2 v2=>?_
 obtain⟨a,k1,h⟩:=h.okb (gK _ _)
 obtain⟨b,k2,h⟩:=h.okb (gK _ _)
 obtain⟨z,k3,h⟩:=h.okb (o.nx a b)
 obtain⟨k,k4,h⟩:=h.okb (Rr _)
 refine o.ok G2 H2 x y a b _ e2.sub (fZ e2 (v1.step e1.tb s2) k1) (fZ e2 v2 k2) (by
  rw[k3]
  refine λv G3 H3 w vn=>?_
  obtain⟨e3,s3⟩:=e2.grow w.gw
  have Ht:=(s1.trans s2).trans s3
  refine⟨k,Rw (K:=t.K) (G:=G3) (H:=H3) (.inl ?_) k4,?_⟩
  .obtain⟨T,fr⟩:=z
   cases fr
   .exact vn
   .obtain⟨_,_,_,_,rfl,_⟩:=vn; cases k4
  split at h <;> rename_i c
  .rw[if_pos c]
   refine dN e3 Ht h λu h w G4 H4 F4 e4 s4 v4=>?_
   obtain⟨b',k5,h⟩:=h.okb (gK _ _)
   obtain⟨c',k6,h⟩:=h.okb (gK _ _)
   obtain⟨z',k7,h⟩:=h.okb (o'.nx b' c')
   exact o'.ok G4 H4 y w b' c' Q e4.sub (fZ e4 ((v2.step e2.tb s3).step e3.tb s4) k5) (fZ e4 v4 k6) (by rw[k7]; exact λv G' H' w vn=>e4.fin (Ht.trans s4) w.gw vn h)
  .rw[if_neg c]
   exact h _ G3 H3 F2 e3 Ht (.low (.bl _)))
noncomputable def sU(z:Cq g)(z':Cq g')(a:VE aA)(b:VE bO)(d:VE d_f):VQ (Hr g g' aA bO d_f) where
 ck Γ e:=vh e λx aK bf _=>aM aK λp bF=>aM bF λp' cM=>aQ cM (aM bf λy dg=>aM dg λw eV=>aQ eV (decide (p=z.o)&&decide (p'=z'.o)&&a.ck Γ x&&b.ck Γ y&&d.ck Γ w && !lastMarks [p,p'] [y,w]))
 cs:=a.cs++(b.cs++d.cs)
 ok q O h:=by
  walk_at "o"
  simp only[an]at h
  obtain⟨⟨⟨⟨⟨h1,h2⟩,h3⟩,h4⟩,h5⟩,h6⟩:=h
  cases of_decide_eq_true h1
  cases of_decide_eq_true h2
  have pa:=a.ok (ml q) O h3
  have pb:=b.ok (ml (mr q)) O h4
  have pd:=d.ok (mr (mr q)) O h5
  have h6:=(Bool.not_eq_true' _).mp h6
  exact⟨(acr (z.p _ (sS O)) (z'.p _ (sS O)) pa pb pd h6).imp λ_ _ _=>R7 (z.s _) (z'.s _),(acs (z.p _ (sS O)) (z'.p _ (sS O)) pa pb pd h6).imp λ_ _ _ h=>ou.imp (λ_=>R7 (z.s _) (z'.s _)) (Ae h)⟩
noncomputable def dD(a:VT aA):VT (Ag aA) where
 ck Γ e:=qu e λaK x _=>iQ aK .Not (a.ck Γ x)
 cs:=a.cs
 ok q O h:=by
  walk_at "o"
  exact(abw (a.ok q O h)).imp λ_ _ _=>ae1
noncomputable def R8:Expr->Bool
 |.UnaryOp .Not _ _=>false
 |.BoolOp .. => false
 |.IfExp .. => false
 |.Compare .. => false
 |_=>true
theorem ae7(h:R8 e=true):∀whole,isTrue e env whole=(do let v <-whole; standAt e.pos; holding [v] (truthy v)):=by
 intro w
 cases e <;> try cases h
 all_goals first|rfl|skip
 next o _ _=>cases o <;> first|rfl|cases h
noncomputable def dO(a:VE aA):VT (Af aA) where
 ck Γ e:=R8 e&&a.ck Γ e
 cs:=a.cs
 ok q O h:=by
  simp only[an]at h
  refine(acv (a.ok q O h.2) (ae7 h.1)).imp λσ H Q=>bB λR ρ G F e h=>dN e .refl h λp h x G1 H1 F1 e1 s1 v1=>?_
  obtain⟨a,k1,h⟩:=h.okb (gK _ _)
  obtain⟨b,k2,h⟩:=h.okb (aes _)
  exact⟨b,aeu e1.sub (fZ e1 v1 k1) k2,h G1 H1 F1 e1 s1⟩
theorem PW.imp(h:PW X e t)(i:∀σ H Q,u σ H Q->t σ H Q):PW X e u:=⟨λwh pins s σ H Q I q=>h.run wh pins s σ H Q I (i σ H Q q)⟩
abbrev VW(b:BoolOp)(f:BF):=Vn λcl E X e=>∀p,PW X (.BoolOp b e p) (Tt (tx cl E X) f)
noncomputable def w1(b:BoolOp)(a:VT aA):VW b (aA) where
 ck Γ e:=aM e λx aK=>aQ aK (a.ck Γ x)
 cs:=a.cs
 ok q O h:=by
  walk_at "o"
  exact λp=>by cases b <;> first|exact abr (a.ok q O h)|exact abt (a.ok q O h)
noncomputable def wA(a:VT aA)(r:VW .And dh):VW .And (Hi aA dh) where
 ck Γ e:=aM e λx aK=>aM aK λy l=>a.ck Γ x&&r.ck Γ (y::l)
 cs:=a.cs++r.cs
 ok q O h:=by
  walk_at "o"
  simp only[an]at h
  exact λp=>(abu (a.ok (ml q) O h.1) (r.ok (mr q) O h.2 p)).imp λ_ _ _=>ae2
noncomputable def wO(a:VT aA)(r:VW .Or dh):VW .Or (Hj aA dh) where
 ck Γ e:=aM e λx aK=>aM aK λy l=>a.ck Γ x&&r.ck Γ (y::l)
 cs:=a.cs++r.cs
 ok q O h:=by
  walk_at "o"
  simp only[an]at h
  exact λp=>(abv (a.ok (ml q) O h.1) (r.ok (mr q) O h.2 p)).imp λ_ _ _=>ae3
noncomputable def tW(b:BoolOp)(r:VW b dh):VT (dh) where
 ck Γ e:=vm e λp l _=>decide (p=b)&&r.ck Γ l
 cs:=r.cs
 ok q O h:=by
  walk_at "o"
  simp only[an]at h
  cases of_decide_eq_true h.1
  exact(r.ok q O h.2 _).pt
abbrev VV(b:BoolOp)(f:EF):=Vn λcl E X e=>∀p,PE X (.BoolOp b e p) (Te (tx cl E X) f)
noncomputable def u1(b:BoolOp)(a:VE aA):VV b (aA) where
 ck Γ e:=aM e λx aK=>aQ aK (a.ck Γ x)
 cs:=a.cs
 ok q O h:=by
  walk_at "o"
  exact λp=>abx (a.ok q O h)
noncomputable def uA(a:VE aA)(r:VV .And dh):VV .And (Ho aA dh) where
 ck Γ e:=aM e λx aK=>aM aK λy l=>a.ck Γ x&&r.ck Γ (y::l)
 cs:=a.cs++r.cs
 ok q O h:=by
  walk_at "o"
  simp only[an]at h
  exact λp=>(aby (a.ok (ml q) O h.1) (r.ok (mr q) O h.2 p)).imp λ_ _ _=>ae5
noncomputable def vV(b:BoolOp)(r:VV b dh):VE (dh) where
 ck Γ e:=vm e λp l _=>decide (p=b)&&r.ck Γ l
 cs:=r.cs
 ok q O h:=by
  walk_at "o"
  simp only[an]at h
  cases of_decide_eq_true h.1
  exact r.ok q O h.2 _
noncomputable def Ah(t:VT Hu)(a:VE aA)(b:VE bO):VE (vJ Hu aA bO) where
 ck Γ e:=zG e λz x y _=>t.ck Γ z&&a.ck Γ x&&b.ck Γ y
 cs:=t.cs++(a.cs++b.cs)
 ok q O h:=by
  walk_at "o"
  simp only[an]at h
  exact(abA (t.ok (ml q) O h.1.1) (a.ok (ml (mr q)) O h.1.2) (b.ok (mr (mr q)) O h.2)).imp λ_ _ _=>ae4
noncomputable def sV:Expr->Bool
 |.Slice .. => false
 |_=>true
theorem Hv(h:sV b=true):Qu b:=λo i=>by
 cases b <;> first|rfl|cases h
noncomputable def aG(a:VE aA)(b:VE bO):VE (gU aZ aA bO) where
 ck Γ e:=mO e λx y _=>sV y&&a.ck Γ x&&b.ck Γ y
 cs:=a.cs++b.cs
 ok q O h:=by
  walk_at "o"
  simp only[an]at h
  exact(Eu Ew (a.ok (ml q) O h.1.2) (b.ok (mr q) O h.2) (Hv h.1.1)).imp λ_ _ _=>Ad Rn
section
variable {t:Tx}{K:FZ}{R:Addr->Prop}{ρ : En}{σ : St}{G H G0 H0 G' H':Hp}{F F0:Fp}{Q:VK}
theorem dM.step(tb:bN K H)(s:aD K G H F G' H' F'):∀{vs:List V} {rs:List Rv},dM K σ Hs G H F vs rs->dM K σ Hs G' H' F' vs rs
 |_,_,.nil=>.nil
 |_,_,.cons h r=>.cons (h.step tb s) (dM.step tb s r)
theorem dM.back(d:∀b,H1 b=none->H b=none):∀{vs:List V} {rs:List Rv},dM K σ H1 G' H' F' vs rs->dM K σ H G' H' F' vs rs
 |_,_,.nil=>.nil
 |_,_,.cons h r=>.cons (h.back d) (dM.back d r)
theorem dM.length:∀{vs:List V} {rs:List Rv},dM K σ Hs G H F vs rs->vs.length=rs.length
 |_,_,.nil=>rfl
 |_,_,.cons _ r=>by rw[List.length_cons,List.length_cons,dM.length r]
noncomputable def drs(ρ : En):List Rv->Rs (List Tr)
 | []=>.ok []
 |r::rs=>(dr ρ r).bind λt=>(drs ρ rs).bind λts=>.ok (t::ts)
theorem Ai{α β : Type}{r:Rs α}{f : α -> Rs β}(h1:∀c,r ≠ .ex c)(h2:∀a c,f a ≠ .ex c)(c:Str):r.bind f ≠ .ex c:=by
 cases r with
 |bad=>intro z; cases z
 |ex d=>exact(h1 d rfl).elim
 |ok a=>exact h2 a c
theorem cj{α β : Type}{r:Rs α}{f : α -> Rs β}{b : β}(h:r.bind f=.ok b):∃a,r=.ok a/\f a=.ok b:=by
 cases r with
 |bad=>cases h
 |ex c=>cases h
 |ok a=>exact⟨a,rfl,h⟩
theorem vL(ρ : En):∀(rs:List Rv) (c:Str),drs ρ rs ≠ .ex c
 | [],c=>by intro z; cases z
 |r::rs,c=>Ai (gK ρ r) (λ_=>Ai (vL ρ rs) λ_ _ z=>by cases z) c
theorem vN(e:Ok K R ρ σ G H F):∀{vs:List V} {rs:List Rv} {ts:List Tr},dM K σ Hs G H F vs rs->drs ρ rs=.ok ts->mK K G H vs ts
 |_,_,_,.nil,q=>by cases q; exact .nil
 |_,_,_,.cons h r,q=>by
  obtain⟨t,q1,q⟩:=cj q
  obtain⟨ts,q2,q⟩:=cj q
  cases q
  exact .cons (fZ e h q1) (vN e r q2)
noncomputable def cls:List Rv->Rs (List Tr)
 | []=>.ok []
 |.v t _::rs=>(cls rs).bind λts=>.ok (t::ts)
 |.s _::_=>.bad
theorem vO:∀(rs:List Rv) (c:Str),cls rs ≠ .ex c
 | [],c=>by intro z; cases z
 |.s _::_,c=>by intro z; cases z
 |.v t _::rs,c=>Ai (vO rs) (λ_ _ z=>by cases z) c
theorem dM.vis(nR:∀b,Hs b=none->¬R b){rs:List Rv}:∀{vs:List V} {ts:List Tr} {G1:Hp},dM K σ Hs G H F vs rs->cls rs=.ok ts->Same G G1->Ok K R ρ σ G1 H F->(∀b,G1 b≠none->G b≠none\/Hs b=none) ->
  ∃G2,Same G1 G2/\Ok K R ρ σ G2 H F/\(∀b,G2 b≠none->G b≠none\/Hs b=none)/\aq K G2 vs ts:=by
 induction rs with
 |nil =>
  intro vs ts G1 h q _ e n
  cases h
  cases q
  exact⟨G1,Same.refl _,e,n,.nil⟩
 |cons r0 rs ih =>
  intro vs ts G1 h q m e n
  cases h with
  |cons h r =>
   cases r0 with
   |s _=>cases q
   |v T fr =>
    obtain⟨ts,q1,q⟩:=cj q
    cases q
    cases fr with
    |false =>
     obtain⟨G2,m2,e2,n2,r2⟩:=ih r q1 m e n
     exact⟨G2,m2,e2,n2,.cons (Rep.mono (m.trans m2) h.1) r2⟩
    |true =>
     obtain⟨⟨a,xs,us,e1,e2,hs,_,ha,ra⟩,f⟩:=h
     obtain⟨e',m'⟩:=e.show ha (f rfl a e1) (nR a hs)
     obtain⟨G2,m2,e3,n2,r2⟩:=ih r q1 (m.trans m') e' λb z=>by
      by_cases y:b=a
      .subst y; exact .inr hs
      .rw[aJ y]at z; exact n b z
     subst e1; subst e2
     exact⟨G2,m'.trans m2,e3,n2,.cons (.lst (aF.of (m2 a _ bY)) (ra.mono (m.trans (m'.trans m2)))) r2⟩
theorem Ok.vis(e:Ok K R ρ σ G H F)(e0:Ok K R ρ0 σ0 G0 H0 F0)(s:aD K G0 H0 F0 G H F)(h:dM K σ H0 G H F vs rs)(q:cls rs=.ok ts):∃G2,Ok K R ρ σ G2 H F/\aD K G0 H0 F0 G2 H F/\Same G G2/\aq K G2 vs ts:=by
 obtain⟨G2,m,e2,n,r⟩:=h.vis (λb=>e0.rn) q (Same.refl _) e λb z=>.inl z
 exact⟨G2,e2,⟨s.gg.trans m,s.fr,λb z=>(n b z).elim (s.nw b) λz=>.inr (.inl z),s.nf,s.dm⟩,m,r⟩
noncomputable def sX:Rv->Rs Tr
 |.v T _=>.ok T
 |.s _=>.bad
theorem R9(r:Rv)(c:Str):sX r ≠ .ex c:=by cases r <;> (intro z; cases z)
theorem Ok.sY(e:Ok K R ρ σ G H F)(e0:Ok K R ρ0 σ0 G0 H0 F0)(s:aD K G0 H0 F0 G H F)(h:fB K σ H0 G H F v r)(q:sX r=.ok T):∃G2,Ok K R ρ σ G2 H F/\aD K G0 H0 F0 G2 H F/\Same G G2/\Rep K G2 v T:=by
 cases r with
 |s i=>cases q
 |v U fr =>
  cases q
  obtain⟨G2,e2,s2,m,r⟩:=e.vis (vs:=[v]) e0 s (.cons h .nil) rfl
  cases r with
  |cons r _=>exact⟨G2,e2,s2,m,r⟩
noncomputable def cY:AF:=λρ=>.ok ([],ρ)
noncomputable def cN(f:EF)(g:AF):AF:=λρ=>(f ρ).bind λp=>(g p.2).bind λq=>.ok (p.1::q.1,q.2)
end
noncomputable def ao:VA cY where
 ck _ e:=e.isEmpty
 cs:=[]
 ok:=@λ_ _ _ X e _ _ h=>by
  cases e <;> try cases h
  exact⟨rK.imp λσ H Q=>bB λR ρ G F e h=>h [] G H F e .refl .nil,λρ p h=>(by cases h; rfl),λ_ z=>nomatch z⟩
noncomputable def ak(a:VE aA)(r:VA dh):VA (cN aA dh) where
 ck Γ e:=aM e λx y=>notStar x&&a.ck Γ x&&r.ck Γ y
 cs:=a.cs++r.cs
 ok q O h:=by
  walk_at "o"
  simp only[an]at h
  obtain⟨pb,lb,nb⟩:=r.ok (mr q) O h.2
  exact⟨(oE (a.ok (ml q) O h.1.2) pb (eY h.1.1)).imp λσ H Q=>bB λR ρ G F e h=>dN e .refl h λp h x G1 H1 F1 e1 s1 v1=>jC e1 s1 h λq h xs G2 H2 F2 e2 s2 v2=>h (x::xs) G2 H2 F2 e2 (s1.trans s2) (.cons (v1.step e1.tb s2) (v2.back s1.dm)),λρ p q=>(by
   obtain⟨a,q1,q⟩:=cj q
   obtain⟨b,q2,q⟩:=cj q
   cases q
   rw[List.length_cons,lb _ _ q2,List.length_cons]),List.forall_mem_cons.mpr ⟨h.1.1,nb⟩⟩
theorem qz:∀{es:List Expr},(∀x∈es,notStar x=true)->∀env,(backTo pos (starEach es env)).any (·.1)=false
 | [],_,_=>rfl
 |e::es,h,env=>by
  rw[eY (h e (List.mem_cons_self ..))]
  exact qz (λx q=>h x (List.mem_cons_of_mem _ q)) env
noncomputable def vP(g:AF):EF:=λρ=>(g ρ).bind λp=>(cls p.1).bind λts=>if ts.length<=1000 then .ok (.v (.lst ts) true,p.2)else .bad
noncomputable def Sd(g:AF):EF:=λρ=>(g ρ).bind λp=>(cls p.1).bind λts=>if ts.length<=1000 then .ok (.v (.tup ts) false,p.2)else .bad
noncomputable def d8(a:VA aA):VE (Sd aA) where
 ck Γ e:=iM e λl _ _=>a.ck Γ l
 cs:=a.cs
 ok q O h:=by
  walk_at "o"
  refine(yJ (a.ok q O h).1).imp λσ H Q=>bB λR ρ G F e h=>jC e .refl h λp h vs G1 H1 F1 e1 s1 v1=>?_
  obtain⟨ts,k1,h⟩:=h.okb (vO _)
  obtain⟨G2,e2,s2,_,r⟩:=e1.vis e s1 v1 k1
  split at h
  .exact⟨by rw[r.length]; exact Nat.le_trans ‹_› (by decide),λp hp=>e2.fin s2 (.new e2.sub hp) (.newT e2.sub hp r) h⟩
  .exact h.elim
noncomputable def f9(a:VA aA):VE (vP aA) where
 ck Γ e:=vo e λl _=>a.ck Γ l
 cs:=a.cs
 ok q O h:=by
  walk_at "o"
  refine(Qa (a.ok q O h).1).imp λσ H Q=>bB λR ρ G F e h=>jC e .refl h λp h vs G1 H1 F1 e1 s1 v1=>?_
  obtain⟨ts,k1,h⟩:=h.okb (vO _)
  obtain⟨G2,e2,s2,_,r⟩:=e1.vis e s1 v1 k1
  split at h
  .exact⟨by rw[r.length]; exact Nat.le_trans ‹_› (by decide),λp hp=>e2.fin s2 (.flt e2.sub hp) (.flt e2.sub hp r) h⟩
  .exact h.elim
open Classical in
noncomputable def qC(G H0:Hp):Hp->Hp:=λH b=>if H0 b=none then H b else if H b=G b then G b else none
theorem Hw(G H0:Hp):Pj (qC G H0) H0:=⟨λs b o h=>(by
  unfold qC at h ⊢
  split at h
  .rw[if_pos ‹_›]; exact s b o h
  .rw[if_neg ‹_›]
   split at h
   .rename_i e
    rw[h]at e ⊢
    rw[if_pos (s b o e)]
   .cases h),λH b o h=>(by
  unfold qC at h
  split at h
  .exact h
  .split at h
   .rw[‹H b=G b›]; exact h
   .cases h),λs h=>by
  unfold qC
  rw[if_pos (s.free h),bY]⟩
theorem Sg{K:FZ}(g:Same G H)(s:Same H H'):Gw K G H (qC G H H') H':=⟨λb o h=>by
  have q:=s b o (g b o h)
  unfold qC
  rw[if_neg (by rw[g b o h]; exact λz=>by cases z),q,h]
  exact if_pos rfl,λb o h _=>s b o h,(Hw G H).sub H',λt=>t.fr λb o _ h=>s b o h,λb h=>by
  unfold qC at h
  split at h
  .exact .inr ‹_›
  .split at h
   .exact .inl h
   .exact(h rfl).elim⟩
noncomputable def Nb(Ts:List Tr):EF:=λρ=>.ok (.v (.lst Ts) true,ρ)
mutual
noncomputable def Sh:Tr->Tr->Bool
 |.non,.non=>true
 |.bl a,.bl b=>a == b
 |.int a,.int b=>decide (a=b)
 |.str a,.str b=>a == b
 |.tup a,.tup b=>vQ a b
 |.lst a,.lst b=>vQ a b
 |_,_=>false
noncomputable def vQ:List Tr->List Tr->Bool
 | [],[]=>true
 |a::l,b::m=>Sh a b&&vQ l m
 |_,_=>false
end
mutual
theorem ae8:∀{a b:Tr},Sh a b=true->a=b
 |.non,b,h=>by cases b <;> first|rfl|cases h
 |.bl a,b,h=>by cases b <;> first|cases h; done|rw[eq_of_beq h]
 |.int a,b,h=>by cases b <;> first|cases h; done|rw[of_decide_eq_true h]
 |.str a,b,h=>by cases b <;> first|cases h; done|rw[eq_of_beq h]
 |.tup a,b,h=>by cases b <;> first|cases h; done|rw[Aj h]
 |.lst a,b,h=>by cases b <;> first|cases h; done|rw[Aj h]
 |.bU a,b,h=>by cases h
theorem Aj:∀{a b:List Tr},vQ a b=true->a=b
 | [],[],_=>rfl
 |a::l,b::m,h=>by
  obtain⟨h1,h2⟩:=an.mp h
  rw[ae8 h1,Aj h2]
end
noncomputable def Hx:Option (List Tr)->List Tr->Bool
 |some Us,Ts=>vQ Us Ts
 |none,_=>false
theorem Sq(h:Hx o Ts=true):o=some Ts:=by
 cases o <;> first|cases h; done|rw[Aj h]
noncomputable def vR(Ts:List Tr):VE (eC (.tup Ts)) where
 ck _ e:=iM e λl _ _=>Hx (gP l) Ts
 cs:=[]
 ok:=@λ_ _ _ X e _ _ h=>by
  walk_at "o"
  refine(aeF (G:=au X.K) (Sq h)).imp λσ H Q ⟨R,ρ,G,F,e,h⟩ v H' s r=>?_
  exact e.fin .refl (Sg e.sub s) (show VN _ _ _ _ _ _ false from r _ (Hw _ _)) h
noncomputable def vU(Ts:List Tr):VE (Nb Ts) where
 ck _ e:=vo e λl _=>Hx (gP l) Ts
 cs:=[]
 ok:=@λ_ _ _ X e _ _ h=>by
  walk_at "o"
  refine(aeE (G:=au X.K) (Sq h)).imp λσ H Q ⟨R,ρ,G,F,e,h⟩ a xs H1 s ha r _=>?_
  obtain⟨e1,s1⟩:=e.grow (Sg e.sub s)
  exact e1.fin s1 (.flt e1.sub ha) (.flt e1.sub ha (r _ (Hw _ _))) h
noncomputable def xZ:OF:=λρ=>.ok (none,ρ)
noncomputable def Ak(fa:EF):OF:=λρ=>(fa ρ).bind λp=>(dr p.2 p.1).bind λa=>(vg a).bind λb=>.ok (some b,p.2)
noncomputable def oN:VO xZ where
 ck _ e:=e.isNone
 cs:=[]
 ok:=@λ_ _ _ X e _ _ h=>by
  cases e <;> try cases h
  exact acW.imp λσ H Q=>bB λR ρ G F e h=>h G H F e .refl
noncomputable def oS(a:VE aA):VO (Ak aA) where
 ck Γ e:=oV e λx=>a.ck Γ x
 cs:=a.cs
 ok q O h:=by
  walk_at "o"
  refine(acX (a.ok q O h)).imp λσ H Q=>bB λR ρ G F e h=>dN e .refl h λp h x G1 H1 F1 e1 s1 v1=>?_
  obtain⟨a,k1,h⟩:=h.okb (gK _ _)
  obtain⟨b,k2,h⟩:=h.okb (GC _)
  exact⟨b,zE (fZ e1 v1 k1) k2,h G1 H1 F1 e1 s1⟩
noncomputable def cut{α : Type}(xs:List α)(lo hi:Option Int):List α := (xs.drop (HT.aO xs.length 0 lo)).take (HT.aO xs.length xs.length hi-HT.aO xs.length 0 lo)
theorem aq.cut{K:FZ}{H:Hp}{xs:List V}{ts:List Tr}(r:aq K H xs ts)(lo hi:Option Int):aq K H (oH xs lo hi) (L2.cut ts lo hi):=by
 unfold oH L2.cut
 rw[r.length]
 exact(r.drop _).take _
noncomputable def Ss(K:FZ):V->Option Int->Option Int->Hp->VK->Prop:=λx lo hi H Q=>Qz K x lo hi H Q\/Qp K x lo hi H Q
theorem ae9:lY X (Ss X.K):=lY.or ada acZ
noncomputable def kW(lo hi:Option Int):G1
 |.lst ts=>.ok (.lst (cut ts lo hi),true)
 |.tup ts=>if ¬(HT.aO ts.length 0 lo=0/\HT.aO ts.length ts.length hi=ts.length)then .ok (.tup (cut ts lo hi),false)else .bad
 |_=>.bad
theorem Sv{K:FZ}(lo hi:Option Int):mL (au K) (λx H Q=>Ss K x lo hi H Q) (kW lo hi):=⟨λa c=>by unfold kW; (repeat' split) <;> (intro z; cases z),λG H x a Q s rx h=>by
 cases a <;> try exact h.elim
 .dsimp only[kW]at h
  split at h
  .obtain⟨b,xs,rfl,q,r⟩:=rx.tup s
   exact .inr ⟨b,xs,rfl,q.toK,by rw[r.length]; assumption,λy hy=>h _ _ _ (.new s hy) (.newT s hy (r.cut _ _))⟩
  .exact h.elim
 .obtain⟨b,xs,rfl,q,r⟩:=rx.lst s
  exact .inl ⟨b,xs,rfl,q.toK,λy hy=>h _ _ _ (.flt s hy) (.flt s hy (r.cut _ _))⟩⟩
noncomputable def Al(fa:EF)(fl fh:OF):EF:=λρ=>(fa ρ).bind λp=>(fl p.2).bind λl=>(fh l.2).bind λh=>(dr h.2 p.1).bind λa=>(kW l.1 h.1 a).bind λz=>.ok (.v z.1 z.2,h.2)
noncomputable def Hy(a:VE aA)(l:VO l_f)(r:VO dh):VE (Al aA l_f dh) where
 ck Γ e:=mO e λx aK _=>zH aK λy z bf _=>qw bf (a.ck Γ x&&l.ck Γ y&&r.ck Γ z)
 cs:=a.cs++(l.cs++r.cs)
 ok q O h:=by
  walk_at "o"
  simp only[an]at h
  refine(acY ae9 (a.ok (ml q) O h.1.1) (l.ok (ml (mr q)) O h.1.2) (r.ok (mr (mr q)) O h.2)).imp λσ H Q=>bB λR ρ G F e h=>dN e .refl h λp h x G1 H1 F1 e1 s1 v1=>Ri e1 s1 h λl h G2 H2 F2 e2 s2=>Ri e2 (s1.trans s2) h λu h G3 H3 F3 e3 s3=>?_
  obtain⟨a,k1,h⟩:=h.okb (gK _ _)
  obtain⟨z,k2,h⟩:=h.okb ((Sv (K:=[]) _ _).nx _)
  exact(Sv l.1 u.1).ok G3 H3 x a Q e3.sub (fZ e3 (v1.step e1.tb (s2.trans s3)) k1) (by rw[k2]; exact λv G' H' w vn=>e3.fin ((s1.trans s2).trans s3) w.gw vn h)
noncomputable def mX(Γ : Gx)(x:Str)(as:VA jE):Expr->Bool
 |.Call (.Name y _) (e::es) [] _=>y == x&&jD Γ x&&as.ck Γ (e::es)
 |_=>false
theorem qD(h:mX Γ x as e=true):∃p a es q,e=.Call (.Name x p) (a::es) [] q/\jD Γ x=true/\as.ck Γ (a::es)=true:=by
 unfold mX at h
 split at h
 case h_2=>cases h
 simp only[an]at h
 cases eq_of_beq h.1.1
 exact⟨_,_,_,_,rfl,h.1.2,h.2⟩
noncomputable def mY(g:GN)(fa:AF):EF:=λρ=>(fa ρ).bind λp=>(drs p.2 p.1).bind λas=>(g as).bind λz=>.ok (.v z.1 z.2,p.2)
theorem Sw{t:Tx}(o:Gg t.K r g)(h:Te t (mY g fa) σ H Q):yL r (Ta t fa) σ H Q:=by
 obtain⟨R,ρ,G,F,e,h⟩:=h
 refine jC e .refl h λp h xs G1 H1 F1 e1 s1 v1=>?_
 obtain⟨as,k1,h⟩:=h.okb (vL _ _)
 obtain⟨z,k3,h⟩:=h.okb (o.nx as)
 exact o.ok G1 H1 xs as Q e1.sub (vN e1 v1 k1) (by rw[k3]; exact λv G' H' w vn=>e1.fin s1 w.gw vn h)
noncomputable def vB(x:Str)(u:Value)(r:FZ->List V->Hp->VK->Prop)(g:List Tr->Rs (Tr × Bool))(hv:bootBuiltins x=some u/\x ≠ "__name__" /\ ((∃i,u=.builtin i)\/∃i,u=.type i)) (hp:∀{cl Γ E X},Ox cl Γ E X->fX X u (r X.K)) (hs:∀K,Gg (au K) (r K) g) (as:VA jE):VE (mY g jE) where
 ck Γ e := Γ.B.contains x&&mX Γ x as e
 cs:=as.cs
 ok q o h:=by
  obtain⟨h1,h⟩:=an.mp h
  obtain⟨p,a,es,p',rfl,h2,h3⟩:=qD h
  obtain⟨pa,la,na⟩:=as.ok q o h3
  obtain⟨hv1,hv2,⟨i,rfl⟩|⟨i,rfl⟩⟩:=hv
  .exact(Ql (hp o) (cZ o h2).1 (o.B x (by simpa using h1)) hv1 pa hv2 (cZ o h2).2 (eY (na _ (List.mem_cons_self ..))) (qz (λy m=>na y (List.mem_cons_of_mem _ m)) _)).imp λ_ _ _=>Sw (hs _)
  .exact(acE (hp o) (cZ o h2).1 (o.B x (by simpa using h1)) hv1 pa hv2 (cZ o h2).2 (eY (na _ (List.mem_cons_self ..))) (qz (λy m=>na y (List.mem_cons_of_mem _ m)) _)).imp λ_ _ _=>Sw (hs _)
noncomputable def Sx(c:Ty)(fa:EF):EF:=λρ=>(fa ρ).bind λp=>(dr p.2 p.1).bind λa=>.ok (eB (rW a c),p.2)
noncomputable def Am(x:Str)(ty:Ty)(hb:bootBuiltins x=some (.type ty.name)/\x ≠ "__name__") (a:VE aA):VE (Sx ty aA) where
 ck Γ e:=gO e λaK bf bF _=>atName aK λy _=>aM bf λb cM=>aM cM λdg eV=>atName dg λz _=>aQ eV (aQ bF (y == ("isinstance" : Str)&&jD Γ y&&z == x&&jD Γ z&&Γ.B.contains y&&Γ.B.contains z&&a.ck Γ b&&notStar b))
 cs:=a.cs
 ok q o h:=by
  walk_at "o"
  simp only[an]at h
  obtain⟨⟨⟨⟨⟨⟨⟨h1,h2⟩,h3⟩,h4⟩,h5⟩,h6⟩,h7⟩,h8⟩:=h
  cases eq_of_beq h1
  cases eq_of_beq h3
  refine(adz o.x ty (a.ok q o h7) (o.B _ (by simpa using h5)) (o.B _ (by simpa using h6)) hb.1 (cZ o h2).1 (cZ o h4).1 hb.2 (cZ o h4).2 (eY h8)).imp λσ H Q=>bB λR ρ G F e h=>dN e .refl h λp h x G1 H1 F1 e1 s1 v1=>?_
  obtain⟨a,k1,h⟩:=h.okb (gK _ _)
  exact⟨x,a,ty,rfl,((fZ e1 v1 k1).rep e1.sub).toK,h _ G1 H1 F1 e1 s1 (.low (.bl _))⟩
def qF(G G':Hp):Prop:=∀b o,(∀xs,o ≠ .lst xs)->G b=some o->G' b=some o
theorem qF.jz{K:FZ}{G G':Hp}(m:qF G G')(h:bh K G a xs):bh K G' a xs:=by
 rcases h with(h|⟨o,h⟩)|h
 .exact .inl (.inl (m _ _ (λ_ z=>by cases z) h))
 .exact .inl (.inr ⟨o,m _ _ (λ_ z=>by cases z) h⟩)
 .exact .inr h
theorem Sy{K:FZ}{G G':Hp}(m:qF G G'):(∀{v T},Rep K G v T->bA T=true->Rep K G' v T)/\∀{vs Ts},aq K G vs Ts->cg Ts=true->aq K G' vs Ts:=by
 refine Rep.both (λ_=>.non) (λb _=>.bl b) (λi _=>.int i) (λx _=>.str x) (λa xs ts h q n=>?_) (λa xs ts h q n=>?_) (λa C c h k n _=>.bU (m _ _ (λ_ z=>by cases z) h) k n) (λ_=>.nil) λx t xs ts p q n=>?_
 .exact .tup (m.jz h) (q (by unfold bA at n; exact n))
 .unfold bA at n; cases n
 .unfold cg at n
  obtain⟨n1,n2⟩:=an.mp n
  exact .cons (p n1) (q n2)
theorem Rep.flat{K:FZ}{G G':Hp}(m:qF G G'){v:V}{T:Tr}(h:Rep K G v T)(n:bA T=true):Rep K G' v T:=(Sy m).1 h n
theorem aq.flat{K:FZ}{G G':Hp}(m:qF G G'){v:List V}{T:List Tr}(h:aq K G v T)(n:cg T=true):aq K G' v T:=(Sy m).2 h n
noncomputable def wL(G H:Hp):Hp:=λb=>match G b with
 |some o=>some o
 |none=>match H b with
  |some (.lst xs)=>some (.lst xs)
  |_=>none
theorem tu(h:G b=some o):wL G H b=some o:=by unfold wL; rw[h]
theorem qG(h:wL G H b=some o):G b=some o\/G b=none/\H b=some o/\∃xs,o=.lst xs:=by
 unfold wL at h
 split at h
 .exact .inl (by rw[<-h]; assumption)
 .split at h <;> cases h
  exact .inr ⟨‹_›,‹_›,_,rfl⟩
theorem SJ(h:H b=some (.lst xs))(n:G b=none):wL G H b=some (.lst xs):=by unfold wL; rw[n,h]
noncomputable def wB(G H G':Hp):Hp:=λb=>match wL G H b with
 |some _=>G b
 |none=>G' b
noncomputable def oX:Rv->Bool
 |.s _=>true
 |_=>false
noncomputable def fM(z:Tr × Bool):Bool:=bA z.1 || (z.2&&(match z.1 with
 |.lst us=>cg us
 |_=>false))
section
variable {K:FZ}{G H G' H':Hp}
theorem SN(s:Same G H)(w:Gw K (wL G H) H G' H'):Gw K G H (wB G H G') H':=by
 have low:Same (wB G H G') G':=λb o h=>by
  unfold wB at h
  split at h
  .exact w.gg b o (tu h)
  .exact h
 refine⟨λb o h=>by unfold wB; rw[tu h]; exact h,w.hh,low.trans w.sub,w.tb,λb h=>?_⟩
 cases q:G b with
 |some o=>exact .inl λz=>by cases z
 |none =>
  unfold wB at h
  split at h
  .exact(h q).elim
  .rename_i z
   exact .inr ((w.nw b h).elim (λy=>(y z).elim) id)
theorem Hz(w:Gw K (wL G H) H G' H'):qF G' (wB G H G'):=λb o n h=>by
 unfold wB
 split
 .rename_i u z
  have y:=w.gg b _ z
  rw[h]at y
  cases y
  rcases qG z with z|⟨_,_,xs,z⟩
  .exact z
  .exact(n xs z).elim
 .exact h
theorem VN.flat(s:Same G H)(w:Gw K (wL G H) H G' H')(h:VN K H G' H' v T fr)(f:fM (T,fr)=true):VN K H (wB G H G') H' v T fr:=by
 cases fr with
 |false=>exact Rep.flat (Hz w) h (by simpa[fM]using f)
 |true =>
  obtain⟨a,xs,ts,e1,rfl,e3,e4,e5,r⟩:=h
  refine⟨a,xs,ts,e1,rfl,e3,?_,e5,r.flat (Hz w) (by simpa[fM,bA]using f)⟩
  unfold wB
  split
  .exact s.free e3
  .exact e4
theorem mK.reps(s:Same G H):∀{vs:List V} {ts:List Tr},mK K G H vs ts->aq K (wL G H) vs ts
 |_,_,.nil=>.nil
 |_,_,.cons (.inl h) r=>.cons (h.mono λ_ _=>tu) (mK.reps s r)
 |_,_,.cons (.inr ⟨a,xs,ts,e1,e2,q,r0⟩) r=>by
  subst e1 e2
  refine .cons (.lst (aF.of ?_) (r0.mono λ_ _=>tu)) (mK.reps s r)
  cases z:G a with
  |none=>exact SJ q z
  |some o=>have y:=s a o z; rw[q]at y; cases y; exact tu z
end
theorem SQ:∀{rs:List Rv} {ts:List Tr},drs ρ rs=.ok ts->rs.any oX=false->cls rs=.ok ts
 | [],_,h,_=>h
 |.s _::_,_,_,n=>by simp[oX]at n
 |.v T fr::rs,_,h,n=>by
  obtain⟨ts,q2,q⟩:=cj (show((drs ρ rs).bind _)=_ from h)
  cases q
  unfold cls
  rw[SQ q2 (by simpa[oX]using n)]
  rfl
noncomputable def jF(f:FP)(fa:AF):EF:=λρ=>(fa ρ).bind λp=>(drs p.2 p.1).bind λas=>(f as).bind λz=>if p.1.any oX=true/\fM z=false then .bad else .ok (.v z.1 z.2,p.2)
theorem Fr.none{K:FZ}(h:Fr K H (λ_=>[]) H'):Fr K H F H':=⟨λb o q _=>h.fr b o q λ⟨_,z⟩=>(by cases z),h.tb⟩
theorem afa(hn:∀ρ p,fa ρ=.ok p->p.1.length=n)(h:Te (tx cl E X) (jF f fa) σ H Q):Eo (oW X.K cl n f) [] E (Ta (tx cl E X) fa) σ H Q:=by
 obtain⟨R,ρ,G,F,e,h⟩:=h
 cases ek:fa ρ with
 |bad=>rw[jF,ek]at h; exact h.elim
 |ex c=>exact⟨R,ρ,G,F,e,by rw[jF,ek]at h; rw[ek]; exact h⟩
 |ok p =>
 refine⟨R,ρ,G,F,e,?_⟩
 simp only[jF,ek,Rs.bind]at h
 rw[ek]
 intro vs G1 H1 F1 e1 s1 v1
 obtain⟨as,k1,h⟩:=h.okb (vL _ _)
 show oW X.K cl n f (vs++[]) H1 Q E
 rw[List.append_nil]
 have fin:∀Gc,aq (au X.K) Gc vs as->Same Gc H1->(∀b,Tb (au X.K) b->Gc b=none)->(∀z,f as=.ok z->∀v G' H',Gw (au X.K) Gc H1 G' H'->VN (au X.K) H1 G' H' v z.1 z.2->Q v H')->oW X.K cl n f vs H1 Q E:=λGc r s tg k=>by
  refine⟨Gc,as,by rw[v1.length,hn ρ p ek],r,s,e1.tb,tg,?_⟩
  cases ef:f as with
  |bad=>rw[ef]at h; exact h.elim
  |ex c=>rw[ef]at h; exact λH' q=>h H' (s1.back q.none)
  |ok z=>exact k z ef
 by_cases a:p.1.any oX=true
 .refine fin (wL G1 H1) ((vN e1 v1 k1).reps e1.sub) (λb o q=>(qG q).elim (e1.sub b o) λq=>q.2.1) (λb t=>?_) λz ef v G' H' w vn=>?_
  .cases q:wL G1 H1 b with
   |none=>rfl
   |some o =>
    rcases qG q with q|⟨_,q,xs,rfl⟩
    .rw[e1.tg b t]at q; cases q
    .exact(e1.tb.nt q t).elim
  .simp only[ef,Rs.bind]at h
   split at h
   .exact h.elim
   .rename_i c
    exact e1.fin s1 (SN e1.sub w) (vn.flat e1.sub w (by cases q:fM z with|true=>rfl|false=>exact(c ⟨a,q⟩).elim)) h
 .obtain⟨G2,e2,s2,_,r⟩:=e1.vis e s1 v1 (SQ k1 (by simpa using a))
  refine fin G2 r e2.sub e2.tg λz ef v G' H' w vn=>?_
  simp only[ef,Rs.bind]at h
  rw[if_neg λy=>a y.1]at h
  exact e2.fin s2 w vn h
noncomputable def vF(x:Str)(ps:List Str)(f:FP)(l:Nat)(as:VA jE):VE (jF f jE) where
 ck Γ e:=gO e λ_ m _ _=>m.length == ps.length&&decide (l <= Γ.k)&&mX Γ x as e
 cs:=.fn x ps f l::as.cs
 ok q o h:=by
  obtain⟨_,_,_,_,e0,h⟩:=xY h
  subst e0
  simp only[an]at h
  obtain⟨⟨h1,h0⟩,h⟩:=h
  obtain⟨p,a,es,p',e',h2,h3⟩:=qD h
  cases e'
  obtain⟨D,q⟩:=List.forall_mem_cons.mp q
  obtain⟨pa,la,na⟩:=as.ok q o h3
  rw[eq_of_beq h1]at la
  obtain⟨d,fd,d1,d2,d3,d4⟩:=jA.mono D (of_decide_eq_true h0)
  exact(Qd d1 o.r (cZ o h2).1 d4 d3 d2 .nil o.e pa (cZ o h2).2 (eY (na _ (List.mem_cons_self ..))) (qz (λy m=>na y (List.mem_cons_of_mem _ m)) _)).imp λ_ _ _=>afa la
noncomputable def fO(F:Fp)(i:Nat)(f:List Addr):Fp:=λj=>if j=i then f else F j
theorem oY(h:Fn (fO F i f) b):b∈f\/∃j,j≠i/\b∈F j:=by
 obtain⟨j,h⟩:=h
 unfold fO at h
 split at h
 .exact .inl h
 .exact .inr ⟨j,‹_›,h⟩
section
variable {t:Tx}{K:FZ}{R:Addr->Prop}{ρ ρ':En}{σ σ':St}{G H G0 H0 G' H':Hp}{F F0 F':Fp}{Q:VK}
theorem Ok.one(e:Ok K R ρ σ G H F)(i:Nat)(f:List Addr)(len : ρ'.length = σ'.length)(ne:∀j,j≠i -> ρ'[j]?=ρ[j]? /\ σ'[j]?=σ[j]?)(gg:Same G G')(sub:Same G' H')(tb:bN K H')(hG:∀b,G' b≠none->G b≠none\/(∀j,j≠i->b∉F j)/\¬Tb K b/\¬R b)
  (hh:∀j,j≠i->∀b∈F j,∀o,H b=some o->H' b=some o) (hr:∀b,R b->H' b≠none) (hf:∀b∈f,G' b=none/\∀j,j≠i->b∉F j) (si:mJ K R G' H' σ'[i]? f ρ'[i]?):Ok K R ρ' σ' G' H' (fO F i f):=by
 have no:∀b,G b=none->(∃j,j≠i/\b∈F j)\/Tb K b\/R b->G' b=none:=λb q c=>by
  cases z:G' b with
  |none=>rfl
  |some o =>
   rcases hG b (by rw[z]; exact λz=>by cases z)with y|⟨y1,y2,y3⟩
   .exact(y q).elim
   .rcases c with⟨j,c1,c2⟩|c|c
    .exact(y1 j c1 c2).elim
    .exact(y2 c).elim
    .exact(y3 c).elim
 refine⟨len,sub,tb,λb t=>no b (e.tg b t) (.inr (.inl t)),λb h=>?_,λb h=>⟨no b (e.rg b h).1 (.inr (.inr h)),hr b h⟩,λj k b h1 h2=>?_,λj=>?_⟩
 .rcases oY h with h|⟨j,n,h⟩
  .exact(hf b h).1
  .exact no b (e.hid b ⟨j,h⟩) (.inl ⟨j,n,h⟩)
 .unfold fO at h1 h2
  split at h1 <;> split at h2
  .rw[‹j=i›,‹k=i›]
  .exact((hf b h1).2 k ‹_› h2).elim
  .exact((hf b h2).2 j ‹_› h1).elim
  .exact e.di j k b h1 h2
 .unfold fO
  split
  .rw[‹j=i›]; exact si
  .rw[(ne j ‹_›).1,(ne j ‹_›).2]
   exact(e.sl j).mono gg (hh j ‹_›)
theorem ji{α : Type}{l:List α}{a : α}(h:j≠i):(l.set i a)[j]?=l[j]? := List.getElem?_set_ne (Ne.symm h)
theorem gW{α : Type}{l:List α}{a : α}(h:i<l.length):(l.set i a)[i]?=some a:=by
 rw[List.getElem?_set_self',List.getElem?_eq_getElem h]
 rfl
theorem tB{α : Type}{l:List α}{a : α}(h:¬i<l.length):l.set i a=l:=List.set_eq_of_length_le (Nat.le_of_not_lt h)
theorem aD.sub(h:∀b,Fn F' b->Fn F b):aD K G H F G H F':=⟨Same.refl _,λ_ _ h _ _=>h,λ_ h=>.inl h,λb z=>.inr (h b z),λ_ h=>h⟩
theorem Ok.vW(e:Ok K R ρ σ G H F)(i:Nat)(r:Rep K G v T):∃F',Ok K R (ρ.set i (.sh T)) (σ.set i (some v)) G H F'/\∀b,Fn F' b->Fn F b:=by
 by_cases l:i < ρ.length
 .refine⟨fO F i [],e.one i [] (by rw[List.length_set,List.length_set,e.len]) (λj n=>⟨ji n,ji n⟩) (Same.refl _) e.sub e.tb (λb h=>.inl h) (λ_ _ _ _ _ h=>h) (λb h=>(e.rg b h).2) (λb h=>by cases h) ?_,λb h=>?_⟩
  .rw[gW l,gW (e.len▸l)]
   exact⟨rfl,v,rfl,r⟩
  .rcases oY h with h|⟨j,_,h⟩
   .cases h
   .exact⟨j,h⟩
 .rw[tB l,tB (e.len▸l)]
  exact⟨F,e,λb h=>h⟩
theorem Ok.afb(e:Ok K R ρ σ G H F)(i:Nat)(h:H a=some (.lst xs))(g:G a=none)(n:¬Fn F a)(nR:¬R a)(r:aq K G xs ts):∃F',Ok K R (ρ.set i (.ow ts)) (σ.set i (some (.ref a))) G H F'/\∀b,Fn F' b->b=a\/Fn F b:=by
 by_cases l:i < ρ.length
 .refine⟨fO F i [a],e.one i [a] (by rw[List.length_set,List.length_set,e.len]) (λj n=>⟨ji n,ji n⟩) (Same.refl _) e.sub e.tb (λb h=>.inl h) (λ_ _ _ _ _ h=>h) (λb h=>(e.rg b h).2) (λb h=>?_) ?_,λb h=>?_⟩
  .cases List.mem_singleton.mp h
   exact⟨g,λj _ z=>n ⟨j,z⟩⟩
  .rw[gW l,gW (e.len▸l)]
   exact⟨a,xs,rfl,rfl,nR,h,r⟩
  .rcases oY h with h|⟨j,_,h⟩
   .exact .inl (List.mem_singleton.mp h)
   .exact .inr ⟨j,h⟩
 .rw[tB l,tB (e.len▸l)]
  exact⟨F,e,λb h=>.inr h⟩
noncomputable def con(ρ : En)(i:Nat):Rs (List Tr):=match ρ[i]? with
 |some (.ow ts)=>.ok ts
 |some (.rf ts)=>.ok ts
 |_=>.bad
theorem Ao(ρ : En)(i:Nat)(c:Str):con ρ i ≠ .ex c:=by
 unfold con
 split <;> (intro z; cases z)
noncomputable def cJ(i:Nat)(us:List Tr)(ρ : En):En:=match ρ[i]? with
 |some (.ow _)=>ρ.set i (.ow us)
 |some (.rf _)=>ρ.set i (.rf us)
 |_=>ρ
theorem Ok.con(e:Ok K R ρ σ G H F)(q:con ρ i=.ok ts):∃a xs,σ[i]?=some (some (.ref a))/\F i=[a]/\H a=some (.lst xs)/\aq K G xs ts:=by
 have z:=e.sl i
 unfold L2.con at q
 split at q <;> rename_i k <;> cases q <;> (rw[k]at z; obtain⟨a,xs,h1,h2,_,h3,h4⟩:=z; exact⟨a,xs,h1,h2,h3,h4⟩)
theorem HB(h:j≠i):(cJ i ts ρ)[j]?=ρ[j]? := by
 unfold cJ
 split
 .exact ji h
 .exact ji h
 .rfl
theorem HD:(cJ i us ρ).length = ρ.length:=by
 unfold cJ
 split
 .rw[List.length_set]
 .rw[List.length_set]
 .rfl
theorem Ok.mov(e:Ok K R ρ σ G H F)(q:L2.con ρ i=.ok ts)(f:F i=[a])(g:Gw K G (upd H a (.lst ys)) G' H')(hx:H' a=some (.lst xs))(r:aq K G' xs us):Ok K R (cJ i us ρ) σ G' H' F/\aD K G H F G' H' F:=by
 have ha:Fn F a:=⟨i,by rw[f]; exact List.mem_singleton.mpr rfl⟩
 obtain⟨zs,hz⟩:=e.fl ha
 have ne:∀b o,H b=some o->b≠a->¬Tb K b->H' b=some o:=λb o h n t=>g.hh b o (by rw[aJ n]; exact h) t
 have nn:∀b,upd H a (.lst ys) b=none->H b=none:=λb h=>by
  by_cases z:b=a
  .subst z; rw[bY]at h; cases h
  .rw[aJ z]at h; exact h
 have tb:=g.tb (e.tb.upd hz)
 have dm:∀b,H' b=none->H b=none:=λb h=>by
  cases q:H b with
  |none=>rfl
  |some o =>
   by_cases z:b=a
   .subst z; rw[hx]at h; cases h
   .by_cases t:Tb K b
    .obtain⟨ps,y⟩:=tb.cF t; rw[h]at y; cases y
    .rw[ne b o q z t]at h; cases h
 have nw:∀b,G' b≠none->G b≠none\/H b=none:=λb h=>(g.nw b h).imp id (nn b)
 have eF:fO F i [a]=F:=by funext j; unfold fO; split <;> first|rfl|rw[‹j=i›,f]
 refine⟨eF▸e.one i [a] (by rw[HD,e.len]) (λj n=>⟨HB n,rfl⟩) g.gg g.sub tb (λb h=>(nw b h).imp id λz=>⟨λj _ y=>e.fs z ⟨j,y⟩,λt=>?_,e.rn z⟩) (λj n b hb o h=>?_) (λb h z=>(e.rg b h).2 (dm b z)) (λb h=>?_) ?_,g.gg,λb o h n t=>ne b o h (λz=>n (z▸ha)) t,λb h=>(nw b h).imp id .inl,λb h=>.inr h,dm⟩
 .obtain⟨ps,y⟩:=e.tb.cF t; rw[z]at y; cases y
 .obtain⟨us,q⟩:=e.fl ⟨j,hb⟩
  exact ne b o h (λz=>n (e.di j i b hb (by rw[f,z]; exact List.mem_singleton.mpr rfl))) (e.tb.nt q)
 .cases List.mem_singleton.mp h
  refine⟨?_,λj n z=>n (e.di j i a z (by rw[f]; exact List.mem_singleton.mpr rfl))⟩
  cases q:G' a with
  |none=>rfl
  |some o=>exact((nw a (by rw[q]; exact λz=>by cases z)).elim (λz=>z (e.hid a ha)) λz=>by rw[hz]at z; cases z).elim
 .have z:=e.sl i
  unfold L2.con at q
  unfold cJ
  split at q <;> rename_i k <;> cases q <;>
  .rw[k]at z
   obtain⟨b,_,h1,h2,h3,_⟩:=z
   rw[f]at h2
   cases h2
   rw[gW (List.getElem?_eq_some_iff.mp k).1]
   exact⟨a,xs,h1,rfl,h3,hx,r⟩
theorem Ok.put(e:Ok K R ρ σ G H F)(q:L2.con ρ i=.ok ts)(f:F i=[a])(r:aq K G xs us):Ok K R (cJ i us ρ) σ G (upd H a (.lst xs)) F/\aD K G H F G (upd H a (.lst xs)) F:=by
 refine e.mov q f (ys:=xs) (.refl λb o h=>?_) bY r
 rw[aJ λz=>?_]
 .exact e.sub b o h
 .rw[z,e.hid a ⟨i,by rw[f]; exact List.mem_singleton.mpr rfl⟩]at h
  cases h
end
abbrev GM:=List Tr->List Tr->Rs (List Tr × Tr)
structure SX(r:V->List V->Hp->VK->Prop)(m:GM):Prop where
 nx:∀ts as c,m ts as ≠ .ex c
 ok:∀(K:FZ) (G:Hp) a xs ts vs as H Q ts' T,H a=some (.lst xs)->aq K G xs ts->aq K G vs as->m ts as=.ok (ts',T)->(∀xs' v,aq K G xs' ts'->Rep K G v T->Q v (upd H a (.lst xs')))->r (.ref a) vs H Q
noncomputable def Aq(i:Nat)(m:GM)(fa:AF):EF:=λρ=>(con ρ i).bind λ_=>(fa ρ).bind λp=>(cls p.1).bind λas=>(con p.2 i).bind λts=>(m ts as).bind λz=>.ok (.v z.2 false,cJ i z.1 p.2)
theorem afc(h:∀x∈e::es,notStar x=true)(l:(e::es).length<30):((backTo p (starEach (e::es) env)).all (λx=>!x.1)&&(backToKw p (keywordEach [] env)).all (λx=>x.1.isSome)&&decide ((e::es).length+([]:List Keyword).length+(if([]:List Keyword).isEmpty then 0 else 1)<30))=true:=by
 have:(backTo p (starEach (e::es) env)).all (λx=>!x.1)=true:=by
  have:=qz (pos:=p) h env
  rw[List.all_eq_not_any_not]
  simpa using this
 rw[this]
 simpa[keywordEach,backToKw]using l
noncomputable def vM(nm:Str)(id:String)(r:V→List V→Hp→VK→Prop)(m:GM)(hp:Slot "list" nm id∧typeOf (.builtin id)=pure (.type "method_descriptor")∧∀X,QC X id r) (hs:SX r m) (i:Nat) (as:VA jE):VE (Aq i m jE) where
 ck Γ e:=gO e λaK bf bF q=>zJ aK λcM a p=>atName cM λx _=>aM bf λy l=>aQ bF (a == nm&&jY Γ i x&&decide ((y::l).length<30)&&p.endLine == q.line&&as.ck Γ (y::l))
 cs:=as.cs
 ok q o h:=by
  walk_at "o"
  simp only[an]at h
  obtain⟨⟨⟨⟨h1,h2⟩,h3⟩,h4⟩,h5⟩:=h
  cases eq_of_beq h1
  obtain⟨pa,la,na⟩:=as.ok q o h5
  refine(adg PySem.F.plainAttrs_list hp.1 hp.2.1 (hp.2.2 _) (qy o h2) pa rfl (afc na (of_decide_eq_true h3)) h4 (eY (na _ (List.mem_cons_self ..))) (qz (λy m=>na y (List.mem_cons_of_mem _ m)) _)).imp λσ H Q=>bB λR ρ G F e h=>?_
  obtain⟨us,k0,h⟩:=h.okb (Ao _ _)
  obtain⟨a,xs,hi,_,hx,_⟩:=e.con k0
  refine⟨_,hi,.inl ⟨rfl,xs,aF.of hx⟩,jC e .refl h λp h vs G1 H1 F1 e1 s1 v1=>?_⟩
  obtain⟨as,k1,h⟩:=h.okb (vO _)
  obtain⟨ts,k2,h⟩:=h.okb (Ao _ _)
  obtain⟨⟨ts',T⟩,k3,h⟩:=h.okb (hs.nx _ _)
  obtain⟨G2,e2,s2,_,r⟩:=e1.vis e s1 v1 k1
  obtain⟨a',ys,hi',hf,hy,ry⟩:=e2.con k2
  rw[hi]at hi'
  cases hi'
  refine hs.ok _ G2 a ys ts vs as H1 Q ts' T hy ry r k3 λxs' v r' rv=>?_
  obtain⟨e3,s3⟩:=e2.put k2 hf r'
  exact h v G2 _ F1 e3 (s2.trans s3) (.low rv)
noncomputable def qH:GM:=λts as=>match as with
 | [T]=>if ts.length<=100000 then .ok (ts++[T],.non)else .bad
 |_=>.bad
theorem afd:SX Ez qH:=⟨λts as c=>by unfold qH; (repeat' split) <;> (intro z; cases z),λK G a xs ts vs as H Q ts' T hx r ra q h=>by
 unfold qH at q
 (repeat' split at q) <;> cases q
 cases ra with
 |cons h1 r1 =>
  cases r1
  exact⟨a,xs,_,rfl,rfl,hx,Nat.lt_of_le_of_lt (by rw[r.length]; assumption) (by decide),h _ _ (r.app (.cons h1 .nil)) .non⟩⟩
structure Rt(K:FZ)(R:Addr->Prop)(G H:Hp)(F:Fp)(G' H':Hp)(v:V)(T:Tr)(fr:Bool):Prop where
 gg:Same G G'
 fm:Fr K H F H'
 sub:Same G' H'
 nw:∀b,G' b≠none->G b≠none\/H b=none\/Fn F b
 rg:∀b,R b->G' b=none
 vl:match fr with
  |false=>Rep K G' v T
  |true=>∃a xs ts,v=.ref a/\T=.lst ts/\(H a=none\/Fn F a)/\¬R a/\G' a=none/\H' a=some (.lst xs)/\aq K G' xs ts
def oZ(t:Tx)(R:Addr->Prop)(G H:Hp)(F:Fp)(D:Ends)(p:Fl × En):Prop:=match p.1 with
 |.nx=>∀σ' G' H' F',Ok t.K R p.2 σ' G' H' F'->aD t.K G H F G' H' F'->D.nx σ' H'
 |.bk=>∀σ' G' H' F',Ok t.K R p.2 σ' G' H' F'->aD t.K G H F G' H' F'->D.bk σ' H'
 |.ct=>∀σ' G' H' F',Ok t.K R p.2 σ' G' H' F'->aD t.K G H F G' H' F'->D.ct σ' H'
 |.rt T fr=>∀v G' H',Rt t.K R G H F G' H' v T fr->D.rt v H'
def Ts(t:Tx)(f:SF):TS:=λD σ H=>∃R ρ G F,Ok t.K R ρ σ G H F/\bJ t H F (f ρ) (oZ t R G H F D)
theorem Te.imp{t:Tx}(h:Te t f σ H Q)(k:∀v H',Q v H'->Q' v H'):Te t f σ H Q':=by
 obtain⟨R,ρ,G,F,e,h⟩:=h
 exact⟨R,ρ,G,F,e,h.go (aD.refl (G:=G)) λp h v G' H' F' e' s' v'=>k v H' (h v G' H' F' e' s' v')⟩
theorem PS.imp(h:PS X e t)(i:∀D σ H,u D σ H->t D σ H):PS X e u:=⟨λpins s σ H D I q=>h pins s σ H D I (i D σ H q)⟩
theorem eO.imp(h:eO X e t)(i:∀D σ H,u D σ H->t D σ H):eO X e u:=⟨λpins s σ H D I q=>h pins s σ H D I (i D σ H q)⟩
abbrev VS(f:SF):=Vn λcl E X e=>PS X e (Ts (tx cl E X) f)
abbrev VB(f:SF):=Vn λcl E X e=>eO X e (Ts (tx cl E X) f)
section
variable {t:Tx}{K:FZ}{R:Addr->Prop}{ρ : En}{σ : St}{G H G0 H0 G' H':Hp}{F F0 F':Fp}{D:Ends}
theorem Rt.back(s:aD K G0 H0 F0 G H F)(h:Rt K R G H F G' H' v T fr):Rt K R G0 H0 F0 G' H' v T fr:=by
 have ff:∀b,H b=none\/Fn F b->H0 b=none\/Fn F0 b:=λb=>λz=>z.elim (λz=>.inl (s.dm b z)) (s.nf b)
 refine⟨s.gg.trans h.gg,s.back h.fm,h.sub,λb z=>(h.nw b z).elim (s.nw b) λz=>.inr (ff b z),h.rg,?_⟩
 cases fr with
 |false=>exact h.vl
 |true =>
  obtain⟨a,xs,ts,e1,e2,e3,q⟩:=h.vl
  exact⟨a,xs,ts,e1,e2,ff a e3,q⟩
theorem oZ.back(s:aD t.K G0 H0 F0 G H F)(h:oZ t R G0 H0 F0 D p):oZ t R G H F D p:=by
 obtain⟨fl,ρ⟩:=p
 cases fl with
 |nx=>exact λσ' G' H' F' e u=>h σ' G' H' F' e (s.trans u)
 |bk=>exact λσ' G' H' F' e u=>h σ' G' H' F' e (s.trans u)
 |ct=>exact λσ' G' H' F' e u=>h σ' G' H' F' e (s.trans u)
 |rt T fr=>exact λv G' H' r=>h v G' H' (r.back s)
theorem vX(e:Ok t.K R ρ σ G H F)(s:aD t.K G0 H0 F0 G H F)(h:bJ t H0 F0 (f ρ) (oZ t R G0 H0 F0 D)):Ts t f D σ H:=⟨R,ρ,G,F,e,h.go s λ_=>oZ.back s⟩
end
noncomputable def S5:SF:=λρ=>.ok (.nx,ρ)
noncomputable def b0:VB S5 where
 ck _ e:=e.isEmpty
 cs:=[]
 ok:=@λ_ _ _ X e _ _ h=>by
  cases e <;> try cases h
  exact abD.imp λD σ H=>bB λR ρ G F e h=>h σ G H F e .refl
noncomputable def b1(a:VS aA):VB aA where
 ck Γ e:=aM e λx aK=>aQ aK (a.ck Γ x)
 cs:=a.cs
 ok q O h:=by
  walk_at "o"
  exact Pb (a.ok q O h)
noncomputable def Ar(f g:SF):SF:=λρ=>(f ρ).bind λp=>match p.1 with
 |.nx=>g p.2
 |fl=>.ok (fl,p.2)
theorem afe{t:Tx}(h:Ts t (Ar f g) D σ H):O9 (Ts t f) (Ts t g) D σ H:=by
 obtain⟨R,ρ,G,F,e,h⟩:=h
 refine⟨R,ρ,G,F,e,h.run (aD.refl (G:=G)) λp h=>?_⟩
 obtain⟨fl,ρ1⟩:=p
 cases fl with
 |nx=>exact λσ1 G1 H1 F1 e1 s1=>vX e1 s1 h
 |rt T fr=>exact h
 |bk=>exact h
 |ct=>exact h
noncomputable def bC(a:VS aA)(r:VB dh):VB (Ar aA dh) where
 ck Γ e:=aM e λx l=>a.ck Γ x&&r.ck Γ l
 cs:=a.cs++r.cs
 ok q O h:=by
  walk_at "o"
  simp only[an]at h
  exact(Pa (a.ok (ml q) O h.1) (r.ok (mr q) O h.2)).imp λ_ _ _=>afe
def mZ(K:FZ)(g:GF)(js:List Nat):TG:=λv σ H Q=>∃R ρ G F T,Ok K R ρ σ G H F/\Rep K G v T/\Pz (g T ρ) λρ'=>∀σ' F',Ok K R ρ' σ' G H F'->(∀b,Fn F' b->Fn F b)->(∀k,k∉js -> σ'[k]?=σ[k]?)->Q σ' H
def afg(K:FZ)(g:rZ)(js:List Nat):p8:=λvs σ H Q=>∃R ρ G F Ts,Ok K R ρ σ G H F/\aq K G vs Ts/\Pz (g Ts ρ) λρ'=>∀σ' F',Ok K R ρ' σ' G H F'->(∀b,Fn F' b->Fn F b)->(∀k,k∉js -> σ'[k]?=σ[k]?)->Q σ' H
theorem PG.imp(h:PG X e t)(i:∀v σ H Q,u v σ H Q->t v σ H Q):PG X e u:=λpins s σ H v w Q I r q=>h pins s σ H v w Q I r (i _ σ H Q q)
theorem oh.imp(h:oh X e t)(i:∀v σ H Q,u v σ H Q->t v σ H Q):oh X e u:=λpins s σ H v w Q I r q=>h pins s σ H v w Q I r (i _ σ H Q q)
theorem Pz.ok{α : Type}{r:Rs α}{P : α -> Prop}(h:Pz r P):∃a,r=.ok a/\P a:=by
 cases r with
 |ok a=>exact⟨a,rfl,h⟩
 |_=>exact h.elim
abbrev VG(f:GF)(js:List Nat):=Vn λcl E X e=>PG X e (mZ (au X.K) f js)/\(∀T ρ y,f T ρ ≠ .ex y)/\notStar e=true
abbrev Av(f:rZ)(js:List Nat):=Vn λcl E X e=>oh X e (afg (au X.K) f js)/\(∀T ρ y,f T ρ ≠ .ex y)/\∀env,(assignEach e env).length=e.length/\(assignEach e env).findIdx? (·.1)=none
noncomputable def tD(Γ : Gx)(i:Nat)(x:Str):Bool := Γ.N[i]? == some x&&(Γ.sc.names.lookup x == some .local || Γ.sc.names.lookup x == some .cell&&Γ.fn x)
def Wr(X:Cx)(i:Nat)(x:Str):Prop:=X.N[i]?=some x/\Loc X.env.scope x/\(X.fn x=true\/X.env.scope.names.lookup x=some .local)
theorem vY(o:Ox cl Γ E X)(h:tD Γ i x=true):Wr X i x:=by
 obtain⟨h1,h2⟩:=an.mp h
 refine⟨by rw[o.N]; exact eq_of_beq h1,?_⟩
 unfold Loc
 rw[o.s,o.f]
 rcases(Bool.or_eq_true _ _).mp h2 with h|h
 .exact⟨.inl (eq_of_beq h),.inr (eq_of_beq h)⟩
 .exact⟨.inr (eq_of_beq (an.mp h).1),.inl (an.mp h).2⟩
noncomputable def gN(i:Nat):GF:=λT ρ=>.ok (ρ.set i (.sh T))
theorem S6(T:Tr)(ρ : En)(c:Str):gN i T ρ ≠ .ex c:=by intro z; cases z
theorem S7{K:FZ}(h:mZ K (gN i) [i] v σ H Q):kY i v σ H Q:=by
 obtain⟨R,ρ,G,F,T,e,r,h⟩:=h
 obtain⟨F',e',s⟩:=e.vW i r
 exact h _ F' e' s λk n=>ji λz=>n (by rw[z]; exact List.mem_singleton.mpr rfl)
noncomputable def gV(i:Nat):VG (gN i) [i] where
 ck Γ e:=atName e λx _=>tD Γ i x
 cs:=[]
 ok q o h:=by
  walk_at "o"
  obtain⟨w1,w2,w3⟩:=vY o h
  exact⟨(abJ o.d w1 w2 w3).imp λ_ _ _ _=>S7,S6,rfl⟩
noncomputable def vZ:rZ:=λTs ρ=>match Ts with
 | []=>.ok ρ
 |_=>.bad
noncomputable def lF(f:GF)(g:rZ):rZ:=λTs ρ=>match Ts with
 |T::r=>(f T ρ).bind λρ'=>g r ρ'
 | []=>.bad
noncomputable def fP:Av vZ [] where
 ck _ e:=e.isEmpty
 cs:=[]
 ok:=@λ_ _ _ X e _ _ h=>by
  cases e <;> try cases h
  refine⟨abM.imp λvs σ H Q ⟨R,ρ,G,F,Ts,e,r,h⟩=>?_,λT _ _=>by cases T <;> (intro z; cases z),λ_=>⟨rfl,rfl⟩⟩
  cases r with
  |nil=>exact⟨rfl,h σ F e (λ_ z=>z) λ_ _=>rfl⟩
  |cons _ _=>exact h.elim
theorem HF(h:notStar e=true):assignEach (e::es) env=(false,assign e env)::assignEach es env:=by
 cases e <;> first|rfl|cases h
noncomputable def bK(a:VG aA a_j)(r:Av dh HJ):Av (lF aA dh) (a_j++HJ) where
 ck Γ e:=aM e λx y=>a.ck Γ x&&r.ck Γ y
 cs:=a.cs++r.cs
 ok q O h:=by
  walk_at "o"
  simp only[an]at h
  obtain⟨pa,na,ea⟩:=a.ok (ml q) O h.1
  obtain⟨pb,nb,eb⟩:=r.ok (mr q) O h.2
  refine⟨(abN pa pb (by rw[HF ea]; rfl)).imp λvs σ H Q ⟨R,ρ,G,F,Ts,e,r,h⟩=>?_,λTs ρ c=>?_,λenv=>?_⟩
  .cases r with
   |nil=>exact h.elim
   | @cons x T xs Ts r1 r2 =>
    obtain⟨ρ2,k,h⟩:=h.ok
    obtain⟨ρ1,k1,k2⟩:=cj k
    refine⟨x,xs,rfl,R,ρ,G,F,T,e,r1,?_⟩
    rw[k1]
    intro σ1 F1 e1 f1 n1
    refine⟨R,ρ1,G,F1,Ts,e1,r2,?_⟩
    rw[k2]
    refine λσ2 F2 e2 f2 n2=>h σ2 F2 e2 (λb z=>f1 b (f2 b z)) λk n=>?_
    rw[List.mem_append,not_or]at n
    rw[n2 k n.2,n1 k n.1]
  .cases Ts with
   |nil=>intro z; cases z
   |cons T r=>exact Ai (na T ρ) (λρ'=>nb r ρ') c
  .rw[HF ea]
   obtain⟨e1,e2⟩:=eb env
   exact⟨by rw[List.length_cons,e1,List.length_cons],by rw[List.findIdx?_cons,e2]; rfl⟩
noncomputable def gT(n:Nat)(f:rZ):GF:=λT ρ=>match T with
 |.tup Ts=>if Ts.length=n then f Ts ρ else .bad
 |_=>.bad
noncomputable def fQ(n:Nat)(r:Av dh HJ):VG (gT n dh) HJ where
 ck Γ e:=iM e λl _ _=>l.length == n&&r.ck Γ l
 cs:=r.cs
 ok q o h:=by
  walk_at "o"
  simp only[an]at h
  obtain⟨pb,nb,eb⟩:=r.ok q o h.2
  refine⟨(abP o.l pb ((eb _).1.trans (eq_of_beq h.1)) (eb _).2).imp λv σ H Q ⟨R,ρ,G,F,T,e,r,h⟩=>?_,λT ρ y=>?_,rfl⟩
  .cases T <;> try exact h.elim
   dsimp only[gT]at h
   split at h
   case isFalse=>exact h.elim
   cases r with
   | @tup a xs _ q r=>exact⟨a,xs,rfl,(e.sub.jz q).toK,by rw[r.length]; assumption,R,ρ,G,F,_,e,r,h⟩
  .cases T <;> first|(intro z; cases z; done)|(dsimp only[gT]; split <;> first|exact nb _ _ _|(intro z; cases z))
noncomputable def qI:Expr->Bool
 |.ListComp .. => false
 |.SetComp .. => false
 |.DictComp .. => false
 |_=>true
theorem v5(h:qI e=true):swapsWith e t l env=pure false:=by
 cases e <;> first|rfl|(unfold qI at h; cases h)
abbrev VC(f:EF):=Vn λcl E X e=>PE X e (Te (tx cl E X) f)/\∀i y p sp,Wr X i y->PS X (.Assign [.Name y p] e sp) (kZ (Te (tx cl E X) f) (kY i))
noncomputable def gh(a:VC f):VE f:=⟨a.ck,a.cs,λq O h=>(a.ok q O h).1⟩
noncomputable def aE(a:VE aA):VC aA where
 ck Γ e:=qI e&&a.ck Γ e
 cs:=a.cs
 ok q o h:=by
  simp only[an]at h
  have pa:=a.ok q o h.2
  exact⟨pa,λi y p sp w=>DQ o.d w.1 w.2.1 pa (v5 h.1) w.2.2⟩
noncomputable def Aw(Γ : Gx)(i:Nat)(a:VC f):Stmt->Bool
 |.Assign [.Name x _] v _=>tD Γ i x&&a.ck Γ v
 |_=>false
theorem S8{a:VC f}(q:∀y∈a.cs,y.ok cl X)(o:Ox cl Γ E X)(h:Aw Γ i a e=true):PS X e (kZ (Te (tx cl E X) f) (kY i)):=by
 unfold Aw at h
 split at h
 case h_2=>cases h
 simp only[an]at h
 exact(a.ok q o h.2).2 _ _ _ _ (vY o h.1)
noncomputable def v7(f:EF)(g:GF):SF:=λρ=>(f ρ).bind λp=>match p.1 with
 |.v T _=>(g T p.2).bind λρ'=>.ok (.nx,ρ')
 |.s _=>.bad
theorem S9{t:Tx}(nx:∀T ρ y,g T ρ ≠ .ex y)(h:Ts t (v7 f g) D σ H):kZ (Te t f) (mZ t.K g js) D σ H:=by
 obtain⟨R,ρ,G,F,e,h⟩:=h
 refine dN e .refl h λp h v G1 H1 F1 e1 s1 v1=>?_
 obtain⟨r,ρ1⟩:=p
 cases r with
 |s i=>exact h.elim
 |v T fr =>
  obtain⟨G2,e2,s2,_,r⟩:=e1.sY e s1 v1 rfl
  obtain⟨ρ',k,h⟩:=h.okb (nx T ρ1)
  exact⟨R,ρ1,G2,F1,T,e2,r,by rw[k]; exact λσ' F' e' hf _=>h σ' G2 H1 F' e' (s2.trans (.sub hf))⟩
noncomputable def sA(i:Nat)(a:VC aA):VS (v7 aA (gN i)) where
 ck Γ e:=Aw Γ i a e
 cs:=a.cs
 ok q o h:=(S8 q o h).imp λ_ _ _ h=>Te.imp (S9 (js:=[i]) S6 h) λ_ _=>S7
noncomputable def HN(i:Nat)(f:EF):SF:=λρ=>(f ρ).bind λp=>match p.1 with
 |.v (.lst ts) true=>.ok (.nx,p.2.set i (.ow ts))
 |_=>.bad
noncomputable def sO(i:Nat)(a:VC aA):VS (HN i aA) where
 ck Γ e:=Aw Γ i a e
 cs:=a.cs
 ok q o h:=by
  refine(S8 q o h).imp λD σ H=>bB λR ρ G F e h=>dN e .refl h λp h v G1 H1 F1 e1 s1 v1=>?_
  obtain⟨r,ρ1⟩:=p
  dsimp only at h
  split at h
  case h_2=>exact h.elim
  obtain⟨⟨a,xs,us,rfl,z,n,g,hx,r⟩,f⟩:=v1
  cases z
  obtain⟨F',e',hf⟩:=e1.afb i hx g (f rfl a rfl) (e.rn n) r
  exact h _ G1 H1 F' e' ⟨s1.gg,s1.fr,s1.nw,λb z=>(hf b z).elim (λz=>.inl (z▸n)) (s1.nf b),s1.dm⟩
noncomputable def Tc:Expr->Bool
 |.Tuple .. => false
 |_=>true
theorem afh(h:Tc v=true):swappedStores [.Tuple l k p] v env=pure none:=by
 cases v <;> first|rfl|cases h
noncomputable def qJ(a:VE aA)(g:VG gY jG):VS (v7 aA gY) where
 ck Γ e:=oU e λaK v _=>aM aK λbf bF=>iM bf λl k p=>aQ bF (qI v&&Tc v&&a.ck Γ v&&g.ck Γ (.Tuple l k p))
 cs:=a.cs++g.cs
 ok q o h:=by
  walk_at "o"
  simp only[an]at h
  obtain⟨⟨⟨h1,h2⟩,h3⟩,h4⟩:=h
  obtain⟨pg,ng,eg⟩:=g.ok (mr q) o h4
  exact(Ph (a.ok (ml q) o h3) pg (by unfold swapsWithSole; exact v5 h1) (afh h2) (by rw[HF eg]; rfl)).imp λ_ _ _=>S9 ng
noncomputable def HS(Γ : Gx)(i:Nat)(x:Str):Bool := Γ.N[i]? == some x&&Γ.sc.names.lookup x == some .local
theorem tE(o:Ox cl Γ E X)(h:HS Γ i x=true):X.N[i]?=some x/\X.env.scope.names.lookup x=some .local:=by
 obtain⟨h1,h2⟩:=an.mp h
 exact⟨by rw[o.N]; exact eq_of_beq h1,by rw[o.s]; exact eq_of_beq h2⟩
theorem afi{env:Env}(n1:notStar u=true)(n2:notStar v=true)(k1:env.scope.names.lookup x=some .local)(k2:env.scope.names.lookup y=some .local)(h4:p.line=p'.line)(e1:(foldedForSure 8 u&&foldedForSure 8 v)=false)(e2:(constantsAlone 8 u&&constantsAlone 8 v)=false)(h8:x≠y)(h9:env.scope.kind=.function):swappedStores [.Tuple [.Name x p,.Name y p'] k q] (.Tuple [u,v] k' q') env=pure (some [x,y]):=by
 have kx:env.kindOf x=some .local:=k1
 have ky:env.kindOf y=some .local:=k2
 have hb:env.blockKind=.function:=by unfold Env.blockKind; rw[h9]; rfl
 unfold swappedStores
 have hy:(y == x)=false:=by simpa using λz=>h8 (z.symm)
 have hx:(x == y)=false:=by simpa using h8
 have ep:∀(z:Str) (p:Pos),(Expr.Name z p).pos=p:=λ_ _=>rfl
 simp[hb,kx,ky,h4,List.eraseDups,List.filterMap_cons,ep,List.eraseDupsBy,List.eraseDupsBy.loop,hx,hy]
 rw[if_neg]
 .rw[if_neg λh=>(by rw[h.1,h.2]at e1; cases e1),if_neg λh=>(by rw[h.1,h.2]at e2; cases e2)]
 .rintro(h|h)
  .cases u <;> first|cases h; done|cases n1
  .cases v <;> first|cases h; done|cases n2
noncomputable def Td(i j:Nat)(fa:AF):SF:=λρ=>(fa ρ).bind λp=>(cls p.1).bind λTs=>match Ts with
 | [T,U]=>.ok (.nx,(p.2.set i (.sh T)).set j (.sh U))
 |_=>.bad
noncomputable def HW(i j:Nat)(a:VA aA):VS (Td i j aA) where
 ck Γ e:=oU e λaK bf _=>aM aK λbF cM=>iM bF λdg _ _=>aM dg λeV jk=>atName eV λx p=>aM jk λm5 m7=>atName m5 λy p'=>aQ m7 (aQ cM (iM bf λHX _ _=>aM HX λu HY=>aM HY λv Ia=>aQ Ia (HS Γ i x&&HS Γ j y&&decide (i≠j)&&decide (p.line=p'.line)&&a.ck Γ [u,v] && !(foldedForSure 8 u&&foldedForSure 8 v) && !(constantsAlone 8 u&&constantsAlone 8 v)&&decide (x≠y)&&decide (Γ.sc.kind=.function))))
 cs:=a.cs
 ok q o h:=by
  walk_at "o"
  simp only[an]at h
  obtain⟨⟨⟨⟨⟨⟨⟨⟨h1,h2⟩,h3⟩,h4⟩,h5⟩,h6⟩,h7⟩,h8⟩,h9⟩:=h
  obtain⟨pa,_,na⟩:=a.ok q o h5
  refine(abT o.l o.d (tE o h1).1 (tE o h2).1 (of_decide_eq_true h3) (tE o h1).2 (tE o h2).2 pa (afi (na _ (List.mem_cons_self ..)) (na _ (List.mem_cons_of_mem _ (List.mem_cons_self ..))) (tE o h1).2 (tE o h2).2 (of_decide_eq_true h4) ((Bool.not_eq_true' _).mp h6) ((Bool.not_eq_true' _).mp h7) (of_decide_eq_true h8) (by rw[o.s]; exact of_decide_eq_true h9)) rfl).imp λD σ H=>bB λR ρ G F e h=>jC e .refl h λp h vs G1 H1 F1 e1 s1 v1=>?_
  obtain⟨Ts,k1,h⟩:=h.okb (vO _)
  obtain⟨G2,e2,s2,_,r⟩:=e1.vis e s1 v1 k1
  split at h
  case h_2=>exact h.elim
  cases r with
  |cons r1 r =>
   cases r with
   |cons r2 r =>
    cases r
    obtain⟨F3,e3,f3⟩:=e2.vW i r1
    obtain⟨F4,e4,f4⟩:=e3.vW j r2
    exact⟨_,_,rfl,h _ G2 H1 F4 e4 (s2.trans (.sub λb z=>f3 b (f4 b z)))⟩
noncomputable def Ib(f:EF):SF:=λρ=>(f ρ).bind λp=>.ok (.nx,p.2)
noncomputable def jm(a:VE aA):VS (Ib aA) where
 ck Γ e:=zL e λx _=>qI x&&a.ck Γ x
 cs:=a.cs
 ok q o h:=by
  walk_at "o"
  simp only[an]at h
  exact(abF (a.ok q o h.2) (v5 h.1)).imp λD σ H=>bB λR ρ G F e h=>dN e .refl h λp h v G1 H1 F1 e1 s1 v1=>h σ G1 H1 F1 e1 s1
noncomputable def Ie(f:EF):SF:=λρ=>(f ρ).bind λp=>match p.1 with
 |.v T fr=>.ok (.rt T fr,p.2)
 |.s i=>match p.2[i]? with
  |some (.ow ts)=>.ok (.rt (.lst ts) true,p.2)
  |_=>.bad
noncomputable def aH(a:VE aA):VS (Ie aA) where
 ck Γ e:=vp e λaK _=>oV aK λx=>a.ck Γ x
 cs:=a.cs
 ok q o h:=by
  walk_at "o"
  refine(Pg (a.ok q o h)).imp λD σ H=>bB λR ρ G F e h=>dN e .refl h λp h v G1 H1 F1 e1 s1 v1=>?_
  obtain⟨r,ρ1⟩:=p
  have rg:=λb z=>(e1.rg b z).1
  match r,h,v1 with
  |.v T false,h,v1=>exact h v G1 H1 ⟨s1.gg,⟨s1.fr,e1.tb⟩,e1.sub,s1.nw,rg,v1.1⟩
  |.v T true,h,⟨⟨a,xs,ts,q1,q2,n,g,q3,q4⟩,_⟩=>exact h v G1 H1 ⟨s1.gg,⟨s1.fr,e1.tb⟩,e1.sub,s1.nw,rg,a,xs,ts,q1,q2,.inl n,e.rn n,g,q3,q4⟩
  |.s i,h,v1 =>
   dsimp only at h
   split at h
   case h_2=>exact h.elim
   rename_i ts k
   have z:=e1.sl i
   rw[k]at z
   obtain⟨a,xs,h1,h2,h3,h4,h5⟩:=z
   have f:Fn F1 a:=⟨i,by rw[h2]; exact List.mem_singleton.mpr rfl⟩
   have v1 : σ[i]?=some (some v):=v1
   rw[h1]at v1
   cases v1
   exact h _ G1 H1 ⟨s1.gg,⟨s1.fr,e1.tb⟩,e1.sub,s1.nw,rg,a,xs,ts,rfl,rfl,s1.nf a f,h3,e1.hid a f,h4,h5⟩
noncomputable def Ig(c:BF)(f g:SF):SF:=λρ=>(c ρ).bind λp=>if p.1=true then f p.2 else g p.2
noncomputable def sI(t:VT Hu)(a:VB aA)(b:VB bO):VS (Ig Hu aA bO) where
 ck Γ e:=zM e λz x y _=>t.ck Γ z&&a.ck Γ x&&b.ck Γ y
 cs:=t.cs++(a.cs++b.cs)
 ok q o h:=by
  walk_at "o"
  simp only[an]at h
  refine(abI (t.ok (ml q) o h.1.1) (a.ok (ml (mr q)) o h.1.2) (b.ok (mr (mr q)) o h.2)).imp λD σ H=>bB λR ρ G F e h=>oO e .refl h λp h G1 H1 F1 e1 s1=>?_
  split at h <;> rename_i c
  .rw[if_pos c]; exact vX e1 s1 h
  .rw[if_neg c]; exact vX e1 s1 h
noncomputable def cV(i:Nat)(ρ : En):En:=match ρ[i]? with
 |some (.ow ts)=>ρ.set i (.sh (.lst ts))
 |_=>ρ
theorem Ok.cV{K:FZ}(e:Ok K R ρ σ G H F)(i:Nat):∃G' F',Ok K R (L2.cV i ρ) σ G' H F'/\aD K G H F G' H F':=by
 unfold L2.cV
 split
 case h_2=>exact⟨G,F,e,.refl⟩
 rename_i ts k
 have z:=e.sl i
 rw[k]at z
 obtain⟨a,xs,h1,h2,h3,h4,h5⟩:=z
 have f:Fn F a:=⟨i,by rw[h2]; exact List.mem_singleton.mpr rfl⟩
 have g:=e.hid a f
 have m:Same G (upd G a (.lst xs)):=iI g _
 have l:=(List.getElem?_eq_some_iff.mp k).1
 refine⟨_,fO F i [],e.one (G':=upd G a (.lst xs)) i [] (by rw[List.length_set,e.len]) (λj n=>⟨ji n,rfl⟩) m (λb o q=>?_) e.tb (λb q=>?_) (λ_ _ _ _ _ h=>h) (λb h=>(e.rg b h).2) (λb h=>by cases h) ?_,m,λ_ _ h _ _=>h,λb q=>?_,λb z=>?_,λ_ h=>h⟩
 .by_cases z:b=a
  .subst z; rw[bY]at q; rw[h4]; exact q
  .rw[aJ z]at q; exact e.sub b o q
 .by_cases z:b=a
  .subst z; exact .inr ⟨λj n z=>n (e.di j i b z (by rw[h2]; exact List.mem_singleton.mpr rfl)),e.tb.nt h4,h3⟩
  .rw[aJ z]at q; exact .inl q
 .rw[gW l]
  exact⟨rfl,.ref a,h1,.lst (aF.of bY) (h5.mono m)⟩
 .by_cases z:b=a
  .subst z; exact .inr (.inr f)
  .rw[aJ z]at q; exact .inl q
 .rcases oY z with z|⟨j,_,z⟩
  .cases z
  .exact .inr ⟨j,z⟩
noncomputable def Tf(i:Nat)(f:SF):SF:=λρ=>f (cV i ρ)
noncomputable def sZ(i:Nat)(a:VS aA):VS (Tf i aA) where
 ck:=a.ck
 cs:=a.cs
 ok q o h:=(a.ok q o h).imp λD σ H=>bB λR ρ G F e h=>by
  obtain⟨G',F',e',s'⟩:=e.cV i
  exact vX e' s' h
noncomputable def afj(c:Str)(f:EF):SF:=λρ=>(f ρ).bind λ_=>.ex c
noncomputable def qK(x:Str)(a:VE aA):VS (afj x aA) where
 ck Γ e:=zN e λaK bf _=>oV aK λbF=>gO bF λcM dg eV _=>atName cM λy _=>aM dg λv jk=>aQ jk (aQ eV (qw bf (y == x&&Γ.R.contains y&&jD Γ y&&notStar v&&a.ck Γ v)))
 cs:=a.cs
 ok q o h:=by
  walk_at "o"
  simp only[an]at h
  obtain⟨⟨⟨⟨h1,h2⟩,h3⟩,h4⟩,h5⟩:=h
  cases eq_of_beq h1
  exact(adE (o.R _ (by simpa using h2)).2 (o.R _ (by simpa using h2)).1 PySem.F.excBase_ValueError o.l (a.ok q o h5) (cZ o h3).1 (cZ o h3).2 (eY h4)).imp λD σ H=>bB λR ρ G F e h=>dN e .refl h λp h v G1 H1 F1 e1 s1 v1=>⟨rfl,h H1 ⟨s1.fr,e1.tb⟩⟩
noncomputable def dw{α : Type}:Rs α -> Rs α
 |.bad=>.bad
 |.ex _=>.bad
 |.ok a=>.ok a
theorem PS.uQ{X:Cx}{st:Stmt}{t:TS}(h:PS X.uQ st t):PS X st t:=⟨λpins s σ H D I hw =>
 wpAny_mono (h pins s σ H D (I.wish _) hw) (λ_ _ q=>q.n8) λ_ _ z=>False.elim z⟩
noncomputable def v8(f:SF):SF:=λρ=>dw (f ρ)
noncomputable def nG(Γ : Gx):Gx:={Γ with R:=[],nx:=true,L:=[] }
theorem afk(o:Ox cl Γ E X):Ox cl (nG Γ) E0 X.uQ:=⟨o.N,o.s,o.d,o.l,o.r,Q8,o.B,(λ_ z=>nomatch z),o.x,o.f,(λ_=>rfl),λ_ z=>nomatch z⟩
noncomputable def sN(a:VS aA):VS (v8 aA) where
 ck Γ e:=a.ck (nG Γ) e
 cs:=a.cs
 ok:=@λcl E Γ X e q o h=>(PS.uQ (a.ok (X:=X.uQ) q (afk o) h)).imp λD σ H=>bB λR ρ G F e h=>⟨R,ρ,G,F,e,by
  unfold v8 at h
  cases k:aA ρ <;> rw[k]at h <;> first|exact h|exact h.elim⟩
theorem Tj(o:Ox cl Γ E X)(h : Γ.nx=true):PassesOwn (model X.prog X.w) X.A X.env X.xe:=by
 rw[o.n h]; exact .never
noncomputable def wg(c:BF)(b:SF):Nat->SF
 | 0=>λ_=>.bad
 | n + 1=>λρ => (c ρ).bind λp=>if p.1=true then (b p.2).bind λq=>(match q.1 with
  |.nx=>wg c b n q.2
  |.ct=>wg c b n q.2
  |.bk=>.ok (.nx,q.2)
  |.rt T fr=>.ok (.rt T fr,q.2))else .ok (.nx,p.2)
noncomputable def Tn(fu:En->Nat)(c:BF)(b:SF):SF:=λρ=>wg c b (fu ρ) ρ
noncomputable def sW(fu:En->Nat)(k:VT tH)(b:VB bO):VS (Tn fu tH bO) where
 ck Γ e:=zP e λt l aK _=>aQ aK (Γ.nx&&k.ck Γ t&&b.ck Γ l)
 cs:=k.cs++b.cs
 ok:=@λcl E Γ X e q o h=>by
  walk_at "o"
  simp only[an]at h
  refine(abZ (Tj o h.1.1) (k.ok (ml q) o h.1.2) (b.ok (mr q) o h.2)).imp λD σ H=>bB λR ρ G F e h=>?_
  refine⟨λm σ' H'=>∃ρ' G' F',Ok (au X.K) R ρ' σ' G' H' F'/\aD (au X.K) G H F G' H' F'/\bJ (tx cl E X) H F (wg tH bO m ρ') (oZ (tx cl E X) R G H F D),⟨fu ρ,ρ,G,F,e,.refl,h⟩,?_⟩
  rintro m σ1 H1 ⟨ρ1,G1,F1,e1,s1,h1⟩
  cases m with
  |zero=>exact h1.elim
  |succ n =>
   refine oO e1 s1 h1 λp h G2 H2 F2 e2 s2=>?_
   split at h <;> rename_i d
   .rw[if_pos d]
    refine⟨_,λσ' H' q=>⟨n,Nat.lt_succ_self n,q⟩,R,p.2,G2,F2,e2,h.run (s1.trans s2) λq h=>?_⟩
    obtain⟨fl,ρ3⟩:=q
    cases fl with
    |nx=>exact λσ3 G3 H3 F3 e3 s3=>⟨ρ3,G3,F3,e3,(s1.trans s2).trans s3,h⟩
    |ct=>exact λσ3 G3 H3 F3 e3 s3=>⟨ρ3,G3,F3,e3,(s1.trans s2).trans s3,h⟩
    |bk=>exact λσ3 G3 H3 F3 e3 s3=>h σ3 G3 H3 F3 e3 ((s1.trans s2).trans s3)
    |rt T fr=>exact λv G' H' r=>h v G' H' (r.back (s1.trans s2))
   .rw[if_neg d]
    exact h σ1 G2 H2 F2 e2 (s1.trans s2)
def Ax(K:FZ)(G:Hp)(J:It)(us:List Tr):Prop:=∀G' H',Same G G'->Same G' H'->∀i,(i=us.length->J.stop i H')/\∀u,us[i]?=some u->J.go i H'/\∀x cU,J.jU i H' x cU->∃G'',Gw K G' H' G'' cU/\Rep K G'' x u
def Ti(t:Tx)(f:IF):TI:=λσ H Q=>∃R ρ G F,Ok t.K R ρ σ G H F/\bJ t H F (f ρ) λp=>∀J G' H' F',Ok t.K R p.2 σ G' H' F'->aD t.K G H F G' H' F'->Ax t.K G' J p.1->Q J H'
theorem PI.imp(h:PI X tg e t)(i:∀σ H Q,u σ H Q->t σ H Q):PI X tg e u:=λpins s σ H Q I q=>h pins s σ H Q I (i σ H Q q)
noncomputable def Ih:Expr->Bool
 |.Set .. => false
 |_=>true
theorem jo(h:Ih e=true)(x:Value):foldedSetIterable e env x=pure x:=by
 cases e <;> first|rfl|cases h
abbrev VI(f:IF):=Vn (τ := Expr × Expr) λcl E X e=>PI X e.1 e.2 (Ti (tx cl E X) f)/\Ih e.2=true
noncomputable def jZ(g:GF)(b:SF):List Tr->SF
 | []=>λρ=>.ok (.nx,ρ)
 | u :: us=>λρ => (g u ρ).bind λρ1=>(b ρ1).bind λq=>(match q.1 with
  |.nx=>jZ g b us q.2
  |.ct=>jZ g b us q.2
  |.bk=>.ok (.nx,q.2)
  |.rt T fr=>.ok (.rt T fr,q.2))
noncomputable def Tp(fi:IF)(g:GF)(b:SF):SF:=λρ=>(fi ρ).bind λp=>jZ g b p.1 p.2
noncomputable def sF(i:VI j4)(g:VG gY jG)(b:VB bO):VS (Tp j4 gY bO) where
 ck Γ e:=zQ e λt y l aK _=>aQ aK (Γ.nx&&i.ck Γ (t,y)&&g.ck Γ t&&b.ck Γ l)
 cs:=i.cs++(g.cs++b.cs)
 ok:=@λcl E Γ X e q o h=>by
  walk_at "o"
  simp only[an]at h
  obtain⟨⟨⟨h1,h2⟩,h3⟩,h4⟩:=h
  obtain⟨pi,ni⟩:=i.ok (ml q) o h2
  obtain⟨pg,ng,_⟩:=g.ok (ml (mr q)) o h3
  refine(acd (Tj o h1) o.l pi pg (b.ok (mr (mr q)) o h4) (jo ni)).imp λD σ H=>bB λR ρ G F e h=>⟨R,ρ,G,F,e,h.run (aD.refl (G:=G)) λp h J G1 H1 F1 e1 s1 it=>?_⟩
  obtain⟨us,ρ1⟩:=p
  refine⟨λi m σ' H'=>m=us.length-i/\i<=us.length/\∃ρ' G' F',Ok (au X.K) R ρ' σ' G' H' F'/\aD (au X.K) G H F G' H' F'/\Same G1 G'/\bJ (tx cl E X) H F (jZ gY bO (us.drop i) ρ') (oZ (tx cl E X) R G H F D),⟨us.length,by simp,Nat.zero_le _,ρ1,G1,F1,e1,s1,Same.refl _,h⟩,?_⟩
  rintro i m σ2 H2 ⟨rfl,hi,ρ2,G2,F2,e2,s2,m2,h2⟩
  have q:=it G2 H2 m2 e2.sub i
  by_cases hlt:i<us.length
  .rw[List.drop_eq_getElem_cons hlt]at h2
   obtain⟨go,y⟩:=q.2 us[i] (by simp[hlt])
   refine .inr ⟨go,_,λσ' H' z=>⟨us.length-(i+1),by omega,rfl,hlt,z⟩,λx H3 yl=>?_⟩
   obtain⟨G3,w3,r3⟩:=y x H3 yl
   obtain⟨e3,s3⟩:=e2.grow w3
   obtain⟨ρ4,k4,h⟩:=h2.okb (ng _ _)
   refine⟨R,ρ2,G3,F2,_,e3,r3,?_⟩
   rw[k4]
   intro σ4 F4 e4 f4 _
   have s4:=s3.trans (aD.sub f4)
   refine⟨R,ρ4,G3,F4,e4,h.run (s2.trans s4) λr h=>?_⟩
   obtain⟨fl,ρ5⟩:=r
   cases fl with
   |nx=>exact λσ5 G5 H5 F5 e5 s5=>⟨ρ5,G5,F5,e5,(s2.trans s4).trans s5,m2.trans (s4.gg.trans s5.gg),h⟩
   |ct=>exact λσ5 G5 H5 F5 e5 s5=>⟨ρ5,G5,F5,e5,(s2.trans s4).trans s5,m2.trans (s4.gg.trans s5.gg),h⟩
   |bk=>exact λσ5 G5 H5 F5 e5 s5=>h σ5 G5 H5 F5 e5 ((s2.trans s4).trans s5)
   |rt T fr=>exact λv G' H' r=>h v G' H' (r.back (s2.trans s4))
  .have z:i=us.length:=by omega
   subst z
   rw[List.drop_length]at h2
   exact .inl ⟨q.1 rfl,h2 σ2 G2 H2 F2 e2 s2⟩
noncomputable def Ite(K:FZ)(l:Addr):It where
 go:=λi H=>∃xs x,aF K H l xs/\xs[i]?=some x
 jU:=λi H v H'=>∃(T:Addr) (x:V),v=.ref T/\H T=none/\H'=upd H T (.tup [.int (i:Int),x])/\∀xs,aF K H l xs->xs[i]?=some x
 stop:=λi H=>∃xs,aF K H l xs/\i=xs.length
def afl(l e it:Addr)(i:Nat)(h:Heap):Prop:=(∃old,IsEnum h e it i old)/\h.IsListIter it l i
section
variable {P:Program}{w:World}{K:FZ}
theorem afm(l e it:Addr)(hei:e≠it)(hle:l≠e)(hli:l≠it):Turn P w K (.Tuple elts k pos) (Ite K l) [e,it] e (afl l e it) where
 mem:=by simp
 obj:=λi h st b hb=>by
  obtain⟨⟨old,he⟩,⟨o1,e1,_,d1⟩⟩:=st
  have hb':b=e\/b=it:=by simpa using hb
  rcases hb' with rfl|rfl
  .exact⟨_,he,λv q=>nomatch q⟩
  .exact⟨o1,e1,λv q=>by rw[d1]at q; cases q⟩
 keep:=λi h h' st kp=>by
  obtain⟨⟨old,he⟩,h1⟩:=st
  exact⟨⟨old,kp e (by simp) _ he⟩,h1.at λo q=>kp it (by simp) o q⟩
 item:=by
  intro X hP hw hK hc i pins s σ H E I hf st hg
  subst hP hw hK
  obtain⟨xs,x,q1,hx⟩:=hg
  obtain⟨gJ,mH,p1,_⟩:=I.list q1
  obtain⟨u,hu,ru⟩:=mH.get hx
  have W:=WalksT.enumerate (prog:=X.prog) (w:=X.w) (A:=X.A) (I.ok.hd hc) e it l hei hle hli gJ.toArray
  have lt1:i<gJ.length:=(List.getElem?_eq_some_iff.mp hu).1
  refine W.item i s _ E (by simp; lia) ⟨st.1,st.2,p1.isList⟩ λT vals h' tk hp hT ht mid kk=>?_
  obtain⟨t0,u',e1,rfl⟩:=hp
  have eu:u'=u:=by
   have:gJ[i]?=some u':=by simpa using e1
   rw[hu]at this; cases this; rfl
  subst eu
  refine⟨.ref T,rfl,?_⟩
  refine W.go elts k pos i T _ _ E mid λh'' st' u6=>?_
  have nT:=W.apart i T _ mid
  have ob:∀b∈[e,it],b<s.heap.objs.size:=λb hb=>by
   obtain⟨⟨old,he⟩,⟨o1,e1,_,d1⟩⟩:=st
   have hb':b=e\/b=it:=by simpa using hb
   rcases hb' with rfl|rfl
   .exact Heap.lt_size he
   .exact Heap.lt_size e1
  have Ga:T∉[e,it]:=λm=>absurd (ob T m) (Nat.not_lt.mpr hT)
  have Gb:IsTup h'' T #[.int i t0,u']:=by
   obtain⟨o,e',r⟩:=ht
   exact⟨o,u6 T o nT e',r⟩
  have th:∀b∈[e,it],∃o,h''.get? b=some o:=λb hb=>by
   obtain⟨⟨old,he⟩,⟨o1,e1,_,d1⟩,_⟩:=st'
   have hb':b=e\/b=it:=by simpa using hb
   rcases hb' with rfl|rfl
   .exact⟨_,he⟩
   .exact⟨_,e1⟩
  have I':Inv X pins σ (upd H T (.tup [.int (i:Int),x])) {s with heap:=h'',toks:=tk }:=I.FT (its:=[.int i t0,u']) hf (λb o n e=>u6 b o n (kk b o n e)) th hT Gb (.cons ⟨_,rfl⟩ (.cons ru .nil)) (by show 2<=sizeLine; decide)
  refine⟨.ref T,_,I',rfl,⟨T,x,rfl,I.hok.fresh hT,rfl,λxs' a1=>?_⟩,⟨st'.1,st'.2.1⟩,λb hb=>?_⟩
  .rw[I.nZ a1 q1]
   exact hx
  .have nb:b≠T:=by
    intro e0
    rw[e0]at hb
    exact Ga hb
   rw[aJ nb]
   exact(hf b hb).1
 done:=by
  intro X hP hw hK hc i pins s σ H E I hf st hg
  subst hP hw hK
  obtain⟨xs,q1,e1⟩:=hg
  obtain⟨gJ,mH,p1,_⟩:=I.list q1
  have W:=WalksT.enumerate (prog:=X.prog) (w:=X.w) (A:=X.A) (I.ok.hd hc) e it l hei hle hli gJ.toArray
  have ei:i=gJ.toArray.size:=by simp[e1,mH.length]
  subst ei
  exact W.done s _ E ⟨st.1,st.2,p1.isList⟩ λh' tk kk=>⟨rfl,I.FW hf λb o n e=>kk b o n e⟩
 self:=λA i s Q E st h=>by
  obtain⟨⟨old,he⟩,_⟩:=st
  exact wpAny_pyIter_enum he h
end
section
variable {X:Cx}
def afn(K:FZ)(ta:TA):TI:=λσ H R=>ta σ H λvs H1=>∃l,vs=[.ref l]/\(∃xs,aF K H1 l xs)/\R (Ite K l) H1
theorem afo(hm:X.mg "enumerate" = none) (ha:PA X [a] ta) (hg:X.env.kindOf "enumerate" = some .globalImplicit:=by kernel_rfl) (hs:notStar a=true:=by kernel_rfl) :
  PI X (.Tuple elts k tpos) (.Call (.Name "enumerate" p) [a] [] pos) (afn X.K ta):=by
 intro pins s σ H R I h
 refine Call_ (jT I hg hm (show bootBuiltins "enumerate" = some (.type "enumerate") by decide +kernel) (PyProof.Rows.callWith_type1 (aC (ha pos pins s σ H _ I h) λus s1 ⟨vs,H1,I1,r1,q1⟩=>?_) (eY hs) rfl) (by decide +kernel) (by kernel_rfl))
 obtain⟨l,e,⟨xs,h1⟩,q⟩:=q1
 subst e
 cases r1 with
 |cons r rr =>
  cases rr
  cases r
  obtain⟨gJ,mH,p1,_⟩:=I1.list h1
  obtain⟨o1,e1,_⟩:=p1.isList
  have lt:=Heap.lt_size e1
  refine call_enumerate_list p1.isList λh' he hit hsz hk=>?_
  refine wpAny_pyIter_enum he ?_
  refine⟨_,[_,_],_,_,H1,rfl,I1.kept (t':=s1.toks) hk,afm l _ _ (Nat.succ_ne_self _) (Nat.ne_of_lt (Nat.lt_succ_of_lt lt)) (Nat.ne_of_lt lt),⟨⟨_,he⟩,hit⟩,λc hc=>?_,q⟩
  have hc':c=s1.heap.objs.size+1\/c=s1.heap.objs.size:=by simpa using hc
  have hge:s1.heap.objs.size<=c:=by rcases hc' with rfl|rfl <;> lia
  exact I1.jg hge (I1.hok.fresh hge)
end
abbrev dz(h:Heap)(T:Addr)(a b c:Value):Prop:=h.get? T=some {cls:=.type "tuple",data:=.seq #[a,b,c] }
structure Ay(y I O j1 j2 j3 m1 m2 m3:Addr):Prop where
 nd : [y,I,O,j1,j2,j3].Nodup
 l1:m1∉[y,O,j1,j2,j3]
 l2:m2∉[y,O,j1,j2,j3]
 l3:m3∉[y,O,j1,j2,j3]
section
variable {prog:Program}{w:World}{s:Shared}{A:Around}{E:Value->Shared->Prop}
theorem Ii(t:dz s.heap T a b c)
  (q:∀g,g.get? T=some {cls:=.type "tuple",data:=.seq ((#[a,b,c]:Array Value).setIfInBounds k x) }->Heap.SameBut T s.heap g->Q () {s with heap:=g }):wpAny (model prog w) A (updateSeq T (·.setIfInBounds k x)) Q E s:=by
 refine wpAny_updateSeq t rfl (q _ ?_ (.update ..))
 rw[Heap.get?_update_self _ t rfl]
 simp[Obj.mapSeq]
def Tz(y O j1 j2 j3:Addr)(h g:Heap):Prop:=∀c o,c∉[y,O,j1,j2,j3]->h.get? c=some o->g.get? c=some o
theorem afp{n:Nat}{as bs cs:Array Value}{Q:Value->Shared->Prop}(D:Ay y I O j1 j2 j3 m1 m2 m3)
  (hy:IsZip s.heap y I O .none) (hI:dz s.heap I (.ref j1) (.ref j2) (.ref j3)) (hO:dz s.heap O p q r) (k1:s.heap.IsListIter j1 m1 n) (k2:s.heap.IsListIter j2 m2 n) (k3:s.heap.IsListIter j3 m3 n)
  (e1:s.heap.IsList m1 as) (e2:s.heap.IsList m2 bs) (e3:s.heap.IsList m3 cs) (ga:as[n]?=some a) (gb:bs[n]?=some b) (gc:cs[n]?=some c)
  (fin:∀g,IsZip g y I O (rawInt s.heap.objs.size)->dz g O a b c->g.IsListIter j1 m1 (n+1)->g.IsListIter j2 m2 (n+1)->g.IsListIter j3 m3 (n+1)->dz g s.heap.objs.size a b c->Tz y O j1 j2 j3 s.heap g->Q (.ref s.heap.objs.size) {s with heap:=g }) :
  wpAny (model prog w) A (Builtin.«zip.__next__» ⟨[.ref y],[]⟩) (λf u=>∃v,f=.done (.ret v)/\Q v u) E s:=by
 have nd:=D.nd
 have d1:=D.l1
 have d2:=D.l2
 have d3:=D.l3
 simp only[List.nodup_cons,List.mem_cons,List.not_mem_nil,or_false,not_or,List.nodup_nil,and_true,not_false_eq_true]at nd d1 d2 d3
 obtain⟨⟨zI,zO,z1,z2,z3⟩,⟨IO,I1,I2,I3⟩,⟨O1,O2,O3⟩,⟨n12,n13⟩,n23⟩:=nd
 obtain⟨x1z,x1O,x11,x12,x13⟩:=d1
 obtain⟨x2z,x2O,x21,x22,x23⟩:=d2
 obtain⟨x3z,TF,x31,x32,x33⟩:=d3
 show wpAny _ _ (field (.ref y) 2 >>= _) _ _ _
 refine wpAny_bind (wpAny_field hy rfl (x:=.bool false) rfl ?_)
 show wpAny _ _ (field (.ref y) 3 >>= _) _ _ _
 refine wpAny_bind (wpAny_field hy rfl (x:=.ref I) rfl ?_)
 refine wpAny_bind (wpAny_seqItems hI rfl ?_)
 show wpAny _ _ (Builtin.SmallTypes.ownedTupleIsFree (.ref y) >>= _) _ _ _
 refine wpAny_bind ?_; unfold Builtin.SmallTypes.ownedTupleIsFree
 refine wpAny_bind (wpAny_field hy rfl (x:=.none) rfl (wpAny_pure ?_))
 simp only[if_true]
 refine wpAny_bind <| wpAny_rule ?_
 refine wpAny_bind (wpAny_field hy rfl (x:=.ref O) rfl ?_)
 refine wpAny_bind (wpAny_setField_rec hy (by simp) λha za sa=>?_)
 replace za:IsZip ha y I O .ellipsis:=za
 refine wpAny_bind ?_
 simp only[List.forIn_cons,List.forIn_nil,List.zipIdx_nil,List.zipIdx_cons]
 refine wpAny_bind <| wpAny_bind <| wpAny_onRaise ?_
 show wpAny _ _ (Builtin.SmallTypes.nextOf (.ref j1) >>= _) _ _ _
 refine wpAny_bind (wpAny_nextOf_list_item (k1.extBut sa.extBut (Ne.symm z1)) (e1.extBut sa.extBut x1z) ga λhb kb sb=>wpAny_pure ?_)
 have Ob:dz hb O p q r:=sb.extBut _ _ O1 (sa.extBut _ _ (Ne.symm zO) hO)
 refine wpAny_bind (wpAny_seqItems Ob rfl ?_)
 refine wpAny_bind (Ii Ob λhc Oc sc=>?_)
 replace Oc:dz hc O a q r:=Oc
 refine wpAny_bind <| wpAny_letGo <| wpAny_pure ?_
 refine wpAny_bind <| wpAny_bind <| wpAny_onRaise ?_
 show wpAny _ _ (Builtin.SmallTypes.nextOf (.ref j2) >>= _) _ _ _
 refine wpAny_bind (wpAny_nextOf_list_item (((k2.extBut sa.extBut (Ne.symm z2)).extBut sb.extBut (Ne.symm n12)).extBut sc.extBut (Ne.symm O2)) (((e2.extBut sa.extBut x2z).extBut sb.extBut x21).extBut sc.extBut x2O) gb λhd kd sd=>wpAny_pure ?_)
 have Od:dz hd O a q r:=sd.extBut _ _ O2 Oc
 refine wpAny_bind (wpAny_seqItems Od rfl ?_)
 refine wpAny_bind (Ii Od λhe Oe se=>?_)
 replace Oe:dz he O a b r:=Oe
 refine wpAny_bind <| wpAny_letGo <| wpAny_pure ?_
 refine wpAny_bind <| wpAny_bind <| wpAny_onRaise ?_
 show wpAny _ _ (Builtin.SmallTypes.nextOf (.ref j3) >>= _) _ _ _
 refine wpAny_bind (wpAny_nextOf_list_item (((((k3.extBut sa.extBut (Ne.symm z3)).extBut sb.extBut (Ne.symm n13)).extBut sc.extBut (Ne.symm O3)).extBut sd.extBut (Ne.symm n23)).extBut se.extBut (Ne.symm O3)) (((((e3.extBut sa.extBut x3z).extBut sb.extBut x31).extBut sc.extBut TF).extBut sd.extBut x32).extBut se.extBut TF) gc λhf kf sf=>wpAny_pure ?_)
 have Of:dz hf O a b r:=sf.extBut _ _ O3 Oe
 refine wpAny_bind (wpAny_seqItems Of rfl ?_)
 refine wpAny_bind (Ii Of λhg Og sg=>?_)
 replace Og:dz hg O a b c:=Og
 refine wpAny_bind <| wpAny_letGo <| wpAny_pure <| wpAny_pure ?_
 refine wpAny_bind (wpAny_seqItems Og rfl ?_)
 refine wpAny_bind <| wpAny_newTuple ?_
 have size:hg.objs.size=s.heap.objs.size:=by rw[sg.1,sf.1,se.1,sd.1,sc.1,sb.1,sa.1]
 have up:∀x o,x∉[y,O,j1,j2,j3]->s.heap.get? x=some o->hg.get? x=some o:=λx o h t=>by
  simp only[List.mem_cons,List.not_mem_nil,or_false,not_or]at h
  obtain⟨u1,u2,u3,u4,u5⟩:=h
  exact sg.extBut _ _ u2 (sf.extBut _ _ u5 (se.extBut _ _ u2 (sd.extBut _ _ u4 (sc.extBut _ _ u2 (sb.extBut _ _ u3 (sa.extBut _ _ u1 t))))))
 have zg:IsZip hg y I O .ellipsis:=sg.extBut _ _ zO (sf.extBut _ _ z3 (se.extBut _ _ zO (sd.extBut _ _ z2 (sc.extBut _ _ zO (sb.extBut _ _ z1 za)))))
 have Ij:hg.IsListIter j1 m1 (n+1):=((((kb.extBut sc.extBut (Ne.symm O1)).extBut sd.extBut n12).extBut se.extBut (Ne.symm O1)).extBut sf.extBut n13).extBut sg.extBut (Ne.symm O1)
 have Ik:hg.IsListIter j2 m2 (n+1):=((kd.extBut se.extBut (Ne.symm O2)).extBut sf.extBut n23).extBut sg.extBut (Ne.symm O2)
 have Il:hg.IsListIter j3 m3 (n+1):=kf.extBut sg.extBut (Ne.symm O3)
 have zl:y<hg.objs.size:=Heap.lt_size zg
 show wpAny _ _ (Builtin.SmallTypes.ownedTupleHandOut (.ref y) (.ref hg.objs.size) >>= _) _ _ _
 refine wpAny_bind ?_; unfold Builtin.SmallTypes.ownedTupleHandOut
 have zp:IsZip (hg.push {cls:=.type "tuple",data:=.seq #[a,b,c] }) y I O .ellipsis:=Heap.get?_push_of_some _ zg
 refine wpAny_bind (wpAny_setField_rec zp (by simp) λhu zu su=>?_)
 replace zu:IsZip hu y I O (rawInt hg.objs.size):=zu
 refine wpAny_setField_rec zu (by simp) λhv zv sv=>?_
 replace zv:IsZip hv y I O (rawInt hg.objs.size):=zv
 have top:∀x o,x≠y->hg.get? x=some o->hv.get? x=some o:=λx o v t=>sv.extBut _ _ v (su.extBut _ _ v (Heap.get?_push_of_some _ t))
 have Tv:dz hv hg.objs.size a b c:=sv.extBut _ _ (Nat.ne_of_gt zl) (su.extBut _ _ (Nat.ne_of_gt zl) (Heap.get?_push_size _ rfl))
 rw[size]at zv Tv
 apply wpAny_pure; refine⟨_,rfl,?_⟩
 show Q (.ref hg.objs.size) _
 rw[size]
 exact fin hv zv (top _ _ (Ne.symm zO) Og) (Ij.at λo t=>top _ o (Ne.symm z1) t) (Ik.at λo t=>top _ o (Ne.symm z2) t) (Il.at λo t=>top _ o (Ne.symm z3) t) Tv λx o h t=>top x o (λv=>h (by simp[v])) (up x o h t)
end
section
variable {prog:Program}{w:World}{s:Shared}{A:Around}{E:Value->Shared->Prop}
theorem afq(hh:A.handled=none)(y1:j1≠y)(Im:m1≠y)(hy:IsZip s.heap y I O .none)(hI:dz s.heap I (.ref j1) (.ref j2) (.ref j3))(k1:s.heap.IsListIter j1 m1 n)(e1:s.heap.IsList m1 as)(ga:as[n]?=none)
  (fin:∀g x,(∀c o,c≠y->c≠j1->s.heap.get? c=some o->g.get? c=some o)->(∃o,g.get? x=some o/\o.cls=.type "StopIteration")->E (.ref x) {s with heap:=g }):wpAny (model prog w) A (Builtin.«zip.__next__» ⟨[.ref y],[]⟩) Q E s:=by
 show wpAny _ _ (field (.ref y) 2 >>= _) _ _ _
 refine wpAny_bind (wpAny_field hy rfl (x:=.bool false) rfl ?_)
 show wpAny _ _ (field (.ref y) 3 >>= _) _ _ _
 refine wpAny_bind (wpAny_field hy rfl (x:=.ref I) rfl ?_)
 refine wpAny_bind (wpAny_seqItems hI rfl ?_)
 show wpAny _ _ (Builtin.SmallTypes.ownedTupleIsFree (.ref y) >>= _) _ _ _
 refine wpAny_bind ?_; unfold Builtin.SmallTypes.ownedTupleIsFree
 refine wpAny_bind (wpAny_field hy rfl (x:=.none) rfl (wpAny_pure ?_))
 simp only[if_true]
 refine wpAny_bind <| wpAny_rule ?_
 refine wpAny_bind (wpAny_field hy rfl (x:=.ref O) rfl ?_)
 refine wpAny_bind (wpAny_setField_rec hy (by simp) λha za sa=>?_)
 replace za:IsZip ha y I O .ellipsis:=za
 refine wpAny_bind ?_
 simp only[List.forIn_cons,List.forIn_nil,List.zipIdx_nil,List.zipIdx_cons]
 refine wpAny_bind <| wpAny_bind <| wpAny_onRaise ?_
 show wpAny _ _ (Builtin.SmallTypes.nextOf (.ref j1) >>= _) _ _ _
 refine wpAny_bind (wpAny_nextOf_list_end hh (k1.extBut sa.extBut y1) (e1.extBut sa.extBut Im) ga λhb x sb hx=>?_)
 obtain⟨o,ho,hc⟩:=hx
 have zb:IsZip hb y I O .ellipsis:=sb _ _ (Ne.symm y1) za
 have xy:x≠y:=λv=>by subst v; rw[zb]at ho; cases ho; simp at hc
 exact wpAny_setField_rec zb (by simp) λhd _ sd=>fin hd x (λc o c1 c2 t=>sd.extBut _ _ c1 (sb _ _ c2 (sa.extBut _ _ c1 t))) ⟨o,sd.extBut _ _ xy ho,hc⟩
theorem afr(D:Ay y I O j1 j2 j3 m1 m2 m3)
  (hy:IsZip s.heap y I O .none) (hI:dz s.heap I (.ref j1) (.ref j2) (.ref j3)) (hO:dz s.heap O p q r) (k1:s.heap.IsListIter j1 m1 n) (k2:s.heap.IsListIter j2 m2 n) (k3:s.heap.IsListIter j3 m3 n)
  (e1:s.heap.IsList m1 as) (e2:s.heap.IsList m2 bs) (e3:s.heap.IsList m3 cs) (ga:as[n]?=some a) (gb:bs[n]?=some b) (gc:cs[n]?=some c)
  (fin:∀g,IsZip g y I O (rawInt s.heap.objs.size)->dz g O a b c->g.IsListIter j1 m1 (n+1)->g.IsListIter j2 m2 (n+1)->g.IsListIter j3 m3 (n+1)->dz g s.heap.objs.size a b c->Tz y O j1 j2 j3 s.heap g->Q (some (.ref s.heap.objs.size)) {s with heap:=g }) :
  wpAny (model prog w) A (pyNext (.ref y)) Q E s:=by
 have ty:s.TypeIs (.ref y) "zip" := ⟨_,hy,rfl⟩
 unfold pyNext
 exact wpAny_bind (wpAny_attempt (wpAny_callSpecial?_slot (name:=Str.ofString "__next__") ty F.slot_zip_next (wpAny_call_entry F.slot_zip_next ty F.entry_zip_next (afp D hy hI hO k1 k2 k3 e1 e2 e3 ga gb gc λg q1 q2 q3 q4 q5 q6 q7=>wpAny_pure (fin g q1 q2 q3 q4 q5 q6 q7)) (F.args_zip_next_1 _))))
theorem afs(hh:A.handled=none)(y1:j1≠y)(Im:m1≠y)(hy:IsZip s.heap y I O .none)(hI:dz s.heap I (.ref j1) (.ref j2) (.ref j3))(k1:s.heap.IsListIter j1 m1 n)(e1:s.heap.IsList m1 as)(ga:as[n]?=none)
  (fin:∀g,(∀c o,c≠y->c≠j1->s.heap.get? c=some o->g.get? c=some o)->Q none {s with heap:=g }):wpAny (model prog w) A (pyNext (.ref y)) Q E s:=by
 have ty:s.TypeIs (.ref y) "zip" := ⟨_,hy,rfl⟩
 unfold pyNext
 refine wpAny_bind (wpAny_attempt (wpAny_callSpecial?_slot (name:=Str.ofString "__next__") ty F.slot_zip_next (wpAny_call_entry F.slot_zip_next ty F.entry_zip_next (afq hh y1 Im hy hI k1 e1 ga λg x k hx=>?_) (F.args_zip_next_1 _))))
 obtain⟨o,ho,hc⟩:=hx
 exact wpAny_bind (wpAny_isInstance (T := "StopIteration") (b:=true) ⟨o,ho,hc⟩ isSubtype_stop (wpAny_pure (fin _ k)))
end
theorem tc3(a b c:Value):checkTypeCall "zip" ⟨[a,b,c],[]⟩=pure ():=by kernel_rfl
theorem nc3(a b c:Value):checkBuiltinCall "zip.__new__" ⟨[.type "zip",a,b,c],[]⟩=pure ():=by kernel_rfl
noncomputable abbrev wk(h:Heap)(m1:Addr):Heap:=h.push {cls:=.type "list_iterator",data:=.fields #[.ref m1,.int 0 0] }
noncomputable abbrev wu(h:Heap)(m1 m2:Addr):Heap:=(wk h m1).push {cls:=.type "list_iterator",data:=.fields #[.ref m2,.int 0 0] }
noncomputable abbrev Az(h:Heap)(m1 m2 m3:Addr):Heap:=(wu h m1 m2).push {cls:=.type "list_iterator",data:=.fields #[.ref m3,.int 0 0] }
noncomputable abbrev Ba(h:Heap)(m1 m2 m3:Addr):Heap:=(Az h m1 m2 m3).push {cls:=.type "tuple",data:=.seq #[.ref h.objs.size,.ref (wk h m1).objs.size,.ref (wu h m1 m2).objs.size] }
noncomputable abbrev Bb(h:Heap)(m1 m2 m3:Addr):Heap:=(Ba h m1 m2 m3).push {cls:=.type "tuple",data:=.seq #[.none,.none,.none] }
noncomputable abbrev qL(h:Heap)(m1 m2 m3:Addr):Heap:=(Bb h m1 m2 m3).push {cls:=.type "zip",data:=.fields #[.none,.bool false,.bool false,.ref (Az h m1 m2 m3).objs.size,.ref (Ba h m1 m2 m3).objs.size] }
theorem aft(m1 m2 m3:Addr)(as bs cs:Array Value):Meets (Builtin.«zip.__new__» ⟨[.type "zip",.ref m1,.ref m2,.ref m3],[]⟩) (λ_ R s=>s.heap.IsList m1 as/\s.heap.IsList m2 bs/\s.heap.IsList m3 cs/\R (.ok (.ret (.ref (Bb s.heap m1 m2 m3).objs.size))) {s with heap:=qL s.heap m1 m2 m3 }) :=
 .of_wp λprog w A R s h=>by
  obtain⟨hp,g,d,tk,os⟩:=s; obtain⟨e1,e2,e3,h⟩:=h
  have sub:=sub_zip
  have f1:Heap.IsList (Shared.heap ⟨hp,g,d,tk,os⟩) m1 as:=e1
  have f2:Heap.IsList (Shared.heap ⟨wk hp m1,g,d,tk,os⟩) m2 bs:=Heap.IsList.push e2 _
  have f3:Heap.IsList (Shared.heap ⟨wu hp m1 m2,g,d,tk,os⟩) m3 cs:=Heap.IsList.push (Heap.IsList.push e3 _) _
  wp_walk using wpAny_pyIter_list f1,wpAny_pyIter_list f2,wpAny_pyIter_list f3
  exact⟨_,rfl,h⟩
theorem oi4(a b c d:Value):argsOk "object.__init__" ⟨[a,b,c,d],[]⟩:=by
 unfold argsOk
 rw[signature?_of (id := "object.__init__") (o:=['t','c','e','j','b','o']) (n:=['_','_','t','i','n','i','_','_']) (by kernel_rfl) F.owner_object]
 kernel_rfl
section
variable {prog:Program}{w:World}{s:Shared}{A:Around}{E:Value->Shared->Prop}
theorem afu(e1:s.heap.IsList m1 as)(e2:s.heap.IsList m2 bs)(e3:s.heap.IsList m3 cs)
  (fin:∀g,IsZip g (s.heap.objs.size+5) (s.heap.objs.size+3) (s.heap.objs.size+4) .none->dz g (s.heap.objs.size+3) (.ref s.heap.objs.size) (.ref (s.heap.objs.size+1)) (.ref (s.heap.objs.size+2)) ->
   dz g (s.heap.objs.size+4) .none .none .none->g.IsListIter s.heap.objs.size m1 0->g.IsListIter (s.heap.objs.size+1) m2 0->g.IsListIter (s.heap.objs.size+2) m3 0->(∀c o,s.heap.get? c=some o->g.get? c=some o)->Q (.ref (s.heap.objs.size+5)) {s with heap:=g }) :
  wpAny (model prog w) A (call (.type "zip") [.ref m1,.ref m2,.ref m3]) Q E s:=by
 refine callType_new F.called_zip (by decide) (tc3 _ _ _) (nc3 _ _ _) (λobj=>oi4 obj _ _ _) F.entry_zip_new (aft m1 m2 m3 as bs cs) ⟨e1,e2,e3,?_⟩
 have y1:(wk s.heap m1).objs.size=s.heap.objs.size+1:=Heap.size_push ..
 have y2:(wu s.heap m1 m2).objs.size=s.heap.objs.size+2:=by rw[Heap.size_push,y1]
 have y3:(Az s.heap m1 m2 m3).objs.size=s.heap.objs.size+3:=by rw[Heap.size_push,y2]
 have y4:(Ba s.heap m1 m2 m3).objs.size=s.heap.objs.size+4:=by rw[Heap.size_push,y3]
 have y5:(Bb s.heap m1 m2 m3).objs.size=s.heap.objs.size+5:=by rw[Heap.size_push,y4]
 have up:∀{h:Heap} {o:Obj} {c:Addr} {u:Obj},h.get? c=some u->(h.push o).get? c=some u:=λq=>Heap.get?_push_of_some _ q
 have p6:(qL s.heap m1 m2 m3).get? (Bb s.heap m1 m2 m3).objs.size=some _:=Heap.get?_push_size _ rfl
 have p5:(qL s.heap m1 m2 m3).get? (Ba s.heap m1 m2 m3).objs.size=some _:=up (Heap.get?_push_size _ rfl)
 have p4:(qL s.heap m1 m2 m3).get? (Az s.heap m1 m2 m3).objs.size=some _:=up (up (Heap.get?_push_size _ rfl))
 have p3:(qL s.heap m1 m2 m3).get? (wu s.heap m1 m2).objs.size=some _:=up (up (up (Heap.get?_push_size _ rfl)))
 have p2:(qL s.heap m1 m2 m3).get? (wk s.heap m1).objs.size=some _:=up (up (up (up (Heap.get?_push_size _ rfl))))
 have p1:(qL s.heap m1 m2 m3).get? s.heap.objs.size=some _:=up (up (up (up (up (Heap.get?_push_size _ rfl)))))
 show _/\_
 rw[y3,y4,y5]at p6
 rw[y1,y2,y3]at p4
 rw[y4]at p5
 rw[y2]at p3
 rw[y1]at p2
 rw[y5]
 exact⟨⟨_,p6,rfl⟩,fin _ p6 p4 p5 ⟨_,p1,rfl,rfl⟩ ⟨_,p2,rfl,rfl⟩ ⟨_,p3,rfl,rfl⟩ λc o q=>up (up (up (up (up (up q)))))⟩
end
noncomputable def TJ(K:FZ)(m1 m2 m3:Addr):It where
 go:=λi H=>∃xs ys ws x y u,aF K H m1 xs/\aF K H m2 ys/\aF K H m3 ws/\xs[i]?=some x/\ys[i]?=some y/\ws[i]?=some u
 jU:=λi H v H'=>∃T x y u,v=.ref T/\H T=none/\H'=upd H T (.tup [x,y,u])/\∀xs ys ws,aF K H m1 xs->aF K H m2 ys->aF K H m3 ws->xs[i]?=some x/\ys[i]?=some y/\ws[i]?=some u
 stop:=λi H=>∃xs,aF K H m1 xs/\xs.length<=i
def Bc(m1 m2 m3 y I O j1 j2 j3:Addr)(i:Nat)(h:Heap):Prop:=IsZip h y I O .none/\dz h I (.ref j1) (.ref j2) (.ref j3)/\(∃a b c,dz h O a b c)/\h.IsListIter j1 m1 i/\h.IsListIter j2 m2 i/\h.IsListIter j3 m3 i
section
variable {P:Program}{w:World}{K:FZ}
theorem Bc.at(st:Bc m1 m2 m3 y I O j1 j2 j3 i h):∀b∈[y,I,O,j1,j2,j3],∃o,h.get? b=some o/\∀v,o.data ≠ .cell v:=λb hb=>by
 obtain⟨hy,hI,⟨a,b',c,hO⟩,⟨o1,e1,_,d1⟩,⟨o2,e2,_,d2⟩,⟨o3,e3,_,d3⟩⟩:=st
 simp only[List.mem_cons,List.not_mem_nil,or_false]at hb
 rcases hb with rfl|rfl|rfl|rfl|rfl|rfl
 .exact⟨_,hy,λv q=>nomatch q⟩
 .exact⟨_,hI,λv q=>nomatch q⟩
 .exact⟨_,hO,λv q=>nomatch q⟩
 .exact⟨o1,e1,λv q=>by rw[d1]at q; cases q⟩
 .exact⟨o2,e2,λv q=>by rw[d2]at q; cases q⟩
 .exact⟨o3,e3,λv q=>by rw[d3]at q; cases q⟩
theorem afv(m1 m2 m3 y I O j1 j2 j3:Addr)(D:Ay y I O j1 j2 j3 m1 m2 m3):Turn P w K (.Tuple elts k pos) (TJ K m1 m2 m3) [y,I,O,j1,j2,j3] y (Bc m1 m2 m3 y I O j1 j2 j3) where
 mem:=by simp
 obj:=λi h st b hb=>st.at b hb
 keep:=λi h h' st kp=>by
  obtain⟨hy,hI,⟨a,b,c,hO⟩,k1,k2,k3⟩:=st
  exact⟨kp y (by simp) _ hy,kp I (by simp) _ hI,⟨a,b,c,kp O (by simp) _ hO⟩,k1.at λo e=>kp j1 (by simp) o e,k2.at λo e=>kp j2 (by simp) o e,k3.at λo e=>kp j3 (by simp) o e⟩
 item:=by
  intro X hP hw' hK hc i pins s σ H E Iv hf st hg
  subst hP hw' hK
  obtain⟨xs,ys,ws,x,v,u,q1,q2,q3,hx,hv,hu⟩:=hg
  obtain⟨t1,r1,p1,_⟩:=Iv.list q1
  obtain⟨t2,r2,p2,_⟩:=Iv.list q2
  obtain⟨t3,r3,p3,_⟩:=Iv.list q3
  obtain⟨x',gx,rx⟩:=r1.get hx
  obtain⟨v',gv,rv⟩:=r2.get hv
  obtain⟨u',gu,ru⟩:=r3.get hu
  obtain⟨hy,hI,⟨a,b,c,hO⟩,k1,k2,k3⟩:=id st
  refine afr D hy hI hO k1 k2 k3 p1.isList p2.isList p3.isList (by simpa using gx) (by simpa using gv) (by simpa using gu) λg zg Og Ij Ik Il Tg ch=>?_
  refine⟨.ref s.heap.objs.size,rfl,?_⟩
  refine wpAny_letOwnedTupleGo_zip zg λg' zg' qN=>?_
  have lt:∀b∈[y,I,O,j1,j2,j3],b<s.heap.objs.size:=λb hb=>by
   obtain⟨o,e,_⟩:=st.at b hb
   exact Heap.lt_size e
  have nT:s.heap.objs.size∉[y,I,O,j1,j2,j3]:=λm=>absurd (lt _ m) (Nat.lt_irrefl _)
  have nTy:s.heap.objs.size≠y:=λz=>nT (by simp[z])
  have nd:=D.nd
  simp only[List.nodup_cons,List.mem_cons,List.not_mem_nil,or_false,not_or,List.nodup_nil,and_true,not_false_eq_true]at nd
  obtain⟨⟨yI,yO,y1,y2,y3⟩,⟨IO,I1,I2,I3⟩,_⟩:=nd
  have hI':dz g' I (.ref j1) (.ref j2) (.ref j3):=qN.extBut _ _ (Ne.symm yI) (ch I _ (by simp only[List.mem_cons,List.not_mem_nil,or_false,not_or]; exact⟨Ne.symm yI,IO,I1,I2,I3⟩) hI)
  have st':Bc m1 m2 m3 y I O j1 j2 j3 (i+1) g':=⟨zg',hI',⟨_,_,_,qN.extBut _ _ (Ne.symm yO) Og⟩,Ij.extBut qN.extBut (Ne.symm y1),Ik.extBut qN.extBut (Ne.symm y2),Il.extBut qN.extBut (Ne.symm y3)⟩
  have kk:∀b o,b∉[y,I,O,j1,j2,j3]->s.heap.get? b=some o->g'.get? b=some o:=λb o n e=>by
   simp only[List.mem_cons,List.not_mem_nil,or_false,not_or]at n
   exact qN.extBut _ _ n.1 (ch b o (by simp only[List.mem_cons,List.not_mem_nil,or_false,not_or]; exact⟨n.1,n.2.2⟩) e)
  have ht:IsTup g' s.heap.objs.size #[x',v',u']:=⟨_,qN.extBut _ _ nTy Tg,rfl,_,rfl⟩
  have I':=Iv.FT (tk:=s.toks) (xs:=[x,v,u]) (its:=[x',v',u']) hf kk (λb hb=>(st'.at b hb).imp λo q=>q.1) (Nat.le_refl _) ht (.cons rx (.cons rv (.cons ru .nil))) (by show 3<=sizeLine; decide)
  refine⟨.ref s.heap.objs.size,_,I',rfl,⟨s.heap.objs.size,x,v,u,rfl,Iv.hok.fresh (Nat.le_refl _),rfl,λa1 a2 a3 z1 z2 z3=>?_⟩,st',λb hb=>?_⟩
  .rw[Iv.nZ z1 q1,Iv.nZ z2 q2,Iv.nZ z3 q3]
   exact⟨hx,hv,hu⟩
  .have nb:b≠s.heap.objs.size:=λe0=>nT (e0▸hb)
   rw[aJ nb]
   exact(hf b hb).1
 done:=by
  intro X hP hw' hK hc i pins s σ H E Iv hf st hg
  subst hP hw' hK
  obtain⟨xs,q1,e⟩:=hg
  obtain⟨t1,r1,p1,_⟩:=Iv.list q1
  obtain⟨hy,hI,_,k1,_,_⟩:=id st
  have nd:=D.nd
  have d1:=D.l1
  simp only[List.nodup_cons,List.mem_cons,List.not_mem_nil,or_false,not_or,List.nodup_nil,and_true,not_false_eq_true]at nd d1
  refine afs (Iv.ok.hd hc) (Ne.symm nd.1.2.2.1) d1.1 hy hI k1 p1.isList (by simp; rw[<-r1.length]; exact e) λg ch=>⟨rfl,Iv.FW (tk:=s.toks) hf λb o n t=>?_⟩
  simp only[List.mem_cons,List.not_mem_nil,or_false,not_or]at n
  exact ch b o n.1 n.2.2.2.1 t
 self:=λA i s Q E st h=>wpAny_pyIter_zip st.1 h
end
theorem n5(n m:Nat)(h:m<n):m∉[n+5,n+4,n,n+1,n+2]:=by
 simp only[List.mem_cons,List.not_mem_nil,or_false,not_or]
 lia
theorem n6(n d:Nat)(h:d∈[n+5,n+3,n+4,n,n+1,n+2]):n<=d:=by
 simp only[List.mem_cons,List.not_mem_nil,or_false]at h
 lia
theorem nd6(n:Nat) : [n+5,n+3,n+4,n,n+1,n+2].Nodup:=by simp
section
variable {X:Cx}
def afw(K:FZ)(ta:TA):TI:=λσ H R=>ta σ H λvs H1=>∃m1 m2 m3,vs=[.ref m1,.ref m2,.ref m3]/\(∃xs,aF K H1 m1 xs)/\(∃xs,aF K H1 m2 xs)/\(∃xs,aF K H1 m3 xs)/\R (TJ K m1 m2 m3) H1
theorem afx(hm:X.mg "zip" = none) (ha:PA X [a,b,c] ta) (hg:Gl X "zip" := by rfl) (hs:starEach [a,b,c] X.env=[(false,eval a X.env),(false,eval b X.env),(false,eval c X.env)]:=by rfl) (hs2:starEach [b,c] X.env=[(false,eval b X.env),(false,eval c X.env)]:=by rfl) :
  PI X (.Tuple elts k tpos) (.Call (.Name "zip" p) [a,b,c] [] pos) (afw X.K ta):=by
 intro pins s σ H R I h
 refine Call_ (jT I hg hm (show bootBuiltins "zip" = some (.type "zip") by decide +kernel) (PyProof.Rows.callWith_type1 (aC (ha pos pins s σ H _ I h) λus s1 ⟨vs,H1,I1,r1,q1⟩=>?_) (by rw[hs,hs2]) (by rw[hs2]; rfl)))
 obtain⟨m1,m2,m3,e,⟨xs,h1⟩,⟨ys,h2⟩,⟨ws,h3⟩,q⟩:=q1
 subst e
 cases r1 with
 |cons r rr =>
  cases rr with
  |cons r' rr =>
   cases rr with
   |cons r'' rr =>
    cases rr
    cases r
    cases r'
    cases r''
    obtain⟨t1,_,p1,_⟩:=I1.list h1
    obtain⟨t2,_,p2,_⟩:=I1.list h2
    obtain⟨t3,_,p3,_⟩:=I1.list h3
    obtain⟨o1,e1,_⟩:=p1.isList
    obtain⟨o2,e2,_⟩:=p2.isList
    obtain⟨o3,e3,_⟩:=p3.isList
    have l1:=Heap.lt_size e1
    have l2:=Heap.lt_size e2
    have l3:=Heap.lt_size e3
    refine afu p1.isList p2.isList p3.isList λg zy zI zO k1 k2 k3 ch=>?_
    refine wpAny_pyIter_zip zy ?_
    have D:Ay (s1.heap.objs.size+5) (s1.heap.objs.size+3) (s1.heap.objs.size+4) s1.heap.objs.size (s1.heap.objs.size+1) (s1.heap.objs.size+2) m1 m2 m3:=⟨nd6 _,n5 _ _ l1,n5 _ _ l2,n5 _ _ l3⟩
    refine⟨_,[_,_,_,_,_,_],_,_,H1,rfl,I1.kept (t':=s1.toks) ch,afv m1 m2 m3 _ _ _ _ _ _ D,⟨zy,zI,⟨_,_,_,zO⟩,k1,k2,k3⟩,λd hd=>?_,q⟩
    have ge:s1.heap.objs.size<=d:=n6 _ _ hd
    exact I1.jg ge (I1.hok.fresh ge)
end
def TQ(K:FZ)(tl:TE):TI:=λσ H R=>Pq K tl σ H R\/Pu K tl σ H R
theorem afy(hl:PE X l tl):PI X tg l (TQ X.K tl):=λpins s σ H R I h=>by
 rcases h with h|h
 .exact ab3 hl pins s σ H R I h
 .exact ab4 hl pins s σ H R I h
noncomputable def Dt:Rv->Rs (List Tr × Bool)
 |.v (.lst ts) _=>.ok (ts,true)
 |.v (.tup ts) _=>.ok (ts,false)
 |_=>.bad
noncomputable def qP(f:EF):IF:=λρ=>(f ρ).bind λp=>(Dt p.1).bind λz=>.ok (z.1,p.2)
theorem afz{K:FZ}(q:aF (au K) G a xs)(r:aq (au K) G xs us):Ax (au K) G (Ec K a) us:=λG' H' m s i=>by
 have q':=(s.seq (m.seq q)).toK
 refine⟨λz=>⟨xs,q',by rw[r.length]; lia⟩,λu hu=>?_⟩
 obtain⟨x,hx,rx⟩:=r.iK hu
 refine⟨⟨xs,x,q',hx⟩,λy cU ⟨e,z⟩=>?_⟩
 have:=z xs q'
 rw[hx]at this
 cases this
 subst e
 exact⟨G',.refl s,rx.mono m⟩
theorem afA{K:FZ}(q:bh (au K) G a xs)(r:aq (au K) G xs us):Ax (au K) G (Ed K a) us:=λG' H' m s i=>by
 have q':=(s.jz (m.jz q)).toK
 refine⟨λz=>⟨xs,q',by rw[r.length]; lia⟩,λu hu=>?_⟩
 obtain⟨x,hx,rx⟩:=r.iK hu
 refine⟨⟨xs,x,q',hx⟩,λy cU ⟨e,z⟩=>?_⟩
 have:=z xs q'
 rw[hx]at this
 cases this
 subst e
 exact⟨G',.refl s,rx.mono m⟩
theorem afB{K:FZ}(h:Ti ⟨au K,xe⟩ (qP f) σ H Q):TQ K (Te ⟨au K,xe⟩ f) σ H Q:=by
 obtain⟨R,ρ,G,F,e,h⟩:=h
 unfold qP at h
 cases k:f ρ with
 |bad=>rw[k]at h; exact h.elim
 |ex c=>rw[k]at h; exact .inl ⟨R,ρ,G,F,e,by rw[k]; exact h⟩
 |ok p =>
  obtain⟨r,ρ1⟩:=p
  rw[k]at h
  match r,h,k with
  |.v (.lst ts) fr,h,k =>
   refine .inl ⟨R,ρ,G,F,e,?_⟩
   rw[k]
   intro v G1 H1 F1 e1 s1 v1
   obtain⟨G2,e2,s2,_,r⟩:=e1.sY e s1 v1 rfl
   cases r with
   |lst q r=>exact⟨_,rfl,⟨_,(e2.sub.seq q).toK⟩,h _ G2 H1 F1 e2 s2 (afz q r)⟩
  |.v (.tup ts) fr,h,k =>
   refine .inr ⟨R,ρ,G,F,e,?_⟩
   rw[k]
   intro v G1 H1 F1 e1 s1 v1
   obtain⟨G2,e2,s2,_,r⟩:=e1.sY e s1 v1 rfl
   cases r with
   |tup q r=>exact⟨_,rfl,⟨_,(e2.sub.jz q).toK⟩,h _ G2 H1 F1 e2 s2 (afA q r)⟩
noncomputable def cu(a:VE aA):VI (qP aA) where
 ck Γ e:=Ih e.2&&a.ck Γ e.2
 cs:=a.cs
 ok q o h:=⟨(afy (a.ok q o (an.mp h).2)).imp λ_ _ _=>afB,(an.mp h).1⟩
noncomputable def upTo(lo:Int):Nat->List Tr
 | 0=>[]
 |n+1=>.int lo::upTo (lo+1) n
theorem afC(lo:Int):∀n,(upTo lo n).length=n:=λn=>by
 induction n generalizing lo with
 |zero=>rfl
 |succ n ih=>rw[upTo,List.length_cons,ih]
theorem afD{lo:Int}{n i:Nat}(h:(upTo lo n)[i]?=some u):i<n/\u=.int (lo+i):=by
 induction n generalizing lo i with
 |zero=>simp[upTo]at h
 |succ n ih =>
  rw[upTo]at h
  cases i with
  |zero =>
   simp at h
   subst h
   exact⟨Nat.zero_lt_succ _,by simp⟩
  |succ i =>
   obtain⟨h1,h2⟩:=ih (lo:=lo+1) (i:=i) (by simpa using h)
   refine⟨Nat.succ_lt_succ h1,h2.trans ?_⟩
   congr 1
   lia
theorem afE{K:FZ}(lo:Int)(n:Nat):Ax K G (yx lo n) (upTo lo n):=λG' H' m s i=>by
 refine⟨λz=>?_,λu hu=>?_⟩
 .rw[afC]at z
  exact Nat.le_of_eq z.symm
 .obtain⟨h1,rfl⟩:=afD hu
  refine⟨h1,λx cU yl=>?_⟩
  obtain⟨rfl,rfl⟩:=yl
  exact⟨G',.refl s,.int _⟩
noncomputable def okR(i:Int):Bool:=decide (-1000000<=i)&&decide (i<=1000000)
theorem afF(h:okR i=true) : -1000000<=i/\i<=1000000:=by simpa[okR]using h
noncomputable def Bf(fa:AF):IF:=λρ=>(fa ρ).bind λp=>(drs p.2 p.1).bind λas=>match as with
 | [.int j]=>if okR j=true then .ok (upTo 0 j.toNat,p.2)else .bad
 |_=>.bad
noncomputable def j5(a:VA aA):VI (Bf aA) where
 ck Γ e:=gO e.2 λ_ aK _ _=>aM aK λ_ bf=>aQ bf (Γ.B.contains ("range" : Str)&&mX Γ "range" a e.2)
 cs:=a.cs
 ok:=@λcl E Γ X e q o h=>by
  obtain⟨u,e⟩:=e
  dsimp only at h
  walk_at "O"
  obtain⟨h1,h⟩:=an.mp h
  obtain⟨p,b,es,p',e',h2,h3⟩:=qD h
  cases e'
  obtain⟨pa,la,na⟩:=a.ok q o h3
  refine⟨(ab7 (cZ o h2).1 (o.B _ (by simpa using h1)) pa (eY (na _ (List.mem_cons_self ..)))).imp λσ H Q=>bB λR ρ G F e h=>jC e .refl h λp h vs G1 H1 F1 e1 s1 v1=>?_,rfl⟩
  obtain⟨as,k1,h⟩:=h.okb (vL _ _)
  have r:=vN e1 v1 k1
  split at h
  case h_2=>exact h.elim
  split at h
  case isFalse=>exact h.elim
  have c:=afF ‹_›
  cases r with
  |cons h1 r1 =>
   cases r1
   rw[h1.int]
   exact⟨_,rfl,by lia,by lia,h _ G1 H1 F1 e1 s1 (afE 0 _)⟩
theorem wz:∀{es:List Expr},(∀x∈es,notStar x=true)->∀env,starEach es env=es.map λe=>(false,eval e env)
 | [],_,_=>rfl
 |e::es,h,env=>by
  rw[eY (h e (List.mem_cons_self ..)),wz (λy m=>h y (List.mem_cons_of_mem _ m)) env]; rfl
theorem yT{K:FZ}(s:Same G H)(h:H p=none)(r:aq K G xs ts):∃G',Gw K G H G' (upd H p (.tup xs))/\Rep K G' (.ref p) (.tup ts):=⟨_,.new s h,VN.newT s h r⟩
noncomputable def lH(us vs:List Tr):List Tr:=(us.zip vs).map λp=>.tup [p.1,p.2]
noncomputable def TV(fa:AF):IF:=λρ=>(fa ρ).bind λp=>match p.1 with
 | [.v (.lst us) _,.v (.lst vs) _]=>.ok (lH us vs,p.2)
 |_=>.bad
theorem tL{K:FZ}(r:aq K G vs (.lst us::ts)):∃a xs vs',vs=.ref a::vs'/\aF K G a xs/\aq K G xs us/\aq K G vs' ts:=by
 cases r with
 |cons h r=>cases h with
  |lst q p=>exact⟨_,_,_,rfl,q,p,r⟩
noncomputable def iZ(a:VA aA):VI (TV aA) where
 ck Γ e:=iM e.1 λ_ _ _=>gO e.2 λ_ aK _ _=>aM aK λ_ bf=>aM bf λ_ bF=>aQ bF (Γ.B.contains ("zip" : Str)&&mX Γ "zip" a e.2)
 cs:=a.cs
 ok:=@λcl E Γ X e q o h=>by
  obtain⟨u,e⟩:=e
  walk_at "O"
  obtain⟨h1,h⟩:=an.mp h
  obtain⟨p,b,es,p',e',h2,h3⟩:=qD h
  cases e'
  obtain⟨pa,la,na⟩:=a.ok q o h3
  refine⟨(adT (o.B _ (by simpa using h1)) pa (cZ o h2).1 (wz na _) (wz (λy m=>na y (List.mem_cons_of_mem _ m)) _)).imp λσ H Q=>bB λR ρ G F e h=>jC e .refl h λp h vs G1 H1 F1 e1 s1 v1=>?_,rfl⟩
  split at h
  case h_2=>exact h.elim
  rename_i us _ ws _ ep
  rw[ep]at v1
  obtain⟨G2,e2,s2,_,r⟩:=e1.vis e s1 v1 rfl
  obtain⟨_,_,_,rfl,q1,p1,r⟩:=tL r
  obtain⟨_,_,_,rfl,q2,p2,r⟩:=tL r
  cases r
  refine⟨_,_,rfl,⟨_,(e2.sub.seq q1).toK⟩,⟨_,(e2.sub.seq q2).toK⟩,h _ G2 H1 F1 e2 s2 λG' H' m s i=>?_⟩
  have qQ:=(s.seq (m.seq q1)).toK
  have Io:=(s.seq (m.seq q2)).toK
  refine⟨λz=>⟨_,_,qQ,Io,by rw[p1.length,p2.length,z]; simp[lH]⟩,λu hu=>?_⟩
  unfold lH at hu
  rw[List.getElem?_map]at hu
  obtain⟨p,hp,rfl⟩:=Option.map_eq_some_iff.mp hu
  obtain⟨k1,k2⟩:=List.getElem?_zip_eq_some.mp hp
  obtain⟨x,hx,rx⟩:=p1.iK k1
  obtain⟨y,hy,ry⟩:=p2.iK k2
  refine⟨⟨_,_,x,y,qQ,Io,hx,hy⟩,λv cU yl=>?_⟩
  obtain⟨T,x',y',rfl,fT,rfl,z⟩:=yl
  obtain⟨z1,z2⟩:=z _ _ qQ Io
  rw[hx]at z1
  rw[hy]at z2
  cases z1
  cases z2
  exact yT s fT (.cons (rx.mono m) (.cons (ry.mono m) .nil))
noncomputable def Bg(us:List Tr):List Tr:=us.zipIdx.map λp=>.tup [.int (p.2:Nat),p.1]
noncomputable def TY(fa:AF):IF:=λρ=>(fa ρ).bind λp=>match p.1 with
 | [.v (.lst us) _]=>.ok (Bg us,p.2)
 |_=>.bad
noncomputable def iEn(a:VA aA):VI (TY aA) where
 ck Γ e:=iM e.1 λ_ _ _=>gO e.2 λ_ aK _ _=>aM aK λ_ bf=>aQ bf (Γ.B.contains ("enumerate" : Str)&&mX Γ "enumerate" a e.2)
 cs:=a.cs
 ok:=@λcl E Γ X e q o h=>by
  obtain⟨u,e⟩:=e
  walk_at "O"
  obtain⟨h1,h⟩:=an.mp h
  obtain⟨p,b,es,p',e',h2,h3⟩:=qD h
  cases e'
  obtain⟨pa,la,na⟩:=a.ok q o h3
  refine⟨(afo (o.B _ (by simpa using h1)) pa (cZ o h2).1 (na _ (List.mem_cons_self ..))).imp λσ H Q=>bB λR ρ G F e h=>jC e .refl h λp h vs G1 H1 F1 e1 s1 v1=>?_,rfl⟩
  split at h
  case h_2=>exact h.elim
  rename_i us _ ep
  rw[ep]at v1
  obtain⟨G2,e2,s2,_,r⟩:=e1.vis e s1 v1 rfl
  obtain⟨_,_,_,rfl,q1,p1,r⟩:=tL r
  cases r
  refine⟨_,rfl,⟨_,(e2.sub.seq q1).toK⟩,h _ G2 H1 F1 e2 s2 λG' H' m s i=>?_⟩
  have qQ:=(s.seq (m.seq q1)).toK
  refine⟨λz=>⟨_,qQ,by rw[p1.length,z]; simp[Bg]⟩,λu hu=>?_⟩
  unfold Bg at hu
  rw[List.getElem?_map]at hu
  obtain⟨p,hp,rfl⟩:=Option.map_eq_some_iff.mp hu
  rw[List.getElem?_zipIdx]at hp
  obtain⟨y,hy,rfl⟩:=Option.map_eq_some_iff.mp hp
  obtain⟨x,hx,rx⟩:=p1.iK hy
  refine⟨⟨_,x,qQ,hx⟩,λv cU yl=>?_⟩
  obtain⟨T,x',rfl,fT,rfl,z⟩:=yl
  have z1:=z _ qQ
  rw[hx]at z1
  cases z1
  show ∃G'',_/\Rep _ _ (.ref T) (.tup [.int ((0+i:Nat):Int),y])
  rw[Nat.zero_add]
  exact yT s fT (.cons (.int _) (.cons (rx.mono m) .nil))
noncomputable def jq:List Tr->List Tr->List Tr->List Tr
 |u::us,v::vs,w::ws=>.tup [u,v,w]::jq us vs ws
 |_,_,_=>[]
theorem T3:∀{us vs ws:List Tr},us.length<=vs.length->us.length<=ws.length->(jq us vs ws).length=us.length
 | [],_,_,_,_=>rfl
 |_::us,[],_,h,_=>absurd h (by simp)
 |_::us,_::vs,[],_,h=>absurd h (by simp)
 |_::us,_::vs,_::ws,h,h'=>by
  simp only[jq,List.length_cons]
  rw[T3 (by simpa using h) (by simpa using h')]
theorem T4:∀{us vs ws:List Tr} {i:Nat} {d:Tr},(jq us vs ws)[i]?=some d->∃u v w,us[i]?=some u/\vs[i]?=some v/\ws[i]?=some w/\d=.tup [u,v,w]
 | [],_,_,i,d,h=>by simp[jq]at h
 |_::us,[],_,i,d,h=>by simp[jq]at h
 |_::us,_::vs,[],i,d,h=>by simp[jq]at h
 |u::us,v::vs,w::ws,0,d,h=>⟨u,v,w,rfl,rfl,rfl,by simpa[jq,eq_comm]using h⟩
 |_::us,_::vs,_::ws,i+1,d,h=>T4 (us:=us) (vs:=vs) (ws:=ws) (i:=i) (by simpa[jq]using h)
noncomputable def T5(fa:AF):IF:=λρ=>(fa ρ).bind λp=>match p.1 with
 | [.v (.lst us) _,.v (.lst vs) _,.v (.lst ws) _]=>if us.length<=vs.length/\us.length<=ws.length then .ok (jq us vs ws,p.2)else .bad
 |_=>.bad
noncomputable def iZ3(a:VA aA):VI (T5 aA) where
 ck Γ e:=iM e.1 λ_ _ _=>gO e.2 λ_ aK _ _=>aM aK λ_ bf=>aM bf λ_ bF=>aM bF λ_ cM=>aQ cM (Γ.B.contains ("zip" : Str)&&mX Γ "zip" a e.2)
 cs:=a.cs
 ok:=@λcl E Γ X e q o h=>by
  obtain⟨u,e⟩:=e
  walk_at "O"
  obtain⟨h1,h⟩:=an.mp h
  obtain⟨p,b,es,p',e',h2,h3⟩:=qD h
  cases e'
  obtain⟨pa,la,na⟩:=a.ok q o h3
  refine⟨(afx (o.B _ (by simpa using h1)) pa (cZ o h2).1 (wz na _) (wz (λy m=>na y (List.mem_cons_of_mem _ m)) _)).imp λσ H Q=>bB λR ρ G F e h=>jC e .refl h λp h vs G1 H1 F1 e1 s1 v1=>?_,rfl⟩
  split at h
  case h_2=>exact h.elim
  rename_i us _ ws _ zs _ ep
  rw[ep]at v1
  split at h
  case isFalse=>exact h.elim
  rename_i hn
  obtain⟨G2,e2,s2,_,r⟩:=e1.vis e s1 v1 rfl
  obtain⟨_,_,_,rfl,q1,p1,r⟩:=tL r
  obtain⟨_,_,_,rfl,q2,p2,r⟩:=tL r
  obtain⟨_,_,_,rfl,q3,p3,r⟩:=tL r
  cases r
  refine⟨_,_,_,rfl,⟨_,(e2.sub.seq q1).toK⟩,⟨_,(e2.sub.seq q2).toK⟩,⟨_,(e2.sub.seq q3).toK⟩,h _ G2 H1 F1 e2 s2 λG' H' m s i=>?_⟩
  have toK:∀{d:Addr} {ds:List V},aF (au X.K) G2 d ds->aF X.K H' d ds:=λq=>(s.seq (m.seq q)).toK
  refine⟨λz=>⟨_,toK q1,by rw[z,T3 hn.1 hn.2,p1.length]; exact Nat.le_refl _⟩,λd hd=>?_⟩
  obtain⟨u,v,w,g1,g2,g3,rfl⟩:=T4 hd
  obtain⟨x,hx,rx⟩:=p1.iK g1
  obtain⟨y,hy,ry⟩:=p2.iK g2
  obtain⟨z,hz,rz⟩:=p3.iK g3
  refine⟨⟨_,_,_,x,y,z,toK q1,toK q2,toK q3,hx,hy,hz⟩,λo cU yl=>?_⟩
  obtain⟨T,x',y',z',rfl,fT,rfl,al⟩:=yl
  obtain⟨a1,a2,a3⟩:=al _ _ _ (toK q1) (toK q2) (toK q3)
  rw[hx]at a1
  rw[hy]at a2
  rw[hz]at a3
  cases a1
  cases a2
  cases a3
  exact yT s fT (.cons (rx.mono m) (.cons (ry.mono m) (.cons (rz.mono m) .nil)))
noncomputable def T6(ifs:List Expr)(env:Env):Sem Bool:=forIn ifs true λc r=>if r=true then do let ok <-isTrue c env (eval c env); pure (ForInStep.yield ok)else pure (ForInStep.yield r)
def wC(X:Cx)(ifs:List Expr)(tc:TT):Prop:=∀(pins:LO) s σ H Q,Inv X pins σ H s->tc σ H Q->wpAny (model X.prog X.w) X.A (T6 ifs X.env) (TP X pins σ Q) X.xe s
theorem T7(h:PT X c tc):wC X [c] tc:=λpins s σ H Q I q=>wpAny_tests_one (h pins s σ H Q I q)
theorem Bh:wC X [] λ_ H Q=>Q true H:=λpins s σ H Q I q=>wpAny_pure ⟨H,I,q⟩
section
variable {prog:Program}{w:World}{A:Around}{R:Result->Shared->Prop}{s:Shared}
theorem afG(I:Nat->Shared->Prop)
  (turn:∀n s,I n s->wpAny (model prog w) A (pyNext it) (λr s₁=>match r with
   |none=>R (.ok .next) s₁
   | some v=>wpAny (model prog w) A (letOwnedTupleGo target it v) (λ_ s₁'=>wpAny (model prog w) A (assign target env v) (λ_ s₂ => wpAny (model prog w) A (T6 ifs env) (λb s₂'=>if b=true then wpAny (model prog w) A (eval elt env) (λx s₃ =>
     wpAny (model prog w) A (call (.builtin "list.append") [acc,x]) (λ_ s₄=>∃m,m<n/\I m s₄) (λ_ _=>False) s₃) (λ_ _=>False) s₂' else ∃m,m<n/\I m s₂') (λ_ _=>False) s₂) (λ_ _=>False) s₁') (λ_ _=>False) s₁) (λ_ _=>False) s)
  (n:Nat) (h:I n s) :
  codeAny (model prog w) A (.compLoop (.ListComp elt [⟨target,iter,ifs,0⟩] scope pos) 0 it acc env) R s:=by
 refine codeAny_loop rfl I (λn s hI=>?_) n h
 show wpAny _ _ ((compTurn (.ListComp elt [⟨target,iter,ifs,0⟩] scope pos) 0 it acc env).onRaise (λx=>do noteFrame x env; theTreesLotGoes x)) _ _ s
 refine wpAny_noted (wpAny_noRaise ?_)
 rw[compTurn_list]
 refine wpAny_bind (wpAny_standAt (wpAny_bind (wpAny_mono (turn n s hI) (λr s₁ h₁=>?_) λ_ _ h'=>h')))
 cases r with
 |none=>exact wpAny_pure h₁
 |some v =>
  refine wpAny_bind (wpAny_mono h₁ (λ_ s₁' h₁'=>?_) λ_ _ h'=>h')
  refine wpAny_bind (wpAny_mono h₁' (λ_ s₂ h₂=>wpAny_bind (wpAny_mono h₂ (λok s₃ h₃=>?_) λ_ _ h'=>h')) λ_ _ h'=>h')
  cases ok with
  |false=>exact wpAny_pure ⟨rfl,h₃⟩
  |true =>
   exact wpAny_bind (wpAny_bind (wpAny_mono h₃ (λx s₄ h₄=>wpAny_bind (wpAny_mono h₄ (λ_ s₅ h₅=>wpAny_pure (wpAny_pure ⟨rfl,h₅⟩)) λ_ _ h'=>h')) λ_ _ h'=>h'))
end
def wD(wi:TI)(g:TG)(src:List (Option Nat))(tc:TT)(te:TE):TE:=λσ H Q=>wi σ H λJ H1=>∀D,H1 D=none ->
 ∃W:Nat->Nat->St->Hp->Prop,(∃m,W 0 m (bW src σ) (upd H1 D (.lst [])))/\∀i m σ' H',W i m σ' H' ->
  (J.stop i H'/\Fg Q D H')\/(J.go i H'/\∀x cU,J.jU i H' x cU->g x σ' cU λσ2 H2=>tc σ2 H2 λb wH=>if b=true then te σ2 wH λv H3=>∃xs,H3 D=some (.lst xs)/\xs.length<sizeLine/\∃m',m'<m/\W (i+1) m' σ2 (upd H3 D (.lst (xs++[v])))else ∃m',m'<m/\W (i+1) m' σ2 wH)
section
variable {X:Cx}{elt tg iter:Expr}{ifs:List Expr}{scope sc:Scope}{pos:Pos}{No N:List Str}{src:List (Option Nat)}{wi:TI}{g:TG}{te:TE}{tc:TT}
theorem T8{pins:LO}{RR:Value->Addr->Result->Shared->Prop}(hsc:X.env.scope=sc)(eU:X.N=No)(S:mD sc No N src scope)(hc:X.calm=true)
  (hi:PI X tg iter wi) (hg:∀C s H ex,PG (aR X N scope C s H ex) tg g) (hq:∀C s H ex,wC (aR X N scope C s H ex) ifs tc) (he:∀C s H ex,PE (aR X N scope C s H ex) elt te) (I:Inv X pins σ H s) (h:wD wi g src tc te σ H Q)
  (hRR:∀D C H' s' m,Inv X pins σ H' s'->H' C=none->C≠X.env.locals->X.s₀.heap.objs.size<=C->(∀x c,X.env.cells.lookup x=some c->c≠C)->(∀p∈X.pn++pins,p.1≠C)->s'.heap.Ns C m->Q (.ref D) H'->RR (.ref D) C (.ok .next) s') :
  wpAny (model X.prog X.w) X.A (eval iter X.env) (λx s₁=>wpAny (model X.prog X.w) X.A (pyIter x) (λit s₂=>wpAny (model X.prog X.w) X.A (newList []) (λacc s₃ =>
   wpAny (model X.prog X.w) X.A (newFunctionEnv scope X.env.globals (bM X.env.cells scope.names []) [] X.env.qual none .none (some X.env)) (λcenv s₄ =>
    codeAny (model X.prog X.w) X.A (.compStart (.ListComp elt [⟨tg,iter,ifs,0⟩] scope pos) 0 it acc {cenv with scope:=relabel scope X.env }) (RR acc cenv.locals) s₄) X.xe s₃) X.xe s₂) X.xe s₁) X.xe s:=by
 refine aC (hi pins s σ H _ I h) λv s1 h1=>aC h1 λitv s2 h2=>?_
 obtain⟨it,fp,tn,J,H2,e,I2,T,st2,f2,hW⟩:=h2
 subst e
 have Ip:H2 s2.heap.objs.size=none:=I2.hok.fresh (Nat.le_refl _)
 obtain⟨W,⟨m0,w0⟩,turn⟩:=hW s2.heap.objs.size Ip
 have wI:∀b∈fp,b<s2.heap.objs.size:=λb hb=>by
  obtain⟨o,e,_⟩:=T.obj 0 _ st2 b hb
  exact Heap.lt_size e
 refine wpAny_newObj_type ?_
 have I3:Inv X pins σ (upd H2 s2.heap.objs.size (.lst [])) {s2 with heap:=s2.heap.push {cls:=.type "list",dict:=none,data:=.seq ([]:List Value).toArray } }:=I2.yP (t':=s2.toks) (ys:=[]) .nil (Nat.zero_le _)
 have f3:∀b∈fp,bD X pins (upd H2 s2.heap.objs.size (.lst [])) b:=λb hb=>by
  obtain⟨q,r⟩:=f2 b hb
  exact⟨by rw[aJ (Nat.ne_of_lt (wI b hb))]; exact q,r⟩
 have st3:tn 0 (s2.heap.push {cls:=.type "list",dict:=none,data:=.seq ([]:List Value).toArray }):=T.keep _ _ _ st2 λb hb o e=>Heap.get?_push_of_some _ e
 have j6:∀b∈fp,b<(s2.heap.push {cls:=.type "list",dict:=none,data:=.seq ([]:List Value).toArray }).objs.size:=λb hb=>by
  rw[Heap.size_push]; exact Nat.lt_succ_of_lt (wI b hb)
 generalize hD:s2.heap.objs.size=D at *
 generalize hh3:s2.heap.push {cls:=.type "list",dict:=none,data:=.seq ([]:List Value).toArray }=h3 at *
 generalize hH3:upd H2 D (.lst [])=H3 at *
 refine QL λh₁ hns old ck=>?_
 dsimp only at hns old ck ⊢
 have I4:Inv (aR X N scope h3.objs.size {s2 with heap:=h3 } H3 fp) [] (bW src σ) H3 {s2 with heap:=h₁,toks:=s2.toks+([]:List (Str × Value)).length }:=QM (s:={s2 with heap:=h3 }) hsc eU S I3 f3 j6 hns old ck
 have pR:tn 0 h₁ := T.keep _ _ _ st3 λb hb o e=>old b o e
 have loop:codeAny (model X.prog X.w) X.A (.compLoop (.ListComp elt [⟨tg,iter,ifs,0⟩] scope pos) 0 (.ref it) (.ref D) (compEnvC scope (cellsFrom (h3.objs.size+1) scope.names (bM X.env.cells scope.names [])) h3.objs.size X.env)) (RR (.ref D) h3.objs.size) {s2 with heap:=h₁,toks:=s2.toks+([]:List (Str × Value)).length }:=by
  have stat:∀{H':Hp},(∀b∈fp,H' b=none)->∀b∈fp,bD (aR X N scope h3.objs.size {s2 with heap:=h3 } H3 fp) [] H' b:=λhn b hb=>by
   obtain⟨g0,g1,g2,g3,g4,g5⟩:=f3 b hb
   refine⟨hn b hb,Nat.ne_of_lt (j6 b hb),λz=>?_,.inl hb,λx c e=>?_,λp hp=>absurd (show p∈([]:LO)from hp) (by simp)⟩
   .rcases List.mem_cons.mp (I3.uN b z)with z|z
    .exact g1 z
    .exact g2 z
   .have e:(cellsFrom (h3.objs.size+1) scope.names (bM X.env.cells scope.names [])).lookup x=some c:=e
    rw[mq,rO]at e
    split at e
    .rename_i z
     cases e
     exact λy=>absurd (Nat.le_trans (ck.empty x c (PySem.mem_of_lookup z)).2 (y▸Nat.le_of_lt (j6 b hb))) (Nat.not_succ_le_self _)
    .rcases oJ e with q|q
     .simp at q
     .exact g4 x c q
  refine afG (λn s'=>∃i σ' H',Inv (aR X N scope h3.objs.size {s2 with heap:=h3 } H3 fp) [] σ' H' s'/\tn i s'.heap/\(∀b∈fp,H' b=none)/\W i n σ' H') ?_ m0 ⟨0,bW src σ,H3,I4,pR,λb hb=>(f3 b hb).1,w0⟩
  rintro n s5 ⟨i,σ5,H5,I5,iB,lq,w5⟩
  rcases turn i n σ5 H5 w5 with⟨stop,qn⟩|⟨go,step⟩
  .refine aC (T.done (aR X N scope h3.objs.size {s2 with heap:=h3 } H3 fp) rfl rfl rfl hc i [] s5 σ5 H5 (λ_ _=>False) I5 (stat lq) iB stop) λr s6 ⟨hr,I6⟩=>?_
   subst hr
   obtain⟨mC,hnC,_⟩:=id I6.loc
   have I7:Inv X pins σ H5 s6:=I3.call' (ch:=fp) I6.os I6.base I6.hok I6.bare λb hb=>by
    obtain⟨g0,g1,g2,g3,g4,g5⟩:=f3 b hb
    exact⟨g3,g1,g4,g5⟩
   refine hRR D h3.objs.size H5 s6 mC I7 I6.free (Nat.ne_of_gt I3.lt) I3.sz (λx c e z=>?_) (λp hp z=>?_) hnC qn
   .obtain⟨v,q⟩:=I3.cell x c e
    exact absurd q.lt (by rw[z]; exact Nat.lt_irrefl _)
   .exact absurd (Heap.lt_size (I3.pin p hp).1) (by rw[z]; exact Nat.lt_irrefl _)
  .refine aC (T.item (aR X N scope h3.objs.size {s2 with heap:=h3 } H3 fp) rfl rfl rfl hc i [] s5 σ5 H5 (λ_ _=>False) I5 (stat lq) iB go) λr s6 ⟨u,hr,h6⟩=>?_
   subst hr
   refine aC h6 λ_ s7 ⟨x,H7,I7,r7,y7,gA,wJ⟩=>?_
   have wK:=I7.pinned (stat wJ) (T.obj _ _ gA)
   refine aC (hg _ _ _ _ _ s7 σ5 H7 x u _ wK r7 (step x H7 y7)) λ_ s8 ⟨σ8,H8,I8,q8⟩=>?_
   refine aC (hq _ _ _ _ _ s8 σ8 H8 _ I8 q8) λbb s8' ⟨T9,Bj,Bl⟩=>?_
   cases bb with
   |false =>
    rw[if_neg (by decide)]at Bl ⊢
    obtain⟨m',hm,w9⟩:=Bl
    refine⟨m',hm,i+1,σ8,T9,Bj.qd (pins:=[]),T.keep _ _ _ gA λb hb o e=>(Bj.pin (b,o) (List.mem_append_right _ (List.mem_append_right _ (lg hb e)))).1,λb hb=>?_,w9⟩
    obtain⟨o,e,d⟩:=T.obj _ _ gA b hb
    exact(Bj.pin (b,o) (List.mem_append_right _ (List.mem_append_right _ (lg hb e)))).2.1
   |true =>
   rw[if_pos rfl]at Bl ⊢
   refine aC (he _ _ _ _ _ s8' σ8 T9 _ Bj Bl) λyv s9 ⟨y,H9,I9,r9,q9⟩=>?_
   obtain⟨xs,e9,l9,m',hm,w9⟩:=q9
   refine aC (EY (X:=aR X N scope h3.objs.size {s2 with heap:=h3 } H3 fp) _ s9 σ8 H9 (.ref D) [y] (.ref D) [yv] (λ_ H'=>W (i+1) m' σ8 H') I9 rfl (.cons r9 .nil) ⟨D,xs,y,rfl,rfl,e9,l9,w9⟩) λ_ Bm ⟨_,Ir,qR,_,Iu⟩=>?_
   refine⟨m',hm,i+1,σ8,Ir,qR.qd (pins:=[]),T.keep _ _ _ gA λb hb o e=>(qR.pin (b,o) (List.mem_append_right _ (List.mem_append_right _ (lg hb e)))).1,λb hb=>?_,Iu⟩
   obtain⟨o,e,d⟩:=T.obj _ _ gA b hb
   exact(qR.pin (b,o) (List.mem_append_right _ (List.mem_append_right _ (lg hb e)))).2.1
 exact codeAny_compStart_list loop (T.self _ _ _ _ _ pR loop)
theorem Iw(hsc:X.env.scope=sc)(eU:X.N=No)(S:mD sc No N src scope)(hc:X.calm=true)
  (hi:PI X tg iter wi) (hg:∀C s H ex,PG (aR X N scope C s H ex) tg g) (hq:∀C s H ex,wC (aR X N scope C s H ex) ifs tc) (he:∀C s H ex,PE (aR X N scope C s H ex) elt te)
  (hs:∀x,foldedSetIterable iter X.env x=pure x:=by intro _; rfl):PE X (.ListComp elt [⟨tg,iter,ifs,0⟩] scope pos) (wD wi g src tc te):=by
 refine⟨λpins s σ H Q I h=>?_⟩
 rw[eval_ListComp]
 have hcl:closureFor scope X.env=pure (bM X.env.cells scope.names []):=uU λy hy e=>by
  have k:=S.free y hy e
  rw[<-hsc]at k
  obtain⟨c,q⟩:=I.ok.has y.1 k
  rw[q]; rfl
 refine wpAny_comprehension_free (use:=none) rfl hs hcl S.kind S.names (T8 (RR:=λacc C=>compPost (model X.prog X.w) X.A X.xe none (EP X pins σ Q) acc C) hsc eU S hc hi hg hq he I h ?_)
 intro D C H' s' m I' n1 n2 n3 n4 n5 hn q
 refine⟨m,hn,λh' hs'=>⟨.ref D,H',?_,rfl,q⟩⟩
 exact I'.turned (t':=s'.toks) (λb o hb e=>(hs'.2 b hb).trans e) n1 (Ne.symm (Ne.symm n2)) (.inr n3) n4 n5
theorem Iz(hN:X.N.Nodup)(IK:X.N[i]?=some y)(hy:Loc X.env.scope y)(hsc:X.env.scope=sc)(eU:X.N=No)(S:mD sc No N src scope)(hc:X.calm=true)
  (hi:PI X tg iter wi) (hg:∀C s H ex,PG (aR X N scope C s H ex) tg g) (hq:∀C s H ex,wC (aR X N scope C s H ex) ifs tc) (he:∀C s H ex,PE (aR X N scope C s H ex) elt te)
  (hsw:swapsWith (.ListComp elt [⟨tg,iter,ifs,0⟩] scope pos) (some (.Name y py)) spos.line X.env=pure true:=by rfl) (hs:∀x,foldedSetIterable iter X.env x=pure x:=by intro _; rfl)
  (hf:X.fn y=true\/X.env.scope.names.lookup y=some .local:=by first|exact .inl rfl|exact .inr rfl|assumption) :
  PS X (.Assign [.Name y py] (.ListComp elt [⟨tg,iter,ifs,0⟩] scope pos) spos) (kZ (wD wi g src tc te) (kY i)):=by
 refine⟨λpins s σ H D I h=>?_⟩
 rw[exec_Assign_Name_used _ _ _ _ hsw]
 have hcl:closureFor scope X.env=pure (bM X.env.cells scope.names []):=uU λy hy e=>by
  have k:=S.free y hy e
  rw[<-hsc]at k
  obtain⟨c,q⟩:=I.ok.has y.1 k
  rw[q]; rfl
 refine wpAny_bind (wpAny_standAt (wpAny_bind ?_))
 show wpAny _ X.A (do let _ <-comprehension (.ListComp elt [⟨tg,iter,ifs,0⟩] scope pos) scope X.env _ (newList []) false (eval iter X.env) (some (assign (.Name y py) X.env))) _ _ s
 refine wpAny_bind (wpAny_mono (wpAny_comprehension_free (use:=some (assign (.Name y py) X.env)) (Q:=λ_ s'=>SP X pins D .next s') rfl hs hcl S.kind S.names
  (T8 (Q:=λv H'=>D.nx (σ.set i (some v)) H') (RR:=λacc C=>compPost (model X.prog X.w) X.A X.xe (some (assign (.Name y py) X.env)) (λ_ s'=>SP X pins D .next s') acc C) hsc eU S hc hi hg hq he I h ?_)) (λ_ s' hq=>wpAny_pure (wpAny_pure hq)) λ_ _ e=>e)
 intro Da C H' s' m I' n1 n2 n3 n4 n5 hn q
 show wpAny _ X.A (assign (.Name y py) X.env (.ref Da)) _ _ _
 refine wpAny_assign_Name (Dz I' hN IK hy (v:=.ref Da) rfl (λs2 I2 hsame=>?_) hf)
 obtain⟨a,hsb,ha⟩:=hsame
 have IV:C≠a:=by
  rcases ha with z|z
  .rw[z]; exact n2
  .exact λe=>n4 y a z e.symm
 refine⟨m,hn.sameBut hsb IV,λh' hs'=>⟨σ.set i (some (.ref Da)),H',?_,q⟩⟩
 exact I2.turned (t':=s2.toks) (λb o hb e=>(hs'.2 b hb).trans e) n1 n2 (.inr n3) n4 n5
end
def Mu(ρ : En)(i:Nat):Prop:=∃ts,ρ[i]?=some (Sl.ow ts)\/ρ[i]?=some (Sl.rf ts)
noncomputable def afH:Sl->Sl
 |.dp _=>.un
 |s=>s
noncomputable def dX(src:List (Option Nat))(ρ : En):En:=src.map λo=>match o with
 |some j=>afH ((ρ[j]?).getD .un)
 |none=>.un
noncomputable def bH:List (Option Nat)->En->En->En
 |some j::src,.ow ts::ρi,ρ=>bH src ρi (cJ j ts ρ)
 |some j::src,.rf ts::ρi,ρ=>bH src ρi (cJ j ts ρ)
 |_::src,_::ρi,ρ=>bH src ρi ρ
 |_,_,ρ=>ρ
noncomputable def jH:Option Sl->Bool
 |some (.ow _)=>true
 |some (.rf _)=>true
 |_=>false
noncomputable def eN:List (Option Nat)->En->En->Bool
 |some j::src,s::ρi,ρ=>(!jH ρ[j]? || jH (some s))&&eN src ρi ρ
 |none::src,_::ρi,ρ=>eN src ρi ρ
 | [],_,_=>true
 |_,[],_=>false
theorem Bo:jH ρ[i]?=true↔Mu ρ i:=by
 constructor
 .intro h
  unfold jH at h
  split at h <;> rename_i q
  .exact⟨_,.inl q⟩
  .exact⟨_,.inr q⟩
  .cases h
 .rintro⟨ts,h|h⟩ <;> rw[h] <;> rfl
theorem IW:∀{src:List (Option Nat)} {ρi ρ : En} {k j:Nat},eN src ρi ρ = true->src[k]?=some (some j)->Mu ρ j->Mu ρi k
 | [],_,_,_,_,_,h,_=>by simp at h
 |some j'::src,s::ρi,ρ,k,j,h,hk,m=>by
  unfold eN at h
  rw[Bool.and_eq_true]at h
  cases k with
  |zero =>
   simp at hk
   subst hk
   have h1:=h.1
   rw[Bo.mpr m]at h1
   cases s with
   |un=>cases h1
   |sh _=>cases h1
   |dp _=>cases h1
   |ow ts=>exact⟨ts,.inl rfl⟩
   |rf ts=>exact⟨ts,.inr rfl⟩
  |succ k =>
   obtain⟨ts,q⟩:=IW (k:=k) h.2 (by simpa using hk) m
   exact⟨ts,by simpa using q⟩
 |none::src,s::ρi,ρ,k,j,h,hk,m=>by
  unfold eN at h
  cases k with
  |zero=>simp at hk
  |succ k =>
   obtain⟨ts,q⟩:=IW (k:=k) h (by simpa using hk) m
   exact⟨ts,by simpa using q⟩
 |some j'::src,[],ρ,k,j,h,hk,m=>by unfold eN at h; cases h
 |none::src,[],ρ,k,j,h,hk,m=>by unfold eN at h; cases h
def Inj(src:List (Option Nat)):Prop:=∀(k k' j:Nat),src[k]?=some (some j)->src[k']?=some (some j)->k=k'
theorem afI(h:(src.filterMap id).Nodup):Inj src:=by
 induction src with
 |nil=>intro k k' j h1; simp at h1
 |cons o src ih =>
  have tail:Inj src:=by
   cases o with
   |none=>exact ih (by simpa using h)
   |some j=>exact ih (by simpa using(List.nodup_cons.mp (by simpa using h)).2)
  intro k k' j h1 h2
  have no:∀{m:Nat},o=some j->src[m]?=some (some j)->False:=λ{m} e q=>by
   subst e
   have n:=(List.nodup_cons.mp (show(j::src.filterMap id).Nodup by simpa using h)).1
   exact n (List.mem_filterMap.mpr ⟨some j,List.mem_of_getElem? q,rfl⟩)
  cases k with
  |zero =>
   have e1:o=some j:=by simpa using h1
   cases k' with
   |zero=>rfl
   |succ k'=>exact(no e1 (by simpa using h2)).elim
  |succ k =>
   cases k' with
   |zero=>exact(no (by simpa using h2) (by simpa using h1)).elim
   |succ k'=>rw[tail k k' j (by simpa using h1) (by simpa using h2)]
theorem afJ(h : ρ[i]?=ρ'[i]?):(cJ i ts ρ)[i]?=(cJ i ts ρ')[i]? := by
 unfold cJ
 rw[h]
 cases q : ρ'[i]? with
 |none=>dsimp only; rw[h,q]
 |some s =>
  have l':=(List.getElem?_eq_some_iff.mp q).1
  have l:=(List.getElem?_eq_some_iff.mp (h.trans q)).1
  cases s with
  |un=>dsimp only; rw[h,q]
  |sh _=>dsimp only; rw[h,q]
  |dp _=>dsimp only; rw[h,q]
  |ow _=>dsimp only; rw[gW l,gW l']
  |rf _=>dsimp only; rw[gW l,gW l']
theorem qT:∀(src:List (Option Nat)) (ρi ρ : En),(bH src ρi ρ).length = ρ.length
 | [],ρi,ρ=>by unfold bH; rfl
 |o::src,[],ρ=>by cases o <;> (unfold bH; rfl)
 |none::src,s::ρi,ρ=>by unfold bH; exact qT src ρi ρ
 |some j::src,.un::ρi,ρ=>by unfold bH; exact qT src ρi ρ
 |some j::src,.sh _::ρi,ρ=>by unfold bH; exact qT src ρi ρ
 |some j::src,.dp _::ρi,ρ=>by unfold bH; exact qT src ρi ρ
 |some j::src,.ow ts::ρi,ρ=>by unfold bH; rw[qT src ρi,HD]
 |some j::src,.rf ts::ρi,ρ=>by unfold bH; rw[qT src ρi,HD]
theorem Ja:∀{src:List (Option Nat)} {ρi ρ : En} {j:Nat} {s:Option Sl},Inj src->(bH src ρi ρ)[j]?=s ->
  (∃(k:Nat) (ts:List Tr),src[k]?=some (some j)/\(ρi[k]?=some (.ow ts)\/ρi[k]?=some (.rf ts))/\(cJ j ts ρ)[j]?=s)\/((∀k:Nat,src[k]?=some (some j)->¬Mu ρi k)/\ρ[j]?=s)
 | [],ρi,ρ,j,s,_,h=>by
  unfold bH at h
  exact .inr ⟨λk q=>by simp at q,h⟩
 |o::src,[],ρ,j,s,_,h=>by
  have h : ρ[j]?=s:=by cases o <;> (unfold bH at h; exact h)
  refine .inr ⟨λk _ m=>?_,h⟩
  obtain⟨_,q|q⟩:=m <;> simp at q
 |o::src,x::ρi,ρ,j,s,I,h=>by
  have It:Inj src:=λk k' j h1 h2=>by
   have:=I (k+1) (k'+1) j (by simpa using h1) (by simpa using h2)
   omega
  have keep:(o=none\/jH (some x)=false)->(bH src ρi ρ)[j]?=s->(∃(k:Nat) (ts:List Tr),(o::src)[k]?=some (some j)/\((x::ρi)[k]?=some (.ow ts)\/(x::ρi)[k]?=some (.rf ts))/\(cJ j ts ρ)[j]?=s)\/((∀k:Nat,(o::src)[k]?=some (some j)->¬Mu (x::ρi) k)/\ρ[j]?=s):=λc h=>by
   rcases Ja It h with⟨k,ts,q1,q2,q3⟩|⟨n,q⟩
   .exact .inl ⟨k+1,ts,by simpa using q1,by simpa using q2,q3⟩
   .refine .inr ⟨λk qk m=>?_,q⟩
    cases k with
    |zero =>
     rcases c with c|c
     .subst c; simp at qk
     .rw[<-Bo]at m
      have m:jH (some x)=true:=m
      rw[c]at m
      cases m
    |succ k =>
     obtain⟨ts,m⟩:=m
     exact n k (by simpa using qk) ⟨ts,by simpa using m⟩
  have put:∀(i:Nat) (ts:List Tr),o=some i->(x=.ow ts\/x=.rf ts)->(bH src ρi (cJ i ts ρ))[j]?=s->(∃(k:Nat) (ts:List Tr),(o::src)[k]?=some (some j)/\((x::ρi)[k]?=some (.ow ts)\/(x::ρi)[k]?=some (.rf ts))/\(cJ j ts ρ)[j]?=s)\/((∀k:Nat,(o::src)[k]?=some (some j)->¬Mu (x::ρi) k)/\ρ[j]?=s):=λi ts eo ex h=>by
   rcases Ja It h with⟨k,us,q1,q2,q3⟩|⟨n,q⟩
   .have ne:j≠i:=λz=>by
     subst z
     have:=I 0 (k+1) j (by simpa using eo) (by simpa using q1)
     omega
    refine .inl ⟨k+1,us,by simpa using q1,by simpa using q2,?_⟩
    rw[<-afJ (HB ne)]
    exact q3
   .by_cases e:j=i
    .subst e
     refine .inl ⟨0,ts,by simpa using eo,?_,q⟩
     rcases ex with rfl|rfl
     .exact .inl rfl
     .exact .inr rfl
    .rw[HB e]at q
     refine .inr ⟨λk qk m=>?_,q⟩
     cases k with
     |zero =>
      rw[eo]at qk
      simp at qk
      exact e qk.symm
     |succ k =>
      obtain⟨ts,m⟩:=m
      exact n k (by simpa using qk) ⟨ts,by simpa using m⟩
  cases o with
  |none=>unfold bH at h; exact keep (.inl rfl) h
  |some i =>
   cases x with
   |un=>unfold bH at h; exact keep (.inr rfl) h
   |sh _=>unfold bH at h; exact keep (.inr rfl) h
   |dp _=>unfold bH at h; exact keep (.inr rfl) h
   |ow ts=>unfold bH at h; exact put i ts rfl (.inl rfl) h
   |rf ts=>unfold bH at h; exact put i ts rfl (.inr rfl) h
theorem Jb{src:List (Option Nat)}{k j:Nat}(h:src[k]?=some (some j)):(bW src σ)[k]?=some ((σ[j]?).join):=by
 unfold bW
 rw[List.getElem?_map,h]
 rfl
theorem afK{k j:Nat}(h:src[k]?=some (some j))(q:(bW src σ)[k]?=some (some v)) : σ[j]?=some (some v):=by
 rw[Jb h]at q
 cases z : σ[j]? with
 |none=>rw[z]at q; cases q
 |some o =>
  rw[z]at q
  rw[show o=some v from Option.some.inj q]
noncomputable def inF(src:List (Option Nat))(ρ : En)(F:Fp):Fp:=λk=>match src[k]? with
 |some (some j)=>if jH ρ[j]?=true then F j else []
 |_=>[]
theorem wN(h:b∈inF src ρ F k):∃j,src[k]?=some (some j)/\jH ρ[j]?=true/\b∈F j:=by
 unfold inF at h
 split at h
 .split at h
  .exact⟨_,‹_›,‹_›,h⟩
  .cases h
 .cases h
theorem tM(h:Fn (inF src ρ F) b):Fn F b:=h.elim λ_ h=>(wN h).elim λj h=>⟨j,h.2.2⟩
section
variable {K:FZ}{R:Addr->Prop}{ρ ρ1:En}{σ τ : St}{G H G1 H1 G' H':Hp}{F F1 F':Fp}{src:List (Option Nat)}
theorem Ok.enter(e:Ok K R ρ σ G H F)(I:Inj src):Ok K R (dX src ρ) (bW src σ) G H (inF src ρ F):=by
 refine⟨by simp[dX,bW],e.sub,e.tb,e.tg,λb h=>e.hid b (tM h),e.rg,λk k' b h1 h2=>?_,λk=>?_⟩
 .obtain⟨j,q1,_,q2⟩:=wN h1
  obtain⟨j',q3,_,q4⟩:=wN h2
  cases e.di j j' b q2 q4
  exact I k k' j q1 q3
 .unfold dX inF
  rw[List.getElem?_map]
  cases q:src[k]? with
  |none=>rfl
  |some o =>
   cases o with
   |none=>rfl
   |some j =>
    rw[Jb q]
    have z:=e.sl j
    dsimp only[Option.map]
    cases w : ρ[j]? with
    |none=>rfl
    |some sl =>
     rw[w]at z
     cases sl with
     |un=>rfl
     |dp ts=>rfl
     |sh T =>
      obtain⟨_,u,z1,z2⟩:=z
      rw[z1]
      exact⟨rfl,u,rfl,z2⟩
     |ow ts =>
      obtain⟨a,xs,z1,z2⟩:=z
      rw[z1]
      exact⟨a,xs,rfl,z2⟩
     |rf ts =>
      obtain⟨a,xs,z1,z2⟩:=z
      rw[z1]
      exact⟨a,xs,rfl,z2⟩
theorem Ok.mu(e:Ok K R ρ σ G H F)(m:Mu ρ i):∃a,σ[i]?=some (some (.ref a))/\F i=[a]:=by
 have z:=e.sl i
 obtain⟨ts,q|q⟩:=m <;> (rw[q]at z; obtain⟨a,xs,z1,z2,_⟩:=z; exact⟨a,z1,z2⟩)
theorem Ok.leave(e1:Ok K R ρ1 σ G1 H1 F1)(e:Ok K R ρ τ G' H' F')(s:aD K G1 H1 (inF src ρ1 F1) G' H' F')(I:Inj src)(ag:∀k j:Nat,src[k]?=some (some j) -> τ[k]?=(bW src σ)[k]?)(so:eN src ρ ρ1=true):Ok K R (bH src ρ ρ1) σ G' H' F1/\aD K G1 H1 F1 G' H' F1:=by
 have inn:∀{k j:Nat},src[k]?=some (some j)->jH ρ1[j]?=true->Mu ρ k/\∃a,F1 j=[a]/\F' k=[a]/\σ[j]?=some (some (.ref a))/\τ[k]?=some (some (.ref a)):=λq m=>by
  have mk:=IW so q (Bo.mp m)
  obtain⟨a,q1,q2⟩:=e.mu mk
  obtain⟨b,q3,q4⟩:=e1.mu (Bo.mp m)
  have z:=ag _ _ q
  rw[q1]at z
  have z:=afK q z.symm
  rw[q3]at z
  cases z
  exact⟨mk,_,q4,q2,q3,q1⟩
 have out:∀j,(∀k,src[k]?=some (some j)->jH ρ1[j]?=true->False)->∀b∈F1 j,∀o,H1 b=some o->H' b=some o:=λj n b hb o h=>by
  refine s.fr b o h (λ⟨k,z⟩=>?_) ?_
  .obtain⟨j',q1,q2,q3⟩:=wN z
   cases e1.di j j' b hb q3
   exact n k q1 q2
  .obtain⟨ys,z⟩:=e1.fl ⟨j,hb⟩
   exact e1.tb.nt z
 refine⟨⟨by rw[qT,e1.len],e.sub,e.tb,e.tg,λb ⟨j,hb⟩=>?_,e.rg,e1.di,λj=>?_⟩,s.gg,λb o h n=>s.fr b o h λz=>n (tM z),λb h=>(s.nw b h).imp id (Or.imp id tM),λb h=>.inr h,s.dm⟩
 .cases z:G' b with
  |none=>rfl
  |some o =>
   rcases s.nw b (by rw[z]; exact λy=>by cases y)with y|y|⟨k,y⟩
   .exact(y (e1.hid b ⟨j,hb⟩)).elim
   .exact(e1.fs y ⟨j,hb⟩).elim
   .obtain⟨j',q1,q2,q3⟩:=wN y
    obtain⟨_,a,h1,h2,_⟩:=inn q1 q2
    rw[h1]at q3
    rw[e.hid b ⟨k,by rw[h2]; exact q3⟩]at z
    cases z
 .rcases Ja I (rfl:(bH src ρ ρ1)[j]?=_)with⟨k,ts,q1,q2,q3⟩|⟨n,q⟩
  .rw[<-q3]
   cases m:jH ρ1[j]? with
   |false =>
    have:(cJ j ts ρ1)[j]?=ρ1[j]? := by
     unfold cJ
     split <;> first|rfl|(rename_i y; rw[y]at m; cases m)
    rw[this]
    exact(e1.sl j).mono s.gg (out j λk _ z=>by rw[m]at z; cases z)
   |true =>
    obtain⟨_,a,h1,h2,h3,h4⟩:=inn q1 m
    have z:=e.sl k
    have z1:=e1.sl j
    have y:∃xs,H' a=some (.lst xs)/\aq K G' xs ts:=by
     rcases q2 with q2|q2 <;> (rw[q2,h4]at z; obtain⟨b,xs,y1,_,_,y2⟩:=z; cases y1; exact⟨xs,y2⟩)
    obtain⟨xs,y1,y2⟩:=y
    unfold cJ
    unfold jH at m
    split at m <;> rename_i w <;> (try cases m) <;>
    .rw[w]at z1
     obtain⟨b,_,y3,_,y4,_⟩:=z1
     rw[h3]at y3
     cases y3
     try simp only[w]
     rw[gW (List.getElem?_eq_some_iff.mp w).1]
     exact⟨a,xs,h3,h1,y4,y1,y2⟩
  .rw[<-q]
   exact(e1.sl j).mono s.gg (out j λk q1 z=>n k q1 (inn q1 z).1)
theorem Ok.Ua(e:Ok K R ρ σ G H F)(h:H D=some (.lst xs))(n:¬Fn F D)(g:G D=none):Ok K R ρ σ G (upd H D (.lst ys)) F:=by
 have ne:∀b,Fn F b->b≠D:=λb z y=>n (y▸z)
 refine⟨e.len,λb o q=>?_,e.tb.upd h,e.tg,e.hid,λb z=>⟨(e.rg b z).1,λy=>?_⟩,e.di,λi=>(e.sl i).mono (Same.refl _) λb hb o q=>?_⟩
 .rw[aJ λz=>by rw[z,g]at q; cases q]
  exact e.sub b o q
 .by_cases z:b=D
  .subst z; rw[bY]at y; cases y
  .rw[aJ z]at y; exact(e.rg b ‹_›).2 y
 .rw[aJ (ne b ⟨i,hb⟩)]; exact q
theorem aD.flt(s:aD K G H F G' H' F')(tb:bN K H)(h:H D=some (.lst xs))(n:¬Fn F D)(g:G D=none):H' D=some (.lst xs)/\¬Fn F' D/\G' D=none:=by
 refine⟨s.fr D _ h n (tb.nt h),s.out h n,?_⟩
 cases k:G' D with
 |none=>rfl
 |some o=>exact((s.nw D (by rw[k]; exact λz=>by cases z)).elim (λz=>z g) λz=>z.elim (λz=>by rw[h]at z; cases z) n).elim
end
abbrev Jc:=Hp->Hp->Fp->List V->List Tr->Prop
noncomputable def o7(cv:Rv->Rs Tr)(g:GF)(c:BF)(f:EF):List Tr->En->Rs (List Tr × En)
 | [],ρ=>.ok ([],ρ)
 |u::us,ρ=>(g u ρ).bind λρ1=>(c ρ1).bind λb=>if b.1=true then(f b.2).bind λp=>(cv p.1).bind λT=>(o7 cv g c f us p.2).bind λz=>.ok (T::z.1,z.2)else o7 cv g c f us b.2
structure Acc(K:FZ)(R:Addr->Prop)(H1:Hp)(D:Addr)(cv:Rv->Rs Tr)(A:Jc):Prop where
 nx:∀r c,cv r ≠ .ex c
 nil:∀G H F,A G H F [] []
 stp:∀{G H F G' H' F' xs ts},bN K H->aD K G H F G' H' F'->A G H F xs ts->A G' H' F' xs ts
 pok:∀{G H F xs ts ys},A G H F xs ts->A G (upd H D ys) F xs ts
 add:∀{ρ ρ0 σ σ0 G H F G0 H0 F0 xs ts v r T},A G0 H0 F0 xs ts->Ok K R ρ0 σ0 G0 H0 F0->(∀b,H0 b=none->H1 b=none/\b≠D)->Ok K R ρ σ G H F->aD K G0 H0 F0 G H F->fB K σ H0 G H F v r->cv r=.ok T->∃G2,Ok K R ρ σ G2 H F/\aD K G0 H0 F0 G2 H F/\A G2 H F (xs++[v]) (ts++[T])
abbrev InC(K:FZ)(R:Addr->Prop)(A:Jc)(cv:Rv->Rs Tr)(gf:GF)(cf:BF)(f:EF)(src:List (Option Nat))(σ : St)(D:Addr)(G1 H1:Hp)(F1:Fp)(us:List Tr)(z:List Tr × En):Nat->Nat->St->Hp->Prop:=λi m τ H'=>m=us.length-i/\i<=us.length/\∃ρ' G' F' xs acc,Ok K R ρ' τ G' H' F'/\aD K G1 H1 F1 G' H' F'/\(H' D=some (.lst xs)/\¬Fn F' D/\G' D=none)/\A G' H' F' xs acc/\xs.length<=i/\(∀k j:Nat,src[k]?=some (some j) -> τ[k]?=(bW src σ)[k]?)/\∃y,o7 cv gf cf f (us.drop i) ρ'=.ok y/\z=(acc++y.1,y.2)
theorem Ub{K:FZ}{A:Jc}{G1:Hp}{J:It}{tc:TT}(hc:∀σ H Q,Tt ⟨K,λ_ _=>False⟩ cf σ H Q->tc σ H Q)(I:Inj src)(hj:∀k j:Nat,src[k]?=some (some j)->k∉js)(ng:∀T ρ c,gf T ρ ≠ .ex c)(hlen:us.length<=100000)(hD:H1 D=none)(ac:Acc K R H1 D cv A)(e1:Ok K R ρ1 σ G1 H1 F1)
  (it:∀G' H',Same G1 G'->Same G' H'->(∀b o,H1 b=some o->¬Fn (inF src ρ1 F1) b->¬Tb K b->H' b=some o)->∀i,(i=us.length->J.stop i H')/\∀u,us[i]?=some u->J.go i H'/\∀x cU,J.jU i H' x cU->∃G'',Gw K G' H' G'' cU/\Rep K G'' x u)
  (kz:o7 cv gf cf f us (dX src ρ1)=.ok z) (so:eN src z.2 ρ1=true) (fin:∀G' H' F' xs,Ok K R (bH src z.2 ρ1) σ G' H' F1->aD K G1 H1 F1 G' H' F1->H' D=some (.lst xs)->G' D=none->(∀b,Fn F' b->H1 b=none\/Fn F1 b)->¬Fn F' D->A G' H' F' xs z.1->Q (.ref D) H') :
  ∃W:Nat->Nat->St->Hp->Prop,(∃m,W 0 m (bW src σ) (upd H1 D (.lst [])))/\∀i m σ' H',W i m σ' H' ->
  (J.stop i H'/\Fg Q D H')\/(J.go i H'/\∀x cU,J.jU i H' x cU->mZ K gf js x σ' cU λσ2 H2=>tc σ2 H2 λb wH=>if b=true then Te ⟨K,λ_ _=>False⟩ f σ2 wH λv H3=>∃xs,H3 D=some (.lst xs)/\xs.length<sizeLine/\∃m',m'<m/\W (i+1) m' σ2 (upd H3 D (.lst (xs++[v])))else ∃m',m'<m/\W (i+1) m' σ2 wH):=by
 refine⟨InC K R A cv gf cf f src σ D G1 H1 (inF src ρ1 F1) us z,⟨us.length,by simp,Nat.zero_le _,dX src ρ1,G1,inF src ρ1 F1,[],[],?_,?_,⟨bY,λh=>e1.fs hD (tM h),e1.sub.free hD⟩,ac.nil _ _ _,Nat.le_refl _,λ_ _ _=>rfl,z,kz,rfl⟩,?_⟩
 .exact((e1.enter I).grow (.flt e1.sub hD)).1
 .exact((e1.enter I).grow (.flt e1.sub hD)).2
 rintro i m τ H2 ⟨rfl,hi,ρ2,G2,F2,xs,acc,e2,s2,d2,a2,l2,g2,y,ky,rfl⟩
 have q:=it G2 H2 s2.gg e2.sub s2.fr i
 have mv:∀{G3 H3 F3},aD K G1 H1 (inF src ρ1 F1) G3 H3 F3->∀ys,aD K G1 H1 (inF src ρ1 F1) G3 (upd H3 D (.lst ys)) F3:=λs ys=>⟨s.gg,λb o h n t=>by rw[aJ (iC h hD)]; exact s.fr b o h n t,s.nw,s.nf,λb h=>by
  by_cases z:b=D
  .subst z; exact hD
  .rw[aJ z]at h; exact s.dm b h⟩
 by_cases hlt:i<us.length
 .rw[List.drop_eq_getElem_cons hlt]at ky
  obtain⟨go,yl⟩:=q.2 us[i] (by simp[hlt])
  refine .inr ⟨go,λx H3 yy=>?_⟩
  obtain⟨G3,w3,r3⟩:=yl x H3 yy
  obtain⟨e3,s3⟩:=e2.grow w3
  obtain⟨ρ4,k4,ky⟩:=cj ky
  obtain⟨b,k5,ky⟩:=cj ky
  refine⟨R,ρ2,G3,F2,_,e3,r3,?_⟩
  rw[k4]
  intro σ4 F4 e4 f4 a4
  have s4:=s3.trans (aD.sub f4)
  have g4:∀k j:Nat,src[k]?=some (some j) -> σ4[k]?=(bW src σ)[k]? := λk j h=>(a4 k (hj k j h)).trans (g2 k j h)
  refine hc _ _ _ ⟨R,ρ4,G3,F4,e4,?_⟩
  rw[k5]
  intro G5 H5 F5 e5 s5
  have lJ:=s4.trans s5
  have d5:=lJ.flt e2.tb d2.1 d2.2.1 d2.2.2
  split at ky <;> rename_i c
  .rw[if_pos c]
   obtain⟨p,k6,ky⟩:=cj ky
   obtain⟨T,k7,ky⟩:=cj ky
   obtain⟨y',k8,ky⟩:=cj ky
   cases ky
   refine⟨R,b.2,G5,F5,e5,?_⟩
   rw[k6]
   intro v G6 H6 F6 e6 s6 v6
   obtain⟨G7,e7,s7,a7⟩:=ac.add (ac.stp e2.tb lJ a2) e5 (λb h=>⟨(s2.trans lJ).dm b h,λz=>by rw[z,d5.1]at h; cases h⟩) e6 s6 v6 k7
   have d7:=s7.flt e5.tb d5.1 d5.2.1 d5.2.2
   refine⟨xs,d7.1,Nat.lt_of_le_of_lt (show xs.length<=100000 by omega) (by decide),us.length-(i+1),by omega,rfl,hlt,p.2,G7,F6,xs++[v],acc++[T],e7.Ua d7.1 d7.2.1 d7.2.2,mv ((s2.trans lJ).trans s7) _,⟨bY,d7.2⟩,ac.pok a7,by simp; omega,g4,y',k8,by simp⟩
  .rw[if_neg c]
   exact⟨us.length-(i+1),by omega,rfl,hlt,b.2,G5,F5,xs,acc,e5,s2.trans lJ,d5,ac.stp e2.tb lJ a2,by omega,g4,y,ky,rfl⟩
 .have z:i=us.length:=by omega
  subst z
  rw[List.drop_length]at ky
  cases ky
  obtain⟨e',s'⟩:=e1.leave e2 s2 I g2 so
  exact .inl ⟨q.1 rfl,fin G2 H2 F2 xs e' s' d2.1 d2.2.2 (λb h=>(s2.nf b h).imp id tM) d2.2.1 (by rw[List.append_nil]; exact a2)⟩
theorem afL{K:FZ}:Acc K R H1 D sX λG _ _ xs ts=>aq K G xs ts:=⟨R9,λ_ _ _=>.nil,λ_ s a=>a.mono s.gg,λa=>a,λa e0 _ e s v q=>by
 obtain⟨G2,e2,s2,m,r⟩:=e.sY e0 s v q
 exact⟨G2,e2,s2,(a.mono s2.gg).app (.cons r .nil)⟩⟩
noncomputable def fU(g:GF)(c:BF)(f:EF):List Tr->En->Rs (List Tr × En)
 | [],ρ=>.ok ([],ρ)
 |u::us,ρ=>(g u ρ).bind λρ1=>(c ρ1).bind λb=>if b.1=true then(f b.2).bind λp=>(sX p.1).bind λT=>(fU g c f us p.2).bind λz=>.ok (T::z.1,z.2)else fU g c f us b.2
theorem Uc(g:GF)(c:BF)(f:EF):∀us,fU g c f us=o7 sX g c f us
 | []=>rfl
 |u::us=>by funext ρ; simp only[fU,o7,Uc g c f us]
noncomputable def gq:BF:=λρ=>.ok (true,ρ)
noncomputable def tO(src:List (Option Nat))(fi:IF)(g:GF)(c:BF)(f:EF):EF:=λρ=>(fi ρ).bind λp=>if p.1.length<=100000 then(dw (fU g c f p.1 (dX src p.2))).bind λz=>if eN src z.2 p.2=true then .ok (.v (.lst z.1) true,bH src z.2 p.2)else .bad else .bad
theorem o8{α β : Type}{r:Rs α}{f : α -> Rs β}{t:Tx}{P : β -> Prop}(h:bJ t H F ((dw r).bind f) P):∃a,r=.ok a/\bJ t H F (f a) P:=by
 cases r with
 |ok a=>exact⟨a,rfl,h⟩
 |_=>exact h.elim
theorem Ud{t:Tx}{tc:TT}(hc:∀σ H Q,Tt ⟨t.K,λ_ _=>False⟩ cf σ H Q->tc σ H Q)(I:Inj src)(hj:∀k j:Nat,src[k]?=some (some j)->k∉js)(ng:∀T ρ c,gf T ρ ≠ .ex c)(h:Te t (tO src fi gf cf f) σ H Q):wD (Ti t fi) (mZ t.K gf js) src tc (Te ⟨t.K,λ_ _=>False⟩ f) σ H Q:=by
 obtain⟨R,ρ,G,F,e,h⟩:=h
 refine⟨R,ρ,G,F,e,h.run (aD.refl (G:=G)) λp h J G1 H1 F1 e1 s1 it D hD=>?_⟩
 split at h
 case isFalse=>exact h.elim
 obtain⟨z,kz,h⟩:=o8 h
 split at h
 case isFalse=>exact h.elim
 rw[Uc]at kz
 exact Ub hc I hj ng ‹_› hD afL e1 (λG' H' m s _=>it G' H' m s) kz ‹_› λG' H' F' xs e' s' d g _ _ a=>h _ G' H' F1 e' (s1.trans s') ⟨⟨D,xs,_,rfl,rfl,s1.dm D hD,g,d,a⟩,λ_ a q=>by cases q; exact e1.fs hD⟩
noncomputable def cG(Γ : Gx)(N:List Str)(scope:Scope):Gx:=⟨N,QH scope Γ.sc,λx=>scope.names.lookup x == some .cell,Γ.B,[],true,Γ.k,[]⟩
theorem g8(o:Ox cl Γ E X)(d:N.Nodup):Ox cl (cG Γ N scope) E0 (aR X N scope C s H ex):=⟨rfl,by show QH scope X.env.scope=_; rw[o.s]; rfl,d,o.l,o.r,Q8,o.B,(λ_ z=>nomatch z),o.x,rfl,(λ_=>rfl),λ_ z=>nomatch z⟩
noncomputable def o9(Γ : Gx)(N:List Str)(src:List (Option Nat))(scope:Scope)(js:List Nat):Bool :=
 decide (scope.kind=.function)&&decide (∀y∈scope.names,y.2=.cell->scope.names.lookup y.1=some .cell)&&decide (∀y∈scope.names,y.2=.local->scope.names.lookup y.1=some .local)&&decide (∀y∈scope.names,y.2=.free -> Γ.sc.names.lookup y.1=some .cell\/Γ.sc.names.lookup y.1=some .free)&&decide (src.length=N.length)&&decide (∀p∈N.zip src,∀j∈p.2,Γ.N[j]?=some p.1/\scope.names.lookup p.1=some .free)&&decide N.Nodup&&decide (src.filterMap id).Nodup&&js.all λk=>(src[k]?).join.isNone
theorem tQ(h:o9 Γ N src scope js=true):mD Γ.sc Γ.N N src scope/\N.Nodup/\Inj src/\∀k j:Nat,src[k]?=some (some j)->k∉js:=by
 simp only[o9,an]at h
 obtain⟨⟨⟨⟨⟨⟨⟨⟨h1,h2⟩,h3⟩,h4⟩,h5⟩,h6⟩,h7⟩,h8⟩,h9⟩:=h
 refine⟨⟨of_decide_eq_true h1,of_decide_eq_true h2,of_decide_eq_true h3,of_decide_eq_true h4,of_decide_eq_true h5,of_decide_eq_true h6⟩,of_decide_eq_true h7,afI (of_decide_eq_true h8),λk j e m=>?_⟩
 have:=List.all_eq_true.mp h9 k m
 rw[e]at this
 cases this
noncomputable def Bp(v t:Pos)(scope:Scope)(y:Str)(env:Env):Bool:=env.blockKind == .function&&env.kindOf y == some .local&&t.line == v.line && !(scope.names.any λ(n,k)=>n == y&&(k == .local || k == .cell))
theorem Bq{te Jd:TE}{b:Str->Pos->Bool}(o:Ox cl Γ E X)(hw:∀y p l,swapsWith e (some (.Name y p)) l X.env=pure (b y p))(hP:PE X e te)(hS:∀i y p sp,Wr X i y->b y p=true->PS X (.Assign [.Name y p] e sp) (kZ te (kY i)))(imp:∀σ H Q,Jd σ H Q->te σ H Q):PE X e Jd/\∀i y p sp,Wr X i y->PS X (.Assign [.Name y p] e sp) (kZ Jd (kY i)):=by
 refine⟨hP.imp imp,λi y p sp w=>?_⟩
 cases hb:b y p
 .exact DQ o.d w.1 w.2.1 (hP.imp imp) ((hw y p _).trans (congrArg pure hb)) w.2.2
 .exact(hS i y p sp w hb).imp λD σ H=>imp σ H _
noncomputable def cC(src:List (Option Nat))(N:List Str)(i:VI j4)(g:VG gY jG)(b:VE bO):VC (tO src j4 gY gq bO) where
 ck Γ e:=oR e λx aK sc _=>aM aK λbf bF=>lB bf λt y cM dg=>aQ cM (iQ dg 0 (aQ bF (i.ck Γ (t,y)&&g.ck (cG Γ N sc) t&&b.ck (cG Γ N sc) x&&o9 Γ N src sc jG)))
 cs:=i.cs++(g.cs++b.cs)
 ok:=@λcl E Γ X e q o h=>by
  walk_at "O"
  rename_i x0 sc pos t0 y0
  simp only[an]at h
  obtain⟨⟨⟨h1,h2⟩,h3⟩,h4⟩:=h
  obtain⟨pi,ni⟩:=i.ok (ml q) o h1
  obtain⟨S,nd,I,hj⟩:=tQ h4
  have pg:=λC s H ex=>g.ok (X:=aR X N sc C s H ex) (ml (mr q)) (g8 o nd) h2
  have pb:=λC s H ex=>b.ok (X:=aR X N sc C s H ex) (mr (mr q)) (g8 o nd) h3
  exact Bq o (b:=λy p=>Bp pos p sc y X.env) (λ_ _ _=>rfl) (Iw o.s o.N S o.l pi (λC s H ex=>(pg C s H ex).1) (λ_ _ _ _=>Bh) pb (jo ni)) (λi y p sp w hb=>Iz o.d w.1 w.2.1 o.s o.N S o.l pi (λC s H ex=>(pg C s H ex).1) (λ_ _ _ _=>Bh) pb (congrArg pure hb) (jo ni) w.2.2) λσ H Q h=>by
   exact Ud (λσ H Q ⟨R,ρ,G,F,e,h⟩=>h G H F e .refl) I hj (pg 0 X.s₀ X.H₀ []).2.1 h
noncomputable def Ue(src:List (Option Nat))(N:List Str)(i:VI j4)(g:VG gY jG)(k:VT tH)(b:VE bO):VC (tO src j4 gY tH bO) where
 ck Γ e:=oR e λx aK sc _=>aM aK λbf bF=>lB bf λt y cM dg=>aM cM λz eV=>aQ eV (iQ dg 0 (aQ bF (i.ck Γ (t,y)&&g.ck (cG Γ N sc) t&&b.ck (cG Γ N sc) x&&k.ck (cG Γ N sc) z&&o9 Γ N src sc jG)))
 cs:=i.cs++(g.cs++(b.cs++k.cs))
 ok:=@λcl E Γ X e q o h=>by
  walk_at "O"
  rename_i x0 sc pos t0 y0 z0
  simp only[an]at h
  obtain⟨⟨⟨⟨h1,h2⟩,h3⟩,h5⟩,h4⟩:=h
  obtain⟨pi,ni⟩:=i.ok (ml q) o h1
  obtain⟨S,nd,I,hj⟩:=tQ h4
  have pg:=λC s H ex=>g.ok (X:=aR X N sc C s H ex) (ml (mr q)) (g8 o nd) h2
  have pb:=λC s H ex=>b.ok (X:=aR X N sc C s H ex) (ml (mr (mr q))) (g8 o nd) h3
  have pk:=λC s H ex=>k.ok (X:=aR X N sc C s H ex) (mr (mr (mr q))) (g8 o nd) h5
  exact Bq o (b:=λy p=>Bp pos p sc y X.env) (λ_ _ _=>rfl) (Iw o.s o.N S o.l pi (λC s H ex=>(pg C s H ex).1) (λC s H ex=>T7 (pk C s H ex)) pb (jo ni)) (λi y p sp w hb=>Iz o.d w.1 w.2.1 o.s o.N S o.l pi (λC s H ex=>(pg C s H ex).1) (λC s H ex=>T7 (pk C s H ex)) pb (congrArg pure hb) (jo ni) w.2.2) λσ H Q=>Ud (λ_ _ _ h=>h) I hj (pg 0 X.s₀ X.H₀ []).2.1
noncomputable def afM(src:List (Option Nat))(n:Nat)(g:GF)(c:BF)(f:EF):EF:=λρ=>(con ρ n).bind λus=>if us.length<=100000 then(dw (fU g c f us (dX src ρ))).bind λz=>if eN src z.2 ρ = true then .ok (.v (.lst z.1) true,bH src z.2 ρ)else .bad else .bad
noncomputable def tR:Rv->Rs Tr
 |.v (.lst us) true=>if cg us=true then .ok (.lst us)else .bad
 |_=>.bad
noncomputable def lK(g:GF)(c:BF)(f:EF):List Tr->En->Rs (List Tr × En)
 | [],ρ=>.ok ([],ρ)
 |u::us,ρ=>(g u ρ).bind λρ1=>(c ρ1).bind λb=>if b.1=true then(f b.2).bind λp=>(tR p.1).bind λT=>(lK g c f us p.2).bind λz=>.ok (T::z.1,z.2)else lK g c f us b.2
theorem Ug(g:GF)(c:BF)(f:EF):∀us,lK g c f us=o7 tR g c f us
 | []=>rfl
 |u::us=>by funext ρ; simp only[lK,o7,Ug g c f us]
section
variable {K:FZ}{R:Addr->Prop}{ρ : En}{σ : St}{G H H1 G' H':Hp}{F F':Fp}
structure Br(K:FZ)(R:Addr->Prop)(H1:Hp)(D:Addr)(G H:Hp)(F:Fp)(xs:List V)(ts:List Tr)(bs:List Addr):Prop where
 nd:bs.Nodup
 al:∀b∈bs,H1 b=none/\b≠D/\¬R b/\¬Fn F b/\G b=none
 dr:DR K G H xs ts bs
theorem Br.stp(tb:bN K H)(s:aD K G H F G' H' F')(a:Br K R H1 D G H F xs ts bs):Br K R H1 D G' H' F' xs ts bs:=by
 refine⟨a.nd,λb hb=>?_,a.dr.mono s.gg λb hb o q=>?_⟩ <;> obtain⟨h1,h2,h3,h4,h5⟩:=a.al b hb <;> obtain⟨ys,hy⟩:=a.dr.lst b hb
 .exact⟨h1,h2,h3,(s.flt tb hy h4 h5).2⟩
 .rw[hy]at q
  cases q
  exact(s.flt tb hy h4 h5).1
theorem afN:Acc K R H1 D tR λG H F xs ts=>∃bs,Br K R H1 D G H F xs ts bs:=by
 refine⟨λr c=>(by unfold tR; (repeat' split) <;> (intro z; cases z)),λ_ _ _=>⟨[],.nil,(λ_ h=>by cases h),.nil⟩,λtb s ⟨bs,a⟩=>⟨bs,a.stp tb s⟩,λ⟨bs,a⟩=>⟨bs,a.nd,a.al,a.dr.mono (Same.refl _) λb hb o q=>?_⟩,λ⟨bs,a0⟩ e0 hn e s v q=>?_⟩
 .rw[aJ (a.al b hb).2.1]; exact q
 .have a:=a0.stp e0.tb s
  unfold tR at q
  (repeat' split at q) <;> cases q
  rename_i nl
  obtain⟨⟨c,ys,us,rfl,q1,q2,q3,q4,q5⟩,f⟩:=v
  cases q1
  refine⟨_,e,s,bs++[c],List.nodup_append.mpr ⟨a.nd,by simp,λb hb d hd z=>?_⟩,λb hb=>?_,a.dr.app (.rw q4 (.flat q5 nl) .nil)⟩
  .cases List.mem_singleton.mp hd
   obtain⟨zs,hz⟩:=a0.dr.lst b hb
   rw[z,q2]at hz
   cases hz
  .rcases List.mem_append.mp hb with hb|hb
   .exact a.al b hb
   .cases List.mem_singleton.mp hb
    exact⟨(hn _ q2).1,(hn _ q2).2,e0.rn q2,f rfl _ rfl,q3⟩
end
noncomputable def Je(i:Nat)(src:List (Option Nat))(fi:IF)(g:GF)(c:BF)(f:EF):SF:=λρ=>(fi ρ).bind λp=>if p.1.length<=100000 then(dw (lK g c f p.1 (dX src p.2))).bind λz=>if eN src z.2 p.2=true then .ok (.nx,(bH src z.2 p.2).set i (.dp z.1))else .bad else .bad
theorem Ok.Uh{K:FZ}(e:Ok K R ρ σ G H F)(i:Nat)(n:(a::bs).Nodup)(al:∀b∈a::bs,¬R b/\¬Fn F b/\G b=none)(h:H a=some (.lst xs))(d:DR K G H xs ts bs):∃F',Ok K R (ρ.set i (.dp ts)) (σ.set i (some (.ref a))) G H F'/\∀b,Fn F' b->b∈a::bs\/Fn F b:=by
 by_cases l:i < ρ.length
 .refine⟨fO F i (a::bs),e.one i _ (by rw[List.length_set,List.length_set,e.len]) (λj n=>⟨ji n,ji n⟩) (Same.refl _) e.sub e.tb (λb h=>.inl h) (λ_ _ _ _ _ h=>h) (λb h=>(e.rg b h).2) (λb h=>⟨(al b h).2.2,λj _ z=>(al b h).2.1 ⟨j,z⟩⟩) ?_,λb h=>?_⟩
  .rw[gW l,gW (e.len▸l)]
   exact⟨a,xs,bs,rfl,rfl,n,λb hb=>(al b hb).1,h,d⟩
  .rcases oY h with h|⟨j,_,h⟩
   .exact .inl h
   .exact .inr ⟨j,h⟩
 .rw[tB l,tB (e.len▸l)]
  exact⟨F,e,λb h=>.inr h⟩
theorem afO{t:Tx}{tc:TT}(hc:∀σ H Q,Tt ⟨t.K,λ_ _=>False⟩ cf σ H Q->tc σ H Q)(I:Inj src)(hj:∀k j:Nat,src[k]?=some (some j)->k∉js)(ng:∀T ρ c,gf T ρ ≠ .ex c)(h:Ts t (Je n src fi gf cf f) D σ H):kZ (wD (Ti t fi) (mZ t.K gf js) src tc (Te ⟨t.K,λ_ _=>False⟩ f)) (kY n) D σ H:=by
 obtain⟨R,ρ,G,F,e,h⟩:=h
 refine⟨R,ρ,G,F,e,h.run (aD.refl (G:=G)) λp h J G1 H1 F1 e1 s1 it D hD=>?_⟩
 split at h
 case isFalse=>exact h.elim
 obtain⟨z,kz,h⟩:=o8 h
 split at h
 case isFalse=>exact h.elim
 rw[Ug]at kz
 refine Ub hc I hj ng ‹_› hD afN e1 (λG' H' m s _=>it G' H' m s) kz ‹_› λG' H' F' xs e' s' d g _ _ ⟨bs,a⟩=>?_
 have al:∀b∈D::bs,H1 b=none/\¬R b/\¬Fn F1 b/\G' b=none:=List.forall_mem_cons.mpr ⟨⟨hD,e1.rn hD,e1.fs hD,g⟩,λb hb=>⟨(a.al b hb).1,(a.al b hb).2.2.1,e1.fs (a.al b hb).1,(a.al b hb).2.2.2.2⟩⟩
 obtain⟨F2,e2,f2⟩:=e'.Uh n (List.nodup_cons.mpr ⟨λz=>(a.al D z).2.1 rfl,a.nd⟩) (λb hb=>(al b hb).2) d a.dr
 have s2:=s1.trans s'
 exact h _ G' H' F2 e2 ⟨s2.gg,s2.fr,s2.nw,λb z=>(f2 b z).elim (λz=>.inl (s1.dm b (al b z).1)) (s2.nf b),s2.dm⟩
noncomputable def sCd(n:Nat)(src:List (Option Nat))(N:List Str)(i:VI j4)(g:VG gY jG)(b:VE bO):VS (Je n src j4 gY gq bO) where
 ck Γ e:=oU e λaK bf _=>aM aK λbF cM=>atName bF λy p=>aQ cM (oR bf λx dg sc pos=>aM dg λeV jk=>lB eV λt z m5 m7=>aQ m5 (iQ m7 0 (aQ jk (tD Γ n y&&i.ck Γ (t,z)&&g.ck (cG Γ N sc) t&&b.ck (cG Γ N sc) x&&o9 Γ N src sc jG))))
 cs:=i.cs++(g.cs++b.cs)
 ok:=@λcl E Γ X e q o h=>by
  walk_at "O"
  rename_i sp y p x0 sc pos t0 y0
  simp only[an]at h
  obtain⟨⟨⟨⟨hw,h1⟩,h2⟩,h3⟩,h4⟩:=h
  obtain⟨pi,ni⟩:=i.ok (ml q) o h1
  obtain⟨S,nd,I,hj⟩:=tQ h4
  have pg:=λC s H ex=>g.ok (X:=aR X N sc C s H ex) (ml (mr q)) (g8 o nd) h2
  have pb:∀C s H ex,PE (aR X N sc C s H ex) x0 (Te (tx cl E0 X) bO):=λC s H ex=>b.ok (X:=aR X N sc C s H ex) (mr (mr q)) (g8 o nd) h3
  have Ui:∀C s H ex,PG (aR X N sc C s H ex) t0 (mZ (au X.K) gY jG):=λC s H ex=>(pg C s H ex).1
  refine((Bq o (b:=λy p=>Bp pos p sc y X.env) (λ_ _ _=>rfl) (Iw o.s o.N S o.l pi Ui (λ_ _ _ _=>Bh) pb (jo ni)) (λi y p sp w hb=>Iz o.d w.1 w.2.1 o.s o.N S o.l pi Ui (λ_ _ _ _=>Bh) pb (congrArg pure hb) (jo ni) w.2.2) λσ H Q h=>h).2 _ _ _ _ (vY o hw)).imp λD σ H h=>?_
  exact afO (λσ H Q ⟨R,ρ,G,F,e,h⟩=>h G H F e .refl) I hj (pg 0 X.s₀ X.H₀ []).2.1 h
noncomputable def tU(i:Nat)(ρ : En):En:=match ρ[i]? with
 |some (.dp ts)=>ρ.set i (.ow ts)
 |_=>ρ
noncomputable def Jf(i:Nat)(f:SF):SF:=λρ=>f (tU i ρ)
open Classical in
theorem Ok.tU{K:FZ}(e:Ok K R ρ σ G H F)(i:Nat):∃G' F',Ok K R (L2.tU i ρ) σ G' H F'/\aD K G H F G' H F':=by
 unfold L2.tU
 split
 case h_2=>exact⟨G,F,e,.refl⟩
 rename_i ts k
 have z:=e.sl i
 rw[k]at z
 obtain⟨a,xs,bs,h1,h2,nd,h3,h4,d⟩:=z
 have Uj:∀b∈bs,b∈F i:=λb hb=>by rw[h2]; exact List.mem_cons_of_mem _ hb
 have nda:=(List.nodup_cons.mp (h2▸nd)).1
 let G':Hp:=λb=>if b∈bs then H b else G b
 have m:Same G G':=λb o q=>by
  show(if b∈bs then H b else G b)=_
  split
  .exact e.sub b o q
  .exact q
 have sp:∀b,G' b≠none->G b≠none\/b∈bs:=λb q=>by
  by_cases z:b∈bs
  .exact .inr z
  .rw[show G' b=G b from if_neg z]at q; exact .inl q
 refine⟨G',fO F i [a],e.one i [a] (by rw[List.length_set,e.len]) (λj n=>⟨ji n,rfl⟩) m (λb o q=>?_) e.tb (λb q=>(sp b q).imp id λz=>⟨λj n y=>n (e.di j i b y (Uj b z)),?_,h3 b (by rw[h2]; exact List.mem_cons_of_mem _ z)⟩) (λ_ _ _ _ _ h=>h) (λb h=>(e.rg b h).2) (λb h=>?_) ?_,m,λ_ _ h _ _=>h,λb q=>(sp b q).imp id λz=>.inr ⟨i,Uj b z⟩,λb z=>?_,λ_ h=>h⟩
 .have q:(if b∈bs then H b else G b)=some o:=q
  split at q
  .exact q
  .exact e.sub b o q
 .obtain⟨ys,hy⟩:=d.lst b z
  exact e.tb.nt hy
 .cases List.mem_singleton.mp h
  refine⟨?_,λj n y=>n (e.di j i a y (by rw[h2]; exact List.mem_cons_self ..))⟩
  rw[show G' a=G a from if_neg nda]
  exact e.hid a ⟨i,by rw[h2]; exact List.mem_cons_self ..⟩
 .rw[gW (List.getElem?_eq_some_iff.mp k).1]
  refine⟨a,xs,h1,rfl,h3 a (by rw[h2]; exact List.mem_cons_self ..),h4,d.reps m λb hb=>if_pos hb⟩
 .rcases oY z with z|⟨j,_,z⟩
  .exact .inr ⟨i,by rw[h2,List.mem_singleton.mp z]; exact List.mem_cons_self ..⟩
  .exact .inr ⟨j,z⟩
noncomputable def sD(i:Nat)(a:VS aA):VS (Jf i aA) where
 ck:=a.ck
 cs:=a.cs
 ok q o h:=(a.ok q o h).imp λD σ H=>bB λR ρ G F e h=>by
  obtain⟨G',F',e',s'⟩:=e.tU i
  exact vX e' s' h
open PySem.W
noncomputable def insI(i:Int):List Int->List Int
 | []=>[i]
 |j::r=>if i<=j then i::j::r else j::insI i r
noncomputable def tV(l:List Int):List Int:=l.foldr insI []
theorem insI_perm(i:Int):∀l,(insI i l).Perm (i::l)
 | []=>.refl _
 |j::r=>by
  unfold insI
  split
  .exact .refl _
  .exact((insI_perm i r).cons j).trans (.swap i j r)
theorem Uk(i:Int):∀l,l.Pairwise (· <= ·)->(insI i l).Pairwise (· <= ·)
 | [],_=>by simp[insI]
 |j::r,hp=>by
  have hp':=List.pairwise_cons.mp hp
  unfold insI
  split
  .rename_i b
   refine List.pairwise_cons.mpr ⟨λk hk=>?_,hp⟩
   rcases List.mem_cons.mp hk with rfl|hk
   .exact b
   .have:=hp'.1 k hk; lia
  .rename_i b
   refine List.pairwise_cons.mpr ⟨λk hk=>?_,Uk i r hp'.2⟩
   rcases List.mem_cons.mp ((insI_perm i r).mem_iff.mp hk)with rfl|hk
   .lia
   .exact hp'.1 k hk
theorem Jg:∀l:List Int,(tV l).Perm l/\(tV l).Pairwise (· <= ·)
 | []=>⟨.refl _,.nil⟩
 |i::r=>by
  obtain⟨h1,h2⟩:=Jg r
  exact⟨(insI_perm i _).trans (h1.cons i),Uk i _ h2⟩
theorem Ul:∀{l m:List Int},l.Perm m->l.Pairwise (· <= ·)->m.Pairwise (· <= ·)->l=m
 | [],m,p,_,_=>by rw[List.nil_perm.mp p]
 |a::l,[],p,_,_=>by simpa using p.length_eq
 |a::l,b::m,p,h1,h2=>by
  have h1':=List.pairwise_cons.mp h1
  have h2':=List.pairwise_cons.mp h2
  have e:a=b:=by
   rcases List.mem_cons.mp (p.mem_iff.mp (List.mem_cons_self ..))with z|z
   .exact z
   .rcases List.mem_cons.mp (p.mem_iff.mpr (List.mem_cons_self (a:=b)))with y|y
    .exact y.symm
    .have a1:=h1'.1 b y
     have a2:=h2'.1 a z
     lia
  subst e
  rw[Ul p.cons_inv h1'.2 h2'.2]
theorem Um(p:m.Perm l)(h:m.Pairwise (· <= ·)):m=tV l:=Ul (p.trans (Jg l).1.symm) h (Jg l).2
theorem Uo:∀{ns:List Int} {vs:List Value},Vals (ns.map V.int) vs->IntsAre vs ns
 | [],_,h=>by cases h; exact .nil
 |n::ns,_,h=>by
  cases h with
  |cons h1 h2 =>
   obtain⟨t,rfl⟩:=h1
   exact .cons n t (Uo h2)
section
variable {X:Cx}
def Jh(K:FZ):List V->Hp->VK->Prop:=λxs H Q=>∃p ns,xs=[.ref p]/\aF K H p (ns.map V.int)/\ns.length<64/\∀l,H l=none->Q (.ref l) (upd H l (.lst ((tV ns).map V.int)))
theorem afP:fX X (.builtin "sorted") (Jh X.K):=by
 intro pins s σ H xs us Q I r h
 obtain⟨p,ns,rfl,hq,h64,q⟩:=h
 obtain⟨u,rfl,rx⟩:=vals1 r
 cases rx
 obtain⟨its,r',pl,hz⟩:=I.list hq
 have hl:=r'.length
 rw[List.length_map]at hl
 refine sorted_ints pl.isList (Uo r') (by lia) λout ns' a1 a2 a3=>?_
 obtain⟨e,he⟩:=sortedAll_at s.heap its out
 have e2:=Um a2 a3
 subst e2
 have len:=a2.length_eq
 refine⟨.ref (s.heap.objs.size+1),_,I.laid (t':=s.toks) (λb o z=>sortedAll_old z) (Nat.le_succ _) (show je X.prog X.w _ _ _ (.lst ((tV ns).map V.int))from⟨by rw[List.length_map,sizeLine_eq]; lia,out.toList,e,Fb a1,by rw[Array.toArray_toList]; exact he⟩),rfl,q _ (I.hok.fresh (Nat.le_succ _))⟩
end
end L2
end
section
namespace L2
open PySem PySem.Spec PyProof.Rows
open PySem.W
def pq(K:FZ):KW:=λH v k=>∃a,v=.ref a/\bh K H a [.int k.1,.int k.2]
theorem afQ{K:FZ}{H H':Hp}{v:V}{k:Int × Int}(s:Same H H')(h:pq K H v k):pq K H' v k:=by
 obtain⟨a,e,q⟩:=h
 exact⟨a,e,s.jz q⟩
section
variable {X:Cx}{pins:LO}{σ : St}{H:Hp}{s:Shared}
theorem Bs{k:Int × Int}(I:Inv X pins σ H s)(h:∃v,RelV v u/\pq X.K H v k):∃a o n t1 t2,u=.ref a/\s.heap.get? a=some o/\o.cls=.type "tuple" /\ o.data=.seq #[.int k.1 t1,.int k.2 t2] n:=by
 obtain⟨v,r,a,rfl,q⟩:=h
 cases r
 obtain⟨its,r,⟨o,e,c,n,d⟩,_⟩:=I.tuple q
 cases r with
 |cons r1 r =>
  cases r with
  |cons r2 r =>
   cases r
   obtain⟨t1,rfl⟩:=r1
   obtain⟨t2,rfl⟩:=r2
   exact⟨a,o,n,t1,t2,rfl,e,c,d⟩
theorem afR(I:Inv X pins σ H s)(u:Value)(k k':Int × Int)(h:∃v,RelV v u/\pq X.K H v k)(h':∃v,RelV v u/\pq X.K H v k'):k=k':=by
 obtain⟨a,o,n,t1,t2,rfl,e,_,d⟩:=Bs I h
 obtain⟨a',o',n',t1',t2',z,e',_,d'⟩:=Bs I h'
 cases z
 rw[e]at e'
 cases e'
 rw[d]at d'
 injection d' with d' _
 have d':=congrArg Array.toList d'
 injection d' with x1 x2
 injection x2 with x2 _
 injection x1 with x1 _
 injection x2 with x2 _
 exact Prod.ext x1 x2
theorem afS{E:Value->Shared->Prop}{st:SortSt}{i j x y n n':Nat}{k k':Int × Int}{Q:Option Bool->SortSt->Prop}(hk:kindOf st=tuples' true)
  (hi:(arrOf st)[i]?=some (.ref x,p)) (hj:(arrOf st)[j]?=some (.ref y,q)) (hx:s.heap.get? x=some ox) (dx:ox.data=.seq #[.int k.1 t1,.int k.2 t2] n) (hy:s.heap.get? y=some oy) (dy:oy.data=.seq #[.int k'.1 y1,.int k'.2 y2] n')
  (h:Q (some (decide (k.1<k'.1\/(k.1=k'.1/\k.2<k'.2)))) st):wpS (model prog w) A E s (ltAt' i j) Q st:=by
 rw[ltAt'_eq]
 refine wpS_bind (wpS_get ?_)
 show wpS _ _ _ _ (do let x <-elem' (arrOf st) i; let y <-elem' (arrOf st) j; lt' x y) Q st
 rw[elem'_eq,elem'_eq,hi,hj]
 refine wpS_bind (wpS_pure (wpS_bind (wpS_pure ?_)))
 rw[lt'_eq]
 refine wpS_bind (wpS_get ?_)
 rw[hk]
 refine wpS_bind (wpS_lift (wpAny_attempt (kat_lt hx dx hy dy (kat_cons (wpAny_eqBool_int ?_)))))
 by_cases e1:k.1=k'.1
 .rw[show(k.1 == k'.1)=true by simp[e1]]
  refine kat_yes (kat_cons (wpAny_eqBool_int ?_))
  by_cases e2:k.2=k'.2
  .rw[show(k.2 == k'.2)=true by simp[e2]]
   refine kat_yes (kat_nil ⟨rfl,wpS_pure ?_⟩)
   rw[decide_eq_false (by omega)]at h
   exact h
  .rw[show(k.2 == k'.2)=false by simp[e2]]
   refine kat_no (kat_one _ _ (wpAny_lt_int ⟨rfl,wpS_pure ?_⟩))
   have:decide (k.1<k'.1\/(k.1=k'.1/\k.2<k'.2))=decide (k.2<k'.2):=by
    rw[decide_eq_decide]; omega
   rw[this]at h
   exact h
 .rw[show(k.1 == k'.1)=false by simp[e1]]
  refine kat_no (oneLt_int ⟨rfl,wpS_pure ?_⟩)
  have:decide (k.1<k'.1\/(k.1=k'.1/\k.2<k'.2))=decide (k.1<k'.1):=by
   rw[decide_eq_decide]; omega
  rw[this]at h
  exact h
theorem afT:mV X (λH u k=>∃v,RelV v u/\pq X.K H v k) (tuples' true) where
 kind:=λH keys kz h2 hk pins σ s Q E I q=>by
  have t:∀vs:List Value,(∀v∈vs,∃k:Int × Int,∃w,RelV w v/\pq X.K H w k)->∃fs,KatTups s.heap vs fs/\fs.length=vs.length/\∀v∈fs,∃i t,v=Value.int i t:=λvs=>by
   induction vs with
   |nil=>exact λ_=>⟨[],.nil,rfl,λv m=>by cases m⟩
   |cons v vs ih =>
    intro h
    obtain⟨fs,a1,a2,a3⟩:=ih λu mu=>h u (List.mem_cons_of_mem _ mu)
    obtain⟨k,hv⟩:=h v (List.mem_cons_self ..)
    obtain⟨a,o,n,t1,t2,rfl,e,c,d⟩:=Bs I hv
    refine⟨.int k.1 t1::fs,KatTups.cons e c d rfl a1,by rw[List.length_cons,a2,List.length_cons],λu mu=>?_⟩
    rcases List.mem_cons.mp mu with rfl|mu
    .exact⟨_,_,rfl⟩
    .exact a3 u mu
  obtain⟨fs,a1,a2,a3⟩:=t keys.toList λv hv=>by
   obtain⟨i,hi,e⟩:=List.getElem_of_mem hv
   exact⟨kz i,hk i v (by rw[<-e]; simp[Array.getElem?_eq_getElem (show i<keys.size by simpa using hi)])⟩
  have:=kat_kind (M:=model X.prog X.w) (A:=X.A.in1.in1) (E:=E) (vs:=keys.toList) (fs:=fs) (T:=.type "int") (Q:=Q) a1 (by rw[a2]; simp; omega) (λv hv=>by
   obtain⟨i,t,rfl⟩:=a3 v hv
   exact Looks.now) (by decide) q
  simpa using this
 ask:=λ{pins σ H s E} a₀ kf I h st i j Q B hi hj q=>by
  have at_:∀i,i<a₀.size->∃(x:Nat) (p:Value) (o:Obj) (n:Nat) (t1 t2:Tok),(arrOf st)[i]?=some (Value.ref x,p)/\s.heap.get? x=some o/\o.data=.seq #[.int (q1 kf (arrOf st) i) t1,.int (q2 kf (arrOf st) i) t2] n:=λi hi=>by
   have hi':i<(arrOf st).size:=by rw[B.sz]; exact hi
   have hm:(arrOf st)[i]∈a₀.toList:=(Array.perm_iff_toList_perm.mp B.pm).mem_iff.mp (by simp)
   obtain⟨x,o,n,t1,t2,e,e2,_,d⟩:=Bs I (h _ hm)
   have e':(arrOf st)[i]?=some (arrOf st)[i]:=getElem?_pos _ i hi'
   refine⟨x,(arrOf st)[i].2,o,n,t1,t2,?_,e2,?_⟩
   .rw[e',<-e]
   .unfold q1 q2
    rw[e']
    exact d
  obtain⟨x,p,o,n,t1,t2,e1,e2,e3⟩:=at_ i hi
  obtain⟨y,p',o',n',u1,u2,f1,f2,f3⟩:=at_ j hj
  exact afS (k:=(q1 kf (arrOf st) i,q2 kf (arrOf st) i)) (k':=(q1 kf (arrOf st) j,q2 kf (arrOf st) j)) B.kn e1 f1 e2 e3 f2 f3 q
end
def iU(kz:Nat->Int × Int)(i j:Nat):Prop:=((kz i).1<(kz j).1\/((kz i).1=(kz j).1/\(kz i).2<(kz j).2))\/(((kz i).1=(kz j).1/\(kz i).2=(kz j).2)/\i<j)
noncomputable instance {kz:Nat->Int × Int}{i j:Nat}:Decidable (iU kz i j):=by unfold iU; infer_instance
noncomputable def j7(kz:Nat->Int × Int)(i:Nat):List Nat->List Nat
 | []=>[i]
 |j::r=>if iU kz i j then i::j::r else j::j7 kz i r
noncomputable def Ji(n:Nat)(kz:Nat->Int × Int):List Nat:=(List.range n).foldr (j7 kz) []
theorem Jj(kz:Nat->Int × Int)(i:Nat):∀l,(j7 kz i l).Perm (i::l)
 | []=>.refl _
 |j::r=>by
  unfold j7
  split
  .exact .refl _
  .exact((Jj kz i r).cons j).trans (.swap i j r)
theorem Uq(kz:Nat->Int × Int)(i:Nat):∀l,(∀j∈l,i≠j)->l.Pairwise (iU kz)->(j7 kz i l).Pairwise (iU kz)
 | [],_,_=>by simp[j7]
 |j::r,hn,hp=>by
  have hp':=List.pairwise_cons.mp hp
  unfold j7
  split
  .rename_i b
   refine List.pairwise_cons.mpr ⟨λk hk=>?_,hp⟩
   rcases List.mem_cons.mp hk with rfl|hk
   .exact b
   .have:=hp'.1 k hk
    unfold iU at b this ⊢
    lia
  .rename_i b
   refine List.pairwise_cons.mpr ⟨λk hk=>?_,Uq kz i r (λk hk=>hn k (List.mem_cons_of_mem _ hk)) hp'.2⟩
   rcases List.mem_cons.mp ((Jj kz i r).mem_iff.mp hk)with rfl|hk
   .have:=hn j (List.mem_cons_self ..)
    unfold iU at b ⊢
    lia
   .exact hp'.1 k hk
theorem Ur(kz:Nat->Int × Int):∀l:List Nat,l.Nodup->(l.foldr (j7 kz) []).Perm l/\(l.foldr (j7 kz) []).Pairwise (iU kz)
 | [],_=>⟨.refl _,.nil⟩
 |i::r,nd=>by
  have nd':=List.nodup_cons.mp nd
  obtain⟨h1,h2⟩:=Ur kz r nd'.2
  exact⟨(Jj kz i _).trans (h1.cons i),Uq kz i _ (λj hj z=>nd'.1 (by rw[z]; exact h1.mem_iff.mp hj)) h2⟩
theorem Ut(n:Nat)(kz:Nat->Int × Int):mU n kz (Ji n kz):=Ur kz _ List.nodup_range
theorem Uu(as:∀a b,R a b->¬R b a):∀{l m:List Nat},l.Perm m->l.Pairwise R->m.Pairwise R->l=m
 | [],m,p,_,_=>by rw[List.nil_perm.mp p]
 |a::l,[],p,_,_=>by simpa using p.length_eq
 |a::l,b::m,p,h1,h2=>by
  have h1':=List.pairwise_cons.mp h1
  have h2':=List.pairwise_cons.mp h2
  have e:a=b:=by
   rcases List.mem_cons.mp (p.mem_iff.mp (List.mem_cons_self ..))with z|z
   .exact z
   .rcases List.mem_cons.mp (p.mem_iff.mpr (List.mem_cons_self (a:=b)))with y|y
    .exact y.symm
    .exact(as _ _ (h1'.1 b y) (h2'.1 a z)).elim
  subst e
  rw[Uu as p.cons_inv h1'.2 h2'.2]
theorem mU.eq(h:mU n kz ys):ys=Ji n kz:=by
 have g:=Ut n kz
 refine Uu (R:=iU kz) (λa b h1 h2=>?_) (h.1.trans g.1.symm) h.2 g.2
 unfold iU at h1 h2
 lia
noncomputable def j8:List Tr->Option (List Int)
 | []=>some []
 |.int i::r=>(j8 r).map (i :: ·)
 |_::_=>none
theorem Bt:∀{ts:List Tr} {ns:List Int},j8 ts=some ns->ts=ns.map Tr.int
 | [],_,h=>by cases h; rfl
 |.int i::r,ns,h=>by
  obtain⟨m,e,rfl⟩:=Option.map_eq_some_iff.mp h
  rw[Bt e]; rfl
theorem Bu{K:FZ}{H:Hp}:∀{ns:List Int} {vs:List V},aq K H vs (ns.map Tr.int)->vs=ns.map V.int
 | [],_,h=>by cases h; rfl
 |n::ns,_,h=>by
  cases h with
  |cons h1 h2 =>
   cases h1
   rw[Bu h2]
   rfl
theorem Jk{K:FZ}{H:Hp}:∀ns:List Int,aq K H (ns.map V.int) (ns.map Tr.int)
 | []=>.nil
 |n::ns=>.cons (.int n) (Jk ns)
noncomputable def qU:G1
 |.lst ts=>match j8 ts with
  |some ns=>if ns.length<64 then .ok (.lst ((tV ns).map Tr.int),true)else .bad
  |none=>.bad
 |_=>.bad
theorem afU{K:FZ}:mL (au K) (λx=>Jh K [x]) qU:=⟨λa c=>(by unfold qU; (repeat' split) <;> (intro z; cases z)),λG H x a Q s rx h=>by
 unfold qU at h
 split at h
 case h_2=>exact h.elim
 split at h
 case h_2=>exact h.elim
 rename_i ns e
 split at h
 case isFalse=>exact h.elim
 rw[Bt e]at rx
 obtain⟨p,xs,rfl,q,r⟩:=rx.lst s
 have e2:=Bu r
 subst e2
 exact⟨p,ns,rfl,q.toK,‹_›,λl nl=>h _ _ _ (.flt s nl) (.flt s nl (Jk _))⟩⟩
theorem afV{K:FZ}(h:dM K σ Hs G H F vs [.v (.int n) fr]):vs=[.int n]:=by
 cases h with
 |cons h r =>
  cases r
  cases fr with
  |false=>cases h.1; rfl
  |true=>obtain⟨_,_,_,_,z,_⟩:=h.1; cases z
theorem Uv{K:FZ}{H:Hp}:∀l:List Nat,aq K H (l.map λi:Nat=>V.int i) (l.map λi:Nat=>Tr.int i)
 | []=>.nil
 |n::l=>.cons (.int n) (Uv l)
noncomputable def eLR(fa:AF):EF:=λρ=>(fa ρ).bind λp=>match p.1 with
 | [.v (.int n) _]=>if 0<=n/\n<=1000 then .ok (.v (.lst ((List.range n.toNat).map λi:Nat=>Tr.int i)) true,p.2)else .bad
 |_=>.bad
noncomputable def afW:GM:=λts as=>match as with
 | [.int i,T]=>if 0<=i/\i.toNat<=ts.length/\ts.length<=100000 then .ok (ts.take i.toNat++T::ts.drop i.toNat,.non)else .bad
 |_=>.bad
abbrev RF:=List (Option Tr)->Rs Tr
def Tq(K:FZ)(f:RF):TE:=λσ H Q=>∃G ts T,Same G H/\(∀(i:Nat) U,ts[i]?=some (some U)->∃v,σ[i]?=some (some v)/\Rp K G H v U)/\f ts=.ok T/\∀v G' H',Same G G'->Same H H'->Same G' H'->Rp K G' H' v T->Q v H'
theorem Rp.up{K:FZ}(h:Rp K G H v T)(m:Same G G')(s:Same H H'):Rp K G' H' v T:=by
 rcases h with h|⟨a,xs,ts,e1,e2,e,r⟩
 .exact .inl (h.mono m)
 .exact .inr ⟨a,xs,ts,e1,e2,s _ _ e,r.mono m⟩
theorem VN.rp{K:FZ}(h:VN K Hs G H v T fr):Rp K G H v T:=by
 cases fr with
 |false=>exact .inl h
 |true=>obtain⟨a,xs,ts,e1,e2,_,_,e,r⟩:=h; exact .inr ⟨a,xs,ts,e1,e2,e,r⟩
structure VL(f:RF) where
 ck:Gx->Expr->Bool
 ok:∀{Γ X e},X.N = Γ.N->X.env.scope = Γ.sc->ck Γ e=true->PE X e (Tq (au X.K) f)
noncomputable def pA(i:Nat):RF:=λts=>match ts[i]? with
 |some (some U)=>.ok U
 |_=>.bad
noncomputable def tX(i:Nat):VL (pA i) where
 ck Γ e:=atName e λx _=>jY Γ i x
 ok hN hs h:=by
  walk_at "O"
  simp only[jY,an]at h
  obtain⟨⟨⟨h1,h2⟩,h3⟩,h4⟩:=h
  refine(Ou (i:=i) (by rw[hN]; exact eq_of_beq h1) (by rw[hs]; unfold uL; simpa[or_assoc]using h2) (by simpa using h3) (by simpa using h4)).imp λσ H Q ⟨G,ts,T,s,en,e,k⟩=>?_
  unfold pA at e
  split at e <;> cases e
  obtain⟨v,q1,q2⟩:=en i _ ‹_›
  exact⟨v,q1,k v G H (Same.refl _) (Same.refl _) s q2⟩
noncomputable def Bv(g:G2)(fa fb:RF):RF:=λts=>(fa ts).bind λa=>(fb ts).bind λb=>(g a b).bind λz=>.ok z.1
noncomputable def Jl(a:VL aA)(b:VL bO):VL (Bv aZ aA bO) where
 ck Γ e:=mO e λx y _=>sV y&&a.ck Γ x&&b.ck Γ y
 ok hN hs h:=by
  walk_at "O"
  simp only[an]at h
  refine(Eu Ew (a.ok hN hs h.1.2) (b.ok hN hs h.2) (Hv h.1.1)).imp λσ H Q ⟨G,ts,T,s,en,e,k⟩=>?_
  obtain⟨a,e1,e⟩:=cj e
  obtain⟨b,e2,e⟩:=cj e
  obtain⟨z,e3,e⟩:=cj e
  cases e
  refine⟨G,ts,a,s,en,e1,λx G1 H1 m1 n1 s1 rx=>⟨G1,ts,b,s1,λi U q=>?_,e2,λy G2 H2 m2 n2 s2 ry=>Rn.ok G2 H2 x y a b Q s2 (rx.up m2 n2) ry (by rw[e3]; exact λv G' H' w vn=>k v G' H' (m1.trans (m2.trans w.gw.gg)) (n1.trans (n2.trans w.sm)) w.gw.sub vn.rp)⟩⟩
  obtain⟨v,q1,q2⟩:=en i U q
  exact⟨v,q1,q2.up m1 n1⟩
noncomputable def Bw(g:G1)(fa:RF):RF:=λts=>(fa ts).bind λa=>(g a).bind λz=>.ok z.1
noncomputable def Jm(a:VL aA):VL (Bw nU aA) where
 ck Γ e:=qu e λaK x _=>iQ aK .USub (a.ck Γ x)
 ok hN hs h:=by
  walk_at "O"
  refine(Ei Ej (a.ok hN hs h)).imp λσ H Q ⟨G,ts,T,s,en,e,k⟩=>?_
  obtain⟨a,e1,e⟩:=cj e
  obtain⟨z,e3,e⟩:=cj e
  cases e
  exact⟨G,ts,a,s,en,e1,λx G1 H1 m1 n1 s1 rx=>Ro.ok G1 H1 x a Q s1 rx (by rw[e3]; exact λv G' H' w vn=>k v G' H' (m1.trans w.gw.gg) (n1.trans w.sm) w.gw.sub vn.rp)⟩
noncomputable def Uw(fa fb:RF):RF:=λts=>(fa ts).bind λa=>(fb ts).bind λb=>match a,b with
 |.int i,.int j=>.ok (.tup [.int i,.int j])
 |_,_=>.bad
noncomputable def lPr(a:VL aA)(b:VL bO):VL (Uw aA bO) where
 ck Γ e:=iM e λaK _ _=>aM aK λx bf=>aM bf λy bF=>aQ bF (notStar x&&notStar y&&a.ck Γ x&&b.ck Γ y)
 ok hN hs h:=by
  walk_at "O"
  simp only[an]at h
  refine(yJ (oE (a.ok hN hs h.1.2) (oE (b.ok hN hs h.2) rK (eY h.1.1.2)) (eY h.1.1.1))).imp λσ H Q ⟨G,ts,T,s,en,e,k⟩=>?_
  obtain⟨a,e1,e⟩:=cj e
  obtain⟨b,e2,e⟩:=cj e
  split at e <;> cases e
  refine⟨G,ts,_,s,en,e1,λx G1 H1 m1 n1 s1 rx=>⟨G1,ts,_,s1,λi U q=>?_,e2,λy G2 H2 m2 n2 s2 ry=>⟨show 2<=sizeLine by decide,λp hp=>?_⟩⟩⟩
  .obtain⟨v,q1,q2⟩:=en i U q
   exact⟨v,q1,q2.up m1 n1⟩
  .rw[rx.int,ry.int]
   exact k _ _ _ (m1.trans (m2.trans (Gs.new (K:=[]) s2 hp).gw.gg)) (n1.trans (n2.trans (iI hp _))) (Gs.new (K:=[]) s2 hp).gw.sub (.inl (VN.newT s2 hp (.cons (.int _) (.cons (.int _) .nil))))
noncomputable def uJ(ρ : En)(j:Nat):Option Tr:=match ρ[j]? with
 |some (.sh T)=>some T
 |some (.ow ts)=>some (.lst ts)
 |some (.rf ts)=>some (.lst ts)
 |_=>none
noncomputable def Bx(src:List (Option Nat))(ρ : En):List (Option Tr):=src.map λo=>o.bind (uJ ρ)
noncomputable def tY(kt:Tr->Option (Int × Int))(fb:RF)(ts:List (Option Tr)):List Nat->Rs (LZ)
 | []=>.ok []
 |i::r=>(fb (some (Tr.int i)::ts)).bind λT=>match kt T with
  |some k=>(tY kt fb ts r).bind λks=>.ok (k::ks)
  |none=>.bad
theorem Ux:∀{l:List Nat} {ks:LZ},tY kt fb ts l=.ok ks->ks.length=l.length/\∀(j i:Nat),l[j]?=some i->∃T k,fb (some (Tr.int i)::ts)=.ok T/\kt T=some k/\ks[j]?=some k
 | [],ks,h=>by cases h; exact⟨rfl,λj i z=>by simp at z⟩
 |a::l,ks,h=>by
  unfold tY at h
  obtain⟨T,e1,h⟩:=cj h
  split at h
  .rename_i k e2
   obtain⟨ks',e3,h⟩:=cj h
   cases h
   obtain⟨h1,h2⟩:=Ux e3
   refine⟨by simp[h1],λj i z=>?_⟩
   cases j with
   |zero=>simp at z; subst z; exact⟨T,k,e1,e2,by simp⟩
   |succ j=>simpa using h2 j i (by simpa using z)
  .cases h
noncomputable def Jo(kt:Tr->Option (Int × Int))(src:List (Option Nat))(fa:AF)(fb:RF):EF:=λρ=>(fa ρ).bind λp=>match p.1 with
 | [.v (.int n) _]=>if 0<=n/\n<64 then(dw (tY kt fb (Bx src p.2) (List.range n.toNat))).bind λks=>.ok (.v (.lst ((Ji n.toNat λi=>ks.getD i (0,0)).map λi:Nat=>Tr.int i)) true,p.2)else .bad
 |_=>.bad
theorem z8.gw{K:FZ}{P c:Addr}{x:Str}{G H H':Hp}(sg:Same G H)(gp:G P=none)(tb:bN K H)(hx:x∈eZ)(ht:tabIn K x=some (c,P))(hu:∀x'∈eZ,∀c',tabIn K x'=some (c',P)->x'=x)(l:z8 P (yZ x) H H'):Gw K G H G H':=by
 refine⟨Same.refl _,λb o q n=>l.kp b o q λz=>n ?_,λb o q=>l.kp b o (sg b o q) λz=>(by rw[z,gp]at q; cases q),λ_ x' hx' c' b e=>?_,λb h=>.inl h⟩
 .subst z
  exact⟨x,hx,c,ht⟩
 .by_cases z:b=P
  .subst z
   have:=hu x' hx' c' e
   subst this
   exact l.tb
  .obtain⟨ps,q,t1,t2⟩:=tb x' hx' c' b e
   refine⟨ps,l.kp _ _ q z,t1,λpos v k=>?_⟩
   obtain⟨d,o,e1,e2,e3⟩:=t2 pos v k
   refine⟨d,o,e1,l.kp _ _ e2 ?_,e3⟩
   rintro rfl
   obtain⟨qs,y,_⟩:=tb x hx c d ht
   rw[y]at e2
   cases e2
theorem afX{K:FZ}(e:Ok K R ρ σ G H F)(h:uJ ρ j=some U):∃v,σ[j]?=some (some v)/\Rp K G H v U:=by
 have z:=e.sl j
 unfold uJ at h
 split at h <;> rename_i k <;> cases h <;> rw[k]at z
 .obtain⟨_,v,h1,h2⟩:=z
  exact⟨v,h1,.inl h2⟩
 all_goals
  obtain⟨a,xs,h1,_,_,h4,h5⟩:=z
  exact⟨_,h1,.inr ⟨a,xs,_,rfl,rfl,h4,h5⟩⟩
theorem afY{t:Tx}{Kw:KW}(hq:q=yZ x)(hx:x∈eZ)(ht:tabIn t.K x=some (c,P))(hu:∀x'∈eZ,∀c',tabIn t.K x'=some (c',P)->x'=x)
  (hkt:∀G (H:Hp) v T k,Same G H->Rp t.K G H v T->kt T=some k->Kw H v k) (h:Te t (Jo kt src fa fb) σ H Q):RW Kw P q src (Ta t fa) (Tq t.K fb) σ H Q:=by
 subst hq
 obtain⟨R,ρ,G,F,e,h⟩:=h
 refine jC e .refl h λp h vs G1 H1 F1 e1 s1 v1=>?_
 obtain⟨rs,ρ1⟩:=p
 dsimp only at h
 split at h
 case h_2=>exact h.elim
 rename_i n fr
 split at h
 case isFalse=>exact h.elim
 obtain⟨ks,k1,h⟩:=o8 h
 obtain⟨kl,kg⟩:=Ux k1
 have nn:((n.toNat:Nat):Int)=n:=by lia
 refine⟨n.toNat,λi=>ks.getD i (0,0),by rw[afV v1,nn],by lia,e1.tb x hx c P ht,λH2 lh=>?_⟩
 obtain⟨e2,s2⟩:=e1.grow (lh.gw e1.sub (e1.tg P ⟨x,hx,c,ht⟩) e1.tb hx ht hu)
 refine⟨λi hi H3 s3=>?_,λD ys H3 s3 nD hs=>?_⟩
 .obtain⟨T,k,f1,f2,f3⟩:=kg i i (List.getElem?_range hi)
  refine⟨G1,_,T,e2.sub.trans s3,λj U z=>?_,f1,λv G4 H4 m4 n4 s4 r4=>⟨hkt G4 H4 v T _ s4 r4 ?_,n4⟩⟩
  .cases j with
   |zero=>simp at z; subst z; exact⟨.int i,by simp,.inl (.int i)⟩
   |succ j =>
    have z:(Bx src ρ1)[j]?=some (some U):=z
    unfold Bx at z
    rw[List.getElem?_map]at z
    obtain⟨o,eq,z⟩:=Option.map_eq_some_iff.mp z
    obtain⟨l,rfl,z⟩:=Option.bind_eq_some_iff.mp z
    obtain⟨v,h1,h2⟩:=afX e2 z
    refine⟨v,?_,h2.up (Same.refl _) s3⟩
    show(bW src σ)[j]?=some (some v)
    rw[Jb eq,h1]
    rfl
  .rw[f2]
   show some k=some (ks.getD i (0,0))
   rw[List.getD_eq_getElem?_getD,f3]
   rfl
 .obtain⟨e3,s4⟩:=e2.grow (G':=G1) (H':=H3) ⟨Same.refl _,λb o q _=>s3 b o q,e2.sub.trans s3,λt=>t.fr λb o _ q=>s3 b o q,λb h=>.inl h⟩
  rw[hs.eq]
  exact e3.fin ((s1.trans s2).trans s4) (.flt e3.sub nD) (.flt e3.sub nD (Uv _)) h
structure Kt(kt:Tr->Option (Int × Int)) where
 w:FZ->KW
 d:SortKind
 T:∀X:Cx,mV X (λH u k=>∃v,RelV v u/\w X.K H v k) d
 m:∀K {H H':Hp} {v k},Same H H'->w K H v k->w K H' v k
 i:∀{X:Cx} {pins:LO} {σ : St} {H:Hp} {s:Shared},Inv X pins σ H s->∀u k k',(∃v,RelV v u/\w X.K H v k)->(∃v,RelV v u/\w X.K H v k')->k=k'
 r:∀K G (H:Hp) v T k,Same G H->Rp (au K) G H v T->kt T=some k->w K H v k
noncomputable def Jp:Tr->Option (Int × Int)
 |.int i=>some (i,0)
 |_=>none
noncomputable def Jq:Tr->Option (Int × Int)
 |.tup [.int a,.int b]=>some (a,b)
 |_=>none
noncomputable def kyI:Kt Jp:=⟨λ_=>z9,_,λ_=>aeT,λ_ _ _ _ _ _ h=>h,aeU,λK G H v T k s r e=>by
 unfold Jp at e
 split at e <;> cases e
 exact⟨r.int,rfl⟩⟩
noncomputable def kyP:Kt Jq:=⟨pq,_,λ_=>afT,λ_ _ _ _ _ s h=>afQ s h,λI=>afR I,λK G H v T k s r e=>by
 unfold Jq at e
 split at e <;> cases e
 obtain⟨a,xs,rfl,q,r⟩:=r.tup s
 cases r with
 |cons r1 r =>
  cases r1
  cases r with
  |cons r2 r =>
   cases r2
   cases r
   exact⟨a,rfl,q.toK⟩⟩
theorem afZ{fc:List (Str × Addr)}:bindArgs (kla_fn "<lambda>" q ⟨[],[⟨x,ann,p⟩],none,[],[],none,[]⟩ body scope fc pm cd ctv) ⟨[u],[]⟩=pure [(x,u)]:=by
 simp[bindArgs,seqItems?]
 rfl
noncomputable def Jr(e:Expr)(k:Str->Expr->Bool):Bool:=gO e λeV jk m5 _=>atName eV λr _=>aM jk λa m7=>aQ m7 (aQ m5 (k r a))
theorem af0(h:Jr e k=true):∃r a p q,e=.Call (.Name r p) [a] [] q/\k r a=true:=by
 unfold Jr at h
 walk_at "O"
 exact⟨_,_,_,_,rfl,h⟩
noncomputable def BJ(l:List Keyword)(k:Str->Expr->Bool):Bool:=aM l λHX HY=>zR HX λIa v _=>oV Ia λn=>aQ HY (k n v)
theorem Uy(h:BJ l k=true):∃n v p,l=[⟨some n,v,p⟩]/\k n v=true:=by
 unfold BJ at h
 walk_at "O"
 exact⟨_,_,_,rfl,h⟩
noncomputable def Js(e:Expr)(k:Str->Expr->Scope->Bool):Bool:=zK e λaf2 body sc _=>zU af2 λaf3 af4 af5 af6 af7 af8 af9=>aQ af3 (aM af4 λaga agb=>zT aga λz _ _=>aQ agb (qw af5 (aQ af6 (aQ af7 (qw af8 (aQ af9 (k z body sc)))))))
theorem agc(h:Js e k=true):∃z body sc t p q,e=.Lambda ⟨[],[⟨z,t,p⟩],none,[],[],none,[]⟩ body sc q/\k z body sc=true:=by
 unfold Js at h
 walk_at "O"
 exact⟨_,_,_,_,_,_,rfl,h⟩
noncomputable def Uz(kt:Kt agd)(y:Str)(x:Str)(Ns:List Str)(src:List (Option Nat))(as:VA jE)(b:VL bO):VE (Jo agd src jE bO) where
 ck Γ e:=gO e λaK bf bF _=>atName aK λf _=>aM bf λcM dg=>aQ dg (Jr cM λr a=>BJ bF λk v=>Js v λz body sc=>f == ("sorted" : Str)&&r == ("range" : Str)&&k == ("key" : Str)&&z == x&&jD Γ f&&jD Γ r&&Γ.B.contains f&&Γ.B.contains r&&Γ.L.contains y&&as.ck Γ [a]&&o9 Γ (x::Ns) (none::src) sc []&&decide (∀y∈sc.names,y.2 ≠ .cell)&&decide (sc.names.lookup x=some .local) && !sc.isCoroutine && !sc.isGenerator&&b.ck ⟨x::Ns,sc,Γ.fn,[],[],true,0,[]⟩ body)
 cs:=as.cs
 ok:=@λcl E Γ X e q o h=>by
  walk_at "O"
  replace h:=af0 h
  obtain⟨r,a,_,_,rfl,h⟩:=h
  replace h:=Uy h
  obtain⟨k,_,_,rfl,h⟩:=h
  replace h:=agc h
  obtain⟨z,body,sc,_,_,_,rfl,h⟩:=h
  simp only[an]at h
  obtain⟨⟨⟨⟨⟨⟨⟨⟨⟨⟨⟨⟨⟨⟨⟨h1,h2⟩,h3⟩,h4⟩,h5⟩,h6⟩,h7⟩,h8⟩,h9⟩,h10⟩,h11⟩,h12⟩,h13⟩,h14⟩,h15⟩,h16⟩:=h
  cases eq_of_beq h1
  cases eq_of_beq h2
  cases eq_of_beq h3
  cases eq_of_beq h4
  obtain⟨S,nd,_,_⟩:=tQ h11
  obtain⟨pa,_,na⟩:=as.ok q o h10
  obtain⟨c,P,L,hc,hq⟩:=o.lm y (by simpa using h9)
  have pb:=λA f cd s H=>b.ok (X:=z6 X A (x::Ns) (X.env.qual++("<lambda>" : Str)) _ f cd s H) (Γ := ⟨x::Ns,_,Γ.fn,[],[],true,0,[]⟩) rfl rfl h16
  exact(aeS (te:=Tq (au X.K) bO) (kt.T X) (kt.m X.K) kt.i o.r (o.B _ (by simpa using h7)) (o.B _ (by simpa using h8)) o.s o.N ⟨S,of_decide_eq_true h12,of_decide_eq_true h13,by simpa using h14,by simpa using h15⟩ hc L.hd L.bm rfl pa (λ_ _ _ _=>afZ) pb (cZ o h5).1 (cZ o h6).1 (na _ (List.mem_cons_self ..))).imp λσ H Q=>afY (c:=c) hq L.nm L.tab L.un (kt.r X.K)
end L2
end
section
namespace L2
open PySem PySem.Spec PyProof.Rows
section
variable {elt t1 i1 t2 i2:Expr}{scope:Scope}{pos:Pos}{it acc:Value}{env:Env}
theorem agf:compTurn (.ListComp elt [⟨t1,i1,[],0⟩,⟨t2,i2,[],0⟩] scope pos) 0 it acc env=(standAt i1.pos >>= λ_=>pyNext it >>= λr=>match r with
   |none=>pure (.done .next)
   |some v=>letOwnedTupleGo t1 it v >>= λ_=>assign t1 env v >>= λ_=>eval i2 env >>= λx=>standAt i2.pos >>= λ_=>foldedSetIterable i2 env x >>= λx=>holding [x] (pyIter x) >>= λj=>runOwn (.compStart (.ListComp elt [⟨t1,i1,[],0⟩,⟨t2,i2,[],0⟩] scope pos) 1 j acc env) env >>= λ_ =>
     again (.compLoop (.ListComp elt [⟨t1,i1,[],0⟩,⟨t2,i2,[],0⟩] scope pos) 0 it acc env)):=by rfl
theorem agg:compTurn (.ListComp elt [⟨t1,i1,[],0⟩,⟨t2,i2,[],0⟩] scope pos) 1 it acc env=(standAt i2.pos >>= λ_=>pyNext it >>= λr=>match r with
   |none=>pure (.done .next)
   | some v=>letOwnedTupleGo t2 it v >>= λ_=>assign t2 env v >>= λ_=>(eval elt env >>= λx=>call (.builtin "list.append") [acc,x] >>= λ_=>pure ()) >>= λ_ =>
     again (.compLoop (.ListComp elt [⟨t1,i1,[],0⟩,⟨t2,i2,[],0⟩] scope pos) 1 it acc env)):=by rfl
variable {prog:Program}{w:World}{A:Around}{R:Result->Shared->Prop}{s:Shared}
theorem agh(h0:codeAny (model prog w) A (.compLoop (.ListComp elt [⟨t1,i1,[],0⟩,⟨t2,i2,[],0⟩] scope pos) 1 it acc env) R s)
  (h:wpAny (model prog w) A (pyIter it) (λit' s'=>codeAny (model prog w) A (.compLoop (.ListComp elt [⟨t1,i1,[],0⟩,⟨t2,i2,[],0⟩] scope pos) 1 it' acc env) R s') (notedBy (model prog w) A env λx s'=>R (.error x) s') s) :
  codeAny (model prog w) A (.compStart (.ListComp elt [⟨t1,i1,[],0⟩,⟨t2,i2,[],0⟩] scope pos) 1 it acc env) R s:=by
 refine codeAny_of_tree ?_
 show wpAny _ _ ((compStart (.ListComp elt [⟨t1,i1,[],0⟩,⟨t2,i2,[],0⟩] scope pos) 1 it acc env).onRaise (λx=>do noteFrame x env; standAt theWindowsPlace)) _ _ s
 refine wpAny_notedAt ?_
 unfold compStart
 show wpAny _ _ (ask >>= _) _ _ s
 refine wpAny_bind (wpAny_askSetting (wpAny_ite ?_))
 split
 .first
   |exact wpAny_bind (wpAny_pure (wpAny_pure (And.intro rfl h0)))
   |exact wpAny_pure (And.intro rfl h0)
 .first
   |exact wpAny_bind (wpAny_rule (wpAny_bind (wpAny_standAt (wpAny_bind (wpAny_mono h (λit' s' h'=>wpAny_pure (And.intro rfl h')) λ_ _ x=>x)))))
   |(refine wpAny_bind (wpAny_rule ?_); show wpAny _ _ (standAt i2.pos >>= _) _ _ s; exact wpAny_bind (wpAny_standAt (wpAny_bind (wpAny_mono h (λit' s' h'=>wpAny_pure (And.intro rfl h')) λ_ _ x=>x))))
theorem agi(I:Nat->Shared->Prop)
  (turn:∀n s,I n s->wpAny (model prog w) A (pyNext it) (λr s₁=>match r with
   |none=>R (.ok .next) s₁
   | some v=>wpAny (model prog w) A (letOwnedTupleGo t2 it v) (λ_ s₁'=>wpAny (model prog w) A (assign t2 env v) (λ_ s₂ => wpAny (model prog w) A (eval elt env) (λx s₃ =>
     wpAny (model prog w) A (call (.builtin "list.append") [acc,x]) (λ_ s₄=>∃m,m<n/\I m s₄) (λ_ _=>False) s₃) (λ_ _=>False) s₂) (λ_ _=>False) s₁') (λ_ _=>False) s₁) (λ_ _=>False) s)
  (n:Nat) (h:I n s):codeAny (model prog w) A (.compLoop (.ListComp elt [⟨t1,i1,[],0⟩,⟨t2,i2,[],0⟩] scope pos) 1 it acc env) R s:=by
 refine codeAny_loop rfl I (λn s hI=>?_) n h
 show wpAny _ _ ((compTurn (.ListComp elt [⟨t1,i1,[],0⟩,⟨t2,i2,[],0⟩] scope pos) 1 it acc env).onRaise (λx=>do noteFrame x env; theTreesLotGoes x)) _ _ s
 refine wpAny_noted (wpAny_noRaise ?_)
 rw[agg]
 refine wpAny_bind (wpAny_standAt (wpAny_bind (wpAny_mono (turn n s hI) (λr s₁ h₁=>?_) λ_ _ h'=>h')))
 cases r with
 |none=>exact wpAny_pure h₁
 |some v =>
  refine wpAny_bind (wpAny_mono h₁ (λ_ s₁' h₁'=>?_) λ_ _ h'=>h')
  exact wpAny_bind (wpAny_mono h₁' (λ_ s₂ h₂=>wpAny_bind (wpAny_bind (wpAny_mono h₂ (λx s₃ h₃=>wpAny_bind (wpAny_mono h₃
   (λ_ s₄ h₄=>wpAny_pure (wpAny_pure ⟨rfl,h₄⟩)) λ_ _ h'=>h')) λ_ _ h'=>h'))) λ_ _ h'=>h')
theorem agj(I:Nat->Shared->Prop)(hs:∀x,foldedSetIterable i2 env x=pure x)
  (turn:∀n s,I n s->wpAny (model prog w) A (pyNext it) (λr s₁=>match r with
   |none=>R (.ok .next) s₁
   | some v=>wpAny (model prog w) A (letOwnedTupleGo t1 it v) (λ_ s₁'=>wpAny (model prog w) A (assign t1 env v) (λ_ s₂ => wpAny (model prog w) A (eval i2 env) (λx s₃ => wpAny (model prog w) A (pyIter x) (λj s₄ =>
     codeAny (model prog w) A (.compStart (.ListComp elt [⟨t1,i1,[],0⟩,⟨t2,i2,[],0⟩] scope pos) 1 j acc env) (λr s₅=>r=.ok .next/\∃m,m<n/\I m s₅) s₄) (λ_ _=>False) s₃) (λ_ _=>False) s₂) (λ_ _=>False) s₁') (λ_ _=>False) s₁) (λ_ _=>False) s)
  (n:Nat) (h:I n s):codeAny (model prog w) A (.compLoop (.ListComp elt [⟨t1,i1,[],0⟩,⟨t2,i2,[],0⟩] scope pos) 0 it acc env) R s:=by
 refine codeAny_loop rfl I (λn s hI=>?_) n h
 show wpAny _ _ ((compTurn (.ListComp elt [⟨t1,i1,[],0⟩,⟨t2,i2,[],0⟩] scope pos) 0 it acc env).onRaise (λx=>do noteFrame x env; theTreesLotGoes x)) _ _ s
 refine wpAny_noted (wpAny_noRaise ?_)
 rw[agf]
 refine wpAny_bind (wpAny_standAt (wpAny_bind (wpAny_mono (turn n s hI) (λr s₁ h₁=>?_) λ_ _ h'=>h')))
 cases r with
 |none=>exact wpAny_pure h₁
 |some v =>
  refine wpAny_bind (wpAny_mono h₁ (λ_ s₁' h₁'=>?_) λ_ _ h'=>h')
  refine wpAny_bind (wpAny_mono h₁' (λ_ s₂ h₂=>?_) λ_ _ h'=>h')
  refine wpAny_bind (wpAny_mono h₂ (λx s₃ h₃=>?_) λ_ _ h'=>h')
  refine wpAny_bind (wpAny_standAt (wpAny_bind (wpAny_of_eq (hs x) (wpAny_bind (wpAny_holding (wpAny_mono h₃ (λj s₄ h₄=>?_) λ_ _ h'=>h'))))))
  refine wpAny_bind (wpAny_runOwn (codeAny_mono h₄ λr s₅ h₅=>?_))
  obtain⟨rfl,h₅⟩:=h₅
  exact wpAny_pure ⟨rfl,h₅⟩
end
def UG(D:Addr)(iV:TI)(g2:TG)(te:TE)(F:St->Hp->Prop):St->Hp->Prop:=λσ2 H2=>iV σ2 H2 λJ H3=>∃V:Nat->Nat->St->Hp->Prop,(∃k,V 0 k σ2 H3)/\∀j k σ3 H4,V j k σ3 H4 ->
 (J.stop j H4/\F σ3 H4)\/(J.go j H4/\∀y H5,J.jU j H4 y H5->g2 y σ3 H5 λσ4 H6=>te σ4 H6 λv H7=>∃xs,H7 D=some (.lst xs)/\xs.length<sizeLine/\∃k',k'<k/\V (j+1) k' σ4 (upd H7 D (.lst (xs++[v]))))
def BK(wi:TI)(g:TG)(src:List (Option Nat))(iV:TI)(g2:TG)(te:TE):TE:=λσ H Q=>wi σ H λJ H1=>∀D,H1 D=none ->
 ∃W:Nat->Nat->St->Hp->Prop,(∃m,W 0 m (bW src σ) (upd H1 D (.lst [])))/\∀i m σ' H',W i m σ' H' ->
  (J.stop i H'/\Fg Q D H')\/(J.go i H'/\∀x cU,J.jU i H' x cU->g x σ' cU (UG D iV g2 te λσ3 H3=>∃m',m'<m/\W (i+1) m' σ3 H3))
section
variable {X Y:Cx}{N:List Str}{C:Addr}{s0:Shared}{H0:Hp}{ex:List Addr}{elt tg iter fD iter2:Expr}{scope:Scope}{pos:Pos}{iV:TI}{g2:TG}{te:TE}
theorem agk(hi:PI Y fD iter2 iV)(hg:PG Y fD g2)(he:PE Y elt te)(hc:Y.calm=true)(hx:Y.xe=λ_ _=>False)(I:Inv Y pins σ H s)(h:UG D iV g2 te F σ H) :
  wpAny (model Y.prog Y.w) Y.A (eval iter2 Y.env) (λx s₃=>wpAny (model Y.prog Y.w) Y.A (pyIter x) (λj s₄=>codeAny (model Y.prog Y.w) Y.A (.compStart (.ListComp elt [⟨tg,iter,[],0⟩,⟨fD,iter2,[],0⟩] scope pos) 1 j (.ref D) Y.env) (λr s₅=>r=.ok .next/\∃σ' H',Inv Y pins σ' H' s₅/\F σ' H') s₄) (λ_ _=>False) s₃) (λ_ _=>False) s:=by
 rw[<-hx]
 refine aC (hi pins s σ H _ I h) λv s1 h1=>aC h1 λitv s2 h2=>?_
 obtain⟨it,fp,tn,J,H2,e,I2,T,st2,f2,V,⟨k0,v0⟩,turn⟩:=h2
 subst e
 have up:∀{H':Hp},(∀b∈fp,H' b=none)->∀b∈fp,bD Y pins H' b:=λhn b hb=>⟨hn b hb,(f2 b hb).2⟩
 have loop:codeAny (model Y.prog Y.w) Y.A (.compLoop (.ListComp elt [⟨tg,iter,[],0⟩,⟨fD,iter2,[],0⟩] scope pos) 1 (.ref it) (.ref D) Y.env) (λr s₅=>r=.ok .next/\∃σ' H',Inv Y pins σ' H' s₅/\F σ' H') s2:=by
  refine agi (λn s'=>∃i σ' H',Inv Y pins σ' H' s'/\tn i s'.heap/\(∀b∈fp,H' b=none)/\V i n σ' H') ?_ k0 ⟨0,σ,H2,I2,st2,λb hb=>(f2 b hb).1,v0⟩
  rintro n s5 ⟨i,σ5,H5,I5,iB,lq,w5⟩
  rcases turn i n σ5 H5 w5 with⟨stop,qn⟩|⟨go,step⟩
  .refine aC (T.done Y rfl rfl rfl hc i pins s5 σ5 H5 (λ_ _=>False) I5 (up lq) iB stop) λr s6 ⟨hr,I6⟩=>?_
   subst hr
   exact⟨rfl,σ5,H5,I6,qn⟩
  .refine aC (T.item Y rfl rfl rfl hc i pins s5 σ5 H5 (λ_ _=>False) I5 (up lq) iB go) λr s6 ⟨u,hr,h6⟩=>?_
   subst hr
   refine aC h6 λ_ s7 ⟨x,H7,I7,r7,y7,gA,wJ⟩=>?_
   have wK:=I7.pinned (up wJ) (T.obj _ _ gA)
   rw[<-hx]
   refine aC (hg _ s7 σ5 H7 x u _ wK r7 (step x H7 y7)) λ_ s8 ⟨σ8,H8,I8,q8⟩=>?_
   refine aC (he _ s8 σ8 H8 _ I8 q8) λyv s9 ⟨y,H9,I9,r9,q9⟩=>?_
   obtain⟨xs,e9,l9,m',hm,w9⟩:=q9
   refine aC (EY (X:=Y) _ s9 σ8 H9 (.ref D) [y] (.ref D) [yv] (λ_ H'=>V (i+1) m' σ8 H') I9 rfl (.cons r9 .nil) ⟨D,xs,y,rfl,rfl,e9,l9,w9⟩) λ_ Bm ⟨_,Ir,qR,_,Iu⟩=>?_
   refine⟨m',hm,i+1,σ8,Ir,qR.qd,T.keep _ _ _ gA λb hb o e=>(qR.pin (b,o) (List.mem_append_right _ (List.mem_append_right _ (lg hb e)))).1,λb hb=>?_,Iu⟩
   obtain⟨o,e,d⟩:=T.obj _ _ gA b hb
   exact(qR.pin (b,o) (List.mem_append_right _ (List.mem_append_right _ (lg hb e)))).2.1
 exact agh loop (T.self _ _ _ _ _ st2 loop)
end
section
variable {X:Cx}{elt tg iter fD iter2:Expr}{scope sc:Scope}{pos:Pos}{No N:List Str}{src:List (Option Nat)}{wi iV:TI}{g g2:TG}{te:TE}
theorem UJ{pins:LO}{RR:Value->Addr->Result->Shared->Prop}(hsc:X.env.scope=sc)(eU:X.N=No)(S:mD sc No N src scope)(hc:X.calm=true)
  (hi:PI X tg iter wi) (hg:∀C s H ex,PG (aR X N scope C s H ex) tg g) (hi2:∀C s H ex,PI (aR X N scope C s H ex) fD iter2 iV) (hg2:∀C s H ex,PG (aR X N scope C s H ex) fD g2) (he:∀C s H ex,PE (aR X N scope C s H ex) elt te) (I:Inv X pins σ H s) (h:BK wi g src iV g2 te σ H Q)
  (hs2:∀(env:Env) x,foldedSetIterable iter2 env x=pure x) (hRR:∀D C H' s' m,Inv X pins σ H' s'->H' C=none->C≠X.env.locals->X.s₀.heap.objs.size<=C->(∀x c,X.env.cells.lookup x=some c->c≠C)->(∀p∈X.pn++pins,p.1≠C)->s'.heap.Ns C m->Q (.ref D) H'->RR (.ref D) C (.ok .next) s') :
  wpAny (model X.prog X.w) X.A (eval iter X.env) (λx s₁=>wpAny (model X.prog X.w) X.A (pyIter x) (λit s₂=>wpAny (model X.prog X.w) X.A (newList []) (λacc s₃ =>
   wpAny (model X.prog X.w) X.A (newFunctionEnv scope X.env.globals (bM X.env.cells scope.names []) [] X.env.qual none .none (some X.env)) (λcenv s₄ =>
    codeAny (model X.prog X.w) X.A (.compStart (.ListComp elt [⟨tg,iter,[],0⟩,⟨fD,iter2,[],0⟩] scope pos) 0 it acc {cenv with scope:=relabel scope X.env }) (RR acc cenv.locals) s₄) X.xe s₃) X.xe s₂) X.xe s₁) X.xe s:=by
 refine aC (hi pins s σ H _ I h) λv s1 h1=>aC h1 λitv s2 h2=>?_
 obtain⟨it,fp,tn,J,H2,e,I2,T,st2,f2,hW⟩:=h2
 subst e
 have Ip:H2 s2.heap.objs.size=none:=I2.hok.fresh (Nat.le_refl _)
 obtain⟨W,⟨m0,w0⟩,turn⟩:=hW s2.heap.objs.size Ip
 have wI:∀b∈fp,b<s2.heap.objs.size:=λb hb=>by
  obtain⟨o,e,_⟩:=T.obj 0 _ st2 b hb
  exact Heap.lt_size e
 refine wpAny_newObj_type ?_
 have I3:Inv X pins σ (upd H2 s2.heap.objs.size (.lst [])) {s2 with heap:=s2.heap.push {cls:=.type "list",dict:=none,data:=.seq ([]:List Value).toArray } }:=I2.yP (t':=s2.toks) (ys:=[]) .nil (Nat.zero_le _)
 have f3:∀b∈fp,bD X pins (upd H2 s2.heap.objs.size (.lst [])) b:=λb hb=>by
  obtain⟨q,r⟩:=f2 b hb
  exact⟨by rw[aJ (Nat.ne_of_lt (wI b hb))]; exact q,r⟩
 have st3:tn 0 (s2.heap.push {cls:=.type "list",dict:=none,data:=.seq ([]:List Value).toArray }):=T.keep _ _ _ st2 λb hb o e=>Heap.get?_push_of_some _ e
 have j6:∀b∈fp,b<(s2.heap.push {cls:=.type "list",dict:=none,data:=.seq ([]:List Value).toArray }).objs.size:=λb hb=>by
  rw[Heap.size_push]; exact Nat.lt_succ_of_lt (wI b hb)
 generalize hD:s2.heap.objs.size=D at *
 generalize hh3:s2.heap.push {cls:=.type "list",dict:=none,data:=.seq ([]:List Value).toArray }=h3 at *
 generalize hH3:upd H2 D (.lst [])=H3 at *
 refine QL λh₁ hns old ck=>?_
 dsimp only at hns old ck ⊢
 have I4:Inv (aR X N scope h3.objs.size {s2 with heap:=h3 } H3 fp) [] (bW src σ) H3 {s2 with heap:=h₁,toks:=s2.toks+([]:List (Str × Value)).length }:=QM (s:={s2 with heap:=h3 }) hsc eU S I3 f3 j6 hns old ck
 have pR:tn 0 h₁ := T.keep _ _ _ st3 λb hb o e=>old b o e
 have loop:codeAny (model X.prog X.w) X.A (.compLoop (.ListComp elt [⟨tg,iter,[],0⟩,⟨fD,iter2,[],0⟩] scope pos) 0 (.ref it) (.ref D) (compEnvC scope (cellsFrom (h3.objs.size+1) scope.names (bM X.env.cells scope.names [])) h3.objs.size X.env)) (RR (.ref D) h3.objs.size) {s2 with heap:=h₁,toks:=s2.toks+([]:List (Str × Value)).length }:=by
  have stat:∀{H':Hp},(∀b∈fp,H' b=none)->∀b∈fp,bD (aR X N scope h3.objs.size {s2 with heap:=h3 } H3 fp) [] H' b:=λhn b hb=>by
   obtain⟨g0,g1,g2,g3,g4,g5⟩:=f3 b hb
   refine⟨hn b hb,Nat.ne_of_lt (j6 b hb),λz=>?_,.inl hb,λx c e=>?_,λp hp=>absurd (show p∈([]:LO)from hp) (by simp)⟩
   .rcases List.mem_cons.mp (I3.uN b z)with z|z
    .exact g1 z
    .exact g2 z
   .have e:(cellsFrom (h3.objs.size+1) scope.names (bM X.env.cells scope.names [])).lookup x=some c:=e
    rw[mq,rO]at e
    split at e
    .rename_i z
     cases e
     exact λy=>absurd (Nat.le_trans (ck.empty x c (PySem.mem_of_lookup z)).2 (y▸Nat.le_of_lt (j6 b hb))) (Nat.not_succ_le_self _)
    .rcases oJ e with q|q
     .simp at q
     .exact g4 x c q
  refine agj (λn s'=>∃i σ' H',Inv (aR X N scope h3.objs.size {s2 with heap:=h3 } H3 fp) [] σ' H' s'/\tn i s'.heap/\(∀b∈fp,H' b=none)/\W i n σ' H') (hs2 _) ?_ m0 ⟨0,bW src σ,H3,I4,pR,λb hb=>(f3 b hb).1,w0⟩
  rintro n s5 ⟨i,σ5,H5,I5,iB,lq,w5⟩
  rcases turn i n σ5 H5 w5 with⟨stop,qn⟩|⟨go,step⟩
  .refine aC (T.done (aR X N scope h3.objs.size {s2 with heap:=h3 } H3 fp) rfl rfl rfl hc i [] s5 σ5 H5 (λ_ _=>False) I5 (stat lq) iB stop) λr s6 ⟨hr,I6⟩=>?_
   subst hr
   obtain⟨mC,hnC,_⟩:=id I6.loc
   have I7:Inv X pins σ H5 s6:=I3.call' (ch:=fp) I6.os I6.base I6.hok I6.bare λb hb=>by
    obtain⟨g0,g1,g2,g3,g4,g5⟩:=f3 b hb
    exact⟨g3,g1,g4,g5⟩
   refine hRR D h3.objs.size H5 s6 mC I7 I6.free (Nat.ne_of_gt I3.lt) I3.sz (λx c e z=>?_) (λp hp z=>?_) hnC qn
   .obtain⟨v,q⟩:=I3.cell x c e
    exact absurd q.lt (by rw[z]; exact Nat.lt_irrefl _)
   .exact absurd (Heap.lt_size (I3.pin p hp).1) (by rw[z]; exact Nat.lt_irrefl _)
  .refine aC (T.item (aR X N scope h3.objs.size {s2 with heap:=h3 } H3 fp) rfl rfl rfl hc i [] s5 σ5 H5 (λ_ _=>False) I5 (stat lq) iB go) λr s6 ⟨u,hr,h6⟩=>?_
   subst hr
   refine aC h6 λ_ s7 ⟨x,H7,I7,r7,y7,gA,wJ⟩=>?_
   have wK:=I7.pinned (stat wJ) (T.obj _ _ gA)
   refine aC (hg _ _ _ _ _ s7 σ5 H7 x u _ wK r7 (step x H7 y7)) λ_ s8 ⟨σ8,H8,I8,q8⟩=>?_
   refine wpAny_mono (agk (hi2 _ _ _ _) (hg2 _ _ _ _) (he _ _ _ _) hc rfl I8 q8) (λxv s9 h9=>wpAny_mono h9 (λjv Bm h10=>codeAny_mono h10 λr wQ h11=>?_) λ_ _ z=>z) λ_ _ z=>z
   obtain⟨rfl,σ9,H9,I9,m',hm,w9⟩:=h11
   refine⟨rfl,m',hm,i+1,σ9,H9,I9.qd (pins:=[]),T.keep _ _ _ gA λb hb o e=>(I9.pin (b,o) (List.mem_append_right _ (List.mem_append_right _ (lg hb e)))).1,λb hb=>?_,w9⟩
   obtain⟨o,e,d⟩:=T.obj _ _ gA b hb
   exact(I9.pin (b,o) (List.mem_append_right _ (List.mem_append_right _ (lg hb e)))).2.1
 exact codeAny_compStart_list loop (T.self _ _ _ _ _ pR loop)
theorem UL(hsc:X.env.scope=sc)(eU:X.N=No)(S:mD sc No N src scope)(hc:X.calm=true)
  (hi:PI X tg iter wi) (hg:∀C s H ex,PG (aR X N scope C s H ex) tg g) (hi2:∀C s H ex,PI (aR X N scope C s H ex) fD iter2 iV) (hg2:∀C s H ex,PG (aR X N scope C s H ex) fD g2) (he:∀C s H ex,PE (aR X N scope C s H ex) elt te)
  (hs:∀x,foldedSetIterable iter X.env x=pure x:=by intro _; rfl) (hs2:∀(env:Env) x,foldedSetIterable iter2 env x=pure x:=by intro _ _; rfl):PE X (.ListComp elt [⟨tg,iter,[],0⟩,⟨fD,iter2,[],0⟩] scope pos) (BK wi g src iV g2 te):=by
 refine⟨λpins s σ H Q I h=>?_⟩
 rw[eval_ListComp]
 have hcl:closureFor scope X.env=pure (bM X.env.cells scope.names []):=uU λy hy e=>by
  have k:=S.free y hy e
  rw[<-hsc]at k
  obtain⟨c,q⟩:=I.ok.has y.1 k
  rw[q]; rfl
 refine wpAny_comprehension_free (use:=none) rfl hs hcl S.kind S.names (UJ (RR:=λacc C=>compPost (model X.prog X.w) X.A X.xe none (EP X pins σ Q) acc C) hsc eU S hc hi hg hi2 hg2 he I h hs2 ?_)
 intro D C H' s' m I' n1 n2 n3 n4 n5 hn q
 refine⟨m,hn,λh' hs'=>⟨.ref D,H',?_,rfl,q⟩⟩
 exact I'.turned (t':=s'.toks) (λb o hb e=>(hs'.2 b hb).trans e) n1 (Ne.symm (Ne.symm n2)) (.inr n3) n4 n5
end
abbrev QF:=En->Rs Tr
noncomputable def BL(i:Nat):QF:=λρ=>match ρ[i]? with
 |some (.sh T)=>.ok T
 |_=>.bad
noncomputable def pB(ts:List Tr)(k:Tr):Rs (Nat × Tr):=match k with
 | .int i=>(match gC ts.length i with
  | some j=>(match ts[j]? with
   |some u=>.ok (j,u)
   |none=>.bad)
  |none=>.bad)
 |_=>.bad
theorem UW(h:pB ts k=.ok (j,u)):∃i,k=.int i/\gC ts.length i=some j/\ts[j]?=some u:=by
 unfold pB at h
 (repeat' split at h) <;> cases h
 exact⟨_,rfl,‹_›,‹_›⟩
theorem U0(ts:List Tr)(k:Tr)(c:Str):pB ts k ≠ .ex c:=by unfold pB; (repeat' split) <;> (intro z; cases z)
noncomputable def dJ(ρ : En)(i:Nat):Rs (List Tr):=match ρ[i]? with
 |some (.dp ts)=>.ok ts
 |_=>.bad
theorem agl(ρ : En)(i:Nat)(c:Str):dJ ρ i ≠ .ex c:=by
 unfold dJ
 split <;> (intro z; cases z)
section
variable {K:FZ}{R:Addr->Prop}{ρ : En}{σ : St}{G H:Hp}{F:Fp}
theorem DR.set:∀{ts:List Tr} {xs:List V} {bs:List Addr} (m:Nat) {v:V} {T:Tr},DR K G H xs ts bs->bA T=true->(∀U,ts[m]?=some U->bA U=true)->Rep K G v T->DR K G H (xs.set m v) (ts.set m T) bs
 | [],_,_,_,_,_,d,_,_,_=>by cases d; exact .nil
 |t::ts,_,_,m,v,T,d,n,u,r=>by
  obtain⟨w,ys,c,b,rfl,rfl,d1,d2⟩:=d.split
  cases m with
  |zero =>
   have:=d1.nil_of (by show(bA t&&true)=true; rw[u t rfl]; rfl)
   subst this
   exact .cl n r d2
  |succ m=>exact d1.app (DR.set m d2 n (λU h=>u U (by simpa using h)) r)
theorem Ok.putD(e:Ok K R ρ σ G H F)(q:dJ ρ i=.ok ts)(hm:ts[m]?=some U):∃a xs v cs,σ[i]?=some (some (.ref a))/\H a=some (.lst xs)/\xs.length=ts.length/\xs[m]?=some v/\a∉cs/\cs.Nodup/\DR K G H [v] [U] cs/\∀b ys ys' U',H b=some (.lst ys)->b∈cs->DR K G (upd H b (.lst ys')) [v] [U'] cs->Ok K R (ρ.set i (.dp (ts.set m U'))) σ G (upd H b (.lst ys')) F/\aD K G H F G (upd H b (.lst ys')) F:=by
 unfold dJ at q
 split at q <;> cases q
 rename_i k
 have z:=e.sl i
 rw[k]at z
 obtain⟨a,xs,bs,h1,h2,nd,h3,h4,d⟩:=z
 obtain⟨n1,n2⟩:=List.nodup_cons.mp (h2▸nd)
 obtain⟨v,cs,g1,g2,g3,g4,g5⟩:=d.at n2 hm
 refine⟨a,xs,v,cs,h1,h4,d.length,g1,λz=>n1 (g4 a z),g3,g2,λb ys ys' U' hb bc q=>?_⟩
 have fb:Fn F b:=⟨i,by rw[h2]; exact List.mem_cons_of_mem _ (g4 b bc)⟩
 have nab:a≠b:=λz=>n1 (z▸g4 b bc)
 have gb:=e.hid b fb
 refine⟨?_,Same.refl _,λc o h n t=>by rw[aJ (show c≠b from λz=>n (z▸fb))]; exact h,λ_ h=>.inl h,λ_ h=>.inr h,λc h=>?_⟩
 .have eF:fO F i (F i)=F:=by funext j; unfold fO; split <;> first|rfl|rw[‹j=i›]
  refine eF▸e.one i (F i) (by rw[List.length_set,e.len]) (λj n=>⟨ji n,rfl⟩) (Same.refl _) (λc o h=>?_) (e.tb.upd hb) (λc h=>.inl h) (λj n c hc o h=>?_) (λc h z=>?_) (λc h=>⟨e.hid c ⟨i,h⟩,λj n z=>n (e.di j i c z h)⟩) ?_
  .rw[aJ λz=>by rw[z,gb]at h; cases h]; exact e.sub c o h
  .rw[aJ λz=>n (e.di j i c hc (by rw[h2,z]; exact List.mem_cons_of_mem _ (g4 b bc)))]; exact h
  .by_cases y:c=b
   .subst y; rw[bY]at z; cases z
   .rw[aJ y]at z; exact(e.rg c h).2 z
  .rw[gW (List.getElem?_eq_some_iff.mp k).1]
   exact⟨a,xs,bs,h1,h2,nd,h3,by rw[aJ nab]; exact h4,g5 _ _ _ (Same.refl _) (λc hc n o h=>by rw[aJ (show c≠b from λz=>n (z▸bc))]; exact h) q⟩
 .by_cases y:c=b
  .subst y; rw[bY]at h; cases h
  .rw[aJ y]at h; exact h
end
theorem aq.set{K:FZ}{H:Hp}{v:V}{T:Tr}(h:Rep K H v T):∀{xs:List V} {ts:List Tr} (j:Nat),aq K H xs ts->aq K H (xs.set j v) (ts.set j T)
 |_,_,_,.nil=>.nil
 |_,_,0,.cons _ r=>.cons h r
 |_,_,j+1,.cons h1 r=>.cons h1 (aq.set h j r)
noncomputable def U3(i:Nat)(fk fj:QF)(fe:EF):SF:=λρ=>(fe ρ).bind λp=>(sX p.1).bind λT=>(dJ p.2 i).bind λts=>(dw (fk p.2)).bind λk=>(pB ts k).bind λz=>match z.2 with
 |.lst us=>(dw (fj p.2)).bind λj=>(pB us j).bind λy=>if(bA T&&bA y.2)=true then .ok (.nx,p.2.set i (.dp (ts.set z.1 (.lst (us.set y.1 T)))))else .bad
 |_=>.bad
theorem U4{K:FZ}(e:Ok K R ρ σ G H F)(h:BL k ρ=.ok (.int z)) : σ[k]?=some (some (.int z)):=by
 unfold BL at h
 split at h <;> cases h
 have y:=e.sl k
 rw[‹ρ[k]?=_›]at y
 obtain⟨_,v,h1,h2⟩:=y
 cases h2
 exact h1
theorem agm(h:sV y=true)(v:Value):assign (.Subscript o y p) env v=(do let ov <-holding [v] (eval o env); let iv <-holding [v,ov] (eval y env); standAt p; holding [v,ov,iv] (setItem ov iv v); release [v,ov,iv] []):=by
 cases y <;> first|rfl|cases h
noncomputable def U5(i k j:Nat)(a:VE aA):VS (U3 i (BL k) (BL j) aA) where
 ck Γ e:=oU e λaK v _=>aM aK λbf bF=>mO bf λcM dg _=>mO cM λeV jk _=>atName eV λx _=>atName jk λy _=>atName dg λz _=>aQ bF (jY Γ i x&&jY Γ k y&&jY Γ j z&&qI v&&a.ck Γ v)
 cs:=a.cs
 ok q o h:=by
  walk_at "O"
  simp only[an]at h
  obtain⟨⟨⟨⟨h1,h2⟩,h3⟩,h4⟩,h5⟩:=h
  refine(Ph (a.ok q o h5) (abR (Eu Ew (qy o h1) (qy o h2) (Hv rfl)) (qy o h3) set_list (agm rfl)) (by unfold swapsWithSole; exact v5 h4) rfl rfl).imp λD σ H=>bB λR ρ G F e h=>dN e .refl h λp h v G1 H1 F1 e1 s1 v1=>?_
  obtain⟨T,kT,h⟩:=h.okb (R9 _)
  obtain⟨G2,e2,s2,_,rv⟩:=e1.sY e s1 v1 kT
  obtain⟨ts,k0,h⟩:=h.okb (agl _ _)
  obtain⟨kk,g1,h⟩:=o8 h
  obtain⟨⟨m,u⟩,k2,h⟩:=h.okb (U0 _ _)
  cases u <;> try exact h.elim
  obtain⟨jj,g2,h⟩:=o8 h
  obtain⟨⟨m',u'⟩,k3,hf⟩:=h.okb (U0 _ _)
  obtain⟨z,rfl,h5,h6⟩:=UW k2
  obtain⟨z',rfl,h7,h8⟩:=UW k3
  dsimp only at hf
  split at hf
  case isFalse=>exact hf.elim
  rename_i nl
  obtain⟨n1,n2⟩:=an.mp nl
  obtain⟨a,xs,v',cs,q1,q2,q3,q4,_,nd,q5,q7⟩:=e2.putD k0 h6
  cases q5 with
  |cl n _ _=>unfold bA at n; cases n
  | @rw b ys _ cs _ _ bs hb dq r0 =>
  cases r0
  have nb:=(List.nodup_cons.mp nd).1
  rw[List.append_nil]at nb
  obtain⟨e3,s3⟩:=q7 b ys (ys.set m' v) (.lst (_root_.List.set _ m' T)) hb (List.mem_cons_self ..) (.rw bY ((dq.set m' n1 (λU h=>by rw[h8]at h; cases h; exact n2) rv).mono (Same.refl _) λc hc o h=>(by rw[aJ (show c≠b from λz=>nb (z▸hc))]; exact h)) .nil)
  refine⟨_,q1,_,U4 e2 g1,.inl ⟨a,xs,z,.ref b,rfl,rfl,aF.of q2,?_,_,U4 e2 g2,b,ys,z',m',rfl,rfl,hb,by rw[dq.length]; exact h7,hf σ G2 _ F1 e3 (s2.trans s3)⟩⟩
  unfold dZ
  rw[q3,h5]
  exact q4
noncomputable def Nk:Sl->Sl
 |.sh T=>.sh T
 |.ow ts=>.sh (.lst ts)
 |.dp ts=>.sh (.lst ts)
 |_=>.un
noncomputable def vw(ρ : En):En := ρ.map Nk
noncomputable def Jt(c:BF):BF:=λρ=>(dw (c (vw ρ))).bind λp=>.ok (p.1,ρ)
theorem Ok.view{K:FZ}(e:Ok K R ρ σ G H F):Ok K (λ_=>False) (vw ρ) σ (wL G H) H (λ_=>[]):=by
 have m:Same G (wL G H):=λ_ _=>tu
 have ls:∀{b xs},Fn F b->H b=some (.lst xs)->wL G H b=some (.lst xs):=λf h=>SJ h (e.hid _ f)
 refine⟨by rw[vw,List.length_map,e.len],λb o q=>(qG q).elim (e.sub b o) λq=>q.2.1,e.tb,λb t=>?_,λb ⟨_,z⟩=>(by cases z),λb z=>z.elim,λi j b z=>(by cases z),λi=>?_⟩
 .cases q:wL G H b with
  |none=>rfl
  |some o =>
   rcases qG q with q|⟨_,q,xs,rfl⟩
   .rw[e.tg b t]at q; cases q
   .exact(e.tb.nt q t).elim
 .have z:=e.sl i
  unfold vw
  rw[List.getElem?_map]
  cases k : ρ[i]? with
  |none=>rfl
  |some s =>
   rw[k]at z
   cases s with
   |un=>rfl
   |rf _=>rfl
   |sh T=>obtain⟨_,u,h1,h2⟩:=z; exact⟨rfl,u,h1,h2.mono m⟩
   |ow ts =>
    obtain⟨a,xs,h1,h2,_,h4,h5⟩:=z
    exact⟨rfl,_,h1,.lst (aF.of (ls ⟨i,by rw[h2]; exact List.mem_singleton.mpr rfl⟩ h4)) (h5.mono m)⟩
   |dp ts =>
    obtain⟨a,xs,bs,h1,h2,_,_,h4,d⟩:=z
    refine⟨rfl,_,h1,.lst (aF.of (ls ⟨i,by rw[h2]; exact List.mem_cons_self ..⟩ h4)) (d.reps m λb hb=>?_)⟩
    obtain⟨ys,hy⟩:=d.lst b hb
    rw[hy]
    exact ls ⟨i,by rw[h2]; exact List.mem_cons_of_mem _ hb⟩ hy
noncomputable def U6(a:VT aA):VT (Jt aA) where
 ck:=a.ck
 cs:=a.cs
 ok q o h:=(a.ok q o h).imp λσ H Q=>bB λR ρ G F e h=>by
  obtain⟨p,k,h⟩:=o8 h
  refine⟨_,_,_,_,e.view,?_⟩
  rw[k]
  intro G' H' F' e' s'
  obtain⟨e2,s2⟩:=e.grow (G':=G) (H':=H') ⟨Same.refl _,λb o q t=>s'.fr b o q (λ⟨_,z⟩=>by cases z) t,λb o q=>s'.fr b o (e.sub b o q) (λ⟨_,z⟩=>by cases z) λt=>(by rw[e.tg b t]at q; cases q),λ_=>e'.tb,λb h=>.inl h⟩
  exact h G H' F e2 s2
noncomputable def agn(i:Nat)(f:EF):SF:=λρ=>(f ρ).bind λp=>match p.1 with
 |.v (.lst ts) true=>.ok (.nx,p.2.set i (.ow ts))
 |.v T _=>.ok (.nx,p.2.set i (.sh T))
 |_=>.bad
noncomputable def qW(g:GF)(m8:IF)(g2:GF)(f:EF):List Tr->En->Rs (List Tr × En)
 | [],ρ=>.ok ([],ρ)
 |u::us,ρ=>(g u ρ).bind λρ1=>(m8 ρ1).bind λq=>if q.1.length<=1000 then(fU g2 gq f q.1 q.2).bind λy=>(qW g m8 g2 f us y.2).bind λz=>.ok (y.1++z.1,z.2)else .bad
noncomputable def wR(src:List (Option Nat))(fi:IF)(g:GF)(m8:IF)(g2:GF)(f:EF):EF:=λρ=>(fi ρ).bind λp=>if p.1.length<=100 then(dw (qW g m8 g2 f p.1 (dX src p.2))).bind λz=>if eN src z.2 p.2=true then .ok (.v (.lst z.1) true,bH src z.2 p.2)else .bad else .bad
abbrev InO(K:FZ)(R:Addr->Prop)(gf:GF)(m8:IF)(pC:GF)(f:EF)(src:List (Option Nat))(σ : St)(D:Addr)(G1 H1:Hp)(F1:Fp)(us:List Tr)(z:List Tr × En):Nat->Nat->St->Hp->Prop:=λi m τ H'=>m=us.length-i/\i<=us.length/\∃ρ' G' F' xs acc,Ok K R ρ' τ G' H' F'/\aD K G1 H1 F1 G' H' F'/\(H' D=some (.lst xs)/\¬Fn F' D/\G' D=none)/\aq K G' xs acc/\xs.length<=1000*i/\(∀k j:Nat,src[k]?=some (some j) -> τ[k]?=(bW src σ)[k]?)/\∃y,qW gf m8 pC f (us.drop i) ρ'=.ok y/\z=(acc++y.1,y.2)
abbrev InI(K:FZ)(R:Addr->Prop)(pC:GF)(f:EF)(src:List (Option Nat))(σ : St)(D:Addr)(G1 H1:Hp)(F1:Fp)(G5:Hp)(lM:List Tr)(al:List Tr)(ρe:En)(i:Nat):Nat->Nat->St->Hp->Prop:=λj k τ' H'=>k=lM.length-j/\j<=lM.length/\∃ρ' G' F' xs' acc',Ok K R ρ' τ' G' H' F'/\aD K G1 H1 F1 G' H' F'/\Same G5 G'/\(H' D=some (.lst xs')/\¬Fn F' D/\G' D=none)/\aq K G' xs' acc'/\xs'.length<=1000*i+j/\(∀k j:Nat,src[k]?=some (some j) -> τ'[k]?=(bW src σ)[k]?)/\∃y',fU pC gq f (lM.drop j) ρ'=.ok y'/\al=acc'++y'.1/\y'.2 = ρe
theorem U7{t:Tx}(I:Inj src)(hj:∀k j:Nat,src[k]?=some (some j)->k∉js/\k∉U8)(ng:∀T ρ c,gf T ρ ≠ .ex c)(ng2:∀T ρ c,pC T ρ ≠ .ex c)(h:Te t (wR src fi gf m8 pC f) σ H Q):BK (Ti t fi) (mZ t.K gf js) src (Ti ⟨t.K,λ_ _=>False⟩ m8) (mZ t.K pC U8) (Te ⟨t.K,λ_ _=>False⟩ f) σ H Q:=by
 obtain⟨R,ρ,G,F,e,h⟩:=h
 refine⟨R,ρ,G,F,e,h.run (aD.refl (G:=G)) λp h J G1 H1 F1 e1 s1 it D hD=>?_⟩
 obtain⟨us,ρ1⟩:=p
 dsimp only at h it e1
 split at h
 case isFalse=>exact h.elim
 rename_i hlen
 obtain⟨z,kz,h⟩:=o8 h
 split at h
 case isFalse=>exact h.elim
 rename_i so
 have mv:∀{G3 H3 F3},aD t.K G1 H1 (inF src ρ1 F1) G3 H3 F3->∀ys,aD t.K G1 H1 (inF src ρ1 F1) G3 (upd H3 D (.lst ys)) F3:=λs ys=>⟨s.gg,λb o h n t=>by rw[aJ (iC h hD)]; exact s.fr b o h n t,s.nw,s.nf,λb h=>by
  by_cases z:b=D
  .subst z; exact hD
  .rw[aJ z]at h; exact s.dm b h⟩
 refine⟨InO t.K R gf m8 pC f src σ D G1 H1 (inF src ρ1 F1) us z,⟨us.length,by simp,Nat.zero_le _,dX src ρ1,G1,inF src ρ1 F1,[],[],((e1.enter I).grow (.flt e1.sub hD)).1,((e1.enter I).grow (.flt e1.sub hD)).2,⟨bY,λh=>e1.fs hD (tM h),e1.sub.free hD⟩,.nil,Nat.zero_le _,λ_ _ _=>rfl,z,kz,rfl⟩,?_⟩
 rintro i m τ H2 ⟨rfl,hi,ρ2,G2,F2,xs,acc,e2,s2,d2,a2,l2,g2,y,ky,rfl⟩
 have q:=it G2 H2 s2.gg e2.sub i
 by_cases hlt:i<us.length
 .rw[List.drop_eq_getElem_cons hlt]at ky
  obtain⟨go,yl⟩:=q.2 us[i] (by simp[hlt])
  refine .inr ⟨go,λx H3 yy=>?_⟩
  obtain⟨G3,w3,r3⟩:=yl x H3 yy
  obtain⟨e3,s3⟩:=e2.grow w3
  obtain⟨ρ4,k4,ky⟩:=cj ky
  obtain⟨⟨lM,ρ5⟩,k5,ky⟩:=cj ky
  dsimp only at ky
  split at ky
  case isFalse=>cases ky
  obtain⟨y1,k6,ky⟩:=cj ky
  obtain⟨y2,k7,ky⟩:=cj ky
  cases ky
  refine⟨R,ρ2,G3,F2,_,e3,r3,?_⟩
  rw[k4]
  intro σ4 F4 e4 f4 a4
  have s4:=s3.trans (aD.sub f4)
  have g4:∀k j:Nat,src[k]?=some (some j) -> σ4[k]?=(bW src σ)[k]? := λk j h=>(a4 k (hj k j h).1).trans (g2 k j h)
  refine⟨R,ρ4,G3,F4,e4,?_⟩
  rw[k5]
  intro J2 G5 H5 F5 e5 s5 it2
  have lJ:=s4.trans s5
  refine⟨InI t.K R pC f src σ D G1 H1 (inF src ρ1 F1) G5 lM (acc++y1.1) y1.2 i,⟨lM.length,by simp,Nat.zero_le _,ρ5,G5,F5,xs,acc,e5,s2.trans lJ,Same.refl _,lJ.flt e2.tb d2.1 d2.2.1 d2.2.2,a2.mono lJ.gg,by lia,g4,y1,k6,rfl,rfl⟩,?_⟩
  rintro j k τ' H6 ⟨rfl,hj2,ρ6,G6,F6,xs',acc',e6,s6,m6,d6,a6,l6,g6,y',k8,k9,k10⟩
  have q2:=it2 G6 H6 m6 e6.sub j
  by_cases Ju:j<lM.length
  .rw[List.drop_eq_getElem_cons Ju]at k8
   obtain⟨go2,yl2⟩:=q2.2 lM[j] (by simp[Ju])
   refine .inr ⟨go2,λx2 H7 yy2=>?_⟩
   obtain⟨G7,w7,r7⟩:=yl2 x2 H7 yy2
   obtain⟨e7,s7⟩:=e6.grow w7
   obtain⟨ρ8,k11,k8⟩:=cj k8
   obtain⟨p,k12,k8⟩:=cj (show((f ρ8).bind _)=_ from k8)
   obtain⟨T,k13,k8⟩:=cj k8
   obtain⟨y'',k14,k8⟩:=cj k8
   cases k8
   refine⟨R,ρ6,G7,F6,_,e7,r7,?_⟩
   rw[k11]
   intro σ8 F8 e8 f8 a8
   refine⟨R,ρ8,G7,F8,e8,?_⟩
   rw[k12]
   intro v G9 H9 F9 e9 s9 v9
   obtain⟨G10,e10,Bm,_,r10⟩:=e9.sY e8 s9 v9 k13
   have wQ:=(s7.trans (aD.sub f8)).trans Bm
   have wU:=wQ.flt e6.tb d6.1 d6.2.1 d6.2.2
   refine⟨xs',wU.1,Nat.lt_of_le_of_lt (show xs'.length<=200000 by lia) (by decide),lM.length-(j+1),by lia,rfl,Ju,p.2,G10,F9,xs'++[v],acc'++[T],e10.Ua wU.1 wU.2.1 wU.2.2,mv (s6.trans wQ) _,m6.trans wQ.gg,⟨bY,wU.2⟩,(a6.mono wQ.gg).app (.cons r10 .nil),by simp; lia,λk j h=>(a8 k (hj k j h).2).trans (g6 k j h),y'',k14,by rw[k9,List.append_assoc]; rfl,k10⟩
  .have z:j=lM.length:=by lia
   subst z
   rw[List.drop_length]at k8
   cases k8
   refine .inl ⟨q2.1 rfl,us.length-(i+1),by lia,rfl,hlt,ρ6,G6,F6,xs',acc',e6,s6,d6,a6,by lia,g6,y2,by rw[<-k7,<-k10],?_⟩
   rw[<-List.append_assoc,k9,List.append_nil]
 .have z:i=us.length:=by lia
  subst z
  rw[List.drop_length]at ky
  cases ky
  obtain⟨e',s'⟩:=e1.leave e2 s2 I g2 so
  exact .inl ⟨q.1 rfl,h _ G2 H2 F1 e' (s1.trans s') ⟨⟨D,xs,_,rfl,rfl,s1.dm D hD,d2.2.2,d2.1,by rw[List.append_nil]; exact a2⟩,λ_ a q=>by cases q; exact e1.fs hD⟩⟩
noncomputable def vC2(src:List (Option Nat))(N:List Str)(i:VI j4)(g:VG gY jG)(i2:VI Jv)(g2:VG Jw Jx)(b:VE bO):VE (wR src j4 gY Jv Jw bO) where
 ck Γ e:=oR e λx aK sc _=>aM aK λbf bF=>lB bf λt y cM dg=>aQ cM (iQ dg 0 (aM bF λeV jk=>lB eV λt2 y2 m5 m7=>aQ m5 (iQ m7 0 (aQ jk (i.ck Γ (t,y)&&g.ck (cG Γ N sc) t&&i2.ck (cG Γ N sc) (t2,y2)&&g2.ck (cG Γ N sc) t2&&b.ck (cG Γ N sc) x&&o9 Γ N src sc (jG++Jx))))))
 cs:=i.cs++(g.cs++(i2.cs++(g2.cs++b.cs)))
 ok:=@λcl E Γ X e q o h=>by
  walk_at "O"
  rename_i x0 sc pos t0 y0 t2 y2
  simp only[an]at h
  obtain⟨⟨⟨⟨⟨h1,h2⟩,h3⟩,h4⟩,h5⟩,h6⟩:=h
  obtain⟨pi,ni⟩:=i.ok (ml q) o h1
  obtain⟨S,nd,I,hj⟩:=tQ h6
  have pg:=λC s H ex=>g.ok (X:=aR X N sc C s H ex) (ml (mr q)) (g8 o nd) h2
  have qX:=λC s H ex=>i2.ok (X:=aR X N sc C s H ex) (ml (mr (mr q))) (g8 o nd) h3
  have tZ:=λC s H ex=>g2.ok (X:=aR X N sc C s H ex) (ml (mr (mr (mr q)))) (g8 o nd) h4
  have pb:=λC s H ex=>b.ok (X:=aR X N sc C s H ex) (mr (mr (mr (mr q)))) (g8 o nd) h5
  exact(UL o.s o.N S o.l pi (λC s H ex=>(pg C s H ex).1) (λC s H ex=>(qX C s H ex).1) (λC s H ex=>(tZ C s H ex).1) pb (jo ni) (λ_=>jo (qX 0 X.s₀ X.H₀ []).2)).imp λσ H Q=>U7 I (λk j z=>by simpa[not_or]using hj k j z) (pg 0 X.s₀ X.H₀ []).2.1 (tZ 0 X.s₀ X.H₀ []).2.1
noncomputable def U9(i:Nat)(ρ : En):Nat:=match ρ[i]? with
 |some (.sh (.int n))=>n.natAbs+1
 |_=>0
noncomputable def fuL(i:Nat)(ρ : En):Nat:=match ρ[i]? with
 |some (.sh (.lst ts))=>ts.length+1
 |some (.ow ts)=>ts.length+1
 |some (.rf ts)=>ts.length+1
 |_=>0
noncomputable def fL(nl:Nat)(ts:List Tr):En:=ts.map Sl.sh++List.replicate (nl-ts.length) Sl.un
noncomputable def aN(nl:Nat)(b:SF):FP:=λts=>(b (fL nl ts)).bind λq=>match q.1 with
 |.rt T fr=>.ok (T,fr)
 |.nx=>.ok (.non,false)
 |_=>.bad
theorem Ok.init{K:FZ}{N:List Str}(r:aq K G vs ts)(hl:vs.length<=N.length)(s:Same G H)(tb:bN K H)(tg:∀b,Tb K b->G b=none):Ok K (λ_=>False) (fL N.length ts) (start N vs) G H (λ_=>[]):=by
 have l:=r.length
 refine⟨by unfold fL start; simp only[List.length_append,List.length_map,List.length_replicate]; lia,s,tb,tg,λb ⟨_,z⟩=>(by cases z),λ_ z=>z.elim,λ_ _ _ z=>(by cases z),λi=>?_⟩
 unfold fL start
 by_cases h:i<vs.length
 .rw[List.getElem?_append_left (by simpa using h),List.getElem?_append_left (by simp; lia),List.getElem?_map,List.getElem?_map,List.getElem?_eq_getElem h,List.getElem?_eq_getElem (show i<ts.length by lia)]
  obtain⟨x,q1,q2⟩:=r.iK (List.getElem?_eq_getElem (show i<ts.length by lia))
  rw[List.getElem?_eq_getElem h]at q1
  cases q1
  exact⟨rfl,_,rfl,q2⟩
 .rw[List.getElem?_append_right (l₁ := ts.map Sl.sh) (by simp; lia),List.getElem?_replicate]
  split <;> rfl
theorem Va{K:FZ}{N ps:List Str}{b:SF}(hn:ps.length<=N.length)(h:oW K cl ps.length (aN N.length b) vs H Q E):Ts ⟨au K,λc H'=>E (.ref (cl c)) none H'⟩ b {nx:=λ_ H'=>Q .non H',rt:=Q } (start N vs) H:=by
 obtain⟨G,as,hl,r,sg,tb,tg,h⟩:=h
 refine⟨_,_,G,_,Ok.init r (by lia) sg tb tg,h.run (aD.refl (G:=G)) λq h=>?_⟩
 obtain⟨fl,ρ'⟩:=q
 have nf:∀{b:Addr},¬Fn (λ_=>[]) b:=λ⟨_,z⟩=>by cases z
 cases fl with
 |nx=>exact λσ' G' H' F' e s=>h .non G' H' ⟨s.gg,λb o q t=>s.fr b o q nf t,e.sub,λ_=>e.tb,λb q=>(s.nw b q).imp id λz=>z.resolve_right nf⟩ .non
 |rt T fr =>
  refine λv G' H' r=>h v G' H' ⟨r.gg,λb o q t=>r.fm.fr b o q nf t,r.sub,λ_=>r.fm.tb,λb q=>(r.nw b q).imp id λz=>z.resolve_right nf⟩ ?_
  have z:=r.vl
  cases fr with
  |false=>exact z
  |true =>
   obtain⟨a,xs,ts,e1,e2,e3,_,e4⟩:=z
   exact⟨a,xs,ts,e1,e2,e3.resolve_right nf,e4⟩
 |bk=>exact h.elim
 |ct=>exact h.elim
noncomputable def Ey.nm:Ey->Str
 |.fn x .. => x
 | .fd x .. => ("*" : Str)++x
 |.gk x _=>x
noncomputable def fG(k:Nat)(N:List Str)(st:Stmt)(B R L:List Str):Gx:=⟨N,bV st,λ_=>true,B,R,false,k,L⟩
noncomputable def wV(N ps:List Str)(st:Stmt):Bool :=
 decide ((bV st).kind=.function) && !(bV st).isCoroutine && !(bV st).isGenerator&&decide N.Nodup&&decide (N.take ps.length=ps)&&decide (∀x∈ps,(bV st).names.lookup x=some .local\/(bV st).names.lookup x=some .cell)&&decide (∀y∈(bV st).names,y.2 ≠ .free)&&decide (ps.length<=N.length)
theorem Jy{st:Stmt}(h:wV N ps st=true):rM N ps (bV st)/\ps.length<=N.length:=by
 simp only[wV,an]at h
 obtain⟨⟨⟨⟨⟨⟨⟨h1,h2⟩,h3⟩,h4⟩,h5⟩,h6⟩,h7⟩,h8⟩:=h
 exact⟨⟨of_decide_eq_true h1,by simpa using h2,by simpa using h3,of_decide_eq_true h4,of_decide_eq_true h5,of_decide_eq_true h6,of_decide_eq_true h7⟩,of_decide_eq_true h8⟩
structure Kn(c:Cc)(B R:List Str):Prop where
 B:∀x∈B,c.mg x=none
 R:∀x∈R,OwnCls x (c.cl x) Ab "ValueError.__new__" c.mg c.base
 x:mG c.K
noncomputable def clz(mg:Str->Option Value)(x:Str):Addr:=match mg x with
 |some (.ref k)=>k
 |_=>0
theorem Kn.mk'{P:Program}{w:World}{K:FZ}{mg:Str->Option Value}{base:Heap}{B R:List Str}(M:∀x∈B,mg x=none)(O:∀x∈R,∃k,OwnCls x k Ab "ValueError.__new__" mg base) (XT:mG K):Kn ⟨P,w,K,mg,base,clz mg⟩ B R:=⟨M,λx m=>by
 obtain⟨k,o⟩:=O x m
 have e:clz mg x=k:=by unfold clz; rw[o.bound]
 subst e
 exact o,XT⟩
def BP(x:Str)(st:Stmt)(ps:List Str):Prop:=∀(kV doc pm:Value) (an:Option Addr) (cdv ct:Value) (us:List Value),us.length=ps.length->bindArgs (PySem.W.fnOf x x (jV st) (gD st) (bV st) .none kV doc pm an cdv ct) ⟨us,[]⟩=pure (ps.zip us)
theorem Vb:∀{ps:List Str} {us:List Value} {n:Str},us.length=ps.length->n∈ps->((ps.zip us).lookup n).isNone=false
 |p::ps,u::us,n,h,m=>by
  rw[List.zip_cons_cons,List.lookup_cons]
  cases e:n == p with
  |true=>rfl
  |false =>
   rcases List.mem_cons.mp m with z|z
   .rw[z]at e; simp at e
   .exact Vb (by simpa using h) z
theorem Vc{α β : Type}{f g : α -> Option β}:∀{l:List α},(∀n∈l,f n=g n)->l.filterMap f=l.filterMap g
 | [],_=>rfl
 |a::l,h=>by rw[List.filterMap_cons,List.filterMap_cons,h a (List.mem_cons_self ..),Vc λn m=>h n (List.mem_cons_of_mem _ m)]
theorem Vd:∀{ps:List Str} {us:List Value},ps.Nodup->us.length=ps.length->(ps.filterMap λn=>((ps.zip us).lookup n).map λx=>(n,x))=ps.zip us
 | [],us,_,_=>rfl
 |p::ps,u::us,d,h=>by
  obtain⟨d1,d2⟩:=List.nodup_cons.mp d
  have e:(ps.filterMap λn=>(((p::ps).zip (u::us)).lookup n).map λx=>(n,x))=ps.zip us:=by
   rw[<-Vd d2 (by simpa using h)]
   exact Vc λn m=>by rw[List.zip_cons_cons,List.lookup_cons,beq_false_of_ne (show n≠p from λz=>d1 (z▸m))]
  rw[List.filterMap_cons,e]
  simp
noncomputable def wW(ps:List Str)(st:Stmt):Bool:=match jV st with
 |⟨[],as,none,[],[],none,[]⟩=>decide (as.map (·.arg)=ps)
 |_=>false
theorem Jz{st:Stmt}(d:ps.Nodup)(h:wW ps st=true):BP x st ps:=λkV doc pm an cdv ct us hl=>by
 unfold wW at h
 split at h
 case h_2=>cases h
 rename_i as e
 have h:=of_decide_eq_true h
 have f:(ps.filter λn=>(List.lookup n (ps.zip us)).isNone)=[]:=List.filter_eq_nil_iff.mpr λn m=>by rw[Vb hl m]; exact Bool.false_ne_true
 simp[bindArgs,PySem.W.fnOf,e,h,seqItems?,hl,List.take_of_length_le,f,Vd d hl]
 rfl
noncomputable def BR(tb:List Ey)(l:List Ey):List Ey:=l.filterMap λy=>tb.find? λz=>z.nm == y.nm
theorem JB{tb l:List Ey}(h:∀y∈tb,y.lE c)(e:l=BR tb l):∀y∈l,y.lE c:=λy m=>by
 rw[e]at m
 obtain⟨z,_,q⟩:=List.mem_filterMap.mp m
 exact h y (List.mem_of_find?_eq_some q)
noncomputable def j9(st:Stmt):List Str:=((bV st).names.filter λy=>y.2 == .local || y.2 == .cell).map (·.1)
noncomputable def psz(st:Stmt):List Str:=(jV st).args.map (·.arg)
noncomputable def jr:List Ey->Nat
 |.fn _ _ _ l::r=>max l (jr r)
 |.fd _ _ _ l::r=>max l (jr r)
 |_::r=>jr r
 | []=>0
theorem aU{st:Stmt}{B R:List Str}(T:VB b)(kn:Kn c B R)(h:∀y∈tb,y.lE c)(a:At c.K c.mg x st)(h1:(wV (j9 st) (psz st) st&&wW (psz st) st&&T.ck (fG (jr T.cs) (j9 st) st B R []) (gD st))=true:=by kernel_rfl)(e:T.cs=BR tb T.cs:=by kernel_rfl):∀y ∈ .fn x (psz st) (aN (j9 st).length b) (jr T.cs+1)::tb,y.lE c:=by
 obtain⟨h1,h2⟩:=an.mp h1
 obtain⟨h1,h3⟩:=an.mp h1
 obtain⟨S,hn⟩:=Jy h1
 have hb:BP x st (psz st):=Jz (S.pre▸S.nd.sublist (List.take_sublist ..)) h3
 exact List.forall_mem_cons.mpr ⟨a.FQ S hb (λvs H Q E ⟨_,_,h,_⟩=>h) λf cdv A outer s H vs Q E hr q=>⟨_,T.ok (JB h e) (⟨rfl,rfl,S.nd,rfl,hr,FN,kn.B,λx m=>⟨kn.R x m,FJ⟩,kn.x,rfl,(λz=>by cases z),(λ_ z=>nomatch z)⟩:Ox c.cl (fG (jr T.cs) (j9 st) st B R []) E (iH (gH c.P c.w) c.P c.w c.K c.mg c.base (j9 st) x (bV st) f cdv A outer s H E)) h2,Va hn q⟩,h⟩
theorem Ve{st:Stmt}{B R:List Str}{k P:Addr}(N:List Str)(T:VB b)(kn:Kn c B R)(h:∀y∈tb,y.lE c)(a:sJ c.K c.mg x st k)(L:vH c.K c.mg c.base x k P)(h1:(wV N (psz st) st&&wW (psz st) st&&T.ck (fG (jr T.cs) N st B R [x]) (gD st))=true:=by kernel_rfl)(e:T.cs=BR tb T.cs:=by kernel_rfl):∀y ∈ .fn x (psz st) (aN N.length b) (jr T.cs+1)::tb,y.lE c:=by
 obtain⟨h1,h2⟩:=an.mp h1
 obtain⟨h1,h3⟩:=an.mp h1
 obtain⟨S,hn⟩:=Jy h1
 have hb:BP x st (psz st):=Jz (S.pre▸S.nd.sublist (List.take_sublist ..)) h3
 exact List.forall_mem_cons.mpr ⟨a.aeV S hb (λvs H Q E ⟨_,_,h,_⟩=>h) λf A outer s H vs Q E hr q=>⟨_,T.ok (JB h e) (⟨rfl,rfl,S.nd,rfl,hr,FN,kn.B,λx m=>⟨kn.R x m,FJ⟩,kn.x,rfl,(λz=>by cases z),List.forall_mem_cons.mpr ⟨⟨k,P,L,rfl,rfl⟩,(λ_ z=>nomatch z)⟩⟩:Ox c.cl (fG (jr T.cs) N st B R [x]) E (iH (gH c.P c.w) c.P c.w c.K c.mg c.base N x (bV st) f (.ref k) A outer s H E)) h2,Va hn q⟩,h⟩
theorem fm{tb:List Ey}(x:Str){y:Ey}(h:(tb.find? λz=>z.nm == x)=some y):y∈tb:=List.mem_of_find?_eq_some h
noncomputable abbrev dF{f g:EF}(a:VE f)(b:VE g):=v2 .Add Gj gM (λ_=>ad8) (λ_=>ad9) a b
noncomputable abbrev BW{f g:EF}(a:VE f)(b:VE g):=v2 .Sub (λ_=>dY λi j=>.int (i-j)) zB (λ_=>PK) (λ_=>aeh) a b
noncomputable abbrev fH{f g:EF}(a:VE f)(b:VE g):=v2 .Mult Gm lA (λ_=>aea) (λ_=>aec) a b
noncomputable abbrev jJ{f g:EF}(a:VE f)(b:VE g):=v2 .FloorDiv (λ_=>rI zx λi j=>.int (i.fdiv j)) zA (λ_=>aeb) (λ_=>aed) a b
noncomputable abbrev ig{f g:EF}(a:VE f)(b:VE g):=v2 .Mod (λ_=>rI (λ_ j=>j≠0) λi j=>.int (i.fmod j)) Gn (λ_=>acf) (λ_=>aee) a b
noncomputable abbrev JC{f g:EF}(a:VE f)(b:VE g):=v2 .Pow (λ_=>rI yH λi j=>.int (i ^ j.toNat)) uH (λ_=>PL) (λ_=>aeg) a b
noncomputable abbrev jt:Cq (qp):=⟨.Eq,Fo,λ_ h=>adv h,λ_=>ad4⟩
noncomputable abbrev m9:Cq (jW):=⟨.NotEq,Ge,λ_ h=>adV h,λ_=>ad5⟩
noncomputable abbrev pD:Cq (sE):=⟨.Lt,Gy,λ_ h=>ael h,λ_=>aem⟩
noncomputable abbrev kh:Cq (Gu):=⟨.LtE,λ_=>dY λi j=>.bl (decide (i<=j)),λ_ _=>ach,λ_=>aej⟩
noncomputable abbrev uc:Cq (Gq):=⟨.Gt,λ_=>dY λi j=>.bl (decide (j<i)),λ_ _=>aci,λ_=>aei⟩
noncomputable abbrev JD:Cq (Gv):=⟨.GtE,λ_=>dY λi j=>.bl (decide (j<=i)),λ_ _=>acj,λ_=>aek⟩
noncomputable abbrev qIn:Cq (jX id):=⟨.In,Ft,λ_ h=>adw h,λ_=>ad6⟩
noncomputable abbrev qNi:Cq (jX not):=⟨.NotIn,Gd,λ_ h=>adU h,λ_=>ad7⟩
noncomputable abbrev wX:Cq (pU id):=⟨.Is,λ_ x y H Q=>y=.non/\Q (.bl (decide (x=.non))) H,λ_ _=>acn,λ_=>Rk id⟩
noncomputable abbrev ago:Cq (pU not):=⟨.IsNot,λ_ x y H Q=>y=.non/\Q (.bl (!decide (x=.non))) H,λ_ _=>aco,λ_=>Rk not⟩
theorem bb{x:Str}{i:String}(h:bootBuiltins x=some (.builtin i))(n:x ≠ "__name__"):bootBuiltins x=some (.builtin i)∧x ≠ "__name__" ∧ ((∃j,Value.builtin i=.builtin j)∨∃j,Value.builtin i=.type j):=⟨h,n,.inl ⟨_,rfl⟩⟩
noncomputable abbrev bR{f:AF}(a:VA f):=vB "len" (.builtin "len") Gz (g1 eH) (bb (by decide +kernel) (by decide +kernel)) (λ_=>aen) (λ_=>u9 aeo) a
noncomputable abbrev JF{f:AF}(a:VA f):=vB "abs" (.builtin "abs") (λ_ xs H Q=>∃i,xs=[.int i]/\Q (.int (if i<0 then -i else i)) H) (g1 vd) (bb (by decide +kernel) (by decide +kernel)) (λ_=>acy) (λ_=>u9 aep) a
noncomputable abbrev qY{f:AF}(a:VA f):=vB "all" (.builtin "all") Fv (g1 sG) (bb (by decide +kernel) (by decide +kernel)) (λo=>ady o.l) (λ_=>u9 aer) a
noncomputable abbrev agp{f:AF}(a:VA f):=vB "sorted" (.builtin "sorted") Jh (g1 qU) (bb (by decide +kernel) (by decide +kernel)) (λ_=>afP) (λ_=>u9 afU) a
noncomputable abbrev agq{f:EF}(a:VE f):=Am "int" .int ⟨by decide +kernel,by decide +kernel⟩ a
noncomputable abbrev agr{f:EF}(a:VE f):=Am "bool" .bool ⟨by decide +kernel,by decide +kernel⟩ a
noncomputable abbrev BX{f:EF}(a:VE f):=Am "tuple" .tuple ⟨by decide +kernel,by decide +kernel⟩ a
noncomputable abbrev wY{f:EF}(a:VE f):=Am "list" .list ⟨by decide +kernel,by decide +kernel⟩ a
noncomputable abbrev wZ(i:Nat){f:AF}(a:VA f):=vM "append" "list.append" Ez qH ⟨PySem.F.slot_list_append,PySem.F.type_list_append,λ_=>EY⟩ afd i a
theorem JG:∀{ns:List Int} {vs:List Value},Vals (ns.map V.int) vs->∃ps:List (Int × Tok),vs=ps.map (λp=>.int p.1 p.2)/\ps.map (·.1)=ns
 | [],_,h=>by cases h; exact⟨[],rfl,rfl⟩
 |n::ns,_,h=>by
  cases h with
  |cons h1 h2 =>
   obtain⟨t,rfl⟩:=h1
   obtain⟨ps,rfl,rfl⟩:=JG h2
   exact⟨(n,t)::ps,rfl,rfl⟩
section
variable {X:Cx}
def JH(K:FZ):List V->Hp->VK->Prop:=λxs H Q=>∃(p:Addr) (ns:List Int),xs=[.ref p]/\aF K H p (ns.map V.int)/\Q (.int ns.sum) H
theorem ags(hc:X.calm=true):fX X (.builtin "sum") (JH X.K):=by
 intro pins s σ H xs us Q I r h
 obtain⟨p,ns,rfl,hq,q⟩:=h
 obtain⟨u,rfl,rx⟩:=vals1 r
 cases rx
 obtain⟨its,r',pl,hz⟩:=I.list hq
 obtain⟨ps,rfl,rfl⟩:=JG r'
 have hl:s.heap.IsList p (intItems ps.toArray):=by
  have:intItems ps.toArray=(ps.map λp=>Value.int p.1 p.2).toArray:=by unfold intItems; simp
  rw[this]; exact pl.isList
 refine sum_intListG (I.ok.hd hc) hl λg tk t' k=>⟨.int (List.sum (ps.map λp=>p.1)),H,I.kept k,?_,q⟩
 rw[preSum_eq,List.take_of_length_le (by simp)]
 exact⟨_,rfl⟩
end
noncomputable def ud:G1
 |.lst ts=>match j8 ts with
  |some ns=>.ok (.int ns.sum,false)
  |none=>.bad
 |_=>.bad
theorem agt{K:FZ}:mL (au K) (λx=>JH K [x]) ud:=⟨λa c=>by unfold ud; (repeat' split) <;> (intro z; cases z),λG H x a Q s rx h=>by
 cases a <;> try exact h.elim
 dsimp only[ud]at h
 split at h
 .rename_i ns e
  rw[Bt e]at rx
  obtain⟨p,xs,rfl,q,r⟩:=rx.lst s
  have z:=Bu r
  subst z
  exact⟨p,ns,rfl,q.toK,h _ G H (.refl s) (.int _)⟩
 .exact h.elim⟩
noncomputable abbrev w6{f:AF}(a:VA f):=vB "sum" (.builtin "sum") JH (g1 ud) (bb (by decide +kernel) (by decide +kernel)) (λo=>ags o.l) (λ_=>u9 agt) a
abbrev WF:=En->Rs (Tr × En)
abbrev WA:=En->Rs (List Tr × En)
def Tw(t:Tx)(f:WF):TE:=λσ H Q=>∃R ρ G F,Ok t.K R ρ σ G H F/\bJ t H F (f ρ) λp=>∀v G' H' F' bs,Ok t.K R p.2 σ G' H' F'->aD t.K G H F G' H' F'->Vw t.K R H F G' H' F' [v] [p.1] bs->Q v H'
def Twa(t:Tx)(f:WA):TA:=λσ H Q=>∃R ρ G F,Ok t.K R ρ σ G H F/\bJ t H F (f ρ) λp=>∀vs G' H' F' bs,Ok t.K R p.2 σ G' H' F'->aD t.K G H F G' H' F'->Vw t.K R H F G' H' F' vs p.1 bs->Q vs H'
abbrev VX(f:WF):=Vn λcl E X e=>PE X e (Tw (tx cl E X) f)
abbrev BZ(f:WA):=Vn λcl E X e=>PA X e (Twa (tx cl E X) f)/\∀x∈e,notStar x=true
section
variable {t:Tx}{K:FZ}{R:Addr->Prop}{ρ ρ':En}{σ σ':St}{G H G0 H0 G1 H1 G2 H2 G' H' Hs:Hp}{F F0 F1 F2 F' Fs:Fp}{Q:VK}{vs:List V}{Ts:List Tr}{bs cs:List Addr}
theorem Vw.step(tb:bN K H)(s:aD K G H F G' H' F')(h:Vw K R Hs Fs G H F vs Ts bs):Vw K R Hs Fs G' H' F' vs Ts bs:=by
 refine⟨h.nd,λb hb=>?_,h.dr.mono s.gg λb hb o q=>?_⟩ <;> obtain⟨h1,h2,h3,h4⟩:=h.al b hb <;> obtain⟨ys,hy⟩:=h.dr.lst b hb
 .exact⟨h1,(s.flt tb hy h2 h4).2.1,h3,(s.flt tb hy h2 h4).2.2⟩
 .rw[hy]at q
  cases q
  exact(s.flt tb hy h2 h4).1
theorem Vw.back(s:aD K G0 H0 F0 G1 H1 F1)(h:Vw K R H1 F1 G H F vs Ts bs):Vw K R H0 F0 G H F vs Ts bs:=⟨h.nd,λb hb=>⟨(h.al b hb).1.elim (λz=>.inl (s.dm b z)) (s.nf b),(h.al b hb).2⟩,h.dr⟩
theorem Vw.cons(tb:bN K H1)(s0:aD K G0 H0 F0 G1 H1 F1)(s:aD K G1 H1 F1 G2 H2 F2)(h:Vw K R H0 F0 G1 H1 F1 [v] [T] bs)(h':Vw K R H1 F1 G2 H2 F2 vs Ts cs):Vw K R H0 F0 G2 H2 F2 (v::vs) (T::Ts) (bs++cs):=by
 have h2:=h.step tb s
 have h3:=h'.back s0
 refine⟨List.nodup_append.mpr ⟨h.nd,h'.nd,λb hb c hc z=>?_⟩,λb hb=>(List.mem_append.mp hb).elim (h2.al b) (h3.al b),h2.dr.app h3.dr⟩
 subst z
 obtain⟨ys,hy⟩:=h.dr.lst b hb
 rcases(h'.al b hc).1 with z|z
 .rw[hy]at z; cases z
 .exact(h.al b hb).2.1 z
theorem Vw.of(e0:Ok K R ρ σ G H F)(e:Ok K R ρ' σ G' H' F')(s:aD K G H F G' H' F')(v1:fB K σ H G' H' F' v (.v T fr))(n:fM (T,fr)=true):∃bs,Vw K R H F G' H' F' [v] [T] bs:=by
 cases fr with
 |false=>exact⟨[],.nil,(λ_ h=>by cases h),.cl (by simpa[fM]using n) v1.1 .nil⟩
 |true =>
  obtain⟨⟨a,xs,ts,rfl,rfl,q1,q2,q3,q4⟩,f⟩:=v1
  refine⟨[a],by simp,λb hb=>?_,.rw q3 (.flat q4 (by simpa[fM,bA]using n)) .nil⟩
  cases List.mem_singleton.mp hb
  exact⟨.inl q1,f rfl a rfl,e0.rn q1,q2⟩
end
noncomputable def Vf(f:EF):WF:=λρ=>(f ρ).bind λp=>match p.1 with
 |.v T fr=>if fM (T,fr)=true then .ok (T,p.2)else .bad
 |.s _=>.bad
noncomputable def wE(a:VE aA):VX (Vf aA) where
 ck:=a.ck
 cs:=a.cs
 ok q o h:=(a.ok q o h).imp λσ H Q=>bB λR ρ G F e h=>dN e .refl h λp h v G1 H1 F1 e1 s1 v1=>by
  obtain⟨r,ρ1⟩:=p
  cases r with
  |s _=>exact h.elim
  |v T fr =>
   dsimp only at h
   split at h
   case isFalse=>exact h.elim
   obtain⟨bs,z⟩:=Vw.of e e1 s1 v1 ‹_›
   exact h v G1 H1 F1 bs e1 s1 z
theorem Ok.drp{K:FZ}(e:Ok K R ρ σ G H F)(i:Nat):Ok K R (ρ.set i .un) σ G H (fO F i [])/\aD K G H F G H (fO F i []):=by
 refine⟨e.one i [] (by rw[List.length_set,e.len]) (λj n=>⟨ji n,rfl⟩) (Same.refl _) e.sub e.tb (λb h=>.inl h) (λ_ _ _ _ _ h=>h) (λb h=>(e.rg b h).2) (λb h=>by cases h) ?_,.sub λb h=>?_⟩
 .rw[List.getElem?_set_self']
  cases ρ[i]? <;> rfl
 .rcases oY h with h|⟨j,_,h⟩
  .cases h
  .exact⟨j,h⟩
noncomputable def nW(i:Nat):WF:=λρ=>match ρ[i]? with
 |some (.dp ts)=>.ok (.lst ts,ρ.set i .un)
 |some (.ow ts)=>if cg ts=true then .ok (.lst ts,ρ.set i .un)else .bad
 |_=>.bad
noncomputable def wM(i:Nat):VX (nW i) where
 ck Γ e:=atName e λx _=>jY Γ i x
 cs:=[]
 ok _ o h:=by
  walk_at "o"
  refine(qy o h).imp λσ H Q=>bB λR ρ G F e h=>?_
  have z:=e.sl i
  obtain⟨e1,s1⟩:=e.drp i
  have al:∀b∈F i,(H b=none\/Fn F b)/\¬Fn (fO F i []) b/\G b=none:=λb hb=>⟨.inr ⟨i,hb⟩,λz=>(oY z).elim (λz=>by cases z) λ⟨j,n,z⟩=>n (e.di j i b z hb),e.hid b ⟨i,hb⟩⟩
  unfold nW at h
  split at h <;> rename_i k <;> (try exact h.elim) <;> rw[k]at z
  .obtain⟨a,xs,bs,h1,h2,nd,h3,h4,d⟩:=z
   refine⟨_,h1,h _ G H _ (F i) e1 s1 ⟨h2▸nd,λb hb=>⟨(al b hb).1,(al b hb).2.1,h3 b hb,(al b hb).2.2⟩,?_⟩⟩
   have:=DR.rw h4 d .nil
   rw[List.append_nil]at this
   rw[h2]
   exact this
  .split at h
   case isFalse=>exact h.elim
   obtain⟨a,xs,h1,h2,h3,h4,h5⟩:=z
   refine⟨_,h1,h _ G H _ (F i) e1 s1 ⟨by rw[h2]; simp,λb hb=>⟨(al b hb).1,(al b hb).2.1,?_,(al b hb).2.2⟩,?_⟩⟩
   .rw[h2]at hb
    cases List.mem_singleton.mp hb
    exact h3
   .rw[h2]
    exact .rw h4 (.flat h5 ‹_›) .nil
noncomputable def Dv:WA:=λρ=>.ok ([],ρ)
noncomputable def Vg(f:WF)(g:WA):WA:=λρ=>(f ρ).bind λp=>(g p.2).bind λq=>.ok (p.1::q.1,q.2)
noncomputable def JK:BZ Dv where
 ck _ e:=e.isEmpty
 cs:=[]
 ok:=@λ_ _ _ X e _ _ h=>by
  cases e <;> try cases h
  exact⟨rK.imp λσ H Q=>bB λR ρ G F e h=>h [] G H F [] e .refl ⟨.nil,(λ_ h=>by cases h),.nil⟩,λ_ z=>nomatch z⟩
noncomputable def uf(a:VX aA)(r:BZ dh):BZ (Vg aA dh) where
 ck Γ e:=aM e λx y=>notStar x&&a.ck Γ x&&r.ck Γ y
 cs:=a.cs++r.cs
 ok q O h:=by
  walk_at "o"
  simp only[an]at h
  obtain⟨pb,nb⟩:=r.ok (mr q) O h.2
  exact⟨(oE (a.ok (ml q) O h.1.2) pb (eY h.1.1)).imp λσ H Q=>bB λR ρ G F e h=>⟨R,ρ,G,F,e,h.run (aD.refl (G:=G)) λp h v G1 H1 F1 bs e1 s1 v1=>⟨R,p.2,G1,F1,e1,h.run s1 λq h vs G2 H2 F2 cs e2 s2 v2=>h (v::vs) G2 H2 F2 (bs++cs) e2 (s1.trans s2) (v1.cons e1.tb s1 s2 v2)⟩⟩,List.forall_mem_cons.mpr ⟨h.1.1,nb⟩⟩
noncomputable def Vh(g:WA):WF:=λρ=>(g ρ).bind λp=>if p.1.length<=1000 then .ok (.tup p.1,p.2)else .bad
noncomputable def yLs(g:WA):WF:=λρ=>(g ρ).bind λp=>if p.1.length<=1000 then .ok (.lst p.1,p.2)else .bad
noncomputable def JL(a:BZ aA):VX (Vh aA) where
 ck Γ e:=iM e λl _ _=>a.ck Γ l
 cs:=a.cs
 ok q O h:=by
  walk_at "o"
  refine(yJ (a.ok q O h).1).imp λσ H Q=>bB λR ρ G F e h=>⟨R,ρ,G,F,e,h.run (aD.refl (G:=G)) λp h vs G1 H1 F1 bs e1 s1 v1=>?_⟩
  split at h
  case isFalse=>exact h.elim
  refine⟨by rw[v1.dr.length]; exact Nat.le_trans ‹_› (by decide),λp hp=>?_⟩
  obtain⟨e2,s2⟩:=e1.grow (.new e1.sub hp (o:=.tup vs))
  have v2:=v1.step e1.tb s2
  have d:=DR.tp (bh.of bY) v2.dr .nil
  rw[List.append_nil]at d
  exact h _ _ _ F1 bs e2 (s1.trans s2) ⟨v2.nd,v2.al,d⟩
theorem DR.low{K:FZ}{G G' H:Hp}(m:qF G G'){xs:List V}{ts:List Tr}{bs:List Addr}(h:DR K G H xs ts bs):DR K G' H xs ts bs:=by
 induction h with
 |nil=>exact .nil
 |cl n h _ ih=>exact .cl n (h.flat m n) ih
 |rw h _ _ i1 i2=>exact .rw h i1 i2
 |tp h _ _ i1 i2=>exact .tp (m.jz h) i1 i2
theorem Vw.out{K:FZ}(e:Ok K R ρ σ G H F)(w:Gw K (wL G H) H G' H')(h:Vw K R' H Fs G' H' F' vs Us bs)(nf:∀b,¬Fn Fs b):∃F2,Ok K R ρ σ (wB G H G') H' F2/\aD K G H F (wB G H G') H' F2/\Vw K R H F (wB G H G') H' F2 vs Us bs:=by
 obtain⟨e2,s2⟩:=e.grow (SN e.sub w)
 refine⟨F,e2,s2,h.nd,λb hb=>?_,h.dr.low (Hz w)⟩
 have n:=(h.al b hb).1.resolve_right (nf b)
 refine⟨.inl n,e.fs n,e.rn n,?_⟩
 unfold wB
 split
 .exact e.sub.free n
 .exact(h.al b hb).2.2.2
noncomputable def ug(f:FP)(fa:AF):WF:=λρ=>(fa ρ).bind λp=>(drs p.2 p.1).bind λas=>(f as).bind λz=>.ok (z.1,p.2)
theorem agu(hn:∀ρ p,fa ρ=.ok p->p.1.length=n)(h:Tw (tx cl E X) (ug f fa) σ H Q):Eo (Ac X.K cl n f) [] E (Ta (tx cl E X) fa) σ H Q:=by
 obtain⟨R,ρ,G,F,e,h⟩:=h
 cases ek:fa ρ with
 |bad=>rw[ug,ek]at h; exact h.elim
 |ex c=>exact⟨R,ρ,G,F,e,by rw[ug,ek]at h; rw[ek]; exact h⟩
 |ok p =>
 refine⟨R,ρ,G,F,e,?_⟩
 simp only[ug,ek,Rs.bind]at h
 rw[ek]
 intro vs G1 H1 F1 e1 s1 v1
 obtain⟨as,k1,h⟩:=h.okb (vL _ _)
 show Ac X.K cl n f (vs++[]) H1 Q E
 rw[List.append_nil]
 refine⟨wL G1 H1,as,by rw[v1.length,hn ρ p ek],(vN e1 v1 k1).reps e1.sub,λb o q=>(qG q).elim (e1.sub b o) λq=>q.2.1,e1.tb,λb t=>?_,?_⟩
 .cases q:wL G1 H1 b with
  |none=>rfl
  |some o =>
   rcases qG q with q|⟨_,q,xs,rfl⟩
   .rw[e1.tg b t]at q; cases q
   .exact(e1.tb.nt q t).elim
 .cases ef:f as with
  |bad=>rw[ef]at h; exact h.elim
  |ex c=>rw[ef]at h; exact λH' q=>h H' (s1.back q.none)
  |ok z =>
   rw[ef]at h
   refine λv G' H' w ⟨bs,vw⟩=>?_
   obtain⟨F2,e2,s2,v2⟩:=Vw.out e1 w vw λb (z:Fn (λ_=>[]) b)=>z.elim λ_ z=>by cases z
   exact h v _ H' F2 bs e2 (s1.trans s2) (v2.back s1)
noncomputable def vFd(x:Str)(ps:List Str)(f:FP)(l:Nat)(as:VA jE):VX (ug f jE) where
 ck Γ e:=gO e λ_ m _ _=>m.length == ps.length&&decide (l <= Γ.k)&&mX Γ x as e
 cs:=.fd x ps f l::as.cs
 ok q o h:=by
  obtain⟨_,_,_,_,e0,h⟩:=xY h
  subst e0
  simp only[an]at h
  obtain⟨⟨h1,h0⟩,h⟩:=h
  obtain⟨p,a,es,p',e',h2,h3⟩:=qD h
  cases e'
  obtain⟨D,q⟩:=List.forall_mem_cons.mp q
  obtain⟨pa,la,na⟩:=as.ok q o h3
  rw[eq_of_beq h1]at la
  obtain⟨d,fd,d1,d2,d3,d4⟩:=jA.mono D (of_decide_eq_true h0)
  exact(Qd d1 o.r (cZ o h2).1 d4 d3 d2 .nil o.e pa (cZ o h2).2 (eY (na _ (List.mem_cons_self ..))) (qz (λy m=>na y (List.mem_cons_of_mem _ m)) _)).imp λ_ _ _=>agu la
noncomputable def JM(f:WF):WF:=λρ=>(dw (f (vw ρ))).bind λp=>.ok (p.1,ρ)
noncomputable def Vi(a:VX aA):VX (JM aA) where
 ck:=a.ck
 cs:=a.cs
 ok q o h:=(a.ok q o h).imp λσ H Q=>bB λR ρ G F e h=>by
  obtain⟨p,k,h⟩:=o8 h
  refine⟨_,_,_,_,e.view,?_⟩
  rw[k]
  intro v G' H' F' bs e' s' v'
  have nf:∀b,¬Fn (λ_=>[]) b:=λb ⟨_,z⟩=>by cases z
  obtain⟨F2,e2,s2,v2⟩:=Vw.out e ⟨s'.gg,λb o q t=>s'.fr b o q (nf b) t,e'.sub,λ_=>e'.tb,λb q=>(s'.nw b q).imp id λz=>z.resolve_right (nf b)⟩ v' nf
  exact h v _ H' F2 bs e2 s2 v2
theorem Vw.rep{K:FZ}(h:Vw K R Hs Fs G H F [v] [T] bs)(n:bA T=true):Rep K G v T:=by
 have d:=h.dr
 cases d.nil_of (by show(bA T&&true)=true; rw[n]; rfl)
 cases d.reps (Same.refl _) (λ_ z=>by cases z)
 assumption
noncomputable def lV(i:Nat)(T:Tr)(ρ : En):Rs En:=match T with
 |.lst ts=>.ok (ρ.set i (.dp ts))
 |T=>if bA T=true then .ok (ρ.set i (.sh T))else .bad
noncomputable def Vj(i:Nat)(f:WF):SF:=λρ=>(f ρ).bind λp=>(lV i p.1 p.2).bind λρ'=>.ok (.nx,ρ')
noncomputable def Ca(i:Nat)(a:VX aA):VS (Vj i aA) where
 ck Γ e:=oU e λaK v _=>aM aK λbf bF=>atName bf λx _=>aQ bF (tD Γ i x&&qI v&&a.ck Γ v)
 cs:=a.cs
 ok q o h:=by
  walk_at "o"
  simp only[an]at h
  obtain⟨⟨h1,h2⟩,h3⟩:=h
  obtain⟨w1,w2,w3⟩:=vY o h1
  refine(DQ o.d w1 w2 (a.ok q o h3) (v5 h2) w3).imp λD σ H=>bB λR ρ G F e h=>⟨R,ρ,G,F,e,h.run (aD.refl (G:=G)) λp h v G1 H1 F1 bs e1 s1 v1=>?_⟩
  obtain⟨T,ρ1⟩:=p
  obtain⟨ρ2,k,h⟩:=h.okb (λc=>by dsimp only[lV]; (repeat' split) <;> (intro z; cases z))
  dsimp only[lV]at k
  split at k
  .cases k
   have d:=v1.dr
   rename_i ts
   cases d with
   |cl n _ _=>unfold bA at n; cases n
   | @rw b ys _ cs _ _ bs hb dq r0 =>
   cases r0
   have nd:=v1.nd
   have al:=v1.al
   rw[List.append_nil]at nd al
   obtain⟨F',e',hf⟩:=e1.Uh i nd (λb hb=>⟨(al b hb).2.2.1,(al b hb).2.1,(al b hb).2.2.2⟩) hb dq
   exact h _ G1 H1 F' e' ⟨s1.gg,s1.fr,s1.nw,λb z=>(hf b z).elim (λz=>(al b z).1) (s1.nf b),s1.dm⟩
  .split at k <;> cases k
   obtain⟨F',e',hf⟩:=e1.vW i (v1.rep ‹_›)
   exact h _ G1 H1 F' e' (s1.trans (.sub hf))
noncomputable def agv(i:Nat)(f:WA):SF:=λρ=>(dJ ρ i).bind λ_=>(f ρ).bind λp=>(dJ p.2 i).bind λts=>match p.1 with
 | [T]=>if ts.length<=100000 then .ok (.nx,p.2.set i (.dp (ts++[T])))else .bad
 |_=>.bad
noncomputable def agw(i m:Nat):SF:=λρ=>(dJ ρ i).bind λts=>match ts[m]? with
 |some (.lst us)=>if cg us=true then .ok (.nx,ρ.set i (.dp (ts.set m (.lst []))))else .bad
 |_=>.bad
abbrev DF:=En->Rs Tr
structure uh(K:FZ)(R:Addr->Prop)(G H:Hp)(F:Fp)(G' H':Hp)(v:V)(T:Tr):Prop where
 gg:Same G G'
 fm:Fr K H F H'
 sub:Same G' H'
 nw:∀b,G' b≠none->G b≠none\/H b=none\/Fn F b
 vl:∃bs,bs.Nodup/\(∀b∈bs,(H b=none\/Fn F b)/\G' b=none)/\DR K G' H' [v] [T] bs
def JN(t:Tx)(g:DF):TS:=λD σ H=>∃R ρ G F,Ok t.K R ρ σ G H F/\bJ t H F (g ρ) λT=>∀v G' H',uh t.K R G H F G' H' v T->D.rt v H'
theorem uh.back{K:FZ}(s:aD K G0 H0 F0 G H F)(h:uh K R G H F G' H' v T):uh K R G0 H0 F0 G' H' v T:=by
 have ff:∀b,H b=none\/Fn F b->H0 b=none\/Fn F0 b:=λb=>λz=>z.elim (λz=>.inl (s.dm b z)) (s.nf b)
 obtain⟨bs,nd,al,d⟩:=h.vl
 exact⟨s.gg.trans h.gg,s.back h.fm,h.sub,λb z=>(h.nw b z).elim (s.nw b) λz=>.inr (ff b z),bs,nd,λb hb=>⟨ff b (al b hb).1,(al b hb).2⟩,d⟩
abbrev VD(g:DF):=Vn λcl E X e=>eO X e (JN (tx cl E X) g)
noncomputable abbrev JQ{g:DF}(_:VD g):DF:=g
noncomputable def Vk(f:WF):DF:=λρ=>(f ρ).bind λp=>.ok p.1
noncomputable def dR(a:VX aA):VD (Vk aA) where
 ck Γ e:=aM e λz l=>aQ l (vp z λy _=>oV y λx=>a.ck Γ x)
 cs:=a.cs
 ok q o h:=by
  walk_at "O"
  exact(Pb (Pg (a.ok q o h))).imp λD σ H=>bB λR ρ G F e h=>⟨R,ρ,G,F,e,h.run (aD.refl (G:=G)) λp h v G1 H1 F1 bs e1 s1 v1=>h v G1 H1 ⟨s1.gg,⟨s1.fr,e1.tb⟩,e1.sub,s1.nw,bs,v1.nd,λb hb=>⟨(v1.al b hb).1,(v1.al b hb).2.2.2⟩,v1.dr⟩⟩
noncomputable def Vl(f:SF)(g:DF):DF:=λρ=>(f ρ).bind λp=>match p.1 with
 |.nx=>g p.2
 |.rt T false=>if bA T=true then .ok T else .bad
 |_=>.bad
noncomputable def dC(a:VS aA)(r:VD dh):VD (Vl aA dh) where
 ck Γ e:=aM e λx l=>a.ck Γ x&&r.ck Γ l
 cs:=a.cs++r.cs
 ok q O h:=by
  walk_at "o"
  simp only[an]at h
  refine(Pa (a.ok (ml q) O h.1) (r.ok (mr q) O h.2)).imp λD σ H=>bB λR ρ G F e h=>⟨R,ρ,G,F,e,h.run (aD.refl (G:=G)) λp h=>?_⟩
  obtain⟨fl,ρ1⟩:=p
  cases fl with
  |nx=>exact λσ1 G1 H1 F1 e1 s1=>⟨R,ρ1,G1,F1,e1,h.go s1 λT h v G' H' r=>h v G' H' (r.back s1)⟩
  |bk=>exact h.elim
  |ct=>exact h.elim
  |rt T fr =>
   cases fr with
   |true=>exact h.elim
   |false =>
    dsimp only at h
    split at h
    case isFalse=>exact h.elim
    exact λv G' H' r=>h v G' H' ⟨r.gg,r.fm,r.sub,r.nw,[],.nil,(λ_ z=>by cases z),.cl ‹_› r.vl .nil⟩
noncomputable def nj(nl:Nat)(g:DF):FP:=λts=>(g (fL nl ts)).bind λT=>.ok (T,qm T)
section
variable {K:FZ}{G H G' H':Hp}{F:Fp}{N ps:List Str}{g:DF}{Q:VK}{E:XK}
theorem uh.gw{R:Addr->Prop}(r:uh K R G H (λ_=>[]) G' H' v T):Gw K G H G' H':=by
 have nf:∀{b:Addr},¬Fn (λ_=>[]) b:=λ⟨_,z⟩=>by cases z
 exact⟨r.gg,λb o q t=>r.fm.fr b o q nf t,r.sub,λ_=>r.fm.tb,λb q=>(r.nw b q).imp id λz=>z.resolve_right nf⟩
theorem agx(hn:ps.length<=N.length)(h:Ac K cl ps.length (nj N.length g) vs H Q E):JN ⟨au K,λc H'=>E (.ref (cl c)) none H'⟩ g {nx:=λ_ H'=>Q .non H',rt:=Q } (start N vs) H:=by
 obtain⟨G,as,hl,r,sg,tb,tg,h⟩:=h
 refine⟨_,_,G,_,Ok.init r (by lia) sg tb tg,h.run (aD.refl (G:=G)) λT h v G' H' r=>?_⟩
 obtain⟨bs,nd,al,d⟩:=r.vl
 exact h v G' H' r.gw ⟨bs,nd,λb hb=>⟨(al b hb).1,(λ⟨_,z⟩=>by cases z),id,(al b hb).2⟩,d⟩
open Classical in
theorem Gw.Vm(s:Same G H)(w:Gw K G H G' H')(cs:List Addr)(n:∀b∈cs,H b=none):∃G2,Gw K G H G2 H'/\Same G' G2/\(∀b∈cs,G2 b=H' b)/\∀b,b∉cs->G2 b=G' b:=by
 have i1:∀b,b∈cs->(if b∈cs then H' b else G' b)=H' b:=λb h=>if_pos h
 have i2:∀b,b∉cs->(if b∈cs then H' b else G' b)=G' b:=λb h=>if_neg h
 have m:Same G' λb=>if b∈cs then H' b else G' b:=λb o q=>by
  by_cases h:b∈cs
  .exact(i1 b h).trans (w.sub b o q)
  .exact(i2 b h).trans q
 refine⟨λb=>if b∈cs then H' b else G' b,⟨w.gg.trans m,w.hh,λb o q=>?_,w.tb,λb q=>?_⟩,m,i1,i2⟩ <;> by_cases h:b∈cs
 .rw[i1 b h]at q; exact q
 .rw[i2 b h]at q; exact w.sub b o q
 .exact .inr (n b h)
 .rw[i2 b h]at q; exact w.nw b q
theorem agy(hn:ps.length<=N.length)(h:oW K cl ps.length (nj N.length g) vs H Q E):JN ⟨au K,λc H'=>E (.ref (cl c)) none H'⟩ g {nx:=λ_ H'=>Q .non H',rt:=Q } (start N vs) H:=by
 obtain⟨G,as,hl,r,sg,tb,tg,h⟩:=h
 refine⟨_,_,G,_,Ok.init r (by lia) sg tb tg,h.run (aD.refl (G:=G)) λT h v G' H' r=>?_⟩
 obtain⟨bs,nd,al,d⟩:=r.vl
 have fr:∀b∈bs,H b=none:=λb hb=>(al b hb).1.resolve_right λ⟨_,z⟩=>by cases z
 cases k:qm T with
 |false =>
  obtain⟨G2,w,m,i1,_⟩:=r.gw.Vm sg bs fr
  rw[k]at h
  refine h v G2 H' w ?_
  cases d.reps m i1
  assumption
 |true =>
  rw[k]at h
  unfold qm at k
  split at k <;> cases k
  cases d with
  |cl n _ _=>unfold bA at n; cases n
  | @rw b ys _ cs _ _ bs hb dq r0 =>
  cases r0
  rw[List.append_nil]at nd al fr
  obtain⟨n1,_⟩:=List.nodup_cons.mp nd
  obtain⟨G2,w,m,i1,i2⟩:=r.gw.Vm sg cs λb hb=>fr b (List.mem_cons_of_mem _ hb)
  exact h _ G2 H' w ⟨b,ys,_,rfl,rfl,fr b (List.mem_cons_self ..),(i2 b n1).trans (al b (List.mem_cons_self ..)).2,hb,dq.reps m i1⟩
end
theorem JR{st:Stmt}{B R:List Str}(T:VD g)(kn:Kn c B R)(h:∀y∈tb,y.lE c)(a:At c.K c.mg x st)(h1:(wV (j9 st) (psz st) st&&wW (psz st) st&&T.ck (fG (jr T.cs) (j9 st) st B R []) (gD st))=true:=by kernel_rfl)(e:T.cs=BR tb T.cs:=by kernel_rfl):∀y ∈ .fd x (psz st) (nj (j9 st).length g) (jr T.cs+1) :: .fn x (psz st) (nj (j9 st).length g) (jr T.cs+1)::tb,y.lE c:=by
 obtain⟨h1,h2⟩:=an.mp h1
 obtain⟨h1,h3⟩:=an.mp h1
 obtain⟨S,hn⟩:=Jy h1
 have hb:BP x st (psz st):=Jz (S.pre▸S.nd.sublist (List.take_sublist ..)) h3
 have ox:=λf cdv A outer s H E hr=>T.ok (JB h e) (⟨rfl,rfl,S.nd,rfl,hr,FN,kn.B,λx m=>⟨kn.R x m,FJ⟩,kn.x,rfl,(λz=>by cases z),(λ_ z=>nomatch z)⟩:Ox c.cl (fG (jr T.cs) (j9 st) st B R []) E (iH (gH c.P c.w) c.P c.w c.K c.mg c.base (j9 st) x (bV st) f cdv A outer s H E)) h2
 exact List.forall_mem_cons.mpr ⟨a.FQ S hb (λvs H Q E ⟨_,_,h,_⟩=>h) λf cdv A outer s H vs Q E hr q=>⟨_,ox f cdv A outer s H E hr,agx hn q⟩,List.forall_mem_cons.mpr ⟨a.FQ S hb (λvs H Q E ⟨_,_,h,_⟩=>h) λf cdv A outer s H vs Q E hr q=>⟨_,ox f cdv A outer s H E hr,agy hn q⟩,h⟩⟩
noncomputable def yCm(src:List (Option Nat))(fi:IF)(g:GF)(f:EF):WF:=λρ=>(fi ρ).bind λp=>if p.1.length<=100000 then(dw (lK g gq f p.1 (dX src p.2))).bind λz=>if eN src z.2 p.2=true then .ok (.lst z.1,bH src z.2 p.2)else .bad else .bad
end L2
end
section
namespace L2
open PySem
section
variable {α β : Type}
theorem bk{r:Rs α}{f : α -> Rs β}{a : α}{s:Rs β}(h:r=.ok a)(k:f a=s):r.bind f=s:=by subst h; exact k
end
section
variable {ρ ρ1 ρ2 ρ3:En}{f g:SF}{fa fb:EF}{aa:AF}{T U:Tr}{b b':Bool}{r:Rs (Fl × En)}{i:Nat}{ps:List Rv}{as ts:List Tr}{z:Tr × Bool}{F:FP}{c d:BF}{x y:Rv}
theorem Cd(h:f ρ=.ok (.nx,ρ1))(k:g ρ1=r):Ar f g ρ = r:=bk h k
theorem Vo(h:fa ρ=.ok (.v (.lst ts) true,ρ1)):HN i fa ρ=.ok (.nx,ρ1.set i (.ow ts)):=bk h rfl
theorem JT(h:fa ρ=.ok (x,ρ1)):Ib fa ρ=.ok (.nx,ρ1):=bk h rfl
theorem Vp(h:fa ρ=.ok (.v T b,ρ1)):Ie fa ρ=.ok (.rt T b,ρ1):=bk h rfl
theorem Vq(h:c ρ=.ok (false,ρ1))(k:g ρ1=r):Ig c f g ρ = r:=bk h ((if_neg Bool.false_ne_true).trans k)
theorem nx_(h:f ρ=.ok q):v8 f ρ=.ok q:=by unfold v8; rw[h]; rfl
theorem JV(h:f (fL n as)=.ok (.rt T b,ρ1)):aN n f as=.ok (T,b):=bk h rfl
theorem JW(h:f (fL n as)=.ok (.nx,ρ1)):aN n f as=.ok (.non,false):=bk h rfl
theorem ju(h:fa ρ=.ok (x,ρ1))(k:aa ρ1=.ok (ps,ρ2)):cN fa aa ρ=.ok (x::ps,ρ2):=bk h (bk k rfl)
theorem nq(h:aa ρ=.ok (ps,ρ1))(k:drs ρ1 ps=.ok as)(n:ps.any oX=false)(e:F as=.ok z):jF F aa ρ=.ok (.v z.1 z.2,ρ1):=bk h (bk k (bk e (if_neg λq=>by rw[n]at q; exact Bool.false_ne_true q.1)))
theorem JX(h:aa ρ=.ok (ps,ρ1))(k:drs ρ1 ps=.ok as)(e:G as=.ok z):mY G aa ρ=.ok (.v z.1 z.2,ρ1):=bk h (bk k (bk e rfl))
theorem op_(h:fa ρ=.ok (x,ρ1))(k:fb ρ1=.ok (y,ρ2))(u:dr ρ2 x=.ok T)(v:dr ρ2 y=.ok U)(e:G T U=.ok z):gU G fa fb ρ=.ok (.v z.1 z.2,ρ2):=bk h (bk k (bk u (bk v (bk e rfl))))
theorem agz(h:fa ρ=.ok (.v T b,ρ1))(k:fb ρ1=.ok (.v U b',ρ2))(e:G T U=.ok z):gU G fa fb ρ=.ok (.v z.1 z.2,ρ2):=op_ h k rfl rfl e
theorem JZ(h:fa ρ=.ok (x,ρ1))(k:dr ρ1 x=.ok T)(e:nQ T=.ok b):Af fa ρ=.ok (b,ρ1):=bk h (bk k (bk e rfl))
theorem Vr(h:c ρ=.ok (b,ρ1)):Ag c ρ=.ok (!b,ρ1):=bk h rfl
theorem ap_(h:fa ρ=.ok (.v T b,ρ1))(n:con ρ i=.ok as)(k:con ρ1 i=.ok ts)(l:ts.length<=100000):Aq i qH (cN fa cY) ρ=.ok (.v .non false,cJ i (ts++[T]) ρ1):=bk n (bk (ju h rfl) (bk rfl (bk k (bk (by unfold qH; exact if_pos l) rfl))))
end
noncomputable def cS(fl:Fl)(g:SF)(ρ : En):Rs (Fl × En):=match fl with
 |.nx=>g ρ
 |fl=>.ok (fl,ρ)
noncomputable def cB{α : Type}(b:Bool)(f g:En->Rs α)(ρ : En):Rs α := if b=true then f ρ else g ρ
def W(r:Rs (Fl × En))(Q:Fl->En->Prop):Prop:=∃fl ρ,r=.ok (fl,ρ)/\Q fl ρ
noncomputable def Dr(x:Rv)(ρ : En):Rs (Tr × Bool):=match x with
 |.v T fr=>.ok (T,fr)
 |.s i=>match ρ[i]? with
  |some (.ow ts)=>.ok (.lst ts,true)
  |_=>.bad
noncomputable def Ds:Fl->Rs (Tr × Bool)
 |.rt T fr=>.ok (T,fr)
 |.nx=>.ok (.non,false)
 |_=>.bad
section
variable {α : Type}{ρ ρ1 ρ2 ρ3:En}{f g:SF}{fa fb:EF}{aa:AF}{T U V:Tr}{b b':Bool}{r:Rs (Fl × En)}{i j n:Nat}{ps:List Rv}{as ts us:List Tr}{F:FP}{c d:BF}{x y:Rv}{q:Rs (Bool × En)}{s:Rs (Rv × En)}{fl:Fl}{z:Tr × Bool}{u v:En->Rs α}{w:Rs α}{S:Sl}{Q Q0:Fl->En->Prop}{gf:GF}{fi:IF}
theorem wSq(h:W (f ρ) λfl ρ1=>W (cS fl g ρ1) Q):W (Ar f g ρ) Q:=by
 obtain⟨fl,ρ1,e,yW,ρ2,e',q⟩:=h
 refine⟨yW,ρ2,bk e ?_,q⟩
 cases fl <;> exact e'
theorem wSn(k:W (g ρ) Q):W (cS .nx g ρ) Q:=k
theorem wSr(k:Q (.rt T b) ρ):W (cS (.rt T b) g ρ) Q:=⟨_,_,rfl,k⟩
theorem wSc(k:Q .ct ρ):W (cS .ct g ρ) Q:=⟨_,_,rfl,k⟩
theorem aaY(k:Q .nx ρ):W (S5 ρ) Q:=⟨_,_,rfl,k⟩
theorem xT(h:b=true)(k:u ρ = w):cB b u v ρ = w:=(if_pos h).trans k
theorem xF(h:b=false)(k:v ρ = w):cB b u v ρ = w:=(if_neg (by rw[h]; exact Bool.false_ne_true)).trans k
theorem wT(h:b=true)(k:W (f ρ) Q):W (cB b f g ρ) Q:=by unfold cB; rw[if_pos h]; exact k
theorem wF(h:b=false)(k:W (g ρ) Q):W (cB b f g ρ) Q:=by unfold cB; rw[if_neg (by rw[h]; exact Bool.false_ne_true)]; exact k
theorem wIf(h:c ρ=.ok (b,ρ1))(k:W (cB b f g ρ1) Q):W (Ig c f g ρ) Q:=k.elim λfl k=>k.elim λρ2 k=>⟨fl,ρ2,bk h k.1,k.2⟩
theorem xEI(h:c ρ=.ok (b,ρ1))(k:cB b fa fb ρ1=s):vJ c fa fb ρ = s:=bk h k
theorem xBA(h:c ρ=.ok (b,ρ1))(k:cB b d (λρ=>.ok (false,ρ)) ρ1=q):Hi c d ρ = q:=bk h k
theorem xBO(h:c ρ=.ok (b,ρ1))(k:cB b (λρ=>.ok (true,ρ)) d ρ1=q):Hj c d ρ = q:=bk h k
theorem xEA(h:iR fa ρ=.ok (b,ρ1))(k:cB b fb (λρ=>.ok (eB false,ρ)) ρ1=s):Ho fa fb ρ = s:=bk h k
theorem xEO(h:iR fa ρ=.ok (b,ρ1))(k:cB b (λρ=>.ok (eB true,ρ)) fb ρ1=s):eOr fa fb ρ = s:=bk h k
theorem xOv(h:d ρ=.ok (b',ρ)):cB b (λρ=>.ok (true,ρ)) d ρ=.ok (b || b',ρ):=by cases b <;> first|exact h|rfl
theorem xAv(h:d ρ=.ok (b',ρ)):cB b d (λρ=>.ok (false,ρ)) ρ=.ok (b&&b',ρ):=by cases b <;> first|exact h|rfl
theorem xOV(h:fb ρ=.ok (.v (.bl b') false,ρ)):cB b (λρ=>.ok (eB true,ρ)) fb ρ=.ok (.v (.bl (b || b')) false,ρ):=by cases b <;> first|exact h|rfl
theorem xAV(h:fb ρ=.ok (.v (.bl b') false,ρ)):cB b fb (λρ=>.ok (eB false,ρ)) ρ=.ok (.v (.bl (b&&b')) false,ρ):=by cases b <;> first|exact h|rfl
theorem xEN(h:iR fa ρ=.ok (b,ρ1)):Hq fa ρ=.ok (.v (.bl (!b)) false,ρ1):=bk h rfl
theorem xBN(h:c ρ=.ok (b,ρ1)):Ag c ρ=.ok (!b,ρ1):=bk h rfl
theorem xTe(h:fa ρ=.ok (x,ρ1))(k:dr ρ1 x=.ok T)(e:rG T=.ok b):iR fa ρ=.ok (b,ρ1):=bk h (bk k (bk e rfl))
theorem xTr(h:fa ρ=.ok (x,ρ1))(k:dr ρ1 x=.ok T)(e:nQ T=.ok b):Af fa ρ=.ok (b,ρ1):=bk h (bk k (bk e rfl))
theorem wAs(h:fa ρ=.ok (.v T b,ρ1))(e : ρ1.set i (.sh T) = ρ2)(k:Q .nx ρ2):W (v7 fa (gN i) ρ) Q:=⟨_,_,e▸bk h rfl,k⟩
theorem wAg(h:fa ρ=.ok (.v T b,ρ1))(k:gf T ρ1=.ok ρ2)(q:Q .nx ρ2):W (v7 fa gf ρ) Q:=⟨_,_,bk h (bk k rfl),q⟩
theorem xG2(e:T=.tup [U,V])(h : ρ.set i (.sh U) = ρ1)(k : ρ1.set j (.sh V) = ρ2):gT 2 (lF (gN i) (lF (gN j) vZ)) T ρ=.ok ρ2:=by subst e h k; rfl
theorem xG3{k':Nat}{W:Tr}(e:T=.tup [U,V,W])(h : ρ.set i (.sh U) = ρ1)(k : ρ1.set j (.sh V) = ρ2)(l : ρ2.set k' (.sh W) = ρ3):gT 3 (lF (gN i) (lF (gN j) (lF (gN k') vZ))) T ρ=.ok ρ3:=by subst e h k l; rfl
theorem xGN(e : ρ.set i (.sh T) = ρ1):gN i T ρ=.ok ρ1:=by subst e; rfl
theorem wOw(h:fa ρ=.ok (.v T true,ρ1))(l:T=.lst ts)(e : ρ1.set i (.ow ts) = ρ2)(k:Q .nx ρ2):W (HN i fa ρ) Q:=by subst l e; exact⟨_,_,bk h rfl,k⟩
noncomputable def J0(i:Nat)(T:Tr)(b:Bool)(ρ : En):En:=match b,T with
 |true,.lst ts=>ρ.set i (.ow ts)
 |_,T=>ρ.set i (.sh T)
theorem oV1(l:T=.lst ts)(e : ρ.set i (.ow ts) = ρ1):J0 i T true ρ = ρ1:=by subst l; exact e
theorem oV2(e : ρ.set i (.sh T) = ρ1):J0 i T false ρ = ρ1:=e
theorem wON(h:fa ρ=.ok (.v T b,ρ1))(e:J0 i T b ρ1 = ρ2)(k:Q .nx ρ2):W (agn i fa ρ) Q:=⟨_,_,bk h (by subst e; cases b <;> cases T <;> rfl),k⟩
theorem wEx(h:fa ρ=.ok (x,ρ1))(k:Q .nx ρ1):W (Ib fa ρ) Q:=⟨_,_,bk h rfl,k⟩
theorem wRt(h:fa ρ=.ok (x,ρ1))(k:Dr x ρ1=.ok (T,b))(q:Q (.rt T b) ρ1):W (Ie fa ρ) Q:=⟨_,_,bk h (by
 cases x with
 |v T fr=>cases k; rfl
 |s i =>
  show(match ρ1[i]? with|some (.ow ts)=>_|_=>_)=_
  unfold Dr at k
  dsimp only at k ⊢
  split at k <;> cases k
  rfl),q⟩
theorem wPa(h:aa ρ=.ok (ps,ρ1))(k:cls ps=.ok [T,U])(e : ρ1.set i (.sh T) = ρ2)(e' : ρ2.set j (.sh U) = ρ3)(q:Q .nx ρ3):W (Td i j aa ρ) Q:=by subst e e'; exact⟨_,_,bk h (bk k rfl),q⟩
theorem pP(h:fa ρ=.ok (x,ρ1))(k:aa ρ1=.ok (ps,ρ2)):cN fa aa ρ=.ok (x::ps,ρ2):=bk h (bk k rfl)
theorem pQ{G:G2}(h:fa ρ=.ok (x,ρ1))(k:fb ρ1=.ok (y,ρ2))(u:dr ρ2 x=.ok T)(v:dr ρ2 y=.ok U)(e:G T U=.ok (V,b)):gU G fa fb ρ=.ok (.v V b,ρ2):=bk h (bk k (bk u (bk v (bk e rfl))))
theorem xUn{G:G1}(h:fa ρ=.ok (x,ρ1))(u:dr ρ1 x=.ok T)(e:G T=.ok (V,b)):Hh G fa ρ=.ok (.v V b,ρ1):=bk h (bk u (bk e rfl))
theorem xCh{G G':G2}{fc:EF}{b1:Bool}(h:fa ρ=.ok (x,ρ1))(k:fb ρ1=.ok (y,ρ2))(u:dr ρ2 x=.ok T)(v:dr ρ2 y=.ok U)(e:G T U=.ok (.bl b,b1))(l:cB b (λρ=>(fc ρ).bind λs=>(dr s.2 y).bind λb=>(dr s.2 s.1).bind λc=>(G' b c).bind λz=>.ok (Rv.v z.1 z.2,s.2)) (λρ=>.ok (eB false,ρ)) ρ2=s):Hr G G' fa fb fc ρ = s:=bk h (bk k (bk u (bk v (bk e (bk rfl l)))))
theorem xCk{G':G2}{fc:EF}(h:fc ρ=.ok (x,ρ1))(u:dr ρ1 y=.ok T)(v:dr ρ1 x=.ok U)(e:G' T U=.ok (V,b)):((fc ρ).bind λs=>(dr s.2 y).bind λb=>(dr s.2 s.1).bind λc=>(G' b c).bind λz=>.ok (Rv.v z.1 z.2,s.2))=.ok (Rv.v V b,ρ1):=bk h (bk u (bk v (bk e rfl)))
theorem xC1{G:G1}(h:fa ρ=.ok (x,ρ1))(k:dr ρ1 x=.ok U)(e:G U=.ok (T,b)):mY (g1 G) (cN fa cY) ρ=.ok (.v T b,ρ1):=bk (bk h rfl) (bk (bk k rfl) (bk e rfl))
theorem xC2{G:G2}(h:aa ρ=.ok (ps,ρ1))(k:drs ρ1 ps=.ok [U,V])(e:G U V=.ok (T,b)):mY (g2 G) aa ρ=.ok (.v T b,ρ1):=bk h (bk k (bk e rfl))
theorem xCl(h:aa ρ=.ok (ps,ρ1))(k:drs ρ1 ps=.ok as)(e:F as=.ok (T,b))(n:(ps.any oX && !fM (T,b))=false):jF F aa ρ=.ok (.v T b,ρ1):=bk h (bk k (bk e (if_neg λq=>by rw[q.1,q.2]at n; cases n)))
theorem xIs(h:fa ρ=.ok (x,ρ1))(k:dr ρ1 x=.ok T):Sx ty fa ρ=.ok (.v (.bl (rW T ty)) false,ρ1):=bk h (bk k rfl)
theorem Ni(h:aa ρ=.ok (ps,ρ1))(k:cls ps=.ok ts)(l:ts.length<=1000):vP aa ρ=.ok (.v (.lst ts) true,ρ1):=bk h (bk k (if_pos l))
theorem xTu(h:aa ρ=.ok (ps,ρ1))(k:cls ps=.ok ts)(l:ts.length<=1000):Sd aa ρ=.ok (.v (.tup ts) false,ρ1):=bk h (bk k (if_pos l))
theorem xAp(h:fa ρ=.ok (.v T b,ρ1))(n:con ρ i=.ok as)(k : ρ1[i]?=some (.ow ts))(l:ts.length<=100000)(e : ρ1.set i (.ow (ts++[T])) = ρ2):Aq i qH (cN fa cY) ρ=.ok (.v .non false,ρ2):=by
 have c:con ρ1 i=.ok ts:=by unfold con; rw[k]
 have u:cJ i (ts++[T]) ρ1 = ρ2:=by unfold cJ; rw[k]; exact e
 exact u▸ap_ h n c l
theorem wNo(h:W (f ρ) Q):W (v8 f ρ) Q:=h.elim λ_ h=>h.elim λ_ h=>⟨_,_,nx_ h.1,h.2⟩
theorem wFo(h:fi ρ=.ok (us,ρ1))(k:W (jZ gf f us ρ1) Q):W (Tp fi gf f ρ) Q:=k.elim λ_ k=>k.elim λ_ k=>⟨_,_,bk h k.1,k.2⟩
theorem wLp{β : Type}{t : β -> Tr}{xs:List β}(P:Nat->En->Prop)(h0:P 0 ρ)(hs:∀k x ρ,xs[k]?=some x->P k ρ -> ∃ρ1,gf (t x) ρ=.ok ρ1/\W (f ρ1) λfl ρ2=>match fl with
  |.nx=>P (k+1) ρ2
  |.ct=>P (k+1) ρ2
  |.bk=>Q .nx ρ2
  |.rt T b=>Q (.rt T b) ρ2) (hk:∀ρ,P xs.length ρ -> Q .nx ρ):W (jZ gf f (xs.map t) ρ) Q:=by
 have go:∀(ys:List β) (k:Nat) (ρ : En),k<=xs.length->xs.drop k=ys->P k ρ -> W (jZ gf f (ys.map t) ρ) Q:=λys=>by
  induction ys with
  |nil =>
   intro k ρ l e p
   obtain rfl:k=xs.length:=Nat.le_antisymm l (List.drop_eq_nil_iff.mp e)
   exact⟨_,_,rfl,hk _ p⟩
  |cons x ys ih =>
   intro k ρ l e p
   have g:xs[k]?=some x:=by rw[<-List.head?_drop,e]; rfl
   have d:xs.drop (k+1)=ys:=by rw[<-List.tail_drop,e]; rfl
   have l':k+1<=xs.length:=(List.getElem?_eq_some_iff.mp g).1
   obtain⟨ρ1,e1,fl,ρ2,e2,q⟩:=hs k x ρ g p
   have st:jZ gf f ((x::ys).map t) ρ = _:=bk e1 (bk e2 rfl)
   cases fl with
   |nx=>obtain⟨a,b,h,q⟩:=ih (k+1) ρ2 l' d q; exact⟨a,b,st.trans h,q⟩
   |ct=>obtain⟨a,b,h,q⟩:=ih (k+1) ρ2 l' d q; exact⟨a,b,st.trans h,q⟩
   |bk=>exact⟨_,_,st,q⟩
   |rt T b=>exact⟨_,_,st,q⟩
 exact go xs 0 ρ (Nat.zero_le _) rfl h0
noncomputable def pt(ρ : En):List (Nat × Sl)->En
 | []=>ρ
 |(i,s)::r=>pt (ρ.set i s) r
theorem wG{t:Tr}(h:gf t ρ=.ok ρ1)(k:W (f ρ1) Q):∃ρ1,gf t ρ=.ok ρ1/\W (f ρ1) Q:=⟨_,h,k⟩
theorem pG{σ β : Type}{t : β -> Tr}{xs:List β}(js:List Nat)(A : σ -> List (Nat × Sl))(I:Nat -> σ -> Prop)(s0 : σ)(i0:I 0 s0)(h0 : ρ = pt (pt ρ (js.map λj=>(j,ρ.getD j .un))) (A s0))(hs:∀k x (v:Nat->Sl) s,xs[k]?=some x->I k s->∃ρ1,gf (t x) (pt (pt ρ (js.map λj=>(j,v j))) (A s))=.ok ρ1/\W (f ρ1) λfl ρ2=>match fl with
  |.nx=>∃s,I (k+1) s/\∃v:Nat->Sl,ρ2=pt (pt ρ (js.map λj=>(j,v j))) (A s)
  |.ct=>∃s,I (k+1) s/\∃v:Nat->Sl,ρ2=pt (pt ρ (js.map λj=>(j,v j))) (A s)
  |.bk=>Q .nx ρ2
  |.rt T b=>Q (.rt T b) ρ2) (hk:∀(v:Nat->Sl) s,I xs.length s->Q .nx (pt (pt ρ (js.map λj=>(j,v j))) (A s))):W (jZ gf f (xs.map t) ρ) Q :=
 wLp (λk ρ'=>∃s,I k s/\∃v:Nat->Sl,ρ'=pt (pt ρ (js.map λj=>(j,v j))) (A s)) ⟨s0,i0,λj=>ρ.getD j .un,h0⟩ (λk x _ g h=>h.elim λs h=>h.2.elim λv q=>by subst q; exact hs k x v s g h.1) λ_ h=>h.elim λs h=>h.2.elim λv q=>by subst q; exact hk v s h.1
theorem xg{σ : Type}{n:Nat}{t:Nat->Tr}(js:List Nat)(A : σ -> List (Nat × Sl))(I:Nat -> σ -> Prop)(s0 : σ)(i0:I 0 s0)(h0 : ρ = pt (pt ρ (js.map λj=>(j,ρ.getD j .un))) (A s0))(hs:∀k (v:Nat->Sl) s,k<n->I k s->∃ρ1,gf (t k) (pt (pt ρ (js.map λj=>(j,v j))) (A s))=.ok ρ1/\W (f ρ1) λfl ρ2=>match fl with
  |.nx=>∃s,I (k+1) s/\∃v:Nat->Sl,ρ2=pt (pt ρ (js.map λj=>(j,v j))) (A s)
  |.ct=>∃s,I (k+1) s/\∃v:Nat->Sl,ρ2=pt (pt ρ (js.map λj=>(j,v j))) (A s)
  |.bk=>Q .nx ρ2
  |.rt T b=>Q (.rt T b) ρ2) (hk:∀(v:Nat->Sl) s,I n s->Q .nx (pt (pt ρ (js.map λj=>(j,v j))) (A s))):W (jZ gf f ((List.range n).map t) ρ) Q :=
 pG js A I s0 i0 h0 (λk x v s g=>by
  obtain⟨l,rfl⟩:=List.getElem?_eq_some_iff.mp g
  rw[List.getElem_range]
  exact hs k v s (by simpa using l)) (by rw[List.length_range]; exact hk)
theorem xq{n:Nat}{t:Nat->Tr}(js:List Nat)(A:Nat->List (Nat × Sl))(h0 : ρ = pt (pt ρ (js.map λj=>(j,ρ.getD j .un))) (A 0))(hs:∀k (v:Nat->Sl),k<n->∃ρ1,gf (t k) (pt (pt ρ (js.map λj=>(j,v j))) (A k))=.ok ρ1/\W (f ρ1) λfl ρ2=>match fl with
  |.nx=>∃v:Nat->Sl,ρ2=pt (pt ρ (js.map λj=>(j,v j))) (A (k+1))
  |.ct=>∃v:Nat->Sl,ρ2=pt (pt ρ (js.map λj=>(j,v j))) (A (k+1))
  |.bk=>Q .nx ρ2
  |.rt T b=>Q (.rt T b) ρ2) (hk:∀v:Nat->Sl,Q .nx (pt (pt ρ (js.map λj=>(j,v j))) (A n))):W (jZ gf f ((List.range n).map t) ρ) Q :=
 xg js A (λk s=>s=k) 0 rfl h0 (λk v s l e=>by
  subst e
  obtain⟨ρ1,e,fl,ρ2,h,q⟩:=hs s v l
  refine⟨ρ1,e,fl,ρ2,h,?_⟩
  cases fl
  .exact⟨_,rfl,q⟩
  .exact q
  .exact q
  .exact⟨_,rfl,q⟩) λv s e=>by subst e; exact hk v
theorem Ce{σ : Type}{fu:En->Nat}(js:List Nat)(A : σ -> List (Nat × Sl))(I : σ -> Prop)(μ : σ -> Nat)(s0 : σ)(i0:I s0)(h0 : ρ = pt (pt ρ (js.map λj=>(j,ρ.getD j .un))) (A s0))(hm : μ s0<fu ρ)(hs:∀(v:Nat->Sl) s,I s->∃b ρ1,c (pt (pt ρ (js.map λj=>(j,v j))) (A s))=.ok (b,ρ1)/\if b=true then W (f ρ1) (λfl ρ2=>match fl with
  |.nx=>∃s',I s'/\μ s' < μ s/\∃v:Nat->Sl,ρ2=pt (pt ρ (js.map λj=>(j,v j))) (A s')
  |.rt T b=>Q (.rt T b) ρ2
  |_=>False)else Q .nx ρ1):W (Tn fu c f ρ) Q:=by
 have go:∀(n:Nat) (v:Nat->Sl) (s : σ),I s -> μ s<n->W (wg c f n (pt (pt ρ (js.map λj=>(j,v j))) (A s))) Q:=λn=>by
  induction n with
  |zero=>exact λ_ _ _ h=>absurd h (Nat.not_lt_zero _)
  |succ n ih =>
   intro v s i h
   obtain⟨b,ρ1,e,q⟩:=hs v s i
   cases b with
   |false=>exact⟨_,_,bk e (if_neg Bool.false_ne_true),by simpa using q⟩
   |true =>
    rw[if_pos rfl]at q
    obtain⟨fl,ρ2,e2,q⟩:=q
    cases fl with
    |nx =>
     obtain⟨s',i',l,v',rfl⟩:=q
     obtain⟨a,b,h,q⟩:=ih v' s' i' (by omega)
     exact⟨a,b,bk e ((if_pos rfl).trans (bk e2 h)),q⟩
    |rt T b=>exact⟨_,_,bk e ((if_pos rfl).trans (bk e2 rfl)),q⟩
    |bk=>exact q.elim
    |ct=>exact q.elim
 have z:=go (fu ρ) (λj=>ρ.getD j .un) s0 i0 hm
 rw[<-h0]at z
 exact z
theorem pT{P R:Prop}(h:b=true)(k:P):if b=true then P else R:=by rw[if_pos h]; exact k
theorem pF{P R:Prop}(h:b=false)(k:R):if b=true then P else R:=by rw[if_neg (by rw[h]; exact Bool.false_ne_true)]; exact k
theorem Vs{P R : α -> Prop}{a : α}(h:P a)(k:R a):∃a,P a/\R a:=⟨_,h,k⟩
theorem nu(h:c ρ=.ok (b,ρ1)){P:Bool->En->Prop}(k:P b ρ1):∃b ρ1,c ρ=.ok (b,ρ1)/\P b ρ1:=⟨_,_,h,k⟩
theorem cn2{l l':En}{S':Sl}(h:S=S')(k:l=l'):S::l=S'::l':=h▸k▸rfl
theorem exV{R:(Nat->Sl)->En}(e : ρ = R λj=>ρ.getD j .un):∃v,ρ = R v:=⟨_,e⟩
theorem J1{σ : Type}(A : σ -> List (Nat × Sl))(I : σ -> Prop)(h:W (f ρ) λfl ρ'=>fl=.nx/\∃s,I s/\ρ'=pt ρ (A s))(k:∀s,I s->Q .nx (pt ρ (A s))):W (f ρ) Q:=by
 obtain⟨fl,ρ',e,rfl,s,i,rfl⟩:=h
 exact⟨_,_,e,k s i⟩
theorem xFS(h:fa ρ=.ok (x,ρ1))(u:Dt x=.ok (us,b)):qP fa ρ=.ok (us,ρ1):=bk h (bk u rfl)
theorem wFr(e:cV i ρ = ρ1)(k:W (f ρ1) Q):W (Tf i f ρ) Q:=by subst e; exact k
theorem xFz(h : ρ[i]?=some (.ow ts))(e : ρ.set i (.sh (.lst ts)) = ρ1):cV i ρ = ρ1:=by unfold cV; rw[h]; exact e
theorem wDw(h : ρ[i]?=some (.dp ts))(e : ρ.set i (.ow ts) = ρ1)(k:W (f ρ1) Q):W (Jf i f ρ) Q:=by subst e; unfold Jf tU; rw[h]; exact k
theorem xVw{c:BF}(e:vw ρ = ρ2)(h:c ρ2=.ok (b,ρ1)):Jt c ρ=.ok (b,ρ):=by subst e; unfold Jt; rw[h]; rfl
theorem xSl{l h:OF}{lo hi:Option Int}(e:fa ρ=.ok (x,ρ1))(k:l ρ1=.ok (lo,ρ2))(k':h ρ2=.ok (hi,ρ3))(u:dr ρ3 x=.ok T)(q:kW lo hi T=.ok (V,b)):Al fa l h ρ=.ok (.v V b,ρ3):=bk e (bk k (bk k' (bk u (bk q rfl))))
theorem xOS{m:Int}(h:fa ρ=.ok (x,ρ1))(k:dr ρ1 x=.ok (.int m)):Ak fa ρ=.ok (some m,ρ1):=bk h (bk k rfl)
theorem Np(e:fL n as = ρ)(h:W (f ρ) λfl _=>Ds fl=.ok z):aN n f as=.ok z:=by
 subst e
 obtain⟨fl,ρ1,h,k⟩:=h
 refine bk h ?_
 cases fl <;> first|exact k|(cases k; done)
theorem wFe{R:Tr × Bool->Prop}(e:fL n as = ρ)(h:W (f ρ) λfl _=>∃z,Ds fl=.ok z/\R z):∃z,aN n f as=.ok z/\R z:=by
 obtain⟨fl,ρ1,h,z,k,q⟩:=h
 exact⟨z,Np e ⟨fl,ρ1,h,k⟩,q⟩
theorem Nj{n:Nat}(h:fa ρ=.ok (x,ρ1))(d:dr ρ1 x=.ok (.int (n:Int)))(hn:n<=1000):Bf (cN fa cY) ρ=.ok ((List.range n).map λi:Nat=>Tr.int i,ρ1):=by
 have u:∀(m:Nat) (lo:Nat),L2.upTo (lo:Int) m=(List.range' lo m).map λi:Nat=>Tr.int i:=λm=>by
  induction m with
  |zero=>exact λ_=>rfl
  |succ m ih=>exact λlo=>congrArg (Tr.int lo :: ·) (ih (lo+1))
 have u:=u n 0
 rw[<-List.range_eq_range']at u
 exact bk (pP h rfl) (bk (show drs ρ1 [x]=.ok [.int (n:Int)]from bk d rfl) ((if_pos (by unfold okR; simp; omega)).trans (by rw[Int.toNat_natCast]; exact congrArg (λl=>Rs.ok (l,ρ1)) u)))
theorem Vt{α : Type}{r h : α -> Tr}{fr : α -> Bool}{τ : En}{fe:EF}:∀(xs:List α) (s:Sl),(∀x∈xs,fe (.sh (r x)::τ)=.ok (.v (h x) (fr x),.sh (r x)::τ))->∃s',fU (gN 0) gq fe (xs.map r) (s::τ)=.ok (xs.map h,s'::τ)
 | [],s,_=>⟨s,rfl⟩
 |x::xs,s,q=>by
  obtain⟨s',e'⟩:=Vt xs (.sh (r x)) λv hv=>q v (List.mem_cons_of_mem _ hv)
  exact⟨s',bk (a:=.sh (r x)::τ) rfl (bk rfl ((if_pos rfl).trans (bk (q x (List.mem_cons_self ..)) (bk rfl (bk e' rfl)))))⟩
theorem xMp{β : Type}{t h : β -> Tr}{fr : β -> Bool}{xs:List β}{rest:List (Option Nat)}{fe:EF}{τ : En}(hi:fi ρ=.ok (us,ρ))(hu:us=xs.map t)(hτ : dX rest ρ = τ)(hs:∀s,eN (none::rest) (s::τ) ρ = true)(hd:∀s,bH (none::rest) (s::τ) ρ = ρ)
  (hf:∀x∈xs,fe (.sh (t x)::τ)=.ok (.v (h x) (fr x),.sh (t x)::τ)) (hl:xs.length<=100000):tO (none::rest) fi (gN 0) gq fe ρ=.ok (.v (.lst (xs.map h)) true,ρ):=by
 subst hu hτ
 obtain⟨s,e⟩:=Vt xs .un hf
 refine bk hi ((if_pos (by rw[List.length_map]; exact hl)).trans ?_)
 show(dw (fU _ _ _ _ (Sl.un::dX rest ρ))).bind _=_
 rw[e]
 refine bk rfl ((if_pos (hs s)).trans ?_)
 rw[hd s]
theorem J3{α : Type}{r : α -> Tr}{p : α -> Bool}{τ : En}:∀(xs:List α) (s:Sl),(∀x∈xs,c (.sh (r x)::τ)=.ok (p x,.sh (r x)::τ))->∃s',fU (gN 0) c (bx 0) (xs.map r) (s::τ)=.ok ((xs.filter p).map r,s'::τ)
 | [],s,_=>⟨s,rfl⟩
 |x::xs,s,q=>by
  obtain⟨s',e'⟩:=J3 xs (.sh (r x)) λv hv=>q v (List.mem_cons_of_mem _ hv)
  refine⟨s',bk (a:=.sh (r x)::τ) rfl (bk (q x (List.mem_cons_self ..)) ?_)⟩
  rw[List.filter_cons]
  cases p x
  .exact(if_neg Bool.false_ne_true).trans e'
  .exact(if_pos rfl).trans (bk rfl (bk rfl (bk e' rfl)))
theorem xFl{β : Type}{t : β -> Tr}{p : β -> Bool}{xs:List β}{rest:List (Option Nat)}{τ : En}(hi:fi ρ=.ok (us,ρ))(hu:us=xs.map t)(hτ : dX rest ρ = τ)(hs:∀s,eN (none::rest) (s::τ) ρ = true)(hd:∀s,bH (none::rest) (s::τ) ρ = ρ)
  (hf:∀x∈xs,c (.sh (t x)::τ)=.ok (p x,.sh (t x)::τ)) (hl:xs.length<=100000):tO (none::rest) fi (gN 0) c (bx 0) ρ=.ok (.v (.lst ((xs.filter p).map t)) true,ρ):=by
 subst hu hτ
 obtain⟨s,e⟩:=J3 xs .un hf
 refine bk hi ((if_pos (by rw[List.length_map]; exact hl)).trans ?_)
 show(dw (fU _ _ _ _ (Sl.un::dX rest ρ))).bind _=_
 rw[e]
 refine bk rfl ((if_pos (hs s)).trans ?_)
 rw[hd s]
theorem xFO{β : Type}{t : β -> Tr}{p : β -> Bool}{xs:List β}{rest:List (Option Nat)}{τ : En}(hi:con ρ n=.ok us)(hu:us=xs.map t)(hτ : dX rest ρ = τ)(hs:∀s,eN (none::rest) (s::τ) ρ = true)(hd:∀s,bH (none::rest) (s::τ) ρ = ρ)
  (hf:∀x∈xs,c (.sh (t x)::τ)=.ok (p x,.sh (t x)::τ)) (hl:xs.length<=100000):afM (none::rest) n (gN 0) c (bx 0) ρ=.ok (.v (.lst ((xs.filter p).map t)) true,ρ):=by
 subst hu hτ
 obtain⟨s,e⟩:=J3 xs .un hf
 refine bk hi ((if_pos (by rw[List.length_map]; exact hl)).trans ?_)
 show(dw (fU _ _ _ _ (Sl.un::dX rest ρ))).bind _=_
 rw[e]
 refine bk rfl ((if_pos (hs s)).trans ?_)
 rw[hd s]
theorem xIn{m:Nat}(h:aa ρ=.ok (ps,ρ1))(k:cls ps=.ok [.int m,T])(n:con ρ i=.ok as)(q : ρ1[i]?=some (.ow ts))(l:m<=ts.length)(l':ts.length<=100000)(e : ρ1.set i (.ow (ts.take m++T::ts.drop m)) = ρ2):Aq i afW aa ρ=.ok (.v .non false,ρ2):=by
 have c:con ρ1 i=.ok ts:=by unfold con; rw[q]
 have u:cJ i (ts.take m++T::ts.drop m) ρ1 = ρ2:=by unfold cJ; rw[q]; exact e
 exact u▸bk n (bk h (bk k (bk c (bk (a:=(ts.take m++T::ts.drop m,Tr.non)) (if_pos ⟨Int.natCast_nonneg m,l,l'⟩) rfl))))
theorem xLR{m:Nat}(h:fa ρ=.ok (.v T b,ρ1))(k:T=.int (m:Int))(l:m<=1000):eLR (cN fa cY) ρ=.ok (.v (.lst ((List.range m).map λi:Nat=>Tr.int i)) true,ρ1):=by
 subst k
 exact bk (pP h rfl) ((if_pos ⟨Int.natCast_nonneg m,by omega⟩).trans (by rw[Int.toNat_natCast]))
theorem Vu{α : Type}{a b h : α -> Tr}{fr : α -> Bool}{τ : En}{fe:EF}:∀(xs:List α) (s s':Sl),(∀x∈xs,fe (.sh (a x) :: .sh (b x)::τ)=.ok (.v (h x) (fr x),.sh (a x) :: .sh (b x)::τ))->∃t t',fU (gT 2 (lF (gN 0) (lF (gN 1) vZ))) gq fe (xs.map λx=>.tup [a x,b x]) (s::s'::τ)=.ok (xs.map h,t::t'::τ)
 | [],s,s',_=>⟨s,s',rfl⟩
 |x::xs,s,s',q=>by
  obtain⟨t,t',e⟩:=Vu xs (.sh (a x)) (.sh (b x)) λv hv=>q v (List.mem_cons_of_mem _ hv)
  exact⟨t,t',bk (a:=.sh (a x) :: .sh (b x)::τ) rfl (bk rfl ((if_pos rfl).trans (bk (q x (List.mem_cons_self ..)) (bk rfl (bk e rfl)))))⟩
theorem xM2{β : Type}{a b h : β -> Tr}{fr : β -> Bool}{xs:List β}{rest:List (Option Nat)}{fe:EF}{τ : En}(hi:fi ρ=.ok (us,ρ))(hu:us=xs.map λx=>.tup [a x,b x])(hτ : dX rest ρ = τ)(hs:∀s s',eN (none::none::rest) (s::s'::τ) ρ = true)(hd:∀s s',bH (none::none::rest) (s::s'::τ) ρ = ρ)
  (hf:∀x∈xs,fe (.sh (a x) :: .sh (b x)::τ)=.ok (.v (h x) (fr x),.sh (a x) :: .sh (b x)::τ)) (hl:xs.length<=100000):tO (none::none::rest) fi (gT 2 (lF (gN 0) (lF (gN 1) vZ))) gq fe ρ=.ok (.v (.lst (xs.map h)) true,ρ):=by
 subst hu hτ
 obtain⟨s,s',e⟩:=Vu xs .un .un hf
 refine bk hi ((if_pos (by rw[List.length_map]; exact hl)).trans ?_)
 show(dw (fU _ _ _ _ (Sl.un::Sl.un::dX rest ρ))).bind _=_
 rw[e]
 refine bk rfl ((if_pos (hs s s')).trans ?_)
 rw[hd s s']
theorem xZi{aa:AF}{T U:Tr}{us vs:List Tr}{b b':Bool}{ρ ρ1:En}(h:aa ρ=.ok ([.v T b,.v U b'],ρ1))(e:T=.lst us)(e':U=.lst vs):TV aa ρ=.ok (lH us vs,ρ1):=by subst e e'; exact bk h rfl
theorem Nf{a b:Int}:gM (.int a) (.int b)=.ok (.int (a+b),false):=rfl
theorem aaV(h:ts.length+us.length<=100000):gM (.lst ts) (.lst us)=.ok (.lst (ts++us),true):=if_pos h
theorem aaU{a b:Int}:zB (.int a) (.int b)=.ok (.int (a-b),false):=rfl
theorem xLt{a b:Int}:sE (.int a) (.int b)=.ok (.bl (decide (a<b)),false):=rfl
theorem xGt{a b:Int}:Gq (.int a) (.int b)=.ok (.bl (decide (b<a)),false):=rfl
theorem xLe{a b:Int}:Gu (.int a) (.int b)=.ok (.bl (decide (a<=b)),false):=rfl
theorem xGe{a b:Int}:Gv (.int a) (.int b)=.ok (.bl (decide (b<=a)),false):=rfl
theorem aaX{a b:Int}(h:dH a b=true):lA (.int a) (.int b)=.ok (.int (a*b),false):=if_pos h
theorem cMr{a b:Int}(h : -18446744073709551616<b/\b<18446744073709551616):dH a b=true:=by
 have h:tiny b=true:=by unfold tiny; rw[decide_eq_true h.1,decide_eq_true h.2]; rfl
 unfold dH
 rw[h,Bool.or_true]
theorem cMl{a b:Int}(h : -18446744073709551616<a/\a<18446744073709551616):dH a b=true:=by
 have h:tiny a=true:=by unfold tiny; rw[decide_eq_true h.1,decide_eq_true h.2]; rfl
 unfold dH
 rw[h,Bool.or_true,Bool.true_or]
theorem Nm{a b:Int}(h:0<b)(k:b<2 ^ 64):jd a b=true:=by
 unfold jd
 rw[decide_eq_true (show b≠0 by omega),Bool.true_and,decide_eq_true_eq]
 have:=(Nat.log2_lt (n:=b.natAbs) (k:=64) (by omega)).mpr (by omega)
 omega
theorem Nh{a b:Int}(h:jd a b=true):zA (.int a) (.int b)=.ok (.int (a.fdiv b),false):=if_pos h
theorem aaW{a b:Int}(h:b≠0):Gn (.int a) (.int b)=.ok (.int (a.fmod b),false):=if_pos (decide_eq_true h)
theorem xEq{a b:Int}:qp (.int a) (.int b)=.ok (.bl (decide (a=b)),false):=by
 have d:∀i,dep (.int i)=0:=λi=>by unfold dep; rfl
 refine(if_pos ⟨by rw[d]; omega,by rw[d]; omega⟩).trans ?_
 rfl
theorem Ng{a b:Int}:jW (.int a) (.int b)=.ok (.bl (!decide (a=b)),false):=by
 have d:∀i,dep (.int i)=0:=λi=>by unfold dep; rfl
 refine(if_pos ⟨by rw[d]; omega,by rw[d]; omega⟩).trans ?_
 rfl
theorem xAb{a:Int}(h:0<=a):vd (.int a)=.ok (.int a,false):=by
 show Rs.ok (Tr.int (if a<0 then -a else a),false)=_
 rw[if_neg (by omega)]
theorem xSE{a b:Str}(h:(a == b)=false):qp (.str a) (.str b)=.ok (.bl false,false):=by
 have d:∀i,dep (.str i)=0:=λi=>by unfold dep; rfl
 refine(if_pos ⟨by rw[d]; omega,by rw[d]; omega⟩).trans ?_
 show Rs.ok (Tr.bl (a == b),false)=_
 rw[h]
theorem xSe{a:Str}:qp (.str a) (.str a)=.ok (.bl true,false):=by
 have d:∀i,dep (.str i)=0:=λi=>by unfold dep; rfl
 refine(if_pos ⟨by rw[d]; omega,by rw[d]; omega⟩).trans ?_
 show Rs.ok (Tr.bl (a == a),false)=_
 rw[beq_self_eq_true]
theorem xSN{a b:Str}(h:(a == b)=false):jW (.str a) (.str b)=.ok (.bl true,false):=by
 have d:∀i,dep (.str i)=0:=λi=>by unfold dep; rfl
 refine(if_pos ⟨by rw[d]; omega,by rw[d]; omega⟩).trans ?_
 show Rs.ok (Tr.bl (!(a == b)),false)=_
 rw[h]
 rfl
theorem xSn{a:Str}:jW (.str a) (.str a)=.ok (.bl false,false):=by
 have d:∀i,dep (.str i)=0:=λi=>by unfold dep; rfl
 refine(if_pos ⟨by rw[d]; omega,by rw[d]; omega⟩).trans ?_
 show Rs.ok (Tr.bl (!(a == a)),false)=_
 rw[beq_self_eq_true]
 rfl
theorem xLL:eH (.lst ts)=.ok (.int ts.length,false):=rfl
theorem Du{β : Type}{h : β -> Tr}{l:List β}:eH (.lst (l.map h))=.ok (.int l.length,false):=by rw[<-List.length_map (as:=l) h]; rfl
theorem xLT:eH (.tup ts)=.ok (.int ts.length,false):=rfl
theorem xNb(h:b=false):(!b)=true:=by rw[h]; rfl
theorem xNB(h:b=true):(!b)=false:=by rw[h]; rfl
section
variable {a0 a1 a2 a3 a4 a5 a6 a7 a8 a9 a10 a11 a12 a13 a14:Sl}{l:En}
theorem st0:(a0::l).set 0 S=S::l:=rfl
theorem st1:(a0::a1::l).set 1 S=a0::S::l:=rfl
theorem st2:(a0::a1::a2::l).set 2 S=a0::a1::S::l:=rfl
theorem st3:(a0::a1::a2::a3::l).set 3 S=a0::a1::a2::S::l:=rfl
theorem pR:(a0::a1::a2::a3::a4::l).set 4 S=a0::a1::a2::a3::S::l:=rfl
theorem iB:(a0::a1::a2::a3::a4::a5::l).set 5 S=a0::a1::a2::a3::a4::S::l:=rfl
theorem st6:(a0::a1::a2::a3::a4::a5::a6::l).set 6 S=a0::a1::a2::a3::a4::a5::S::l:=rfl
theorem gA:(a0::a1::a2::a3::a4::a5::a6::a7::l).set 7 S=a0::a1::a2::a3::a4::a5::a6::S::l:=rfl
theorem st8{m:Nat}{l':En}(h:l.set m S=l'):(a0::a1::a2::a3::a4::a5::a6::a7::l).set (m+8) S=a0::a1::a2::a3::a4::a5::a6::a7::l':=h▸rfl
end
end
end L2
end
section
namespace BH
open PySem L2
noncomputable abbrev Vv:=(bC (sN (sW (U9 1) (tK (aW m9 (aj 1) (vC (.int 0)))) (b1 (HW 0 1 (ak (aj 1) (ak (ig (aj 0) (aj 1)) ao)))))) (b1 (aH (JF (ak (aj 0) ao)))))
noncomputable abbrev agA:SF:=by exists Vv
noncomputable def Vx:FP:=aN 2 agA
noncomputable abbrev J4{f:AF}(a:VA f):=vF "common_divisor" ["one", "other"] Vx 1 a
noncomputable abbrev Vy:=(bC (sI (tK (aW jt (aj 1) (vC (.int 0)))) (b1 (qK "NoBottom" (vC (.str "a fraction has no bottom of 0")))) b0) (bC (sA 2 (aE (J4 (ak (aj 0) (ak (aj 1) ao))))) (bC (sI (tK (aW pD (aj 1) (vC (.int 0)))) (b1 (sA 2 (aE (R4 (aj 2))))) b0) (b1 (aH (d8 (ak (jJ (aj 0) (aj 2)) (ak (jJ (aj 1) (aj 2)) ao))))))))
noncomputable abbrev agB:SF:=by exists Vy
noncomputable def Vz:FP:=aN 3 agB
noncomputable abbrev VF{f:AF}(a:VA f):=vF "fraction_of" ["top", "bottom"] Vz 2 a
noncomputable abbrev VH:=(b1 (aH (VF (ak (dF (fH (aG (aj 0) (vC (.int 0))) (aG (aj 1) (vC (.int 1)))) (fH (aG (aj 1) (vC (.int 0))) (aG (aj 0) (vC (.int 1))))) (ak (fH (aG (aj 0) (vC (.int 1))) (aG (aj 1) (vC (.int 1)))) ao)))))
noncomputable abbrev agC:SF:=by exists VH
noncomputable def VJ:FP:=aN 2 agC
noncomputable abbrev agD{f:AF}(a:VA f):=vF "frac_sum" ["one", "other"] VJ 3 a
noncomputable abbrev VP:=(b1 (aH (VF (ak (fH (aG (aj 0) (vC (.int 0))) (aG (aj 1) (vC (.int 0)))) (ak (fH (aG (aj 0) (vC (.int 1))) (aG (aj 1) (vC (.int 1)))) ao)))))
noncomputable abbrev agE:SF:=by exists VP
noncomputable def Cg:FP:=aN 2 agE
noncomputable abbrev Ci{f:AF}(a:VA f):=vF "frac_times" ["one", "other"] Cg 3 a
noncomputable abbrev VR:=(b1 (aH (vK (aW pD (fH (aG (aj 0) (vC (.int 0))) (aG (aj 1) (vC (.int 1)))) (fH (aG (aj 1) (vC (.int 0))) (aG (aj 0) (vC (.int 1))))))))
noncomputable abbrev agF:SF:=by exists VR
noncomputable def V0:FP:=aN 2 agF
noncomputable abbrev agG{f:AF}(a:VA f):=vF "frac_below" ["one", "other"] V0 1 a
noncomputable abbrev V1:=(b1 (aH (vV .And (uA (agq (aj 0)) (u1 .And (R6 (agr (aj 0))))))))
noncomputable abbrev agH:SF:=by exists V1
noncomputable def V2:FP:=aN 1 agH
noncomputable abbrev xr{f:AF}(a:VA f):=vF "is_whole" ["thing"] V2 1 a
noncomputable abbrev V3:=(bC (sI (tW .Or (wO (dD (dO (BX (aj 0)))) (w1 .Or (tK (aW m9 (bR (ak (aj 0) ao)) (vC (.int 2))))))) (b1 (aH (vC (.bl false)))) b0) (bC (qJ (aj 0) (fQ 2 (bK (gV 1) (bK (gV 2) fP)))) (bC (sI (tW .Or (wO (dD (dO (xr (ak (aj 1) ao)))) (w1 .Or (dD (dO (xr (ak (aj 2) ao))))))) (b1 (aH (vC (.bl false)))) b0) (b1 (aH (vV .And (uA (vK (aW JD (aj 2) (vC (.int 1)))) (u1 .And (vK (aW jt (J4 (ak (aj 1) (ak (aj 2) ao))) (vC (.int 1))))))))))))
noncomputable abbrev agI:SF:=by exists V3
noncomputable def V4:FP:=aN 3 agI
noncomputable abbrev V5{f:AF}(a:VA f):=vF "is_fraction" ["thing"] V4 2 a
noncomputable abbrev V6:=(b1 (aH (vV .And (uA (V5 (ak (aj 0) ao)) (u1 .And (vK (sU kh kh (vC (.int 0)) (aG (aj 0) (vC (.int 0))) (aG (aj 0) (vC (.int 1))))))))))
noncomputable abbrev agJ:SF:=by exists V6
noncomputable def V7:FP:=aN 1 agJ
noncomputable abbrev agK{f:AF}(a:VA f):=vF "is_worth" ["thing"] V7 3 a
noncomputable abbrev V8:=(bC (sI (tW .Or (wO (dD (dO (wY (aj 0)))) (w1 .Or (dD (tK (sU kh kh (vC (.int 1)) (bR (ak (aj 0) ao)) (aj 1))))))) (b1 (aH (vC (.bl false)))) b0) (b1 (aH (qY (ak (gh (cC [none] ["part"] (cu (aj 0)) (gV 0) (agK (ak (aj 0) ao)))) ao)))))
noncomputable abbrev agL:SF:=by exists V8
noncomputable def V9:FP:=aN 2 agL
noncomputable abbrev agM{f:AF}(a:VA f):=vF "are_worths" ["thing", "most"] V9 4 a
noncomputable abbrev Wa:=(bC (sI (tW .Or (wO (dD (dO (wY (aj 0)))) (w1 .Or (dD (tK (sU kh kh (vC (.int 1)) (bR (ak (aj 0) ao)) (vG "MOST_LISTS" (.int 4)))))))) (b1 (aH (vC (.bl false)))) b0) (bC (sI (dD (dO (qY (ak (gh (cC [none] ["row"] (cu (aj 0)) (gV 0) (agM (ak (aj 0) (ak (vG "MOST_THINGS" (.int 12)) ao))))) ao)))) (b1 (aH (vC (.bl false)))) b0) (b1 (aH (qY (ak (gh (cC [none,some 0] ["row", "thing"] (cu (aj 0)) (gV 0) (vK (aW jt (bR (ak (aj 0) ao)) (bR (ak (aG (aj 1) (vC (.int 0))) ao)))))) ao))))))
noncomputable abbrev agN:SF:=by exists Wa
noncomputable def Wb:FP:=aN 1 agN
noncomputable abbrev agO{f:AF}(a:VA f):=vF "is_book" ["thing"] Wb 5 a
noncomputable abbrev Wc:=(bC (sA 1 (aE (vC (.int 1)))) (bC (sN (sF (cu (aj 0)) (fQ 2 (bK (gV 2) (bK (gV 3) fP))) (b1 (sA 1 (aE (jJ (fH (aj 1) (aj 3)) (J4 (ak (aj 1) (ak (aj 3) ao))))))))) (b1 (aH (aj 1)))))
noncomputable abbrev agP:SF:=by exists Wc
noncomputable def Wd:FP:=aN 4 agP
noncomputable abbrev J5{f:AF}(a:VA f):=vF "common_bottom" ["fractions"] Wd 2 a
noncomputable abbrev Wf:=(bC (sA 1 (aE (J5 (ak (aj 0) ao)))) (b1 (aH (gh (cC [none,none,some 1] ["top", "own", "bottom"] (cu (aj 0)) (fQ 2 (bK (gV 0) (bK (gV 1) fP))) (fH (aj 0) (jJ (aj 2) (aj 1))))))))
noncomputable abbrev agQ:SF:=by exists Wf
noncomputable def J6:FP:=aN 2 agQ
noncomputable abbrev J7{f:AF}(a:VA f):=vF "tops_on_one_bottom" ["fractions"] J6 3 a
noncomputable abbrev Wg:=(bC (sA 1 (aE (J7 (ak (aj 0) ao)))) (b1 (aH (Uz kyI "falling_places" "place" ["tops"] [some 1] (ak (bR (ak (aj 1) ao)) ao) (Jm (Jl (tX 1) (tX 0)))))))
noncomputable abbrev agR:SF:=by exists Wg
noncomputable def xu:FP:=aN 2 agR
noncomputable abbrev pH{f:AF}(a:VA f):=vF "falling_places" ["fractions"] xu 4 a
noncomputable abbrev Wh:=(b1 (aH (vV .And (uA (xr (ak (aj 0) ao)) (u1 .And (vK (sU kh pD (vC (.int 0)) (aj 0) (aj 1))))))))
noncomputable abbrev agS:SF:=by exists Wh
noncomputable def Wi:FP:=aN 2 agS
noncomputable abbrev Wj{f:AF}(a:VA f):=vF "is_place" ["thing", "many"] Wi 2 a
noncomputable abbrev Wk:=(b1 (sI (dD (dO (agO (ak (aj 0) ao)))) (b1 (qK "NoBook" (vC (.str "this is no book")))) b0))
noncomputable abbrev agT:SF:=by exists Wk
noncomputable def Wl:FP:=aN 1 agT
noncomputable abbrev agU{f:AF}(a:VA f):=vF "need_book" ["book"] Wl 6 a
noncomputable abbrev Wm:=(bC (sI (tW .Or (wO (dD (dO (wY (aj 0)))) (w1 .Or (tK (aW m9 (bR (ak (aj 0) ao)) (aj 1)))))) (b1 (aH (vC (.bl false)))) b0) (b1 (aH (qY (ak (gh (cC [none] ["part"] (cu (aj 0)) (gV 0) (vV .And (uA (V5 (ak (aj 0) ao)) (u1 .And (vK (aW JD (aG (aj 0) (vC (.int 0))) (vC (.int 0))))))))) ao)))))
noncomputable abbrev agV:SF:=by exists Wm
noncomputable def Wn:FP:=aN 2 agV
noncomputable abbrev agW{f:AF}(a:VA f):=vF "are_weights" ["thing", "many"] Wn 3 a
noncomputable abbrev Wq:=(bC (sI (dD (dO (BX (aj 0)))) (b1 (aH (vC (.bl false)))) b0) (bC (sI (tK (aW m9 (bR (ak (aj 0) ao)) (vC (.int 2)))) (b1 (aH (vK (aW qIn (aj 0) (vG "BARE_RULES" (.tup [(.tup [(.str "least")]),(.tup [(.str "greatest")]),(.tup [(.str "product")])])))))) b0) (bC (qJ (aj 0) (fQ 2 (bK (gV 2) (bK (gV 3) fP)))) (bC (sI (tK (aW jt (aj 2) (vC (.str "shares")))) (b1 (aH (agW (ak (aj 3) (ak (aj 1) ao))))) b0) (b1 (aH (vV .And (uA (vK (aW jt (aj 2) (vC (.str "middle")))) (uA (xr (ak (aj 3) ao)) (u1 .And (vK (sU kh kh (vC (.int 1)) (aj 3) (aj 1)))))))))))))
noncomputable abbrev agX:SF:=by exists Wq
noncomputable def Ws:FP:=aN 4 agX
noncomputable abbrev agY{f:AF}(a:VA f):=vF "is_rule" ["thing", "many"] Ws 4 a
noncomputable abbrev Wt:=(bC (sA 2 (aE (vR [.int 0,.int 1]))) (bC (sN (sF (iZ (ak (aj 0) (ak (aj 1) ao))) (fQ 2 (bK (gV 3) (bK (gV 4) fP))) (b1 (sA 2 (aE (agD (ak (aj 2) (ak (Ci (ak (aj 3) (ak (aj 4) ao))) ao)))))))) (b1 (aH (aj 2)))))
noncomputable abbrev agZ:SF:=by exists Wt
noncomputable def Wu:FP:=aN 5 agZ
noncomputable abbrev ag0{f:AF}(a:VA f):=vF "shares_worth" ["weights", "worths"] Wu 4 a
noncomputable abbrev Ww:=(bC (sA 1 (aE (vR [.int 1,.int 1]))) (bC (sN (sF (cu (aj 0)) (gV 2) (b1 (sA 1 (aE (Ci (ak (aj 1) (ak (aj 2) ao)))))))) (b1 (aH (aj 1)))))
noncomputable abbrev ag1:SF:=by exists Ww
noncomputable def Wx:FP:=aN 3 ag1
noncomputable abbrev ag2{f:AF}(a:VA f):=vF "product_worth" ["worths"] Wx 4 a
noncomputable abbrev Wy:=(bC (sI (tK (aW jt (aG (aj 0) (vC (.int 0))) (vC (.str "greatest")))) (b1 (aH (vC (.int 1)))) b0) (bC (sI (tK (aW jt (aG (aj 0) (vC (.int 0))) (vC (.str "least")))) (b1 (aH (aj 1))) b0) (b1 (aH (aG (aj 0) (vC (.int 1)))))))
noncomputable abbrev ag3:SF:=by exists Wy
noncomputable def Wz:FP:=aN 2 ag3
noncomputable abbrev ag4{f:AF}(a:VA f):=vF "place_of" ["rule", "many"] Wz 1 a
noncomputable abbrev WK:=(bC (sI (tK (aW jt (aG (aj 0) (vC (.int 0))) (vC (.str "shares")))) (b1 (aH (ag0 (ak (aG (aj 0) (vC (.int 1))) (ak (aj 1) ao))))) b0) (bC (sI (tK (aW jt (aG (aj 0) (vC (.int 0))) (vC (.str "product")))) (b1 (aH (ag2 (ak (aj 1) ao)))) b0) (b1 (aH (aG (aj 1) (aG (pH (ak (aj 1) ao)) (BW (ag4 (ak (aj 0) (ak (bR (ak (aj 1) ao)) ao))) (vC (.int 1)))))))))
noncomputable abbrev ag5:SF:=by exists WK
noncomputable def iu:FP:=aN 2 ag5
noncomputable abbrev WL{f:AF}(a:VA f):=vF "worth_by" ["rule", "worths"] iu 5 a
noncomputable abbrev WM:=(bC (jm (agU (ak (aj 0) ao))) (b1 (sI (dD (dO (agY (ak (aj 1) (ak (bR (ak (aj 0) ao)) ao))))) (b1 (qK "NoRule" (vC (.str "this is no rule for the book's lists")))) b0)))
noncomputable abbrev ag6:SF:=by exists WM
noncomputable def WQ:FP:=aN 2 ag6
noncomputable abbrev ag7{f:AF}(a:VA f):=vF "need_book_and_rule" ["book", "rule"] WQ 7 a
noncomputable abbrev WR:=(b1 (aH (gh (cC [none,some 1] ["row", "thing"] (cu (aj 0)) (gV 0) (aG (aj 0) (aj 1))))))
noncomputable abbrev ag8:SF:=by exists WR
noncomputable def WT:FP:=aN 2 ag8
noncomputable abbrev ag9{f:AF}(a:VA f):=vF "worths_of" ["book", "thing"] WT 1 a
noncomputable abbrev WW:=(b1 (aH (vV .And (uA (xr (ak (aj 0) ao)) (u1 .And (vK (sU kh kh (vC (.int 0)) (aj 0) (aj 1))))))))
noncomputable abbrev aha:SF:=by exists WW
noncomputable def WX:FP:=aN 2 aha
noncomputable abbrev WY{f:AF}(a:VA f):=vF "is_count" ["thing", "many"] WX 2 a
noncomputable abbrev W0:=(b1 (sI (dD (dO (WY (ak (aj 1) (ak (bR (ak (aG (aj 0) (vC (.int 0))) ao)) ao))))) (b1 (qK "NoCount" (vC (.str "this is no count of the book's things")))) b0))
noncomputable abbrev ahb:SF:=by exists W0
noncomputable def W2:FP:=aN 2 ahb
noncomputable abbrev ahc{f:AF}(a:VA f):=vF "need_count" ["book", "count"] W2 3 a
noncomputable abbrev W3:=(bC (jm (ag7 (ak (aj 0) (ak (aj 1) ao)))) (b1 (jm (ahc (ak (aj 0) (ak (aj 2) ao))))))
noncomputable abbrev ahd:SF:=by exists W3
noncomputable def W4:FP:=aN 3 ahd
noncomputable abbrev Cj{f:AF}(a:VA f):=vF "need_book_rule_and_count" ["book", "rule", "count"] W4 8 a
noncomputable abbrev W5:=(b1 (aH (qY (ak (gh (cC [none,none] ["one", "other"] (iZ (ak (aj 0) (ak (Hy (aj 0) (oS (vC (.int 1))) oN) ao))) (fQ 2 (bK (gV 0) (bK (gV 1) fP))) (vK (aW pD (aj 0) (aj 1))))) ao))))
noncomputable abbrev ahe:SF:=by exists W5
noncomputable def W6:FP:=aN 1 ahe
noncomputable abbrev ahf{f:AF}(a:VA f):=vF "are_rising" ["parts"] W6 1 a
noncomputable abbrev W7:=(b1 (aH (gh (cC [none] ["row"] (cu (aj 0)) (gV 0) (pH (ak (aj 0) ao))))))
noncomputable abbrev ahg:SF:=by exists W7
noncomputable def W8:FP:=aN 1 ahg
noncomputable abbrev W9{f:AF}(a:VA f):=vF "read_orders" ["book"] W8 5 a
noncomputable abbrev Xa:=(bC (sI (tW .Or (wO (dD (dO (wY (aj 0)))) (w1 .Or (tK (aW m9 (bR (ak (aj 0) ao)) (aj 1)))))) (b1 (aH (vC (.bl false)))) b0) (b1 (aH (qY (ak (gh (cC [none,some 2] ["part", "many"] (cu (aj 0)) (gV 0) (WY (ak (aj 0) (ak (aj 1) ao))))) ao)))))
noncomputable abbrev ahh:SF:=by exists Xa
noncomputable def Xb:FP:=aN 3 ahh
noncomputable abbrev ahi{f:AF}(a:VA f):=vF "are_depths" ["thing", "lists", "many"] Xb 3 a
noncomputable abbrev Xc:=(bC (sI (tW .Or (wO (dD (dO (BX (aj 0)))) (w1 .Or (tK (aW m9 (bR (ak (aj 0) ao)) (vC (.int 2))))))) (b1 (aH (vC (.bl false)))) b0) (b1 (aH (vV .And (uA (Wj (ak (aG (aj 0) (vC (.int 0))) (ak (aj 1) ao))) (u1 .And (Wj (ak (aG (aj 0) (vC (.int 1))) (ak (aj 2) ao)))))))))
noncomputable abbrev ahj:SF:=by exists Xc
noncomputable def Xd:FP:=aN 3 ahj
noncomputable abbrev ahk{f:AF}(a:VA f):=vF "is_ask" ["thing", "lists", "many"] Xd 3 a
noncomputable abbrev Xe:=(bC (sI (tW .Or (wO (dD (dO (wY (aj 0)))) (w1 .Or (dD (dO (qY (ak (gh (cC [none,some 1,some 2] ["part", "lists", "many"] (cu (aj 0)) (gV 0) (ahk (ak (aj 0) (ak (aj 1) (ak (aj 2) ao)))))) ao))))))) (b1 (aH (vC (.bl false)))) b0) (b1 (aH (ahf (ak (aj 0) ao)))))
noncomputable abbrev ahl:SF:=by exists Xe
noncomputable def Xf:FP:=aN 3 ahl
noncomputable abbrev ahm{f:AF}(a:VA f):=vF "are_asked" ["thing", "lists", "many"] Xf 4 a
noncomputable abbrev Xg:=(bC (HW 2 3 (ak (bR (ak (aj 0) ao)) (ak (bR (ak (aG (aj 0) (vC (.int 0))) ao)) ao))) (bC (sI (tW .Or (wO (dD (dO (BX (aj 1)))) (w1 .Or (tK (aW m9 (bR (ak (aj 1) ao)) (vC (.int 2))))))) (b1 (qK "NoLooks" (vC (.str "looks are a tuple of depths and what is asked")))) b0) (b1 (sI (tW .Or (wO (dD (dO (ahi (ak (aG (aj 1) (vC (.int 0))) (ak (aj 2) (ak (aj 3) ao)))))) (w1 .Or (dD (dO (ahm (ak (aG (aj 1) (vC (.int 1))) (ak (aj 2) (ak (aj 3) ao))))))))) (b1 (qK "NoLooks" (vC (.str "these are no looks of the book")))) b0))))
noncomputable abbrev ahn:SF:=by exists Xg
noncomputable def Xh:FP:=aN 4 ahn
noncomputable abbrev aho{f:AF}(a:VA f):=vF "need_looks" ["book", "looks"] Xh 5 a
noncomputable abbrev Xi:=(bC (qJ (aj 1) (fQ 2 (bK (gV 2) (bK (gV 3) fP)))) (bC (sCd 4 [none] ["row"] (cu (aj 0)) (gV 0) (fH (vU [.non]) (bR (ak (aj 0) ao)))) (bC (sN (sF (iEn (ak (W9 (ak (aj 0) ao)) ao)) (fQ 2 (bK (gV 5) (bK (gV 6) fP))) (b1 (sF (cu (Hy (aj 6) oN (oS (aG (aj 2) (aj 5))))) (gV 7) (b1 (U5 4 5 7 (aG (aG (aj 0) (aj 5)) (aj 7)))))))) (bC (sN (sF (cu (aj 3)) (fQ 2 (bK (gV 5) (bK (gV 7) fP))) (b1 (U5 4 5 7 (aG (aG (aj 0) (aj 5)) (aj 7)))))) (b1 (sD 4 (aH (aj 4))))))))
noncomputable abbrev ahp:SF:=by exists Xi
noncomputable def Xj:FP:=aN 8 ahp
noncomputable abbrev ahq{f:AF}(a:VA f):=vF "seen_by" ["book", "looks"] Xj 6 a
noncomputable abbrev Xk:=(bC (sO 3 (aE (f9 ao))) (bC (sN (sF (j5 (ak (bR (ak (aG (aj 1) (vC (.int 0))) ao)) ao)) (gV 4) (bC (sA 5 (aE (ag9 (ak (aj 1) (ak (aj 4) ao))))) (bC (sA 6 (cC [none] ["worth"] (cu (aj 5)) (gV 0) (Ah (tK (aW wX (aj 0) (vC .non))) (vG "NOTHING" (.tup [(.int 0),(.int 1)])) (aj 0)))) (bC (sA 7 (cC [none,none] ["worth", "last"] (iZ (ak (aj 5) (ak (aj 2) ao))) (fQ 2 (bK (gV 0) (bK (gV 1) fP))) (Ah (tK (aW wX (aj 0) (vC .non))) (aj 1) (aj 0)))) (b1 (jm (wZ 3 (ak (d8 (ak (WL (ak (aj 0) (ak (aj 6) ao))) (ak (WL (ak (aj 0) (ak (aj 7) ao))) ao))) ao))))))))) (b1 (aH (aj 3)))))
noncomputable abbrev ahr:SF:=by exists Xk
noncomputable def Xl:FP:=aN 8 ahr
noncomputable abbrev ahs{f:AF}(a:VA f):=vF "bounds_by" ["rule", "seen", "lasts"] Xl 6 a
noncomputable abbrev Xm:=(bC (sA 2 (Ue [none,some 1] ["thing", "things"] (j5 (ak (bR (ak (aj 0) ao)) ao)) (gV 0) (tK (aW qNi (aj 0) (aj 1))) (aj 0))) (bC (sI (tW .Or (wO (dD (dO (aj 1))) (w1 .Or (dD (dO (aj 2)))))) (b1 (aH (vC .non))) b0) (bC (sA 3 (cC [none,some 0] ["thing", "bounds"] (cu (aj 1)) (gV 0) (aG (aG (aj 1) (aj 0)) (vC (.int 0))))) (bC (sA 4 (cC [none,some 0] ["thing", "bounds"] (cu (aj 2)) (gV 0) (aG (aG (aj 1) (aj 0)) (vC (.int 1))))) (b1 (aH (d8 (ak (aG (aj 1) (aG (pH (ak (aj 3) ao)) (R4 (vC (.int 1))))) (ak (aG (aj 2) (aG (pH (ak (aj 4) ao)) (vC (.int 0)))) ao)))))))))
noncomputable abbrev aht:SF:=by exists Xm
noncomputable def Xn:FP:=aN 5 aht
noncomputable abbrev ahu{f:AF}(a:VA f):=vF "weakest_and_rival" ["bounds", "things"] Xn 5 a
noncomputable abbrev Xo:=(bC (sA 2 (aE (ahu (ak (aj 0) (ak (aj 1) ao))))) (bC (sI (tK (aW wX (aj 2) (vC .non))) (b1 (aH (vC (.bl true)))) b0) (bC (qJ (aj 2) (fQ 2 (bK (gV 3) (bK (gV 4) fP)))) (b1 (aH (R6 (agG (ak (aG (aG (aj 0) (aj 3)) (vC (.int 0))) (ak (aG (aG (aj 0) (aj 4)) (vC (.int 1))) ao)))))))))
noncomputable abbrev ahv:SF:=by exists Xo
noncomputable def Ck:FP:=aN 5 ahv
noncomputable abbrev ahw{f:AF}(a:VA f):=vF "are_sure" ["bounds", "things"] Ck 6 a
noncomputable abbrev Xp:=(bC (sA 3 (Ue [none,some 1,some 2] ["place", "depths", "many"] (cu (pH (ak (aj 0) ao))) (gV 0) (tK (aW pD (aG (aj 1) (aj 0)) (aj 2))) (aj 0))) (b1 (aH (aG (aj 3) (vC (.int 0))))))
noncomputable abbrev ahx:SF:=by exists Xp
noncomputable def Cm:FP:=aN 4 ahx
noncomputable abbrev ahy{f:AF}(a:VA f):=vF "most_hopeful" ["lasts", "depths", "many"] Cm 5 a
noncomputable def fT(x:Int × Int):Tr:=.tup [.int x.1,.int x.2]
noncomputable def aL(l:LZ):Tr:=.lst (l.map fT)
noncomputable def aX(ls:List (LZ)):Tr:=.lst (ls.map aL)
def Wo(x:Int × Int):Prop:=0<=x.1/\x.1<=x.2/\1<=x.2/\x.2<=1000000000000/\Int.gcd x.1 x.2=1
noncomputable instance (x:Int × Int):Decidable (Wo x):=by unfold Wo; infer_instance
def Shp(c:Nat)(ls:List (LZ)):Prop:=∀l∈ls,l.length=c/\∀x∈l,Wo x
def Bk(c:Nat)(ls:List (LZ)):Prop:=1<=ls.length/\ls.length<=4/\1<=c/\c<=12/\Shp c ls
theorem Xq{k:Int}{M:Nat}(h:k.natAbs<2 ^ M)(hM:M<=8900):k.natAbs.log2<9000:=by
 by_cases z:k.natAbs=0
 .rw[z]; decide
 .have:=(Nat.log2_lt (n:=k.natAbs) (k:=M) z).mpr h
  lia
theorem Xr(h:k.natAbs<2 ^ M)(hM:M<=8900):fit k=true:=by
 have:=Xq h hM
 unfold fit
 rw[decide_eq_true_eq]
 lia
theorem lN(h1:i.natAbs<2 ^ M)(hM:M<=8900)(h2:j.natAbs<2 ^ N)(hN:N<=8900):dH i j=true:=by
 unfold dH
 rw[Xr h1 hM,Xr h2 hN]
 rfl
theorem Cp(h0:j≠0)(h:j.natAbs<2 ^ M)(hM:M<=8900):jd i j=true:=by
 unfold jd
 rw[Bool.and_eq_true,decide_eq_true_eq,decide_eq_true_eq]
 exact⟨h0,Xq h hM⟩
theorem iW(M:Nat):((2 ^ M:Nat):Int)=2 ^ M:=by push_cast; rfl
theorem nA{xs:List Tr}{i:Nat}(h:xs[i]?=some T):aZ (.lst xs) (.int i)=.ok (T,false):=by
 obtain⟨hi,e⟩:=List.getElem?_eq_some_iff.mp h
 show(match dZ xs i with
  |some t=>Rs.ok (t,false)
  |none=>.bad)=_
 have:dZ xs (i:Int)=some T:=by
  unfold dZ gC
  simp[hi,e]
 rw[this]
theorem pI{xs:List Tr}{i:Nat}(h:xs[i]?=some T):aZ (.lst xs) (.int i)=.ok (T,false):=nA h
theorem rH{l:LZ}{i:Nat}(h:i<l.length):aZ (aL l) (.int i)=.ok (fT (l.getD i (0,1)),false):=nA (by simp[h])
theorem pW(rows:List (LZ)):eH (aX rows)=.ok (.int (rows.length:Nat),false):=by
 show Rs.ok (Tr.int ((rows.map aL).length:Int),false)=_
 rw[List.length_map]
theorem Xu(h:rows[k]?=some l):aZ (aX rows) (.int (k:Nat))=.ok (aL l,false):=pI (by rw[List.getElem?_map,h]; rfl)
theorem lU(l:LZ):eH (aL l)=.ok (.int (l.length:Nat),false):=by
 show Rs.ok (Tr.int ((l.map fT).length:Int),false)=_
 rw[List.length_map]
theorem Xv{α : Type}{p : α -> Bool}:∀xs:List α,vf (xs.map λx=>.bl (p x))=some (xs.map p)
 | []=>rfl
 |x::xs=>by simp[vf,Xv xs]
theorem all_true{α : Type}(xs:List α):sG (.lst (xs.map λ_=>Tr.bl true))=.ok (.bl true,false):=by
 have e:=Xv (p:=λ_=>true) xs
 unfold sG
 simp -dsimp[e]
theorem J8(a b:Int):Vx [.int a,.int b]=.ok (.int (Int.gcd a b:Nat),false):=by
 walk_at "d"
 refine Ce [] (λs:Int × Int=>[(0,.sh (.int s.1)),(1,.sh (.int s.2))]) (λs=>Int.gcd s.1 s.2=Int.gcd a b) (λs=>s.2.natAbs) (a,b) rfl rfl (by show b.natAbs<b.natAbs+1; lia) ?_
 rintro v ⟨x,y⟩ h
 dsimp only[pt,List.map,List.set]at *
 by_cases z:y=0
 .subst z
  have e:vd (.int x)=.ok (.int (Int.gcd a b:Nat),false):=by
   rw[<-h]
   exact congrArg (λi=>Rs.ok (Tr.int i,false)) (adN x)
  apply nu
  walk_at "r"
 .have e:jW (.int y) (.int 0)=.ok (.bl true,false):=by rw[Ng,decide_eq_false z]; rfl
  apply nu
  walk_at "r"
  exact⟨(y,x.fmod y),by rw[<-h]; exact Q7 ..,Q6 x y z,λ_=>.un,rfl⟩
theorem xH{i:Int}:V2 [.int i]=.ok (.bl true,false):=rfl
theorem Xw{x:Int × Int}(h1:1<=x.2)(h2:Int.gcd x.1 x.2=1):V4 [fT x]=.ok (.bl true,false):=by
 have e:=J8 x.1 x.2
 rw[h2]at e
 have w1:=xH (i:=x.1)
 have w2:=xH (i:=x.2)
 walk_at "d"
theorem ahz{x:Int × Int}(h:Wo x):V7 [fT x]=.ok (.bl true,false):=by
 obtain⟨h1,h2,h3,h4,h5⟩:=h
 have e:=Xw h3 h5
 walk_at "d"
 exact congrArg (λb=>Rs.ok (Tr.bl b,false)) (decide_eq_true h2)
theorem ahA{l:LZ}{m:Int}(h:∀x∈l,Wo x)(h1:1<=l.length)(h2:l.length<=m)(hm:m<=1000):V9 [aL l,.int m]=.ok (.bl true,false):=by
 have e:=lU l
 have t:rW (aL l) .list=true:=rfl
 walk_at "d"
 exact ahz (h x hx)
 walk_at "r"
 exact all_true l
 walk_at "r"
theorem ahB{m:Nat}{rows:List (LZ)}(hB:Bk m rows):Wb [aX rows]=.ok (.bl true,false):=by
 obtain⟨b1,b2,b3,b4,b5⟩:=hB
 have e:=pW rows
 have hl:rows[0]?=some rows[0]:=List.getElem?_eq_getElem b1
 have e0:aZ (aX rows) (.int 0)=.ok (aL rows[0],false):=Xu hl
 have J9:=lU rows[0]
 rw[(b5 _ (List.mem_of_getElem? hl)).1]at J9
 walk_at "d"
 exact ahA (b5 x hx).2 (by rw[(b5 x hx).1]; exact b3) (by rw[(b5 x hx).1]; lia) (by lia)
 walk_at "r"
 exact all_true rows
 walk_at "r"
 rw[List.map_congr_left (g:=λ_=>Tr.bl true) λx hx=>by(try rw[List.length_map]); rw[(b5 x hx).1,decide_eq_true rfl]]
 exact all_true rows
 walk_at "r"
theorem ahC{m:Nat}{rows:List (LZ)}(hB:Bk m rows):Wl [aX rows]=.ok (.non,false):=by
 have e:=ahB hB
 walk_at "d"
theorem Xx(k n:Int):Wi [.int k,.int n]=.ok (.bl (decide (0<=k)&&decide (k<n)),false):=by
 have w:=xH (i:=k)
 by_cases h:0<=k
 .rw[decide_eq_true h]
  walk_at "d"
 .rw[decide_eq_false h]
  walk_at "d"
def Frs(N:Nat)(l:LZ):Prop:=∀x∈l,1<=x.2/\x.2<2 ^ N/\x.1.natAbs<2 ^ N
theorem ahD{B q:Int}(hB:1<=B)(hq:1<=q):let B':=(B*q).fdiv ((Int.gcd B q:Nat):Int); 1<=B'/\B∣B'/\q∣B'/\B'<=B*q/\∀D,B∣D->q∣D->B'∣D:=by
 have g0:0<Int.gcd B q:=Int.gcd_pos_of_ne_zero_left _ (by lia)
 have p:=Int.mul_pos (a:=B) (b:=q) (by lia) (by lia)
 have m:=Int.gcd_mul_lcm B q
 rw[<-Int.natAbs_mul]at m
 have e:B*q=((Int.gcd B q:Nat):Int)*(Int.lcm B q:Nat):=by rw[<-Int.natCast_mul,m]; lia
 have f:(B*q).fdiv ((Int.gcd B q:Nat):Int)=(Int.lcm B q:Nat):=by
  rw[Int.fdiv_eq_ediv_of_nonneg _ (by lia),e]
  exact Int.mul_ediv_cancel_left _ (by lia)
 dsimp only
 rw[f]
 have:=Int.lcm_pos (m:=B) (n:=q) (by lia) (by lia)
 refine⟨by lia,Int.dvd_lcm_left ..,Int.dvd_lcm_right ..,?_,λD=>Int.coe_lcm_dvd⟩
 rw[<-f,Int.fdiv_eq_ediv_of_nonneg _ (by lia)]
 exact Int.ediv_le_self _ (by lia)
theorem Ka{N:Nat}(l:LZ)(h:Frs N l)(hl:1+N*l.length<=8900)(hN:N<=8900):∃z,Wd [.lst (l.map fT)]=.ok z/\∃B:Int,(1<=B/\B<2 ^ (1+N*l.length)/\(∀x∈l,x.2∣B)/\∀D,(∀x∈l,x.2∣D)->B∣D)/\z=(.int B,false):=by
 walk_at "e"
 refine pG [2,3] (λB:Int=>[(1,.sh (.int B))]) (λk B=>1<=B/\B<2 ^ (1+N*k)/\(∀x∈l.take k,x.2∣B)/\∀D,(∀x∈l.take k,x.2∣D)->B∣D) 1 ⟨Int.le_refl _,by rw[Nat.mul_zero]; decide,λx hx=>(by cases hx),λD _=>Int.one_dvd _⟩ rfl (λk x v B hx hB=>?_) λv B hB=>?_
 .obtain⟨h1,h2,h3,h4⟩:=hB
  have hk:=(List.getElem?_eq_some_iff.mp hx).1
  obtain⟨a1,a2,_⟩:=h x (List.mem_of_getElem? hx)
  obtain⟨b1,b2,b3,b4,b5⟩:=ahD h1 a1
  have tk:l.take (k+1)=l.take k++[x]:=by rw[List.take_add_one,hx]; rfl
  have hle:1+N*k<=8900:=by
   have:=Nat.mul_le_mul_left N (Nat.le_of_lt hk)
   lia
  have n1:=iW (1+N*k)
  have n2:=iW N
  have g:=J8 B x.2
  have c1:dH B x.2=true:=lN (M:=1+N*k) (N:=N) (by lia) hle (by lia) hN
  have c2:∀i,jd i ((Int.gcd B x.2:Nat):Int)=true:=λi=>by
   have:=Int.gcd_pos_of_ne_zero_left (a:=B) x.2 (by lia)
   have:=Int.gcd_le_right (a:=B) (b:=x.2) (by lia)
   exact Cp (M:=N) (by lia) (by lia) hN
  walk_at "p"
  refine⟨(B*x.2).fdiv ((Int.gcd B x.2:Nat):Int),⟨b1,?_,λy hy=>?_,λD d=>?_⟩,exV rfl⟩
  .have:=Int.mul_lt_mul_of_pos_right h2 (show 0<(2:Int) ^ N by lia)
   have:=Int.mul_le_mul_of_nonneg_left (show x.2<=2 ^ N by lia) (show 0<=B by lia)
   rw[Nat.mul_succ,<-Nat.add_assoc,Int.pow_add]
   lia
  .rw[tk]at hy
   rcases List.mem_append.mp hy with hy|hy
   .exact Int.dvd_trans (h3 y hy) b2
   .rw[List.mem_singleton.mp hy]
    exact b3
  .rw[tk]at d
   exact b5 D (h4 D λy hy=>d y (List.mem_append_left _ hy)) (d x (List.mem_append_right _ (List.mem_singleton.mpr rfl)))
 .rw[List.take_length]at hB
  walk_at "r"
  exact⟨_,rfl,B,hB,rfl⟩
theorem Xy{N:Nat}(l:LZ)(h:Frs N l)(hl:1+N*l.length<=8900)(hN:N<=8900)(hl2:l.length<=1000):∃B:Int,J6 [.lst (l.map fT)]=.ok (.lst (l.map λx=>.int (x.1*B.fdiv x.2)),true)/\1<=B/\∀x∈l,x.2∣B:=by
 obtain⟨_,e,B,⟨h1,h2,h3,_⟩,rfl⟩:=Ka l h hl hN
 have q:∀x∈l,jd B x.2=true/\dH x.1 (B.fdiv x.2)=true:=λx hx=>by
  obtain⟨a1,a2,a3⟩:=h x hx
  have d0:=Int.ediv_nonneg (a:=B) (b:=x.2) (by lia) (by lia)
  have d1:=Int.ediv_le_self (a:=B) x.2 (by lia)
  have nB:=iW (1+N*l.length)
  have nN:=iW N
  rw[<-Int.fdiv_eq_ediv_of_nonneg B (b:=x.2) (by lia)]at d0 d1
  exact⟨Cp (M:=N) (by lia) (by lia) hN,lN (M:=N) (N:=1+N*l.length) a3 hN (by lia) hl⟩
 refine⟨B,?_,h1,h3⟩
 walk_at "d"
 exact(q x hx).1
 walk_at "r"
 exact(q x hx).2
 walk_at "r"
def lO(l:LZ)(i j:Nat):Prop:=(l.getD j (0,1)).1*(l.getD i (0,1)).2<(l.getD i (0,1)).1*(l.getD j (0,1)).2\/((l.getD j (0,1)).1*(l.getD i (0,1)).2=(l.getD i (0,1)).1*(l.getD j (0,1)).2/\i<j)
def Fall(l:LZ)(ys:List Nat):Prop:=ys.Perm (List.range l.length)/\ys.Pairwise (lO l)
theorem keysOk{kt:Tr->Option (Int × Int)}{fb:RF}{ts:List (Option Tr)}{κ : Nat->Int × Int}:∀(is:List Nat),(∀i∈is,∃t,fb (some (.int (i:Int))::ts)=.ok t/\kt t=some (κ i))->tY kt fb ts is=.ok (is.map κ)
 | [],_=>rfl
 |i::is,h=>by
  obtain⟨t,e,k⟩:=h i (List.mem_cons_self ..)
  have r:=keysOk is λj hj=>h j (List.mem_cons_of_mem _ hj)
  unfold tY
  rw[e,r]
  dsimp only[Rs.bind]
  rw[k]
  rfl
theorem Xz{kt:Tr->Option (Int × Int)}{src:List (Option Nat)}{fa:AF}{fb:RF}{n:Nat}{b:Bool}(κ : Nat->Int × Int)(h:fa ρ=.ok ([.v (.int (n:Int)) b],ρ1))(hn:n<64)(hk:∀i,i<n->∃t,fb (some (.int (i:Int))::Bx src ρ1)=.ok t/\kt t=some (κ i)):∃ys:List Nat,Jo kt src fa fb ρ=.ok (.v (.lst (ys.map λi:Nat=>Tr.int i)) true,ρ1)/\ys.Perm (List.range n)/\ys.Pairwise (iU κ):=by
 have e:=keysOk (List.range n) λi hi=>hk i (List.mem_range.mp hi)
 have hs:=Ut n λi=>((List.range n).map κ).getD i (0,0)
 refine⟨_,bk h ((if_pos ⟨Int.natCast_nonneg n,by lia⟩).trans (by rw[Int.toNat_natCast,e]; rfl)),hs.1,hs.2.imp_of_mem λ{i j} hi hj hb=>?_⟩
 have hi:=List.mem_range.mp (hs.1.mem_iff.mp hi)
 have hj:=List.mem_range.mp (hs.1.mem_iff.mp hj)
 have g:∀i,i<n->((List.range n).map κ).getD i (0,0) = κ i:=λi hi=>by simp[hi]
 unfold iU at hb ⊢
 dsimp only at hb
 rw[g i hi,g j hj]at hb
 exact hb
theorem top_lt{B p q r s:Int}(hB:1<=B)(hq:1<=q)(hs:1<=s)(dq:q∣B)(ds:s∣B):(p*B.fdiv q<r*B.fdiv s↔p*s<r*q)/\(p*B.fdiv q=r*B.fdiv s↔p*s=r*q):=by
 obtain⟨a,ha⟩:=dq
 obtain⟨b,hb⟩:=ds
 have e1:B.fdiv q=a:=by rw[ha]; exact Int.mul_fdiv_cancel_left _ (by lia)
 have e2:B.fdiv s=b:=by rw[hb]; exact Int.mul_fdiv_cancel_left _ (by lia)
 rw[e1,e2]
 have x1:(p*a)*(q*s)=(p*s)*B:=by rw[ha]; ac_rfl
 have x2:(r*b)*(q*s)=(r*q)*B:=by rw[hb]; ac_rfl
 have qs:0<q*s:=Int.mul_pos (by lia) (by lia)
 refine⟨?_,?_⟩
 .rw[<-Int.mul_lt_mul_right qs,x1,x2,Int.mul_lt_mul_right (show 0<B by lia)]
 .rw[<-Int.mul_eq_mul_right_iff (c:=q*s) (by lia),x1,x2,Int.mul_eq_mul_right_iff (show B≠0 by lia)]
theorem Kc{N:Nat}(l:LZ)(h:Frs N l)(hl:1+N*l.length<=8900)(hN:N<=8900)(h64:l.length<64):∃ys,xu [aL l]=.ok (.lst (ys.map λi:Nat=>Tr.int i),true)/\Fall l ys:=by
 obtain⟨B,e,h1,h3⟩:=Xy l h hl hN (by lia)
 have g:∀i,i<l.length->l.getD i (0,1)∈l:=λi hi=>by simp[hi]
 obtain⟨ys,e2,p,q⟩:=Xz (ρ:=[.sh (.lst (l.map fT)),.sh (.lst (l.map λx=>.int (x.1*B.fdiv x.2)))]) (kt:=Jp) (src:=[some 1]) (fa:=cN (mY (g1 eH) (cN (bx 1) cY)) cY) (fb:=Bw nU (Bv aZ (pA 1) (pA 0))) (λi=>(-((l.getD i (0,1)).1*B.fdiv (l.getD i (0,1)).2),0)) (pP (xC1 rfl rfl Du) rfl) h64 λi hi=>by
  have ix:aZ (.lst (l.map λx=>.int (x.1*B.fdiv x.2))) (.int (i:Int))=.ok (.int ((l.getD i (0,1)).1*B.fdiv (l.getD i (0,1)).2),false):=nA (by simp[hi])
  exact⟨.int (-((l.getD i (0,1)).1*B.fdiv (l.getD i (0,1)).2)),bk (bk rfl (bk rfl (bk ix rfl))) rfl,rfl⟩
 refine⟨ys,?_,p,q.imp_of_mem λ{i j} hi hj hb=>?_⟩
 .unfold aL
  walk_at "d"
 .have m1:=g i (List.mem_range.mp (p.mem_iff.mp hi))
  have m2:=g j (List.mem_range.mp (p.mem_iff.mp hj))
  have t:=top_lt (p:=(l.getD j (0,1)).1) (r:=(l.getD i (0,1)).1) h1 (h _ m2).1 (h _ m1).1 (h3 _ m2) (h3 _ m1)
  unfold iU at hb
  dsimp only at hb
  unfold lO
  rw[<-t.1,<-t.2]
  simp only[Int.neg_lt_neg_iff,Int.neg_inj]at hb
  rcases hb with(h|⟨_,h⟩)|⟨⟨h1,_⟩,h3⟩
  .exact .inl h
  .exact absurd h (Int.lt_irrefl 0)
  .exact .inr ⟨h1.symm,h3⟩
theorem Wo.frs(h:∀x∈l,Wo x):Frs 40 l:=λx hx=>by
 obtain⟨h1,h2,h3,h4,h5⟩:=h x hx
 exact⟨h3,by lia,by lia⟩
theorem ahE{α : Type}(xs:List α)(k:Nat):L2.cut xs (some (k:Int)) none=xs.drop k:=by
 unfold L2.cut HT.aO
 by_cases h:(k:Int)<0
 .lia
 .simp only[h,if_false,Int.toNat_natCast]
  by_cases z:k<=xs.length
  .rw[Nat.min_eq_left z]
   exact List.take_of_length_le (by simp)
  .rw[Nat.min_eq_right (by lia),List.drop_eq_nil_of_le (by lia),List.drop_eq_nil_of_le (by lia)]
   simp
theorem Kd{α : Type}(xs:List α)(k:Nat):L2.cut xs none (some (k:Int))=xs.take k:=by
 unfold L2.cut HT.aO
 by_cases h:(k:Int)<0
 .lia
 .simp only[h,if_false,Int.toNat_natCast,Nat.sub_zero,List.drop_zero]
  by_cases z:k<=xs.length
  .rw[Nat.min_eq_left z]
  .rw[Nat.min_eq_right (by lia),List.take_of_length_le (by lia),List.take_of_length_le (by lia)]
noncomputable def nT(ys:List Nat):Tr:=.lst (ys.map λi:Nat=>Tr.int i)
theorem ahF(ts:List Tr):dep (.lst ts)=deps ts+1:=by simp only[dep]
theorem ahG(h:dep T<=40):jW T T=.ok (.bl false,false):=by
 unfold jW
 rw[if_pos ⟨h,h⟩,yS]
 rfl
theorem XC:∀ys:List Nat,j8 (ys.map λi:Nat=>Tr.int i)=some (ys.map λi:Nat=>(i:Int))
 | []=>rfl
 |n::r=>by simp[j8,XC r]
noncomputable def aV(x y:Int × Int):Bool:=decide (x.1*y.2<y.1*x.2)
noncomputable def at2(l:LZ)(i:Nat):Int × Int:=l.getD i (0,1)
theorem jK(n k:Int)(h:0<k):0<=n.fmod k/\n.fmod k<k:=⟨Int.fmod_nonneg_of_pos n h,Int.fmod_lt_of_pos n h⟩
noncomputable def red(a b:Int):Int × Int:=(a / ((Int.gcd a b:Nat):Int),b / ((Int.gcd a b:Nat):Int))
def Fq(M:Nat)(x:Int × Int):Prop:=0<=x.1/\x.1<2 ^ M/\1<=x.2/\x.2<2 ^ M/\Int.gcd x.1 x.2=1
theorem Kf(ha:0<=a)(ha2:a<2 ^ M)(hb:1<=b)(hb2:b<2 ^ M):Fq M (red a b):=by
 obtain⟨g1,g2,g3,g4,g5,g6,g7⟩:=ql (a:=a) (b:=b) (by lia)
 have d1:=Int.ediv_le_self (a:=a) ((Int.gcd a b:Nat):Int) ha
 have d2:=Int.ediv_le_self (a:=b) ((Int.gcd a b:Nat):Int) (by lia)
 exact⟨g5 ha,by unfold red; dsimp only; lia,g3,by unfold red; dsimp only; lia,g4⟩
theorem jL(hb:1<=b):a*(red a b).2=(red a b).1*b/\1<=(red a b).2/\Int.gcd (red a b).1 (red a b).2=1:=by
 obtain⟨g1,g2,g3,g4,g5,g6,g7⟩:=ql (a:=a) (b:=b) (by lia)
 refine⟨?_,g3,g4⟩
 show a*(b / ((Int.gcd a b:Nat):Int))=(a / ((Int.gcd a b:Nat):Int))*b
 generalize ((Int.gcd a b:Nat):Int)=g at *
 generalize b / g=q,a / g=p at *
 rw[g6,g7]
 ac_rfl
def le2(x y:Int × Int):Prop:=x.1*y.2<=y.1*x.2
theorem kj:aV x y=false↔le2 y x:=by
 unfold aV le2
 rw[decide_eq_false_iff_not,Int.not_lt]
theorem iY(x:Int × Int):le2 x x:=Int.le_refl _
theorem qZ(hx:1<=x.2)(hy:1<=y.2)(hz:1<=z.2)(h1:le2 x y)(h2:le2 y z):le2 x z:=by
 unfold le2 at *
 have a1:=Int.mul_le_mul_of_nonneg_right h1 (show 0<=z.2 by lia)
 have a2:=Int.mul_le_mul_of_nonneg_right h2 (show 0<=x.2 by lia)
 have e1:x.1*y.2*z.2=(x.1*z.2)*y.2:=by ac_rfl
 have e2:y.1*x.2*z.2=y.1*z.2*x.2:=by ac_rfl
 have e3:z.1*y.2*x.2=(z.1*x.2)*y.2:=by ac_rfl
 rw[e1,e2]at a1
 rw[e3]at a2
 exact Int.le_of_mul_le_mul_right (Int.le_trans a1 a2) (by lia)
theorem ahH(hx:1<=x.2)(hy:1<=y.2)(gx:Int.gcd x.1 x.2=1)(gy:Int.gcd y.1 y.2=1)(h1:le2 x y)(h2:le2 y x):x=y:=by
 unfold le2 at *
 have:=adO hx hy gx gy (Int.le_antisymm h1 h2)
 exact Prod.ext this.1 this.2
theorem Kg(hb:1<=b)(hd:1<=d)(h:a*d<=c*b):le2 (red a b) (red c d):=by
 obtain⟨e1,p1,_⟩:=jL (a:=a) hb
 obtain⟨e2,p2,_⟩:=jL (a:=c) hd
 generalize red c d=y,red a b=x at *
 unfold le2
 have a1:=Int.mul_le_mul_of_nonneg_right h (Int.mul_nonneg (show 0<=x.2 by lia) (show 0<=y.2 by lia))
 have e3:a*d*(x.2*y.2)=(a*x.2)*(d*y.2):=by ac_rfl
 have e4:c*b*(x.2*y.2)=(c*y.2)*(b*x.2):=by ac_rfl
 rw[e3,e4,e1,e2]at a1
 have e5:x.1*b*(d*y.2)=(x.1*y.2)*(b*d):=by ac_rfl
 have e6:y.1*d*(b*x.2)=(y.1*x.2)*(b*d):=by ac_rfl
 rw[e5,e6]at a1
 exact Int.le_of_mul_le_mul_right a1 (Int.mul_pos (by lia) (by lia))
noncomputable def sumF(x y:Int × Int):Int × Int:=red (x.1*y.2+y.1*x.2) (x.2*y.2)
noncomputable def bQ(x y:Int × Int):Int × Int:=red (x.1*y.1) (x.2*y.2)
theorem rm{a b:Int}{M N:Nat}(ha:0<=a)(ha2:a<2 ^ M)(hb:0<=b)(hb2:b<2 ^ N):a*b<2 ^ (M+N):=by
 have p1:(0:Int)<2 ^ N:=Int.pow_pos (by lia)
 have q1:a*b<=a*2 ^ N:=Int.mul_le_mul_of_nonneg_left (by lia) ha
 have q2:a*2 ^ N<2 ^ M*2 ^ N:=Int.mul_lt_mul_of_pos_right ha2 p1
 rw[Int.pow_add]
 lia
theorem Kh{x y:Int × Int}{M N:Nat}(hx:Fq M x)(hy:Fq N y):Fq (M+N) (bQ x y) :=
 Kf (Int.mul_nonneg hx.1 hy.1) (rm hx.1 hx.2.1 hy.1 hy.2.1) (by have:=Int.mul_pos (a:=x.2) (b:=y.2) (by have:=hx.2.2.1; lia) (by have:=hy.2.2.1; lia); lia) (rm (by have:=hx.2.2.1; lia) hx.2.2.2.1 (by have:=hy.2.2.1; lia) hy.2.2.2.1)
theorem ahI{x y:Int × Int}{M N:Nat}(hx:Fq M x)(hy:Fq N y):Fq (M+N+1) (sumF x y):=by
 obtain⟨x1,x2,x3,x4,_⟩:=hx
 obtain⟨y1,y2,y3,y4,_⟩:=hy
 have m1:=rm x1 x2 (by lia) y4
 have m2:=rm y1 y2 (by lia) x4
 have m3:=rm (by lia) x4 (by lia) y4
 rw[Nat.add_comm N M]at m2
 have p:=Int.mul_pos (a:=x.2) (b:=y.2) (by lia) (by lia)
 have n1:=Int.mul_nonneg x1 (show 0<=y.2 by lia)
 have n2:=Int.mul_nonneg y1 (show 0<=x.2 by lia)
 have e:(2:Int) ^ (M+N+1)=2 ^ (M+N)*2:=Int.pow_succ ..
 exact Kf (by lia) (by rw[e]; lia) (by lia) (by rw[e]; lia)
theorem ahJ(hw:0<=w.1)(hw2:1<=w.2)(hx:1<=x.2)(hy:1<=y.2)(h:le2 x y):le2 (bQ w x) (bQ w y):=by
 have p1:=Int.mul_pos (a:=w.2) (b:=x.2) (by lia) (by lia)
 have p2:=Int.mul_pos (a:=w.2) (b:=y.2) (by lia) (by lia)
 refine Kg (by lia) (by lia) ?_
 unfold le2 at h
 have a1:=Int.mul_le_mul_of_nonneg_left h (Int.mul_nonneg hw (show 0<=w.2 by lia))
 have e1:w.1*x.1*(w.2*y.2)=w.1*w.2*(x.1*y.2):=by ac_rfl
 have e2:w.1*y.1*(w.2*x.2)=w.1*w.2*(y.1*x.2):=by ac_rfl
 rw[e1,e2]
 exact a1
theorem XD(hw:0<=w.1)(hw2:1<=w.2)(hv:0<=v.1)(hv2:1<=v.2)(hx0:0<=x.1)(hy0:0<=y.1)(hx:1<=x.2)(hy:1<=y.2)(h:le2 w v)(h':le2 x y):le2 (bQ w x) (bQ v y):=by
 have p1:=Int.mul_pos (a:=w.2) (b:=x.2) (by lia) (by lia)
 have p2:=Int.mul_pos (a:=v.2) (b:=y.2) (by lia) (by lia)
 refine Kg (by lia) (by lia) ?_
 unfold le2 at h h'
 have e1:w.1*x.1*(v.2*y.2)=(w.1*v.2)*(x.1*y.2):=by ac_rfl
 have e2:v.1*y.1*(w.2*x.2)=(v.1*w.2)*(y.1*x.2):=by ac_rfl
 rw[e1,e2]
 exact Int.mul_le_mul h h' (Int.mul_nonneg hx0 (by lia)) (Int.mul_nonneg hv (by lia))
theorem XF(hw2:1<=w.2)(hv2:1<=v.2)(hx:1<=x.2)(hy:1<=y.2)(h:le2 w v)(h':le2 x y):le2 (sumF w x) (sumF v y):=by
 have p1:=Int.mul_pos (a:=w.2) (b:=x.2) (by lia) (by lia)
 have p2:=Int.mul_pos (a:=v.2) (b:=y.2) (by lia) (by lia)
 refine Kg (by lia) (by lia) ?_
 unfold le2 at h h'
 have a1:=Int.mul_le_mul_of_nonneg_right h (Int.mul_nonneg (show 0<=x.2 by lia) (show 0<=y.2 by lia))
 have a2:=Int.mul_le_mul_of_nonneg_right h' (Int.mul_nonneg (show 0<=w.2 by lia) (show 0<=v.2 by lia))
 have e1:(w.1*x.2+x.1*w.2)*(v.2*y.2)=w.1*v.2*(x.2*y.2)+x.1*y.2*(w.2*v.2):=by rw[Int.add_mul]; ac_rfl
 have e2:(v.1*y.2+y.1*v.2)*(w.2*x.2)=v.1*w.2*(x.2*y.2)+y.1*x.2*(w.2*v.2):=by rw[Int.add_mul]; ac_rfl
 rw[e1,e2]
 lia
theorem mulC{x y:Int × Int}{M N:Nat}(hx:Fq M x)(hy:Fq N y)(hM:M+N<=8900):dH x.1 y.1=true/\dH x.1 y.2=true/\dH y.1 x.2=true/\dH x.2 y.2=true:=by
 obtain⟨x1,x2,x3,x4,_⟩:=hx
 obtain⟨y1,y2,y3,y4,_⟩:=hy
 have nM:=iW M
 have nN:=iW N
 exact⟨lN (M:=M) (N:=N) (by lia) (by lia) (by lia) (by lia),lN (M:=M) (N:=N) (by lia) (by lia) (by lia) (by lia),lN (M:=N) (N:=M) (by lia) (by lia) (by lia) (by lia),lN (M:=M) (N:=N) (by lia) (by lia) (by lia) (by lia)⟩
theorem XH(hb:1<=b)(hb2:b<2 ^ M)(hM:M<=8900):Vz [.int a,.int b]=.ok (fT (red a b),false):=by
 have g:=J8 a b
 have np:=iW M
 obtain⟨g1,g2,_⟩:=ql (a:=a) (b:=b) (by lia)
 have c1:∀n,jd n ((Int.gcd a b:Nat):Int)=true:=λn=>Cp (M:=M) (by lia) (by lia) hM
 walk_at "d"
 unfold fT red
 rw[Int.fdiv_eq_ediv_of_nonneg _ (by lia),Int.fdiv_eq_ediv_of_nonneg _ (by lia)]
 rfl
theorem Cr{x y:Int × Int}{M N:Nat}(hx:Fq M x)(hy:Fq N y)(hM:M+N<=8900):Cg [fT x,fT y]=.ok (fT (bQ x y),false):=by
 obtain⟨c1,_,_,c2⟩:=mulC hx hy hM
 have p:=Int.mul_pos (a:=x.2) (b:=y.2) (by have:=hx.2.2.1; lia) (by have:=hy.2.2.1; lia)
 have e:=XH (a:=x.1*y.1) (b:=x.2*y.2) (M:=M+N) (by lia) (rm (by have:=hx.2.2.1; lia) hx.2.2.2.1 (by have:=hy.2.2.1; lia) hy.2.2.2.1) hM
 walk_at "d"
theorem ahK{x y:Int × Int}{M N:Nat}(hx:Fq M x)(hy:Fq N y)(hM:M+N<=8900):VJ [fT x,fT y]=.ok (fT (sumF x y),false):=by
 obtain⟨_,c1,c2,c3⟩:=mulC hx hy hM
 have p:=Int.mul_pos (a:=x.2) (b:=y.2) (by have:=hx.2.2.1; lia) (by have:=hy.2.2.1; lia)
 have e:=XH (a:=x.1*y.2+y.1*x.2) (b:=x.2*y.2) (M:=M+N) (by lia) (rm (by have:=hx.2.2.1; lia) hx.2.2.2.1 (by have:=hy.2.2.1; lia) hy.2.2.2.1) hM
 walk_at "d"
noncomputable def dU(ps:List ((Int × Int) × (Int × Int)))(t:Int × Int):Int × Int:=ps.foldl (λt p=>sumF t (bQ p.1 p.2)) t
noncomputable def eE(xs:LZ)(t:Int × Int):Int × Int:=xs.foldl bQ t
theorem Km:∀(ps:List ((Int × Int) × (Int × Int))) (t:Int × Int) (M:Nat),Fq M t->(∀p∈ps,Fq 45 p.1/\Fq 45 p.2)->Fq (M+91*ps.length) (dU ps t)
 | [],t,M,h,_=>h
 |p::ps,t,M,h,hp=>by
  have h1:=Kh (hp p (by simp)).1 (hp p (by simp)).2
  have h2:=ahI h h1
  have:=Km ps _ _ h2 λq hq=>hp q (by simp[hq])
  rw[show M+91*(p::ps).length=M+(45+45)+1+91*ps.length by rw[List.length_cons]; lia]
  exact this
theorem Ko:∀(ps:LZ) (t:Int × Int) (M:Nat),Fq M t->(∀p∈ps,Fq 45 p)->Fq (M+45*ps.length) (eE ps t)
 | [],t,M,h,_=>h
 |p::ps,t,M,h,hp=>by
  have h2:=Kh h (hp p (by simp))
  have:=Ko ps _ _ h2 λq hq=>hp q (by simp[hq])
  rw[show M+45*(p::ps).length=M+45+45*ps.length by rw[List.length_cons]; lia]
  exact this
theorem Wo.fq(h:Wo x):Fq 45 x:=by
 obtain⟨h1,h2,h3,h4,h5⟩:=h
 exact⟨h1,by lia,h3,by lia,h5⟩
theorem ahL(ws xs:LZ):lH (ws.map fT) (xs.map fT)=(ws.zip xs).map λp=>Tr.tup [fT p.1,fT p.2]:=by
 unfold lH
 rw[List.zip_map,List.map_map]
 rfl
theorem XJ:Fq 1 (0,1):=by unfold Fq; decide
theorem XM:Fq 1 (1,1):=by unfold Fq; decide
theorem XQ{ws xs:LZ}(hw:∀w∈ws,Fq 45 w)(hx:∀x∈xs,Fq 45 x):∀p∈ws.zip xs,Fq 45 p.1/\Fq 45 p.2:=λp hp=>⟨hw _ (List.of_mem_zip hp).1,hx _ (List.of_mem_zip hp).2⟩
theorem ahM{ws xs:LZ}(hw:∀w∈ws,Fq 45 w)(hx:∀x∈xs,Fq 45 x)(hl:xs.length<=12):Wu [aL ws,aL xs]=.ok (fT (dU (ws.zip xs) (0,1)),false):=by
 have hz:(ws.zip xs).length<=12:=by rw[List.length_zip]; lia
 have hq:=XQ hw hx
 walk_at "d"
 rw[ahL]
 refine pG [3,4] (λs:Int × Int=>[(2,.sh (fT s))]) (λk s=>s=dU ((ws.zip xs).take k) (0,1)) (0,1) rfl rfl (λk p v s hp hs=>?_) λv s hs=>?_
 .subst hs
  have hk:=(List.getElem?_eq_some_iff.mp hp).1
  obtain⟨p1,p2⟩:=hq p (List.mem_of_getElem? hp)
  have f:=Km ((ws.zip xs).take k) (0,1) 1 XJ λq m=>hq q (List.mem_of_mem_take m)
  rw[List.length_take]at f
  have e1:=Cr p1 p2 (by lia)
  have e2:=ahK f (Kh p1 p2) (by lia)
  walk_at "p"
  exact⟨_,by rw[List.take_add_one,hp]; unfold dU; rw[List.foldl_append]; rfl,exV rfl⟩
 .rw[List.take_length]at hs
  subst hs
  walk_at "p"
theorem ahN(hx:∀x∈xs,Fq 45 x)(hl:xs.length<=12):Wx [aL xs]=.ok (fT (eE xs (1,1)),false):=by
 unfold aL
 walk_at "d"
 refine pG [2] (λs:Int × Int=>[(1,.sh (fT s))]) (λk s=>s=eE (xs.take k) (1,1)) (1,1) rfl rfl (λk p v s hp hs=>?_) λv s hs=>?_
 .subst hs
  have hk:=(List.getElem?_eq_some_iff.mp hp).1
  have f:=Ko (xs.take k) (1,1) 1 XM λq m=>hx q (List.mem_of_mem_take m)
  rw[List.length_take]at f
  have e:=Cr f (hx p (List.mem_of_getElem? hp)) (by lia)
  walk_at "p"
  exact⟨_,by rw[List.take_add_one,hp]; unfold eE; rw[List.foldl_append]; rfl,exV rfl⟩
 .rw[List.take_length]at hs
  subst hs
  walk_at "p"
def cW(xs zs:LZ):Prop:=zs.Perm xs/\zs.Pairwise λa b=>le2 b a
def LT(xs:LZ):Prop:=∀x∈xs,1<=x.2/\Int.gcd x.1 x.2=1
theorem XR:∀{l m:LZ},LT l->l.Perm m->l.Pairwise (λa b=>le2 b a)->m.Pairwise (λa b=>le2 b a)->l=m
 | [],m,_,p,_,_=>by rw[List.nil_perm.mp p]
 |a::l,[],_,p,_,_=>by simpa using p.length_eq
 |a::l,b::m,hl,p,h1,h2=>by
  have h1':=List.pairwise_cons.mp h1
  have h2':=List.pairwise_cons.mp h2
  have e:a=b:=by
   rcases List.mem_cons.mp (p.mem_iff.mp (List.mem_cons_self ..))with z|z
   .exact z
   .rcases List.mem_cons.mp (p.mem_iff.mpr (List.mem_cons_self (a:=b)))with y|y
    .exact y.symm
    .have a1:=h1'.1 b y
     have a2:=h2'.1 a z
     have la:=hl a (by simp)
     have lb:=hl b (by simp[y])
     exact ahH la.1 lb.1 la.2 lb.2 a2 a1
  subst e
  rw[XR (λx hx=>hl x (by simp[hx])) p.cons_inv h1'.2 h2'.2]
theorem cW.uniq(h:LT xs)(a:cW xs l)(b:cW xs m):l=m:=XR (λx hx=>h x (a.1.mem_iff.mp hx)) (a.1.trans b.1.symm) a.2 b.2
theorem ahO(xs:LZ):(List.range xs.length).map (λi=>xs.getD i (0,1))=xs:=by
 apply List.ext_getElem
 .simp
 .intro i h1 h2
  simp[List.getD_eq_getElem?_getD,h2]
theorem Fall.dsc(h:Fall xs ys):cW xs (ys.map λi=>xs.getD i (0,1)):=by
 refine⟨?_,?_⟩
 .have:=h.1.map λi=>xs.getD i (0,1)
  rw[ahO]at this
  exact this
 .rw[List.pairwise_map]
  refine h.2.imp λ{i j} hb=>?_
  unfold lO at hb
  unfold le2
  lia
theorem XS:∀(xs:LZ) (i:Nat) (v:Int × Int),(∀x,xs[i]?=some x->p x=true->p v=true)->xs.countP p<=(xs.set i v).countP p
 | [],i,v,_=>by simp
 |x::xs,0,v,h=>by
  have:=h x (by simp)
  simp only[List.set_cons_zero,List.countP_cons]
  cases e:p x with
  |false=>simp
  |true=>rw[this e]; simp
 |x::xs,i+1,v,h=>by
  have:=XS xs i v λy hy=>h y (by simpa using hy)
  simp only[List.set_cons_succ,List.countP_cons]
  lia
theorem cW.mono{xs zs zs':LZ}{i:Nat}{v:Int × Int}(hx:LT xs)(hv:1<=v.2)(hi:∀x,xs[i]?=some x->le2 x v)(a:cW xs zs)(b:cW (xs.set i v) zs'){k:Nat}{z z':Int × Int}(hz:zs[k]?=some z)(hz':zs'[k]?=some z'):le2 z z':=by
 refine Classical.byContradiction λhn=>?_
 have hx':∀x∈xs.set i v,1<=x.2:=λx m=>by
  rcases List.mem_or_eq_of_mem_set m with m|rfl
  .exact(hx x m).1
  .exact hv
 have pz:1<=z.2:=(hx z (a.1.mem_iff.mp (List.mem_of_getElem? hz))).1
 have pz':1<=z'.2:=hx' z' (b.1.mem_iff.mp (List.mem_of_getElem? hz'))
 have hlt:aV z' z=true:=by
  cases e:aV z' z with
  |true=>rfl
  |false=>exact absurd (kj.mp e) hn
 obtain⟨hk,ek⟩:=List.getElem?_eq_some_iff.mp hz
 obtain⟨hk',ek'⟩:=List.getElem?_eq_some_iff.mp hz'
 have pw:=List.pairwise_iff_getElem.mp a.2
 have pw':=List.pairwise_iff_getElem.mp b.2
 have up:∀x:Int × Int,1<=x.2->le2 z x->aV z' x=true:=λx px h=>by
  cases e:aV z' x with
  |true=>rfl
  |false=>exact absurd (qZ pz px pz' h (kj.mp e)) hn
 have c1:k+1<=zs.countP (aV z'):=by
  rw[<-List.take_append_drop (k+1) zs,List.countP_append]
  have:(zs.take (k+1)).countP (aV z')=(zs.take (k+1)).length:=by
   rw[List.countP_eq_length]
   intro x m
   obtain⟨j,hj,rfl⟩:=List.getElem_of_mem m
   rw[List.getElem_take]
   have hj':j<k+1:=by rw[List.length_take]at hj; lia
   have jl:j<zs.length:=by lia
   refine up _ (hx _ (a.1.mem_iff.mp (List.getElem_mem jl))).1 ?_
   by_cases q:j=k
   .subst q; rw[ek]; exact iY _
   .have:=pw j k jl hk (by lia)
    rw[ek]at this
    exact this
  rw[this,List.length_take]
  lia
 have c2:zs'.countP (aV z')<=k:=by
  rw[<-List.take_append_drop k zs',List.countP_append]
  have:(zs'.drop k).countP (aV z')=0:=by
   rw[List.countP_eq_zero]
   intro x m hp
   obtain⟨j,hj,rfl⟩:=List.getElem_of_mem m
   rw[List.getElem_drop]at hp
   have jl:k+j<zs'.length:=by rw[List.length_drop]at hj; lia
   have:le2 zs'[k+j] z':=by
    by_cases q:j=0
    .subst q
     have:zs'[k+0]=z':=ek'
     rw[this]; exact iY _
    .have:=pw' k (k+j) hk' jl (by lia)
     rw[ek']at this
     exact this
   rw[kj.mpr this]at hp
   cases hp
  rw[this]
  have:=List.countP_le_length (p:=aV z') (l:=zs'.take k)
  rw[List.length_take]at this
  lia
 rw[a.1.countP_eq]at c1
 rw[b.1.countP_eq]at c2
 have:=XS (p:=aV z') xs i v λx hxi hp=>by
  cases e:aV z' v with
  |true=>rfl
  |false =>
   have px:=(hx x (List.mem_of_getElem? hxi)).1
   have:=qZ px hv pz' (hi x hxi) (kj.mp e)
   rw[kj.mpr this]at hp
   cases hp
 lia
theorem Kp:∀(ws xs:LZ) (i:Nat) (v t t':Int × Int),(∀w∈ws,Fq 45 w)->(∀x∈xs,1<=x.2)->1<=v.2->(∀x,xs[i]?=some x->le2 x v)->1<=t.2->1<=t'.2->le2 t t'->le2 (dU (ws.zip xs) t) (dU (ws.zip (xs.set i v)) t')
 | [],xs,i,v,t,t',_,_,_,_,_,_,h=>by simpa[dU]using h
 |w::ws,[],i,v,t,t',_,_,_,_,_,_,h=>by simpa[dU]using h
 |w::ws,x::xs,i,v,t,t',hw,hx,hv,hi,ht,ht',h=>by
  have fw:=hw w (by simp)
  have px:=hx x (by simp)
  have rp:∀y:Int × Int,1<=y.2->1<=(bQ w y).2:=λy py=>(jL (a:=w.1*y.1) (by have:=Int.mul_pos (a:=w.2) (b:=y.2) (by have:=fw.2.2.1; lia) (by lia); lia)).2.1
  have sp:∀s y:Int × Int,1<=s.2->1<=y.2->1<=(sumF s y).2:=λs y ps py=>(jL (a:=s.1*y.2+y.1*s.2) (by have:=Int.mul_pos (a:=s.2) (b:=y.2) (by lia) (by lia); lia)).2.1
  cases i with
  |zero =>
   have lx:=hi x (by simp)
   show le2 (dU (ws.zip xs) (sumF t (bQ w x))) (dU (ws.zip xs) (sumF t' (bQ w v)))
   have:=Kp ws xs xs.length v (sumF t (bQ w x)) (sumF t' (bQ w v)) (λy hy=>hw y (by simp[hy])) (λy hy=>hx y (by simp[hy])) hv (λy hy=>by simp at hy) (sp _ _ ht (rp x px)) (sp _ _ ht' (rp v hv)) (XF ht ht' (rp x px) (rp v hv) h (ahJ fw.1 fw.2.2.1 px hv lx))
   rw[List.set_eq_of_length_le (by lia)]at this
   exact this
  |succ i =>
   show le2 (dU (ws.zip xs) (sumF t (bQ w x))) (dU (ws.zip (xs.set i v)) (sumF t' (bQ w x)))
   exact Kp ws xs i v _ _ (λy hy=>hw y (by simp[hy])) (λy hy=>hx y (by simp[hy])) hv (λy hy=>hi y (by simpa using hy)) (sp _ _ ht (rp x px)) (sp _ _ ht' (rp x px)) (XF ht ht' (rp x px) (rp x px) h (iY _))
theorem Kq:∀(xs:LZ) (i:Nat) (v t t':Int × Int),(∀x∈xs,1<=x.2/\0<=x.1)->1<=v.2->0<=v.1->(∀x,xs[i]?=some x->le2 x v)->1<=t.2->0<=t.1->1<=t'.2->0<=t'.1->le2 t t'->le2 (eE xs t) (eE (xs.set i v) t')
 | [],i,v,t,t',_,_,_,_,_,_,_,_,h=>by simpa[eE]using h
 |x::xs,i,v,t,t',hx,hv,hv0,hi,ht,ht0,ht',Cu,h=>by
  obtain⟨px,um⟩:=hx x (by simp)
  have rp:∀s y:Int × Int,1<=s.2->0<=s.1->1<=y.2->0<=y.1->1<=(bQ s y).2/\0<=(bQ s y).1:=λs y ps ps0 py py0=>by
   have m:=Int.mul_pos (a:=s.2) (b:=y.2) (by lia) (by lia)
   refine⟨(jL (a:=s.1*y.1) (by lia)).2.1,?_⟩
   exact Int.ediv_nonneg (Int.mul_nonneg ps0 py0) (by lia)
  cases i with
  |zero =>
   have lx:=hi x (by simp)
   show le2 (eE xs (bQ t x)) (eE xs (bQ t' v))
   have a:=rp t x ht ht0 px um
   have b:=rp t' v ht' Cu hv hv0
   have:=Kq xs xs.length v (bQ t x) (bQ t' v) (λy hy=>hx y (by simp[hy])) hv hv0 (λy hy=>by simp at hy) a.1 a.2 b.1 b.2 (XD ht0 ht Cu ht' um hv0 px hv h lx)
   rw[List.set_eq_of_length_le (by lia)]at this
   exact this
  |succ i =>
   have a:=rp t x ht ht0 px um
   have b:=rp t' x ht' Cu px um
   show le2 (eE xs (bQ t x)) (eE (xs.set i v) (bQ t' x))
   exact Kq xs i v _ _ (λy hy=>hx y (by simp[hy])) hv hv0 (λy hy=>hi y (by simpa using hy)) a.1 a.2 b.1 b.2 (XD ht0 ht Cu ht' um um px px h (iY _))
inductive Ru where
 |sh (ws:LZ)|mid (k:Nat)|least|greatest|product
noncomputable def bw:Ru->Tr
 |.sh ws=>.tup [.str "shares",aL ws]
 |.mid k=>.tup [.str "middle",.int k]
 |.least=>.tup [.str "least"]
 |.greatest=>.tup [.str "greatest"]
 |.product=>.tup [.str "product"]
def bG(n:Nat):Ru->Prop
 |.sh ws=>ws.length=n/\∀w∈ws,Fq 45 w
 |.mid k=>1<=k/\k<=n
 |_=>True
theorem ahP{M:Nat}{ws:LZ}(hw:∀w∈ws,Fq M w)(hl:ws.length<=12):Wn [aL ws,.int ws.length]=.ok (.bl true,false):=by
 have ty:rW (aL ws) .list=true:=rfl
 walk_at "d"
 exact Xw (hw x hx).2.2.1 (hw x hx).2.2.2.2
 walk_at "r"
 rw[List.map_congr_left (g:=λ_=>Tr.bl true) λx hx=>by rw[decide_eq_true (hw x hx).1]]
 exact all_true ws
 walk_at "r"
theorem Kr(h:T=.tup [.str "least"]∨T=.tup [.str "greatest"]∨T=.tup [.str "product"]):jX id T (.tup [(.tup [(.str "least")]),(.tup [(.str "greatest")]),(.tup [(.str "product")])])=.ok (.bl true,false):=by
 rcases h with rfl|rfl|rfl <;> kernel_rfl
theorem ahQ(h:bG n r)(hn:n<=12):Ws [bw r,.int n]=.ok (.bl true,false):=by
 have e1:=Kr (.inl rfl)
 have e2:=Kr (.inr (.inl rfl))
 have e3:=Kr (.inr (.inr rfl))
 cases r <;> dsimp only[bw,bG]at *
 case sh ws =>
  obtain⟨h1,h2⟩:=h
  subst h1
  have e:=ahP h2 hn
  walk_at "d"
 case mid k =>
  have w:=xH (i:=k)
  walk_at "d"
  exact congrArg (λb=>Rs.ok (Tr.bl b,false)) (decide_eq_true (by lia))
 all_goals walk_at "d"
noncomputable def fJ(n:Nat):Ru->Nat
 |.mid k=>k
 |.least=>n
 |.greatest=>1
 |_=>0
def Wv(r:Ru)(xs:LZ)(v:Int × Int):Prop:=match r with
 |.sh ws=>v=dU (ws.zip xs) (0,1)
 |.product=>v=eE xs (1,1)
 |r=>∃zs,cW xs zs/\zs[fJ xs.length r-1]?=some v
noncomputable def placed:Ru->Bool
 |.mid _=>true
 |.least=>true
 |.greatest=>true
 |_=>false
theorem ahR{n:Nat}(h:placed r=true):Wz [bw r,.int n]=.ok (.int (fJ n r:Nat),false):=by
 cases r <;> first|cases h; done|(dsimp only[bw,fJ]; walk_at "d"; done)
theorem X3(h:placed r=true)(ho:bG n r)(hn:1<=n):1<=fJ n r/\fJ n r<=n:=by
 cases r with
 |sh ws=>cases h
 |product=>cases h
 |least=>exact⟨hn,Nat.le_refl _⟩
 |greatest=>exact⟨Nat.le_refl _,hn⟩
 |mid k=>exact ho
theorem Fq.frs(h:∀x∈l,Fq 45 x):Frs 45 l:=λx hx=>by
 obtain⟨h1,h2,h3,h4,_⟩:=h x hx
 have:=iW 45
 exact⟨h3,h4,by lia⟩
theorem X4{xs:LZ}(hq:∀x∈xs,Fq 45 x)(h1:1<=xs.length)(h2:xs.length<=12)(ho:bG xs.length r):∃v,iu [bw r,aL xs]=.ok (fT v,false)/\Wv r xs v:=by
 have pl:placed r=true->∃v,iu [bw r,aL xs]=.ok (fT v,false)/\∃zs,cW xs zs/\zs[fJ xs.length r-1]?=some v:=λhp=>by
  obtain⟨ys,ef,hf⟩:=Kc (N:=45) xs (Fq.frs hq) (by lia) (by lia) (by lia)
  have pr:=X3 hp ho h1
  have ep:=ahR (n:=xs.length) hp
  have ly:ys.length=xs.length:=by have:=hf.1.length_eq; simpa using this
  obtain⟨i,hi⟩:∃i,ys[fJ xs.length r-1]?=some i:=⟨_,List.getElem?_eq_getElem (by lia)⟩
  have il:i<xs.length:=by simpa using hf.1.mem_iff.mp (List.mem_of_getElem? hi)
  refine⟨xs.getD i (0,1),?_,_,hf.dsc,by rw[List.getElem?_map,hi]; rfl⟩
  have g:aZ (.lst (ys.map λi:Nat=>Tr.int i)) (.int ((fJ xs.length r:Nat)-1:Int))=.ok (.int (i:Int),false):=by
   rw[show((fJ xs.length r:Nat)-1:Int)=((fJ xs.length r-1:Nat):Int) by lia]
   exact nA (by rw[List.getElem?_map,hi]; rfl)
  cases r <;> first|cases hp; done|(dsimp only[bw]at *; walk_at "d"; done)
 cases r with
 |sh ws =>
  have e:=ahM ho.2 hq h2
  refine⟨_,?_,rfl⟩
  dsimp only[bw]
  walk_at "d"
 |product =>
  have e:=ahN hq h2
  refine⟨_,?_,rfl⟩
  dsimp only[bw]
  walk_at "d"
 |least=>exact pl rfl
 |greatest=>exact pl rfl
 |mid k=>exact pl rfl
theorem ahS(hx:∀x∈xs,Wo x)(h1:1<=xs.length)(h2:xs.length<=12)(ho:bG xs.length r):∃v,iu [bw r,aL xs]=.ok (fT v,false)/\Wv r xs v:=X4 (λx m=>(hx x m).fq) h1 h2 ho
theorem ahT(hx:∀x∈xs,Wo x):LT xs:=λx m=>⟨(hx x m).2.2.1,(hx x m).2.2.2.2⟩
theorem Wv.uniq(hx:LT xs)(a:Wv r xs v)(b:Wv r xs v'):v=v':=by
 cases r with
 |sh ws=>exact a.trans b.symm
 |product=>exact a.trans b.symm
 |least =>
  obtain⟨z,d,e⟩:=a
  obtain⟨z',d',e'⟩:=b
  rw[d.uniq hx d',e']at e
  exact(Option.some.inj e).symm
 |greatest =>
  obtain⟨z,d,e⟩:=a
  obtain⟨z',d',e'⟩:=b
  rw[d.uniq hx d',e']at e
  exact(Option.some.inj e).symm
 |mid k =>
  obtain⟨z,d,e⟩:=a
  obtain⟨z',d',e'⟩:=b
  rw[d.uniq hx d',e']at e
  exact(Option.some.inj e).symm
theorem Fq.up(h:Fq M x)(hl:M<=N):Fq N x:=by
 obtain⟨h1,h2,h3,h4,h5⟩:=h
 have:(2:Int) ^ M<=2 ^ N:=by
  have:=Nat.pow_le_pow_right (n:=2) (by lia) hl
  have a:=iW M
  have b:=iW N
  lia
 exact⟨h1,by lia,h3,by lia,h5⟩
theorem Wv.X5(hq:∀x∈xs,Fq 45 x)(hl:xs.length<=4)(ho:bG xs.length r)(a:Wv r xs v):Fq 400 v:=by
 have pl:(∃zs,cW xs zs/\zs[fJ xs.length r-1]?=some v)->Fq 400 v:=λ⟨z,d,e⟩=>(hq v (d.1.mem_iff.mp (List.mem_of_getElem? e))).up (by lia)
 cases r with
 |sh ws =>
  have a:v=dU (ws.zip xs) (0,1):=a
  rw[a]
  exact(Km _ _ 1 XJ (XQ ho.2 hq)).up (by rw[List.length_zip]; lia)
 |product =>
  have a:v=eE xs (1,1):=a
  rw[a]
  exact(Ko _ _ 1 XM hq).up (by lia)
 |least=>exact pl a
 |greatest=>exact pl a
 |mid k=>exact pl a
theorem Wv.fq(hx:∀x∈xs,Wo x)(hl:xs.length<=4)(ho:bG xs.length r)(a:Wv r xs v):Fq 400 v:=Wv.X5 (λx m=>(hx x m).fq) hl ho a
def Fx(x:Int × Int):Prop:=0<=x.1/\1<=x.2/\Int.gcd x.1 x.2=1
theorem Fq.fx(h:Fq M x):Fx x:=⟨h.1,h.2.2.1,h.2.2.2.2⟩
theorem Wo.fx(h:Wo x):Fx x:=⟨h.1,h.2.2.1,h.2.2.2.2⟩
theorem X6(ha:0<=a)(hb:1<=b):Fx (red a b):=by
 obtain⟨_,_,g3,g4,g5,_⟩:=ql (a:=a) (b:=b) (by lia)
 exact⟨g5 ha,g3,g4⟩
theorem X7{a b:Int}(ha:1<=a)(hb:1<=b):1<=a*b:=Int.mul_pos (by lia) (by lia)
theorem X8(hx:Fx x)(hy:Fx y):Fx (bQ x y):=X6 (Int.mul_nonneg hx.1 hy.1) (X7 hx.2.1 hy.2.1)
theorem ahU(hx:Fx x)(hy:Fx y):Fx (sumF x y):=X6 (Int.add_nonneg (Int.mul_nonneg hx.1 (by have:=hy.2.1; lia)) (Int.mul_nonneg hy.1 (by have:=hx.2.1; lia))) (X7 hx.2.1 hy.2.1)
theorem Yb(hx:∀x∈xs,Fx x):LT xs:=λx m=>⟨(hx x m).2.1,(hx x m).2.2⟩
theorem Wv.mono(hx:∀x∈xs,Fx x)(hu:Fx u)(hi:∀x,xs[i]?=some x->le2 x u)(ho:bG xs.length r)(a:Wv r xs v)(b:Wv r (xs.set i u) v'):le2 v v':=by
 have pl:(∃zs,cW xs zs/\zs[fJ xs.length r-1]?=some v)->(∃zs,cW (xs.set i u) zs/\zs[fJ (xs.set i u).length r-1]?=some v')->le2 v v':=λ⟨z,d,e⟩ ⟨z',d',e'⟩=>by
  rw[List.length_set]at e'
  exact d.mono (Yb hx) hu.2.1 hi d' e e'
 cases r with
 |sh ws =>
  have a:v=dU (ws.zip xs) (0,1):=a
  have b:v'=dU (ws.zip (xs.set i u)) (0,1):=b
  rw[a,b]
  exact Kp ws xs i u _ _ ho.2 (λx m=>(hx x m).2.1) hu.2.1 hi (by decide) (by decide) (iY _)
 |product =>
  have a:v=eE xs (1,1):=a
  have b:v'=eE (xs.set i u) (1,1):=b
  rw[a,b]
  exact Kq xs i u _ _ (λx m=>⟨(hx x m).2.1,(hx x m).1⟩) hu.2.1 hu.1 hi (by decide) (by decide) (by decide) (by decide) (iY _)
 |least=>exact pl a b
 |greatest=>exact pl a b
 |mid k=>exact pl a b
noncomputable abbrev Yc:=(bC (sO 3 (aE (f9 ao))) (bC (sN (sF (iZ3 (ak (aj 0) (ak (W9 (ak (aj 0) ao)) (ak (aj 1) ao)))) (fQ 3 (bK (gV 4) (bK (gV 5) (bK (gV 6) fP)))) (b1 (jm (wZ 3 (ak (Ah (tK (aW uc (aj 6) (vC (.int 0)))) (aG (aj 4) (aG (aj 5) (BW (aj 6) (vC (.int 1))))) (aj 2)) ao)))))) (b1 (aH (aj 3)))))
noncomputable abbrev ahV:SF:=by exists Yc
noncomputable def Ks:FP:=aN 7 ahV
noncomputable abbrev Yd{f:AF}(a:VA f):=vF "last_worths" ["book", "depths", "one"] Ks 6 a
noncomputable abbrev Ye:=(b1 (aH (ahs (ak (aj 1) (ak (ahq (ak (aj 0) (ak (aj 2) ao))) (ak (Yd (ak (aj 0) (ak (aG (aj 2) (vC (.int 0))) (ak (aj 3) ao)))) ao))))))
noncomputable abbrev ahW:SF:=by exists Ye
noncomputable def Ku:FP:=aN 4 ahW
noncomputable abbrev ahX{f:AF}(a:VA f):=vF "bounds_of" ["book", "rule", "looks", "one"] Ku 7 a
noncomputable abbrev Yg:=(bC (sA 2 (aE (d8 (ak (J5 (ak (vC2 [none,none] ["row", "worth"] (cu (aj 0)) (gV 0) (cu (aj 0)) (gV 1) (aj 1)) ao)) (ak (vC (.int 1)) ao))))) (bC (sA 3 (cC [none,some 2] ["row", "one"] (cu (aj 0)) (gV 0) (gh (cC [none,some 1] ["worth", "one"] (cu (aj 0)) (gV 0) (Ci (ak (aj 0) (ak (aj 1) ao))))))) (bC (sI (tK (aW m9 (aG (aj 1) (vC (.int 0))) (vC (.str "shares")))) (b1 (aH (d8 (ak (aj 3) (ak (aj 1) (ak (aj 2) ao)))))) b0) (bC (sA 4 (aE (d8 (ak (J5 (ak (aG (aj 1) (vC (.int 1))) ao)) (ak (vC (.int 1)) ao))))) (b1 (aH (d8 (ak (aj 3) (ak (d8 (ak (vC (.str "shares")) (ak (gh (cC [none,some 4] ["weight", "factor"] (cu (aG (aj 1) (vC (.int 1)))) (gV 0) (Ci (ak (aj 0) (ak (aj 1) ao))))) ao))) (ak (aj 2) ao))))))))))
noncomputable abbrev ahY:SF:=by exists Yg
noncomputable def pJ:FP:=aN 5 ahY
noncomputable abbrev Cv{f:AF}(a:VA f):=vF "whole_form" ["book", "rule"] pJ 4 a
noncomputable abbrev Yh:=(bC (sA 1 (aE (J7 (ak (gh (cC [none,none] ["low", "high"] (cu (aj 0)) (fQ 2 (bK (gV 0) (bK (gV 1) fP))) (aj 0))) ao)))) (bC (sA 2 (aE (J7 (ak (gh (cC [none,none] ["low", "high"] (cu (aj 0)) (fQ 2 (bK (gV 0) (bK (gV 1) fP))) (aj 1))) ao)))) (b1 (aH (Uz kyP "order_of_bounds" "thing" ["lows", "highs"] [some 1,some 2] (ak (bR (ak (aj 0) ao)) ao) (lPr (Jm (Jl (tX 1) (tX 0))) (Jm (Jl (tX 2) (tX 0)))))))))
noncomputable abbrev ahZ:SF:=by exists Yh
noncomputable def xJ:FP:=aN 3 ahZ
noncomputable abbrev Cw{f:AF}(a:VA f):=vF "order_of_bounds" ["bounds"] xJ 4 a
noncomputable abbrev Yi:=(bC (sO 2 (aE (agp (ak (Hy (Cw (ak (aj 0) ao)) oN (oS (aj 1))) ao)))) (b1 (aH (Ah (dO (ahw (ak (aj 0) (ak (aj 2) ao)))) (aj 2) (vC .non)))))
noncomputable abbrev ah0:SF:=by exists Yi
noncomputable def Yj:FP:=aN 3 ah0
noncomputable abbrev ah1{f:AF}(a:VA f):=vF "sure_by" ["bounds", "count"] Yj 7 a
noncomputable abbrev Yk:=(bC (qJ (aj 0) (fQ 3 (bK (gV 3) (bK (gV 4) (bK (gV 5) fP))))) (b1 (aH (ah1 (ak (ahX (ak (aj 3) (ak (aj 4) (ak (aj 2) (ak (aj 5) ao))))) (ak (aj 1) ao))))))
noncomputable abbrev ah2:SF:=by exists Yk
noncomputable def iw:FP:=aN 6 ah2
noncomputable abbrev xK{f:AF}(a:VA f):=vF "sure_in" ["form", "count", "looks"] iw 8 a
noncomputable abbrev Yl:=(bC (jm (Cj (ak (aj 0) (ak (aj 1) (ak (aj 2) ao))))) (bC (jm (aho (ak (aj 0) (ak (aj 3) ao)))) (b1 (aH (xK (ak (Cv (ak (aj 0) (ak (aj 1) ao))) (ak (aj 2) (ak (aj 3) ao))))))))
noncomputable abbrev ah3:SF:=by exists Yl
noncomputable def uo:FP:=aN 4 ah3
noncomputable abbrev Ym{f:AF}(a:VA f):=vF "sure_few" ["book", "rule", "count", "looks"] uo 9 a
noncomputable abbrev iT(i:Nat):Tr:=.int (i:Nat)
noncomputable def pT(p:Nat × Nat):Tr:=.tup [iT p.1,iT p.2]
def Lx(p q:Nat × Nat):Prop:=p.1<q.1\/(p.1=q.1/\p.2<q.2)
noncomputable def jw(ds:List Nat)(as:List (Nat × Nat)):Tr:=.tup [.lst (ds.map iT),.lst (as.map pT)]
def Lk(n m:Nat)(ds:List Nat)(as:List (Nat × Nat)):Prop:=ds.length=n/\(∀d∈ds,d<=m)/\as.Pairwise Lx/\as.length<=48/\∀p∈as,p.1<n/\p.2<m
theorem count_eq(h:d<=m):WX [iT d,.int (m:Nat)]=.ok (.bl true,false):=by
 have e:=xH (i:=d)
 walk_at "d"
 exact congrArg (λb=>Rs.ok (Tr.bl b,false)) (decide_eq_true (by lia))
theorem ah4{n m:Nat}{ds:List Nat}(h1:ds.length=n)(hd:∀d∈ds,d<=m)(hn:n<=1000):Xb [.lst (ds.map iT),.int (n:Nat),.int (m:Nat)]=.ok (.bl true,false):=by
 subst h1
 walk_at "d"
 exact count_eq (hd x hx)
 walk_at "r"
 exact all_true ds
 walk_at "r"
theorem ah5(h:Lx p q):sE (pT p) (pT q)=.ok (.bl true,false):=by
 show Rs.ok (Tr.bl (HT.lexLt [((p.1:Nat):Int),((p.2:Nat):Int)] [((q.1:Nat):Int),((q.2:Nat):Int)]),false)=_
 have:HT.lexLt [((p.1:Nat):Int),((p.2:Nat):Int)] [((q.1:Nat):Int),((q.2:Nat):Int)]=true:=by
  unfold Lx at h
  unfold HT.lexLt
  rcases h with h|⟨h,h'⟩
  .have:(p.1:Int)<q.1:=by lia
   have n:¬(p.1:Int)=q.1:=by lia
   simp[this,n]
  .rw[h]
   have:(p.2:Int)<q.2:=by lia
   have n:¬(p.2:Int)=q.2:=by lia
   simp[HT.lexLt,this,n]
 rw[this]
theorem ah6(h1:p.1<n)(h2:p.2<m):Xd [pT p,.int (n:Nat),.int (m:Nat)]=.ok (.bl true,false):=by
 have e1:=Xx p.1 n
 have e2:=Xx p.2 m
 rw[show(decide ((0:Int)<=p.1)&&decide ((p.1:Int)<n))=true by simp; lia]at e1
 rw[show(decide ((0:Int)<=p.2)&&decide ((p.2:Int)<m))=true by simp; lia]at e2
 walk_at "d"
theorem Yn:∀{as:List (Nat × Nat)},as.Pairwise Lx->∀z∈as.zip (as.drop 1),Lx z.1 z.2
 | [],_,z,hz=>by cases hz
 | [a],_,z,hz=>by cases hz
 |a::b::as,h,z,hz=>by
  rw[List.drop_one,List.tail_cons,List.zip_cons_cons]at hz
  rcases List.mem_cons.mp hz with rfl|hz
  .exact(List.pairwise_cons.mp h).1 b (List.mem_cons_self ..)
  .exact Yn (as:=b::as) (List.pairwise_cons.mp h).2 z (by rw[List.drop_one,List.tail_cons]; exact hz)
theorem ah7{as:List (Nat × Nat)}(h:as.Pairwise Lx)(hl:as.length<=48):W6 [.lst (as.map pT)]=.ok (.bl true,false):=by
 have ez:lH (as.map pT) ((as.map pT).drop 1)=(as.zip (as.drop 1)).map λz=>Tr.tup [pT z.1,pT z.2]:=by
  unfold lH
  rw[<-List.map_drop,List.zip_map,List.map_map]
  rfl
 have ec:kW (some 1) none (.lst (as.map pT))=.ok (.lst ((as.map pT).drop 1),true):=congrArg (λL=>Rs.ok (Tr.lst L,true)) (ahE (as.map pT) 1)
 walk_at "d"
 exact ah5 (Yn h x hx)
 rw[List.length_zip]; lia
 walk_at "r"
 exact all_true _
 walk_at "r"
theorem ah8{n m:Nat}{as:List (Nat × Nat)}(h:as.Pairwise Lx)(hl:as.length<=48)(hp:∀p∈as,p.1<n/\p.2<m):Xf [.lst (as.map pT),.int (n:Nat),.int (m:Nat)]=.ok (.bl true,false):=by
 have e:=ah7 h hl
 walk_at "d"
 exact ah6 (hp x hx).1 (hp x hx).2
 walk_at "r"
 exact all_true as
 walk_at "r"
theorem ah9{m:Nat}{rows:List (LZ)}{ds:List Nat}{as:List (Nat × Nat)}(hB:Bk m rows)(hL:Lk rows.length m ds as):Xh [aX rows,jw ds as]=.ok (.non,false):=by
 obtain⟨b1,b2,b3,b4,b5⟩:=hB
 obtain⟨l1,l2,l3,l4,l5⟩:=hL
 have e1:=ah4 l1 l2 (by lia)
 have e2:=ah8 l3 l4 l5
 have el:=pW rows
 have hl:rows[0]?=some rows[0]:=List.getElem?_eq_getElem b1
 have e0:aZ (aX rows) (.int 0)=.ok (aL rows[0],false):=Xu hl
 have J9:=lU rows[0]
 rw[(b5 _ (List.mem_of_getElem? hl)).1]at J9
 walk_at "d"
theorem Ky(a b:Nat):eqT (iT a) (iT b)=decide (a=b):=by
 unfold iT eqT
 by_cases h:a=b
 .subst h; simp
 .have:¬(a:Int)=b:=by lia
  simp[h,this]
theorem aia(p q:Nat × Nat):eqT (pT p) (pT q)=decide (p=q):=by
 unfold pT
 rw[show eqT (.tup [iT p.1,iT p.2]) (.tup [iT q.1,iT q.2])=(eqT (iT p.1) (iT q.1)&&(eqT (iT p.2) (iT q.2)&&true))from rfl,Ky,Ky]
 obtain⟨a,b⟩:=p
 obtain⟨c,d⟩:=q
 by_cases h:a=c <;> by_cases h':b=d <;> simp[h,h']
theorem Kz:∀zs:List Nat,deps (zs.map iT)=0
 | []=>rfl
 |z::zs=>by
  rw[List.map_cons]
  unfold deps
  rw[Kz zs]
  rfl
theorem Yo(p:Nat × Nat):dep (pT p)=1:=rfl
theorem Yp:∀zs:List (Nat × Nat),deps (zs.map pT)<=1
 | []=>Nat.zero_le _
 |z::zs=>by
  rw[List.map_cons]
  unfold deps
  rw[Yo]
  have:=Yp zs
  lia
theorem Yq{α : Type} [DecidableEq α](t : α):∀zs:List α,(zs.any λz=>decide (z=t))=decide (t∈zs)
 | []=>rfl
 |z::zs=>by
  rw[List.any_cons,Yq t zs]
  by_cases h:z=t
  .subst h; simp
  .have:t≠z:=λe=>h e.symm
   simp[h,this]
theorem Oi(f:Bool->Bool)(t:Nat)(zs:List Nat):jX f (iT t) (.lst (zs.map iT))=.ok (.bl (f (decide (t∈zs))),false):=by
 show(if deps (zs.map iT)<=40/\dep (iT t)<=40 then Rs.ok (Tr.bl (f (lu (iT t) (zs.map iT))),false)else .bad)=_
 rw[if_pos ⟨by rw[Kz]; lia,by show 0<=40; lia⟩]
 unfold lu
 rw[List.any_map,<-Yq]
 simp only[Function.comp_def,Ky]
theorem aib(f:Bool->Bool)(t:Nat × Nat)(zs:List (Nat × Nat)):jX f (pT t) (.lst (zs.map pT))=.ok (.bl (f (decide (t∈zs))),false):=by
 show(if deps (zs.map pT)<=40/\dep (pT t)<=40 then Rs.ok (Tr.bl (f (lu (pT t) (zs.map pT))),false)else .bad)=_
 rw[if_pos ⟨by have:=Yp zs; lia,by rw[Yo]; lia⟩]
 have e:lu (pT t) (zs.map pT)=decide (t∈zs):=by
  unfold lu
  rw[List.any_map,Bool.eq_iff_iff,List.any_eq_true,decide_eq_true_eq]
  refine⟨λ⟨z,hz,e⟩=>?_,λh=>⟨t,h,yS _⟩⟩
  have e:eqT (pT z) (pT t)=true:=e
  rw[aia,decide_eq_true_eq]at e
  exact e▸hz
 rw[e]
noncomputable def eX(b:Bool)(x:Int × Int):Tr:=if b=true then fT x else .non
noncomputable def gr(l:LZ)(s:Nat->Bool):List Tr:=(List.range l.length).map λt=>eX (s t) (l.getD t (0,1))
noncomputable def gs(rows:List (LZ))(s:Nat->Nat->Bool):List Tr:=(List.range rows.length).map λk=>.lst (gr (rows.getD k []) (s k))
theorem aic:(gr l s).set t (fT (l.getD t (0,1)))=gr l λt'=>s t' || decide (t'=t):=by
 refine List.ext_getElem? λi=>?_
 unfold gr
 rw[List.getElem?_set,List.getElem?_map,List.getElem?_map]
 by_cases h:t=i
 .subst h
  by_cases z:t<l.length <;> simp[z,eX]
 .have h':¬i=t:=λe=>h e.symm
  by_cases z:i<l.length <;> simp[h,h',z]
theorem Yr:(gs rows s).set k (.lst ((gr (rows.getD k []) (s k)).set t (fT ((rows.getD k []).getD t (0,1)))))=gs rows λk' t'=>s k' t' || (decide (k'=k)&&decide (t'=t)):=by
 rw[aic]
 refine List.ext_getElem? λi=>?_
 unfold gs
 rw[List.getElem?_set,List.getElem?_map,List.getElem?_map]
 by_cases h:k=i
 .subst h
  by_cases z:k<rows.length <;> simp[z]
 .have h':¬i=k:=λe=>h e.symm
  by_cases z:i<rows.length <;> simp[h,h',z]
end BH
end
section
namespace L2
open PySem
def WD(r:Rs Tr)(Q:Tr->Prop):Prop:=∃T,r=.ok T/\Q T
noncomputable def cD(fl:Fl)(g:DF)(ρ : En):Rs Tr:=match fl with
 |.nx=>g ρ
 |.rt T false=>if bA T=true then .ok T else .bad
 |_=>.bad
section
variable {ρ ρ1 ρ2:En}{fa fe:EF}{aa:AF}{fi:IF}{f:WF}{ga:WA}{s:SF}{g:DF}{T:Tr}{us ts as Ts:List Tr}{ps:List Rv}{b:Bool}{i m n:Nat}{Q:Fl->En->Prop}{P:Tr->Prop}{F:FP}{z:Tr × Bool}
theorem Ys{β : Type}{t : β -> Tr}{h : β -> List Tr}{xs:List β}(hf:∀x∈xs,fe [.sh (t x)]=.ok (.v (.lst (h x)) true,[.sh (t x)]))(hn:∀x∈xs,cg (h x)=true):∃s',lK (gN 0) gq fe (xs.map t) [.un]=.ok (xs.map λx=>.lst (h x),[s']):=by
 have go:∀(ys:List β) (s:Sl),(∀x∈ys,x∈xs)->∃s',lK (gN 0) gq fe (ys.map t) [s]=.ok (ys.map λx=>.lst (h x),[s']):=λys=>by
  induction ys with
  |nil=>exact λs _=>⟨s,rfl⟩
  |cons y ys ih =>
   intro s m
   obtain⟨s',e'⟩:=ih (.sh (t y)) λx hx=>m x (List.mem_cons_of_mem _ hx)
   exact⟨s',bk (a:=[.sh (t y)]) rfl (bk rfl ((if_pos rfl).trans (bk (hf y (m y (List.mem_cons_self ..))) (bk (show tR (.v (.lst (h y)) true)=.ok (.lst (h y))from if_pos (hn y (m y (List.mem_cons_self ..)))) (bk e' rfl)))))⟩
 exact go xs .un λ_ h=>h
theorem Nv(h:fa ρ=.ok (.v T b,ρ1))(n:fM (T,b)=true):Vf fa ρ=.ok (T,ρ1):=bk h (if_pos n)
theorem N5(h : ρ[i]?=some (.dp ts))(e : ρ.set i .un = ρ1):nW i ρ=.ok (.lst ts,ρ1):=by subst e; unfold nW; rw[h]
theorem N6(h : ρ[i]?=some (.ow ts))(n:cg ts=true)(e : ρ.set i .un = ρ1):nW i ρ=.ok (.lst ts,ρ1):=by subst e; unfold nW; rw[h]; exact if_pos n
theorem Nx(h:f ρ=.ok (T,ρ1))(k:ga ρ1=.ok (Ts,ρ2)):Vg f ga ρ=.ok (T::Ts,ρ2):=bk h (bk k rfl)
theorem Ny(h:ga ρ=.ok (Ts,ρ1))(l:Ts.length<=1000):Vh ga ρ=.ok (.tup Ts,ρ1):=bk h (if_pos l)
theorem Nz(h:ga ρ=.ok (Ts,ρ1))(l:Ts.length<=1000):yLs ga ρ=.ok (.lst Ts,ρ1):=bk h (if_pos l)
theorem xCD(h:aa ρ=.ok (ps,ρ1))(k:drs ρ1 ps=.ok as)(e:F as=.ok (T,b)):ug F aa ρ=.ok (T,ρ1):=bk h (bk k (bk e rfl))
theorem NK(e:vw ρ = ρ2)(h:f ρ2=.ok (T,ρ1)):JM f ρ=.ok (T,ρ):=by subst e; unfold JM; rw[h]; rfl
theorem NP{β : Type}{t : β -> Tr}{h : β -> List Tr}{xs:List β}(hi:fi ρ=.ok (us,ρ))(hu:us=xs.map t)(hf:∀x∈xs,fe [.sh (t x)]=.ok (.v (.lst (h x)) true,[.sh (t x)]))(hn:∀x∈xs,cg (h x)=true)(hl:xs.length<=100000):yCm [none] fi (gN 0) fe ρ=.ok (.lst (xs.map λx=>.lst (h x)),ρ):=by
 subst hu
 obtain⟨s',e'⟩:=Ys hf hn
 exact bk hi ((if_pos (by rw[List.length_map]; exact hl)).trans (bk (show dw (lK _ _ _ _ [.un])=_ by rw[e']; rfl) (if_pos rfl)))
theorem NQ(h:f ρ=.ok (T,ρ1))(e:lV i T ρ1=.ok ρ2)(k:Q .nx ρ2):W (Vj i f ρ) Q:=⟨_,_,bk h (bk e rfl),k⟩
theorem N7(l:T=.lst ts)(e : ρ.set i (.dp ts) = ρ1):lV i T ρ=.ok ρ1:=by subst l e; rfl
theorem N8(l:qm T=false)(n:bA T=true)(e : ρ.set i (.sh T) = ρ1):lV i T ρ=.ok ρ1:=by
 subst e
 unfold lV
 cases T <;> first|(cases l; done)|(dsimp only; rw[if_pos n])
theorem NT(c:dJ ρ i=.ok us)(h:ga ρ=.ok ([T],ρ1))(k : ρ1[i]?=some (.dp ts))(l:ts.length<=100000)(e : ρ1.set i (.dp (ts++[T])) = ρ2)(q:Q .nx ρ2):W (agv i ga ρ) Q:=by
 subst e
 exact⟨_,_,bk c (bk h (bk (a:=ts) (by unfold dJ; rw[k]) (if_pos l))),q⟩
theorem NZ(c : ρ[i]?=some (.dp ts))(l:ts[m]?=some (.lst us))(n:cg us=true)(e : ρ.set i (.dp (ts.set m (.lst []))) = ρ1)(k:Q .nx ρ1):W (agw i m ρ) Q:=by
 subst e
 refine⟨_,_,bk (a:=ts) (by unfold dJ; rw[c]) ?_,k⟩
 rw[l]
 exact if_pos n
theorem Nq(h:W (s ρ) λfl ρ1=>WD (cD fl g ρ1) P):WD (Vl s g ρ) P:=by
 obtain⟨fl,ρ1,e,T,e',q⟩:=h
 exact⟨T,bk e e',q⟩
theorem Nr(k:WD (g ρ) P):WD (cD .nx g ρ) P:=k
theorem Nt(n:bA T=true)(k:P T):WD (cD (.rt T false) g ρ) P:=⟨_,if_pos n,k⟩
theorem Nu(h:f ρ=.ok (T,ρ1))(k:P T):WD (Vk f ρ) P:=⟨_,bk h rfl,k⟩
theorem dFn(e:fL n as = ρ)(h:WD (g ρ) λT=>Rs.ok (T,qm T)=.ok z):nj n g as=.ok z:=by
 subst e
 obtain⟨T,h,k⟩:=h
 exact bk h k
theorem dFe{R:Tr × Bool->Prop}(e:fL n as = ρ)(h:WD (g ρ) λT=>R (T,qm T)):∃z,nj n g as=.ok z/\R z:=by
 subst e
 obtain⟨T,h,k⟩:=h
 exact⟨_,bk h rfl,k⟩
end
section
variable {ρ ρ1 ρ2:En}{fa fe:EF}{aa:AF}{fi:IF}{T:Tr}{us ts vs:List Tr}{b:Bool}{i j k:Nat}{fk fj:QF}{Q:Fl->En->Prop}
theorem Yt(h:ts[k]?=some T):pB ts (.int (k:Nat))=.ok (k,T):=by
 have lt:=(List.getElem?_eq_some_iff.mp h).1
 have e:gC ts.length (k:Int)=some k:=by
  unfold gC
  rw[if_pos (by lia),if_pos (by lia)]
  rfl
 unfold pB
 simp only[e,h]
theorem Yu{m n:Nat}(h:fe ρ=.ok (.v T b,ρ))(c : ρ[i]?=some (.dp ts))(q:fk ρ=.ok (.int (m:Nat)))(l:ts[m]?=some (.lst us))(q':fj ρ=.ok (.int (n:Nat)))(l':n<us.length)(fl:bA T=true)(fu:∀t∈us,bA t=true)(e : ρ.set i (.dp (ts.set m (.lst (us.set n T)))) = ρ2)(k:Q .nx ρ2):W (U3 i fk fj fe ρ) Q:=by
 subst e
 have cd:dJ ρ i=.ok ts:=by unfold dJ; rw[c]
 have n1:dw (fk ρ)=.ok (.int m):=by rw[q]; rfl
 have n2:dw (fj ρ)=.ok (.int n):=by rw[q']; rfl
 have n3:(bA T&&bA us[n])=true:=by rw[fl,fu _ (List.getElem_mem _)]; rfl
 refine⟨_,_,bk h (bk (a:=T) rfl (bk cd (bk n1 (bk (Yt l) ?_)))),k⟩
 exact bk n2 (bk (Yt (List.getElem?_eq_getElem l')) (if_pos n3))
theorem wCD{β : Type}{t : β -> Tr}{h : β -> List Tr}{xs:List β}(hi:fi ρ=.ok (us,ρ))(hu:us=xs.map t)(hf:∀x∈xs,fe [.sh (t x)]=.ok (.v (.lst (h x)) true,[.sh (t x)]))(hn:∀x∈xs,cg (h x)=true)(hl:xs.length<=100000)(e : ρ.set i (.dp (xs.map λx=>.lst (h x))) = ρ1)(k:Q .nx ρ1):W (Je i [none] fi (gN 0) gq fe ρ) Q:=by
 subst hu e
 obtain⟨s',e'⟩:=Ys hf hn
 exact⟨_,_,bk hi ((if_pos (by rw[List.length_map]; exact hl)).trans (bk (show dw (lK _ _ _ _ [.un])=_ by rw[e']; rfl) (if_pos rfl))),k⟩
theorem xEn{α : Type}{g : α -> Tr}{l:List α}(d : α)(h:aa ρ=.ok ([.v T b],ρ1))(e:T=.lst (l.map g)):TY aa ρ=.ok ((List.range l.length).map λk:Nat=>.tup [.int k,g (l.getD k d)],ρ1):=by
 subst e
 refine bk h (congrArg (λl=>Rs.ok (l,ρ1)) (List.ext_getElem? λi=>?_))
 unfold Bg
 by_cases z:i<l.length
 .simp[z]
 .simp[z]
end
end L2
namespace BH
open PySem L2
structure Od(od:LZ->List Nat)(m:Nat)(rows:List (LZ)):Prop where
 n1:1<=rows.length
 n4:rows.length<=4
 m1:1<=m
 Yv:m<=12
 len:∀l∈rows,l.length=m
 fall:∀l∈rows,xu [aL l]=.ok (.lst ((od l).map iT),true)
 lt:∀l∈rows,∀t∈od l,t<m
 ln:∀l∈rows,(od l).length=m
section
variable {od:LZ->List Nat}{m:Nat}{rows:List (LZ)}{ds:List Nat}{as:List (Nat × Nat)}
noncomputable def sn(od:LZ->List Nat)(l:LZ)(d:Nat)(as:List (Nat × Nat))(k t:Nat):Bool:=decide (t∈(od l).take d) || decide ((k,t)∈as)
noncomputable def sA(od:LZ->List Nat)(rows:List (LZ))(ds:List Nat)(as:List (Nat × Nat))(k:Nat):Nat->Bool:=sn od (rows.getD k []) (ds.getD k 0) as k
theorem Yw(hO:Od od m rows):W8 [aX rows]=.ok (.lst (rows.map λl=>.lst ((od l).map iT)),true):=by
 have:=hO.n4
 unfold aX
 walk_at "d"
 exact hO.fall x hx
 walk_at "r"
theorem getM{α : Type}{l:List α}{k:Nat}{d : α}(h:k<l.length):l.getD k d∈l:=by rw[List.getD_eq_getElem?_getD,List.getElem?_eq_getElem h]; exact List.getElem_mem _
theorem pX{α : Type}{f : α -> Tr}{l:List α}{k:Nat}(d : α)(h:k<l.length):aZ (.lst (l.map f)) (.int k)=.ok (f (l.getD k d),false):=nA (by simp[h])
theorem Lk.ok(hO:Od od m rows)(hL:Lk rows.length m ds as):∀p∈as,p.1<rows.length/\p.2<(rows.getD p.1 []).length:=λp mp=>by
 have h:=hL.2.2.2.2 p mp
 exact⟨h.1,by rw[hO.len _ (getM h.1)]; exact h.2⟩
theorem Yx{s:Nat->Nat->Bool}(h:k<rows.length):(gs rows s)[k]?=some (.lst (gr (rows.getD k []) (s k))):=by unfold gs; simp[h]
theorem yc{rows:List (LZ)}{k:Nat}(h:k<rows.length):aZ (aX rows) (.int k)=.ok (aL (rows.getD k []),false):=nA (by simp[h])
theorem Yy{l:LZ}{s:Nat->Bool}:(gr l s).length=l.length:=by unfold gr; simp
theorem Yz{l:LZ}{s:Nat->Bool}:∀t∈gr l s,bA t=true:=λt ht=>by
 unfold gr at ht
 obtain⟨k,_,rfl⟩:=List.mem_map.mp ht
 unfold eX
 split <;> rfl
theorem aie(hO:Od od m rows)(hL:Lk rows.length m ds as):Xj [aX rows,jw ds as]=.ok (.lst (gs rows (sA od rows ds as)),true):=by
 have h4:=hO.n4
 have h12:=hO.Yv
 have er:=Yw hO
 have eb:aX rows=.lst (rows.map aL):=rfl
 have ed:jw ds as=.tup [.lst (ds.map iT),.lst (as.map pT)]:=rfl
 walk_at "d"
 refine wCD (t:=aL) (h:=λl=>List.replicate l.length Tr.non) (xs:=rows) rfl rfl (λl ml=>?_) (λl _=>zj λt ht=>by rw[List.eq_of_mem_replicate ht]; rfl) (by lia) rfl ?_
 .have e2:lA (.lst [.non]) (.int (l.length:Nat))=.ok (.lst (List.replicate l.length Tr.non),true):=by
   have hl:=hO.len l ml
   unfold lA
   have h1:(0:Int)<=l.length:=by lia
   simp[h1]
   lia
  walk_at "r"
 have e0:(rows.map λl=>Tr.lst (List.replicate l.length Tr.non))=gs rows λ_ _=>false:=by
  refine List.ext_getElem? λi=>?_
  unfold gs gr eX
  by_cases z:i<rows.length
  .simp[z]
   refine List.ext_getElem? λj=>?_
   by_cases y:j<rows[i].length <;> simp[y]
  .simp[z]
 rw[e0]
 walk_at "p"
 apply xEn ([]:LZ)
 walk_at "r"
 refine xg [5,6,7] (λs=>[(4,.dp (gs rows s))]) (λk s=>∀k' t',s k' t'=(decide (k'<k)&&decide (t'∈(od (rows.getD k' [])).take (ds.getD k' 0)))) (λ_ _=>false) (λk' t'=>by simp) rfl (λk v s hk hs=>?_) λv s hs=>?_
 .have hd:k<ds.length:=by rw[hL.1]; exact hk
  have id:=pX (f:=iT) 0 hd
  have ec:kW none (some (ds.getD k 0:Nat)) (.lst ((od (rows.getD k [])).map iT))=.ok (.lst (((od (rows.getD k [])).take (ds.getD k 0)).map iT),true):=by
   show Rs.ok (Tr.lst (cut ((od (rows.getD k [])).map iT) none (some (ds.getD k 0:Nat))),true)=_
   rw[Kd,<-List.map_take]
  have hl:=hO.len _ (getM (d:=[]) hk)
  walk_at "p"
  refine pG [7] (λs=>[(4,.dp (gs rows s))]) (λj s'=>∀k' t',s' k' t'=(s k' t' || (decide (k'=k)&&decide (t'∈((od (rows.getD k [])).take (ds.getD k 0)).take j)))) s (λk' t'=>by simp) rfl (λj t v s' ht hs'=>?_) λv s' hs'=>?_
  .have lt:t<(rows.getD k []).length:=by rw[hl]; exact hO.lt _ (getM hk) t (List.mem_of_mem_take (List.mem_of_getElem? ht))
   have gk:=yc hk
   have gt:=rH lt
   walk_at "p"
   refine Yu (m:=k) (n:=t) (pQ (pQ rfl rfl rfl rfl gk) rfl rfl rfl gt) rfl rfl (Yx hk) rfl (by rw[Yy]; exact lt) rfl Yz rfl ?_
   rw[Yr]
   refine⟨_,λk' t'=>?_,exV rfl⟩
   rw[hs' k' t',List.take_add_one,ht]
   by_cases h1:k'=k <;> by_cases h2:t'=t <;> simp[h1,h2]
  .rw[List.take_of_length_le (Nat.le_refl _)]at hs'
   walk_at "p"
   refine⟨s',λk' t'=>?_,exV rfl⟩
   rw[hs' k' t',hs k' t']
   by_cases h1:k'=k
   .subst h1; simp
   .have:k'<k+1↔k'<k:=by lia
    simp[h1,this]
 .walk_at "p"
  refine pG [5,7] (λs=>[(4,.dp (gs rows s))]) (λj s'=>∀k' t',s' k' t'=(s k' t' || decide ((k',t')∈as.take j))) s (λk' t'=>by simp) rfl (λj p v s' hp hs'=>?_) λv s' hs'=>?_
  .obtain⟨h1,h2⟩:=Lk.ok hO hL p (List.mem_of_getElem? hp)
   obtain⟨k,t⟩:=p
   have gk:=yc h1
   have gt:=rH h2
   walk_at "p"
   refine Yu (m:=k) (n:=t) (pQ (pQ rfl rfl rfl rfl gk) rfl rfl rfl gt) rfl rfl (Yx h1) rfl (by rw[Yy]; exact h2) rfl Yz rfl ?_
   rw[Yr]
   refine⟨_,λk' t'=>?_,exV rfl⟩
   rw[hs' k' t',List.take_add_one,hp]
   by_cases h1:k'=k <;> by_cases h2:t'=t <;> simp[h1,h2]
  .rw[List.take_of_length_le (Nat.le_refl _)]at hs'
   walk_at "p"
   refine congrArg (λl=>Rs.ok (Tr.lst l,true)) (List.map_congr_left λk hk=>?_)
   have hk:=List.mem_range.mp hk
   refine congrArg (λf=>Tr.lst (gr _ f)) (funext λt=>?_)
   unfold sA sn
   rw[hs' k t,hs k t,decide_eq_true hk,Bool.true_and]
end
noncomputable def fV(od:LZ->List Nat)(one:Int × Int)(l:LZ)(d:Nat):Int × Int:=if 0<d then l.getD ((od l).getD (d-1) 0) (0,1)else one
noncomputable def cL(od:LZ->List Nat)(one:Int × Int)(rows:List (LZ))(ds:List Nat):LZ:=(List.range rows.length).map λk=>fV od one (rows.getD k []) (ds.getD k 0)
theorem lQ{rows:List (LZ)}{ds:List Nat}(_:ds.length=rows.length):(cL od one rows ds).length=rows.length:=by unfold cL; simp
theorem rA{rows:List (LZ)}{ds:List Nat}{k:Nat}(_:ds.length=rows.length)(hk:k<rows.length):(cL od one rows ds).getD k (0,1)=fV od one (rows.getD k []) (ds.getD k 0):=by unfold cL; simp[hk]
theorem xM{α : Type}{f : α -> Int × Int}{l:List α}:aL (l.map f)=.lst (l.map λx=>fT (f x)):=by unfold aL; rw[List.map_map]; rfl
theorem Oa{aa:AF}{T U V:Tr}{us vs ws:List Tr}{b b' b2:Bool}{ρ ρ1:En}(h:aa ρ=.ok ([.v T b,.v U b',.v V b2],ρ1))(e:T=.lst us)(e1:U=.lst vs)(e2:V=.lst ws)(l:us.length<=vs.length)(l':us.length<=ws.length):T5 aa ρ=.ok (jq us vs ws,ρ1):=by subst e e1 e2; exact bk h (if_pos ⟨l,l'⟩)
theorem YB{α β : Type}{f g : α -> Tr}{h : β -> Tr}:∀(xs:List α) (ys:List β),jq (xs.map f) (xs.map g) (ys.map h)=(xs.zip ys).map λp=>.tup [f p.1,g p.1,h p.2]
 | [],_=>rfl
 |_::_,[]=>rfl
 |x::xs,y::ys=>congrArg (_ :: ·) (YB xs ys)
theorem YC{od:LZ->List Nat}{one:Int × Int}(hO:Od od m rows)(hl:ds.length=rows.length)(hd:∀d∈ds,d<=m):Ks [aX rows,.lst (ds.map iT),fT one]=.ok (aL (cL od one rows ds),true):=by
 have er:=Yw hO
 have n4:=hO.n4
 have ez:jq (rows.map aL) (rows.map λl=>.lst ((od l).map iT)) (ds.map iT)=(List.range rows.length).map λk=>.tup [aL (rows.getD k []),.lst ((od (rows.getD k [])).map iT),iT (ds.getD k 0)]:=by
  rw[YB]
  refine List.ext_getElem? λi=>?_
  by_cases z:i<rows.length
  .have z':i<ds.length:=by omega
   simp[z,z']
   exact⟨_,_,List.getElem?_zip_eq_some (z:=(rows[i],ds[i])) |>.mpr ⟨by simp[z],by simp[z']⟩,rfl,rfl,rfl⟩
  .rw[List.getElem?_eq_none (by simp; omega),List.getElem?_eq_none (by simp; omega)]
 unfold cL
 rw[xM]
 walk_at "d"
 rw[ez]
 refine xq [4,5,6] (λk=>[(3,.ow ((List.range k).map λk=>fT (fV od one (rows.getD k []) (ds.getD k 0))))]) rfl (λk v hk=>?_) (λv=>?_)
 .have ml:=getM (d:=[]) hk
  have hd:=hd _ (getM (d:=0) (show k<ds.length by omega))
  have h1:=hO.len _ ml
  have h2:=hO.ln _ ml
  rw[List.range_succ,List.map_append]
  by_cases z:0<ds.getD k 0
  .have g2:zB (.int (ds.getD k 0:Nat)) (.int 1)=.ok (.int ((ds.getD k 0-1:Nat):Int),false):=by rw[Int.ofNat_sub z]; rfl
   have i1:=pX (f:=iT) (l:=od (rows.getD k [])) (k:=ds.getD k 0-1) 0 (by omega)
   have lt:=hO.lt _ ml _ (getM (d:=0) (show ds.getD k 0-1<(od (rows.getD k [])).length by omega))
   have w:fV od one (rows.getD k []) (ds.getD k 0)=_:=if_pos z
   walk_at "p"
   exact congrArg (λy=>_++[fT y]) w.symm
  .have w:fV od one (rows.getD k []) (ds.getD k 0)=_:=if_neg z
   walk_at "p"
   exact congrArg (λy=>_++[fT y]) w.symm
 .walk_at "p"
noncomputable abbrev eG(rows:List (LZ))(k t:Nat):Int × Int:=(rows.getD k []).getD t (0,1)
noncomputable def lo(rows:List (LZ))(s:Nat->Nat->Bool)(t:Nat):LZ:=(List.range rows.length).map λk=>if s k t=true then eG rows k t else(0,1)
noncomputable def hi(rows:List (LZ))(s:Nat->Nat->Bool)(cX:LZ)(t:Nat):LZ:=(List.range rows.length).map λk=>if s k t=true then eG rows k t else cX.getD k (0,1)
noncomputable def dG(a b:Nat->Int × Int)(m:Nat):List Tr:=(List.range m).map λt=>.tup [fT (a t),fT (b t)]
noncomputable def KC(rows:List (LZ))(s:Nat->Nat->Bool)(t:Nat):List Tr:=(List.range rows.length).map λk=>eX (s k t) (eG rows k t)
section
variable {rows:List (LZ)}{s:Nat->Nat->Bool}{cX:LZ}{m:Nat}
theorem Dw{k:Nat}(hk:k<rows.length):aZ (.lst (gs rows s)) (.int k)=.ok (.lst (gr (rows.getD k []) (s k)),false):=pI (by unfold gs; simp[hk])
theorem aa3(hk:0<rows.length):aZ (.lst (gs rows s)) (.int 0)=.ok (.lst (gr (rows.getD 0 []) (s 0)),false):=Dw hk
theorem Oh{l:LZ}{s:Nat->Bool}{t:Nat}(ht:t<l.length):aZ (.lst (gr l s)) (.int t)=.ok (eX (s t) (l.getD t (0,1)),false):=pI (by unfold gr; simp[ht])
theorem aa4{l:LZ}{s:Nat->Bool}:eH (.lst (gr l s))=.ok (.int l.length,false):=by
 show Rs.ok (Tr.int ((gr l s).length:Int),false)=_
 unfold gr
 simp
theorem aif{a b:Nat->Int × Int}:(dG a b m).length=m:=by unfold dG; simp
theorem aii{a b:Nat->Int × Int}:dG a b m++[.tup [fT (a m),fT (b m)]]=dG a b (m+1):=by unfold dG; rw[List.range_succ,List.map_append]; rfl
theorem aa5{b:Bool}{x:Int × Int}{c d:Int}{τ : En}:vJ (iR (gU (pU id) (bx 0) (eC .non))) (eC (.tup [.int c,.int d])) (bx 0) (.sh (eX b x)::τ)=.ok (.v (fT (if b=true then x else(c,d))) false,.sh (eX b x)::τ):=by cases b <;> rfl
theorem aa6{b:Bool}{x y:Int × Int}{τ : En}:vJ (iR (gU (pU id) (bx 0) (eC .non))) (bx 1) (bx 0) (.sh (eX b x) :: .sh (fT y)::τ)=.ok (.v (fT (if b=true then x else y)) false,.sh (eX b x) :: .sh (fT y)::τ):=by cases b <;> rfl
theorem aij(h4:rows.length<=4)(ht:∀l∈rows,t<l.length):WT [.lst (gs rows s),iT t]=.ok (.lst (KC rows s t),true):=by
 walk_at "d"
 exact ht _ (List.mem_of_getElem? (i:=x) (by simp[hx]))
 walk_at "r"
theorem aik{a b:Nat->Int × Int}{R:Tr}(h1:1<=rows.length)(h4:rows.length<=4)(hl:cX.length=rows.length)(hm:m<=12)(hr:∀l∈rows,l.length=m)(e1:∀t,t<m->iu [R,aL (lo rows s t)]=.ok (fT (a t),false))(e2:∀t,t<m->iu [R,aL (hi rows s cX t)]=.ok (fT (b t),false)):Xl [R,.lst (gs rows s),aL cX]=.ok (.lst (dG a b m),true):=by
 have hm0:(rows.getD 0 []).length=m:=hr _ (List.mem_of_getElem? (i:=0) (by simp[show 0<rows.length by omega]))
 walk_at "d"
 rw[hm0]
 refine xq [4,5,6,7] (λk=>[(3,.ow (dG a b k))]) rfl (λt v ht=>?_) (λv=>?_)
 .have e0:=aij (s:=s) h4 λl hl=>(hr l hl).symm▸ht
  have e1:=e1 t ht
  have e2:=e2 t ht
  unfold lo at e1
  unfold hi at e2
  rw[xM]at e1 e2
  have bl:=aif (m:=t) (a:=a) (b:=b)
  have ez:lH (KC rows s t) (cX.map fT)=(List.range rows.length).map λk=>.tup [eX (s k t) (eG rows k t),fT (cX.getD k (0,1))]:=by
   refine List.ext_getElem? λi=>?_
   unfold lH KC
   rw[List.getElem?_map,List.getElem?_map]
   by_cases z:i<rows.length
   .have z':i<cX.length:=by omega
    have e1:((List.range rows.length).map λk=>eX (s k t) (eG rows k t))[i]?=some (eX (s i t) (eG rows i t)):=by simp[z]
    have e2:(cX.map fT)[i]?=some (fT (cX.getD i (0,1))):=by simp[z']
    rw[List.getElem?_zip_eq_some (z:=(eX (s i t) (eG rows i t),fT (cX.getD i (0,1)))) |>.mpr ⟨e1,e2⟩]
    simp[z]
   .rw[List.getElem?_eq_none (by simp; omega),List.getElem?_eq_none (by simp; omega)]
    rfl
  walk_at "p"
  exact aii
 .walk_at "p"
end
theorem ail(h:Fall l ys)(h':Fall l zs):ys=zs:=by
 refine List.Perm.eq_of_pairwise (λa b _ _ p q=>?_) h.2 h'.2 (h.1.trans h'.1.symm)
 unfold lO at p q
 lia
open Classical in
noncomputable def aB(l:LZ):List Nat:=if h:∃zs:List Nat,Fall l zs then h.choose else []
theorem KD(h:Fall l zs):aB l=zs:=by
 have h':∃zs:List Nat,Fall l zs:=⟨zs,h⟩
 unfold aB
 rw[dif_pos h']
 exact ail h'.choose_spec h
theorem nC(h:Frs N l)(hl:1+N*l.length<=8900)(hN:N<=8900)(h64:l.length<64):Fall l (aB l)/\xu [aL l]=.ok (.lst ((aB l).map iT),true):=by
 obtain⟨ys,e,f⟩:=Kc l h hl hN h64
 rw[KD f]
 exact⟨f,e⟩
theorem Od.of(h1:1<=rows.length)(h4:rows.length<=4)(m1:1<=m)(m2:m<=12)(hl:∀l∈rows,l.length=m)(h:∀l∈rows,Frs N l)(hN:1+N*12<=8900):Od aB m rows:=by
 have k:∀l∈rows,Fall l (aB l)/\xu [aL l]=.ok (.lst ((aB l).map iT),true):=λl ml=>nC (h l ml) (by
  have:=hl l ml
  have:N*l.length<=N*12:=Nat.mul_le_mul_left _ (by lia)
  lia) (by lia) (by have:=hl l ml; lia)
 refine⟨h1,h4,m1,m2,hl,λl ml=>(k l ml).2,λl ml t mt=>?_,λl ml=>?_⟩
 .have:=(k l ml).1.1.mem_iff.mp mt
  rw[List.mem_range,hl l ml]at this
  exact this
 .have:=(k l ml).1.1.length_eq
  rw[List.length_range,hl l ml]at this
  exact this
theorem Bk.od(hB:Bk m rows):Od aB m rows:=by
 obtain⟨b1,b2,b3,b4,b5⟩:=hB
 exact Od.of (N:=40) b1 b2 b3 b4 (λl ml=>(b5 l ml).1) (λl ml=>Wo.frs (b5 l ml).2) (by lia)
section
variable {od:LZ->List Nat}{m:Nat}{rows:List (LZ)}{ds:List Nat}{as:List (Nat × Nat)}{one:Int × Int}{a b:Nat->Int × Int}{R:Tr}
theorem ain(hO:Od od m rows)(hL:Lk rows.length m ds as)(e1:∀t,t<m->iu [R,aL (lo rows (sA od rows ds as) t)]=.ok (fT (a t),false))(e2:∀t,t<m->iu [R,aL (hi rows (sA od rows ds as) (cL od one rows ds) t)]=.ok (fT (b t),false)):Ku [aX rows,R,jw ds as,fT one]=.ok (.lst (dG a b m),true) :=
 JV (Vp (nq (ju rfl (ju (nq rfl rfl rfl (aie hO hL)) (ju (nq rfl rfl rfl (YC (one:=one) hO hL.1 hL.2.1)) rfl))) rfl rfl (aik hO.n1 hO.n4 (lQ hL.1) hO.Yv hO.len e1 e2)))
theorem aio(hB:Bk m rows)(ho:bG rows.length r):WQ [aX rows,bw r]=.ok (.non,false) :=
 JW (Cd (JT (nq rfl rfl rfl (ahC hB))) (Vq (Vr (JZ (nq (ju rfl (ju (JX rfl rfl (pW rows)) rfl)) rfl rfl (ahQ ho (by have:=hB.2.1; lia))) rfl rfl)) rfl))
end
theorem pref{α : Type}{p : α -> Bool}:∀zs:List α,zs.Pairwise (λa b=>p b=true->p a=true)->zs.take (zs.filter p).length=zs.filter p/\zs.drop (zs.filter p).length=zs.filter λa=>!p a
 | [],_=>⟨rfl,rfl⟩
 |a::l,h=>by
  obtain⟨h1,h2⟩:=List.pairwise_cons.mp h
  obtain⟨i1,i2⟩:=pref l h2
  cases e:p a with
  |true=>simp[e,i1,i2]
  |false =>
   have hf:∀b∈l,p b=false:=λb hb=>by
    cases z:p b with
    |false=>rfl
    |true=>rw[h1 b hb z]at e; cases e
   have z:l.filter p=[]:=List.filter_eq_nil_iff.mpr λb hb=>by rw[hf b hb]; simp
   have z':l.filter (λa=>!p a)=l:=List.filter_eq_self.mpr λb hb=>by rw[hf b hb]; rfl
   simp[e,z,z']
theorem j7{α : Type}{R : α -> α -> Prop}{p : α -> Bool}{zs:List α}{n : α}(hs:zs.Pairwise R)(hp:∀a∈zs,∀b∈zs,R a b->p b=true->p a=true)(h1:∀a∈zs,p a=true->R a n)(h2:∀b∈zs,p b=false->R n b):(zs.take (zs.filter p).length++n::zs.drop (zs.filter p).length).Perm (n::zs)/\(zs.take (zs.filter p).length++n::zs.drop (zs.filter p).length).Pairwise R:=by
 obtain⟨e1,e2⟩:=pref (p:=p) zs (hs.imp_of_mem λ{a b} ma mb r=>hp a ma b mb r)
 have hs':(zs.take (zs.filter p).length++zs.drop (zs.filter p).length).Pairwise R:=by rw[List.take_append_drop]; exact hs
 rw[e1,e2]at hs'
 rw[e1,e2]
 refine⟨List.perm_middle.trans ((List.filter_append_perm p zs).cons n),List.pairwise_append.mpr ⟨hs.filter p,List.pairwise_cons.mpr ⟨λb hb=>?_,hs.filter _⟩,λa ha b hb=>?_⟩⟩
 .obtain⟨m,q⟩:=List.mem_filter.mp hb
  exact h2 b m (by simpa using q)
 .obtain⟨m,q⟩:=List.mem_filter.mp ha
  rcases List.mem_cons.mp hb with rfl|hb
  .exact h1 a m q
  .exact(List.pairwise_append.mp hs').2.2 a ha b hb
theorem YD:∀xs:LZ,(∀x∈xs,1<=x.2)->∃zs,cW xs zs
 | [],_=>⟨[],.nil,.nil⟩
 |x::xs,h=>by
  obtain⟨zs,p,s⟩:=YD xs λy m=>h y (List.mem_cons_of_mem _ m)
  have hz:∀z∈zs,1<=z.2:=λz m=>h z (List.mem_cons_of_mem _ (p.mem_iff.mp m))
  have hx:=h x (List.mem_cons_self ..)
  obtain⟨q1,q2⟩:=j7 (R:=λa b=>le2 b a) (p:=λz=>!aV z x) (n:=x) s (λa ma b mb r q=>by
   have q:aV b x=false:=by simpa using q
   rw[kj.mpr (qZ hx (hz b mb) (hz a ma) (kj.mp q) r)]
   rfl) (λa ma q=>kj.mp (by simpa using q)) λb mb q=>by
   have q:aV b x=true:=by simpa using q
   unfold aV at q
   unfold le2
   have:=of_decide_eq_true q
   lia
  exact⟨_,q1.trans (p.cons x),q2⟩
open Classical in
noncomputable def wv(r:Ru)(xs:LZ):Int × Int:=if h:∃v,Wv r xs v then h.choose else(0,1)
theorem YF(hx:LT xs)(h:Wv r xs v):wv r xs=v:=by
 have h':∃v,Wv r xs v:=⟨v,h⟩
 unfold wv
 rw[dif_pos h']
 exact Wv.uniq hx h'.choose_spec h
theorem aip(hx:∀x∈xs,Wo x)(h:Wv r xs v):wv r xs=v:=YF (ahT hx) h
theorem YG:∀(ps:List ((Int × Int) × (Int × Int))) (t:Int × Int),Fx t->(∀p∈ps,Fx p.1/\Fx p.2)->Fx (dU ps t)
 | [],_,h,_=>h
 |p::ps,_,h,hp=>YG ps _ (ahU h (X8 (hp p (List.mem_cons_self ..)).1 (hp p (List.mem_cons_self ..)).2)) λq m=>hp q (List.mem_cons_of_mem _ m)
theorem YH:∀(xs:LZ) (t:Int × Int),Fx t->(∀p∈xs,Fx p)->Fx (eE xs t)
 | [],_,h,_=>h
 |x::xs,_,h,hp=>YH xs _ (X8 h (hp x (List.mem_cons_self ..))) λq m=>hp q (List.mem_cons_of_mem _ m)
theorem KH(hx:∀x∈xs,Fx x)(h1:1<=xs.length)(ho:bG xs.length r):Wv r xs (wv r xs)/\Fx (wv r xs):=by
 suffices h:∃v,Wv r xs v/\Fx v by
  obtain⟨v,h,f⟩:=h
  rw[YF (Yb hx) h]
  exact⟨h,f⟩
 have pl:placed r=true->∃v,(∃zs,cW xs zs/\zs[fJ xs.length r-1]?=some v)/\Fx v:=λhp=>by
  obtain⟨zs,d⟩:=YD xs λx m=>(hx x m).2.1
  have pr:=X3 hp ho h1
  have:=d.1.length_eq
  have g:zs[fJ xs.length r-1]?=some zs[fJ xs.length r-1]:=List.getElem?_eq_getElem (by lia)
  exact⟨_,⟨zs,d,g⟩,hx _ (d.1.mem_iff.mp (List.mem_of_getElem? g))⟩
 cases r with
 |sh ws=>exact⟨_,rfl,YG _ _ (by unfold Fx; decide) λp m=>⟨(ho.2 _ (List.of_mem_zip m).1).fx,hx _ (List.of_mem_zip m).2⟩⟩
 |product=>exact⟨_,rfl,YH _ _ (by unfold Fx; decide) hx⟩
 |least=>exact pl rfl
 |greatest=>exact pl rfl
 |mid k=>exact pl rfl
theorem Cy(hx:∀x∈xs,Wo x)(h1:1<=xs.length)(h2:xs.length<=12)(ho:bG xs.length r):iu [bw r,aL xs]=.ok (fT (wv r xs),false)/\Wv r xs (wv r xs):=by
 obtain⟨v,e,h⟩:=ahS hx h1 h2 ho
 rw[aip hx h]
 exact⟨e,h⟩
theorem aiq:Wo (0,1):=by decide
theorem air:Wo (1,1):=by decide
theorem ais(hx:∀x∈xs,Fx x)(hy:∀y∈ys,Fx y)(hl:xs.length=ys.length)(h1:1<=xs.length)(ho:bG xs.length r)(h:∀k,k<xs.length->le2 (xs.getD k (0,1)) (ys.getD k (0,1))):le2 (wv r xs) (wv r ys):=by
 have st:∀j,j<=xs.length->∃zs:LZ,zs.length=xs.length/\(∀z∈zs,Fx z)/\(∀k,k<xs.length->zs[k]?=some (if k<j then ys.getD k (0,1)else xs.getD k (0,1)))/\le2 (wv r xs) (wv r zs):=λj=>by
  induction j with
  |zero=>exact λ_=>⟨xs,rfl,hx,λk hk=>by simp[hk],iY _⟩
  |succ j ih =>
   intro hj
   obtain⟨zs,z1,z2,z3,z4⟩:=ih (by lia)
   have my:Fx (ys.getD j (0,1)):=hy _ (getM (by lia))
   have YJ:∀z∈zs.set j (ys.getD j (0,1)),Fx z:=λz mz=>by
    rcases List.mem_or_eq_of_mem_set mz with m|e
    .exact z2 z m
    .rw[e]; exact my
   have l':(zs.set j (ys.getD j (0,1))).length=xs.length:=by rw[List.length_set,z1]
   obtain⟨q1,f1⟩:=KH (r:=r) z2 (by lia) (by rw[z1]; exact ho)
   obtain⟨q2,f2⟩:=KH (r:=r) YJ (by lia) (by rw[l']; exact ho)
   have mo:=Wv.mono z2 my (λx hx'=>by
    rw[z3 j (by lia),if_neg (by lia)]at hx'
    cases hx'
    exact h j (by lia)) (by rw[z1]; exact ho) q1 q2
   refine⟨_,l',YJ,λk hk=>?_,qZ (KH hx h1 ho).2.2.1 f1.2.1 f2.2.1 z4 mo⟩
   rw[List.getElem?_set]
   by_cases e:j=k
   .subst e
    rw[if_pos rfl,if_pos (by lia),if_pos (by lia)]
   .rw[if_neg e,z3 k hk]
    by_cases e2:k<j
    .rw[if_pos e2,if_pos (by lia)]
    .rw[if_neg e2,if_neg (by lia)]
 obtain⟨zs,z1,z2,z3,z4⟩:=st xs.length (Nat.le_refl _)
 have e:zs=ys:=List.ext_getElem? λk=>by
  by_cases hk:k<xs.length
  .have hk':k<ys.length:=by lia
   rw[z3 k hk,if_pos hk]
   simp[hk']
  .rw[List.getElem?_eq_none (by lia),List.getElem?_eq_none (by lia)]
 rw[e]at z4
 exact z4
theorem Cz(hx:∀x∈xs,Wo x)(hy:∀y∈ys,Wo y)(hl:xs.length=ys.length)(h1:1<=xs.length)(_:xs.length<=4)(ho:bG xs.length r)(h:∀k,k<xs.length->le2 (xs.getD k (0,1)) (ys.getD k (0,1))):le2 (wv r xs) (wv r ys):=ais (λx m=>(hx x m).fx) (λx m=>(hy x m).fx) hl h1 ho h
theorem YK(hF:Fall l (aB l))(hd:d<=l.length)(h0:0<d)(ht:t<l.length)(hn:t∉(aB l).take d):le2 (l.getD t (0,1)) (l.getD ((aB l).getD (d-1) 0) (0,1)):=by
 have ln:(aB l).length=l.length:=by simpa using hF.1.length_eq
 have mt:t∈aB l:=hF.1.mem_iff.mpr (List.mem_range.mpr ht)
 rw[<-List.take_append_drop d (aB l)]at mt
 rcases List.mem_append.mp mt with m|m
 .exact absurd m hn
 have pw:=hF.2
 rw[<-List.take_append_drop d (aB l)]at pw
 have g:(aB l)[d-1]?=some ((aB l).getD (d-1) 0):=by
  have:d-1<(aB l).length:=by lia
  simp[this]
 have m1:(aB l).getD (d-1) 0∈(aB l).take d:=by
  refine List.mem_of_getElem? (i:=d-1) ?_
  rw[List.getElem?_take,if_pos (by lia)]
  exact g
 have:=(List.pairwise_append.mp pw).2.2 _ m1 _ m
 unfold lO at this
 unfold le2
 lia
noncomputable def col(rows:List (LZ))(t:Nat):LZ:=(List.range rows.length).map λk=>eG rows k t
section
variable {m:Nat}{rows:List (LZ)}{ds:List Nat}{as:List (Nat × Nat)}{s:Nat->Nat->Bool}{cX:LZ}{t:Nat}
theorem Bk.row(hB:Bk m rows)(hk:k<rows.length):(rows.getD k [])∈rows/\(rows.getD k []).length=m/\∀x∈rows.getD k [],Wo x:=by
 have e:rows[k]?=some (rows.getD k []):=by simp[hk]
 have ml:=List.mem_of_getElem? e
 exact⟨ml,hB.2.2.2.2 _ ml⟩
theorem Bk.rB(hB:Bk m rows)(hk:k<rows.length)(ht:t<m):Wo (eG rows k t):=by
 obtain⟨_,h1,h2⟩:=hB.row hk
 unfold eG
 generalize rows.getD k []=l at *
 have lt:t<l.length:=by lia
 have e:l[t]?=some (l.getD t (0,1)):=by simp[lt]
 exact h2 _ (List.mem_of_getElem? e)
theorem uq(hB:Bk m rows)(ht:t<m):∀x∈lo rows s t,Wo x:=λx mx=>by
 obtain⟨k,mk,rfl⟩:=List.mem_map.mp mx
 split
 .exact hB.rB (List.mem_range.mp mk) ht
 .exact aiq
theorem xO(hB:Bk m rows)(ht:t<m)(hl:cX.length=rows.length)(hw:∀x∈cX,Wo x):∀x∈hi rows s cX t,Wo x:=λx mx=>by
 obtain⟨k,mk,rfl⟩:=List.mem_map.mp mx
 have hk:=List.mem_range.mp mk
 split
 .exact hB.rB hk ht
 .have lt:k<cX.length:=by lia
  have e:cX[k]?=some (cX.getD k (0,1)):=by simp[lt]
  exact hw _ (List.mem_of_getElem? e)
theorem CG(hB:Bk m rows)(ht:t<m):∀x∈col rows t,Wo x:=λx mx=>by
 obtain⟨k,mk,rfl⟩:=List.mem_map.mp mx
 exact hB.rB (List.mem_range.mp mk) ht
theorem ait(hB:Bk m rows)(hk:k<rows.length)(hd:d<=m):Wo (fV aB (1,1) (rows.getD k []) d):=by
 obtain⟨ml,h1,h2⟩:=hB.row hk
 have hO:=hB.od
 have q1:=hO.ln _ ml
 have q2:=hO.lt _ ml
 unfold fV
 generalize rows.getD k []=l at *
 split
 .have lt:d-1<(aB l).length:=by lia
  have e:(aB l)[d-1]?=some ((aB l).getD (d-1) 0):=by simp[lt]
  have aV:=q2 _ (List.mem_of_getElem? e)
  have j6:(aB l).getD (d-1) 0<l.length:=by lia
  generalize (aB l).getD (d-1) 0=j at *
  have e2:l[j]?=some (l.getD j (0,1)):=by simp[j6]
  exact h2 _ (List.mem_of_getElem? e2)
 .exact air
theorem ur(hB:Bk m rows)(hL:Lk rows.length m ds as):∀x∈cL aB (1,1) rows ds,Wo x:=λx mx=>by
 obtain⟨k,hk,e⟩:=List.getElem_of_mem mx
 have ll:=lQ (od:=aB) (one:=(1,1)) hL.1
 have hk':k<rows.length:=by lia
 have e2:=rA (od:=aB) (one:=(1,1)) hL.1 hk'
 have e3:(cL aB (1,1) rows ds).getD k (0,1)=x:=by simp[hk,e]
 rw[<-e3,e2]
 have ld:k<ds.length:=by have:=hL.1; lia
 have e4:ds[k]?=some (ds.getD k 0):=by simp[ld]
 exact ait hB hk' (hL.2.1 _ (List.mem_of_getElem? e4))
theorem dB:(lo rows s t).length=rows.length:=by unfold lo; simp
theorem fK:(hi rows s cX t).length=rows.length:=by unfold hi; simp
theorem kE:(col rows t).length=rows.length:=by unfold col; simp
theorem CJ(hk:k<rows.length):(lo rows s t).getD k (0,1)=if s k t=true then eG rows k t else(0,1):=by unfold lo; simp[hk]
theorem CK(hk:k<rows.length):(hi rows s cX t).getD k (0,1)=if s k t=true then eG rows k t else cX.getD k (0,1):=by unfold hi; simp[hk]
theorem YL(hk:k<rows.length):(col rows t).getD k (0,1)=eG rows k t:=by unfold col; simp[hk]
variable {r:Ru}
noncomputable def loV(r:Ru)(rows:List (LZ))(ds:List Nat)(as:List (Nat × Nat))(t:Nat):Int × Int:=wv r (lo rows (sA aB rows ds as) t)
noncomputable def hiV(r:Ru)(rows:List (LZ))(ds:List Nat)(as:List (Nat × Nat))(t:Nat):Int × Int:=wv r (hi rows (sA aB rows ds as) (cL aB (1,1) rows ds) t)
theorem aiu(hB:Bk m rows)(ho:bG rows.length r)(ht:t<m):iu [bw r,aL (col rows t)]=.ok (fT (wv r (col rows t)),false)/\Wv r (col rows t) (wv r (col rows t)):=Cy (CG hB ht) (by rw[kE]; exact hB.1) (by rw[kE]; have:=hB.2.1; lia) (by rw[kE]; exact ho)
theorem uw(hB:Bk m rows)(ho:bG rows.length r)(ht:t<m):iu [bw r,aL (lo rows (sA aB rows ds as) t)]=.ok (fT (loV r rows ds as t),false)/\Fq 400 (loV r rows ds as t):=by
 have q:=Cy (r:=r) (uq (s:=sA aB rows ds as) hB ht) (by rw[dB]; exact hB.1) (by rw[dB]; have:=hB.2.1; lia) (by rw[dB]; exact ho)
 exact⟨q.1,Wv.fq (uq hB ht) (by rw[dB]; exact hB.2.1) (by rw[dB]; exact ho) q.2⟩
theorem ux(hB:Bk m rows)(hL:Lk rows.length m ds as)(ho:bG rows.length r)(ht:t<m):iu [bw r,aL (hi rows (sA aB rows ds as) (cL aB (1,1) rows ds) t)]=.ok (fT (hiV r rows ds as t),false)/\Fq 400 (hiV r rows ds as t):=by
 have w:=xO (s:=sA aB rows ds as) hB ht (lQ hL.1) (ur hB hL)
 have q:=Cy (r:=r) w (by rw[fK]; exact hB.1) (by rw[fK]; have:=hB.2.1; lia) (by rw[fK]; exact ho)
 exact⟨q.1,Wv.fq w (by rw[fK]; exact hB.2.1) (by rw[fK]; exact ho) q.2⟩
theorem YM(hB:Bk m rows)(hL:Lk rows.length m ds as)(ho:bG rows.length r)(ht:t<m):le2 (loV r rows ds as t) (wv r (col rows t))/\le2 (wv r (col rows t)) (hiV r rows ds as t):=by
 have h1:=hB.1
 have h4:=hB.2.1
 have h12:=hB.2.2.2.1
 constructor
 .refine Cz (uq hB ht) (CG hB ht) (by rw[dB,kE]) (by rw[dB]; exact h1) (by rw[dB]; exact h4) (by rw[dB]; exact ho) λk hk=>?_
  rw[dB]at hk
  rw[CJ hk,YL hk]
  split
  .exact iY _
  .have:=(hB.rB hk ht).1
   unfold le2
   show 0*_<=_*1
   lia
 .refine Cz (CG hB ht) (xO hB ht (lQ hL.1) (ur hB hL)) (by rw[fK,kE]) (by rw[kE]; exact h1) (by rw[kE]; exact h4) (by rw[kE]; exact ho) λk hk=>?_
  rw[kE]at hk
  rw[CK hk,YL hk]
  split
  .exact iY _
  .rename_i hs
   rw[rA hL.1 hk]
   have ld:k<ds.length:=by have:=hL.1; lia
   have e4:ds[k]?=some (ds.getD k 0):=by simp[ld]
   have hd:=hL.2.1 _ (List.mem_of_getElem? e4)
   obtain⟨ml,q1,q2⟩:=hB.row hk
   unfold sA sn at hs
   rw[Bool.or_eq_true,decide_eq_true_eq,not_or]at hs
   have hw:=hB.rB hk ht
   unfold eG at *
   unfold fV
   generalize ds.getD k 0=d,rows.getD k []=l at *
   split
   .rename_i h0
    exact YK (nC (N:=40) (Wo.frs q2) (by lia) (by lia) (by lia)).1 (by lia) h0 (by lia) hs.1
   .obtain⟨w1,w2,w3,_⟩:=hw
    unfold le2
    show _*1<=1*_
    lia
end
def Sc(c:Int)(x x':Int × Int):Prop:=x'.1*x.2=c*x.1*x'.2
theorem Sc.le(hc:1<=c)(h1:1<=x.2)(h2:1<=x'.2)(h3:1<=y.2)(h4:1<=y'.2)(a:Sc c x x')(b:Sc c y y'):le2 x' y'↔le2 x y:=by
 unfold Sc at a b
 unfold le2
 have p1:0<x.2*y.2:=Int.mul_pos (by lia) (by lia)
 have p2:0<c*(x'.2*y'.2):=Int.mul_pos (by lia) (Int.mul_pos (by lia) (by lia))
 have e1:x'.1*y'.2*(x.2*y.2)=x.1*y.2*(c*(x'.2*y'.2)):=by grind
 have e2:y'.1*x'.2*(x.2*y.2)=y.1*x.2*(c*(x'.2*y'.2)):=by grind
 constructor
 .intro h
  have:=Int.mul_le_mul_of_nonneg_right h (Int.le_of_lt p1)
  rw[e1,e2]at this
  exact Int.le_of_mul_le_mul_right this p2
 .intro h
  have:=Int.mul_le_mul_of_nonneg_right h (Int.le_of_lt p2)
  rw[<-e1,<-e2]at this
  exact Int.le_of_mul_le_mul_right this p1
theorem Sc.YQ(h1:1<=x.2)(h2:1<=x'.2)(h3:1<=y.2)(h4:1<=y'.2)(a:Sc c x x')(b:Sc d y y'):Sc (c*d) (bQ x y) (bQ x' y'):=by
 have p1:0<x.2*y.2:=Int.mul_pos (by lia) (by lia)
 have p2:0<x'.2*y'.2:=Int.mul_pos (by lia) (by lia)
 have v1:=(jL (a:=x.1*y.1) (b:=x.2*y.2) (by lia)).1
 have v2:=(jL (a:=x'.1*y'.1) (b:=x'.2*y'.2) (by lia)).1
 unfold Sc at *
 unfold bQ
 generalize (red (x'.1*y'.1) (x'.2*y'.2)).2=q',(red (x'.1*y'.1) (x'.2*y'.2)).1=p',(red (x.1*y.1) (x.2*y.2)).2=q,(red (x.1*y.1) (x.2*y.2)).1=p at *
 refine Int.eq_of_mul_eq_mul_right (a:=x.2*y.2*(x'.2*y'.2)) (Int.ne_of_gt (Int.mul_pos p1 p2)) ?_
 grind
theorem Sc.sum(h1:1<=x.2)(h2:1<=x'.2)(h3:1<=y.2)(h4:1<=y'.2)(a:Sc c x x')(b:Sc c y y'):Sc c (sumF x y) (sumF x' y'):=by
 have p1:0<x.2*y.2:=Int.mul_pos (by lia) (by lia)
 have p2:0<x'.2*y'.2:=Int.mul_pos (by lia) (by lia)
 have v1:=(jL (a:=x.1*y.2+y.1*x.2) (b:=x.2*y.2) (by lia)).1
 have v2:=(jL (a:=x'.1*y'.2+y'.1*x'.2) (b:=x'.2*y'.2) (by lia)).1
 unfold Sc at *
 unfold sumF
 generalize (red (x'.1*y'.2+y'.1*x'.2) (x'.2*y'.2)).2=q',(red (x'.1*y'.2+y'.1*x'.2) (x'.2*y'.2)).1=p',(red (x.1*y.2+y.1*x.2) (x.2*y.2)).2=q,(red (x.1*y.2+y.1*x.2) (x.2*y.2)).1=p at *
 refine Int.eq_of_mul_eq_mul_right (a:=x.2*y.2*(x'.2*y'.2)) (Int.ne_of_gt (Int.mul_pos p1 p2)) ?_
 grind
noncomputable def sc(B:Int)(x:Int × Int):Int × Int:=bQ x (B,1)
theorem YS(B:Int):sc B (0,1)=(0,1):=by
 unfold sc bQ red
 simp
theorem aiv:sc B (1,1)=(B,1):=by
 unfold sc bQ red
 simp
theorem lR(h:1<=x.2):Sc B x (sc B x):=by
 have v:=(jL (a:=x.1*B) (b:=x.2*1) (by lia)).1
 unfold Sc sc bQ
 dsimp only
 generalize (red (x.1*B) (x.2*1)).2=q,(red (x.1*B) (x.2*1)).1=p at *
 grind
theorem YT(h:1<=x.2)(hd:x.2∣B):∃k,B=x.2*k/\sc B x=(x.1*k,1):=by
 obtain⟨k,rfl⟩:=hd
 refine⟨k,rfl,?_⟩
 have g:Int.gcd (x.1*(x.2*k)) (x.2*1)=x.2.natAbs:=by
  rw[Int.mul_one,show x.1*(x.2*k)=x.2*(x.1*k) by ac_rfl]
  exact Int.gcd_mul_right_left ..
 have e:((Int.gcd (x.1*(x.2*k)) (x.2*1):Nat):Int)=x.2:=by rw[g]; lia
 show red (x.1*(x.2*k)) (x.2*1)=_
 unfold red
 rw[e,show x.1*(x.2*k)=x.2*(x.1*k) by ac_rfl,Int.mul_ediv_cancel_left _ (by lia),Int.mul_one,Int.ediv_self (by lia)]
theorem uy(h:Wo x)(hd:x.2∣B)(h1:1<=B)(hB:B<=1000000000000):Fq 45 (sc B x)/\(sc B x).2=1:=by
 obtain⟨k,e,v⟩:=YT h.2.2.1 hd
 obtain⟨w1,w2,w3,_⟩:=h
 have k0:0<=k:=by
  rcases Int.lt_or_le k 0 with z|z
  .have:=Int.mul_neg_of_pos_of_neg (a:=x.2) (b:=k) (by lia) z
   lia
  .exact z
 have l1:=Int.mul_nonneg w1 k0
 have l2:=Int.mul_le_mul_of_nonneg_right w2 k0
 rw[v]
 refine⟨⟨l1,?_,by show(1:Int)<=1; lia,by show(1:Int)<2 ^ 45; decide,by show Int.gcd _ 1=1; simp⟩,rfl⟩
 show x.1*k<2 ^ 45
 have:(2:Int) ^ 45=35184372088832:=by decide
 lia
theorem CN(h1:1<=x.2)(h2:1<=y.2):1<=(bQ x y).2:=(jL (by have:=Int.mul_pos (a:=x.2) (b:=y.2) (by lia) (by lia); lia)).2.1
theorem YW(h1:1<=x.2)(h2:1<=y.2):1<=(sumF x y).2:=(jL (by have:=Int.mul_pos (a:=x.2) (b:=y.2) (by lia) (by lia); lia)).2.1
noncomputable def iy(k:Int):Ru->Ru
 |.sh ws=>.sh (ws.map (sc k))
 |r=>r
noncomputable def kJ(k B:Int)(n:Nat):Ru->Int
 |.sh _=>k*B
 |.product=>B ^ n
 |_=>B
theorem YX:∀(ws xs:LZ) (t t':Int × Int),(∀w∈ws,1<=w.2/\1<=(sc k w).2)->(∀x∈xs,1<=x.2/\1<=(sc B x).2)->1<=t.2->1<=t'.2->Sc (k*B) t t'->Sc (k*B) (dU (ws.zip xs) t) (dU ((ws.map (sc k)).zip (xs.map (sc B))) t')
 | [],_,t,t',_,_,_,_,h=>h
 |_::_,[],t,t',_,_,_,_,h=>h
 |w::ws,x::xs,t,t',hw,hx,h1,h2,h=>by
  obtain⟨w1,w2⟩:=hw w (by simp)
  obtain⟨x1,x2⟩:=hx x (by simp)
  have b1:=CN w1 x1
  have b2:=CN w2 x2
  exact YX ws xs _ _ (λw m=>hw w (by simp[m])) (λx m=>hx x (by simp[m])) (YW h1 b1) (YW h2 b2) (Sc.sum h1 h2 b1 b2 h (Sc.YQ w1 w2 x1 x2 (lR w1) (lR x1)))
theorem YZ:∀(xs:LZ) (c:Int) (t t':Int × Int),(∀x∈xs,1<=x.2/\1<=(sc B x).2)->1<=t.2->1<=t'.2->Sc c t t'->Sc (c*B ^ xs.length) (eE xs t) (eE (xs.map (sc B)) t')
 | [],c,t,t',_,_,_,h=>by
  rw[List.length_nil,Int.pow_zero,Int.mul_one]
  exact h
 |x::xs,c,t,t',hx,h1,h2,h=>by
  obtain⟨x1,x2⟩:=hx x (by simp)
  have:=YZ xs (c*B) (bQ t x) (bQ t' (sc B x)) (λx m=>hx x (by simp[m])) (CN h1 x1) (CN h2 x2) (Sc.YQ h1 h2 x1 x2 h (lR x1))
  rw[List.length_cons,Int.pow_succ,show c*(B ^ xs.length*B)=c*B*B ^ xs.length by ac_rfl]
  exact this
theorem LT.of(h:∀x∈xs,Fq 45 x):LT xs:=λx m=>⟨(h x m).2.2.1,(h x m).2.2.2.2⟩
theorem Y0(hx:∀x∈xs,Wo x/\x.2∣B)(b1:1<=B)(b2:B<=1000000000000)(h1:1<=xs.length)(h4:xs.length<=4)(ho:bG xs.length r)(ho':bG xs.length (iy k r)):∃v',iu [bw (iy k r),aL (xs.map (sc B))]=.ok (fT v',false)/\Sc (kJ k B xs.length r) (wv r xs) v'/\Fq 400 v':=by
 have hf:∀x∈xs,Fq 45 (sc B x)/\(sc B x).2=1:=λx m=>uy (hx x m).1 (hx x m).2 b1 b2
 have hq:∀x∈xs.map (sc B),Fq 45 x:=λy m=>by
  obtain⟨x,mx,rfl⟩:=List.mem_map.mp m
  exact(hf x mx).1
 have ll:(xs.map (sc B)).length=xs.length:=List.length_map ..
 have ho2:bG (xs.map (sc B)).length (iy k r):=by rw[ll]; exact ho'
 obtain⟨v',e,h'⟩:=X4 hq (by lia) (by lia) ho2
 have hw:=(Cy (r:=r) (λx m=>(hx x m).1) h1 (by lia) ho).2
 refine⟨v',e,?_,Wv.X5 hq (by lia) ho2 h'⟩
 have px:∀x∈xs,1<=x.2/\1<=(sc B x).2:=λx m=>⟨(hx x m).1.2.2.1,(hf x m).1.2.2.1⟩
 have pl:placed r=true->iy k r=r->kJ k B xs.length r=B->(∃zs,cW xs zs/\zs[fJ xs.length r-1]?=some (wv r xs))->(∃zs,cW (xs.map (sc B)) zs/\zs[fJ (xs.map (sc B)).length r-1]?=some v')->Sc (kJ k B xs.length r) (wv r xs) v':=λ_ _ es ⟨zs,d,e1⟩ ⟨zs',d',e2⟩=>by
  have dm:cW (xs.map (sc B)) (zs.map (sc B)):=⟨d.1.map _,by
   rw[List.pairwise_map]
   refine d.2.imp_of_mem λ{a b} ma mb hab=>?_
   have ma:=px a (d.1.mem_iff.mp ma)
   have mb:=px b (d.1.mem_iff.mp mb)
   exact(Sc.le b1 mb.1 mb.2 ma.1 ma.2 (lR mb.1) (lR ma.1)).mpr hab⟩
  rw[cW.uniq (LT.of hq) d' dm,ll,List.getElem?_map,e1]at e2
  cases e2
  rw[es]
  exact lR (px _ (d.1.mem_iff.mp (List.mem_of_getElem? e1))).1
 cases r with
 |sh ws =>
  have hw:wv (.sh ws) xs=dU (ws.zip xs) (0,1):=hw
  have h':v'=dU ((ws.map (sc k)).zip (xs.map (sc B))) (0,1):=h'
  rw[hw,h']
  exact YX ws xs _ _ (λw m=>⟨(ho.2 w m).2.2.1,(ho'.2 _ (List.mem_map.mpr ⟨w,m,rfl⟩)).2.2.1⟩) px (by decide) (by decide) (by unfold Sc; simp)
 |product =>
  have hw:wv .product xs=eE xs (1,1):=hw
  have h':v'=eE (xs.map (sc B)) (1,1):=h'
  rw[hw,h']
  have:=YZ xs 1 (1,1) (1,1) px (by decide) (by decide) (by unfold Sc; simp)
  rw[Int.one_mul]at this
  exact this
 |least=>exact pl rfl rfl rfl hw h'
 |greatest=>exact pl rfl rfl rfl hw h'
 |mid j=>exact pl rfl rfl rfl hw h'
noncomputable def bT(B:Int)(rows:List (LZ)):List (LZ):=rows.map λl=>l.map (sc B)
section
variable {m:Nat}{rows:List (LZ)}{ds:List Nat}{as:List (Nat × Nat)}{B:Int}
theorem xP(l:LZ)(t:Nat):(l.map (sc B)).getD t (0,1)=sc B (l.getD t (0,1)):=by
 by_cases h:t<l.length
 .simp[h]
 .simp[h,YS]
theorem Y4(k:Nat):(bT B rows).getD k []=(rows.getD k []).map (sc B):=by
 unfold bT
 by_cases h:k<rows.length <;> simp[h]
theorem Y5(k t:Nat):eG (bT B rows) k t=sc B (eG rows k t):=by
 unfold eG
 rw[Y4,xP]
theorem KJ(hw:∀x∈l,Wo x/\x.2∣B)(hl:l.length<=12)(b1:1<=B)(b2:B<=1000000000000):aB (l.map (sc B))=aB l:=by
 have hF:=(nC (N:=40) (l:=l) (Wo.frs λx m=>(hw x m).1) (by lia) (by lia) (by lia)).1
 refine KD ⟨by rw[List.length_map]; exact hF.1,hF.2.imp_of_mem λ{i j} mi mj h=>?_⟩
 have li:=List.mem_range.mp (hF.1.mem_iff.mp mi)
 have lj:=List.mem_range.mp (hF.1.mem_iff.mp mj)
 have wi:=hw (l.getD i (0,1)) (List.mem_of_getElem? (i:=i) (by simp[li]))
 have wj:=hw (l.getD j (0,1)) (List.mem_of_getElem? (i:=j) (by simp[lj]))
 have fi:=(uy wi.1 wi.2 b1 b2).1
 have fj:=(uy wj.1 wj.2 b1 b2).1
 have l1:=Sc.le b1 wi.1.2.2.1 fi.2.2.1 wj.1.2.2.1 fj.2.2.1 (lR wi.1.2.2.1) (lR wj.1.2.2.1)
 have l2:=Sc.le b1 wj.1.2.2.1 fj.2.2.1 wi.1.2.2.1 fi.2.2.1 (lR wj.1.2.2.1) (lR wi.1.2.2.1)
 unfold lO at *
 rw[xP,xP]
 unfold le2 at l1 l2
 lia
end
def Bd(B:Int)(rows:List (LZ)):Prop:=1<=B/\B<=1000000000000/\∀l∈rows,∀x∈l,x.2∣B
section
variable {m:Nat}{rows:List (LZ)}{ds:List Nat}{as:List (Nat × Nat)}{B k:Int}{s:Nat->Nat->Bool}{cX:LZ}{t:Nat}{r:Ru}
theorem pK:(bT B rows).length=rows.length:=List.length_map ..
theorem aiw(hB:Bk m rows)(hD:Bd B rows)(j:Nat):aB ((rows.getD j []).map (sc B))=aB (rows.getD j []):=by
 by_cases h:j<rows.length
 .obtain⟨ml,q1,q2⟩:=hB.row h
  exact KJ (λx mx=>⟨q2 x mx,hD.2.2 _ ml x mx⟩) (by have:=hB.2.2.2.1; lia) hD.1 hD.2.1
 .rw[show rows.getD j []=[] by simp[h]]
  rfl
theorem Y6(hB:Bk m rows)(hD:Bd B rows):sA aB (bT B rows) ds as=sA aB rows ds as:=by
 funext j t
 unfold sA sn
 rw[Y4,aiw hB hD]
theorem aix:lo (bT B rows) s t=(lo rows s t).map (sc B):=by
 unfold lo
 rw[pK,List.map_map]
 refine List.map_congr_left λj _=>?_
 dsimp only[Function.comp]
 rw[Y5]
 split
 .rfl
 .exact(YS B).symm
theorem aiy:hi (bT B rows) s (cX.map (sc B)) t=(hi rows s cX t).map (sc B):=by
 unfold hi
 rw[pK,List.map_map]
 refine List.map_congr_left λj _=>?_
 dsimp only[Function.comp]
 rw[Y5,xP]
 split <;> rfl
theorem Y7{rows:List (LZ)}{ds:List Nat}(h:∀l∈rows,aB (l.map (sc B))=aB l):cL aB (B,1) (bT B rows) ds=(cL aB (1,1) rows ds).map (sc B):=by
 unfold cL
 rw[List.map_map,show(bT B rows).length=rows.length by unfold bT; simp]
 refine List.map_congr_left λk hk=>?_
 have hk:=List.mem_range.mp hk
 show fV aB (B,1) ((bT B rows).getD k []) _=sc B (fV aB (1,1) (rows.getD k []) _)
 rw[show(bT B rows).getD k []=(rows.getD k []).map (sc B) by unfold bT; simp[hk]]
 unfold fV
 rw[h _ (getM hk),xP]
 split
 .rfl
 .exact aiv.symm
theorem Y8(hB:Bk m rows)(hD:Bd B rows):∀l∈rows,aB (l.map (sc B))=aB l:=λl ml=>by
 have:=hB.2.2.2.2 l ml
 exact KJ (λx mx=>⟨this.2 x mx,hD.2.2 l ml x mx⟩) (by have:=hB.2.2.2.1; lia) hD.1 hD.2.1
theorem aiz(hD:Bd B rows)(hB:Bk m rows)(ht:t<m):∀x∈lo rows s t,Wo x/\x.2∣B:=λx mx=>by
 refine⟨uq hB ht x mx,?_⟩
 obtain⟨j,mj,rfl⟩:=List.mem_map.mp mx
 have hj:=List.mem_range.mp mj
 split
 .obtain⟨ml,q1,q2⟩:=hB.row hj
  refine hD.2.2 _ ml _ ?_
  unfold eG
  generalize rows.getD j []=l at *
  have lt:t<l.length:=by lia
  exact List.mem_of_getElem? (i:=t) (by simp[lt])
 .exact Int.one_dvd _
theorem Y9(hD:Bd B rows)(hB:Bk m rows)(hL:Lk rows.length m ds as):∀x∈cL aB (1,1) rows ds,x.2∣B:=λx mx=>by
 obtain⟨j,hj,e⟩:=List.getElem_of_mem mx
 have ll:=lQ (od:=aB) (one:=(1,1)) hL.1
 have hj':j<rows.length:=by lia
 have e2:=rA (od:=aB) (one:=(1,1)) hL.1 hj'
 have e3:(cL aB (1,1) rows ds).getD j (0,1)=x:=by simp[hj,e]
 rw[<-e3,e2]
 have ld:j<ds.length:=by have:=hL.1; lia
 have e4:ds[j]?=some (ds.getD j 0):=by simp[ld]
 have hd:=hL.2.1 _ (List.mem_of_getElem? e4)
 obtain⟨ml,q1,q2⟩:=hB.row hj'
 have hO:=hB.od
 have w1:=hO.ln _ ml
 have w2:=hO.lt _ ml
 have w3:=hD.2.2 _ ml
 unfold fV
 generalize ds.getD j 0=d,rows.getD j []=l at *
 split
 .have lt:d-1<(aB l).length:=by lia
  have e:(aB l)[d-1]?=some ((aB l).getD (d-1) 0):=by simp[lt]
  have aV:=w2 _ (List.mem_of_getElem? e)
  have j6:(aB l).getD (d-1) 0<l.length:=by lia
  generalize (aB l).getD (d-1) 0=i at *
  exact w3 _ (List.mem_of_getElem? (i:=i) (by simp[j6]))
 .exact Int.one_dvd _
theorem aiA(hD:Bd B rows)(hB:Bk m rows)(hL:Lk rows.length m ds as)(ht:t<m):∀x∈hi rows s (cL aB (1,1) rows ds) t,Wo x/\x.2∣B:=λx mx=>by
 refine⟨xO hB ht (lQ hL.1) (ur hB hL) x mx,?_⟩
 obtain⟨j,mj,rfl⟩:=List.mem_map.mp mx
 have hj:=List.mem_range.mp mj
 split
 .obtain⟨ml,q1,q2⟩:=hB.row hj
  refine hD.2.2 _ ml _ ?_
  unfold eG
  generalize rows.getD j []=l at *
  have lt:t<l.length:=by lia
  exact List.mem_of_getElem? (i:=t) (by simp[lt])
 .have ll:=lQ (od:=aB) (one:=(1,1)) hL.1
  have lt:j<(cL aB (1,1) rows ds).length:=by lia
  exact Y9 hD hB hL _ (List.mem_of_getElem? (i:=j) (by simp[lt]))
theorem aiB(hB:Bk m rows)(hD:Bd B rows)(hL:Lk rows.length m ds as)(ho:bG rows.length r)(ho':bG rows.length (iy k r)):∃a b:Nat->Int × Int,Ku [aX (bT B rows),bw (iy k r),jw ds as,fT (B,1)]=.ok (.lst (dG a b m),true)/\∀t,t<m->Sc (kJ k B rows.length r) (loV r rows ds as t) (a t)/\Sc (kJ k B rows.length r) (hiV r rows ds as t) (b t)/\Fq 400 (a t)/\Fq 400 (b t):=by
 have h1:=hB.1
 have h4:=hB.2.1
 have A:∀t,∃v,t<m->iu [bw (iy k r),aL (lo (bT B rows) (sA aB (bT B rows) ds as) t)]=.ok (fT v,false)/\Sc (kJ k B rows.length r) (loV r rows ds as t) v/\Fq 400 v:=λt=>by
  by_cases ht:t<m
  .obtain⟨v,q⟩:=Y0 (k:=k) (B:=B) (r:=r) (aiz (s:=sA aB rows ds as) hD hB ht) hD.1 hD.2.1 (by rw[dB]; exact h1) (by rw[dB]; exact h4) (by rw[dB]; exact ho) (by rw[dB]; exact ho')
   rw[dB]at q
   refine⟨v,λ_=>?_⟩
   rw[Y6 hB hD,aix]
   exact q
  .exact⟨(0,1),λz=>absurd z ht⟩
 have C:∀t,∃v,t<m->iu [bw (iy k r),aL (hi (bT B rows) (sA aB (bT B rows) ds as) (cL aB (B,1) (bT B rows) ds) t)]=.ok (fT v,false)/\Sc (kJ k B rows.length r) (hiV r rows ds as t) v/\Fq 400 v:=λt=>by
  by_cases ht:t<m
  .obtain⟨v,q⟩:=Y0 (k:=k) (B:=B) (r:=r) (aiA (s:=sA aB rows ds as) hD hB hL ht) hD.1 hD.2.1 (by rw[fK]; exact h1) (by rw[fK]; exact h4) (by rw[fK]; exact ho) (by rw[fK]; exact ho')
   rw[fK]at q
   refine⟨v,λ_=>?_⟩
   rw[Y6 hB hD,Y7 (Y8 hB hD),aiy]
   exact q
  .exact⟨(0,1),λz=>absurd z ht⟩
 have hO:Od aB m (bT B rows):=Od.of (N:=45) (by rw[pK]; exact h1) (by rw[pK]; exact h4) hB.2.2.1 hB.2.2.2.1 (λl ml=>by
   obtain⟨l',nF,rfl⟩:=List.mem_map.mp ml
   rw[List.length_map]
   exact(hB.2.2.2.2 l' nF).1) (λl ml=>by
   obtain⟨l',nF,rfl⟩:=List.mem_map.mp ml
   refine Fq.frs λy my=>?_
   obtain⟨x,mx,rfl⟩:=List.mem_map.mp my
   exact(uy ((hB.2.2.2.2 l' nF).2 x mx) (hD.2.2 l' nF x mx) hD.1 hD.2.1).1) (by lia)
 refine⟨λt=>(A t).choose,λt=>(C t).choose,ain hO (by rw[pK]; exact hL) (λt ht=>((A t).choose_spec ht).1) (λt ht=>((C t).choose_spec ht).1),λt ht=>?_⟩
 have q1:=(A t).choose_spec ht
 have q2:=(C t).choose_spec ht
 exact⟨q1.2.1,q2.2.1,q1.2.2,q2.2.2⟩
end
def xQ:Ru->Prop
 |.sh ws=>∀w∈ws,w.2∣12/\w.1<=100
 |_=>True
theorem Za(s0:Sl):∀(ts:List Tr) (s1:Sl),∃t1,fU (gN 1) gq (bx 1) ts [s0,s1]=.ok (ts,[s0,t1])
 | [],s1=>⟨s1,rfl⟩
 |u::ts,s1=>by
  obtain⟨t1,e⟩:=Za s0 ts (.sh u)
  exact⟨t1,bk rfl (bk rfl (bk e rfl))⟩
theorem Zb:∀(rows:List (LZ)) (s0 s1:Sl),(∀l∈rows,l.length<=1000)->∃t0 t1,qW (gN 0) (qP (bx 0)) (gN 1) (bx 1) (rows.map aL) [s0,s1]=.ok (rows.flatten.map fT,[t0,t1])
 | [],s0,s1,_=>⟨s0,s1,rfl⟩
 |l::rows,s0,s1,h=>by
  obtain⟨u1,e1⟩:=Za (.sh (aL l)) (l.map fT) s1
  obtain⟨t0,t1,e2⟩:=Zb rows (.sh (aL l)) u1 λl ml=>h l (by simp[ml])
  refine⟨t0,t1,bk rfl (bk rfl ((if_pos (by show(l.map fT).length<=1000; rw[List.length_map]; exact h l (by simp))).trans (bk e1 (bk e2 ?_))))⟩
  rw[List.flatten_cons,List.map_append]
theorem Zc(b1:1<=B)(b2:B<=1000000000000):Fq 45 (B,1):=by
 have e:(2:Int) ^ 45=35184372088832:=by decide
 refine⟨?_,?_,Int.le_refl 1,by show(1:Int)<2 ^ 45; decide,by show Int.gcd B 1=1; simp⟩
 .show 0<=B
  lia
 .show B<2 ^ 45
  lia
theorem Zd{rows:List (LZ)}{fi:IF}{us:List Tr}{ρ : En}(h:fi ρ=.ok (us,ρ))(hu:us=rows.map aL)(hl:rows.length<=100)(hr:∀l∈rows,l.length<=1000):wR [none,none] fi (gN 0) (qP (bx 0)) (gN 1) (bx 1) ρ=.ok (.v (.lst (rows.flatten.map fT)) true,ρ):=by
 subst hu
 obtain⟨t0,t1,eg⟩:=Zb rows .un .un hr
 refine bk h ((if_pos (by rw[List.length_map]; exact hl)).trans ?_)
 show(dw (qW _ _ _ _ (rows.map aL) [.un,.un])).bind _=_
 rw[eg]
 rfl
section
variable {m:Nat}{rows:List (LZ)}{r:Ru}
theorem aiC(hB:Bk m rows)(hD:∃D,Bd D rows)(ho:bG rows.length r)(hS:xQ r):∃B k:Int,Bd B rows/\bG rows.length (iy k r)/\1<=k/\pJ [aX rows,bw r]=.ok (.tup [aX (bT B rows),bw (iy k r),fT (B,1)],false):=by
 obtain⟨c1,c2,c3,c4,c5⟩:=id hB
 obtain⟨D,d1,d2,d3⟩:=hD
 have wo:∀x∈rows.flatten,Wo x:=λx mx=>by
  obtain⟨l,ml,mx⟩:=List.mem_flatten.mp mx
  exact(c5 l ml).2 x mx
 have lf:rows.flatten.length<=48:=by
  have:∀rs:List (LZ),(∀l∈rs,l.length=m)->rs.flatten.length=rs.length*m:=λrs=>by
   induction rs with
   |nil=>intro _; simp
   |cons l rs ih =>
    intro h
    rw[List.flatten_cons,List.length_append,ih λl ml=>h l (by simp[ml]),h l (by simp),List.length_cons,Nat.succ_mul]
    lia
  rw[this rows λl ml=>(c5 l ml).1]
  exact Nat.mul_le_mul (show rows.length<=4 by lia) c4
 obtain⟨_,eB,B,⟨b1,_,b3,b4⟩,rfl⟩:=Ka (N:=40) rows.flatten (Wo.frs wo) (by lia) (by lia)
 have b2:B<=1000000000000:=Int.le_trans (Int.le_of_dvd (by lia) (b4 D λx mx=>by
  obtain⟨l,ml,mx⟩:=List.mem_flatten.mp mx
  exact d3 l ml x mx)) d2
 have ft:∀x,Fq 45 x->Cg [fT x,.tup [.int B,.int 1]]=.ok (fT (sc B x),false):=λx h=>Cr (y:=(B,1)) h (Zc b1 b2) (by lia)
 have eW:aX (bT B rows)=.lst (rows.map λl=>.lst (l.map λx=>fT (sc B x))):=by
  unfold aX bT
  rw[List.map_map]
  refine congrArg Tr.lst (List.map_congr_left λl _=>?_)
  show aL (l.map (sc B))=_
  rw[xM]
 have c6:∀l∈rows,l.length<=1000:=λl ml=>by rw[(c5 l ml).1]; lia
 suffices h:∃k,bG rows.length (iy k r)/\1<=k/\pJ [aX rows,bw r]=.ok (.tup [.lst (rows.map λl=>.lst (l.map λx=>fT (sc B x))),bw (iy k r),.tup [.int B,.int 1]],false) by
  obtain⟨k,h1,h2,h3⟩:=h
  exact⟨B,k,⟨b1,b2,λl ml x mx=>b3 x (List.mem_flatten.mpr ⟨l,ml,mx⟩)⟩,h1,h2,by rw[eW]; exact h3⟩
 have fq:∀l∈rows,∀x∈l,Fq 45 x:=λl ml x mx=>((c5 l ml).2 x mx).fq
 cases r
 case sh ws =>
  obtain⟨hl,hq⟩:=ho
  obtain⟨_,ek,k,⟨k1,_,k3,k4⟩,rfl⟩:=Ka (N:=45) ws (Fq.frs hq) (by lia) (by lia)
  have k12:k<=12:=Int.le_of_dvd (by lia) (k4 12 λx mx=>(hS x mx).1)
  have fk:∀x,Fq 45 x->Cg [fT x,.tup [.int k,.int 1]]=.ok (fT (sc k x),false):=λx h=>Cr (y:=(k,1)) h (Zc k1 (by lia)) (by lia)
  refine⟨k,⟨by rw[List.length_map]; exact hl,λy my=>?_⟩,k1,?_⟩
  .obtain⟨x,mx,rfl⟩:=List.mem_map.mp my
   obtain⟨j,ej,v⟩:=YT (hq x mx).2.2.1 (k3 x mx)
   have x1:=(hq x mx).1
   have x3:=(hq x mx).2.2.1
   have x2:=(hS x mx).2
   have j0:0<=j:=by
    rcases Int.lt_or_le j 0 with z|z
    .have:=Int.mul_neg_of_pos_of_neg (a:=x.2) (b:=j) (by lia) z
     lia
    .exact z
   have j1:j<=12:=by
    have:=Int.mul_le_mul_of_nonneg_right (a:=1) (b:=x.2) (c:=j) (by lia) j0
    lia
   have l1:=Int.mul_nonneg x1 j0
   have l2:=Int.mul_le_mul (a:=x.1) (b:=j) (c:=100) (d:=12) x2 j1 j0 (by lia)
   have e45:(2:Int) ^ 45=35184372088832:=by decide
   rw[v]
   refine⟨l1,?_,Int.le_refl 1,by show(1:Int)<2 ^ 45; decide,by show Int.gcd _ 1=1; simp⟩
   show x.1*j<2 ^ 45
   lia
  .dsimp only[bw,iy]
   rw[xM]
   unfold aL
   walk_at "d"
   exact Zd rfl rfl (by lia) c6
   walk_at "r"
   exact ft _ (fq _ (by assumption) _ (by assumption))
   walk_at "r"
   have:=c6 _ (by assumption)
   lia
   walk_at "r"
   exact fk _ (hq _ (by assumption))
   walk_at "r"
 all_goals
  refine⟨1,ho,Int.le_refl 1,?_⟩
  dsimp only[bw,iy]
  walk_at "d"
  exact Zd rfl rfl (by lia) c6
  walk_at "r"
  exact ft _ (fq _ (by assumption) _ (by assumption))
  walk_at "r"
  have:=c6 _ (by assumption)
  lia
  walk_at "r"
end
def nH(a b:Nat->Int × Int)(i j:Nat):Prop:=(a j).1*(a i).2<(a i).1*(a j).2\/((a j).1*(a i).2=(a i).1*(a j).2/\((b j).1*(b i).2<(b i).1*(b j).2\/((b j).1*(b i).2=(b i).1*(b j).2/\i<j)))
def rC(a b:Nat->Int × Int)(m:Nat)(ys:List Nat):Prop:=ys.Perm (List.range m)/\ys.Pairwise (nH a b)
section
variable {m:Nat}{a b:Nat->Int × Int}
theorem aiD(hf:∀t,t<m->Fq 400 (a t)/\Fq 400 (b t))(hm:m<=12):∃ys,rC a b m ys/\xJ [.lst (dG a b m)]=.ok (.lst (ys.map iT),true):=by
 have fr:∀c:Nat->Int × Int,(∀t,t<m->Fq 400 (c t))->Frs 400 ((List.range m).map c):=λc hc x mx=>by
  obtain⟨t,mt,rfl⟩:=List.mem_map.mp mx
  obtain⟨q1,q2,q3,q4,_⟩:=hc t (List.mem_range.mp mt)
  have:=iW 400
  exact⟨q3,q4,by lia⟩
 have ln:∀c:Nat->Int × Int,((List.range m).map c).length=m:=λc=>by simp
 have top:∀c:Nat->Int × Int,(∀t,t<m->Fq 400 (c t))->∃B:Int,J6 [.lst ((List.range m).map λt=>fT (c t))]=.ok (.lst ((List.range m).map λt=>.int ((c t).1*B.fdiv (c t).2)),true)/\1<=B/\∀t,t<m->(c t).2∣B:=λc hc=>by
  obtain⟨B,e,p,d⟩:=Xy ((List.range m).map c) (fr c hc) (by rw[ln]; lia) (by lia) (by rw[ln]; lia)
  rw[List.map_map,List.map_map]at e
  exact⟨B,e,p,λt ht=>d _ (List.mem_map.mpr ⟨t,List.mem_range.mpr ht,rfl⟩)⟩
 obtain⟨B1,e1,p1,d1⟩:=top a λt ht=>(hf t ht).1
 obtain⟨B2,e2,p2,d2⟩:=top b λt ht=>(hf t ht).2
 have el:eH (.lst (dG a b m))=.ok (.int (m:Nat),false):=by
  unfold dG
  rw[Du,List.length_range]
 obtain⟨ys,e,p,q⟩:=Xz (n:=m) (ρ:=[.sh (.lst (dG a b m)),.sh (.lst ((List.range m).map λt=>.int ((a t).1*B1.fdiv (a t).2))),.sh (.lst ((List.range m).map λt=>.int ((b t).1*B2.fdiv (b t).2)))]) (kt:=Jq) (src:=[some 1,some 2]) (fa:=cN (mY (g1 eH) (cN (bx 0) cY)) cY) (fb:=Uw (Bw nU (Bv aZ (pA 1) (pA 0))) (Bw nU (Bv aZ (pA 2) (pA 0)))) (λi=>(-((a i).1*B1.fdiv (a i).2),-((b i).1*B2.fdiv (b i).2))) (pP (xC1 rfl rfl el) rfl) (by lia) λi hi=>by
  have g:∀f:Nat->Int,aZ (.lst ((List.range m).map λt=>.int (f t))) (.int (i:Int))=.ok (.int (f i),false):=λf=>nA (by simp[hi])
  have g1:=g λt=>(a t).1*B1.fdiv (a t).2
  have g2:=g λt=>(b t).1*B2.fdiv (b t).2
  exact⟨.tup [.int (-((a i).1*B1.fdiv (a i).2)),.int (-((b i).1*B2.fdiv (b i).2))],bk (bk (bk rfl (bk rfl (bk g1 rfl))) rfl) (bk (bk (bk rfl (bk rfl (bk g2 rfl))) rfl) rfl),rfl⟩
 refine⟨ys,⟨p,q.imp_of_mem λ{i j} hi hj hb=>?_⟩,?_⟩
 .have hi:=List.mem_range.mp (p.mem_iff.mp hi)
  have hj:=List.mem_range.mp (p.mem_iff.mp hj)
  have t1:=top_lt (p:=(a j).1) (r:=(a i).1) p1 (hf j hj).1.2.2.1 (hf i hi).1.2.2.1 (d1 j hj) (d1 i hi)
  have t2:=top_lt (p:=(b j).1) (r:=(b i).1) p2 (hf j hj).2.2.2.1 (hf i hi).2.2.2.1 (d2 j hj) (d2 i hi)
  unfold iU at hb
  dsimp only at hb
  unfold nH
  rw[<-t1.1,<-t1.2,<-t2.1,<-t2.2]
  simp only[Int.neg_lt_neg_iff,Int.neg_inj]at hb
  rcases hb with(h|⟨h1,h2⟩)|⟨⟨h1,h2⟩,h3⟩
  .exact .inl h
  .exact .inr ⟨h1.symm,.inl h2⟩
  .exact .inr ⟨h1.symm,.inr ⟨h2.symm,h3⟩⟩
 .walk_at "d"
end
theorem aiE(hx:Fq 400 x)(hy:Fq 400 y):V0 [fT x,fT y]=.ok (.bl (aV x y),false):=by
 obtain⟨a1,a2,a3,a4,_⟩:=hx
 obtain⟨b1,b2,b3,b4,_⟩:=hy
 have:=iW 400
 have c1:dH x.1 y.2=true:=lN (M:=400) (N:=400) (by lia) (by lia) (by lia) (by lia)
 have c2:dH y.1 x.2=true:=lN (M:=400) (N:=400) (by lia) (by lia) (by lia) (by lia)
 walk_at "d"
theorem Ze(h:Fall l ys)(n:l≠[]):∃p q,ys[0]?=some p/\ys[ys.length-1]?=some q/\p<l.length/\q<l.length/\∀i,i<l.length->aV (at2 l p) (at2 l i)=false/\aV (at2 l i) (at2 l q)=false:=by
 obtain⟨h1,h2⟩:=h
 have ln:ys.length=l.length:=by rw[h1.length_eq,List.length_range]
 have l0:0<l.length:=List.length_pos_iff.mpr n
 have mm:∀i,i∈ys↔i<l.length:=λi=>by rw[h1.mem_iff,List.mem_range]
 have hp:0<ys.length:=by lia
 have hq:ys.length-1<ys.length:=by lia
 refine⟨ys[0],ys[ys.length-1],List.getElem?_eq_getElem hp,List.getElem?_eq_getElem hq,(mm _).mp (List.getElem_mem hp),(mm _).mp (List.getElem_mem hq),λi hi=>?_⟩
 obtain⟨k,hk,rfl⟩:=List.mem_iff_getElem.mp ((mm i).mpr hi)
 have pw:=List.pairwise_iff_getElem.mp h2
 unfold aV at2
 constructor
 .rcases Nat.eq_zero_or_pos k with rfl|k0
  .exact decide_eq_false (by lia)
  .have:=pw 0 k hp hk k0
   unfold lO at this
   exact decide_eq_false (by lia)
 .rcases Nat.lt_or_ge k (ys.length-1)with c|c
  .have:=pw k (ys.length-1) hk hq c
   unfold lO at this
   exact decide_eq_false (by lia)
  .have:k=ys.length-1:=by lia
   subst this
   exact decide_eq_false (by lia)
theorem pL(hx:1<=x.2)(hy:1<=y.2)(hz:1<=z.2)(h1:aV x y=false)(h2:aV y z=false):aV x z=false:=by
 unfold aV at *
 have h1:=of_decide_eq_false h1
 have h2:=of_decide_eq_false h2
 refine decide_eq_false λh3=>?_
 have a1:y.1*x.2*z.2<=x.1*y.2*z.2:=Int.mul_le_mul_of_nonneg_right (by lia) (by lia)
 have a2:z.1*y.2*x.2<=y.1*z.2*x.2:=Int.mul_le_mul_of_nonneg_right (by lia) (by lia)
 have a3:x.1*z.2*y.2<z.1*x.2*y.2:=Int.mul_lt_mul_of_pos_right h3 (by lia)
 have e1:y.1*x.2*z.2=y.1*z.2*x.2:=Int.mul_right_comm _ _ _
 have e2:z.1*y.2*x.2=z.1*x.2*y.2:=Int.mul_right_comm _ _ _
 have e3:x.1*y.2*z.2=x.1*z.2*y.2:=Int.mul_right_comm _ _ _
 lia
theorem aiF(h:xs[xs.length-1]?=some T):aZ (.lst xs) (.int (-1))=.ok (T,false):=by
 obtain⟨hi,e⟩:=List.getElem?_eq_some_iff.mp h
 have z:gC xs.length (-1)=some (xs.length-1):=by
  unfold gC
  rw[if_neg (by lia),if_pos (by lia)]
  congr 1
  lia
 show(match dZ xs (-1)with
  |some t=>Rs.ok (t,false)
  |none=>.bad)=_
 unfold dZ
 rw[z]
 dsimp only[Option.bind]
 rw[h]
section
variable {m:Nat}{a b:Nat->Int × Int}
theorem aa8(h:t<m):aZ (.lst (dG a b m)) (iT t)=.ok (.tup [fT (a t),fT (b t)],false):=pI (by unfold dG; simp[h])
def jM(a b:Nat->Int × Int)(m:Nat)(ys:List Nat):Prop:=∀t∈ys,∀o,o<m->o∉ys->aV (a t) (b o)=false
noncomputable abbrev iz(m:Nat)(ys:List Nat):List Nat:=(List.range m).filter λt=>!decide (t∈ys)
theorem aa7:eH (.lst (dG a b m))=.ok (.int (m:Nat),false):=by
 show Rs.ok (Tr.int ((dG a b m).length:Int),false)=_
 unfold dG
 simp
theorem aiG(hf:∀t,t<m->Fq 400 (a t)/\Fq 400 (b t))(hm:m<=12){ys:List Nat}(hy:∀t∈ys,t<m)(hl:ys.length<=12):∃T,Xn [.lst (dG a b m),.lst (ys.map iT)]=.ok (T,false)/\((T=.non/\(ys=[]\/iz m ys=[]))\/∃t o,T=.tup [iT t,iT o]/\t∈ys/\o∈iz m ys/\(∀s∈ys,aV (a s) (a t)=false)/\∀s∈iz m ys,aV (b o) (b s)=false):=by
 have ho:∀t∈iz m ys,t<m:=λt ht=>List.mem_range.mp (List.mem_filter.mp ht).1
 have hol:(iz m ys).length<=12:=Nat.le_trans (List.length_filter_le ..) (by rw[List.length_range]; exact hm)
 have em:∀zs:List Nat,zs≠[]->(zs.map iT).isEmpty=false:=λzs h=>by cases zs with|nil=>exact(h rfl).elim|cons _ _=>rfl
 by_cases c1:ys=[]
 .refine⟨.non,?_,.inl ⟨rfl,.inl c1⟩⟩
  have n1:(ys.map iT).isEmpty=true:=by rw[c1]; rfl
  walk_at "d"
 have n1:=em ys c1
 by_cases c2:iz m ys=[]
 .refine⟨.non,?_,.inl ⟨rfl,.inr c2⟩⟩
  have n2:((iz m ys).map iT).isEmpty=true:=by rw[c2]; rfl
  walk_at "d"
 have n2:=em _ c2
 have fr:∀(c:Nat->Int × Int) (zs:List Nat),(∀t∈zs,Fq 400 (c t))->Frs 400 (zs.map c):=λc zs hc x mx=>by
  obtain⟨t,mt,rfl⟩:=List.mem_map.mp mx
  obtain⟨q1,q2,q3,q4,_⟩:=hc t mt
  have:=iW 400
  exact⟨q3,q4,by lia⟩
 obtain⟨f1,g1⟩:=nC (fr a ys λt mt=>(hf t (hy t mt)).1) (by rw[List.length_map]; lia) (by lia) (by rw[List.length_map]; lia)
 obtain⟨f2,g2⟩:=nC (fr b (iz m ys) λt mt=>(hf t (ho t mt)).2) (by rw[List.length_map]; lia) (by lia) (by rw[List.length_map]; lia)
 obtain⟨_,q,_,hq,_,q1,hq2⟩:=Ze f1 (by simpa using c1)
 obtain⟨p,_,hp,_,p1,_,hp2⟩:=Ze f2 (by simpa using c2)
 rw[List.length_map]at q1 p1 hq2 hp2
 have ga:∀(c:Nat->Int × Int) (zs:List Nat) i (h:i<zs.length),at2 (zs.map c) i=c zs[i]:=λc zs i h=>by unfold at2; simp[h]
 rw[xM]at g1 g2
 have i1:aZ (.lst ((aB (ys.map a)).map iT)) (.int (-1))=.ok (iT q,false):=aiF (by rw[List.length_map,List.getElem?_map,hq]; rfl)
 have i2:aZ (.lst ((aB ((iz m ys).map b)).map iT)) (.int 0)=.ok (iT p,false):=pI (i:=0) (by rw[List.getElem?_map,hp]; rfl)
 have i3:aZ (.lst (ys.map iT)) (iT q)=.ok (iT ys[q],false):=pI (by rw[List.getElem?_map,List.getElem?_eq_getElem q1]; rfl)
 have i4:aZ (.lst ((iz m ys).map iT)) (iT p)=.ok (iT (iz m ys)[p],false):=pI (by rw[List.getElem?_map,List.getElem?_eq_getElem p1]; rfl)
 refine⟨.tup [iT ys[q],iT (iz m ys)[p]],?_,.inr ⟨ys[q],(iz m ys)[p],rfl,List.getElem_mem q1,List.getElem_mem p1,λs ms=>?_,λs ms=>?_⟩⟩
 .walk_at "d"
  exact hy x hx
  walk_at "r"
  exact ho x hx
  walk_at "r"
  exact Nat.le_trans hol (by lia)
  walk_at "r"
 .obtain⟨i,hi,rfl⟩:=List.mem_iff_getElem.mp ms
  have:=(hq2 i hi).2
  rwa[ga a ys i hi,ga a ys q q1]at this
 .obtain⟨i,hi,rfl⟩:=List.mem_iff_getElem.mp ms
  have:=(hp2 i hi).1
  rwa[ga b _ i hi,ga b _ p p1]at this
theorem aiH(hf:∀t,t<m->Fq 400 (a t)/\Fq 400 (b t))(hm:m<=12)(hy:∀t∈ys,t<m)(hl:ys.length<=12):∃bb,Ck [.lst (dG a b m),.lst (ys.map iT)]=.ok (.bl bb,false)/\(bb=true↔jM a b m ys):=by
 obtain⟨T,e,h⟩:=aiG hf hm hy hl
 have mo:∀o,o∈iz m ys↔o<m/\o∉ys:=λo=>by unfold iz; simp
 rcases h with⟨rfl,h⟩|⟨t,o,rfl,mt,mo',h1,h2⟩
 .refine⟨true,by walk_at "d",λ_ t mt o ho no=>?_,λ_=>rfl⟩
  rcases h with h|h
  .rw[h]at mt; cases mt
  .have:=(mo o).mpr ⟨ho,no⟩
   rw[h]at this; cases this
 .obtain⟨om,on⟩:=(mo o).mp mo'
  have tm:=hy t mt
  have fb:=aiE (hf t tm).1 (hf o om).2
  refine⟨!aV (a t) (b o),by walk_at "d",λhb=>?_,λhs=>by rw[hs t mt o om on]; rfl⟩
  have hb':aV (a t) (b o)=false:=by simpa using hb
  intro s ms r hr nr
  exact pL (hf s (hy s ms)).1.2.2.1 (hf o om).2.2.2.1 (hf r hr).2.2.2.1 (pL (hf s (hy s ms)).1.2.2.1 (hf t tm).1.2.2.1 (hf o om).2.2.2.1 (h1 s ms) hb') (h2 r ((mo r).mpr ⟨hr,nr⟩))
end
noncomputable def fW(m:Nat)(zs:List Nat):List Nat:=(List.range m).filter λt=>decide (t∈zs)
theorem aiI{m t:Nat}{zs:List Nat}(h:∀t∈zs,t<m):t∈fW m zs↔t∈zs:=by
 unfold fW
 rw[List.mem_filter,List.mem_range,decide_eq_true_iff]
 exact⟨And.right,λq=>⟨h t q,q⟩⟩
theorem aiJ{m c:Nat}{ys:List Nat}(h:ys.Perm (List.range m)):(fW m (ys.take c)).Perm (ys.take c):=by
 have nd:ys.Nodup:=h.nodup_iff.mpr List.nodup_range
 have e:ys.filter (λt=>decide (t∈ys.take c))=ys.take c:=by
  have nd':=nd
  rw[<-List.take_append_drop c ys]at nd'
  obtain⟨_,_,dj⟩:=List.nodup_append.mp nd'
  calc ys.filter (λt=>decide (t∈ys.take c))=(ys.take c++ys.drop c).filter (λt=>decide (t∈ys.take c)):=by rw[List.take_append_drop]
   _=ys.take c:=by
    rw[List.filter_append,List.filter_eq_self.mpr λt ht=>decide_eq_true ht,List.filter_eq_nil_iff.mpr λt ht=>by
     rw[decide_eq_true_iff]
     exact λq=>dj t q t ht rfl,List.append_nil]
 unfold fW
 have:=(h.filter λt=>decide (t∈ys.take c)).symm
 rwa[e]at this
theorem aiK{m c:Nat}{ys:List Nat}(h:ys.Perm (List.range m))(hm:m<=12):qU (.lst ((ys.take c).map iT))=.ok (.lst ((fW m (ys.take c)).map iT),true):=by
 have p:=aiJ (c:=c) h
 have ln:ys.length=m:=by rw[h.length_eq,List.length_range]
 have l2:=List.length_take_le c ys
 have iq:j8 ((ys.take c).map iT)=some ((ys.take c).map λi:Nat=>(i:Int)):=XC _
 have s:((fW m (ys.take c)).map λi:Nat=>(i:Int)).Pairwise (· <= ·):=by
  rw[List.pairwise_map]
  unfold fW
  exact((List.pairwise_lt_range (n:=m)).filter _).imp λ{a b} h=>by lia
 unfold qU
 simp only[iq]
 rw[if_pos (by rw[List.length_map,List.length_take]; lia),<-Um (p.map _) s,List.map_map]
 rfl
section
variable {m:Nat}{a b:Nat->Int × Int}
noncomputable def nJ(bb:Bool)(zs:List Nat):Tr:=if bb=true then .lst (zs.map iT)else .non
theorem aiL(hf:∀t,t<m->Fq 400 (a t)/\Fq 400 (b t))(hm:m<=12)(c:Nat):∃ys bb,rC a b m ys/\Yj [.lst (dG a b m),iT c]=.ok (nJ bb (fW m (ys.take c)),bb)/\(bb=true↔jM a b m (ys.take c)):=by
 obtain⟨ys,ho,e⟩:=aiD hf hm
 have lt:∀t∈ys.take c,t<m:=λt ht=>by simpa using ho.1.mem_iff.mp (List.mem_of_mem_take ht)
 have ms:∀t,t∈fW m (ys.take c)↔t∈ys.take c:=λt=>aiI lt
 have es:=aiK (c:=c) ho.1 hm
 have l:(fW m (ys.take c)).length<=12:=by
  have:=List.length_filter_le (λt=>decide (t∈ys.take c)) (List.range m)
  rw[List.length_range]at this
  unfold fW
  lia
 obtain⟨bb,e2,h2⟩:=aiH hf hm (ys:=fW m (ys.take c)) (λt ht=>lt t ((ms t).mp ht)) l
 refine⟨ys,bb,ho,?_,h2.trans ?_⟩
 .have ec:kW none (some (c:Int)) (.lst (ys.map iT))=.ok (.lst ((ys.take c).map iT),true):=by
   show Rs.ok (Tr.lst (cut (ys.map iT) none (some (c:Int))),true)=_
   rw[Kd,<-List.map_take]
  generalize Tr.lst (dG a b m)=B at *
  have sr:nJ true (fW m (ys.take c))=.lst ((fW m (ys.take c)).map iT):=rfl
  generalize (fW m (ys.take c)).map iT=zs at *
  have k1:jF xJ (cN (bx 0) cY) [.sh B,.sh (iT c),.un]=.ok (.v (.lst (ys.map iT)) true,[.sh B,.sh (iT c),.un]):=nq (ju rfl rfl) rfl rfl e
  have k2:Al (jF xJ (cN (bx 0) cY)) xZ (Ak (bx 1)) [.sh B,.sh (iT c),.un]=.ok (.v (.lst ((ys.take c).map iT)) true,[.sh B,.sh (iT c),.un]):=bk k1 (bk rfl (bk rfl (bk rfl (bk ec rfl))))
  have k3:mY (g1 qU) (cN (Al (jF xJ (cN (bx 0) cY)) xZ (Ak (bx 1))) cY) [.sh B,.sh (iT c),.un]=.ok (.v (.lst zs) true,[.sh B,.sh (iT c),.un]):=JX (z:=(.lst zs,true)) (ju k2 rfl) rfl es
  have k4:jF Ck (cN (bx 0) (cN (bx 2) cY)) [.sh B,.sh (iT c),.ow zs]=.ok (.v (.bl bb) false,[.sh B,.sh (iT c),.ow zs]):=bk (ju rfl (ju rfl rfl)) (bk rfl (bk e2 (if_neg λq=>Bool.noConfusion q.2)))
  have k5:Af (jF Ck (cN (bx 0) (cN (bx 2) cY))) [.sh B,.sh (iT c),.ow zs]=.ok (bb,[.sh B,.sh (iT c),.ow zs]):=JZ k4 rfl rfl
  cases bb
  .exact JV (Cd (Vo k3) (Vp (bk k5 rfl)))
  .rw[sr]
   exact JV (Cd (Vo k3) (bk (bk k5 rfl) rfl))
 .unfold jM
  simp only[ms]
end
theorem aiM(hk:1<=k)(hB:1<=B)(n:Nat)(r:Ru):1<=kJ k B n r:=by
 cases r
 case sh=>exact Int.mul_pos (a:=k) (b:=B) (by lia) (by lia)
 case product=>exact Int.pow_pos (show 0<B by lia)
 all_goals exact hB
section
variable {m:Nat}{a b a' b':Nat->Int × Int}{C:Int}
def gj(C:Int)(m:Nat)(a a':Nat->Int × Int):Prop:=∀t,t<m->Sc C (a t) (a' t)/\1<=(a t).2/\1<=(a' t).2
theorem gj.le(hC:1<=C)(h:gj C m a a')(h':gj C m b b')(hi:i<m)(hj:j<m):((a' i).1*(b' j).2<=(b' j).1*(a' i).2↔(a i).1*(b j).2<=(b j).1*(a i).2)/\((b' j).1*(a' i).2<=(a' i).1*(b' j).2↔(b j).1*(a i).2<=(a i).1*(b j).2) :=
 ⟨Sc.le hC (h i hi).2.1 (h i hi).2.2 (h' j hj).2.1 (h' j hj).2.2 (h i hi).1 (h' j hj).1,Sc.le hC (h' j hj).2.1 (h' j hj).2.2 (h i hi).2.1 (h i hi).2.2 (h' j hj).1 (h i hi).1⟩
theorem gj.ord(hC:1<=C)(h:gj C m a a')(h':gj C m b b')(o:rC a' b' m ys):rC a b m ys:=by
 refine⟨o.1,o.2.imp_of_mem λ{i j} mi mj q=>?_⟩
 have hi:i<m:=by simpa using o.1.mem_iff.mp mi
 have hj:j<m:=by simpa using o.1.mem_iff.mp mj
 have t1:=gj.le hC h h hi hj
 have t2:=gj.le hC h' h' hi hj
 unfold nH at *
 lia
theorem gj.sure(hC:1<=C)(h:gj C m a a')(h':gj C m b b')(hz:∀t∈zs,t<m):jM a' b' m zs↔jM a b m zs:=by
 have k:∀t∈zs,∀o,o<m->(aV (a' t) (b' o)=false↔aV (a t) (b o)=false):=λt mt o ho=>by
  have t1:=(gj.le hC h h' (hz t mt) ho).2
  unfold aV
  rw[decide_eq_false_iff_not,decide_eq_false_iff_not]
  lia
 exact⟨λq t mt o ho no=>(k t mt o ho).mp (q t mt o ho no),λq t mt o ho no=>(k t mt o ho).mpr (q t mt o ho no)⟩
end
section
variable {m c:Nat}{rows:List (LZ)}{ds:List Nat}{as:List (Nat × Nat)}{r:Ru}
theorem CP(hB:Bk m rows)(ho:bG rows.length r)(hc:c<=m):W4 [aX rows,bw r,iT c]=.ok (.non,false):=by
 have hl:0<rows.length:=by have:=hB.1; lia
 have e1:aZ (aX rows) (.int 0)=.ok (aL rows[0],false):=nA (i:=0) (by rw[List.getElem?_map,List.getElem?_eq_getElem hl]; rfl)
 have e2:eH (aL rows[0])=.ok (.int (m:Int),false):=by
  show Rs.ok (Tr.int ((rows[0].map fT).length:Int),false)=_
  rw[List.length_map,(hB.2.2.2.2 _ (List.getElem_mem hl)).1]
 have nc:W2 [aX rows,iT c]=.ok (.non,false):=by
  have k1:mY (g1 eH) (cN (gU aZ (bx 0) (eC (.int 0))) cY) [.sh (aX rows),.sh (iT c)]=.ok (.v (.int (m:Int)) false,[.sh (aX rows),.sh (iT c)]):=JX (z:=(.int (m:Int),false)) (ju (agz (z:=(aL rows[0],false)) (T:=aX rows) (b:=false) (U:=.int 0) (b':=false) rfl rfl e1) rfl) rfl e2
  exact JW (Vq (Vr (JZ (nq (ju rfl (ju k1 rfl)) rfl rfl (count_eq hc)) rfl rfl)) rfl)
 exact JW (Cd (JT (nq rfl rfl rfl (aio hB ho))) (JT (nq rfl rfl rfl nc)))
end
section
variable {m c:Nat}{a b:Nat->Int × Int}
theorem nH.ge(h:nH a b i j):aV (a i) (a j)=false/\(aV (a j) (a i)=false->aV (b i) (b j)=false):=by
 unfold nH at h
 unfold aV
 rw[decide_eq_false_iff_not,decide_eq_false_iff_not,decide_eq_false_iff_not]
 lia
theorem Zf{T G:List Nat}(hT:T.Nodup)(hG:G.Nodup)(hl:G.length<=T.length){t:Nat}(tG:t∈G)(tT:t∉T):∃x∈T,x∉G:=by
 refine Classical.byContradiction λn=>?_
 have s:T ⊆ G.erase t:=λx mx=>(List.Nodup.mem_erase_iff hG).mpr ⟨λq=>tT (q▸mx),Classical.byContradiction λq=>n ⟨x,mx,q⟩⟩
 have:=hT.length_le_of_subset s
 rw[List.length_erase_of_mem tG]at this
 have:=List.length_pos_of_mem tG
 lia
theorem aiN{ys T:List Nat}(hf:∀t,t<m->1<=(a t).2/\1<=(b t).2/\aV (b t) (a t)=false)(ho:rC a b m ys)(hT:T.Nodup)(hm:∀t∈T,t<m)(hs:jM a b m T):jM a b m (ys.take T.length):=by
 have nd:ys.Nodup:=ho.1.nodup_iff.mpr List.nodup_range
 have my:∀t,t∈ys↔t<m:=λt=>by rw[ho.1.mem_iff,List.mem_range]
 have nd':(ys.take T.length++ys.drop T.length).Nodup:=by rw[List.take_append_drop]; exact nd
 have pw:(ys.take T.length++ys.drop T.length).Pairwise (nH a b):=by rw[List.take_append_drop]; exact ho.2
 have ah:∀t o,t∈ys.take T.length->o<m->o∉ys.take T.length->nH a b t o:=λt o ht hm no=>by
  have q:o∈ys.take T.length++ys.drop T.length:=by rw[List.take_append_drop]; exact(my o).mpr hm
  exact(List.pairwise_append.mp pw).2.2 t ht o ((List.mem_append.mp q).resolve_left no)
 have gG:(ys.take T.length).Nodup:=(List.nodup_append.mp nd').1
 have gm:∀t∈ys.take T.length,t<m:=λt ht=>(my t).mp (List.mem_of_mem_take ht)
 have lG:(ys.take T.length).length=T.length:=by
  have l1:ys.length=m:=by rw[ho.1.length_eq,List.length_range]
  have l2:=hT.length_le_of_subset (l₂ := List.range m) λt ht=>List.mem_range.mpr (hm t ht)
  rw[List.length_range]at l2
  rw[List.length_take]
  lia
 generalize ys.take T.length=G at *
 intro t tG o om oG
 have tm:=gm t tG
 have hto:=(ah t o tG om oG).ge
 by_cases tT:t∈T
 .by_cases oT:o∈T
  .obtain⟨y,yG,yT⟩:=Zf gG hT (by lia) oT oG
   have ym:=gm y yG
   have q1:=hs t tT y ym yT
   have q2:=hs o oT y ym yT
   have q3:=(ah y o yG om oG).ge
   have q4:=pL (hf o om).1 (hf y ym).2.1 (hf y ym).1 q2 (hf y ym).2.2
   exact pL (hf t tm).1 (hf y ym).2.1 (hf o om).2.1 q1 (q3.2 q4)
  .exact hs t tT o om oT
 .by_cases oT:o∈T
  .have q1:=hs o oT t tm tT
   have q2:=pL (hf o om).1 (hf t tm).2.1 (hf t tm).1 q1 (hf t tm).2.2
   have q3:=hto.2 q2
   exact pL (hf t tm).1 (hf t tm).2.1 (hf o om).2.1 (pL (hf t tm).1 (hf o om).1 (hf t tm).2.1 hto.1 q1) q3
  .obtain⟨x,xT,xG⟩:=Zf hT gG (by lia) tG tT
   have xm:=hm x xT
   exact pL (hf t tm).1 (hf x xm).1 (hf o om).2.1 (ah t x tG xm xG).ge.1 (hs x xT o om oT)
end
end BH
end
section
namespace L2
open PySem PySem.Spec PyProof.Rows
noncomputable def KN(e:Stmt)(k:Expr->Operator->Expr->Bool):Bool:=if h:e.ctorIdx=7 then Stmt.AugAssign.elim e h λx y z _=>k x y z else false
theorem Zg(h:KN e k=true):∃x0 x1 x2 p,e=.AugAssign x0 x1 x2 p/\k x0 x1 x2=true:=dI h λy=>Stmt.AugAssign.elim e y λ_ _ _ _ _ h=>⟨_,_,_,_,rfl,h⟩
noncomputable def CQ(i:Nat)(fe:EF):SF:=λρ=>match ρ[i]? with
 |some (.sh (.int a))=>(fe ρ).bind λp=>(dr p.2 p.1).bind λT=>(vg T).bind λb=>.ok (.nx,p.2.set i (.sh (.int (a+b))))
 |_=>.bad
noncomputable def aiO(i:Nat)(a:VE aA):VS (CQ i aA) where
 ck Γ e:=KN e λt op v=>atName t λx _=>decide (op=.Add)&&tD Γ i x&&a.ck Γ v
 cs:=a.cs
 ok q o h:=by
  replace h:=Zg h
  obtain⟨t,op,v,p,rfl,h⟩:=h
  walk_at "o"
  simp only[an]at h
  obtain⟨⟨h1,h2⟩,h3⟩:=h
  cases of_decide_eq_true h1
  obtain⟨w1,w2,w3⟩:=vY o h2
  refine(abV o.d w1 w2 (a.ok q o h3) Pn w3).imp λD σ H=>bB λR ρ G F e h=>?_
  unfold CQ at h
  have z:=e.sl i
  split at h <;> rename_i k <;> (try exact h.elim)
  rw[k]at z
  obtain⟨_,v,h1,h2⟩:=z
  cases h2
  refine⟨_,h1,dN e .refl h λp h v G1 H1 F1 e1 s1 v1=>?_⟩
  obtain⟨T,k1,h⟩:=h.okb (gK _ _)
  obtain⟨b,k2,h⟩:=h.okb (GC _)
  obtain⟨F',e',hf⟩:=e1.vW i (.int _)
  exact⟨_,b,rfl,zE (fZ e1 v1 k1) k2,h _ G1 H1 F' e' (s1.trans (.sub hf))⟩
def aiP(K:FZ):V->V->Hp->VK->Prop:=λo i H Q=>∃p xs k v,o=.ref p/\i=.int k/\0<=k/\aF K H p xs/\xs[k.toNat]?=some v/\Q v H
theorem aiQ:Pk X (aiP X.K):=by
 intro pins s σ H o i ov iv Q I ro ri h
 obtain⟨p,xs,k,v,rfl,rfl,h0,hq,he,q⟩:=h
 cases ro
 obtain⟨t,rfl⟩:=ri
 obtain⟨its,r,pl,hz⟩:=I.list hq
 obtain⟨w,ew,lX⟩:=r.get he
 have hl:=r.length
 have hn:=oA
 have:=(List.getElem?_eq_some_iff.mp he).1
 exact wpAny_getItem_list pl.isList h0 (by lia) (by simpa using ew) ⟨v,H,I,lX,q⟩
noncomputable def Zh(i:Nat)(fk:EF)(c:Int):SF:=λρ=>(con ρ i).bind λ_=>(fk ρ).bind λp=>(dr p.2 p.1).bind λkT=>(vg kT).bind λk=>(con p.2 i).bind λts=>if 0<=k then match ts[k.toNat]? with
 |some (.int a)=>.ok (.nx,cJ i (ts.set k.toNat (.int (a+c))) p.2)
 |_=>.bad else .bad
theorem aiR(h:sV y=true)(ov iv new:Value):augStore y ov iv new=(do holding [new,ov,iv] (setItem ov iv new); release [new,ov,iv] []; pure .next):=by
 cases y <;> first|rfl|cases h
noncomputable def sAx(i:Nat)(k:VE tH)(c:Int):VS (Zh i tH c) where
 ck Γ e:=KN e λt op v=>mO t λz y _=>atName z λx _=>decide (op=.Add)&&jY Γ i x&&k.ck Γ y&&sV y&&(vC (.int c)).ck Γ v
 cs:=k.cs
 ok q o h:=by
  replace h:=Zg h
  obtain⟨t,op,v,p,rfl,h⟩:=h
  walk_at "O"
  simp only[an]at h
  obtain⟨⟨⟨⟨h1,h2⟩,h3⟩,h4⟩,h5⟩:=h
  cases of_decide_eq_true h1
  obtain⟨_,_,rfl⟩:=aeZ h5
  refine(abX (qy o h2) (k.ok q o h3) aiQ yr Pn set_list (aiR h4)).imp λD σ H=>bB λR ρ G F e h=>?_
  obtain⟨us,k0,h⟩:=h.okb (Ao _ _)
  obtain⟨a,xs0,hi,_,_,_⟩:=e.con k0
  refine⟨_,hi,dN e .refl h λp h w G1 H1 F1 e1 s1 v1=>?_⟩
  obtain⟨kT,k1,h⟩:=h.okb (gK _ _)
  obtain⟨kk,k2,h⟩:=h.okb (GC _)
  obtain⟨ts,k3,h⟩:=h.okb (Ao _ _)
  obtain⟨a',ys,hi',hf,hy,ry⟩:=e1.con k3
  rw[hi]at hi'
  cases hi'
  split at h
  case isFalse=>exact h.elim
  rename_i k0
  split at h
  case h_2=>exact h.elim
  rename_i b hk
  obtain⟨u,hu,ru⟩:=ry.iK hk
  cases ru
  obtain⟨e2,s2⟩:=e1.put k3 hf (ry.set (.int (b+c)) kk.toNat)
  have lt:=(List.getElem?_eq_some_iff.mp hu).1
  have ix:gC ys.length kk=some kk.toNat:=by
   unfold gC
   rw[if_pos k0,if_pos (by lia)]
  exact⟨a,ys,kk,_,rfl,zE (fZ e1 v1 k1) k2,k0,aF.of hy,hu,b,c,rfl,rfl,a,ys,kk,_,rfl,zE (fZ e1 v1 k1) k2,hy,ix,h σ G1 _ F1 e2 (s1.trans s2)⟩
noncomputable def pY:Tr->List Nat->Option Tr
 |T,[]=>some T
 |.lst ts,k::p=>match ts[k]? with
  |some t=>pY t p
  |none=>none
 |.tup ts,k::p=>match ts[k]? with
  |some t=>pY t p
  |none=>none
 |_,_::_=>none
noncomputable def stP:Tr->List Nat->Tr->Tr
 |_,[],U=>U
 |.lst ts,k::p,U=>match ts[k]? with
  |some t=>.lst (ts.set k (stP t p U))
  |none=>.lst ts
 |.tup ts,k::p,U=>match ts[k]? with
  |some t=>.tup (ts.set k (stP t p U))
  |none=>.tup ts
 |T,_::_,_=>T
section
variable {K:FZ}{R:Addr->Prop}{ρ : En}{σ : St}{G H:Hp}{F:Fp}
noncomputable def stL(ts:List Tr)(p:List Nat)(us:List Tr):List Tr:=match stP (.lst ts) p (.lst us)with
 |.lst r=>r
 |_=>[]
end
def Pr(K:FZ)(H:Hp)(v:V):List Nat->V->Prop
 | [],w=>v=w
 |k::r,w=>∃a xs,Pr K H v r (.ref a)/\(aF K H a xs\/bh K H a xs)/\xs[k]?=some w
noncomputable def aiS(i:Nat)(p:List Nat)(T:Tr):SF:=λρ=>(dJ ρ i).bind λts=>match pY (.lst ts) p with
 |some (.lst us)=>if(cg us&&bA T&&decide (us.length<=100000))=true then .ok (.nx,ρ.set i (.dp (stL ts p (us++[T]))))else .bad
 |_=>.bad
noncomputable def aiT(i:Nat)(p:List Nat):SF:=λρ=>(dJ ρ i).bind λts=>match pY (.lst ts) p with
 |some (.lst us)=>if cg us=true then .ok (.nx,ρ.set i (.dp (stL ts p [])))else .bad
 |_=>.bad
noncomputable def Zi:Tr->Bool
 |.lst us=>cg us
 |_=>false
noncomputable def Zj:Tr->Tr
 |.lst us=>.lst us.reverse
 |T=>T
noncomputable def aiU(i j:Nat):SF:=λρ=>(dJ ρ i).bind λts=>if(ts.all Zi&&decide (i≠j)&&decide (j < ρ.length))=true then .ok (.nx,(ρ.set j .un).set i (.dp (ts.map Zj)))else .bad
noncomputable def Zk(f:EF):EF:=λρ=>(dw (f (vw ρ))).bind λp=>match p.1 with
 |.v T false=>if bA T=true then .ok (.v T false,ρ)else .bad
 |_=>.bad
end L2
end
section
namespace HT
open PySem PyProof.Rows
section
open PySem.SeqAt
open PySem.AutoSeq1 (wpAny_loadPart')
open PySem.MeetsSeq PySem.MeetsSeq2 PySem.MeetsSeq3
theorem xR:∀{vs:List Value} {ns:List Int},IntsAre vs ns->∀i:Nat,(vs[i]?=none/\ns.drop i=[])\/∃a t,vs[i]?=some (.int a t)/\ns.drop i=a::ns.drop (i+1)
 |_,_,.nil,i=>.inl ⟨by simp,by simp⟩
 |_,_,.cons a t h,0=>.inr ⟨a,t,rfl,rfl⟩
 |_,_,.cons a t h,i+1=>by
  rw[List.getElem?_cons_succ,List.drop_succ_cons,List.drop_succ_cons]
  exact xR h i
theorem aiV{l b:Addr}{items items2:Array Value}{n n2:Nat}{dd dd2:Option Addr}{sl sl2:Array (Option Value)}{ns ms:List Int}(hi:IntsAre items.toList ns)(hj:IntsAre items2.toList ms)(k:Nat):∀i:Nat,i<=items.size->i<=items2.size->items.size-i=k->Meets (Builtin.«list.__eq__.loop» ⟨[.ref l,.ref b,rawInt i,rawInt 0],[]⟩)
   (λ_ R s=>s.heap.get? l=some {cls:=.type "list",dict:=dd,data:=.seq items n,slots:=sl }∧s.heap.get? b=some {cls:=.type "list",dict:=dd2,data:=.seq items2 n2,slots:=sl2 } ∧
    R (.ok (.ret (.bool (lexLt (ns.drop i) (ms.drop i))))) s):=by
 have e1:∀i:Nat,items[((i:Nat):Int).toNat]?=items.toList[i]? := λi=>by simp
 have e2:∀i:Nat,items2[((i:Nat):Int).toNat]?=items2.toList[i]? := λi=>by simp
 have z1:items.toList.length=items.size:=Array.length_toList
 have z2:items2.toList.length=items2.size:=Array.length_toList
 induction k with
 |zero =>
  intro i i1 i2 hk prog w A R s h
  obtain⟨hp,g,d,tk,os⟩:=s
  obtain⟨hl,hb,h⟩:=h
  wp_walk using wpAny_loadPart' hl,wpAny_loadPart' hb
  have n1:items.toList[i]?=none:=List.getElem?_eq_none (by omega)
  obtain⟨n1,d1⟩|⟨a,t,Zm,_⟩:=xR hi i
  case inr=>rw[n1]at Zm; cases Zm
  rw[e1,n1]
  wp_walk using wpAny_loadPart' hl,wpAny_loadPart' hb
  rw[d1]at h
  have:lexLt [] (ms.drop i)=decide (items.size<items2.size):=by
   obtain⟨n2,d2⟩|⟨a,t,n2,d2⟩:=xR hj i
   .rw[d2,decide_eq_false (by have:=List.getElem?_eq_none_iff.mp n2; omega)]; rfl
   .rw[d2,decide_eq_true (by have:=(List.getElem?_eq_some_iff.mp n2).1; omega)]; rfl
  rw[this]at h
  exact h
 |succ k ih =>
  intro i i1 i2 hk prog w A R s h
  obtain⟨hp,g,d,tk,os⟩:=s
  obtain⟨hl,hb,h⟩:=h
  wp_walk using wpAny_loadPart' hl,wpAny_loadPart' hb
  obtain⟨n1,d1⟩|⟨a,t,n1,d1⟩:=xR hi i
  .have:=List.getElem?_eq_none_iff.mp n1
   omega
  obtain⟨n2,d2⟩|⟨c,u,n2,d2⟩:=xR hj i
  .rw[e1,e2,n1,n2]
   wp_walk using wpAny_loadPart' hl,wpAny_loadPart' hb
   rw[d1,d2]at h
   have:=List.getElem?_eq_none_iff.mp n2
   have:decide (items.size<items2.size)=false:=decide_eq_false (by omega)
   show R (.ok (.ret (.bool (decide (items.size<items2.size))))) _
   rw[this]
   exact h
  .rw[e1,e2,n1,n2]
   dsimp only
   have hc:((i:Int)+1)=((i+1:Nat):Int):=by push_cast; rfl
   refine wpAny_bind (EqAt.int_int a t c u prog w _ _ ?_)
   rw[d1,d2,yM]at h
   by_cases ac:a=c
   .rw[if_pos ac]at h
    rw[show(a == c)=true by simp[ac]]
    wp_walk
    rw[hc]
    have:=(List.getElem?_eq_some_iff.mp n2).1
    exact⟨plainId_quiet plain_eq_loop _,codeAny_builtin entry_eq_loop (by
     rw[Around.under_plainId plain_eq_loop _]
     exact ih (i+1) (by omega) (by omega) (by omega) prog w A R _ ⟨hl,hb,h⟩)⟩
   .rw[if_neg ac]at h
    rw[show(a == c)=false by simp[ac]]
    wp_walk using wpAny_loadPart' hl,wpAny_loadPart' hb
    rw[e1,e2,n1,n2]
    wp_walk using Ep A.in1 ⟨hp,g,d,tk,os⟩ a t c u prog w
    exact h
theorem aiW{l b:Addr}{items items2:Array Value}{n n2:Nat}{dd dd2:Option Addr}{sl sl2:Array (Option Value)}{ns ms:List Int}(hi:IntsAre items.toList ns)(hj:IntsAre items2.toList ms):Meets (Builtin.«list.__lt__» ⟨[.ref l,.ref b],[]⟩)
   (λ_ R s=>s.heap.get? l=some {cls:=.type "list",dict:=dd,data:=.seq items n,slots:=sl }∧s.heap.get? b=some {cls:=.type "list",dict:=dd2,data:=.seq items2 n2,slots:=sl2 } ∧
    R (.ok (.ret (.bool (lexLt ns ms)))) s):=by
 intro prog w A R s h
 obtain⟨hp,g,d,tk,os⟩:=s
 obtain⟨hl,hb,h⟩:=h
 have f3:=AutoSeq1.sub_list_list
 wp_walk using wpAny_loadPart' hl,wpAny_loadPart' hb
 exact⟨plainId_quiet plain_eq_loop _,codeAny_builtin entry_eq_loop (by
  rw[Around.under_plainId plain_eq_loop _]
  exact aiV hi hj _ 0 (Nat.zero_le _) (Nat.zero_le _) rfl prog w A R _ ⟨hl,hb,h⟩)⟩
noncomputable def pN(a:Int)(ns:List Int)(c:Int)(ms:List Int):Bool:=if a=c then lexLt ns ms else decide (a<c)
theorem KQ:∀ns,lexLt ns ns=false
 | []=>rfl
 |n::ns=>by rw[yM,if_pos rfl]; exact KQ ns
theorem aiX{l b:Addr}{n n2:Nat}{dd dd2:Option Addr}{sl sl2:Array (Option Value)}{a c:Int}{t u:Tok}{p q:Value}{e d:Bool} :
  Meets (Builtin.«tuple.__lt__» ⟨[.ref l,.ref b],[]⟩)
   (λA R s=>s.heap.get? l=some {cls:=.type "tuple",dict:=dd,data:=.seq #[.int a t,p] n,slots:=sl }∧s.heap.get? b=some {cls:=.type "tuple",dict:=dd2,data:=.seq #[.int c u,q] n2,slots:=sl2 } ∧
    EqAt A.in1 s p q e/\(e=false->∀(prog:Program) (w:World) (E:Value->Shared->Prop) (Q:Value->Shared->Prop),Q (.bool d) s->wpAny (model prog w) A.in1 (richCompare .Lt p q) Q E s) /\
    R (.ok (.ret (.bool (if a=c then(if e=true then false else d)else decide (a<c))))) s) :=
 .of_wp λprog w A R s h=>by
  obtain⟨hp,g,dr,tk,os⟩:=s
  obtain⟨hl,hb,he,hd,h⟩:=h
  have f2:=AutoSeq1.sub_tuple_tuple
  wp_walk using wpAny_loadPart' hl,wpAny_loadPart' hb,wpAny_forIn_list _ (λrest b s'=>b.1=none/\s'=⟨hp,g,dr,tk,os⟩/\((rest=[(.int a t,.int c u),(p,q)])\/(rest=[(p,q)]/\a=c)\/(rest=[]/\a=c/\e=true))) _
  case turn =>
   rintro⟨y,x⟩ rest b s' ⟨hb',rfl,hz⟩
   rcases hz with hz|⟨hz,ac⟩|⟨hz,_⟩
   .injection hz with hyx hrest
    injection hyx with hy hx
    subst hy hx
    refine wpAny_bind (EqAt.int_int a t c u prog w _ _ ?_)
    by_cases ac:a=c
    .rw[show(a == c)=true by simp[ac]]
     wp_walk
     exact⟨rfl,rfl,.inr (.inl ⟨hrest,ac⟩)⟩
    .rw[if_neg ac]at h
     rw[show(a == c)=false by simp[ac]]
     wp_walk using Ep A.in1 ⟨hp,g,dr,tk,os⟩ a t c u prog w
     exact⟨_,rfl,by simpa using h⟩
   .injection hz with hyx hrest
    injection hyx with hy hx
    subst hy hx
    rw[if_pos ac]at h
    refine wpAny_bind (he prog w _ _ ?_)
    cases e with
    |true =>
     wp_walk
     exact⟨rfl,rfl,.inr (.inr ⟨hrest,ac,rfl⟩)⟩
    |false =>
     have hd:=hd rfl prog w
     wp_walk using hd
     exact⟨_,rfl,by simpa using h⟩
   .cases hz
  case fin =>
   rintro⟨b1,b2⟩ s' ⟨hb',rfl,hz⟩
   simp only at hb'
   subst hb'
   rcases hz with hz|⟨hz,ac⟩|⟨hz,ac,e1⟩
   .cases hz
   .cases hz
   .rw[if_pos ac,if_pos e1]at h
    wp_walk
    exact⟨_,rfl,by simpa[Builtin.Tuple.tupleCompareSizes]using h⟩
  case h=>exact⟨rfl,rfl,.inl rfl⟩
end
section
variable {prog:Program}{w:World}{A:Around}{E:Value->Shared->Prop}{s:Shared}{l b:Addr}{items items2:Array Value}{ns ms:List Int}{Q:Value->Shared->Prop}
theorem aiY(hl:s.heap.IsList l items)(hb:s.heap.IsList b items2)(hi:IntsAre items.toList ns)(hj:IntsAre items2.toList ms)
  (hu:A.units<cLine) (h:Q (.bool (lexLt ns ms)) s):wpAny (model prog w) A (compareOp .Lt (.ref l) (.ref b)) Q E s:=by
 obtain⟨⟨cls,dd,data,sl⟩,ho,hc,n,hd⟩:=id hl
 obtain⟨⟨cls2,dd2,data2,sl2⟩,ho2,hc2,n2,hd2⟩:=id hb
 simp only at hc hd hc2 hd2
 subst hc hd hc2 hd2
 exact richCompare_meets_room (op:=.Lt) ⟨_,ho,rfl⟩ ⟨_,ho2,rfl⟩ PySem.F.slot_list_lt PySem.F.entry_list_lt (PySem.F.args_list_lt_2 _ _) (aiW hi hj)
  ⟨ho,ho2,show Value.bool (lexLt ns ms)≠Value.notImplemented/\Q (.bool (lexLt ns ms)) s from⟨(λx=>nomatch x),h⟩⟩ hu
end
end HT
namespace L2
open PySem PySem.Spec PyProof.Rows
theorem KR{K:FZ}{H:Hp}:∀ns:List Int,aq K H (ns.map V.int) (ns.map Tr.int)
 | []=>.nil
 |n::ns=>.cons (.int n) (KR ns)
theorem Zn:∀{ns ms:List Int},gF (ns.map Tr.int) (ms.map Tr.int)=true->ns=ms
 | [],[],_=>rfl
 | [],_::_,h=>by cases h
 |_::_,[],h=>by cases h
 |n::ns,m::ms,h=>by
  rw[List.map_cons,List.map_cons]at h
  obtain⟨h1,h2⟩:=Bool.and_eq_true_iff.mp (show(decide (n=m)&&gF (ns.map Tr.int) (ms.map Tr.int))=true from h)
  rw[of_decide_eq_true h1,Zn h2]
def KY(K:FZ):R2:=λx y H Q=>∃(l b p q:Addr) (a c:Int) (ns ms:List Int),x=.ref l/\y=.ref b/\bh K H l [.int a,.ref p]/\bh K H b [.int c,.ref q]/\aF K H p (ns.map V.int)/\aF K H q (ms.map V.int)/\Q (.bl (HT.pN a ns c ms)) H
theorem aiZ(hu:X.A.units+64<cLine):aY X (compareOp .Lt) (KY X.K):=by
 intro pins s σ H x y v u Q I rx ry h
 obtain⟨l,b,p,q,a,c,ns,ms,rfl,rfl,hl,hb,hp,hq,k⟩:=h
 cases rx
 cases ry
 obtain⟨its,r1,p1,_⟩:=I.tuple hl
 obtain⟨its2,r2,p2,_⟩:=I.tuple hb
 obtain⟨js,r3,p3,_⟩:=I.list hp
 obtain⟨U8,r4,p4,_⟩:=I.list hq
 cases r1 with
 |cons a1 r1 =>
 cases r1 with
 |cons a2 r1 =>
 cases r1
 cases r2 with
 |cons b1 r2 =>
 cases r2 with
 |cons b2 r2 =>
 cases r2
 obtain⟨t,rfl⟩:=a1
 obtain⟨t',rfl⟩:=b1
 cases a2
 cases b2
 have dp:∀ns:List Int,deps (ns.map Tr.int)<=0:=λns=>by
  induction ns with
  |nil=>rw[List.map_nil]; unfold deps; exact Nat.le_refl _
  |cons n ns ih=>rw[List.map_cons]; unfold deps; rw[show dep (Tr.int n)=0 by unfold dep; rfl]; exact Nat.max_le.mpr ⟨Nat.le_refl _,ih⟩
 have dq:∀ns:List Int,dep (.lst (ns.map Tr.int))<=1:=λns=>by
  have:=dp ns
  unfold dep
  omega
 have hu1:=in1_units X.A
 have e:=(uY I 1 X.A.in1 (.lst (ns.map Tr.int)) (.lst (ms.map Tr.int)) (.ref p) (.ref q) _ _ (by omega) (dq ns) (Nat.le_trans (dq ns) (by omega)) (Nat.le_trans (dq ms) (by omega)) (.lst hp (KR ns)) (.lst hq (KR ms)) rfl rfl).2
 have ek:(if a=c then(if eqT (.lst (ns.map Tr.int)) (.lst (ms.map Tr.int))=true then false else HT.lexLt ns ms)else decide (a<c))=HT.pN a ns c ms:=by
  unfold HT.pN
  split
  .split
   .rename_i z
    rw[Zn (ns:=ns) z,HT.KQ]
   .rfl
  .rfl
 obtain⟨⟨cls,dd,data,sl⟩,ho,hc,n,hd⟩:=id p1
 obtain⟨⟨cls2,dd2,data2,sl2⟩,ho2,hc2,n2,hd2⟩:=id p2
 simp only at hc hd hc2 hd2
 subst hc hd hc2 hd2
 refine richCompare_meets_room (op:=.Lt) ⟨_,ho,rfl⟩ ⟨_,ho2,rfl⟩ PySem.F.slot_tuple_lt PySem.F.entry_tuple_lt (PySem.F.args_tuple_lt_2 _ _) (HT.aiX (d:=HT.lexLt ns ms)) ⟨ho,ho2,e,λ_ prog w E Q k=>HT.aiY p3.isList p4.isList (intsAre_of r3) (intsAre_of r4) (by omega) k,?_⟩ (by omega)
 rw[ek]
 exact⟨(λx=>nomatch x),.bl _,H,I,rfl,k⟩
noncomputable def uz:G2
 |.tup [.int a,.lst xs],.tup [.int c,.lst ys]=>match intsOf xs,intsOf ys with
  |some ns,some ms=>.ok (.bl (HT.pN a ns c ms),false)
  |_,_=>.bad
 |_,_=>.bad
theorem ai0{K:FZ}:cQ (au K) (KY K) uz:=⟨λa b c=>by unfold uz; (repeat' split) <;> (intro z; cases z),λG H x y a b Q s rx ry h=>by
 unfold uz at h
 split at h
 case h_2=>exact h.elim
 rename_i a xs c ys
 split at h
 case h_2=>exact h.elim
 rename_i ns ms e1 e2
 obtain⟨l,_,rfl,q,r⟩:=rx.tup s
 obtain⟨b,_,rfl,q',r'⟩:=ry.tup s
 cases r with
 |cons r1 r =>
 cases r with
 |cons r2 r =>
 cases r
 cases r' with
 |cons r3 r' =>
 cases r' with
 |cons r4 r' =>
 cases r'
 cases r1
 cases r3
 cases r2 with
 |lst q1 r5 =>
 cases r4 with
 |lst q2 r6 =>
 have z1:=ints_of e1 r5
 have z2:=ints_of e2 r6
 subst z1 z2
 exact⟨l,b,_,_,a,c,ns,ms,rfl,rfl,q.toK,q'.toK,(s.seq q1).toK,(s.seq q2).toK,h _ G H (.refl s) (.bl _)⟩⟩
noncomputable abbrev ai1:Cq uz:=⟨.Lt,KY,λ_ h=>aiZ h,λ_=>ai0⟩
section
variable {X:Cx}{elt tg iter fD iter2:Expr}{scope sc:Scope}{pos:Pos}{No N:List Str}{src:List (Option Nat)}{wi iV:TI}{g g2:TG}{te:TE}
theorem ai2(hN:X.N.Nodup)(IK:X.N[i]?=some y)(hy:Loc X.env.scope y)(hsc:X.env.scope=sc)(eU:X.N=No)(S:mD sc No N src scope)(hc:X.calm=true)
  (hi:PI X tg iter wi) (hg:∀C s H ex,PG (aR X N scope C s H ex) tg g) (hi2:∀C s H ex,PI (aR X N scope C s H ex) fD iter2 iV) (hg2:∀C s H ex,PG (aR X N scope C s H ex) fD g2) (he:∀C s H ex,PE (aR X N scope C s H ex) elt te)
  (hsw:swapsWith (.ListComp elt [⟨tg,iter,[],0⟩,⟨fD,iter2,[],0⟩] scope pos) (some (.Name y py)) spos.line X.env=pure true) (hs:∀x,foldedSetIterable iter X.env x=pure x) (hs2:∀(env:Env) x,foldedSetIterable iter2 env x=pure x)
  (hf:X.fn y=true\/X.env.scope.names.lookup y=some .local) :
  PS X (.Assign [.Name y py] (.ListComp elt [⟨tg,iter,[],0⟩,⟨fD,iter2,[],0⟩] scope pos) spos) (kZ (BK wi g src iV g2 te) (kY i)):=by
 refine⟨λpins s σ H D I h=>?_⟩
 rw[exec_Assign_Name_used _ _ _ _ hsw]
 have hcl:closureFor scope X.env=pure (bM X.env.cells scope.names []):=uU λy hy e=>by
  have k:=S.free y hy e
  rw[<-hsc]at k
  obtain⟨c,q⟩:=I.ok.has y.1 k
  rw[q]; rfl
 refine wpAny_bind (wpAny_standAt (wpAny_bind ?_))
 show wpAny _ X.A (do let _ <-comprehension (.ListComp elt [⟨tg,iter,[],0⟩,⟨fD,iter2,[],0⟩] scope pos) scope X.env _ (newList []) false (eval iter X.env) (some (assign (.Name y py) X.env))) _ _ s
 refine wpAny_bind (wpAny_mono (wpAny_comprehension_free (use:=some (assign (.Name y py) X.env)) (Q:=λ_ s'=>SP X pins D .next s') rfl hs hcl S.kind S.names
  (UJ (Q:=λv H'=>D.nx (σ.set i (some v)) H') (RR:=λacc C=>compPost (model X.prog X.w) X.A X.xe (some (assign (.Name y py) X.env)) (λ_ s'=>SP X pins D .next s') acc C) hsc eU S hc hi hg hi2 hg2 he I h hs2 ?_)) (λ_ s' hq=>wpAny_pure (wpAny_pure hq)) λ_ _ e=>e)
 intro Da C H' s' m I' n1 n2 n3 n4 n5 hn q
 show wpAny _ X.A (assign (.Name y py) X.env (.ref Da)) _ _ _
 refine wpAny_assign_Name (Dz I' hN IK hy (v:=.ref Da) rfl (λs2 I2 hsame=>?_) hf)
 obtain⟨a,hsb,ha⟩:=hsame
 have IV:C≠a:=by
  rcases ha with z|z
  .rw[z]; exact n2
  .exact λe=>n4 y a z e.symm
 refine⟨m,hn.sameBut hsb IV,λh' hs'=>⟨σ.set i (some (.ref Da)),H',?_,q⟩⟩
 exact I2.turned (t':=s2.toks) (λb o hb e=>(hs'.2 b hb).trans e) n1 n2 (.inr n3) n4 n5
end
noncomputable def cC2(src:List (Option Nat))(N:List Str)(i:VI j4)(g:VG gY jG)(i2:VI Jv)(g2:VG Jw Jx)(b:VE bO):VC (wR src j4 gY Jv Jw bO) where
 ck Γ e:=oR e λx aK sc _=>aM aK λbf bF=>lB bf λt y cM dg=>aQ cM (iQ dg 0 (aM bF λeV jk=>lB eV λt2 y2 m5 m7=>aQ m5 (iQ m7 0 (aQ jk (i.ck Γ (t,y)&&g.ck (cG Γ N sc) t&&i2.ck (cG Γ N sc) (t2,y2)&&g2.ck (cG Γ N sc) t2&&b.ck (cG Γ N sc) x&&o9 Γ N src sc (jG++Jx))))))
 cs:=i.cs++(g.cs++(i2.cs++(g2.cs++b.cs)))
 ok:=@λcl E Γ X e q o h=>by
  walk_at "O"
  rename_i x0 sc pos t0 y0 t2 y2
  simp only[an]at h
  obtain⟨⟨⟨⟨⟨h1,h2⟩,h3⟩,h4⟩,h5⟩,h6⟩:=h
  obtain⟨pi,ni⟩:=i.ok (ml q) o h1
  obtain⟨S,nd,I,hj⟩:=tQ h6
  have pg:=λC s H ex=>g.ok (X:=aR X N sc C s H ex) (ml (mr q)) (g8 o nd) h2
  have qX:=λC s H ex=>i2.ok (X:=aR X N sc C s H ex) (ml (mr (mr q))) (g8 o nd) h3
  have tZ:=λC s H ex=>g2.ok (X:=aR X N sc C s H ex) (ml (mr (mr (mr q)))) (g8 o nd) h4
  have pb:=λC s H ex=>b.ok (X:=aR X N sc C s H ex) (mr (mr (mr (mr q)))) (g8 o nd) h5
  exact Bq o (b:=λy p=>Bp pos p sc y X.env) (λ_ _ _=>rfl) (UL o.s o.N S o.l pi (λC s H ex=>(pg C s H ex).1) (λC s H ex=>(qX C s H ex).1) (λC s H ex=>(tZ C s H ex).1) pb (jo ni) (λ_=>jo (qX 0 X.s₀ X.H₀ []).2)) (λi y p sp w hb=>ai2 o.d w.1 w.2.1 o.s o.N S o.l pi (λC s H ex=>(pg C s H ex).1) (λC s H ex=>(qX C s H ex).1) (λC s H ex=>(tZ C s H ex).1) pb (congrArg pure hb) (jo ni) (λ_=>jo (qX 0 X.s₀ X.H₀ []).2) w.2.2) λσ H Q=>U7 I (λk j z=>by simpa[not_or]using hj k j z) (pg 0 X.s₀ X.H₀ []).2.1 (tZ 0 X.s₀ X.H₀ []).2.1
end L2
end
section
set_option compiler.extract_closed false
namespace TS
open PySem PySem.Spec PyProof.Rows
abbrev SM(α : Type):=StateT SortSt Sem α
abbrev PM(α : Type):=SortSt->Option (α × SortSt)
noncomputable def ai3{α τ : Type}(f:PM α)(g : τ -> PM α)(x:Option τ):PM α := match x with|none=>f|some v=>g v
noncomputable def ai4{α : Type}(c:Prop) [i:Decidable c](f g:PM α):PM α := match i with|.isTrue _=>f|.isFalse _=>g
noncomputable def fPr{α τ υ : Type}(g : τ -> υ -> PM α)(x : τ × υ):PM α := g x.1 x.2
noncomputable def ai5{α τ υ : Type}(g : τ -> υ -> PM α)(x:MProd τ υ):PM α := g x.1 x.2
def aP{α : Type}(m:SM α)(f:PM α):Prop:=∀(prog:Program) (w:World) (A:Around) (E:Value->Shared->Prop) (s:Shared) (st st':SortSt) (a : α),f st=some (a,st')->∀Q : α -> SortSt->Prop,Q a st'->wpS (model prog w) A E s m Q st
noncomputable def isOne(k:SortKind):Bool:=(sortPriv% PySem.Builtin.KeyKind.casesOn) (motive:=λ_=>Bool) k false true (λ_=>false)
noncomputable def CT{α : Type}(a : α):PM α := λst=>some (a,st)
noncomputable def KZ{α β : Type}(f:PM α)(g : α -> PM β):PM β := λst=>match f st with|some p=>g p.1 p.2|none=>none
noncomputable def ai6:PM SortSt:=λst=>some (st,st)
noncomputable def ai7(h:SortSt->SortSt):PM Unit:=λst=>some ((),h st)
noncomputable def ai8(h:SortSt):PM Unit:=λ_=>some ((),h)
noncomputable def ai9{α : Type}:PM α := λ_=>none
noncomputable def Zo(x y:Keyed):PM (Option Bool):=λst=>match isOne (kindOf st),x.1,y.1 with
 |true,.int a _,.int b _=>some (some (decide (a<b)),st)
 |_,_,_=>none
noncomputable def K1{β : Type}(h:Nat -> β -> PM (ForInStep β)):List Nat -> β -> PM β
 | [],b=>CT b
 |x::l,b=>KZ (h x b) λr=>match r with|.done b'=>CT b'|.yield b'=>K1 h l b'
theorem aP.pure{α : Type}{a : α}:aP (pure a:SM α) (CT a):=λ_ _ _ _ _ st st' b e Q q=>by
 cases e; exact wpS_pure q
theorem aP.bind{α β : Type}{m:SM α}{k : α -> SM β}{f:PM α}{g : α -> PM β}(hm:aP m f)(hk:∀a,aP (k a) (g a)):aP (m >>= k) (KZ f g):=λ_ _ _ _ _ st st' b e Q q=>by
 unfold KZ at e
 cases h:f st with
 |none=>rw[h]at e; cases e
 |some p =>
  rw[h]at e
  exact wpS_bind (hm _ _ _ _ _ _ _ _ h _ (hk p.1 _ _ _ _ _ _ _ _ e _ q))
theorem aP.get:aP (get:SM SortSt) ai6:=λ_ _ _ _ _ st st' b e Q q=>by
 cases e; exact wpS_get q
theorem aP.mod{h:SortSt->SortSt}:aP (modify h:SM PUnit) (ai7 h):=λ_ _ _ _ _ st st' b e Q q=>by
 cases e; exact wpS_modify q
theorem aP.set{h:SortSt}:aP (set h:SM PUnit) (ai8 h):=λ_ _ _ _ _ st st' b e Q q=>by
 cases e; exact wpS_modify (f:=λ_=>h) q
theorem aP.rule{x:String}:aP (liftM (rule x):SM Unit) (CT ()):=λ_ _ _ _ _ st st' b e Q q=>by
 cases e; exact wpS_lift (wpAny_rule ⟨rfl,q⟩)
theorem aP.bad{α : Type}{m:SM α}:aP m ai9:=λ_ _ _ _ _ st st' b e Q q=>by cases e
theorem aP.ite{α : Type}{c:Prop} [i:Decidable c]{a b:SM α}{f g:PM α}(h1:aP a f)(h2:aP b g):aP (if c then a else b) (ai4 c f g):=by
 cases i with
 |isTrue h=>rw[if_pos h]; exact h1
 |isFalse h=>rw[if_neg h]; exact h2
theorem aP.opt{α τ : Type}{x:Option τ}{a:SM α}{b : τ -> SM α}{f:PM α}{g : τ -> PM α}(h1:aP a f)(h2:∀v,aP (b v) (g v)):aP (Option.casesOn x a b) (ai3 f g x):=by
 cases x with
 |none=>exact h1
 |some v=>exact h2 v
theorem aP.prod{α τ υ : Type}{x : τ × υ}{b : τ -> υ -> SM α}{g : τ -> υ -> PM α}(h2:∀u v,aP (b u v) (g u v)):aP (Prod.casesOn x b) (fPr g x):=by
 cases x with
 |mk u v=>exact h2 u v
theorem aP.kO{α τ υ : Type}{x:MProd τ υ}{b : τ -> υ -> SM α}{g : τ -> υ -> PM α}(h2:∀u v,aP (b u v) (g u v)):aP (MProd.casesOn x b) (ai5 g x):=by
 cases x with
 |mk u v=>exact h2 u v
theorem aP.lt{x y:Keyed}:aP (lt' x y) (Zo x y):=λ_ _ _ _ _ st st' b e Q q=>by
 unfold Zo at e
 split at e
 .rename_i a _ b _ hk hx hy
  cases e
  rw[lt'_eq]
  refine wpS_bind (wpS_get ?_)
  have hk':kindOf st=oneType':=by
   cases hh:kindOf st <;> rw[hh]at hk <;> first|rfl|cases hk
  rw[hk',keyLt'_oneType,hx,hy]
  refine wpS_bind (wpS_lift (wpAny_attempt (oneLt_int ⟨rfl,?_⟩)))
  exact wpS_pure q
 .cases e
theorem aP.list{β : Type}{g:Nat -> β -> SM (ForInStep β)}{h:Nat -> β -> PM (ForInStep β)}(H:∀i b,aP (g i b) (h i b)):∀(l:List Nat) (b : β),aP (forIn l b g) (K1 h l b)
 | [],b=>by rw[List.forIn_nil]; exact aP.pure
 |x::l,b=>by
  rw[List.forIn_cons]
  refine aP.bind (H x b) λr=>?_
  cases r with
  |done b'=>exact aP.pure
  |yield b'=>exact aP.list H l b'
theorem aP.range{β : Type}{a b:Nat}{c : β}{g:Nat -> β -> SM (ForInStep β)}{h:Nat -> β -> PM (ForInStep β)}(H:∀i b,aP (g i b) (h i b)):aP (forIn [a:b] c g) (K1 h (List.range' a (b-a)) c):=by
 rw[Std.Legacy.Range.forIn_eq_forIn_range']
 have hsz:([a:b]:Std.Legacy.Range).size=b-a:=by simp[Std.Legacy.Range.size]
 show aP (forIn (List.range' a ([a:b]:Std.Legacy.Range).size 1) c g) _
 rw[hsz]
 exact aP.list H _ _
end TS
end
section
set_option compiler.extract_closed false
set_option smartUnfolding false
namespace TS
open PySem PySem.Spec PyProof.Rows
structure D{α : Type}(m:SM α) where
 f:PM α
 ok:aP m f
noncomputable section
variable {α β τ υ : Type}
noncomputable def D.pure{a : α}:D (pure a:SM α):=⟨_,aP.pure⟩
noncomputable def D.bind{m:SM α}{k : α -> SM β}(dm:D m)(dk:∀a,D (k a)):D (m >>= k):=⟨_,aP.bind dm.ok λa=>(dk a).ok⟩
noncomputable def D.get:D (get:SM SortSt):=⟨_,aP.get⟩
noncomputable def D.mod{h:SortSt->SortSt}:D (modify h:SM PUnit):=⟨_,aP.mod⟩
noncomputable def D.set{h:SortSt}:D (set h:SM PUnit):=⟨_,aP.set⟩
noncomputable def D.rule{x:String}:D (liftM (rule x):SM Unit):=⟨_,aP.rule⟩
noncomputable def D.bad{x:String}:D (liftM (unsupported x:Sem α):SM α):=⟨_,aP.bad⟩
noncomputable def D.ite{c:Prop} [i:Decidable c]{a b:SM α}(h1:D a)(h2:D b):D (ite c a b):=⟨_,aP.ite h1.ok h2.ok⟩
noncomputable def D.opt{x:Option τ}{a:SM α}{b : τ -> SM α}(h1:D a)(h2:∀v,D (b v)):D (Option.casesOn x a b):=⟨_,aP.opt h1.ok λv=>(h2 v).ok⟩
noncomputable def D.prod{x : τ × υ}{b : τ -> υ -> SM α}(h2:∀u v,D (b u v)):D (Prod.casesOn x b):=⟨_,aP.prod λu v=>(h2 u v).ok⟩
noncomputable def D.kO{x:MProd τ υ}{b : τ -> υ -> SM α}(h2:∀u v,D (b u v)):D (MProd.casesOn x b):=⟨_,aP.kO λu v=>(h2 u v).ok⟩
noncomputable def D.sp{x:Option τ}{b : τ -> SM α}{a:Nat.hasNotBit 2 (Option.ctorIdx x)->SM α}(h2:∀v,D (b v))(h1:∀h,D (a h)):D ((sortPriv% PySem.Builtin.countRun._sparseCasesOn_1) (motive:=λ_=>SM α) x b a):=by
 cases x with
 |none=>exact h1 _
 |some v=>exact h2 v
noncomputable def D.lt{x y:Keyed}:D (lt' x y):=⟨_,aP.lt⟩
noncomputable def D.range{a b:Nat}{c : β}{g:Nat -> β -> SM (ForInStep β)}(H:∀i b,D (g i b)):D (forIn [a:b] c g):=⟨_,aP.range λi b=>(H i b).ok⟩
noncomputable def nth{α : Type}:List α -> Nat->Option α
 | [],_=>none
 |a::_,0=>some a
 |_::l,i+1=>nth l i
theorem Zq{α : Type}:∀(l:List α) (i:Nat),nth l i=l[i]?
 | [],_=>rfl
 |a::_,0=>rfl
 |_::l,i+1=>Zq l i
noncomputable def xU(a:Array Keyed)(i:Nat):D (elem' a i):=⟨λst=>match nth a.toList i with
 |some p=>some (p,st)
 |none=>none,λ_ _ _ _ _ st st' b e Q q=>by
 rw[Zq,Array.getElem?_toList]at e
 rw[elem'_eq]
 cases h:a[i]? <;> rw[h]at e <;> cases e
 exact wpS_pure q⟩
noncomputable def Zr(i j:Nat):D (ltAt' i j):=by
 repeat' first|intro _|exact xU _ _|apply D.get|apply D.lt|apply D.bind
end
end TS
end
section
set_option compiler.extract_closed false
set_option smartUnfolding false
namespace TS
open PySem PySem.Spec PyProof.Rows
noncomputable section
noncomputable def aja:Bool->Keyed->Array Keyed->Nat->Nat->Nat->SM (Option Nat):=sortPriv% PySem.Builtin.gallop
noncomputable def ajb:Array Keyed->Array Keyed->SM (Array Keyed):=sortPriv% PySem.Builtin.mergeLo
noncomputable def ajc:Array Keyed->Array Keyed->SM (Array Keyed):=sortPriv% PySem.Builtin.mergeHi
noncomputable def ajd(i j:Nat):D (reverseSlice' i j):=by(repeat' first|intro _|apply D.pure|exact D.rule|exact D.bad|apply D.get|apply D.mod|apply D.set|apply D.lt|apply D.bind|apply D.ite|apply D.range|apply D.opt|apply D.prod|apply D.kO|apply D.sp)
noncomputable def mv{α : Type}(d:Nat):Nat->List α -> List α
 |_,[]=>[]
 | 0,a::l=>match(a::l)[d]? with
  |some x=>x::(a::l).eraseIdx d
  |none=>a::l
 |n+1,a::l=>a::mv d n l
theorem Zt{α : Type}(d:Nat):∀(n:Nat) (l:List α),n+d<l.length->∀k:Nat,(mv d n l)[k]?=if k=n then l[n+d]? else if n<k/\k<=n+d then l[k-1]? else l[k]?
 |_,[],h,k=>by simp at h
 | 0,a::l,h,k=>by
  have e:(a::l)[d]?=some ((a::l)[d]'(by omega)):=List.getElem?_eq_getElem (by omega)
  have z:mv d 0 (a::l)=(a::l)[d]'(by omega)::(a::l).eraseIdx d:=by
   show(match(a::l)[d]? with
    |some x=>x::(a::l).eraseIdx d
    |none=>a::l)=_
   rw[e]
  rw[z]
  cases k with
  |zero=>rw[if_pos rfl,Nat.zero_add,e]; rfl
  |succ k =>
   rw[if_neg (by omega),List.getElem?_cons_succ,List.getElem?_eraseIdx]
   by_cases c:k<d
   .rw[if_pos c,if_pos (by omega)]; rfl
   .rw[if_neg c,if_neg (by omega)]
 |n+1,a::l,h,k=>by
  unfold mv
  cases k with
  |zero=>rw[if_neg (by omega),if_neg (by omega)]; rfl
  |succ k =>
   have:=Zt d n l (by rw[List.length_cons]at h; omega) k
   rw[List.getElem?_cons_succ,this]
   have e1:(a::l)[n+1+d]?=l[n+d]? := by rw[show n+1+d=n+d+1 by omega]; rfl
   by_cases c:k=n
   .rw[if_pos c,if_pos (by omega),e1]
   .by_cases e:n<k/\k<=n+d
    .rw[if_neg c,if_pos e,if_neg (by omega),if_pos (by omega)]
     obtain⟨q,rfl⟩:∃q,k=q+1:=⟨k-1,by omega⟩
     rfl
    .rw[if_neg c,if_neg e,if_neg (by omega),if_neg (by omega)]
     rfl
noncomputable def K3{α β : Type}:List α -> (List α -> β) -> β
 | [],k=>k []
 |a::l,k=>K3 l λr=>k (a::r)
theorem Zu{α β : Type}:∀(l:List α) (k:List α -> β),K3 l k=k l
 | [],k=>rfl
 |a::l,k=>Zu l _
theorem aje{xs:Array Keyed}(h:i<xs.size)(hj:j<=i):(mv (i-j) j xs.toList).toArray=bubble xs i (i-j):=by
 refine Array.ext_getElem? λk=>?_
 rw[getElem?_bubble h _ (by omega),List.getElem?_toArray,Zt _ _ _ (by rw[Array.length_toList]; omega),Array.getElem?_toList,Array.getElem?_toList,Array.getElem?_toList]
 rw[show i-(i-j)=j by omega,show j+(i-j)=i by omega]
noncomputable def ajf(i j:Nat):D (moveDown' i j):=⟨λst=>if i<(arrOf st).toList.length/\j<=i then K3 (mv (i-j) j (arrOf st).toList) λl=>some ((),setArr st l.toArray)else none,λ_ _ _ _ _ st st' b e Q q=>by
 dsimp only at e
 split at e
 .rename_i h
  rw[Zu,aje (by rw[<-Array.length_toList]; exact h.1) h.2]at e
  cases e
  rw[moveDown'_eq]
  exact wpS_modify q
 .cases e⟩
set_option trace.profiler false
noncomputable def ajg(lo n:Nat):D (countRun' lo n):=by
 repeat' first|intro _|exact Zr _ _|exact ajd _ _|apply D.pure|exact D.rule|apply D.bind|apply D.ite|apply D.range|apply D.opt|apply D.prod|apply D.kO|apply D.sp
noncomputable def ajh(lo n ok:Nat):D (binarySort' lo n ok):=by
 repeat' first|intro _|exact Zr _ _|exact ajf _ _|apply D.pure|exact D.rule|apply D.bind|apply D.ite|apply D.range|apply D.opt|apply D.prod|apply D.kO|apply D.sp
noncomputable def K4(l:Bool)(k:Keyed)(a:Array Keyed)(b n h:Nat):D (aja l k a b n h):=by
 repeat' first|intro _|exact xU _ _|apply D.pure|exact D.rule|apply D.lt|apply D.bind|apply D.ite|apply D.range|apply D.opt|apply D.prod|apply D.kO|apply D.sp
end
end TS
end
section
set_option maxHeartbeats 40000000
set_option compiler.extract_closed false
set_option smartUnfolding false
namespace TS
open PySem PySem.Spec PyProof.Rows
noncomputable section
noncomputable def aji:Nat->SM Unit:=sortPriv% PySem.Builtin.setMinGallop
noncomputable def Zv(g:Nat):D (aji g):=by(repeat' first|intro _|apply D.pure|exact D.rule|exact D.bad|apply D.get|apply D.mod|apply D.set|apply D.lt|apply D.bind|apply D.ite|apply D.range|apply D.opt|apply D.prod|apply D.kO|apply D.sp)
noncomputable def dLo(x y:Array Keyed):D (ajb x y):=by
 repeat' first|intro _|exact xU _ _|exact K4 _ _ _ _ _ _|exact Zv _|apply D.pure|exact D.rule|exact D.bad|apply D.lt|apply D.get|apply D.bind|apply D.ite|apply D.range|apply D.opt|apply D.prod|apply D.kO|apply D.sp
end
end TS
end
section
set_option maxHeartbeats 40000000
set_option compiler.extract_closed false
set_option smartUnfolding false
namespace TS
open PySem PySem.Spec PyProof.Rows
noncomputable section
noncomputable def dHi(x y:Array Keyed):D (ajc x y):=by
 repeat' first|intro _|exact xU _ _|exact K4 _ _ _ _ _ _|exact Zv _|apply D.pure|exact D.rule|exact D.bad|apply D.lt|apply D.get|apply D.bind|apply D.ite|apply D.range|apply D.opt|apply D.prod|apply D.kO|apply D.sp
end
end TS
end
section
set_option maxHeartbeats 40000000
set_option compiler.extract_closed false
set_option smartUnfolding false
namespace TS
open PySem PySem.Spec PyProof.Rows
noncomputable section
noncomputable def dAt(i:Nat):D (mergeAt' i):=by
 repeat' first|intro _|exact xU _ _|exact K4 _ _ _ _ _ _|exact dLo _ _|exact dHi _ _|apply D.pure|exact D.rule|exact D.bad|apply D.set|apply D.mod|apply D.get|apply D.bind|apply D.ite|apply D.range|apply D.opt|apply D.prod|apply D.kO|apply D.sp
noncomputable def Zw:D sortRuns':=by
 repeat' first|intro _|exact ajg _ _|exact ajh _ _ _|exact dAt _|apply D.pure|exact D.rule|exact D.bad|apply D.set|apply D.mod|apply D.get|apply D.bind|apply D.ite|apply D.range|apply D.opt|apply D.prod|apply D.kO|apply D.sp
end
noncomputable def K5(ks:List Int)(tk:Nat->Tok)(v:Nat->Value):List Keyed:=ks.zipIdx.map λp=>(Value.int p.1 (tk p.2),v p.2)
noncomputable abbrev st0(ks:List Int)(tk:Nat->Tok)(v:Nat->Value):SortSt:=SortSt.mk' oneType' (K5 ks tk v).toArray #[] 7 none
noncomputable def CV(ks:List Int)(tk:Nat->Tok)(v:Nat->Value):Option (List Value):=match Zw.f (st0 ks tk v)with
 |some r=>match failedOf r.2 with
  |none=>some ((arrOf r.2).toList.map (·.2))
  |some _=>none
 |none=>none
def jN(ks:List Int)(p:List Nat):Prop:=(p.length=ks.length/\∀i∈p,i<ks.length)/\∀tk v,CV ks tk v=some (p.map v)
theorem jN.uniq(h:jN ks p)(h':jN ks q):p=q:=by
 have e:=(h.2 (λ_=>0) (λi=>.int i 0)).symm.trans (h'.2 _ _)
 refine(List.map_inj_right λx y z=>?_).mp (Option.some.inj e)
 injection z with z
 exact Int.ofNat_inj.mp z
noncomputable def nO(ks:List Int):Option (List Nat):=by
 classical exact if h:∃p,jN ks p then some h.choose else none
theorem ajj(h:jN ks p):nO ks=some p:=by
 unfold nO
 have e:∃p,jN ks p:=⟨p,h⟩
 rw[dif_pos e,e.choose_spec.uniq h]
theorem ajk(h:nO ks=some p):jN ks p:=by
 unfold nO at h
 split at h
 .rename_i e
  cases h
  exact e.choose_spec
 .cases h
end TS
namespace L2
open PySem PySem.Spec PyProof.Rows PySem.W TS
section
variable {X:Cx}{pins:LO}{σ : St}{H:Hp}{s:Shared}{a kS:Addr}{ks:List Int}{vs:List Value}{p:List Nat}{keys:Array Value}
theorem ajl{st:SortSt}(I:Inv X pins σ H s)(fk:bD X pins H kS)(fa:bD X pins H a)(ne:kS≠a)(hk:s.heap.get? kS=some (seqObj "list" keys e)) (ha:s.heap.get? a=some (seqObj "list" #[] e1)) (hks:keys.size<=1000) (hst:(arrOf st).size<=1000) (fl:failedOf st=none)
  (h:∀s' c,Inv X pins σ H s'->s'.heap.get? a=some (seqObj "list" ((arrOf st).map (·.2)) c)->P (.done (.ret .none)) s'):wpAny (model X.prog X.w) X.A.in1.in1 (ksk_tail a false e1 (.ref kS) st) P E s:=by
 refine wpAny_bind (listUpdate_at hk rfl ?_ (by rw[sizeLine_eq]; lia) (Nat.zero_le _))
 refine wpAny_bind (wpAny_letGo ?_)
 have I1:=I.wr (g:=λ_=>#[]) (t':=s.toks) fk
 have ha1:(s.heap.update kS (Obj.mapSeq λ_=>(#[]:Array Value))).get? a=some (seqObj "list" #[] e1):=((Heap.SameBut.update s.heap kS _).2 a (Ne.symm ne)).trans ha
 refine wpAny_bind (seqEpoch_at ha1 rfl ?_)
 refine wpAny_bind (listUpdate_at ha1 rfl ?_ (Nat.zero_le _) (by simp only[Bool.false_eq_true,if_false,Array.size_map]; rw[sizeLine_eq]; lia))
 rw[fl]
 simp only[bne_self_eq_false,Bool.false_eq_true,if_false]
 exact wpAny_pure (h _ _ (I1.wr (t':=s.toks) fa) (get?_update_seq ha1 _))
theorem ajm(I:Inv X pins σ H s)(fk:bD X pins H kS)(fa:bD X pins H a)(ne:kS≠a)(hk:s.heap.get? kS=some (seqObj "list" keys e)) (ha:s.heap.get? a=some (seqObj "list" #[] e1))
  (hK:∀i v,keys[i]?=some v->∃t,v=Value.int (ks.getD i 0) t) (hl:vs.length=ks.length) (hkn:keys.size=ks.length) (h2:2<=ks.length) (hm:ks.length<=1000) (hp:jN ks p)
  (h:∀s' c,Inv X pins σ H s'->s'.heap.get? a=some (seqObj "list" (p.map λi=>vs.getD i .none).toArray c)->P (.done (.ret .none)) s'):wpAny (model X.prog X.w) X.A.in1.in1 (ksk_end a false vs.toArray e1 (.ref kS) keys) P E s:=by
 have hi:IntsAre keys.toList (keys.toList.map numOf):=by
  refine intsAre_map _ λv hv=>?_
  obtain⟨i,hi,e⟩:=List.getElem_of_mem hv
  obtain⟨t,z⟩:=hK i v (by rw[<-e]; simp[Array.getElem?_eq_getElem (show i<keys.size by simpa using hi)])
  exact⟨_,t,z⟩
 unfold ksk_end
 simp only[Bool.false_eq_true,if_false]
 rw[List.size_toArray,hl,if_neg (by lia),if_neg (by lia)]
 refine wpAny_bind ?_
 rw[ksk_kind hi (by lia)]
 refine wpAny_pure ?_
 obtain⟨tk,htk⟩:∃tk:Nat->Tok,∀i v,keys[i]?=some v->v=Value.int (ks.getD i 0) (tk i):=by
  refine⟨λi=>match keys[i]? with|some (.int _ t)=>t|_=>0,λi v q=>?_⟩
  obtain⟨t,rfl⟩:=hK i v q
  dsimp only
  rw[q]
 have ea:keys.zip vs.toArray=(K5 ks tk λi=>vs.getD i .none).toArray:=by
  refine Array.ext_getElem? λi=>?_
  rw[<-Array.getElem?_toList,ksk_zip,List.getElem?_toArray]
  unfold K5
  rw[List.getElem?_map,List.getElem?_zipIdx]
  by_cases c:i<ks.length
  .have q:=htk i keys[i] (getElem?_pos _ _ (by lia))
   rw[List.getElem?_eq_getElem c,(List.getElem?_zip_eq_some (z:=(keys[i]'(by lia),vs[i]'(by lia)))).mpr ⟨by simp[Array.getElem?_toList],by simp⟩]
   simp only[Option.map_some,Nat.zero_add]
   rw[q]
   simp[List.getD_eq_getElem?_getD,List.getElem?_eq_getElem c,List.getElem?_eq_getElem (show i<vs.length by lia)]
  .rw[List.getElem?_eq_none (by rw[List.length_zip,Array.length_toList]; lia),List.getElem?_eq_none (by lia)]
   rfl
 rw[ea]
 have ho:=hp.2 tk λi=>vs.getD i .none
 unfold CV at ho
 split at ho
 case h_2=>cases ho
 rename_i r er
 split at ho
 case h_2=>cases ho
 rename_i ef
 have ho:=Option.some.inj ho
 obtain⟨⟨⟩,st⟩:=r
 have ln:(arrOf st).size<=1000:=by
  have:=congrArg List.length ho
  rw[List.length_map,List.length_map,Array.length_toList,hp.1.1]at this
  exact this▸hm
 refine wpAny_bind (wpAny_mono (Zw.ok _ _ _ _ _ _ _ _ er (λ_ t=>t=st) rfl) ?_ λ_ _ z=>z)
 rintro⟨⟨⟩,t⟩ s' ⟨rfl,rfl⟩
 refine ajl I fk fa ne hk ha (by lia) ln ef λs' c I' e'=>h s' c I' ?_
 rw[e',<-ho,<-Array.toList_map,Array.toArray_toList]
def Zx(X:Cx)(pins:LO)(σ : St)(H:Hp)(ks:List Int)(vs:List Value)(f:Value):Prop :=
 ∀(jf:LO) (i:Nat) (v:Value) (s':Shared),vs[i]?=some v->(∀p∈pins,p∈jf)->Inv X jf σ H s' ->
  wpAny (model X.prog X.w) X.A.in1.in1 (call f [v]) (λk s''=>(∃t,k=Value.int (ks.getD i 0) t)/\Inv X jf σ H s'') (λ_ _=>False) s'
theorem ajn(I:Inv X pins σ H s)(fk:bD X pins H kS)(fa:bD X pins H a)(ne:kS≠a)(hk:s.heap.get? kS=some (seqObj "list" #[] 0)) (ha:s.heap.get? a=some (seqObj "list" #[] e1))
  (hl:vs.length=ks.length) (h2:2<=ks.length) (hm:ks.length<=1000) (key:Zx X pins σ H ks vs f) (hp:jN ks p)
  (h:∀s' c,Inv X pins σ H s'->s'.heap.get? a=some (seqObj "list" (p.map λi=>vs.getD i .none).toArray c)->P (.done (.ret .none)) s') :
  wpAny (model X.prog X.w) X.A.in1.in1 (ksk_rest a f false vs.toArray e1 (.ref kS)) P E s:=by
 unfold ksk_rest
 refine wpAny_bind (wpAny_rule ?_)
 rw[<-Array.forIn_toList]
 refine wpAny_bind (ksk_fold (λi s'=>∃kA e,Inv X pins σ H s'∧s'.heap.get? kS=some (seqObj "list" kA e)∧s'.heap.get? a=some (seqObj "list" #[] e1)∧kA.size=i∧∀(j:Nat) v,kA[j]?=some v→∃t,v=Value.int (ks.getD j 0) t) vs 0 s
  ⟨#[],0,I,hk,ha,rfl,λj v z=>by simp at z⟩ ?_ ?_)
 .rintro j x s' hx ⟨kA,e,I',hk',ha',sz,hK⟩
  rw[Nat.zero_add]at sz ⊢
  have hj:j<vs.length:=(List.getElem?_eq_some_iff.mp hx).1
  have I2:=(I'.lD fa ha' (λv z=>by cases z)).lD (fk.lD (Ne.symm ne)) hk' (λv z=>by cases z)
  refine wpAny_bind (wpAny_attempt (wpAny_mono (key _ j x s' hx (λp hp=>List.mem_cons_of_mem _ (List.mem_cons_of_mem _ hp)) I2) (λv s'' he=>?_) λ_ _ z=>z.elim))
  obtain⟨kv,I3⟩:=he
  have p1:=I3.pin (kS,seqObj "list" kA e) (List.mem_append_right _ (List.mem_cons_self ..))
  have p2:=I3.pin (a,seqObj "list" #[] e1) (List.mem_append_right _ (List.mem_cons_of_mem _ (List.mem_cons_self ..)))
  have I4:=I3.sub λp hp=>List.mem_cons_of_mem _ (List.mem_cons_of_mem _ hp)
  refine wpAny_bind (listUpdate_at p1.1 rfl ?_ (by rw[sizeLine_eq]; lia) (Nat.le_trans (Nat.le_of_eq (Array.size_push ..)) (by rw[sizeLine_eq]; lia)))
  refine wpAny_pure ⟨rfl,kA.push v,_,I4.wr (t':=s''.toks) fk,get?_update_seq p1.1 _,((Heap.SameBut.update s''.heap kS _).2 a (Ne.symm ne)).trans p2.1,by rw[Array.size_push,sz],λi u q=>?_⟩
  rw[Array.getElem?_push]at q
  split at q
  .rename_i z
   cases q
   rw[z,sz]
   exact kv
  .exact hK i u q
 .rintro s' ⟨kA,e,I',hk',ha',sz,hK⟩
  refine wpAny_bind (listItems_at hk' rfl ?_)
  exact ajm I' fk fa ne hk' ha' hK hl (by lia) h2 hm hp h
theorem ajo(I:Inv X pins σ H s)(fa:bD X pins H a)(ha:s.heap.get? a=some (seqObj "list" vs.toArray c0))
  (hl:vs.length=ks.length) (h2:2<=ks.length) (hm:ks.length<=1000) (key:Zx X pins σ H ks vs f) (hp:jN ks p)
  (h:∀s' c,Inv X pins σ H s'->s'.heap.get? a=some (seqObj "list" (p.map λi=>vs.getD i .none).toArray c)->P (.done (.ret .none)) s') :
  wpAny (model X.prog X.w) X.A.in1.in1 (ksk_tree a f false) P E s:=by
 refine wpAny_bind (listItems_at ha rfl ?_)
 refine wpAny_bind (listUpdate_at ha rfl ?_ (by rw[List.size_toArray,sizeLine_eq]; lia) (Nat.zero_le _))
 have I1:=I.wr (g:=λ_=>#[]) (t':=s.toks) fa
 obtain⟨e1,ha1⟩:∃e1,(s.heap.update a (Obj.mapSeq λ_=>(#[]:Array Value))).get? a=some (seqObj "list" #[] e1):=⟨_,get?_update_seq ha _⟩
 refine wpAny_bind (seqEpoch_at ha1 rfl ?_)
 refine wpAny_bind (wpAny_newTuple ?_ (by show vs.toArray.toList.length<=_; rw[List.toList_toArray,sizeLine_eq]; lia))
 refine wpAny_bind (wpAny_newList ?_ (Nat.zero_le _))
 have I2:Inv X pins σ H {s with heap:=(s.heap.update a (Obj.mapSeq λ_=>(#[]:Array Value))).push {cls:=.type "tuple",data:=.seq vs.toArray.toList.toArray } }:=I1.kept (t':=s.toks) λb o e=>Heap.get?_push_of_some _ e
 have I3:Inv X pins σ H {s with heap:=((s.heap.update a (Obj.mapSeq λ_=>(#[]:Array Value))).push {cls:=.type "tuple",data:=.seq vs.toArray.toList.toArray }).push {cls:=.type "list",data:=.seq ([]:List Value).toArray } }:=I2.kept (t':=s.toks) λb o e=>Heap.get?_push_of_some _ e
 have lt:a<((s.heap.update a (Obj.mapSeq λ_=>(#[]:Array Value))).push {cls:=.type "tuple",data:=.seq vs.toArray.toList.toArray }).objs.size:=by
  rw[size_push',Heap.size_update]
  exact Nat.lt_succ_of_lt (Heap.lt_size ha)
 refine wpAny_holding ?_
 exact ajn I3 (I2.jg (Nat.le_refl _) (I2.hok.fresh (Nat.le_refl _))) fa (Nat.ne_of_gt lt) (Heap.get?_push_size _ rfl) (Heap.get?_push_of_some _ (Heap.get?_push_of_some _ ha1)) hl h2 hm key hp h
theorem ajp{l:Addr}{xs:List V}(hr:dK k X.A)(I:Inv X pins σ H s)(hq:aF X.K H l xs)(hx:∀i x,xs[i]?=some x->∃(q:Addr) (ns:List Int),x=.ref q/\aF X.K H q (ns.map V.int)/\ks.getD i 0=ns.sum)
  (hl:xs.length=ks.length) (h2:2<=ks.length) (hm:ks.length<=1000) (hp:jN ks p)
  (h:∀s' D,H D=none->Inv X pins σ (upd H D (.lst (p.map λi=>xs.getD i .non))) s'->Q (.ref D) s') :
  wpAny (model X.prog X.w) X.A (call (.builtin "sorted") [.ref l] [(Str.ofString "key",.builtin "sum")]) Q E s:=by
 obtain⟨vs,r,pl,hz⟩:=I.list hq
 have hl':=r.length
 refine call_function_entry_kw kind_sorted plain_sorted entry_sorted (ksk_s1 _ _) ?_
 refine wpAny_bind (m:=checkCount "sorted" 1 1 _) (wpAny_pure ?_)
 refine wpAny_bind (collect_list pl.isList ?_ (by rw[sizeLine_eq]; lia))
 have keep:∀b o,s.heap.get? b=some o->((s.heap.push (seqObj "list" #[] 0)).update s.heap.objs.size (Obj.mapSeq (· ++ vs.toArray))).get? b=some o:=λb o e =>
  ((Heap.SameBut.update _ _ _).2 b (Nat.ne_of_lt (Heap.lt_size e))).trans (Heap.get?_push_of_some _ e)
 generalize (s.heap.push (seqObj "list" #[] 0)).update s.heap.objs.size (Obj.mapSeq (· ++ vs.toArray))=h1 at keep
 have I1:Inv X pins σ H {s with heap:=h1 }:=I.kept (t':=s.toks) keep
 refine wpAny_bind (wpAny_newList ?_ (by rw[sizeLine_eq]; lia))
 have I2:Inv X pins σ H {s with heap:=h1.push {cls:=.type "list",data:=.seq vs.toArray } }:=I1.kept (t':=s.toks) λb o e=>Heap.get?_push_of_some _ e
 have ha:(h1.push {cls:=.type "list",data:=.seq vs.toArray }).get? h1.objs.size=some (seqObj "list" vs.toArray 0):=Heap.get?_push_size _ rfl
 refine wpAny_bind (wpAny_holding (wpAny_call_entry_kw slot_list_sort ⟨_,ha,rfl⟩ entry_list_sort ?_ (ksk_l1 _ _)))
 rw[ksk_t4]
 have fa:=I1.jg (Nat.le_refl _) (I1.hok.fresh (Nat.le_refl _))
 refine ajo I2 fa ha (by lia) h2 hm (λjf i v s' hv sub I'=>?_) hp λs' c I' e'=>⟨_,rfl,?_⟩
 .have hi:i<xs.length:=by
   have:=(List.getElem?_eq_some_iff.mp hv).1
   lia
  obtain⟨q,ns,ex,hs,es⟩:=hx i xs[i] (List.getElem?_eq_getElem hi)
  obtain⟨u,hu,ru⟩:=Vals.get r (List.getElem?_eq_getElem hi)
  rw[hv]at hu
  cases hu
  rw[ex]at ru
  cases ru
  obtain⟨its,r',pl',_⟩:=I'.list hs
  obtain⟨ps,rfl,rfl⟩:=JG r'
  have hl:s'.heap.IsList q (intItems ps.toArray):=by
   have:intItems ps.toArray=(ps.map λp=>Value.int p.1 p.2).toArray:=by unfold intItems; simp
   rw[this]; exact pl'.isList
  refine sum_intListG (A:=X.A.in1.in1) hr.hd hl λg tk t' k=>⟨⟨t',?_⟩,I'.kept k⟩
  rw[es,preSum_eq,List.take_of_length_le (by simp)]
 .refine wpAny_pure ⟨_,rfl,h s' _ fa.1 (I'.track fa e' ?_ ?_)⟩
  .have go:∀p:List Nat,(∀i∈p,i<xs.length)->Vals (p.map λi=>xs.getD i .non) (p.map λi=>vs.getD i .none):=λp=>by
    induction p with
    |nil=>intro _; exact .nil
    |cons i p ih =>
     intro hm
     have hi:=hm i (List.mem_cons_self ..)
     obtain⟨u,hu,ru⟩:=Vals.get r (List.getElem?_eq_getElem hi)
     refine .cons ?_ (ih λj hj=>hm j (List.mem_cons_of_mem _ hj))
     show RelV (xs.getD i .non) (vs.getD i .none)
     rw[List.getD_eq_getElem?_getD,List.getD_eq_getElem?_getD,hu,List.getElem?_eq_getElem hi]
     exact ru
   exact go p λi hi=>by rw[hl]; exact hp.1.2 i hi
  .rw[List.length_map,hp.1.1,sizeLine_eq]; lia
def Zy(K:FZ)(ta:TA):TE:=λσ H Q=>ta σ H λvs H1=>∃(l:Addr) (xs:List V) (ks:List Int) (p:List Nat),vs=[.ref l]/\aF K H1 l xs/\(∀(i:Nat) x,xs[i]?=some x->∃(q:Addr) (ns:List Int),x=.ref q/\aF K H1 q (ns.map V.int)/\ks.getD i 0=ns.sum)/\xs.length=ks.length/\2<=ks.length/\ks.length<=1000/\jN ks p/\∀D,H1 D=none->Q (.ref D) (upd H1 D (.lst (p.map λi=>xs.getD i .non)))
theorem ajq(hr:dK k X.A)(h1:X.mg "sorted" = none) (h2:X.mg "sum" = none) (ha:PA X [e] ta)
  (hg:X.env.kindOf "sorted" = some .globalImplicit:=by kernel_rfl) (hg2:X.env.kindOf "sum" = some .globalImplicit:=by kernel_rfl) (hs:notStar e=true:=by kernel_rfl) :
  PE X (.Call (.Name "sorted" p1) [e] [⟨some (Str.ofString "key"),.Name "sum" p2,kp⟩] pos) (Zy X.K ta):=by
 refine⟨λpins s σ H Q I h=>?_⟩
 refine wpAny_Call_Name_kw (jT I hg h1 (by decide +kernel:bootBuiltins "sorted" = some (.builtin "sorted")) ?_ (by decide +kernel) (by kernel_rfl))
 refine callWith_kw (aC (ha pos pins s σ H _ I h) λus s1 ⟨vs,H1,I1,r1,q1⟩=>?_) (by rw[eY hs]; rfl) (by rw[eY hs]; rfl)
 obtain⟨l,xs,ks,p,rfl,hq,hx,hl,h2',hm,hp,q⟩:=q1
 obtain⟨u1,rfl,rx⟩:=vals1 r1
 cases rx
 refine kws_cons (jT I1 hg2 h2 (by decide +kernel:bootBuiltins "sum" = some (.builtin "sum")) ?_ (by decide +kernel) (by kernel_rfl))
 refine kws_nil ?_
 exact ajp hr I1 hq hx hl h2' hm hp λs' D nD I'=>⟨.ref D,_,I',rfl,q D nD⟩
end
noncomputable def Zz:Tr->Option Int
 |.lst ts=>(j8 ts).map List.sum
 |_=>none
noncomputable def xV:List Tr->Option (List Int)
 | []=>some []
 |t::r=>(Zz t).bind λa=>(xV r).map λb=>a::b
theorem ZC:∀{ts:List Tr} {ks:List Int},xV ts=some ks->ts.length=ks.length/\∀(i:Nat) t,ts[i]?=some t->∃ns:List Int,t=.lst (ns.map Tr.int)/\ks.getD i 0=ns.sum
 | [],ks,h=>by cases h; exact⟨rfl,λi t z=>by simp at z⟩
 |u::r,ks,h=>by
  unfold xV at h
  obtain⟨a,e1,h⟩:=Option.bind_eq_some_iff.mp h
  obtain⟨b,e2,rfl⟩:=Option.map_eq_some_iff.mp h
  obtain⟨l,g⟩:=ZC e2
  refine⟨by rw[List.length_cons,List.length_cons,l],λi t z=>?_⟩
  cases i with
  |zero =>
   rw[List.getElem?_cons_zero]at z
   cases z
   unfold Zz at e1
   split at e1
   .obtain⟨ns,e3,rfl⟩:=Option.map_eq_some_iff.mp e1
    exact⟨ns,by rw[Bt e3],rfl⟩
   .cases e1
  |succ i=>exact g i t z
noncomputable def CW(fa:AF):EF:=λρ=>(fa ρ).bind λp=>match p.1 with
 | [.v (.lst ts) _]=>match xV ts with
  |some ks=>match nO ks with
   |some q=>if 2<=ks.length/\ks.length<=1000 then .ok (.v (.lst (q.map λi=>ts.getD i .non)) true,p.2)else .bad
   |none=>.bad
  |none=>.bad
 |_=>.bad
theorem ZD{K:FZ}{G:Hp}{xs:List V}{ts:List Tr}(r:aq K G xs ts):∀p:List Nat,(∀i∈p,i<ts.length)->aq K G (p.map λi=>xs.getD i .non) (p.map λi=>ts.getD i .non)
 | [],_=>.nil
 |i::p,hm=>by
  have hi:=hm i (List.mem_cons_self ..)
  obtain⟨u,hu,ru⟩:=r.iK (List.getElem?_eq_getElem hi)
  refine .cons ?_ (ZD r p λj hj=>hm j (List.mem_cons_of_mem _ hj))
  show Rep _ _ (xs.getD i .non) (ts.getD i .non)
  rw[List.getD_eq_getElem?_getD,List.getD_eq_getElem?_getD,hu,List.getElem?_eq_getElem hi]
  exact ru
theorem ajr{K:FZ}(h:Te ⟨au K,xe⟩ (CW fa) σ H Q):Zy K (Ta ⟨au K,xe⟩ fa) σ H Q:=by
 obtain⟨R,ρ,G,F,e,h⟩:=h
 refine jC e .refl h λp h vs G1 H1 F1 e1 s1 v1=>?_
 obtain⟨rs,ρ1⟩:=p
 dsimp only at h v1 e1
 split at h
 case h_2=>exact h.elim
 rename_i ts fr
 split at h
 case h_2=>exact h.elim
 rename_i ks ek
 split at h
 case h_2=>exact h.elim
 rename_i pm ep
 split at h
 case isFalse=>exact h.elim
 rename_i h2
 obtain⟨G2,e2,s2,_,r⟩:=e1.vis e s1 v1 (ts:=[.lst ts]) rfl
 obtain⟨hl,hg⟩:=ZC ek
 have hp:=ajk ep
 cases r with
 |cons r r0 =>
  cases r0
  cases r with
  |lst q1 r1 =>
    have hlx:=r1.length
    refine⟨_,_,ks,pm,rfl,(e2.sub.seq q1).toK,λi x hx=>?_,by lia,h2.1,h2.2,hp,λD nD=>Ok.fin (t:=⟨au K,xe⟩) e2 s2 (.flt e2.sub nD) (.flt e2.sub nD ?_) h⟩
    .have hi:i<ts.length:=by
      have:=(List.getElem?_eq_some_iff.mp hx).1
      lia
     obtain⟨ns,en,es⟩:=hg i ts[i] (List.getElem?_eq_getElem hi)
     obtain⟨x',hx',rx⟩:=r1.iK (List.getElem?_eq_getElem hi)
     rw[hx]at hx'
     cases hx'
     rw[en]at rx
     cases rx with
     |lst q2 r2 =>
      have z:=Bu r2
      subst z
      exact⟨_,ns,rfl,(e2.sub.seq q2).toK,es⟩
    .exact ZD r1 pm λi hi=>by rw[hl]; exact hp.1.2 i hi
noncomputable def vSS(as:VA jE):VE (CW jE) where
 ck Γ e:=gO e λaK bf bF _=>atName aK λf _=>aM bf λx dg=>aQ dg (BJ bF λk v=>atName v λg _=>f == ("sorted" : Str)&&g == ("sum" : Str)&&k == ("key" : Str)&&jD Γ f&&jD Γ g&&Γ.B.contains f&&Γ.B.contains g&&as.ck Γ [x])
 cs:=as.cs
 ok q o h:=by
  walk_at "O"
  replace h:=Uy h
  obtain⟨k,v,_,rfl,h⟩:=h
  walk_at "O"
  simp only[an]at h
  obtain⟨⟨⟨⟨⟨⟨⟨h1,h2⟩,h3⟩,h4⟩,h5⟩,h6⟩,h7⟩,h8⟩:=h
  cases eq_of_beq h1
  cases eq_of_beq h2
  cases eq_of_beq h3
  obtain⟨pa,_,na⟩:=as.ok q o h8
  exact(ajq o.r (o.B _ (by simpa using h6)) (o.B _ (by simpa using h7)) pa (cZ o h4).1 (cZ o h5).1 (na _ (List.mem_cons_self ..))).imp λ_ _ _=>ajr
end L2
end
section
namespace K94
open PySem L2 BH
noncomputable def top(i:Nat):Stmt:=PySem.Challenge.pw_bestheads_k94_whole_no_fewer_lines.main.body.getD i (.Pass ⟨0,0,0,0⟩)
noncomputable section
noncomputable abbrev ZF:=(dC (sA 3 (aE (vC (.int 0)))) (dC (Ca 4 (wE (xK (ak (aj 0) (ak (aj 1) (ak (aG (aj 2) (aj 3)) ao)))))) (dC (sN (sW (fuL 2) (U6 (tK (aW wX (aj 4) (vC .non)))) (bC (aiO 3 (vC (.int 1))) (b1 (Ca 4 (wE (xK (ak (aj 0) (ak (aj 1) (ak (aG (aj 2) (aj 3)) ao)))))))))) (dR (JL (uf (wE (aj 3)) (uf (wM 4) JK)))))))
noncomputable abbrev ajs:DF:=JQ ZF
noncomputable def K6:FP:=nj 5 ajs
noncomputable abbrev ajt{f:AF}(a:VA f):=vF "first_sure" ["form", "count", "choices"] K6 9 a
noncomputable abbrev aju{f:AF}(a:VA f):=vFd "first_sure" ["form", "count", "choices"] K6 9 a
noncomputable abbrev ZG:=(dC (jm (Cj (ak (aj 0) (ak (aj 1) (ak (aj 2) ao))))) (dC (sA 3 (cC [none,some 0] ["rounds", "book"] (j5 (ak (dF (bR (ak (aG (aj 0) (vC (.int 0))) ao)) (vC (.int 1))) ao)) (gV 0) (d8 (ak (fH (f9 (ak (aj 0) ao)) (bR (ak (aj 1) ao))) (ak (f9 ao) ao))))) (dR (aju (ak (Cv (ak (aj 0) (ak (aj 1) ao))) (ak (aj 2) (ak (aj 3) ao)))))))
noncomputable abbrev ajv:DF:=JQ ZG
noncomputable def ZJ:FP:=nj 4 ajv
noncomputable abbrev ajw{f:AF}(a:VA f):=vF "by_rounds" ["book", "rule", "count"] ZJ 10 a
noncomputable abbrev ZK:=(dC (jm (Cj (ak (aj 0) (ak (aj 1) (ak (aj 2) ao))))) (dC (sA 3 (aE (Cv (ak (aj 0) (ak (aj 1) ao))))) (dC (sO 4 (aE (fH (vU [.int 0]) (bR (ak (aj 0) ao))))) (dC (Ca 5 (Vi (wE (xK (ak (aj 3) (ak (aj 2) (ak (d8 (ak (aj 4) (ak (f9 ao) ao))) ao))))))) (dC (sN (sW (λ_=>100) (U6 (tK (aW wX (aj 5) (vC .non)))) (bC (sA 6 (aE (Yd (ak (aG (aj 3) (vC (.int 0))) (ak (aj 4) (ak (aG (aj 3) (vC (.int 2))) ao)))))) (bC (sAx 4 (ahy (ak (aj 6) (ak (aj 4) (ak (bR (ak (aG (aj 0) (vC (.int 0))) ao)) ao)))) 1) (b1 (Ca 5 (Vi (wE (xK (ak (aj 3) (ak (aj 2) (ak (d8 (ak (aj 4) (ak (f9 ao) ao))) ao)))))))))))) (dR (JL (uf (JL (uf (wM 4) (uf (wE (f9 ao)) JK))) (uf (wM 5) JK)))))))))
noncomputable abbrev ajx:DF:=JQ ZK
noncomputable def ZL:FP:=nj 7 ajx
noncomputable abbrev ajy{f:AF}(a:VA f):=vF "by_hope" ["book", "rule", "count"] ZL 9 a
noncomputable abbrev ZM:=(bC (sA 2 (aE (vU [.lst []]))) (bC (sN (sF (j5 (ak (aj 0) ao)) (gV 3) (b1 (sA 2 (cC2 [none,none,some 1] ["row", "depth", "many"] (cu (aj 2)) (gV 0) (j5 (ak (dF (aj 2) (vC (.int 1))) ao)) (gV 1) (dF (aj 0) (f9 (ak (aj 1) ao)))))))) (b1 (aH (vSS (ak (aj 2) ao))))))
noncomputable abbrev ajz:SF:=by exists ZM
noncomputable def K7:FP:=aN 4 ajz
noncomputable abbrev ajA{f:AF}(a:VA f):=vF "all_depths" ["lists", "many"] K7 1 a
noncomputable abbrev ZP:=(bC (jm (Cj (ak (aj 0) (ak (aj 1) (ak (aj 2) ao))))) (bC (sI (tW .Or (wO (tK (aW uc (bR (ak (aj 0) ao)) (vG "MOST_LISTS_READ" (.int 3)))) (w1 .Or (tK (aW uc (bR (ak (aG (aj 0) (vC (.int 0))) ao)) (vG "MOST_THINGS_READ" (.int 8))))))) (b1 (qK "TooMany" (vC (.str "the least reading is told for at most three lists of eight things")))) b0) (bC (sA 3 (aE (ajA (ak (bR (ak (aj 0) ao)) (ak (bR (ak (aG (aj 0) (vC (.int 0))) ao)) ao))))) (bC (qJ (ajt (ak (Cv (ak (aj 0) (ak (aj 1) ao))) (ak (aj 2) (ak (gh (cC [none] ["row"] (cu (aj 3)) (gV 0) (d8 (ak (aj 0) (ak (f9 ao) ao))))) ao)))) (fQ 2 (bK (gV 4) (bK (gV 5) fP)))) (b1 (aH (d8 (ak (aG (aj 3) (aj 4)) (ak (aj 5) ao)))))))))
noncomputable abbrev ajB:SF:=by exists ZP
noncomputable def ZQ:FP:=aN 6 ajB
noncomputable abbrev ajC{f:AF}(a:VA f):=vF "least_reading" ["book", "rule", "count"] ZQ 10 a
noncomputable abbrev ZR:=(bC (sA 2 (aE (vC (.int 0)))) (bC (sI (tK (aW pD (aj 1) (bR (ak (aj 0) ao)))) (b1 (sA 2 (aE (aG (aj 0) (aj 1))))) b0) (bC (sI (tK (aW JD (aj 2) (JC (vC (.int 10)) (vC (.int 18))))) (b1 (aH (ig (BW (aj 2) (JC (vC (.int 10)) (vC (.int 18)))) (JC (vC (.int 10)) (vC (.int 60)))))) b0) (bC (sA 3 (aE (ig (dF (dF (fH (aj 2) (vC (.int 48271))) (fH (aj 1) (vC (.int 69621)))) (vC (.int 11))) (vC (.int 2147483629))))) (bC (sA 3 (aE (ig (fH (aj 3) (aj 3)) (vC (.int 2147483587))))) (b1 (aH (dF (fH (aj 3) (vC (.int 2147483563))) (ig (fH (aj 3) (aj 3)) (vC (.int 2147483563)))))))))))
noncomputable abbrev ajD:SF:=by exists ZR
noncomputable def K8:FP:=aN 4 ajD
noncomputable abbrev CZ{f:AF}(a:VA f):=vF "_law_cell" ["_law_script", "_law_k"] K8 1 a
noncomputable abbrev ZS:=(bC (sA 2 (aE (JF (ak (aj 0) ao)))) (bC (sA 3 (aE (JF (ak (aj 1) ao)))) (bC (sN (sW (U9 3) (tK (aW uc (aj 3) (vC (.int 0)))) (b1 (HW 2 3 (ak (aj 3) (ak (ig (aj 2) (aj 3)) ao)))))) (bC (sI (tK (aW pD (aj 1) (vC (.int 0)))) (b1 (sA 2 (aE (BW (vC (.int 0)) (aj 2))))) b0) (b1 (aH (d8 (ak (jJ (aj 0) (aj 2)) (ak (jJ (aj 1) (aj 2)) ao)))))))))
noncomputable abbrev ajE:SF:=by exists ZS
noncomputable def Dc:FP:=aN 4 ajE
noncomputable abbrev ZV{f:AF}(a:VA f):=vF "_law_frac" ["_law_top", "_law_bottom"] Dc 1 a
noncomputable abbrev ZW:=(bC (sA 4 (aE (CZ (ak (aj 0) (ak (aj 1) ao))))) (bC (sA 5 (aE (dF (vC (.int 1)) (ig (aj 4) (aj 3))))) (bC (sA 6 (aE (dF (vC (.int 1)) (ig (jJ (aj 4) (aj 3)) (aj 2))))) (bC (sA 7 (aE (aG (vU [.int 2,.int 3,.int 4,.int 6,.int 10,.int 24,.int 97,.int 999999999999]) (ig (jJ (aj 4) (vC (.int 1000))) (vC (.int 8)))))) (bC (sO 8 (aE (f9 ao))) (bC (sN (sF (j5 (ak (aj 6) ao)) (gV 9) (bC (sA 10 (aE (CZ (ak (aj 0) (ak (dF (dF (aj 1) (vC (.int 1))) (aj 9)) ao))))) (bC (sO 11 (aE (f9 ao))) (bC (sF (j5 (ak (aj 5) ao)) (gV 12) (bC (sI (tK (aW uc (aj 7) (vC (.int 100)))) (b1 (sA 10 (aE (CZ (ak (aj 0) (ak (ig (dF (dF (dF (aj 1) (vC (.int 1))) (aj 9)) (fH (vC (.int 5)) (aj 12))) (vC (.int 63))) ao)))))) b0) (bC (jm (wZ 11 (ak (ZV (ak (ig (aj 10) (dF (aj 7) (vC (.int 1)))) (ak (aj 7) ao))) ao))) (b1 (sA 10 (aE (jJ (aj 10) (dF (aj 7) (vC (.int 1)))))))))) (b1 (sZ 11 (jm (wZ 8 (ak (aj 11) ao)))))))))) (b1 (aH (aj 8)))))))))
noncomputable abbrev ajF:SF:=by exists ZW
noncomputable def K9:FP:=aN 13 ajF
noncomputable abbrev ajG{f:AF}(a:VA f):=vF "_law_book" ["_law_script", "_law_at", "_law_lists", "_law_most"] K9 2 a
noncomputable abbrev ZX:=(bC (sA 2 (aE (ig (aj 0) (vC (.int 7))))) (bC (sA 0 (aE (jJ (aj 0) (vC (.int 7))))) (bC (sI (tK (aW jt (aj 2) (vC (.int 0)))) (b1 (aH (vR [.str "least"]))) b0) (bC (sI (tK (aW jt (aj 2) (vC (.int 1)))) (b1 (aH (vR [.str "greatest"]))) b0) (bC (sI (tK (aW jt (aj 2) (vC (.int 2)))) (b1 (aH (d8 (ak (vC (.str "middle")) (ak (dF (vC (.int 1)) (ig (aj 0) (aj 1))) ao))))) b0) (bC (sI (tK (aW jt (aj 2) (vC (.int 3)))) (b1 (aH (vR [.str "product"]))) b0) (bC (sO 3 (aE (f9 ao))) (bC (sN (sF (j5 (ak (aj 1) ao)) (gV 4) (bC (jm (wZ 3 (ak (ZV (ak (ig (aj 0) (vC (.int 7))) (ak (dF (vC (.int 1)) (ig (jJ (aj 0) (vC (.int 7))) (vC (.int 4)))) ao))) ao))) (b1 (sA 0 (aE (jJ (aj 0) (vC (.int 28))))))))) (b1 (sZ 3 (aH (d8 (ak (vC (.str "shares")) (ak (aj 3) ao))))))))))))))
noncomputable abbrev ajH:SF:=by exists ZX
noncomputable def La:FP:=aN 5 ajH
noncomputable abbrev ajI{f:AF}(a:VA f):=vF "_law_rule" ["_law_number", "_law_lists"] La 2 a
noncomputable abbrev Z0:=(bC (sA 2 (aE (vU [.lst []]))) (bC (sN (sF (j5 (ak (aj 0) ao)) (gV 3) (bC (sA 4 (aE (f9 ao))) (bC (sF (cu (aj 2)) (gV 5) (b1 (sA 4 (aE (dF (aj 4) (gh (cC [none,some 5] ["_law_depth", "_law_row"] (j5 (ak (dF (aj 1) (vC (.int 1))) ao)) (gV 0) (dF (aj 1) (f9 (ak (aj 0) ao)))))))))) (b1 (sA 2 (aE (aj 4)))))))) (b1 (aH (aj 2)))))
noncomputable abbrev ajJ:SF:=by exists Z0
noncomputable def Lb:FP:=aN 6 ajJ
noncomputable abbrev ajK{f:AF}(a:VA f):=vF "_law_depths" ["_law_lists", "_law_most"] Lb 1 a
noncomputable abbrev Z1:=(bC (sA 1 (aE (ajG (ak (aj 0) (ak (vC (.int 0)) (ak (vC (.int 3)) (ak (vC (.int 4)) ao))))))) (bC (sA 2 (aE (ajI (ak (CZ (ak (aj 0) (ak (vC (.int 7)) ao))) (ak (bR (ak (aj 1) ao)) ao))))) (bC (sN (sF (j5 (ak (dF (bR (ak (aG (aj 1) (vC (.int 0))) ao)) (vC (.int 1))) ao)) (gV 3) (bC (qJ (ajC (ak (aj 1) (ak (aj 2) (ak (aj 3) ao)))) (fQ 2 (bK (gV 4) (bK (gV 5) fP)))) (bC (sI (tK (aW m9 (Ym (ak (aj 1) (ak (aj 2) (ak (aj 3) (ak (d8 (ak (aj 4) (ak (f9 ao) ao))) ao))))) (aj 5))) (b1 (aH (vC (.bl false)))) b0) (bC (sF (cu (ajK (ak (bR (ak (aj 1) ao)) (ak (bR (ak (aG (aj 1) (vC (.int 0))) ao)) ao)))) (gV 6) (b1 (sI (tW .And (wA (tK (aW ai1 (d8 (ak (w6 (ak (aj 6) ao)) (ak (aj 6) ao))) (d8 (ak (w6 (ak (aj 4) ao)) (ak (aj 4) ao))))) (w1 .And (tK (aW ago (Ym (ak (aj 1) (ak (aj 2) (ak (aj 3) (ak (d8 (ak (aj 6) (ak (f9 ao) ao))) ao))))) (vC .non)))))) (b1 (aH (vC (.bl false)))) b0))) (b1 (sI (tW .Or (wO (tK (aW uc (aG (ajw (ak (aj 1) (ak (aj 2) (ak (aj 3) ao)))) (vC (.int 0))) (w6 (ak (aj 4) ao)))) (w1 .Or (tK (aW pD (w6 (ak (aG (aG (ajy (ak (aj 1) (ak (aj 2) (ak (aj 3) ao)))) (vC (.int 0))) (vC (.int 0))) ao)) (w6 (ak (aj 4) ao))))))) (b1 (aH (vC (.bl false)))) b0))))))) (b1 (aH (vC (.bl true)))))))
noncomputable abbrev ajL:SF:=by exists Z1
noncomputable def uD:FP:=aN 7 ajL
end
theorem p18:uH (.int 10) (.int 18)=.ok (.int 1000000000000000000,false):=by kernel_rfl
theorem p60:uH (.int 10) (.int 60)=.ok (.int 1000000000000000000000000000000000000000000000000000000000000,false):=by kernel_rfl
theorem aa9{rows:List (LZ)}(h:0<rows.length):aZ (aX rows) (.int 0)=.ok (aL (rows.getD 0 []),false):=yc h
theorem half{d:Nat}:zA (.int d) (.int 2)=.ok (.int ((d / 2:Nat):Int),false):=by
 refine(Nh (Nm (by lia) (by lia))).trans ?_
 rw[Int.fdiv_eq_ediv_of_nonneg _ (by lia)]
 rfl
theorem uJ{α : Type}{f : α -> Tr}{l:List α}{d:Nat}:kW none (some (d:Int)) (.lst (l.map f))=.ok (.lst ((l.take d).map f),true):=by
 show Rs.ok (Tr.lst (cut (l.map f) none (some (d:Int))),true)=_
 rw[Kd,<-List.map_take]
theorem Bk.lt{m k t:Nat}{rows:List (LZ)}(hB:Bk m rows)(hk:k<rows.length)(ht:t<m):t<(rows.getD k []).length:=by rw[(hB.row hk).2.1]; exact ht
theorem inP{f:Bool->Bool}{k t:Nat}{as:List (Nat × Nat)}:jX f (.tup [.int k,.int t]) (.lst (as.map pT))=.ok (.bl (f (decide ((k,t)∈as))),false):=aib f (k,t) as
theorem abf{L:List Nat}:aZ (.lst (L.map iT++[.int 0])) (.int (L.length-1))=.ok (iT (L.getLastD 0),false):=by
 cases L with
 |nil=>rfl
 |cons x L =>
  rw[show((x::L).length:Int)-1=(L.length:Nat) by simp]
  refine pI ?_
  rw[List.getElem?_append_left (by simp),List.getElem?_map,List.getLastD_eq_getLast?,List.getLast?_eq_getElem?]
  simp
theorem abd{n:Nat}{a b:Int}{y:Int × Int}:aZ (.lst [.tup [.int a,.int b],fT y]) (.int (if decide (0<(n:Int))=true then 1 else 0))=.ok (fT (if 0<n then y else(a,b)),false):=by
 by_cases h:0<n
 .rw[if_pos (decide_eq_true (by lia)),if_pos h]; rfl
 .rw[if_neg (by simp; lia),if_neg h]; rfl
theorem pick{b:Bool}{x y:Int × Int}:aZ (.lst [eX b x,fT y]) (.int (if id (zm (eX b x))=true then 1 else 0))=.ok (fT (if b=true then x else y),false):=by cases b <;> rfl
theorem abe{b:Bool}{x:Int × Int}{c d:Int}:aZ (.lst [eX b x,.tup [.int c,.int d]]) (.int (if id (zm (eX b x))=true then 1 else 0))=.ok (fT (if b=true then x else(c,d)),false):=pick (y:=(c,d))
theorem abb{b:Bool}{x:Int × Int}:aZ (.lst [.non,fT x]) (.int (if b=true then 1 else 0))=.ok (eX b x,false):=by cases b <;> rfl
theorem cell_eq(ns:List Int)(k:Nat):∃x:Int,K8 [.lst (ns.map .int),.int k]=.ok (.int x,false)/\0<=x/\x<2 ^ 200:=by
 have a1:=p18
 have a2:=p60
 have big:∀c:Int,0<=c.fmod 1000000000000000000000000000000000000000000000000000000000000/\c.fmod 1000000000000000000000000000000000000000000000000000000000000<2 ^ 200:=λc=>(jK c _ (by decide)).imp id λh=>Int.lt_trans h (by decide)
 have c1:∀c:Int,dH (c.fmod 2147483629) (c.fmod 2147483629)=true:=λc=>by
  have:=jK c 2147483629 (by lia)
  exact lN (M:=40) (N:=40) (by lia) (by lia) (by lia) (by lia)
 have c2:∀c:Int,dH (c.fmod 2147483587) (c.fmod 2147483587)=true:=λc=>by
  have:=jK c 2147483587 (by lia)
  exact lN (M:=40) (N:=40) (by lia) (by lia) (by lia) (by lia)
 have fin:∀c d:Int,0<=c.fmod 2147483587*2147483563+d.fmod 2147483563/\c.fmod 2147483587*2147483563+d.fmod 2147483563<2 ^ 200:=λc d=>by
  have:=jK c 2147483587 (by lia)
  have:=jK d 2147483563 (by lia)
  lia
 by_cases z:k<ns.length
 .have g:=pX (f:=Tr.int) 0 z
  by_cases y:1000000000000000000<=ns.getD k 0 <;> apply Vs
  .walk_at "d"
  .exact big _
  .walk_at "d"
  .exact fin _ _
 .apply Vs
  .walk_at "d"
  .exact fin _ _
theorem Z2{a b:Int}{M:Nat}(ha:0<=a)(hb:1<=b)(hb2:b<2 ^ M)(hM:M<=8900):Dc [.int a,.int b]=.ok (fT (red a b),false):=by
 have np:=iW M
 obtain⟨g1,g2,_⟩:=ql (a:=a) (b:=b) (by lia)
 have c1:∀n,jd n ((Int.gcd a b:Nat):Int)=true:=λn=>Cp (M:=M) (by lia) (by lia) hM
 walk_at "d"
 refine Ce [] (λs:Int × Int=>[(2,.sh (.int s.1)),(3,.sh (.int s.2))]) (λs=>0<=s.1/\0<=s.2/\Int.gcd s.1 s.2=Int.gcd a b) (λs=>s.2.natAbs) (a,b) ⟨ha,by lia,rfl⟩ rfl (by show b.natAbs<b.natAbs+1; lia) ?_
 rintro v ⟨x,y⟩ ⟨h1,h2,h3⟩
 dsimp only[pt,List.map,List.set]at *
 by_cases z:0<y
 .have r:=jK x y z
  apply nu
  walk_at "r"
  exact⟨(y,x.fmod y),⟨h2,r.1,by rw[<-h3]; exact Q7 ..⟩,Q6 x y (by lia),λ_=>.un,rfl⟩
 .obtain rfl:y=0:=by lia
  obtain rfl:x=(Int.gcd a b:Nat):=by rw[<-h3,Int.gcd_zero_right]; lia
  apply nu
  walk_at "r"
  unfold fT red
  rw[Int.fdiv_eq_ediv_of_nonneg _ (by lia),Int.fdiv_eq_ediv_of_nonneg _ (by lia)]
  rfl
theorem Z4(ns:List Int){i:Int}(h:0<=i):∃x:Int,K8 [.lst (ns.map .int),.int i]=.ok (.int x,false)/\0<=x/\x<2 ^ 200:=by
 obtain⟨k,rfl⟩:=Int.eq_ofNat_of_zero_le h
 exact cell_eq ns k
theorem Ld(x:Int){n:Nat}(h:1<=n):∃m:Nat,1<=m/\m<=n/\gM (.int 1) (.int (x.fmod n))=.ok (.int m,false):=by
 have r:=jK x n (by lia)
 exact⟨(1+x.fmod n).toNat,by lia,by lia,by rw[Int.toNat_of_nonneg (by lia)]; rfl⟩
theorem ajM{z b:Int}(h0:0<=z)(h1:z<=b)(h2:1<=b)(h3:b<=1000000000000):Wo (red z b):=by
 obtain⟨g1,g2,g3,g4,g5,g6,g7⟩:=ql (a:=z) (b:=b) (by lia)
 have d2:=Int.ediv_le_self (a:=b) ((Int.gcd z b:Nat):Int) (by lia)
 have d3:=Int.ediv_le_ediv g1 h1
 exact⟨g5 h0,d3,g3,by show b / ((Int.gcd z b:Nat):Int)<=_; lia,g4⟩
def Dd(b:Int)(x:Int × Int):Prop:=Wo x/\x.2∣b
theorem ajN(x:Int):∃b:Int,aZ (.lst [.int 2,.int 3,.int 4,.int 6,.int 10,.int 24,.int 97,.int 999999999999]) (.int (x.fmod 8))=.ok (.int b,false)/\1<=b/\b<=1000000000000:=by
 have r:=jK x 8 (by lia)
 obtain⟨k,hk⟩:=Int.eq_ofNat_of_zero_le r.1
 rw[hk]
 have:k<8:=by lia
 rcases k with _|_|_|_|_|_|_|_|k <;> first|exact⟨_,rfl,by decide,by decide⟩|lia
theorem snoc{α : Type}{p : α -> Prop}{l:List α}{x : α}(h:∀y∈l,p y)(k:p x):∀y∈l++[x],p y:=λy hy=>(List.mem_append.mp hy).elim (h y) λz=>List.mem_singleton.mp z▸k
theorem Df{α β : Type}{f : α -> β}{l:List α}{x : α}:l.map f++[f x]=(l++[x]).map f:=by simp
theorem ajO(ns:List Int)(a:Nat){L M:Nat}(hL:1<=L/\L<=4)(hM:1<=M/\M<=12):∃(m:Nat) (rows:List (LZ)),Bk m rows/\(∃D,Bd D rows)/\m<=M/\rows.length<=L/\K9 [.lst (ns.map .int),.int a,.int L,.int M]=.ok (aX rows,true):=by
 obtain⟨x,ex,_⟩:=cell_eq ns a
 obtain⟨m,m1,m2,em⟩:=Ld x hM.1
 obtain⟨w,w1,w2,ew⟩:=Ld (x.fdiv M) hL.1
 obtain⟨b,eb,b1,b2⟩:=ajN (x.fdiv 1000)
 suffices h:∃z,K9 [.lst (ns.map .int),.int a,.int L,.int M]=.ok z/\∃rows:List (LZ),(rows.length=w/\∀l∈rows,l.length=m/\∀x∈l,Dd b x)/\z=(aX rows,true) by
  obtain⟨_,e,rows,⟨h1,h2⟩,rfl⟩:=h
  exact⟨m,rows,⟨by lia,by lia,by lia,by lia,λl hl=>⟨(h2 l hl).1,λx hx=>((h2 l hl).2 x hx).1⟩⟩,⟨b,b1,b2,λl hl x hx=>((h2 l hl).2 x hx).2⟩,m2,by lia,e⟩
 walk_at "e"
 refine xg [9,10,11,12] (λs:List (LZ)=>[(8,.ow (s.map aL))]) (λk s=>s.length=k/\∀l∈s,l.length=m/\∀x∈l,Dd b x) [] ⟨rfl,λ_ h=>by cases h⟩ rfl (λk v rows hk ⟨i1,i2⟩=>?_) (λv rows i=>?_)
 rotate_left
 .walk_at "p"
  exact⟨_,rfl,rows,i,rfl⟩
 obtain⟨o,eo,_⟩:=Z4 ns (i:=(a:Int)+1+k) (by lia)
 walk_at "p"
 refine xg [12] (λs:Int × LZ=>[(10,.sh (.int s.1)),(11,.ow (s.2.map fT))]) (λk s=>s.2.length=k/\∀x∈s.2,Dd b x) (o,[]) ⟨rfl,λ_ h=>by cases h⟩ rfl (λt v s ht ⟨j1,j2⟩=>?_) (λv s j=>?_)
 .obtain⟨o1,l⟩:=s
  have j1:l.length=t:=j1
  obtain⟨o2,eo2,_⟩:=Z4 ns (i:=((a:Int)+1+k+5*t).fmod 63) (jK _ _ (by lia)).1
  have fr:∀o:Int,Dc [.int (o.fmod (b+1)),.int b]=.ok (fT (red (o.fmod (b+1)) b),false)/\Dd b (red (o.fmod (b+1)) b):=λo=>by
   have r:=jK o (b+1) (by lia)
   exact⟨Z2 (M:=60) r.1 b1 (by lia) (by lia),ajM r.1 (by lia) b1 b2,Int.ediv_dvd_of_dvd (Int.gcd_dvd_right ..)⟩
  have f1:=fr o1
  have f2:=fr o2
  have e1:=f1.1
  have e2:=f2.1
  by_cases h:100<b
  .walk_at "p"
   exact⟨(_,l++[_]),⟨by simp[j1],snoc j2 f2.2⟩,exV (by rw[<-Df]; rfl)⟩
  .walk_at "p"
   exact⟨(_,l++[_]),⟨by simp[j1],snoc j2 f1.2⟩,exV (by rw[<-Df]; rfl)⟩
 .walk_at "p"
  exact⟨rows++[s.2],⟨by simp[i1],snoc i2 j⟩,exV (by rw[<-Df]; rfl)⟩
theorem Wo.fq{x:Int × Int}(h:Wo x):Fq 400 x:=by
 obtain⟨h1,h2,h3,h4,h5⟩:=h
 exact⟨h1,by lia,h3,by lia,h5⟩
theorem ajP(l:LZ):cg (l.map fT)=true:=zj λt ht=>by
 obtain⟨x,_,rfl⟩:=List.mem_map.mp ht
 rfl
def Z5(w:Int × Int):Prop:=Fq 45 w/\w.2∣12/\w.1<=100
theorem wgt(x y:Int):Dc [.int (x.fmod 7),.int (1+y.fmod 4)]=.ok (fT (red (x.fmod 7) (1+y.fmod 4)),false)/\Z5 (red (x.fmod 7) (1+y.fmod 4)):=by
 have r1:=jK x 7 (by lia)
 have r2:=jK y 4 (by lia)
 have hb:1<=1+y.fmod 4/\1+y.fmod 4<=4:=by lia
 generalize 1+y.fmod 4=b,x.fmod 7=a at *
 obtain⟨g1,g2,g3,g4,g5,g6,g7⟩:=ql (a:=a) (b:=b) (by lia)
 have d2:=Int.ediv_le_self (a:=a) ((Int.gcd a b:Nat):Int) (by lia)
 refine⟨Z2 (M:=60) r1.1 hb.1 (by lia) (by lia),Kf (M:=45) r1.1 (by lia) hb.1 (by lia),Int.dvd_trans (Int.ediv_dvd_of_dvd (Int.gcd_dvd_right a b)) ?_,by show a / ((Int.gcd a b:Nat):Int)<=100; lia⟩
 have:b=1\/b=2\/b=3\/b=4:=by omega
 rcases this with rfl|rfl|rfl|rfl <;> decide
theorem ajQ(x:Int){n:Nat}(h1:1<=n)(h4:n<=4):∃r,La [.int x,.int n]=.ok (bw r,false)/\bG n r/\xQ r:=by
 suffices h:∃z,La [.int x,.int n]=.ok z/\∃r,(bG n r/\xQ r)/\z=(bw r,false) by
  obtain⟨_,e,r,h,rfl⟩:=h
  exact⟨r,e,h⟩
 obtain⟨j,j1,j2,ej⟩:=Ld (x.fdiv 7) h1
 by_cases w0:x.fmod 7=0
 .walk_at "e"
  exact⟨_,rfl,.least,⟨trivial,trivial⟩,rfl⟩
 by_cases w1:x.fmod 7=1
 .walk_at "e"
  exact⟨_,rfl,.greatest,⟨trivial,trivial⟩,rfl⟩
 by_cases w2:x.fmod 7=2
 .walk_at "e"
  exact⟨_,rfl,.mid j,⟨⟨j1,j2⟩,trivial⟩,rfl⟩
 by_cases w3:x.fmod 7=3
 .walk_at "e"
  exact⟨_,rfl,.product,⟨trivial,trivial⟩,rfl⟩
 walk_at "e"
 refine xg [4] (λs:Int × LZ=>[(0,.sh (.int s.1)),(3,.ow (s.2.map fT))]) (λk s=>s.2.length=k/\∀w∈s.2,Z5 w) (x.fdiv 7,[]) ⟨rfl,λ_ h=>by cases h⟩ rfl (λk v s hk i=>?_) (λv s i=>?_)
 .obtain⟨y,ws⟩:=s
  have i1:ws.length=k:=i.1
  obtain⟨e,q⟩:=wgt y (y.fdiv 7)
  walk_at "p"
  exact⟨(_,ws++[_]),⟨by simp[i1],snoc i.2 q⟩,exV (by rw[<-Df]; rfl)⟩
 .walk_at "p"
  exact⟨_,rfl,.sh s.2,⟨⟨i.1,λw hw=>(i.2 w hw).1⟩,λw hw=>(i.2 w hw).2⟩,rfl⟩
end K94
end
section
namespace BH
open PySem L2
section
variable {m:Nat}{rows:List (LZ)}{ds:List Nat}{as:List (Nat × Nat)}{r:Ru}{a b:Nat->Int × Int}{ys:List Nat}
theorem ajR(hB:Bk m rows)(hD:Bd B rows):Od aB m (bT B rows):=Od.of (N:=45) (by rw[pK]; exact hB.1) (by rw[pK]; exact hB.2.1) hB.2.2.1 hB.2.2.2.1 (λl ml=>by
   obtain⟨l',nF,rfl⟩:=List.mem_map.mp ml
   rw[List.length_map]
   exact(hB.2.2.2.2 l' nF).1) (λl ml=>by
   obtain⟨l',nF,rfl⟩:=List.mem_map.mp ml
   refine Fq.frs λy my=>?_
   obtain⟨x,mx,rfl⟩:=List.mem_map.mp my
   exact(uy ((hB.2.2.2.2 l' nF).2 x mx) (hD.2.2 l' nF x mx) hD.1 hD.2.1).1) (by lia)
noncomputable abbrev dW(B k:Int)(rows:List (LZ))(r:Ru):Tr:=.tup [aX (bT B rows),bw (iy k r),fT (B,1)]
theorem ajS(hB:Bk m rows)(hD:∃D,Bd D rows)(ho:bG rows.length r)(hS:xQ r):∃B k:Int,Bd B rows/\pJ [aX rows,bw r]=.ok (dW B k rows r,false)/\∀ds as c,Lk rows.length m ds as->∃ys bb,rC (loV r rows ds as) (hiV r rows ds as) m ys/\iw [dW B k rows r,iT c,jw ds as]=.ok (nJ bb (fW m (ys.take c)),bb)/\(bb=true↔jM (loV r rows ds as) (hiV r rows ds as) m (ys.take c)):=by
 obtain⟨B,k,pO,ho',hk,e1⟩:=aiC hB hD ho hS
 refine⟨B,k,pO,e1,λds as c hL=>?_⟩
 obtain⟨a,b,e2,hs⟩:=aiB (k:=k) hB pO hL ho ho'
 have hm:m<=12:=by have:=hB.2.2.2.1; lia
 obtain⟨ys,bb,h1,e3,h2⟩:=aiL (λt ht=>(hs t ht).2.2) hm c
 have hC:1<=kJ k B rows.length r:=aiM hk pO.1 _ _
 have sa:gj (kJ k B rows.length r) m (loV r rows ds as) a:=λt ht=>⟨(hs t ht).1,(uw hB ho ht).2.2.2.1,(hs t ht).2.2.1.2.2.1⟩
 have sb:gj (kJ k B rows.length r) m (hiV r rows ds as) b:=λt ht=>⟨(hs t ht).2.1,(ux hB hL ho ht).2.2.2.1,(hs t ht).2.2.2.2.2.1⟩
 refine⟨ys,bb,gj.ord hC sa sb h1,?_,h2.trans (gj.sure hC sa sb λt ht=>by simpa using h1.1.mem_iff.mp (List.mem_of_mem_take ht))⟩
 walk_at "d"
theorem ajT(ho:rC a b m ys)(hab:∀t,t<m->a t=b t)(c:Nat):jM a b m (ys.take c):=λt mt o hom on=>by
 have od:o∈ys.drop c:=by
  have:=ho.1.mem_iff.mpr (List.mem_range.mpr hom)
  rw[<-List.take_append_drop c ys]at this
  exact(List.mem_append.mp this).resolve_left on
 have pw:=ho.2
 rw[<-List.take_append_drop c ys]at pw
 have:=(nH.ge ((List.pairwise_append.mp pw).2.2 t mt o od)).1
 rw[<-hab o hom]
 exact this
theorem ajU(hB:Bk m rows)(hd:∀k,k<rows.length->ds.getD k 0=m)(ht:t<m):loV r rows ds as t=hiV r rows ds as t:=by
 unfold loV hiV
 refine congrArg (wv r) (List.ext_getElem (by rw[dB,fK]) λk h1 h2=>?_)
 have hk:k<rows.length:=by rw[dB]at h1; exact h1
 have e1:=CJ (s:=sA aB rows ds as) (t:=t) hk
 have e2:=CK (s:=sA aB rows ds as) (cX:=cL aB (1,1) rows ds) (t:=t) hk
 rw[List.getD_eq_getElem?_getD,List.getElem?_eq_getElem h1]at e1
 rw[List.getD_eq_getElem?_getD,List.getElem?_eq_getElem h2]at e2
 have s1:sA aB rows ds as k t=true:=by
  unfold sA sn
  have f:=hB.od
  have ln:=hB.row hk
  have l1:=f.ln _ ln.1
  rw[hd k hk,List.take_of_length_le (by lia)]
  obtain⟨ys,e,fa⟩:=Kc (N:=40) (rows.getD k []) (Wo.frs ln.2.2) (by rw[ln.2.1]; have:=hB.2.2.2.1; lia) (by lia) (by rw[ln.2.1]; have:=hB.2.2.2.1; lia)
  rw[KD fa,decide_eq_true (show t∈ys from fa.1.mem_iff.mpr (List.mem_range.mpr (by rw[ln.2.1]; exact ht))),Bool.true_or]
 rw[if_pos s1]at e1 e2
 exact e1.trans e2.symm
end
section
variable {m c:Nat}{rows:List (LZ)}{ds ds':List Nat}{as as':List (Nat × Nat)}{r:Ru}{l:LZ}{d d' k t:Nat}
def Dg(ds ds':List Nat)(as as':List (Nat × Nat)):Prop:=(∀k,ds.getD k 0<=ds'.getD k 0)/\∀p∈as,p∈as'
theorem Z6(h:Dg ds ds' as as')(s:sA aB rows ds as k t=true):sA aB rows ds' as' k t=true:=by
 unfold sA sn at s ⊢
 rw[Bool.or_eq_true,decide_eq_true_eq,decide_eq_true_eq]at s ⊢
 rcases s with s|s
 .refine .inl ?_
  rw[<-Nat.min_eq_left (h.1 k),<-List.take_take]at s
  exact List.mem_of_mem_take s
 .exact .inr (h.2 _ s)
theorem ajV(hl:∀x∈l,Wo x)(l12:l.length<=12)(hd:d<=d')(hm:d'<=l.length):le2 (fV aB (1,1) l d') (fV aB (1,1) l d):=by
 have f:=(nC (N:=40) (Wo.frs hl) (by lia) (by lia) (by lia)).1
 have w:∀d,0<d->d<=l.length->Wo (l.getD ((aB l).getD (d-1) 0) (0,1))/\(aB l).getD (d-1) 0<l.length:=λd h0 h1=>by
  have:d-1<(aB l).length:=by rw[f.1.length_eq,List.length_range]; lia
  have q:=List.mem_range.mp (f.1.mem_iff.mp (getM (d:=0) this))
  exact⟨hl _ (getM q),q⟩
 unfold fV
 by_cases h0:0<d
 .rw[if_pos h0,if_pos (show 0<d' by lia)]
  by_cases e:d=d'
  .rw[e]; exact iY _
  .have i1:d-1<(aB l).length:=by rw[f.1.length_eq,List.length_range]; lia
   have i2:d'-1<(aB l).length:=by rw[f.1.length_eq,List.length_range]; lia
   have:=List.pairwise_iff_getElem.mp f.2 (d-1) (d'-1) i1 i2 (by lia)
   rw[show(aB l).getD (d-1) 0=(aB l)[d-1] by simp[i1],show(aB l).getD (d'-1) 0=(aB l)[d'-1] by simp[i2]]
   unfold lO at this
   unfold le2
   lia
 .rw[if_neg h0]
  by_cases h1:0<d'
  .rw[if_pos h1]
   have:=(w d' h1 hm).1.2.1
   unfold le2
   dsimp only
   lia
  .rw[if_neg h1]; exact iY _
theorem ajW(hB:Bk m rows)(h:Dg ds ds' as as')(ho:bG rows.length r)(ht:t<m):le2 (loV r rows ds as t) (loV r rows ds' as' t):=by
 have h1:=hB.1
 have h4:=hB.2.1
 refine Cz (uq hB ht) (uq hB ht) (by rw[dB,dB]) (by rw[dB]; exact h1) (by rw[dB]; exact h4) (by rw[dB]; exact ho) λk hk=>?_
 rw[dB]at hk
 rw[CJ hk,CJ hk]
 split
 .rename_i s
  rw[if_pos (Z6 h s)]
  exact iY _
 .split
  .have:=(hB.rB hk ht).1
   unfold le2
   show 0*_<=_*1
   lia
  .exact iY _
theorem ajX(hB:Bk m rows)(hL:Lk rows.length m ds as)(hL':Lk rows.length m ds' as')(h:Dg ds ds' as as')(ho:bG rows.length r)(ht:t<m):le2 (hiV r rows ds' as' t) (hiV r rows ds as t):=by
 have h1:=hB.1
 have h4:=hB.2.1
 have h12:=hB.2.2.2.1
 refine Cz (xO hB ht (lQ hL'.1) (ur hB hL')) (xO hB ht (lQ hL.1) (ur hB hL)) (by rw[fK,fK]) (by rw[fK]; exact h1) (by rw[fK]; exact h4) (by rw[fK]; exact ho) λk hk=>?_
 rw[fK]at hk
 rw[CK hk,CK hk]
 by_cases s:sA aB rows ds as k t=true
 .rw[if_pos s,if_pos (Z6 h s)]
  exact iY _
 rw[if_neg s,rA hL.1 hk]
 have dm:∀{es bs},Lk rows.length m es bs->es.getD k 0<=m:=λ{es bs} q=>q.2.1 _ (getM (d:=0) (show k<es.length by have:=q.1; lia))
 obtain⟨ml,q1,q2⟩:=hB.row hk
 have a1:=dm hL
 have a2:=dm hL'
 have a3:=h.1 k
 split
 .unfold sA sn at s
  rw[Bool.or_eq_true,decide_eq_true_eq,not_or]at s
  have hw:=hB.rB hk ht
  unfold eG at *
  unfold fV
  generalize ds.getD k 0=d,rows.getD k []=l at *
  split
  .rename_i h0
   exact YK (nC (N:=40) (Wo.frs q2) (by lia) (by lia) (by lia)).1 (by lia) h0 (by lia) s.1
  .unfold le2
   have:=hw.2.1
   dsimp only
   lia
 .rw[rA hL'.1 hk]
  exact ajV q2 (by lia) a3 (by lia)
theorem ajY{T:List Nat}(hB:Bk m rows)(hL:Lk rows.length m ds as)(hL':Lk rows.length m ds' as')(h:Dg ds ds' as as')(ho:bG rows.length r)(hT:∀t∈T,t<m)(s:jM (loV r rows ds as) (hiV r rows ds as) m T):jM (loV r rows ds' as') (hiV r rows ds' as') m T:=λt mt o om on=>by
 have tm:=hT t mt
 have q:=kj.mp (s t mt o om on)
 have l1:=ajW (r:=r) hB h ho tm
 have l2:=ajX (r:=r) hB hL hL' h ho om
 exact kj.mpr (qZ (ux hB hL' ho om).2.2.2.1 (ux hB hL ho om).2.2.2.1 (uw hB ho tm).2.2.2.1 l2 (qZ (ux hB hL ho om).2.2.2.1 (uw hB ho tm).2.2.2.1 (uw hB ho tm).2.2.2.1 q l1))
theorem ajZ(hB:Bk m rows)(hL:Lk rows.length m ds as)(ho:bG rows.length r)(ht:t<m):aV (hiV r rows ds as t) (loV r rows ds as t)=false:=kj.mpr (qZ (uw hB ho ht).2.2.2.1 (Wv.fq (CG hB ht) (by rw[kE]; exact hB.2.1) (by rw[kE]; exact ho) (aiu hB ho ht).2).2.2.1 (ux hB hL ho ht).2.2.2.1 (YM hB hL ho ht).1 (YM hB hL ho ht).2)
end
open TS
noncomputable def cO(n:Nat):Nat->List (List Nat)
 | 0=>[[]]
 |m+1=>(cO n m).flatMap λr=>(List.range (n+1)).map λd=>r++[d]
theorem uE{n:Nat}:∀{m:Nat} {r:List Nat},r∈cO n m↔r.length=m/\∀d∈r,d<=n
 | 0,r=>by
  unfold cO
  rw[List.mem_singleton]
  exact⟨λh=>by rw[h]; exact⟨rfl,λd hd=>by cases hd⟩,λh=>List.eq_nil_of_length_eq_zero h.1⟩
 |m+1,r=>by
  unfold cO
  rw[List.mem_flatMap]
  constructor
  .rintro⟨q,hq,h⟩
   obtain⟨d,hd,rfl⟩:=List.mem_map.mp h
   obtain⟨h1,h2⟩:=uE.mp hq
   refine⟨by simp[h1],λx hx=>?_⟩
   rcases List.mem_append.mp hx with hx|hx
   .exact h2 x hx
   .rw[List.mem_singleton.mp hx]
    have:=List.mem_range.mp hd
    lia
  .rintro⟨h1,h2⟩
   have e:r≠[]:=λz=>by rw[z]at h1; cases h1
   refine⟨r.dropLast,uE.mpr ⟨by rw[List.length_dropLast,h1]; rfl,λd hd=>h2 d (List.dropLast_subset _ hd)⟩,List.mem_map.mpr ⟨r.getLast e,List.mem_range.mpr ?_,List.dropLast_concat_getLast e⟩⟩
   have:=h2 _ (List.getLast_mem e)
   lia
noncomputable def inR(r:List Nat):List Int:=r.map λd:Nat=>(d:Int)
noncomputable def jx(a b:List Nat):Bool:=HT.pN (inR a).sum (inR a) (inR b).sum (inR b)
noncomputable def cA(m n:Nat):List Int:=(cO n m).map λr=>(inR r).sum
noncomputable def ins(k:Int)(i:Nat):List (Int × Nat)->List (Int × Nat)
 | []=>[(k,i)]
 |(a,j)::r=>if a<=k then(a,j)::ins k i r else(k,i)::(a,j)::r
noncomputable def jO(ks:List Int):List Nat:=(ks.zipIdx.foldl (λr p=>ins p.1 p.2 r) []).map (·.2)
noncomputable def Dh:List (List Nat)->Bool
 |a::b::r=>jx a b&&Dh (b::r)
 |_=>true
noncomputable def bL(m n:Nat):List (List Nat):=(jO (cA m n)).map λi=>(cO n m).getD i []
noncomputable def rD(m n:Nat):Bool:=decide (2<=(cA m n).length)&&decide ((cA m n).length<=1000)&&decide ((jO (cA m n)).length=(cA m n).length)&&(jO (cA m n)).all (λi=>decide (i<(cA m n).length))&&Dh (bL m n)
theorem lex_trans:∀{a b c:List Int},HT.lexLt a b=true->HT.lexLt b c=true->HT.lexLt a c=true
 | [],[],_,h,_=>by cases h
 | [],_::_,[],_,h=>by cases h
 | [],_::_,_::_,_,_=>rfl
 |_::_,[],_,h,_=>by cases h
 |_::_,_::_,[],_,h=>by cases h
 |x::a,y::b,z::c,h1,h2=>by
  rw[HT.yM]at h1 h2 ⊢
  by_cases e:x=y
  .subst e
   by_cases e2:x=z
   .rw[if_pos rfl]at h1
    rw[if_pos e2]at h2 ⊢
    exact lex_trans h1 h2
   .rw[if_neg e2]at h2 ⊢
    exact h2
  .rw[if_neg e]at h1
   have h1:=of_decide_eq_true h1
   by_cases e2:y=z
   .subst e2
    rw[if_neg e]
    exact decide_eq_true h1
   .rw[if_neg e2]at h2
    have h2:=of_decide_eq_true h2
    rw[if_neg (by lia)]
    exact decide_eq_true (by lia)
theorem Z7{a b c:List Nat}(h1:jx a b=true)(h2:jx b c=true):jx a c=true:=by
 unfold jx HT.pN at *
 by_cases e:(inR a).sum=(inR b).sum
 .rw[if_pos e]at h1
  rw[e]
  by_cases e2:(inR b).sum=(inR c).sum
  .rw[if_pos e2]at h2 ⊢
   exact lex_trans h1 h2
  .rw[if_neg e2]at h2 ⊢
   exact h2
 .rw[if_neg e]at h1
  have h1:=of_decide_eq_true h1
  by_cases e2:(inR b).sum=(inR c).sum
  .rw[<-e2,if_neg e]
   exact decide_eq_true h1
  .rw[if_neg e2]at h2
   have h2:=of_decide_eq_true h2
   rw[if_neg (by lia)]
   exact decide_eq_true (by lia)
theorem Le(a:List Nat):jx a a=false:=by
 unfold jx HT.pN
 rw[if_pos rfl,HT.KQ]
theorem Z8:∀{l:List (List Nat)},Dh l=true->l.Pairwise λa b=>jx a b=true
 | [],_=>.nil
 | [a],_=>List.pairwise_singleton ..
 |a::b::r,h=>by
  unfold Dh at h
  obtain⟨h1,h2⟩:=Bool.and_eq_true_iff.mp h
  have p:=Z8 h2
  refine .cons (λc hc=>?_) p
  rcases List.mem_cons.mp hc with rfl|hc
  .exact h1
  .exact Z7 h1 ((List.pairwise_cons.mp p).1 c hc)
theorem aj0{p:List Nat}{N:Nat}(h1:p.length=N)(h2:∀i∈p,i<N)(h3:p.Nodup)(i:Nat)(hi:i<N):i∈p:=Classical.byContradiction λn=>by
 have:=(List.nodup_cons.mpr ⟨n,h3⟩).length_le_of_subset (l₂ := List.range N) λx hx=>List.mem_range.mpr ((List.mem_cons.mp hx).elim (λe=>e▸hi) (h2 x))
 rw[List.length_cons,List.length_range]at this
 lia
structure Dps(m n:Nat)(L:List (List Nat)):Prop where
 mem:∀r,r∈L↔r.length=m/\∀d∈r,d<=n
 lt:∀{i j:Nat} {a b:List Nat},L[i]?=some a->L[j]?=some b->jx a b=true->i<j
theorem uF{m n:Nat}(h:rD m n=true):2<=(cA m n).length/\(cA m n).length<=1000/\(jO (cA m n)).length=(cA m n).length/\(∀i∈jO (cA m n),i<(cA m n).length)/\Dps m n (bL m n):=by
 unfold rD at h
 simp only[Bool.and_eq_true,decide_eq_true_eq,List.all_eq_true]at h
 obtain⟨⟨⟨⟨h1,h2⟩,h3⟩,h4⟩,h5⟩:=h
 have pw:=Z8 h5
 have lk:(cA m n).length=(cO n m).length:=List.length_map ..
 refine⟨h1,h2,h3,h4,λr=>?_,λ{i j a b} ei ej h=>?_⟩
 .have nd:(jO (cA m n)).Nodup:=by
   have:(bL m n).Nodup:=pw.imp λ{a b} h e=>by rw[e,Le]at h; cases h
   exact(List.pairwise_map.mp this).imp λh e=>h (by rw[e])
  have fu:=aj0 h3 h4 nd
  rw[<-uE]
  constructor
  .intro hr
   obtain⟨i,hi,rfl⟩:=List.mem_map.mp hr
   exact getM (d:=[]) (lk▸h4 i hi)
  .intro hr
   obtain⟨i,hi,rfl⟩:=List.getElem_of_mem hr
   exact List.mem_map.mpr ⟨i,fu i (lk▸hi),by simp[hi]⟩
 .obtain⟨hi,rfl⟩:=List.getElem?_eq_some_iff.mp ei
  obtain⟨hj,rfl⟩:=List.getElem?_eq_some_iff.mp ej
  rcases Nat.lt_trichotomy i j with q|q|q
  .exact q
  .subst q
   rw[Le]at h
   cases h
  .have:=Z7 h (List.pairwise_iff_getElem.mp pw j i hj hi q)
   rw[Le]at this
   cases this
theorem aj1{m n:Nat}(h:rD m n=true)(h2:∀tk v,CV (cA m n) tk v=some ((jO (cA m n)).map v)):nO (cA m n)=some (jO (cA m n)) :=
 ajj ⟨⟨(uF h).2.2.1,(uF h).2.2.2.1⟩,h2⟩
noncomputable abbrev rT(r:List Nat):Tr:=.lst (r.map iT)
theorem Lf:∀r:List Nat,j8 (r.map iT)=some (inR r)
 | []=>rfl
 |d::r=>by
  show(j8 (r.map iT)).map _=_
  rw[Lf r]
  rfl
theorem sum_rows:∀l:List (List Nat),xV (l.map rT)=some (l.map λr=>(inR r).sum)
 | []=>rfl
 |r::l=>by
  show((j8 (r.map iT)).map List.sum).bind _=_
  rw[Lf,sum_rows l]
  rfl
theorem xSS{m n:Nat}{fa:AF}{ρ ρ1:En}{us:List Tr}{b:Bool}(h:fa ρ=.ok ([.v (.lst us) b],ρ1))(e:us=(cO n m).map rT)(hc:rD m n=true)(hp:nO (cA m n)=some (jO (cA m n))):CW fa ρ=.ok (.v (.lst ((bL m n).map rT)) true,ρ1):=by
 subst e
 obtain⟨h1,h2,h3,h4,_⟩:=uF hc
 refine bk h ?_
 dsimp only
 rw[sum_rows]
 dsimp only
 rw[show((cO n m).map λr=>(inR r).sum)=cA m n from rfl,hp]
 dsimp only
 rw[if_pos ⟨h1,h2⟩]
 refine congrArg (λl=>Rs.ok (Rv.v (.lst l) true,ρ1)) ?_
 unfold bL
 rw[List.map_map]
 refine List.map_congr_left λi hi=>?_
 have lk:(cA m n).length=(cO n m).length:=List.length_map ..
 have:=lk▸h4 i hi
 show((cO n m).map rT).getD i .non=rT ((cO n m).getD i [])
 simp[this]
theorem Di:∀{m n:Nat},1<=m->m<=3->1<=n->n<=4->rD m n=true/\nO (cA m n)=some (jO (cA m n)):=by
 have go:∀{m n:Nat},rD m n=true->(∀tk v,CV (cA m n) tk v=some ((jO (cA m n)).map v))->rD m n=true/\nO (cA m n)=some (jO (cA m n)):=λh1 h2=>⟨h1,aj1 h1 h2⟩
 intro m n h1 h2 h3 h4
 obtain rfl|rfl|rfl:m=1\/m=2\/m=3:=by lia
 all_goals
  obtain rfl|rfl|rfl|rfl:n=1\/n=2\/n=3\/n=4:=by lia
  all_goals exact go (by kernel_rfl) λtk v=>by kernel_rfl
end BH
end
section
namespace L2
open PySem
section
variable {ρ ρ1 ρ2:En}{fa:EF}{T:Tr}{us ts:List Tr}{x:Rv}{b c:Bool}{i j m n:Nat}{p:List Nat}{u v:Int}{Q:Fl->En->Prop}
theorem abg(c : ρ[i]?=some (.sh (.int u)))(h:fa ρ=.ok (x,ρ1))(d:dr ρ1 x=.ok (.int v))(e : ρ1.set i (.sh (.int (u+v))) = ρ2)(k:Q .nx ρ2):W (CQ i fa ρ) Q:=by
 subst e
 refine⟨_,_,?_,k⟩
 unfold CQ
 rw[c]
 exact bk h (bk d (bk rfl rfl))
theorem wAx(h:fa ρ=.ok (x,ρ))(d:dr ρ x=.ok (.int (n:Nat)))(c : ρ[i]?=some (.ow ts))(l:ts[n]?=some (.int u))(e : ρ.set i (.ow (ts.set n (.int (u+v)))) = ρ2)(k:Q .nx ρ2):W (Zh i fa v ρ) Q:=by
 subst e
 have c1:con ρ i=.ok ts:=by unfold con; rw[c]
 have c2:cJ i (ts.set n (.int (u+v))) ρ = ρ.set i (.ow (ts.set n (.int (u+v)))):=by unfold cJ; rw[c]
 refine⟨_,_,bk c1 (bk h (bk d (bk (a:=(n:Int)) rfl (bk c1 ((if_pos (Int.natCast_nonneg n)).trans ?_))))),k⟩
 rw[Int.toNat_natCast,l]
 exact congrArg (λr=>Rs.ok (Fl.nx,r)) c2
theorem wPm(c : ρ[i]?=some (.dp ts))(g:pY (.lst ts) p=some (.lst us))(n:cg us=true)(n':bA T=true)(l:us.length<=100000)(e : ρ.set i (.dp (stL ts p (us++[T]))) = ρ2)(k:Q .nx ρ2):W (aiS i p T ρ) Q:=by
 subst e
 refine⟨_,_,bk (a:=ts) (by unfold dJ; rw[c]) ?_,k⟩
 rw[g]
 exact if_pos (by rw[n,n',decide_eq_true l]; rfl)
theorem wPc(c : ρ[i]?=some (.dp ts))(g:pY (.lst ts) p=some (.lst us))(n:cg us=true)(e : ρ.set i (.dp (stL ts p [])) = ρ2)(k:Q .nx ρ2):W (aiT i p ρ) Q:=by
 subst e
 refine⟨_,_,bk (a:=ts) (by unfold dJ; rw[c]) ?_,k⟩
 rw[g]
 exact if_pos n
theorem wRv(c : ρ[i]?=some (.dp ts))(f:ts.all Zi=true)(ij:i≠j)(l:j < ρ.length)(e:(ρ.set j .un).set i (.dp (ts.map Zj)) = ρ2)(k:Q .nx ρ2):W (aiU i j ρ) Q:=by
 subst e
 exact⟨_,_,bk (a:=ts) (by unfold dJ; rw[c]) (if_pos (by rw[f,decide_eq_true ij,decide_eq_true l]; rfl)),k⟩
theorem xVv(e:vw ρ = ρ2)(h:fa ρ2=.ok (.v T false,ρ1))(n:bA T=true):Zk fa ρ=.ok (.v T false,ρ):=by
 subst e
 unfold Zk
 rw[h]
 exact if_pos n
end
end L2
end
section
namespace K94
open PySem L2 BH
theorem Dj{p:Nat->Bool}:∀{n:Nat},p n=true->∃R,R<=n/\p R=true/\∀k,k<R->p k=false
 | 0,h=>⟨0,Nat.le_refl _,h,λk hk=>absurd hk (Nat.not_lt_zero _)⟩
 |n+1,h=>by
  by_cases q:∃k,k<=n/\p k=true
  .obtain⟨k,hk,e⟩:=q
   obtain⟨R,h1,h2,h3⟩:=Dj e
   exact⟨R,by lia,h2,h3⟩
  .exact⟨n+1,Nat.le_refl _,h,λk hk=>Bool.eq_false_iff.mpr λe=>q ⟨k,by lia,e⟩⟩
noncomputable def jc(zs:List Nat)(R n:Nat):Sl:=if n=R then .dp (zs.map iT)else .sh .non
theorem Lg(zs:List Nat):cg (zs.map iT)=true:=zj λt ht=>by
 obtain⟨x,_,rfl⟩:=List.mem_map.mp ht
 rfl
theorem Z9{form:Tr}{g:Nat->Tr}{N R c:Nat}{zs:List Nat}(hN:N<=1000)(hR:R<N)(h0:∀n,n<R->iw [form,iT c,g n]=.ok (.non,false))(h1:iw [form,iT c,g R]=.ok (.lst (zs.map iT),true)):K6 [form,iT c,.lst ((List.range N).map g)]=.ok (.tup [.int R,.lst (zs.map iT)],false):=by
 have gg:∀n,n<N->aZ (.lst ((List.range N).map g)) (.int (n:Nat))=.ok (g n,false):=λn hn=>nA (by simp[hn])
 have g0:aZ (.lst ((List.range N).map g)) (.int 0)=.ok (g 0,false):=gg 0 (by lia)
 have nz:=Lg zs
 have nf:fM (.lst (zs.map iT),true)=true:=nz
 apply L2.dFn; (dsimp only[L2.fL,List.map,List.length,List.replicate,List.append,HAppend.hAppend,Append.append,Nat.reduceSub,Nat.reduceAdd] <;> exact rfl)
 iterate 6 walk_at "1"
 refine J1 (λ_:Unit=>[(4,jc zs R 0)]) (λ_=>True) ?_ λ_ _=>?_
 .rcases Nat.eq_zero_or_pos R with z|z
  .have Lh:iw [form,iT c,g 0]=.ok (.lst (zs.map iT),true):=z▸h1
   walk_at "r"
   exact⟨rfl,(),trivial,by rw[show jc zs R 0=.dp (zs.map iT)from if_pos z.symm]; rfl⟩
  .have Lh:=h0 0 z
   walk_at "r"
   exact⟨rfl,(),trivial,by rw[show jc zs R 0=.sh .non from if_neg (by lia)]; rfl⟩
 dsimp only[pt,List.map,List.set]
 walk_at "r"
 refine Ce [] (λn:Nat=>[(3,.sh (.int n)),(4,jc zs R n)]) (λn=>n<=R) (λn=>R-n) 0 (Nat.zero_le _) rfl ?_ λv n hn=>?_
 .show R-0<((List.range N).map g).length+1
  rw[List.length_map,List.length_range]
  lia
 .dsimp only[pt,List.map,List.set]
  rcases Nat.lt_or_ge n R with q|q
  .rw[show jc zs R n=.sh .non from if_neg (by lia)]
   have gn:aZ (.lst ((List.range N).map g)) (.int ((n:Int)+1))=.ok (g (n+1),false):=gg (n+1) (by lia)
   rcases Nat.lt_or_ge (n+1) R with q2|q2
   .have hs:=h0 (n+1) q2
    apply nu
    walk_at "r"
    all_goals exact⟨n+1,q,by lia,exV (by rw[show jc zs R (n+1)=.sh .non from if_neg (by lia)]; rfl)⟩
   .obtain rfl:n+1=R:=by lia
    apply nu
    walk_at "r"
    all_goals exact⟨n+1,q,by lia,exV (by rw[show jc zs (n+1) (n+1)=.dp (zs.map iT)from if_pos rfl]; rfl)⟩
  .obtain rfl:n=R:=by lia
   rw[show jc zs n n=.dp (zs.map iT)from if_pos rfl]
   apply nu
   walk_at "r"
section
variable {m c:Nat}{rows:List (LZ)}{r:Ru}{f:List Nat->List Nat × Bool}
def SmS(m c:Nat)(rows:List (LZ))(r:Ru)(ds:List Nat):Prop:=∃T:List Nat,T.Nodup/\T.length=c/\(∀t∈T,t<m)/\jM (loV r rows ds []) (hiV r rows ds []) m T
abbrev Dk(m c:Nat)(rows:List (LZ))(r:Ru)(form:Tr)(f:List Nat->List Nat × Bool):Prop:=∀ds,Lk rows.length m ds []->iw [form,iT c,jw ds []]=.ok (nJ (f ds).2 (f ds).1,(f ds).2)/\((f ds).2=true↔SmS m c rows r ds)/\((∀k,k<rows.length->ds.getD k 0=m)->(f ds).2=true)/\(f ds).1.length<=12
theorem aj2(hB:Bk m rows)(hD:∃D,Bd D rows)(ho:bG rows.length r)(hS:xQ r)(hc:c<=m):∃B k:Int,Bd B rows/\pJ [aX rows,bw r]=.ok (dW B k rows r,false)/\∃f,Dk m c rows r (dW B k rows r) f:=by
 obtain⟨B,k,h1,h2,h3⟩:=ajS hB hD ho hS
 suffices q:∀ds,∃y:List Nat × Bool,Lk rows.length m ds []->iw [dW B k rows r,iT c,jw ds []]=.ok (nJ y.2 y.1,y.2)/\(y.2=true↔SmS m c rows r ds)/\((∀k,k<rows.length->ds.getD k 0=m)->y.2=true)/\y.1.length<=12 by
  obtain⟨f,hf⟩:=Classical.skolem.mp q
  exact⟨B,k,h1,h2,f,hf⟩
 intro ds
 by_cases hL:Lk rows.length m ds []
 .obtain⟨ys,bb,o,e,i⟩:=h3 ds [] c hL
  have hm:m<=12:=by have:=hB.2.2.2.1; lia
  have nd:ys.Nodup:=o.1.nodup_iff.mpr List.nodup_range
  have my:∀t∈ys,t<m:=λt ht=>List.mem_range.mp (o.1.mem_iff.mp ht)
  have ln:ys.length=m:=by rw[o.1.length_eq,List.length_range]
  refine⟨(fW m (ys.take c),bb),λ_=>⟨e,i.trans ⟨λs=>⟨ys.take c,nd.sublist (List.take_sublist ..),by rw[List.length_take]; lia,λt ht=>my t (List.mem_of_mem_take ht),s⟩,λ⟨T,t1,t2,t3,t4⟩=>t2▸aiN (λt ht=>⟨(uw hB ho ht).2.2.2.1,(ux hB hL ho ht).2.2.2.1,ajZ hB hL ho ht⟩) o t1 t3 t4⟩,λhd=>i.mpr (ajT o (λt ht=>ajU hB hd ht) c),?_⟩⟩
  have:=List.length_filter_le (λt=>decide (t∈ys.take c)) (List.range m)
  rw[List.length_range]at this
  exact Nat.le_trans this hm
 .exact⟨([],false),λh=>(hL h).elim⟩
theorem Lk.rep{L m n:Nat}(h:n<=m):Lk L m (List.replicate L n) []:=⟨List.length_replicate,λd hd=>(List.mem_replicate.mp hd).2▸h,.nil,Nat.zero_le _,λp hp=>by cases hp⟩
noncomputable abbrev Li(L n:Nat):Tr:=.tup [.lst (List.replicate L (iT n)),.lst []]
theorem aj3{L n:Nat}:Li L n=jw (List.replicate L n) []:=by
 unfold jw
 rw[List.map_replicate]
 rfl
theorem mulR{T:Tr}{n:Nat}(h:n<=1000):lA (.lst [T]) (.int (n:Int))=.ok (.lst (List.replicate n T),true):=(if_pos ⟨by lia,Nat.le_of_ble_eq_true rfl⟩).trans (by rw[Int.toNat_natCast]; simp)
noncomputable abbrev aj4(R:Nat)(zs:List Nat):Tr:=.tup [.int R,.lst (zs.map iT)]
section
variable {B k:Int}(hB:Bk m rows)(ho:bG rows.length r)(hc:c<=m)(e1:pJ [aX rows,bw r]=.ok (dW B k rows r,false))(hf:Dk m c rows r (dW B k rows r) f)
include hB ho hc e1 hf
theorem aac{ds:List Nat}(hL:Lk rows.length m ds []):uo [aX rows,bw r,iT c,jw ds []]=.ok (nJ (f ds).2 (f ds).1,(f ds).2):=by
 have nd:=CP hB ho hc
 have nl:=ah9 hB hL
 have si:=(hf ds hL).1
 walk_at "d"
theorem aj5:∃R zs,ZJ [aX rows,bw r,iT c]=.ok (aj4 R zs,false)/\R<=m/\∀n,n<R->(f (List.replicate rows.length n)).2=false:=by
 have nd:=CP hB ho hc
 have h1:=hB.1
 have h4:=hB.2.1
 have b4:=hB.2.2.2.1
 have l0:=(hB.row h1).2.1
 have top:(f (List.replicate rows.length m)).2=true:=(hf _ (Lk.rep (Nat.le_refl _))).2.2.1 λk hk=>by rw[List.getD_eq_getElem?_getD,List.getElem?_replicate,if_pos hk]; rfl
 obtain⟨R,r1,r2,r3⟩:=Dj (p:=λn=>(f (List.replicate rows.length n)).2) (n:=m) top
 have s0:∀n,n<=m->iw [dW B k rows r,iT c,Li rows.length n]=.ok (nJ (f (List.replicate rows.length n)).2 (f (List.replicate rows.length n)).1,(f (List.replicate rows.length n)).2):=λn hn=>aj3▸(hf _ (Lk.rep hn)).1
 have e2:=Z9 (form:=dW B k rows r) (g:=Li rows.length) (N:=m+1) (R:=R) (c:=c) (zs:=(f (List.replicate rows.length R)).1) (by lia) (by lia) (λn hn=>by rw[s0 n (by lia),r3 n hn]; rfl) (by rw[s0 R r1,r2]; rfl)
 have gm:∀n:Nat,lA (.lst [.int (n:Int)]) (.int (rows.length:Int))=.ok (.lst (List.replicate rows.length (iT n)),true):=λn=>mulR (by lia)
 refine⟨R,(f (List.replicate rows.length R)).1,?_,r1,r3⟩
 rw[<-l0]at e2
 walk_at "m"
 exact gm x
 walk_at "r"
end
end
section
variable {m c:Nat}{B:Int}{rows:List (LZ)}{ds:List Nat}{r:Ru}
noncomputable abbrev Dl(rows:List (LZ))(ds:List Nat)(k:Nat):Int × Int:=fV aB (1,1) (rows.getD k []) (ds.getD k 0)
def uG(L m:Nat)(ds:List Nat):Prop:=∃k,k<L/\ds.getD k 0<m
def Hop(la:Nat->Int × Int)(L m:Nat)(ds:List Nat)(x:Nat):Prop:=x<L/\ds.getD x 0<m/\∀z,z<L->ds.getD z 0<m->z≠x->aV (la z) (la x)=true\/(aV (la x) (la z)=false/\x<z)
theorem aj6(hB:Bk m rows)(hD:Bd B rows)(hL:Lk rows.length m ds [])(hu:uG rows.length m ds):∃x,Hop (Dl rows ds) rows.length m ds x/\Cm [aL (cL aB (B,1) (bT B rows) ds),.lst (ds.map iT),iT m]=.ok (iT x,false):=by
 have h4:=hB.2.1
 have ll:=lQ (od:=aB) (one:=(1,1)) hL.1
 have hw:=ur hB hL
 have hd:=Y9 hD hB hL
 have fe:=(nC (N:=45) (l:=(cL aB (1,1) rows ds).map (sc B)) (Fq.frs λy my=>by
  obtain⟨x,mx,rfl⟩:=List.mem_map.mp my
  exact(uy (hw x mx) (hd x mx) hD.1 hD.2.1).1) (by rw[List.length_map]; lia) (by lia) (by rw[List.length_map]; lia)).2
 have fl:=(nC (N:=40) (BH.Wo.frs hw) (by lia) (by lia) (by lia)).1
 rw[KJ (λx mx=>⟨hw x mx,hd x mx⟩) (by lia) hD.1 hD.2.1]at fe
 rw[Y7 (Y8 hB hD)]
 generalize aB (cL aB (1,1) rows ds)=ys at fe fl
 have my:∀t,t∈ys↔t<rows.length:=λt=>by rw[fl.1.mem_iff,List.mem_range,ll]
 have ly:ys.length<=100000:=by rw[fl.1.length_eq,List.length_range]; lia
 obtain⟨k,k1,k2⟩:=hu
 have ul:0<(ys.filter λt=>decide (ds.getD t 0<m)).length:=List.length_pos_of_mem (List.mem_filter.mpr ⟨(my k).mpr k1,decide_eq_true k2⟩)
 have pw:=List.Pairwise.filter (λt=>decide (ds.getD t 0<m)) fl.2
 have mu:∀t,t∈(ys.filter λt=>decide (ds.getD t 0<m))↔t<rows.length/\ds.getD t 0<m:=λt=>by rw[List.mem_filter,my,decide_eq_true_iff]
 have hl:=hL.1
 have fq:(λt=>decide ((ds.getD t 0:Int)<(m:Int)))=λt=>decide (ds.getD t 0<m):=funext λt=>decide_eq_decide.mpr (by lia)
 have g0:aZ (.lst ((ys.filter λt=>decide ((ds.getD t 0:Int)<(m:Int))).map iT)) (.int 0)=.ok (iT ((ys.filter λt=>decide (ds.getD t 0<m)).getD 0 0),false):=by
  rw[fq]
  exact pX (k:=0) 0 ul
 refine⟨(ys.filter λt=>decide (ds.getD t 0<m)).getD 0 0,?_,?_⟩
 .generalize (ys.filter λt=>decide (ds.getD t 0<m))=us at pw mu ul
  cases us with
  |nil=>cases ul
  |cons x us =>
   obtain⟨x1,x2⟩:=(mu x).mp (List.mem_cons_self ..)
   refine⟨x1,x2,λz z1 z2 (ne:z≠x)=>?_⟩
   change aV _ (Dl rows ds x)=true\/(aV (Dl rows ds x) _=false/\x<z)
   have mz:=(List.mem_cons.mp ((mu z).mpr ⟨z1,z2⟩)).resolve_left ne
   have q:=(List.pairwise_cons.mp pw).1 z mz
   unfold lO at q
   rw[rA hl x1,rA hl z1]at q
   unfold aV
   rcases q with q|q
   .exact .inl (decide_eq_true q)
   .exact .inr ⟨decide_eq_false (by lia),q.2⟩
 .walk_at "d"
  exact hl▸(my x).mp hx
  walk_at "r"
theorem aad:∀(ds:List Nat) (x:Nat),x<ds.length->(ds.set x (ds.getD x 0+1)).sum=ds.sum+1
 | [],_,h=>by cases h
 |d::ds,0,_=>by simp; lia
 |d::ds,x+1,h=>by
  have:=aad ds x (by simpa using h)
  simp at this ⊢
  lia
theorem aae{m:Nat}:∀(ds:List Nat),(∀d∈ds,d<=m)->ds.sum<=ds.length*m/\((∃k,k<ds.length/\ds.getD k 0<m)->ds.sum<ds.length*m)
 | [],_=>⟨Nat.zero_le _,λ⟨_,h,_⟩=>by cases h⟩
 |d::ds,h=>by
  obtain⟨h1,h2⟩:=List.forall_mem_cons.mp h
  obtain⟨i1,i2⟩:=aae ds h2
  have e:(ds.length+1)*m=ds.length*m+m:=Nat.succ_mul ..
  rw[List.sum_cons,List.length_cons,e]
  refine⟨by lia,λ⟨k,k1,k2⟩=>?_⟩
  cases k with
  |zero=>have k2:d<m:=k2; lia
  |succ k=>have:=i2 ⟨k,by simpa using k1,k2⟩; lia
noncomputable def rE(g:List Nat->List Nat)(d:List Nat):Nat->List Nat
 | 0=>d
 |k+1=>g (rE g d k)
theorem reach{L m:Nat}{p:List Nat->Bool}{x:List Nat->Nat}(hx:∀ds,Lk L m ds []->uG L m ds->x ds<L/\ds.getD (x ds) 0<m)(hp:∀ds,Lk L m ds []->(∀k,k<L->ds.getD k 0=m)->p ds=true):∃T,T<=L*m/\p (rE (λds=>ds.set (x ds) (ds.getD (x ds) 0+1)) (List.replicate L 0) T)=true/\∀k,k<=T->Lk L m (rE (λds=>ds.set (x ds) (ds.getD (x ds) 0+1)) (List.replicate L 0) k) []/\(k<T->p (rE (λds=>ds.set (x ds) (ds.getD (x ds) 0+1)) (List.replicate L 0) k)=false/\uG L m (rE (λds=>ds.set (x ds) (ds.getD (x ds) 0+1)) (List.replicate L 0) k)):=by
 generalize hD:rE (λds=>ds.set (x ds) (ds.getD (x ds) 0+1)) (List.replicate L 0)=D
 have d0:D 0=List.replicate L 0:=by rw[<-hD]; rfl
 have d1:∀k,D (k+1)=(D k).set (x (D k)) ((D k).getD (x (D k)) 0+1):=λk=>by rw[<-hD]; rfl
 have un:∀ds,Lk L m ds []->p ds=false->uG L m ds:=λds hL q=>Classical.byContradiction λn=>by
  rw[hp ds hL λk hk=>by
   have:=hL.2.1 (ds.getD k 0) (getM (d:=0) (show k<ds.length by have:=hL.1; lia))
   have:¬ds.getD k 0<m:=λh=>n ⟨k,hk,h⟩
   lia]at q
  cases q
 have st:∀k,(∀j,j<k->p (D j)=false)->Lk L m (D k) []/\(D k).sum=k:=λk=>by
  induction k with
  |zero=>exact λ_=>d0▸⟨Lk.rep (Nat.zero_le _),by simp⟩
  |succ k ih =>
   intro h
   obtain⟨i1,i2⟩:=ih λj hj=>h j (by lia)
   obtain⟨x1,x2⟩:=hx _ i1 (un _ i1 (h k (by lia)))
   rw[d1]
   refine⟨⟨by rw[List.length_set]; exact i1.1,λd hd=>?_,.nil,Nat.zero_le _,λp hp=>by cases hp⟩,by rw[aad _ _ (by have:=i1.1; lia),i2]⟩
   rcases List.mem_or_eq_of_mem_set hd with q|q
   .exact i1.2.1 d q
   .lia
 have ex:∃n,n<=L*m/\p (D n)=true:=Classical.byContradiction λn=>by
  have no:∀j,j<=L*m->p (D j)=false:=λj hj=>Bool.eq_false_iff.mpr λq=>n ⟨j,hj,q⟩
  obtain⟨i1,i2⟩:=st (L*m) λj hj=>no j (by lia)
  obtain⟨k,k1,k2⟩:=un _ i1 (no _ (Nat.le_refl _))
  have:=(aae _ i1.2.1).2 ⟨k,by have:=i1.1; lia,k2⟩
  rw[i1.1]at this
  lia
 obtain⟨n,n1,n2⟩:=ex
 obtain⟨T,t1,t2,t3⟩:=Dj (p:=λn=>p (D n)) n2
 exact⟨T,by lia,t2,λk hk=>have a:=(st k λj hj=>t3 j (by lia)).1; ⟨a,λq=>⟨t3 k q,un _ a (t3 k q)⟩⟩⟩
end
section
variable {m c:Nat}{rows:List (LZ)}{ds:List Nat}{r:Ru}
noncomputable abbrev hpT(ds zs:List Nat):Tr:=.tup [.tup [.lst (ds.map iT),.lst []],.lst (zs.map iT)]
theorem aj7{B w:Int}{f:List Nat->List Nat × Bool}(hB:Bk m rows)(pO:Bd B rows)(ho:bG rows.length r)(hc:c<=m)(e1:pJ [aX rows,bw r]=.ok (dW B w rows r,false))(hf:Dk m c rows r (dW B w rows r) f):∃ds zs,ZL [aX rows,bw r,iT c]=.ok (hpT ds zs,false)/\Lk rows.length m ds []/\(f ds).2=true:=by
 have nd:=CP hB ho hc
 have h1:=hB.1
 have h4:=hB.2.1
 have b4:=hB.2.2.2.1
 have l0:=(hB.row h1).2.1
 have q:∀ds,∃x,Lk rows.length m ds []->uG rows.length m ds->Hop (Dl rows ds) rows.length m ds x/\Cm [aL (cL aB (B,1) (bT B rows) ds),.lst (ds.map iT),iT m]=.ok (iT x,false):=λds=>by
  by_cases a:Lk rows.length m ds []/\uG rows.length m ds
  .obtain⟨x,h⟩:=aj6 hB pO a.1 a.2
   exact⟨x,λ_ _=>h⟩
  .exact⟨0,λa1 a2=>(a ⟨a1,a2⟩).elim⟩
 obtain⟨x,hx⟩:=Classical.skolem.mp q
 obtain⟨T,t1,t2,t3⟩:=reach (p:=λds=>(f ds).2) (x:=x) (λds a1 a2=>⟨(hx ds a1 a2).1.1,(hx ds a1 a2).1.2.1⟩) λds a1=>(hf ds a1).2.2.1
 generalize hDD:rE (λds=>ds.set (x ds) (ds.getD (x ds) 0+1)) (List.replicate rows.length 0)=D at t2 t3
 have d0:(D 0).map iT=List.replicate rows.length (iT 0):=by rw[<-hDD]; exact List.map_replicate
 have d1:∀k,D (k+1)=(D k).set (x (D k)) ((D k).getD (x (D k)) 0+1):=λk=>by rw[<-hDD]; rfl
 have d2:∀k,(D (k+1)).map iT=((D k).map iT).set (x (D k)) (.int (((D k).getD (x (D k)) 0:Int)+1)):=λk=>by rw[d1,List.map_set]; rfl
 have t48:rows.length*m<=48:=Nat.mul_le_mul h4 b4
 have dl:∀k,k<=T->(D k).length=rows.length:=λk hk=>(t3 k hk).1.1
 have sF:∀n,n<=T->iw [dW B w rows r,iT c,.tup [.lst ((D n).map iT),.lst []]]=.ok (nJ (f (D n)).2 (f (D n)).1,(f (D n)).2):=λn hn=>(hf _ (t3 n hn).1).1
 have s0:∀n,n<T->iw [dW B w rows r,iT c,.tup [.lst ((D n).map iT),.lst []]]=.ok (.non,false):=λn hn=>by rw[sF n (by lia),((t3 n (by lia)).2 hn).1]; rfl
 have s1:iw [dW B w rows r,iT c,.tup [.lst ((D T).map iT),.lst []]]=.ok (.lst ((f (D T)).1.map iT),true):=by rw[sF T (Nat.le_refl _),t2]; rfl
 have sL:=(hf _ (t3 T (Nat.le_refl _)).1).2.2.2
 have gm:lA (.lst [.int 0]) (.int (rows.length:Int))=.ok (.lst ((D 0).map iT),true):=d0▸mulR (by lia)
 have xb:∀n,n<T->x (D n)<rows.length:=λn hn=>(hx _ (t3 n (by lia)).1 ((t3 n (by lia)).2 hn).2).1.1
 have gx:∀n,n<T->((D n).map iT)[x (D n)]?=some (.int ((D n).getD (x (D n)) 0:Nat)):=λn hn=>by
  have:=xb n hn
  have:=dl n (by lia)
  rw[List.getElem?_map,List.getD_eq_getElem?_getD,List.getElem?_eq_getElem (by lia)]
  rfl
 refine⟨D T,(f (D T)).1,?_,(t3 T (Nat.le_refl _)).1,t2⟩
 .generalize (f (D T)).1=zs at s1 sL ⊢
  have nz:=Lg zs
  have nf:fM (.lst (zs.map iT),true)=true:=nz
  have sn:∀n,n<T->jc zs T n=.sh .non:=λn h=>if_neg (Nat.ne_of_lt h)
  have sT:jc zs T T=.dp (zs.map iT):=if_pos rfl
  apply L2.dFn; (dsimp only[L2.fL,List.map,List.length,List.replicate,List.append,HAppend.hAppend,Append.append,Nat.reduceSub,Nat.reduceAdd] <;> exact rfl)
  iterate 42 walk_at "1"
  refine J1 (λ_:Unit=>[(5,jc zs T 0)]) (λ_=>True) ?_ λ_ _=>?_
  .rcases Nat.eq_zero_or_pos T with z|z
   .have Lh:iw [dW B w rows r,iT c,.tup [.lst ((D 0).map iT),.lst []]]=.ok (.lst (zs.map iT),true):=z▸s1
    walk_at "r"
    exact⟨rfl,(),trivial,by rw[show jc zs T 0=.dp (zs.map iT)from z▸sT]; rfl⟩
   .have Lh:=s0 0 z
    walk_at "r"
    exact⟨rfl,(),trivial,by rw[sn 0 z]; rfl⟩
  dsimp only[pt,List.map,List.set]
  walk_at "r"
  refine Ce [6] (λn:Nat=>[(4,.ow ((D n).map iT)),(5,jc zs T n)]) (λn=>n<=T) (λn=>T-n) 0 (Nat.zero_le _) rfl (by show T-0<100; lia) λv n hn=>?_
  dsimp only[pt,List.map,List.set]
  rcases Nat.lt_or_ge n T with q|q
  .rw[sn n q]
   have el:Ks [aX (bT B rows),.lst ((D n).map iT),fT (B,1)]=.ok (aL (cL aB (B,1) (bT B rows) (D n)),true):=YC (ajR hB pO) (by rw[pK]; exact dl n hn) (t3 n hn).1.2.1
   have em:Cm [aL (cL aB (B,1) (bT B rows) (D n)),.lst ((D n).map iT),.int ((rows.getD 0 []).length:Nat)]=.ok (iT (x (D n)),false):=by
    rw[l0]
    exact(hx _ (t3 n hn).1 ((t3 n hn).2 q).2).2
   have fl:([Rv.v (aX (bT B rows)) false,Rv.s 4,Rv.v (fT (B,1)) false].any oX && !fM (aL (cL aB (B,1) (bT B rows) (D n)),true))=false:=by
    rw[show fM (aL (cL aB (B,1) (bT B rows) (D n)),true)=true from ajP _]
    rfl
   have gn:=gx n q
   apply nu
   iterate 64 walk_at "1"
   refine J1 (λ_:Unit=>[(5,jc zs T (n+1))]) (λ_=>True) ?_ λ_ _=>?_
   .rcases Nat.lt_or_ge (n+1) T with q2|q2
    .have es:iw [dW B w rows r,iT c,.tup [.lst (((D n).map iT).set (x (D n)) (.int (((D n).getD (x (D n)) 0:Nat)+1))),.lst []]]=.ok (.non,false):=by rw[<-d2]; exact s0 _ q2
     walk_at "r"
     exact⟨rfl,(),trivial,by rw[sn _ q2]; rfl⟩
    .obtain rfl:n+1=T:=Nat.le_antisymm q q2
     have es:iw [dW B w rows r,iT c,.tup [.lst (((D n).map iT).set (x (D n)) (.int (((D n).getD (x (D n)) 0:Nat)+1))),.lst []]]=.ok (.lst (zs.map iT),true):=by rw[<-d2]; exact s1
     walk_at "r"
     exact⟨rfl,(),trivial,by rw[sT]; rfl⟩
   dsimp only[pt,List.map,List.set]
   walk_at "r"
   exact⟨n+1,q,Nat.sub_lt_sub_left q (Nat.lt_succ_self n),exV (by rw[d2]; rfl)⟩
  .obtain rfl:n=T:=Nat.le_antisymm hn q
   rw[sT]
   have nD:=Lg (D n)
   apply nu
   walk_at "r"
end
theorem cD1{row:List Nat}(hr:row.length<=1000)(N:Sl):∀(ds:List Nat) (s:Sl),∃s',fU (gN 1) gq (gU gM (bx 0) (vP (cN (bx 1) cY))) (ds.map iT) [.sh (rT row),s,N]=.ok (ds.map λd=>rT (row++[d]),[.sh (rT row),s',N])
 | [],s=>⟨s,rfl⟩
 |d::ds,s=>by
  obtain⟨s',e⟩:=cD1 hr N ds (.sh (iT d))
  have ga:gM (rT row) (.lst [iT d])=.ok (rT (row++[d]),true):=by
   refine(if_pos ?_).trans (by rw[<-List.map_singleton,<-List.map_append])
   rw[List.length_map]
   show row.length+1<=100000
   lia
  exact⟨s',bk (a:=[.sh (rT row),.sh (iT d),N]) rfl (bk rfl ((if_pos rfl).trans (bk (pQ rfl (Ni (pP rfl rfl) rfl (by show 1<=1000; lia)) rfl rfl ga) (bk rfl (bk e rfl)))))⟩
theorem cG1{n:Nat}(hn:n<1000):∀(rows:List (List Nat)) (s0 s1:Sl),(∀r∈rows,r.length<=1000)->∃t0 t1,qW (gN 0) (Bf (cN (gU gM (bx 2) (eC (.int 1))) cY)) (gN 1) (gU gM (bx 0) (vP (cN (bx 1) cY))) (rows.map rT) [s0,s1,.sh (iT n)]=.ok ((rows.flatMap λr=>(List.range (n+1)).map λd=>r++[d]).map rT,[t0,t1,.sh (iT n)])
 | [],s0,s1,_=>⟨s0,s1,rfl⟩
 |r::rows,s0,s1,h=>by
  obtain⟨h1,h2⟩:=List.forall_mem_cons.mp h
  obtain⟨s',e⟩:=cD1 h1 (.sh (iT n)) (List.range (n+1)) s1
  obtain⟨t0,t1,e'⟩:=cG1 hn rows (.sh (rT r)) s' h2
  refine⟨t0,t1,bk (a:=[.sh (rT r),s1,.sh (iT n)]) rfl (bk (a:=((List.range (n+1)).map iT,[.sh (rT r),s1,.sh (iT n)])) (Nj (n:=n+1) (pQ rfl rfl rfl rfl Nf) rfl (by lia)) ((if_pos (by dsimp only; rw[List.length_map,List.length_range]; lia)).trans (bk e (bk e' ?_))))⟩
  dsimp only
  rw[List.flatMap_cons,List.map_append,List.map_map]
  rfl
theorem xAD{m n:Nat}{rows:List (List Nat)}{s:Sl}(hn:n<1000)(hl:rows.length<=100)(hr:∀r∈rows,r.length<=1000):wR [none,none,some 1] (qP (bx 2)) (gN 0) (Bf (cN (gU gM (bx 2) (eC (.int 1))) cY)) (gN 1) (gU gM (bx 0) (vP (cN (bx 1) cY))) [.sh (iT m),.sh (iT n),.sh (.lst (rows.map rT)),s]=.ok (.v (.lst ((rows.flatMap λr=>(List.range (n+1)).map λd=>r++[d]).map rT)) true,[.sh (iT m),.sh (iT n),.sh (.lst (rows.map rT)),s]):=by
 obtain⟨t0,t1,e⟩:=cG1 hn rows .un .un hr
 refine bk (a:=(rows.map rT,_)) rfl ((if_pos (by rw[List.length_map]; exact hl)).trans ?_)
 show(dw (qW _ _ _ _ (rows.map rT) [.un,.un,.sh (iT n)])).bind _=_
 rw[e]
 exact bk rfl ((if_pos rfl).trans rfl)
theorem Lj{n:Nat}:∀k,(cO n k).length=(n+1) ^ k
 | 0=>rfl
 |k+1=>by
  unfold cO
  rw[List.length_flatMap,Nat.pow_succ,<-Lj k]
  simp only[List.length_map,List.length_range]
  rw[List.map_const',List.sum_replicate_nat]
theorem aj8{m n:Nat}(h1:1<=m)(h2:m<=3)(h3:1<=n)(h4:n<=4):K7 [iT m,iT n]=.ok (.lst ((bL m n).map rT),true):=by
 obtain⟨hc,hp⟩:=Di h1 h2 h3 h4
 walk_at "d"
 refine xq [3] (λk=>[(2,.sh (.lst ((cO n k).map rT)))]) rfl (λk v hk=>?_) (λv=>?_)
 .have l1:(cO n k).length<=100:=by
   rw[Lj]
   have a:(n+1) ^ k<=5 ^ k:=Nat.pow_le_pow_left (by lia) k
   have b:5 ^ k<=5 ^ 2:=Nat.pow_le_pow_right (by lia) (by lia)
   lia
  have st:=xAD (m:=m) (s:=.sh (iT k)) (show n<1000 by lia) l1 λr hr=>by have:=(uE.mp hr).1; lia
  walk_at "p"
 .have st:CW (cN (bx 2) cY) [.sh (iT m),.sh (iT n),.sh (.lst ((cO n m).map rT)),v 3]=_:=xSS (pP rfl rfl) rfl hc hp
  walk_at "p"
  done
section
variable {m c:Nat}{rows:List (LZ)}{r:Ru}{f:List Nat->List Nat × Bool}{B k:Int}(hB:Bk m rows)(ho:bG rows.length r)(hc:c<=m)(e1:pJ [aX rows,bw r]=.ok (dW B k rows r,false))(hf:Dk m c rows r (dW B k rows r) f)(h3:rows.length<=3)(h4:m<=4)
include hB ho hc e1 hf h3 h4
theorem aj9{ds:List Nat}(h:ds∈bL rows.length m):Lk rows.length m ds []:=by
 obtain⟨a,b⟩:=((uF (Di hB.1 h3 hB.2.2.1 h4).1).2.2.2.2.mem ds).mp h
 exact⟨a,b,.nil,Nat.zero_le _,λp hp=>by cases hp⟩
theorem akb:∃ds zs:List Nat,ZQ [aX rows,bw r,iT c]=.ok (.tup [rT ds,.lst (zs.map iT)],false)/\Lk rows.length m ds []/\uo [aX rows,bw r,iT c,jw ds []]=.ok (.lst (zs.map iT),true)/\(zs.length<=12/\(f ds).2=true)/\∀es,Lk rows.length m es []->((f es).2=true->jx es ds=false):=by
 have nd:=CP hB ho hc
 have h1:=hB.1
 have b3:=hB.2.2.1
 have l0:=(hB.row h1).2.1
 have D:=(uF (Di h1 h3 b3 h4).1).2.2.2.2
 have ln:(bL rows.length m).length<=1000:=by
  obtain⟨a1,a2,a3,_⟩:=uF (Di h1 h3 b3 h4).1
  unfold bL
  rw[List.length_map]
  lia
 have lk:∀i,i<(bL rows.length m).length->Lk rows.length m ((bL rows.length m).getD i []) []:=λi hi=>aj9 hB ho hc e1 hf h3 h4 (getM (d:=[]) hi)
 have hT:∃n,n<(bL rows.length m).length/\(f ((bL rows.length m).getD n [])).2=true:=by
  obtain⟨n,hn,e⟩:=List.getElem_of_mem ((D.mem (List.replicate rows.length m)).mpr ⟨List.length_replicate,λd hd=>Nat.le_of_eq (List.mem_replicate.mp hd).2⟩)
  refine⟨n,hn,?_⟩
  rw[show(bL rows.length m).getD n []=List.replicate rows.length m by simp[hn,e]]
  exact(hf _ (Lk.rep (Nat.le_refl _))).2.2.1 λk hk=>by rw[List.getD_eq_getElem?_getD,List.getElem?_replicate,if_pos hk]; rfl
 obtain⟨n,hn,et⟩:=hT
 obtain⟨R,r1,r2,r3⟩:=Dj (p:=λi=>(f ((bL rows.length m).getD i [])).2) (n:=n) et
 have hR:R<(bL rows.length m).length:=by lia
 have s0:∀i,i<(bL rows.length m).length->iw [dW B k rows r,iT c,.tup [rT ((bL rows.length m).getD i []),.lst []]]=.ok (nJ (f ((bL rows.length m).getD i [])).2 (f ((bL rows.length m).getD i [])).1,(f ((bL rows.length m).getD i [])).2):=λi hi=>(hf _ (lk i hi)).1
 have e2:=Z9 (form:=dW B k rows r) (g:=λi=>.tup [rT ((bL rows.length m).getD i []),.lst []]) (N:=(bL rows.length m).length) (R:=R) (c:=c) (zs:=(f ((bL rows.length m).getD R [])).1) ln hR (λi hi=>by rw[s0 i (by lia),r3 i hi]; rfl) (by rw[s0 R hR,r2]; rfl)
 have e3:uo [aX rows,bw r,iT c,jw ((bL rows.length m).getD R []) []]=.ok (.lst ((f ((bL rows.length m).getD R [])).1.map iT),true):=by
  rw[aac hB ho hc e1 hf (lk R hR),r2]
  rfl
 refine⟨(bL rows.length m).getD R [],(f ((bL rows.length m).getD R [])).1,?_,lk R hR,e3,⟨(hf _ (lk R hR)).2.2.2,r2⟩,λes hes se=>?_⟩
 .have ed:K7 [.int (rows.length:Nat),.int (m:Nat)]=_:=aj8 h1 h3 b3 h4
  have el:eH (aL (rows.getD 0 []))=.ok (.int m,false):=by rw[lU,l0]
  have em:((List.range (bL rows.length m).length).map λi=>Tr.tup [rT ((bL rows.length m).getD i []),.lst []])=(bL rows.length m).map λds=>Tr.tup [rT ds,.lst []]:=List.ext_getElem (by simp) λi h1 h2=>by
   have:i<(bL rows.length m).length:=by simpa using h2
   simp[this]
  rw[em]at e2
  have gR:aZ (.lst ((bL rows.length m).map rT)) (.int R)=.ok (rT ((bL rows.length m).getD R []),false):=pX (k:=R) [] hR
  generalize bL rows.length m=L at *
  walk_at "d"
  done
 .refine Bool.eq_false_iff.mpr λlt=>?_
  obtain⟨j,hj,ej⟩:=List.getElem_of_mem ((D.mem es).mpr ⟨hes.1,hes.2.1⟩)
  have q:=D.lt (i:=j) (j:=R) (by rw[List.getElem?_eq_getElem hj,ej]) (by rw[List.getElem?_eq_getElem hR]; simp[hR]) lt
  have:=r3 j q
  rw[show(bL rows.length m).getD j []=es by simp[hj,ej],se]at this
  cases this
end
theorem aaf:∀ds:List Nat,(inR ds).sum=((ds.sum:Nat):Int)
 | []=>rfl
 |d::ds=>by
  show(d:Int)+(inR ds).sum=_
  rw[aaf ds,List.sum_cons,Int.natCast_add]
theorem Ln(ds:List Nat):ud (rT ds)=.ok (.int (inR ds).sum,false):=by
 unfold ud
 dsimp only
 rw[Lf]
theorem Lp:∀ds:List Nat,intsOf (ds.map iT)=some (inR ds)
 | []=>rfl
 |d::ds=>by
  show(intsOf (ds.map iT)).map _=_
  rw[Lp ds]
  rfl
theorem ltG(es ds:List Nat):uz (.tup [.int (inR es).sum,rT es]) (.tup [.int (inR ds).sum,rT ds])=.ok (.bl (jx es ds),false):=by
 unfold uz
 dsimp only
 rw[Lp,Lp]
 rfl
theorem akc{m n:Nat}(h1:1<=m)(h2:m<=3)(h4:n<=4):Lb [iT m,iT n]=.ok (.lst ((cO n m).map rT),false):=by
 have sl:∀k,k<=3->(cO n k).length<=125:=λk hk=>by
  rw[Lj]
  have a:(n+1) ^ k<=5 ^ k:=Nat.pow_le_pow_left (by lia) k
  have b:5 ^ k<=5 ^ 3:=Nat.pow_le_pow_right (by lia) hk
  lia
 have an:gM (.int (n:Nat)) (.int 1)=.ok (.int ((n+1:Nat):Int),false):=rfl
 walk_at "d"
 refine xq [3,4,5] (λk=>[(2,.sh (.lst ((cO n k).map rT)))]) rfl (λk v hk=>?_) (λv=>?_)
 .have l1:=sl k (by lia)
  have l2:=sl (k+1) (by lia)
  walk_at "p"
  refine pG [5] (λj:Nat=>[(4,.sh (.lst ((((cO n k).take j).flatMap λr=>(List.range (n+1)).map λd=>r++[d]).map rT)))]) (λi j=>i=j) 0 rfl rfl (λj row v j' hj i=>?_) (λv j i=>?_)
  .subst i
   have hr:=(uE.mp (List.mem_of_getElem? hj)).1
   have tk:(cO n k).take (j+1)=(cO n k).take j++[row]:=by rw[List.take_add_one,hj]; rfl
   have l3:(((cO n k).take (j+1)).flatMap λr=>(List.range (n+1)).map λd=>r++[d]).length<=1000:=by
    rw[List.length_flatMap]
    simp only[List.length_map,List.length_range]
    rw[List.map_const',List.sum_replicate_nat,List.length_take]
    have:min (j+1) (cO n k).length*(n+1)<=125*5:=Nat.mul_le_mul (Nat.le_trans (Nat.min_le_right _ _) l1) (by lia)
    lia
   rw[tk,List.flatMap_append,List.length_append,List.flatMap_singleton]at l3
   have eS:((((cO n k).take j).flatMap λr=>(List.range (n+1)).map λd=>r++[d]).map rT)++(List.range (n+1)).map (λx:Nat=>Tr.lst (row.map iT++[Tr.int x]))=(((cO n k).take (j+1)).flatMap λr=>(List.range (n+1)).map λd=>r++[d]).map rT:=by
    rw[tk,List.flatMap_append,List.flatMap_singleton,List.map_append,List.map_map]
    refine congrArg _ (List.map_congr_left λx _=>?_)
    show _=Tr.lst ((row++[x]).map iT)
    rw[List.map_append]
    rfl
   walk_at "p"
   exact⟨j+1,rfl,exV (by rw[<-eS]; rfl)⟩
  .subst i
   rw[List.take_length]
   walk_at "p"
 .walk_at "p"
  done
theorem aag:∀(ds:List Nat) (k:Nat),ds.getD k 0<=ds.sum
 | [],k=>Nat.zero_le _
 |d::ds,0=>by rw[List.sum_cons]; exact Nat.le_add_right ..
 |d::ds,k+1=>by
  have:=aag ds k
  rw[List.sum_cons,List.getD_cons_succ]
  lia
theorem akd(ns:List Int):uD [.lst (ns.map .int)]=.ok (.bl true,false):=by
 obtain⟨m,rows,hB,hD,h4,h3,e1⟩:=ajO ns 0 (L:=3) (M:=4) (by lia) (by lia)
 obtain⟨x7,c7,_⟩:=cell_eq ns 7
 obtain⟨r,q1,o1,oS⟩:=ajQ x7 hB.1 hB.2.1
 obtain⟨b1,b2,b3,b4,b5⟩:=id hB
 have l0:=(hB.row b1).2.1
 have el:eH (aL (rows.getD 0 []))=.ok (.int m,false):=by rw[lU,l0]
 have ea:gM (.int (m:Nat)) (.int 1)=.ok (.int ((m+1:Nat):Int),false):=rfl
 have gZ:∀zs:List Nat,zs.length<=12->jW (.lst (zs.map iT)) (.lst (zs.map iT))=.ok (.bl false,false):=λzs hz=>ahG (by
  rw[ahF,Kz]
  lia)
 have ed:Lb [.int (rows.length:Nat),.int (m:Nat)]=_:=akc hB.1 h3 h4
 walk_at "d"
 refine xq [3,4,5,6] (λ_=>[]) rfl (λc v hc=>?_) (λv=>?_)
 .have hc:c<=m:=by lia
  obtain⟨B,k,pO,w1,f,hf⟩:=aj2 hB hD o1 oS hc
  obtain⟨ds,zs,r1,r2,r3,⟨r4,r6⟩,r5⟩:=akb hB o1 hc w1 hf h3 h4
  obtain⟨R,us,p1,p2,p3⟩:=aj5 hB o1 hc w1 hf
  obtain⟨D,vs,t1,t2,t3⟩:=aj7 hB pO o1 hc w1 hf
  have r3:uo [aX rows,bw r,iT c,.tup [rT ds,.lst []]]=_:=r3
  have gN:=gZ zs r4
  have s1:=Ln ds
  have s2:=Ln D
  have cR:¬((inR ds).sum<(R:Int)):=λlt=>by
   rw[aaf]at lt
   have hl:=Lk.rep (L:=rows.length) (show ds.sum<=m by omega)
   obtain⟨T,u1,u2,u3,u4⟩:=(hf ds r2).2.1.mp r6
   have:=(hf _ hl).2.1.mpr ⟨T,u1,u2,u3,ajY hB r2 hl ⟨λk=>?_,λp hp=>hp⟩ o1 u3 u4⟩
   .rw[p3 ds.sum (by omega)]at this
    cases this
   .by_cases hk:k<rows.length
    .rw[show(List.replicate rows.length ds.sum).getD k 0=ds.sum by simp[hk]]
     exact aag ds k
    .have:=r2.1
     rw[List.getD_eq_getElem?_getD,List.getElem?_eq_none (by omega)]
     exact Nat.zero_le _
  have cD:¬((inR D).sum<(inR ds).sum):=λlt=>by
   have:=r5 D t2 t3
   unfold jx HT.pN at this
   rw[if_neg (by lia),decide_eq_true lt]at this
   cases this
  walk_at "p"
  refine pG [6] (λ_:Unit=>[]) (λ_ _=>True) () trivial rfl (λj es v _ hj _=>?_) (λv _ _=>?_)
  .obtain⟨a1,a2⟩:=uE.mp (List.mem_of_getElem? hj)
   have he:Lk rows.length m es []:=⟨a1,a2,.nil,Nat.zero_le _,λp hp=>by cases hp⟩
   have s3:=Ln es
   have gl:=ltG es ds
   by_cases lt:jx es ds=true
   .have fs:uo [aX rows,bw r,iT c,.tup [rT es,.lst []]]=.ok (.non,false):=by
     refine(aac hB o1 hc w1 hf he).trans ?_
     rw[show(f es).2=false from Bool.eq_false_iff.mpr λq=>by rw[r5 es he q]at lt; cases lt]
     rfl
    walk_at "p"
    exact⟨(),trivial,exV rfl⟩
   .have lt:=Bool.eq_false_iff.mpr lt
    walk_at "p"
    exact⟨(),trivial,exV rfl⟩
  .walk_at "p"
   done
 .walk_at "p"
  done
end K94
end
section
namespace L2
open PySem PySem.Spec PyProof.Rows PySem.W
noncomputable def aah:List Ty:=[.int,.bool,.str,.tuple,.list]
noncomputable def aai(K:Frag)(cs:List Str)(p:Str->Addr->Bool):Bool:=cs.all λc=>match nsIn K mainGlobals c with
 |some (some (.ref C))=>p c C
 |_=>true
theorem ake{K:Frag}{cs:List Str}{p:Str->Addr->Bool}(h:aai K cs p=true){c:Str}(m:c∈cs){C:Addr}(n:nsIn K mainGlobals c=some (some (.ref C))):p c C=true:=by
 have:=List.all_eq_true.mp h c m
 rw[n]at this
 exact this
noncomputable def Lr(K:Frag)(C:Addr):Bool:=findIn K (.ref C) "__getattribute__" == some (some (.builtin "BaseException.__getattribute__"))&&findIn K (.ref C) "__getattr__" == some none&&findIn K (.ref C) "__class__" == some (some (.builtin "object.__class__"))&&mroIn K C (.type "object") == some true&&mroIn K C (.type "BaseException") == some true&&(clsIn K C).isSome
theorem akf{K:Frag}{C:Addr}(h:Lr K C=true):oM K C:=by
 unfold Lr at h
 simp only[Bool.and_eq_true]at h
 obtain⟨⟨⟨⟨⟨h1,h2⟩,h3⟩,h4⟩,h5⟩,h6⟩:=h
 exact⟨beq_iff_eq.mp h1,beq_iff_eq.mp h2,beq_iff_eq.mp h3,beq_iff_eq.mp h4,beq_iff_eq.mp h5,h6⟩
theorem mG.of{K:Frag}(h:(aai K yR λ_ C=>Lr K C&&aah.all λy=>kitOne K (.ref C) (.type y.name) == some false)=true):mG K:=λc m C n=>by
 obtain⟨x1,x2⟩:=an.mp (ake h m n)
 exact⟨λa=>adL (akf x1),λy=>beq_iff_eq.mp (List.all_eq_true.mp x2 y (by cases y <;> simp[aah]))⟩
theorem akg{P:Program}{w:World}{K:FZ}{mg mb:Str->Option Value}{CX:iG}{k:Nat}{fa a:Addr}{x:Str}{sp:Sp}{s₁ : Shared}{vs:List Value}{ns:List Int}
  (KX:K.In s₁.heap) (hns:s₁.heap.Ns mainGlobals mg) (hb:s₁.heap.Ns builtinsNs mb) (hbb:∀x:Str,x ≠ "__name__" -> mb x=bootBuiltins x) (hlim:s₁.heap.NoLimit) (hg:s₁.gens = #[])
  (ha:s₁.heap.get? a=some {cls:=.type "list",data:=.seq vs.toArray }) (hi:IntsAre vs ns) (hl:ns.length<=sizeLine) (hr:dK k callerA)
  (hT:∀x∈eZ,∀c b,tabIn K x=some (c,b)->CodeHd s₁.heap c b/\s₁.heap.get? b=some (tabObj #[])) (rF:noTabs K=true) (hB:mW mg s₁.heap)
  (F:∀base:Heap,K.In base->base.Ns mainGlobals mg->(∀x∈eZ,∀c b,tabIn K x=some (c,b)->CodeHd base c b)->mW mg base->∃fd:FuncData,(∀(s:Shared) (u:Value),K.In s.heap->BindsTo s fd ⟨[u],[]⟩ [(x,u)])/\jh P w K mg base CX k fa fd [x] sp)
  (hsp:∀H:Hp,bN (au K) H->iJ K H a (ns.map V.int)->sp [.ref a] H (λv _=>v=.bl true) λ_ _ _=>False)
  (Ls:∀H e s',CX [] H s₁ (λ_ _ _=>False) e s'->False) :
  codeAny (model P w) callerA (.call (.ref fa) ⟨[.ref a],[]⟩) (λr s'=>r=.ok (.ret (.bool true))/\OldK s₁.heap s'.heap/\s'.os=s₁.os/\AllBare s'.gens) s₁ := by
 have rv:=Fb hi
 have lenV:=hi.length
 -- from an abstract heap in which nothing but the script may be tracked
 have hT':∀b,Tb (au K) b->∃c,CodeHd s₁.heap c b/\s₁.heap.get? b=some (tabObj #[]):=λb ⟨x,hx,c,e⟩=>⟨c,hT x hx c b (RZ e)⟩
 have core:∀H:Hp,(∀b,H b=none\/(∃o xs,H b=some (.cV o (.lst xs)))\/(H b=some (.cF #[])/\Tb (au K) b))->bN (au K) H->iJ K H a (ns.map V.int)->cH P w H s₁.heap->(∀b,H b≠none->b=a\/Tb (au K) b)->(H a≠none->K.lookup a=none) ->
   codeAny (model P w) callerA (.call (.ref fa) ⟨[.ref a],[]⟩) (λr s'=>r=.ok (.ret (.bool true))/\OldK s₁.heap s'.heap/\s'.os=s₁.os/\AllBare s'.gens) s₁ := by
  intro H hO hTb hS hok hA hK
  have Dm:∀{b:Addr} {o:Obj},s₁.heap.get? b=some o->H b=none->(lW s₁.heap H).get? b=some o:=λe n=>abk e n
  have uT:∀{b:Addr} {o:Obj} {es:Array DictEntry} {ep:Nat},s₁.heap.get? b=some o->o.data=.dict es ep->H b=none:=λ{b o es ep} e d=>by
   cases q:H b with
   |none=>rfl
   |some u =>
    rcases hA b (by rw[q]; simp)with e'|e'
    .subst e'
     rw[ha]at e; cases e
     have d':Data.seq vs.toArray _=Data.dict es ep:=d
     cases d'
    .obtain⟨c,_,z⟩:=hT' b e'
     rw[z]at e; cases e
     cases d
  have Dn:∀{b:Addr} {m:Str->Option Value},s₁.heap.Ns b m->(lW s₁.heap H).Ns b m:=λ{b m} ⟨o,es,ep,e,d,r⟩=>⟨o,es,ep,Dm e (uT e d),d,r⟩
  have hKb:K.In (lW s₁.heap H):=λb o e=>Dm (KX b o e) (by
   cases q:H b with
   |none=>rfl
   |some u =>
    rcases hA b (by rw[q]; simp)with e'|e'
    .subst e'
     rw[hK (by rw[q]; simp)]at e; cases e
    .obtain⟨c,_,z⟩:=hT' b e'
     have z2:=KX b o e
     rw[z]at z2
     cases z2
     have h2:=List.all_eq_true.mp rF (b,_) (mem_of_lookupK e)
     exact absurd (show false=true from h2) Bool.false_ne_true)
  have hM:Mod K mg (lW s₁.heap H):=⟨hKb,Dn hns,⟨mb,Dn hb,hbb⟩,let⟨mc,h1,h2⟩:=hlim; ⟨mc,Dn h1,h2⟩⟩
  have e0:yK P w K mg (lW s₁.heap H) callerA [] s₁ H:=⟨rfl,hM,λb o e=>abl e,Nat.le_of_eq (abj _ _),trivial,λb hb=>absurd (show b∈([]:List Addr)from hb) (by simp),hok,.of_eq hg⟩
  have free:∀{b:Addr} {o:Obj},s₁.heap.get? b=some o->o.cls ≠ .none->(∀its n,o.data ≠ .seq its n)->H b=none:=λ{b o} e n1 n2=>by
   cases q:H b with
   |none=>rfl
   |some u =>
    rcases hA b (by rw[q]; simp)with e'|e'
    .subst e'
     rw[ha]at e; cases e
     exact(n2 _ _ rfl).elim
    .obtain⟨c,_,z⟩:=hT' b e'
     rw[z]at e; cases e
     exact(n1 rfl).elim
  obtain⟨fd,hbind,F1⟩:=F _ hKb (Dn hns) (λx hx c b e=>by
   obtain⟨o,vs',file,tf,flags,tg,inF,text,tt,e1,r1,r2,r3⟩:=(hT x hx c b e).1
   exact⟨o,vs',file,tf,flags,tg,inF,text,tt,Dm e1 (free e1 (by rw[r1]; intro z; cases z) (λ_ _ z=>by rw[r2]at z; cases z)),r1,r2,r3⟩) (by
   obtain⟨bm,ob,b1,b2,b3,b4,b5,b6,b7⟩:=hB
   exact⟨bm,ob,b1,b2,b3,Dm b4 (free b4 (by rw[b5]; intro z; cases z) (λ_ _ z=>by rw[b7]at z; cases z)),b5,b6,b7⟩)
  refine codeAny_mono (F1.run callerA [] s₁ H ⟨[.ref a],[]⟩ [.ref a] [.ref a] _ _ hr e0 (hbind s₁ (.ref a) KX) (.cons rfl .nil) (hsp H hTb hS)) λr s' h=>?_
  cases r with
  |error e=>exact(Ls H e s' h).elim
  |ok fl =>
   cases fl with
   |next=>exact False.elim h
   |brk=>exact False.elim h
   |cont=>exact False.elim h
   |ret u =>
    obtain⟨v,H',os,bare,un,hok',r',q⟩:=h
    have q':v=.bl true:=q
    subst q'
    obtain rfl:u=Value.bool true:=r'
    refine⟨rfl,⟨λb o e=>?_,λb o e=>un.there b o e (by simp)⟩,os,bare⟩
    cases q:H b with
    |none=>exact .inl (un.keep b o e q (by intro z; exact absurd (show b∈([]:List Addr)from z) (by simp)) (by simp))
    |some u =>
     rcases hO b with z|⟨ob,xs,z⟩|⟨z,zt⟩
     .rw[q]at z; cases z
     .have z2:=un.jP b ob _ z
      obtain⟨e1,_⟩:=hok b _ z
      obtain⟨e2,_⟩:=hok' b _ z2
      rw[e]at e1; cases e1
      exact .inl e2
     .obtain⟨more,z2⟩:=un.jQ b _ z
      have e1:s₁.heap.get? b=some (tabObj #[]):=hok b _ z
      have e2:s'.heap.get? b=some (tabObj (#[]++more)):=hok' b _ z2
      rw[e]at e1; cases e1
      obtain⟨c,hc,_⟩:=hT' b zt
      exact .inr (.inl ⟨(hc.tab e).isCodeTable,rfl,#[],more,rfl,e2⟩)
 classical
 have aaj:∀H:Hp,(∀b,Tb (au K) b->H b=some (.cF #[]))->bN (au K) H:=λH h x hx c b e=>⟨#[],h b ⟨x,hx,c,e⟩,trivial,λpos v z=>by cases z⟩
 have nTa:¬Tb (au K) a:=λz=>by
  obtain⟨c,_,e⟩:=hT' a z
  rw[ha]at e
  cases e
 cases hk:K.lookup a with
 |some o =>
  have e:=KX a o hk
  rw[ha]at e
  cases e
  refine core (λb=>if Tb (au K) b then some (.cF #[])else none) (λb=>?_) (aaj _ λb z=>if_pos z) (.inr ⟨vs.toArray,_,hk,by rw[List.size_toArray,lenV]; exact hl,by simpa using rv⟩) (λb u z=>?_) (λb z=>?_) λz=>?_
  .by_cases q:Tb (au K) b
   .exact .inr (.inr ⟨if_pos q,q⟩)
   .exact .inl (if_neg q)
  .by_cases q:Tb (au K) b
   .have z':=(if_pos q).symm.trans z
    cases z'
    obtain⟨c,_,e⟩:=hT' b q
    exact e
   .have z':=(if_neg q).symm.trans z
    cases z'
  .by_cases q:Tb (au K) b
   .exact .inr q
   .exact absurd (if_neg q) z
  .exact absurd (if_neg nTa) z
 |none =>
  refine core (λb=>if b=a then some (.cV {cls:=.type "list",data:=.seq vs.toArray } (.lst (ns.map V.int)))else if Tb (au K) b then some (.cF #[])else none) (λb=>?_) (aaj _ λb z=>by
   have nb:¬b=a:=λq=>nTa (by rw[<-q]; exact z)
   exact(if_neg nb).trans (if_pos z)) (.inl (.inr ⟨{cls:=.type "list",data:=.seq vs.toArray },if_pos rfl⟩)) (λb u z=>?_) (λb z=>?_) λ_=>hk
  .by_cases hb:b=a
   .exact .inr (.inl ⟨_,_,if_pos hb⟩)
   .by_cases q:Tb (au K) b
    .exact .inr (.inr ⟨(if_neg hb).trans (if_pos q),q⟩)
    .exact .inl ((if_neg hb).trans (if_neg q))
  .by_cases hb:b=a
   .have z':=(if_pos hb).symm.trans z
    cases z'
    subst hb
    exact⟨ha,by rw[List.length_map]; exact hl,vs,_,rv,ha⟩
   .have z':=(if_neg hb).symm.trans z
    by_cases q:Tb (au K) b
    .have z':=(if_pos q).symm.trans z'
     cases z'
     obtain⟨c,_,e⟩:=hT' b q
     exact e
    .have z':=(if_neg q).symm.trans z'
     cases z'
  .by_cases hb:b=a
   .exact .inl hb
   .by_cases q:Tb (au K) b
    .exact .inr q
    .exact absurd ((if_neg hb).trans (if_neg q)) z
theorem akh{l:PySem.W.OpenLaw}{n k:Nat}{q:Program}{loose:List Str}{XP:(Str->Option Value)->Heap->Prop}{YP:World->Heap->Prop}{d:DefRec}{K:Params->FZ}{CX:World->iG}{sp:World->Sp}{x:Str}
  (hn:l.most=some n) (hn2:n<=sizeLine) (hdf:d.params.defaults=[]) (hr:dK k callerA)
  (xW:∀x∈eZ,((recsOf q).find? (λe=>e.name == x)).isSome=true\/∀w:World,nsIn (K w.params) mainGlobals x=some none) (rF:∀w:World,noTabs (K w.params)=true)
  (hY:∀(w:World) (h:Heap),YP w h->(K w.params).In h)
  (F:∀(w:World) (mg:Str->Option Value) (fa:Addr) (h:Heap),(K w.params).In h->h.Ns mainGlobals mg->mg d.name=some (.ref fa) ->
   ∀base:Heap,(K w.params).In base->base.Ns mainGlobals mg->(∀x∈eZ,∀c b,tabIn (K w.params) x=some (c,b)->CodeHd base c b)->mW mg base->∃fd:FuncData,(∀(s:Shared) (u:Value),(K w.params).In s.heap->BindsTo s fd ⟨[u],[]⟩ [(x,u)])/\jh l.prog w (K w.params) mg base (CX w) k fa fd [x] (sp w))
  (hsp:∀(w:World) (H:Hp) (a:Addr) (ns:List Int),ns.length<=n->bN (au (K w.params)) H->iJ (K w.params) H a (ns.map V.int)->sp w [.ref a] H (λv _=>v=.bl true) λ_ _ _=>False)
  (Ls:∀(w:World) (H:Hp) (s:Shared) (e:Value) (s':Shared),CX w [] H s (λ_ _ _=>False) e s'->False) :
  PySem.W.WalkO q loose XP YP l.row.toRowW d [] (λf vs=>PySem.call f vs):=by
 refine QD.adp hn hdf λw s₀ s₁ mg mb fa o pm cd doc a vs ns G Y ho hd hcd hmg hobj hints hlen hg=>?_
 have KX:=hY w _ Y
 have hT:∀x∈eZ,∀c b,tabIn (K w.params) x=some (c,b)->CodeHd s₁.heap c b/\s₁.heap.get? b=some (tabObj #[]):=λx hx c b e=>by
  rcases xW x hx with z|z
  .obtain⟨d,z⟩:=Option.isSome_iff_exists.mp z
   exact tab_of G.T KX z e
  .rw[aeX (z w)]at e; cases e
 have hB:mW mg s₁.heap:=by
  obtain⟨bm,ob,b1,b2,b3,b4,b5,b6⟩:=G.T.bmain
  refine⟨bm,ob,b1,b2,λz=>?_,b3,b4,b5,b6⟩
  obtain⟨o,es,ep,e,hd,_⟩:=G.T.g
  rw[z,e]at b3; cases b3
  rw[hd]at b6; cases b6
 exact akg KX G.T.g G.T.b G.T.builtins G.T.nolimit hg hobj hints (Nat.le_trans hlen hn2) hr hT (rF w) hB (F w mg fa _ KX G.T.g hmg) (λH hO hS=>hsp w H a ns hlen hO hS) λH e s'=>Ls w H s₁ e s'
end L2
end
section
namespace K94
open PySem L2 BH PySem.W
section
variable {K:Frag}{mg:Str->Option Value}{h:Heap}
theorem aki{x:Str}{st:Stmt}(X:K.In h)(G:h.Ns mainGlobals mg){f:Addr}{od an:Option Addr}{sl:Array (Option Value)}{oc kV dc pm cd ct:Value}
  (a:nsIn K mainGlobals x=some (some (.ref f))) (l:K.lookup f=some ⟨oc,od,.func (fnOf x x (jV st) (gD st) (bV st) .none kV dc pm an cd ct),sl⟩) (c:codeIn K cd x=true) (k:keepIn K (.ref f)=true):At K mg x st :=
 ⟨f,_,QG (st:=st) l c k,mg_of X G a⟩
theorem aak{x:Str}{st:Stmt}(X:K.In h)(G:h.Ns mainGlobals mg){f c:Addr}{od an:Option Addr}{sl:Array (Option Value)}{oc kV dc pm ct:Value}
  (a:nsIn K mainGlobals x=some (some (.ref f))) (l:K.lookup f=some ⟨oc,od,.func (fnOf x x (jV st) (gD st) (bV st) .none kV dc pm an (.ref c) ct),sl⟩) (cc:codeIn K (.ref c) x=true) (k:keepIn K (.ref f)=true):sJ K mg x st c :=
 ⟨f,_,QG (st:=st) l cc k,mg_of X G a,rfl⟩
theorem Dp{x:Str}{i:Int}{tk:Tok}(X:K.In h)(G:h.Ns mainGlobals mg)(a:nsIn K mainGlobals x=some (some (.int i tk))):Gk K mg x (.int i) (.int i):=⟨.int i tk,mg_of X G a,by first|exact rfl|exact⟨_,rfl⟩,λ_=>.int i⟩
theorem xX{H:Hp}{a:Addr}{od:Option Addr}{its:Array Value}{n:Nat}{sl:Array (Option Value)}{xs:List V}{vs:List Value}{ts:List Tr}(l:K.lookup a=some ⟨.type "tuple",od,.seq its n,sl⟩) (e:its.toList=vs) (hl:vs.length<=1000) (r:Vals xs vs) (rr:aq (au K) H xs ts):Rep (au K) H (.ref a) (.tup ts):=by
 refine .tup (xs:=xs) (.inr ⟨_,its,n,adY l rfl,rfl,rfl,?_,by rw[e]; exact r⟩) rr
 rw[<-Array.length_toList,e]
 exact Nat.le_of_lt (Fd hl)
theorem akj(X:K.In h)(G:h.Ns mainGlobals mg){a r1 r2 r3:Addr}{od o1 o2 o3:Option Addr}{its i1 i2 i3:Array Value}{n n1 n2 n3:Nat}{sl QZ sl2 Fz:Array (Option Value)}{t1 t2 t3:Tok}
  (m:nsIn K mainGlobals "BARE_RULES" = some (some (.ref a))) (l:K.lookup a=some ⟨.type "tuple",od,.seq its n,sl⟩) (e:its.toList=[.ref r1,.ref r2,.ref r3])
  (l1:K.lookup r1=some ⟨.type "tuple",o1,.seq i1 n1,QZ⟩) (e1:i1.toList=[.str "least" t1]) (l2:K.lookup r2=some ⟨.type "tuple",o2,.seq i2 n2,sl2⟩) (e2:i2.toList=[.str "greatest" t2]) (l3:K.lookup r3=some ⟨.type "tuple",o3,.seq i3 n3,Fz⟩) (e3:i3.toList=[.str "product" t3]):Gk K mg "BARE_RULES" (.ref a) (.tup [(.tup [(.str "least")]),(.tup [(.str "greatest")]),(.tup [(.str "product")])]):=by
 refine⟨_,mg_of X G m,rfl,λH=>xX (xs:=[.ref r1,.ref r2,.ref r3]) l e (Nat.le_of_ble_eq_true rfl) (.cons rfl (.cons rfl (.cons rfl .nil))) ?_⟩
 exact .cons (xX (xs:=[.str "least"]) l1 e1 (Nat.le_of_ble_eq_true rfl) (.cons ⟨_,rfl⟩ .nil) (.cons (.str _) .nil)) (.cons (xX (xs:=[.str "greatest"]) l2 e2 (Nat.le_of_ble_eq_true rfl) (.cons ⟨_,rfl⟩ .nil) (.cons (.str _) .nil)) (.cons (xX (xs:=[.str "product"]) l3 e3 (Nat.le_of_ble_eq_true rfl) (.cons ⟨_,rfl⟩ .nil) (.cons (.str _) .nil)) .nil))
theorem akk(X:K.In h)(G:h.Ns mainGlobals mg){x:Str}{a:Addr}{od:Option Addr}{its:Array Value}{n:Nat}{sl:Array (Option Value)}{i j:Int}{t1 t2:Tok}
  (m:nsIn K mainGlobals x=some (some (.ref a))) (l:K.lookup a=some ⟨.type "tuple",od,.seq its n,sl⟩) (e:its.toList=[.int i t1,.int j t2]):Gk K mg x (.ref a) (.tup [.int i,.int j]) :=
 ⟨_,mg_of X G m,rfl,λH=>xX (xs:=[.int i,.int j]) l e (Nat.le_of_ble_eq_true rfl) (.cons ⟨_,rfl⟩ (.cons ⟨_,rfl⟩ .nil)) (.cons (.int _) (.cons (.int _) .nil))⟩
def Dq(K:Frag)(n:Nat)(F:FP):Sp:=λvs H Q E=>∃G ts,vs.length=n/\aq (au K) G vs ts/\Same G H/\bN (au K) H/\(∀b,Tb (au K) b->G b=none)/\∃p,F ts=.ok p/\∀v G' H',VN (au K) H G' H' v p.1 p.2->Q v H'
theorem akl{K:Frag}{cl:Str->Addr}{n:Nat}{F:FP}(vs:List V)(H:Hp)(Q:VK)(E:XK)(h:Dq K n F vs H Q E):oW K cl n F vs H Q E:=by
 obtain⟨G,ts,h1,h2,h3,h4,h5,p,h6,h7⟩:=h
 refine⟨G,ts,h1,h2,h3,h4,h5,?_⟩
 rw[h6]
 exact λv G' H' _=>h7 v G' H'
theorem akm{K:Frag}{H:Hp}(t:bN (au K) H)(h:iJ K H a xs):∃G,Same G H/\(∀b,Tb (au K) b->G b=none)/\aF (au K) G a xs:=by
 rcases h with h|h
 .refine⟨λb=>if b=a then H b else none,λb o q=>?_,λb z=>?_,.inl ?_⟩
  .dsimp only at q
   split at q
   .exact q
   .cases q
  .dsimp only
   split
   .rename_i e
    subst e
    obtain⟨ps,y⟩:=t.cF z
    rcases h with h|⟨o,h⟩ <;> (rw[y]at h; cases h)
   .rfl
  .have e:(if a=a then H a else none)=H a:=if_pos rfl
   unfold Rd at h ⊢
   dsimp only
   rw[e]
   exact h
 .exact⟨λ_=>none,λ_ _ z=>(by cases z),λ_ _=>rfl,iJ.toN (.inr h)⟩
end
section
variable {P:Program}{w:World}{K:Frag}{mg:Str->Option Value}{base:Heap}
theorem akn(M:∀x∈(["abs", "all", "bool", "enumerate", "int", "isinstance", "len", "list", "range", "sorted", "sum", "tuple", "zip"]:List Str),mg x=none) (O:∀x∈(["NoBottom", "NoBook", "NoRule", "NoCount", "NoLooks", "TooMany"]:List Str),∃k,PyProof.Rows.OwnCls x k Ab "ValueError.__new__" mg base) (XT:mG K) (ako:At K mg "is_whole" (top 9)) (akp:At K mg "common_divisor" (top 10)) (akq:At K mg "fraction_of" (top 11)) (akr:At K mg "frac_sum" (top 12)) (aks:At K mg "frac_times" (top 13)) (akt:At K mg "frac_below" (top 14)) (aku:At K mg "is_fraction" (top 15)) (akv:At K mg "common_bottom" (top 16)) (akx:At K mg "tops_on_one_bottom" (top 17)) {pH aky:Addr} (akz:sJ K mg "falling_places" (top 18) pH) (akA:vH K mg base "falling_places" pH aky) (akB:At K mg "is_worth" (top 22)) (akC:At K mg "are_worths" (top 23)) (akD:At K mg "is_book" (top 24)) (akE:At K mg "is_place" (top 25)) (akF:At K mg "is_count" (top 26)) (akG:At K mg "are_rising" (top 27)) (akH:At K mg "need_book" (top 28)) (akI:At K mg "read_orders" (top 29)) (akJ:At K mg "are_weights" (top 32)) (akK:At K mg "is_rule" (top 33)) (akL:At K mg "shares_worth" (top 34)) (akM:At K mg "product_worth" (top 35)) (akN:At K mg "place_of" (top 36)) (akO:At K mg "worth_by" (top 37)) (akP:At K mg "need_book_and_rule" (top 38)) (akQ:At K mg "whole_form" (top 39)) (akR:At K mg "need_count" (top 41)) (akS:At K mg "need_book_rule_and_count" (top 42)) (akT:At K mg "worths_of" (top 43)) (akU:At K mg "are_depths" (top 46)) (akV:At K mg "is_ask" (top 47)) (akW:At K mg "are_asked" (top 48)) (akX:At K mg "need_looks" (top 49)) (akY:At K mg "seen_by" (top 50)) (akZ:At K mg "last_worths" (top 51)) (ak0:At K mg "bounds_by" (top 52)) (ak1:At K mg "bounds_of" (top 53)) (ak2:At K mg "weakest_and_rival" (top 54)) (ak3:At K mg "are_sure" (top 55)) {Cw ak4:Addr} (ak5:sJ K mg "order_of_bounds" (top 56) Cw) (ak6:vH K mg base "order_of_bounds" Cw ak4) (ak7:At K mg "sure_by" (top 57)) (ak8:At K mg "sure_in" (top 58)) (ak9:At K mg "sure_few" (top 59)) (ala:At K mg "first_sure" (top 63)) (alb:At K mg "by_rounds" (top 64)) (alc:At K mg "most_hopeful" (top 65)) (ald:At K mg "by_hope" (top 66)) (ale:At K mg "all_depths" (top 67)) (alf:At K mg "least_reading" (top 68)) (alg:At K mg "_law_cell" (top 70)) (alh:At K mg "_law_frac" (top 71)) (ali:At K mg "_law_book" (top 72)) (alj:At K mg "_law_rule" (top 73)) (alk:At K mg "_law_depths" (top 74)) (alm:At K mg "law" (top 75)) {aln:V} (alo:Gk K mg "MOST_LISTS" aln (.int 4)) {alp:V} (alq:Gk K mg "MOST_THINGS" alp (.int 12)) {alr:V} (als:Gk K mg "BARE_RULES" alr (.tup [(.tup [(.str "least")]),(.tup [(.str "greatest")]),(.tup [(.str "product")])])) {alu:V} (alv:Gk K mg "NOTHING" alu (.tup [(.int 0),(.int 1)])) {alw:V} (alx:Gk K mg "MOST_LISTS_READ" alw (.int 3)) {aly:V} (alz:Gk K mg "MOST_THINGS_READ" aly (.int 8)):jA P w K mg base 11 "law" ["_law_script"] (Dq K 1 uD):=by
 have kn:=Kn.mk' (P:=P) (w:=w) M O XT
 have h:∀y∈[Ey.gk "MOST_LISTS" (.int 4),Ey.gk "MOST_THINGS" (.int 12),Ey.gk "BARE_RULES" (.tup [(.tup [(.str "least")]),(.tup [(.str "greatest")]),(.tup [(.str "product")])]),Ey.gk "NOTHING" (.tup [(.int 0),(.int 1)]),Ey.gk "MOST_LISTS_READ" (.int 3),Ey.gk "MOST_THINGS_READ" (.int 8)],Ey.lE ⟨P,w,K,mg,base,clz mg⟩ y:=List.forall_mem_cons.mpr ⟨⟨_,alo⟩,List.forall_mem_cons.mpr ⟨⟨_,alq⟩,List.forall_mem_cons.mpr ⟨⟨_,als⟩,List.forall_mem_cons.mpr ⟨⟨_,alv⟩,List.forall_mem_cons.mpr ⟨⟨_,alx⟩,List.forall_mem_cons.mpr ⟨⟨_,alz⟩,λ_ z=>nomatch z⟩⟩⟩⟩⟩⟩
 have h:=aU V1 kn h ako
 have h:=aU Vv kn h akp
 have h:=aU Vy kn h akq
 have h:=aU VH kn h akr
 have h:=aU VP kn h aks
 have h:=aU VR kn h akt
 have h:=aU V3 kn h aku
 have h:=aU Wc kn h akv
 have h:=aU Wf kn h akx
 have h:=Ve ["fractions", "tops"] Wg kn h akz akA
 have h:=aU V6 kn h akB
 have h:=aU V8 kn h akC
 have h:=aU Wa kn h akD
 have h:=aU Wh kn h akE
 have h:=aU WW kn h akF
 have h:=aU W5 kn h akG
 have h:=aU Wk kn h akH
 have h:=aU W7 kn h akI
 have h:=aU Wm kn h akJ
 have h:=aU Wq kn h akK
 have h:=aU Wt kn h akL
 have h:=aU Ww kn h akM
 have h:=aU Wy kn h akN
 have h:=aU WK kn h akO
 have h:=aU WM kn h akP
 have h:=aU Yg kn h akQ
 have h:=aU W0 kn h akR
 have h:=aU W3 kn h akS
 have h:=aU WR kn h akT
 have h:=aU Xa kn h akU
 have h:=aU Xc kn h akV
 have h:=aU Xe kn h akW
 have h:=aU Xg kn h akX
 have h:=aU Xi kn h akY
 have h:=aU Yc kn h akZ
 have h:=aU Xk kn h ak0
 have h:=aU Ye kn h ak1
 have h:=aU Xm kn h ak2
 have h:=aU Xo kn h ak3
 have h:=Ve ["bounds", "lows", "highs"] Yh kn h ak5 ak6
 have h:=aU Yi kn h ak7
 have h:=aU Yk kn h ak8
 have h:=aU Yl kn h ak9
 have h:=JR ZF kn h ala
 have h:=JR ZG kn h alb
 have h:=aU Xp kn h alc
 have h:=JR ZK kn h ald
 have h:=aU ZM kn h ale
 have h:=aU ZP kn h alf
 have h:=aU ZR kn h alg
 have h:=aU ZS kn h alh
 have h:=aU ZW kn h ali
 have h:=aU ZX kn h alj
 have h:=aU Z0 kn h alk
 have h:=aU Z1 kn h alm
 obtain⟨f,fd,h1,h2⟩:jA P w K mg base 11 "law" ["_law_script"] (oW K (clz mg) 1 uD):=h (Ey.fn "law" ["_law_script"] uD 11) (fm "law" (by kernel_rfl))
 exact⟨f,fd,h1.imp akl,h2⟩
end
theorem walk{l:OpenLaw}{q:Program}{loose:List Str}{XP:(Str->Option Value)->Heap->Prop}{YP:World->Heap->Prop}{d:DefRec}{K:Params->Frag}(hn:l.most=some 63)(hdf:d.params.defaults=[])(hd:d.name = "law")
  (xW:∀x∈eZ,((PyProof.Rows.recsOf q).find? (λe=>e.name == x)).isSome=true\/∀w:World,nsIn (K w.params) mainGlobals x=some none) (rF:∀w:World,noTabs (K w.params)=true)
  (hY:∀(w:World) (h:Heap),YP w h->(K w.params).In h)
  (F:∀(w:World) (mg:Str->Option Value) (h:Heap),(K w.params).In h->h.Ns mainGlobals mg->∀base:Heap,(K w.params).In base->base.Ns mainGlobals mg->(∀x∈eZ,∀c b,tabIn (K w.params) x=some (c,b)->CodeHd base c b)->mW mg base->jA l.prog w (K w.params) mg base 11 "law" (["_law_script"]:List Str) (Dq (K w.params) 1 uD)) :
  WalkO q loose XP YP l.row.toRowW d [] (λf vs=>PySem.call f vs) :=
 L2.akh (n:=63) (k:=11) (x := "_law_script") (CX:=λw=>gH l.prog w) (sp:=λw=>Dq (K w.params) 1 uD) hn (by decide) hdf ⟨rfl,by decide,by decide,rfl⟩ xW rF hY
  (λw mg fa h KX G hm base kb gb hc bm=>by
   obtain⟨f,fd,h1,h2,_,h4⟩:=F w mg h KX G base kb gb hc bm
   rw[hd]at hm
   cases h4.symm.trans hm
   exact⟨fd,λs u ks=>h2 s [u] ks rfl,h1⟩)
  (λw H a ns hl hTb hS=>by
   obtain⟨G,g1,g2,g3⟩:=akm hTb hS
   exact⟨G,[.lst (ns.map .int)],rfl,.cons (.lst g3 (Jk ns)) .nil,g1,hTb,g2,_,akd ns,λv G' H' r=>by cases r; rfl⟩)
  λw H s e s' h=>by
   obtain⟨_,_,_,_,_,_,z,_⟩:=h
   exact z
end K94
end
section
namespace PySem.W.Fast
end PySem.W.Fast
inductive PySem.W.Fast:Prop
|tw10043803085434498614
|tw10076628473550034698
|tw10201074631418810239
|tw10275072529288805036
|tw10315902461784623452
|tw10339779657679476910
|tw10384982555409979020
|tw10397321760362493934
|tw10453929743806193184
|tw10550006627734087860
|tw10585357093051458734
|tw10799284008586165510
|tw11153983682287040970
|tw11295855843028369177
|tw1142347477755954822
|tw11668867203802709914
|tw11669751807163964019
|tw11685658580099535895
|tw11766999362241279408
|tw11966669157217825487
|tw12018697150599719087
|tw12093713096507353380
|tw12188791466730429401
|tw12303860865101738215
|tw12484001967604545980
|tw1262969610698305773
|tw12720050476854205619
|tw1292767148144149711
|tw13012713158103077195
|tw13016582837944765599
|tw13357282208508632339
|tw13377781370065296266
|tw13386134101878414240
|tw13438789087893212098
|tw13532854350722486325
|tw13592513273740045288
|tw13742981157747798701
|tw13812323672656475241
|tw13955503140723764521
|tw1395642030650417311
|tw14143612808238119231
|tw14347992149138849190
|tw14352746893599347333
|tw14380845893169914563
|tw14538905009530104154
|tw14587884903560881326
|tw14669957703487788728
|tw14745708558155676561
|tw1489224688165905972
|tw14903388175241161789
|tw14915792612636177459
|tw14939688794286485791
|tw15023295833606311828
|tw15088569691471356679
|tw15125861472706266708
|tw15213531642978427443
|tw15254619937575901124
|tw15259314371721485335
|tw15435440429177921230
|tw15674531537589097773
|tw15714849302848772017
|tw15761426937420103792
|tw16013759300750205626
|tw16047283961367934058
|tw16250384101943664595
|tw16297268991897079734
|tw16698085497337400497
|tw16727838354761150382
|tw16759690278823186823
|tw16946291184534053449
|tw17033731408245395662
|tw17132098964698029842
|tw17207205250936087689
|tw17262981112390344082
|tw17281667827109916071
|tw17423658312333175178
|tw17424276804501935199
|tw17591871458837506282
|tw17657561570957251125
|tw17683511665729259414
|tw17737833543253433110
|tw17768838968309263378
|tw1782515950124564226
|tw17856411664513151722
|tw18000925918832224927
|tw18104926766222133343
|tw18331311949400224168
|tw1969612256928980368
|tw2016446221153293185
|tw2050199155591719246
|tw2292432732773323627
|tw2308278511510978744
|tw2366527407250190120
|tw240803232129655965
|tw2509742099809534590
|tw2802281730741181486
|tw2815020517674693989
|tw2886218028758841172
|tw3277479485440674436
|tw3470331707084348505
|tw3646896986933186855
|tw3649341374010160595
|tw3771679086088474122
|tw3941893335616722333
|tw4118874945039983807
|tw4292631719373787640
|tw4367104103239127349
|tw4771236619540498406
|tw5247874974732397657
|tw5320882413365203888
|tw5354059447996819407
|tw5572514956944024249
|tw5911118813068746391
|tw6279018046783961002
|tw6970721259154913456
|tw6992783554218250175
|tw6999490712698289735
|tw703986869880507459
|tw7250663893747652069
|tw7375084547836748421
|tw7634454337715913761
|tw7717314217194737826
|tw772887834985116972
|tw7798922245452237499
|tw7900963114480651024
|tw8001643548435118534
|tw804809290518939801
|tw8077351126946104610
|tw8119349715222547856
|tw8280872937967545130
|tw8326079310190553629
|tw8379067196657336004
|tw8669724961391866140
|tw8891123686069527712
|tw905948271162171676
|tw9072605061020772091
|tw9087493489360505346
|tw9134106242214698201
|tw9191220251220433102
|tw9378029074079273564
|tw963059618841922344
|tw9718385147682813771
|tw9786200615455284666
|tw9866971665124832889
open PySem PySem.W PyProof.Rows
set_option maxRecDepth 100000 in
set_option maxHeartbeats 0 in
theorem PySem.Challenge.cw_bestheads_k94_whole_no_fewer_lines_holds : PySem.Challenge.rw_bestheads_k94_whole_no_fewer_lines.Holds := by
 w_on; o_law; k_head; (case hw=>w_witness2)
 k_fill
 refine K94.walk (l:=PySem.Challenge.rw_bestheads_k94_whole_no_fewer_lines) rfl rfl rfl ?xW ?rF (λw h Y=>by first|exact PySem.W.km_in_of Y|exact PySem.W.kIn_of Y) ?F
 case xW =>
  intro x hx
  rcases(List.mem_cons.mp hx)with rfl|hx
  .exact .inl (by kernel_rfl)
  .rw[List.mem_singleton.mp hx]
   exact .inl (by kernel_rfl)
 case rF=>intro w; kernel_rfl
 case F =>
  intro w mg h KX G base kb gb hcd hbm
  refine' K94.akn ?qM ?qO ?qXT ?qd1 ?qd2 ?qd3 ?qd4 ?qd5 ?qd6 ?qd7 ?qd8 ?qd9 ?alA ?alB ?alC ?alD ?alE ?alF ?alG ?alH ?alI ?alJ ?alK ?alL ?alM ?alN ?alO ?alP ?alQ ?alR ?alS ?alT ?alU ?alV ?alW ?alX ?alY ?alZ ?al0 ?al1 ?al2 ?al3 ?al4 ?al5 ?al6 ?al7 ?al8 ?al9 ?ama ?amb ?amc ?amd ?ame ?amf ?amg ?amh ?ami ?amj ?amk ?aml ?amm ?amn ?amo ?amq ?amr ?ams
  case qM=>intro x m; simp only[List.mem_cons,List.not_mem_nil,or_false]at m; rcases m with rfl|rfl|rfl|rfl|rfl|rfl|rfl|rfl|rfl|rfl|rfl|rfl|rfl <;> exact mg_none_of KX G (by k_is)
  case qd1|qd2|qd3|qd4|qd5|qd6|qd7|qd8|qd9|alC|alD|alE|alF|alG|alH|alI|alJ|alK|alL|alM|alN|alO|alP|alQ|alR|alS|alT|alU|alV|alW|alX|alY|alZ|al0|al1|al2|al3|al4|al7|al8|al9|ama|amb|amc|amd|ame|amf|amg|amh|ami|amj|amk|aml=>exact K94.aki KX G (by k_is) (by k_is) (by k_is) (by k_is)
  case alA =>
   refine' K94.aak KX G ?amt ?amu ?amv ?amw
   (case amt=>k_is); (case amu=>k_is); (case amv=>k_is); (case amw=>k_is)
  case alB =>
   refine' L2.R3 (by decide) hcd hbm (L2.Aa ?amx ?amy ?Lw ?amz ?Ly ?Lz ?amA ?LC ?LK) ?amB
   (case amx=>k_is); (case amy=>k_is); (case amz=>k_is); (case Lz=>exact rfl); (case amA=>k_is); (case Lw=>kernel_rfl); (case Ly=>kernel_rfl); (case LC=>kernel_rfl); (case LK=>exact rfl)
   case amB =>
    intro x' hx'
    rcases(List.mem_cons.mp hx')with rfl|hx'
    .exact .inl rfl
    .rw[List.mem_singleton.mp hx']
     refine' .inr λc' z=>absurd ((L2.RX (L2.Aa ?amC ?amD ?amE ?amF ?amG ?amH ?amI ?amJ ?amK)).1.symm.trans z) ?amL
     (case amC=>k_is); (case amD=>k_is); (case amF=>k_is); (case amH=>exact rfl); (case amI=>k_is); (case amE=>kernel_rfl); (case amG=>kernel_rfl); (case amJ=>kernel_rfl); (case amK=>exact rfl)
     (case amL=>exact λy=>absurd (Prod.mk.inj (Option.some.inj y)).2 (by decide))
  case al5 =>
   refine' K94.aak KX G ?amM ?amN ?amO ?amP
   (case amM=>k_is); (case amN=>k_is); (case amO=>k_is); (case amP=>k_is)
  case al6 =>
   refine' L2.R3 (by decide) hcd hbm (L2.Aa ?amQ ?amR ?Lw ?amS ?Ly ?Lz ?amT ?LC ?LK) ?amU
   (case amQ=>k_is); (case amR=>k_is); (case amS=>k_is); (case Lz=>exact rfl); (case amT=>k_is); (case Lw=>kernel_rfl); (case Ly=>kernel_rfl); (case LC=>kernel_rfl); (case LK=>exact rfl)
   case amU =>
    intro x' hx'
    rcases(List.mem_cons.mp hx')with rfl|hx'
    .refine' .inr λc' z=>absurd ((L2.RX (L2.Aa ?amV ?amW ?amX ?amY ?amZ ?am0 ?am1 ?am2 ?am3)).1.symm.trans z) ?am4
     (case amV=>k_is); (case amW=>k_is); (case amY=>k_is); (case am0=>exact rfl); (case am1=>k_is); (case amX=>kernel_rfl); (case amZ=>kernel_rfl); (case am2=>kernel_rfl); (case am3=>exact rfl)
     (case am4=>exact λy=>absurd (Prod.mk.inj (Option.some.inj y)).2 (by decide))
    .rw[List.mem_singleton.mp hx']
     exact .inl rfl
  case amm =>
   refine' K94.Dp KX G ?am5
   (case am5=>k_is)
  case amn =>
   refine' K94.Dp KX G ?am6
   (case am6=>k_is)
  case amo =>
   refine' K94.akj KX G ?qbm ?qbl ?qbe ?am7 ?am8 ?am9 ?ana ?anb ?anc
   (case qbm=>k_is); (case qbl=>k_is); (case qbe=>rfl); (case am7=>k_is); (case am8=>rfl); (case am9=>k_is); (case ana=>rfl); (case anb=>k_is); (case anc=>rfl)
  case amq =>
   refine' K94.akk KX G ?ane ?anf ?ang
   (case ane=>k_is); (case anf=>k_is); (case ang=>rfl)
  case amr =>
   refine' K94.Dp KX G ?anh
   (case anh=>k_is)
  case ams =>
   refine' K94.Dp KX G ?ani
   (case ani=>k_is)
  case qXT=>exact L2.mG.of (by kernel_rfl)
  case qO=>intro x m; simp only[List.mem_cons,List.not_mem_nil,or_false]at m; rcases m with rfl|rfl|rfl|rfl|rfl|rfl <;> exact⟨_,L2.adP kb gb (by k_is) (by k_exc)⟩
#print axioms PySem.Challenge.cw_bestheads_k94_whole_no_fewer_lines_holds
end