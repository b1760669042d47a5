import PyProof.Rows.All
import Wide.All
import OpenK.KSplit
import OpenK.KApp
import KE.RegKMod
import KE.KJoinElse
import KE.KTops
import KE.RegKSuper
import KE.RegLcAnyAll
import KE.KCells
import KE.KPassesOwn
import KE.KNestStore
import KE.KStopIter
import KE.RegKBase
import KE.KDictOne
import KE.KxDecode
import KE.RegKMathGB
import KE.KNestM
import KE.KDflt
import KE.KOwnIterCall
import KE.KSortedM
import KE.KxLen
import KE.RegKMathGC
import KE.KIsClose
import KE.KDisp
import KE.KSetIn
import KE.KRevSl
import KE.KEqDeep
import KE.KAnyBase
import KE.KWhile
import KE.KRevIter
import KE.KTreeR
import KE.KxStill
import KE.KFinally
import KE.KTopLam
import KE.KWithOwn
import KE.KOpsOwn
import KE.KDictNew
import KE.KWhileD
import KE.KSumEnd
import KE.KPopAny
import KE.KGrown
import KE.KItemAt
import KE.KTextLit
import KE.KTupDict
import KE.KFmtOwn
import KE.KMinKey
import KE.KExtendNil
import KE.KMethU
import KE.KDictAnyTail
import KE.RegKStar
import KE.RegKTupTruth
import KE.RegKTupSum
import KE.KMethJoin
import KE.KPathRangeEnd
import KE.RegKParC
import KE.KxAffix
import KE.KxField
import KE.RegKMatchCls
import KE.KLcPair
import KE.KJoinL
import KE.RegKNeg
import KE.KxPercentT
import KE.KBytesCut
import KE.KCompIf
import KE.KxFormat
import KE.KTypeName
import KE.KCompText
import KE.BytesMulAny
import KE.KPairAssign
import KE.KTypeOf
import KE.KMulAny
import KE.KBytesMenu
import KE.KTextDict
import KE.KPathShort
import KE.KSplitRange
import KE.KKinds
import KE.KxPart
import KE.KRangeItem
import KE.KRangeNest
import KE.KSetAt
import KE.KxTruthy
import KE.KPairRows
import KE.KBytesMore
import KE.KRangePlain
import KE.KBitsMul
import KE.KTextTable
import KE.KForList
import KE.KIdxIf
import KE.KAssignIn
import KE.KFirstTurn
import KE.KOwnRange
import KE.KLooksOwn
import KE.KDictWord
import KE.KTurnsGround
import KE.KFinFacts
import KE.RegKTryOn
import KE.KCenter
import KE.KStrWords
import KE.KStateTextK
import KE.KStateWGiven
import KE.KCallTup
import KE.KTreeF
import KE.KEndWord
import KE.KStateBytes
import KE.KRangeEnd
import KE.KOf
import KE.KRepItem
import KE.KListLetter
import KE.KSliceSign
import KE.KToBytes
import KE.KPathText
import KE.KMinBuiltin
import KE.KFromBytes
import KE.KEqDat
import KE.KBytesUnr
import KE.KIsBytes
import KE.KCallRec
import KE.KEndW
import KE.RegLGeC
import Wide.FinOn
import Lean
import PyProof.EqAt
import PyProof.EqKinds
import PyProof.TupleCall
import PyProof.ReprRoads
import PyProof.ReprBulk
import PyProof.Rows.RegStrFacts
import PyProof.StrBlockH
import PyProof.FitsBits
import KE.KTurns
import PyProof.NeKinds
import KE.KNest
import KE.KSortKey
import PyProof.ListRange
import PyProof.Rows.SortWalk
import KE.KListMore
import KE.KSortTup
import PyProof.Rows.SumAny
import PyProof.MinMaxWalk
import PyProof.WalkInts
import PySem.Challenge.RW_bestheads_k66_rooms_of_a_keeper
set_option exponentiation.threshold 6000
set_option Elab.async false
set_option bootstrap.genMatcherCode false
set_option genSizeOf false
set_option compiler.extract_closed false
set_option linter.all false
set_option maxRecDepth 100000
set_option maxHeartbeats 4000000
set_option hygiene false in
local macro_rules | `(tactic| walk_at "O")=>`(tactic| with_reducible repeat((first|replace h:=Ky h|replace h:=Kz h|replace h:=KC h|replace h:=KD h|replace h:=KH h|replace h:=KJ h|replace h:=KN h|replace h:=KQ h|replace h:=KR h|replace h:=KY h|replace h:=KZ h|replace h:=K1 h|replace h:=wX h|replace h:=K3 h|replace h:=K4 h|replace h:=K5 h|replace h:=K6 h|replace h:=K7 h|replace h:=K8 h|replace h:=K9 h|replace h:=La h|replace h:=Lb h|replace h:=Ld h|replace h:=Le h|replace h:=Lf h|replace h:=Lg h|replace h:=Lh h|replace h:=Li h|replace h:=Lj h|replace h:=Ln h); (repeat obtain⟨_,h⟩:=h); rename_i ee; first|subst ee|cases ee))
set_option hygiene false in
local macro_rules | `(tactic| walk_at "o")=>`(tactic| with_reducible repeat first|refine Z2 h λ_ _ h=>?_|refine Z4 h λ_ _ _ _ h=>?_|refine Z5 h λ_ _ _ h=>?_|refine Z6 h λ_ _ _ _ h=>?_|refine Z7 h λ_ _ _ h=>?_|refine Z8 h λ_ _ _ _ h=>?_|refine Z9 h λ_ _ _ h=>?_|refine aac h λ_ _ _ h=>?_|refine aad h λ_ _ h=>?_|refine aae h λ_ _ _ _ h=>?_|refine aaf h λ_ _ _ _ h=>?_|refine aag h λ_ _ _ h=>?_|refine aah h λ_ _ _ _ h=>?_|refine aai h λ_ _ _ _ h=>?_|refine aaj h λ_ _ _ h=>?_|refine aak h λ_ _ h=>?_|refine aal h λ_ _ h=>?_|refine aam h λ_ _ _ _ h=>?_|refine aan h λ_ _ _ h=>?_|refine aao h λ_ _ _ _ h=>?_|refine aap h λ_ _ _ _ _ h=>?_|refine aaq h λ_ _ _ _ h=>?_|refine aar h λ_ _ _ h=>?_|refine aas h λ_ _ _ h=>?_|refine aat h λ_ _ _ _ _ _ _ h=>?_|refine aau h λ_ _ h=>?_|refine aav h λh=>?_|refine aaw h λ_ h=>?_|refine aax h λh=>?_|refine aay h λh=>?_|refine aaz h λ_ _ _ h=>?_|refine aaA h λ_ h=>?_|refine aaB h λ_ h=>?_|refine aaC h λ_ h=>?_|refine aaD h λh=>?_)
set_option hygiene false in
local macro_rules | `(tactic| exists $t)=>`(tactic| (refine(?h:VB ?f->SF) ?g; (case g=>exact $t); (case h=>exact λ_=>?f)))
set_option hygiene false in
local macro_rules | `(tactic| walk_at "b")=>`(tactic| first|with_reducible assumption|exact decide_eq_true (by first|assumption|omega)|exact decide_eq_false (by first|assumption|omega)|((with_reducible apply L2.xNb); walk_at "b")|((with_reducible apply L2.xNB); walk_at "b")|exact rfl)
set_option hygiene false in
local macro_rules | `(tactic| walk_at "u")=>`(tactic| fail)
set_option hygiene false in
local macro_rules | `(tactic| walk_at "w")=>`(tactic| fail)
set_option hygiene false in
local macro_rules | `(tactic| walk_at "q")=>`(tactic| repeat' (first|with_reducible rfl|((with_reducible change _=List.getD _ _ _); exact rfl)|(with_reducible apply L2.cn2)|(with_reducible refine congrArg L2.Sl.ow ?_)|(with_reducible refine congrArg L2.Sl.sh ?_)|(with_reducible refine congrArg L2.Sl.dp ?_)))
set_option hygiene false in
local macro_rules | `(tactic| walk_at "1")=>`(tactic| first|(with_reducible first|assumption|apply L2.wSq|apply L2.wSn|apply L2.wAs|apply L2.wY|apply L2.xOp|apply L2.xCl)|walk_at "u" |walk_at "w" | ((with_reducible first | change L2.dO _ _=_ | change L2.eC _ _=_ | change L2.fO _=_ | change L2.dr _ _=_ | change L2.drs _ _=_ | change L2.con _ _=_ | change L2.cls _=_ | change L2.Cp _ _=_ | change L2.Cr _=_ | change L2.iC _=_ | change L2.Rs.ok _=_ | change L2.Lp _=_ | change L2.Cu _=_ | change L2.mX _=_ | change L2.qR _=_ | change _=some _ | change _=List.map _ _ | change L2.dF _ _=_ | change _=Tr.lst _ | change _=Tr.int _ | change _=Tr.tup _ | change L2.oW _ _ _=_ | change L2.Lr _ _=_ | change (_ && _)=_); exact rfl) | (with_reducible first | exact L2.st0 | exact L2.st1 | exact L2.st2 | exact L2.st3 | exact L2.qT | exact L2.mY | exact L2.st6 | exact L2.oX | apply L2.st8) | (with_reducible first | exact L2.aaE | exact L2.aaF | exact L2.xLt | exact L2.xGt | exact L2.xLe | exact L2.xGe | exact L2.xEq | exact L2.Ls | exact L2.Cv | exact L2.xSn | exact L2.Lw | exact L2.xLL | exact L2.xLT | apply L2.aaG | apply L2.xAb | apply L2.Ly | apply L2.aaH | apply L2.aaI) | (with_reducible first | apply L2.wSr | apply L2.wSc | apply L2.aaJ | apply L2.wIf | apply L2.xTe | apply L2.xTr | apply L2.xBN | apply L2.xBA | apply L2.xBO | apply L2.wRt | apply L2.xC1 | apply L2.wEx | apply L2.wNo | apply L2.wFo | apply L2.xFS | apply L2.xIs | apply L2.xLs | apply L2.xTu | apply L2.xAp | apply L2.wOw | apply L2.wON | apply L2.oV1 | apply L2.oV2 | apply L2.xEI | apply L2.xEA | apply L2.xEO | apply L2.xEN | apply L2.xUn | apply L2.xC2 | apply L2.xCh | apply L2.xCk | apply L2.wPa | apply L2.wFr | apply L2.xFz | apply L2.wDw | apply L2.xVw | apply L2.xSl | apply L2.xOS | apply L2.xRg | apply L2.xMp | apply L2.xM2 | apply L2.xZi | apply L2.xFl | apply L2.xLR | apply L2.xFO | apply L2.xIn | apply L2.xG2 | apply L2.xG3 | apply L2.xGN | apply L2.wAg) | ((with_reducible first | apply L2.xT | apply L2.wT | apply L2.pT); (walk_at "b"))|((with_reducible first|apply L2.xF|apply L2.wF|apply L2.pF); (walk_at "b"))|(with_reducible first|apply L2.xOv|apply L2.xAv|apply L2.xOV|apply L2.xAV)|((with_reducible change L2.fC _=_); exact rfl)|((with_reducible change L2.vw _=_); (dsimp only[L2.vw,L2.Lz,List.map] <;> exact rfl))|((with_reducible change L2.qU _ _ _=_); exact rfl)|((with_reducible change L2.aW _ _=_); exact rfl)|((with_reducible change L2.mZ _ _=_); exact rfl)|((with_reducible change L2.qW _=_); exact rfl)|((with_reducible change L2.aaK _=_); exact rfl)|((with_reducible change L2.wZ _ _=_); exact rfl)|((with_reducible change L2.w6 _ _=_); exact rfl)|((with_reducible change L2.xg _=_); exact rfl)|((with_reducible first|apply L2.jD|apply L2.xSN); decide +kernel)|exact λ_=>rfl|((with_reducible first|change ∀_ _,L2.dU _ _ _=_|change ∀_ _,L2.bf _ _ _=_); exact λ_ _=>rfl)|(dsimp only; (with_reducible apply L2.exV); walk_at "q")|((change ∀_,_∈_->_=_); intro x hx; try rw[List.mem_range]at hx)|((with_reducible change L2.dg _ _=_); (first|(with_reducible first|exact c1 _|exact c2 _|exact c3 _)|exact L2.cMr (by omega)|exact L2.cMl (by omega)))|((with_reducible change L2.iV _ _=_); first|(with_reducible first|exact c1 _|exact c2 _|exact c3 _)|exact L2.cDl (by omega) (by omega))|omega|((with_reducible change _≠_); decide)|(rw[List.length_map]; exact List.length_filter_le ..)|((with_reducible first|change _<=_|change _<_); simp only[List.length_map,List.length_range,List.length_take,List.length_append,List.length_cons,List.length_nil]; omega))
set_option hygiene false in
local macro_rules | `(tactic| walk_at "p")=>`(tactic| (dsimp only[L2.pt,List.map,List.set]; (try with_reducible apply L2.wG); walk_at "r"))
set_option hygiene false in
local macro_rules | `(tactic| walk_at "r")=>`(tactic| (repeat(walk_at "1")))
set_option hygiene false in
local macro_rules | `(tactic| walk_at "e")=>`(tactic| (apply L2.wFe; (dsimp only[L2.gO,List.map,List.length,List.replicate,List.append,HAppend.hAppend,Append.append,Nat.reduceSub,Nat.reduceAdd] <;> exact rfl); walk_at "r"))
set_option hygiene false in
local macro_rules | `(tactic| walk_at "d")=>`(tactic| (apply L2.Cw; (dsimp only[L2.gO,List.map,List.length,List.replicate,List.append,HAppend.hAppend,Append.append,Nat.reduceSub,Nat.reduceAdd] <;> exact rfl); walk_at "r"))
set_option hygiene false in
local macro_rules | `(tactic| walk_at "w")=>`(tactic| first|(with_reducible first|apply L2.Cy|apply L2.Cz|apply L2.CG|apply L2.CJ|apply L2.CK|apply L2.CN|apply L2.CP|apply L2.CQ|apply L2.xCD|apply L2.CT|apply L2.CV|apply L2.CW|apply L2.CZ|apply L2.Dc)|((with_reducible change L2.lF _ _=_); first|(apply L2.Dd; exact rfl)|(apply L2.Dg; exact rfl))|((with_reducible change L2.m5 _ _ _=_); first|(apply L2.Dh; exact rfl)|(apply L2.Di; exact rfl; exact rfl))|((with_reducible first|change L2.Dj _=_|change L2.cU _ _=_|change L2.bh _=_|change L2.gj _=_); exact rfl))
set_option hygiene false in
local macro_rules | `(tactic| walk_at "m")=>`(tactic| (apply L2.dFn; (dsimp only[L2.gO,List.map,List.length,List.replicate,List.append,HAppend.hAppend,Append.append,Nat.reduceSub,Nat.reduceAdd] <;> exact rfl); walk_at "r"))
set_option hygiene false in
local macro_rules | `(tactic| walk_at "n")=>`(tactic| (apply L2.dFe; (dsimp only[L2.gO,List.map,List.length,List.replicate,List.append,HAppend.hAppend,Append.append,Nat.reduceSub,Nat.reduceAdd] <;> exact rfl); walk_at "r"))
set_option hygiene false in
local macro_rules | `(tactic| walk_at "w")=>`(tactic| first|(with_reducible first|apply L2.Cy|apply L2.Cz|apply L2.CG|apply L2.CJ|apply L2.CK|apply L2.CN|apply L2.CP|apply L2.CQ|apply L2.xCD|apply L2.CT|apply L2.CV|apply L2.CW|apply L2.LC|apply L2.LK|apply L2.LQ|apply L2.LR|apply L2.Ma|apply L2.Mf|apply L2.CZ|apply L2.Dc)|((with_reducible change L2.lF _ _=_); first|(apply L2.Dd; exact rfl)|(apply L2.Dg; exact rfl))|((with_reducible change L2.m5 _ _ _=_); first|(apply L2.Dh; exact rfl)|(apply L2.Di; exact rfl; exact rfl))|((with_reducible first|change L2.Dj _=_|change L2.cU _ _=_|change L2.bh _=_|change L2.jW _ _=_|change L2.gj _=_); exact rfl))
set_option hygiene false in
local macro_rules | `(tactic| walk_at "w")=>`(tactic| first|(with_reducible first|apply L2.mSq|apply L2.mSn|apply L2.mNo|apply L2.mIf|apply L2.xEs|apply L2.xMh|apply L2.xCM|apply L2.wFs|apply L2.wFw|apply L2.wFa|apply L2.wSO|apply L2.wRf|apply L2.wNw|apply L2.wOt|apply L2.aaL|apply L2.Cy|apply L2.Cz|apply L2.CG|apply L2.CJ|apply L2.CK|apply L2.CN|apply L2.CP|apply L2.CQ|apply L2.xCD|apply L2.CT|apply L2.CV|apply L2.CW|apply L2.LC|apply L2.LK|apply L2.LQ|apply L2.LR|apply L2.Ma|apply L2.Mf|apply L2.CZ|apply L2.Dc)|((with_reducible change L2.m6 _ _ _ _=_); first|(apply L2.xFo; exact rfl)|(apply L2.xFv; exact rfl))|((with_reducible change L2.WM _ _); first|(apply L2.mT; walk_at "b")|(apply L2.mF; walk_at "b")|apply L2.mRt)|((with_reducible change L2.lF _ _=_); first|(apply L2.Dd; exact rfl)|(apply L2.Dg; exact rfl))|((with_reducible change L2.m5 _ _ _=_); first|(apply L2.Dh; exact rfl)|(apply L2.Di; exact rfl; exact rfl))|((with_reducible first|change L2.fP _ _=_|change L2.oY _ _=_|change L2.cN _ _ _=_|change L2.lG _ _=_|change L2.back _ _=_|change L2.jE _=_|change L2.Dk _ _=_|change L2.Dj _=_|change L2.cU _ _=_|change L2.bh _=_|change L2.jW _ _=_|change L2.gj _=_); exact rfl))
set_option hygiene false in
local macro_rules | `(tactic| walk_at "f")=>`(tactic| (apply L2.mFn; (dsimp only[L2.lH,List.map,List.length,List.replicate,List.append,HAppend.hAppend,Append.append,HSub.hSub,Sub.sub,Nat.reduceSub,Nat.reduceAdd] <;> exact rfl); walk_at "r"))
set_option hygiene false in
local macro_rules | `(tactic| walk_at "u")=>`(tactic| with_reducible first|exact jX _|exact jk _|apply lJ)
set_option hygiene false in
local macro_rules | `(tactic| walk_at "u")=>`(tactic| with_reducible first|exact jX _|exact jk _|apply lJ|apply Mg)
set_option hygiene false in
local macro_rules | `(tactic| walk_at "u")=>`(tactic| with_reducible first|exact jX _|exact jk _|apply lJ|apply Mg|apply Mh|apply aaM|apply aaN|exact aaO|exact aaP|exact aaQ)
set_option hygiene false in
local macro_rules | `(tactic| walk_at "u")=>`(tactic| with_reducible first|exact aaR|apply aaS|exact m7 _ _ _)
set_option hygiene false in
local macro_rules | `(tactic| walk_at "u")=>`(tactic| with_reducible first|exact jX _|exact jk _|apply lJ|apply lK|apply xq|exact m7 _ _ _|exact K66.m8|apply lM (0:Nat)|apply lM ((0,1):Int × Int))
set_option hygiene false in
local macro_rules | `(tactic| walk_at "u")=>`(tactic| with_reducible first|exact jX _|exact jk _|apply lJ|apply lK|apply xq|exact K66.inN _ _|exact m7 _ _ _|exact K66.m8|apply lM (0:Nat)|apply lM ((0,1):Int × Int)|exact K66.Mi|exact K66.Mj|exact K66.Ml|exact K66.Mp|exact K66.Mq|exact K66.Mr|exact K66.Ms|exact K66.Mt|exact K66.Mv|exact K66.kl|exact K66.kn (.inl rfl)|exact K66.kn (.inr (.inl rfl))|exact K66.kn (.inr (.inr (.inl rfl)))|exact K66.kn (.inr (.inr (.inr rfl)))|exact K66.Mw _|exact K66.noI _|apply cp)
set_option hygiene false in
local macro_rules | `(tactic| walk_at "u")=>`(tactic| with_reducible first|exact jX _|exact jk _|apply lJ|apply lK|apply xq|exact m7 _ _ _|exact K66.m8|apply lM (0:Nat)|apply lM ((0,1):Int × Int)|apply cp)
set_option hygiene false in
local macro_rules | `(tactic| walk_at "u")=>`(tactic| with_reducible first|exact jX _|exact jk _|apply lJ|apply lK|apply xq|exact K66.inN _ _|exact m7 _ _ _|exact K66.m8|apply lM (0:Nat)|apply lM ((0,1):Int × Int)|exact K66.Mi|exact K66.Mj|exact K66.Ml|exact K66.Mp|exact K66.Mq|exact K66.Mr|exact K66.Ms|exact K66.Mt|exact K66.Mv|exact K66.kl|exact K66.kn (.inl rfl)|exact K66.kn (.inr (.inl rfl))|exact K66.kn (.inr (.inr (.inl rfl)))|exact K66.kn (.inr (.inr (.inr rfl)))|exact K66.Mw _|exact K66.noI _|apply cp)
section
namespace L2
open PySem PySem.Spec PyProof.Rows
inductive V where
 |non|bl (b:Bool)|int (i:Int)|str (x:Str)|qX (b:Array UInt8)|flt (b:UInt64)|ref (a:Addr)|ty (n:String)
 deriving DecidableEq
noncomputable def RelV:V->Value->Prop
 |.non,u=>u=Value.none
 |.bl b,u=>u=Value.bool b
 |.int i,u=>∃t,u=Value.int i t
 |.str x,u=>∃t,u=Value.str x t
 |.qX b,u=>∃t,u=Value.bytes b t
 |.flt b,u=>∃t,u=Value.float b t
 |.ref a,u=>u=Value.ref a
 |.ty n,u=>u=Value.type n
noncomputable abbrev Vals:List V->List Value->Prop:=Paired RelV
theorem Vals.length{xs:List V}{us:List Value}(r:Vals xs us):xs.length=us.length:=Paired.length r
theorem Vals.get:∀{xs:List V} {us:List Value} {i:Nat} {x:V},Vals xs us->xs[i]?=some x->∃u,us[i]?=some u/\RelV x u
 |_,_,_,_,.nil,e=>by simp at e
 |_,_,0,_,.cons r _,e=>by simp at e; subst e; exact⟨_,rfl,r⟩
 |_,_,i+1,x,.cons _ t,e=>by
  obtain⟨u,h1,h2⟩:=Vals.get (i:=i) (x:=x) t (by simpa using e)
  exact⟨u,by simpa using h1,h2⟩
theorem Vals.set{x:V}{u:Value}(r:RelV x u):∀{xs:List V} {us:List Value} (i:Nat),Vals xs us->Vals (xs.set i x) (us.set i u)
 |_,_,_,.nil=>.nil
 |_,_,0,.cons _ t=>.cons r t
 |_,_,i+1,.cons q t=>.cons q (Vals.set r i t)
theorem Vals.append:∀{xs ys:List V} {us ws:List Value},Vals xs us->Vals ys ws->Vals (xs++ys) (us++ws)
 |_,_,_,_,.nil,s=>s
 |_,_,_,_,.cons r t,s=>.cons r (Vals.append t s)
theorem Vals.take:∀{xs:List V} {us:List Value} (n:Nat),Vals xs us->Vals (xs.take n) (us.take n)
 |_,_,0,_=>.nil
 |_,_,_+1,.nil=>.nil
 |_,_,n+1,.cons r t=>.cons r (Vals.take n t)
theorem Vals.drop:∀{xs:List V} {us:List Value} (n:Nat),Vals xs us->Vals (xs.drop n) (us.drop n)
 |_,_,0,r=>r
 |_,_,_+1,.nil=>.nil
 |_,_,n+1,.cons _ t=>Vals.drop n t
theorem Vals.none_of:∀{xs:List V} {us:List Value} {i:Nat},Vals xs us->xs[i]?=none->us[i]?=none:=λ{xs us i} r e=>by
 have h1:=r.length
 have h2:xs.length<=i:=List.getElem?_eq_none_iff.mp e
 exact List.getElem?_eq_none_iff.mpr (by lia)
noncomputable def lN:Option V->Option Value->Prop
 |some v,some u=>RelV v u
 |none,none=>True
 |_,_=>False
inductive HO where
 |lst (xs:List V)
 |tup (xs:List V)
 |ins (C dx:Addr) (fs:List (Str × V))
 |own (x:Addr)
 |rng (lo hi:Int)
 |cO (o:Obj) (u:HO)
 |bO (ps:Array Value)
 |ext (φ : Heap->Prop)
noncomputable abbrev Hp:=Addr->Option HO
noncomputable def upd(H:Hp)(a:Addr)(o:HO):Hp:=λb=>if b=a then some o else H b
theorem bJ{H:Hp}{a:Addr}{o:HO}:upd H a o a=some o:=by unfold upd; rw[if_pos rfl]
theorem aD{H:Hp}{a b:Addr}{o:HO}(h:b≠a):upd H a o b=H b:=by unfold upd; rw[if_neg h]
theorem iW{H:Hp}{a b:Addr}{o:HO}(h:H a=some o)(h':H b=none):a≠b:=by
 intro e; subst e; rw[h]at h'; cases h'
section
variable (P:Program)(w:World)
noncomputable def fQ(P:Program)(w:World)(H:Hp)(h:Heap)(a:Addr):HO->Prop
 |.lst xs=>xs.length<=sizeLine/\∃(its:List Value) (n:Nat),Vals xs its/\h.get? a=some {cls:=.type "list",data:=.seq its.toArray n }
 |.tup xs=>xs.length<=sizeLine/\∃its:List Value,Vals xs its/\IsTup h a its.toArray
 |.ins C dx fs=>H dx=some (.own a)/\fs.length<=1000/\dx≠a/\h.get? a=some (PySem.W.instObj C dx) /\
   ∃mA,h.Ns1 dx mA/\(∀f,lN (fs.lookup f) (mA f))/\PySem.Within mA (fs.map (·.1))
 |.own _=>∃o,h.get? a=some o
 |.rng lo hi=>∃t u v,h.get? a=some {cls:=.type "range",data:=.fields #[.int lo t,.int hi u,.int 1 v] }
 |.cO o u=>h.get? a=some o/\fQ P w H h a u
 |.bO ps=>h.get? a=some {cls:=.none,data:=.fields ps }
 |.ext φ=>φ h/\(∃o,h.get? a=some o)/\∀h1 h2:Heap,φ h1->(∀o,h1.get? a=some o->h2.get? a=some o) -> φ h2
noncomputable def bZ(H:Hp)(h:Heap):Prop:=∀a o,H a=some o->fQ P w H h a o
end
section
variable {P:Program}{w:World}{H H':Hp}{h h':Heap}{a:Addr}{o:HO}
theorem fQ.lt(x:fQ P w H h a o):a<h.objs.size:=by
 cases o with
 |lst xs=>obtain⟨_,_,_,_,e⟩:=x; exact Heap.lt_size e
 |tup xs=>obtain⟨_,_,_,p⟩:=x; exact p.lt
 |ins C dx fs=>obtain⟨_,_,_,e,_⟩:=x; exact Heap.lt_size e
 |own y=>obtain⟨_,e⟩:=x; exact Heap.lt_size e
 |rng lo hi=>obtain⟨_,_,_,e⟩:=x; exact Heap.lt_size e
 |cO ob u=>obtain⟨e,_⟩:=x; exact Heap.lt_size e
 |bO ps=>exact Heap.lt_size (show h.get? a=some _ from x)
 |ext φ=>obtain⟨_,⟨_,e⟩,_⟩:=x; exact Heap.lt_size e
theorem Paired.aaT{α β : Type}{F G : α -> β -> Prop}:∀{l₁ : List α} {l₂ : List β},Paired F l₁ l₂ -> (∀a b,F a b->G a b)->Paired G l₁ l₂
 |_,_,.nil,_=>.nil
 |_,_,.cons r t,f=>.cons (f _ _ r) (Paired.aaT t f)
theorem fQ.stay(x:fQ P w H h a o)(k:∀b u,(b=a\/H b=some (.own a))->h.get? b=some u->h'.get? b=some u)
  (ho:∀b,H b=some (.own a)->H' b=some (.own a)) (ht:∀b xs,H b=some (.tup xs)->H' b=some (.tup xs)):fQ P w H' h' a o:=by
 induction o with
 |lst xs=>obtain⟨z,its,n,r,e⟩:=x; exact⟨z,its,n,r,k _ _ (.inl rfl) e⟩
 |tup xs=>obtain⟨z,its,r,ob,e,c⟩:=x; exact⟨z,its,r,ob,k _ _ (.inl rfl) e,c⟩
 |ins C dx fs =>
  obtain⟨d,z,ne,e,mA,⟨od,es,ep,e2,c⟩,r⟩:=x
  exact⟨ho _ d,z,ne,k _ _ (.inl rfl) e,mA,⟨od,es,ep,k _ _ (.inr d) e2,c⟩,r⟩
 |own y=>obtain⟨ob,e⟩:=x; exact⟨ob,k _ _ (.inl rfl) e⟩
 |rng lo hi=>obtain⟨t,u,v,e⟩:=x; exact⟨t,u,v,k _ _ (.inl rfl) e⟩
 |cO ob u ih=>obtain⟨e,q⟩:=x; exact⟨k _ _ (.inl rfl) e,ih q⟩
 |bO ps =>
  have e:h.get? a=some {cls:=.none,data:=.fields ps }:=x
  show h'.get? a=some {cls:=.none,data:=.fields ps }
  exact k a _ (.inl rfl) e
 |ext φ=>obtain⟨p,⟨o,e⟩,st⟩:=x; exact⟨st _ _ p λo q=>k _ _ (.inl rfl) q,⟨o,k _ _ (.inl rfl) e⟩,st⟩
theorem bZ.lt(x:bZ P w H h)(e:H a=some o):a<h.objs.size:=(x a o e).lt
theorem bZ.fresh(x:bZ P w H h)(e:h.objs.size<=a):H a=none:=by
 cases q:H a with
 |none=>rfl
 |some u=>exact absurd (Nat.lt_of_lt_of_le (x.lt q) e) (Nat.lt_irrefl _)
theorem bZ.kept(x:bZ P w H h)(k:∀b u,h.get? b=some u->h'.get? b=some u):bZ P w H h':=λa o e =>
 (x a o e).stay (λb u _ q=>k b u q) (λ_ q=>q) λ_ _ q=>q
theorem bZ.laid(x:bZ P w H h)(k:∀b u,h.get? b=some u->h'.get? b=some u)(hp:h.objs.size<=a)(new:fQ P w (upd H a o) h' a o):bZ P w (upd H a o) h':=λb u e=>by
 have hn:=x.fresh hp
 by_cases hb:b=a
 .subst hb; rw[bJ]at e; cases e; exact new
 .rw[aD hb]at e
  exact(x b u e).stay (λc v _ q=>k c v q) (λc q=>by rw[aD (iW q hn)]; exact q) λc xs q=>by rw[aD (iW q hn)]; exact q
end
noncomputable def Rd(H:Hp)(a:Addr)(u:HO):Prop:=H a=some u\/∃o,H a=some (.cO o u)
theorem Rd.of(h:H a=some u):Rd H a u:=.inl h
theorem Rd.ok{P:Program}{w:World}{H:Hp}{h:Heap}{a:Addr}{u:HO}(r:Rd H a u)(x:bZ P w H h):fQ P w H h a u:=by
 rcases r with r|⟨o,r⟩
 .exact x a u r
 .obtain⟨_,q⟩:=x a _ r
  exact q
noncomputable def xr:Option HO->Prop
 |some (.lst _)=>True
 |some (.ins _ _ _)=>True
 |some (.ext _)=>True
 |_=>False
section
variable {P:Program}{w:World}{H:Hp}{h h':Heap}{x e:Addr}{o':HO}
theorem bZ.write(ok:bZ P w H h)(mu:xr (H x))(he:e=x\/H e=some (.own x))(k:∀b u,b≠e->h.get? b=some u->h'.get? b=some u)(heo:∃u,h'.get? e=some u)
  (new:fQ P w (upd H x o') h' x o'):bZ P w (upd H x o') h':=λb u q=>by
 have Mx:∀c y,H c=some (.own y)->c≠x:=λc y r z=>by subst z; rw[r]at mu; exact mu
 have aaU:∀c xs,H c=some (.tup xs)->c≠x:=λc xs r z=>by subst z; rw[r]at mu; exact mu
 by_cases hb:b=x
 .subst hb; rw[bJ]at q; cases q; exact new
 .rw[aD hb]at q
  by_cases hbe:b=e
  .have q':H b=some (.own x):=by
    rcases he with z|z
    .exact absurd (hbe.trans z) hb
    .rw[hbe]; exact z
   rw[q]at q'; cases q'
   obtain⟨v,hv⟩:=heo
   exact⟨v,by rw[hbe]; exact hv⟩
  .refine(ok b u q).stay (λc v hc r=>k c v ?_ r) (λc r=>by rw[aD (Mx c b r)]; exact r) λc xs r=>by rw[aD (aaU c xs r)]; exact r
   rcases hc with rfl|hc
   .exact hbe
   .rintro rfl
    rcases he with z|z
    .exact Mx c b hc z
    .rw[hc]at z; cases z; exact hb rfl
end
structure Un(fs ex:List Addr)(H H':Hp)(h h':Heap):Prop where
 keep:∀b o,h.get? b=some o->H b=none->b∉fs->b∉ex->h'.get? b=some o
 slot:∀b o,h.get? b=some o->H b=none->b∈fs->b∉ex->∃sl,h'.get? b=some {o with slots:=sl }
 free:∀b o,h.get? b=some o->H b=none->b∉ex->H' b=none
 there:∀b o,h.get? b=some o->b∉ex->∃o',h'.get? b=some o'
 tups:∀b xs,H b=some (.tup xs)->H' b=some (.tup xs)
 gP:∀b o u,H b=some (.cO o u)->H' b=some (.cO o u)
 gQ:∀b ps,H b=some (.bO ps)->∃more,H' b=some (.bO (ps++more))
section
variable {fs fs' ex ex':List Addr}{H H1 H2:Hp}{h h1 h2 h':Heap}{a x e:Addr}{o:HO}
theorem Un.any(u:Un fs ex H H1 h h1)(q:h.get? b=some ob)(n:H b=none)(hx:b∉ex):∃sl,h1.get? b=some {ob with slots:=sl }:=by
 by_cases hb:b∈fs
 .exact u.slot b ob q n hb hx
 .exact⟨ob.slots,u.keep b ob q n hb hx⟩
theorem Un.trans(a:Un fs ex H H1 h h1)(b:Un fs ex H1 H2 h1 h2):Un fs ex H H2 h h2 where
 keep:=λc ob q n hc hx=>b.keep c ob (a.keep c ob q n hc hx) (a.free c ob q n hx) hc hx
 slot:=λc ob q n hc hx=>by
  obtain⟨sl,e1⟩:=a.slot c ob q n hc hx
  obtain⟨sl',e2⟩:=b.slot c _ e1 (a.free c ob q n hx) hc hx
  exact⟨sl',e2⟩
 free:=λc ob q n hx=>by
  obtain⟨o',e1⟩:=a.there c ob q hx
  exact b.free c o' e1 (a.free c ob q n hx) hx
 there:=λc ob q hx=>by
  obtain⟨o',e1⟩:=a.there c ob q hx
  exact b.there c o' e1 hx
 tups:=λc xs q=>b.tups c xs (a.tups c xs q)
 gP:=λc ob xs q=>b.gP c ob xs (a.gP c ob xs q)
 gQ:=λc ps q=>by
  obtain⟨m1,e1⟩:=a.gQ c ps q
  obtain⟨m2,e2⟩:=b.gQ c _ e1
  exact⟨m1++m2,by rw[e2,Array.append_assoc]⟩
theorem Un.kept(k:∀b u,h.get? b=some u->h'.get? b=some u):Un fs ex H H h h' :=
 ⟨λb ob q _ _ _=>k b ob q,λb ob q _ _ _=>⟨ob.slots,k b ob q⟩,λ_ _ _ n _=>n,λb ob q _=>⟨ob,k b ob q⟩,λ_ _ q=>q,λ_ _ _ q=>q,λ_ ps q=>⟨#[],by rw[q]; simp⟩⟩
theorem Un.refl:Un fs ex H H h h:=Un.kept λ_ _ q=>q
theorem Un.laid(k:∀b u,h.get? b=some u->h'.get? b=some u)(hp:h.objs.size<=a)(hn:H a=none):Un fs ex H (upd H a o) h h' where
 keep:=λb u q _ _ _=>k b u q
 slot:=λb u q _ _ _=>⟨u.slots,k b u q⟩
 free:=λb u q n _=>by rw[aD (Nat.ne_of_lt (Nat.lt_of_lt_of_le (Heap.lt_size q) hp))]; exact n
 there:=λb u q _=>⟨u,k b u q⟩
 tups:=λb xs q=>by rw[aD (iW q hn)]; exact q
 gP:=λb u xs q=>by rw[aD (iW q hn)]; exact q
 gQ:=λb ps q=>⟨#[],by rw[aD (iW q hn),q]; simp⟩
theorem Un.write(mu:xr (H x))(he:e=x\/H e=some (.own x))(k:∀b u,b≠e->h.get? b=some u->h'.get? b=some u)(heo:∃u,h'.get? e=some u):Un fs ex H (upd H x o) h h':=by
 have hx:∀b,H b=none->b≠x:=λb n z=>by subst z; rw[n]at mu; exact mu
 have hb:∀b,H b=none->b≠e:=λb n z=>by
  subst z
  rcases he with r|r
  .exact hx b n r
  .rw[n]at r; cases r
 have hm:∀b u,H b=some u->¬xr (some u)->b≠x:=λb u q nm z=>by subst z; rw[q]at mu; exact nm mu
 refine⟨λb u q n _ _=>k b u (hb b n) q,λb u q n _ _=>⟨u.slots,k b u (hb b n) q⟩,λb u q n _=>by rw[aD (hx b n)]; exact n,λb u q _=>?_,
  λb xs q=>by rw[aD (hm b _ q λz=>z)]; exact q,λb u xs q=>by rw[aD (hm b _ q λz=>z)]; exact q,λb ps q=>⟨#[],by rw[aD (hm b _ q λz=>z),q]; simp⟩⟩
 by_cases hbe:b=e
 .subst hbe; exact heo
 .exact⟨u,k b u hbe q⟩
theorem Un.mono(u:Un fs ex H H1 h h1)(hs:∀b∈fs,b∈fs')(hx:∀b∈ex,b∈ex'):Un fs' ex' H H1 h h1 :=
 ⟨λb ob q n hb he=>u.keep b ob q n (λz=>hb (hs b z)) λz=>he (hx b z),λ_ _ q n _ he=>u.any q n λz=>he (hx _ z),λb ob q n he=>u.free b ob q n λz=>he (hx b z),λb ob q he=>u.there b ob q λz=>he (hx b z),u.tups,u.gP,u.gQ⟩
end
noncomputable def xu(h:Heap)(H:Hp):List Addr:=(List.range h.objs.size).filter λa=>(H a).isSome
noncomputable def lO(h:Heap)(H:Hp):Heap:=PySem.W.hideAll h (xu h H)
theorem aaV(h:Heap)(H:Hp):(lO h H).objs.size=h.objs.size:=PySem.W.hideAll_size _ _
theorem aaW(e:h.get? b=some o)(n:H b=none):(lO h H).get? b=some o :=
 PySem.W.hideAll_get _ e λhm=>by
  have q:(H b).isSome=true:=(List.mem_filter.mp hm).2
  rw[n]at q; simp at q
theorem aaX(e:(lO h H).get? b=some o):h.get? b=some o/\H b=none:=by
 have e':h.get? b=some o:=PySem.W.of_hideAll (xu h H) e
 refine⟨e',?_⟩
 cases q:H b with
 |none=>rfl
 |some x =>
  have hm:b∈xu h H:=List.mem_filter.mpr ⟨List.mem_range.mpr (Heap.lt_size e'),by simp[q]⟩
  have z:(lO h H).get? b=none:=PySem.W.hideAll_none (xu h H) hm
  rw[z]at e; cases e
noncomputable def aaY(g h:Heap)(L:Addr):List (Addr × Obj):=(List.range h.objs.size).filterMap λa=>if a=L\/(g.get? a).isSome=true then none else(h.get? a).map λo=>(a,o)
noncomputable def rest(g h:Heap)(L d:Addr):List (Addr × Obj):=(aaY g h L).filter λp=>decide (p.1≠d)
structure Mod(K:PySem.W.Frag)(mg:Str->Option Value)(base:Heap):Prop where
 uq:K.In base
 glob:base.Ns mainGlobals mg
 blt:∃mb,base.Ns builtinsNs mb/\∀x:Str,x ≠ "__name__" -> mb x=bootBuiltins x
 nolimit:base.NoLimit
structure Cx where
 prog:Program
 w:World
 K:PySem.W.Frag
 mg:Str->Option Value
 base:Heap
 A:Around
 N:List Str
 s₀ : Shared
 H₀ : Hp
 env:Env
 outer:List Env
 stack:List Env
 ex:List Addr
 fn:Str->Bool
 calm:Bool
 pn:List (Addr × Obj)
 xe:Value->Shared->Prop
noncomputable def frs(l:List Env):List Addr:=l.filterMap (·.frame)
noncomputable abbrev Cx.fs(X:Cx):List Addr:=frs X.outer
noncomputable def xG(sc:Scope)(x:Str):Prop:=sc.names.lookup x=some .local\/sc.names.lookup x=some .cell\/sc.names.lookup x=some .free
noncomputable def Loc(sc:Scope)(x:Str):Prop:=sc.names.lookup x=some .local\/sc.names.lookup x=some .cell
noncomputable def Look(env:Env)(h:Heap)(m:Str->Option Value)(x:Str)(u:Value):Prop :=
 (env.kindOf x=some .local/\m x=some u)\/((env.kindOf x=some .cell\/env.kindOf x=some .free)/\∃c,env.cells.lookup x=some c/\h.IsCell c (some u))
structure Cx.Ok(X:Cx):Prop where
 mod:Mod X.K X.mg X.base
 kind:X.env.scope.kind=.function
 glob:X.env.globals=mainGlobals
 blt:X.env.builtins=builtinsNs
 above:X.s₀.heap.objs.size<=X.env.locals
 inj:∀x y c,X.env.cells.lookup x=some c->X.env.cells.lookup y=some c->x=y
 has:∀x,(X.env.kindOf x=some .cell\/X.env.kindOf x=some .free)->∃c,X.env.cells.lookup x=some c
 cab:∀x c,X.fn x=true->X.env.cells.lookup x=some c->X.s₀.heap.objs.size<=c
 hd:X.calm=true->X.A.handled=none
 frames:X.A.frames=some X.stack
 stk:X.stack=X.outer\/(X.stack=X.env::X.outer/\X.env.frame=some X.env.locals)
 Mz:∀b∈X.ex,b≠X.env.locals/\∀x c,X.env.cells.lookup x=some c->c≠b
 bs:∀b o,X.base.get? b=some o->X.s₀.heap.get? b=some o/\X.H₀ b=none
 jF:X.base.objs.size<=X.s₀.heap.objs.size
 ur:∀b o,X.base.get? b=some o->b∉X.ex
 xH:∀b∈X.ex,b∉X.fs
 iD:X.s₀.heap.FunFrames X.base X.outer
 lQ:∀b∈X.fs,X.H₀ b=none
structure Inv(X:Cx)(pins:List (Addr × Obj))(σ : List (Option V))(H:Hp)(s:Shared):Prop where
 ok:X.Ok
 os:s.os=X.s₀.os
 bare:AllBare s.gens
 base:Un X.fs X.ex X.H₀ H X.s₀.heap s.heap
 loc:∃m,s.heap.Ns X.env.locals m/\∀(i:Nat) (x:Str) (v:V),X.N[i]?=some x -> σ[i]?=some (some v)->xG X.env.scope x->∃u,RelV v u/\Look X.env s.heap m x u
 cell:∀x c,X.env.cells.lookup x=some c->∃v,s.heap.IsCell c v
 free:H X.env.locals=none
 jG:∀x c,X.env.cells.lookup x=some c->H c=none
 pin:∀p∈X.pn++pins,s.heap.get? p.1=some p.2/\H p.1=none/\p.1≠X.env.locals/\p.1∉X.fs/\∀v,p.2.data ≠ .cell v
 hok:bZ X.prog X.w H s.heap
 len : σ.length=X.N.length
section
variable {X:Cx}{pins:List (Addr × Obj)}{σ : List (Option V)}{H H':Hp}{s:Shared}{h':Heap}
theorem Cx.Ok.qY(ok:X.Ok)(e:X.base.get? b=some o):b∉X.fs:=λhb=>by
 have:=(ok.iD.mem hb).1
 rw[e]at this; cases this
theorem Inv.bs(I:Inv X pins σ H s):∀b o,X.base.get? b=some o->s.heap.get? b=some o/\H b=none:=λb o e =>
 ⟨I.base.keep b o (I.ok.bs b o e).1 (I.ok.bs b o e).2 (I.ok.qY e) (I.ok.ur b o e),I.base.free b o (I.ok.bs b o e).1 (I.ok.bs b o e).2 (I.ok.ur b o e)⟩
theorem Inv.bk(I:Inv X pins σ H s):∀b o,X.base.get? b=some o->s.heap.get? b=some o:=λb o e=>(I.bs b o e).1
theorem Inv.mod(I:Inv X pins σ H s):Mod X.K X.mg X.base:=I.ok.mod
theorem Inv.dG(I:Inv X pins σ H s):X.K.In s.heap:=I.ok.mod.uq.keeps I.bk
theorem Inv.nolimit(I:Inv X pins σ H s):s.heap.NoLimit:=I.ok.mod.nolimit.keeps I.bk
theorem Inv.fr(I:Inv X pins σ H s):∃m,Fr X.base X.env.locals s.heap m :=
 let⟨m,hn,_⟩:=I.loc
 ⟨m,hn,I.bk,Nat.le_trans I.ok.jF I.ok.above⟩
theorem Inv.lt(I:Inv X pins σ H s):X.env.locals<s.heap.objs.size:=let⟨_,hn,_⟩:=I.loc; hn.lt
theorem Inv.sz(I:Inv X pins σ H s):X.s₀.heap.objs.size<=s.heap.objs.size:=Nat.le_trans I.ok.above (Nat.le_of_lt I.lt)
theorem Inv.aaZ(I:Inv X pins σ H s)(h:s.heap.objs.size<=a):a∉X.fs:=λhb=>by
 obtain⟨_,o,ho,_⟩:=I.ok.iD.mem hb
 exact absurd (Nat.lt_of_lt_of_le (Heap.lt_size ho) (Nat.le_trans I.sz h)) (Nat.lt_irrefl _)
theorem Inv.oZ(I:Inv X pins σ H s):∀x c,X.env.cells.lookup x=some c->c≠X.env.locals:=λx c e z=>by
 obtain⟨v,o,ho,hd⟩:=I.cell x c e
 obtain⟨m,⟨o',es,ep,ho',hd',_⟩,_⟩:=I.loc
 rw[z,ho']at ho; cases ho; rw[hd']at hd; cases hd
theorem Inv.iD(I:Inv X pins σ H s):s.heap.FunFrames X.base X.outer:=by
 have all:∀(l:List Env),(∀b∈frs l,b∈X.fs)->X.s₀.heap.FunFrames X.base l->s.heap.FunFrames X.base l:=by
  intro l
  induction l with
  |nil=>intro _ _; trivial
  |cons env r ih =>
   intro hs hl
   obtain⟨hk,⟨L,o,hf,hn,ho,hd⟩,hr⟩:=hl
   have hL:L∈X.fs:=hs L (by unfold frs; rw[List.filterMap_cons,hf]; exact List.mem_cons_self)
   obtain⟨sl,e⟩:=I.base.slot L o ho (I.ok.lQ L hL) hL λz=>I.ok.xH L z hL
   exact⟨hk,⟨L,_,hf,hn,e,hd⟩,ih (λb hb=>hs b (by unfold frs; rw[List.filterMap_cons,hf]; exact List.mem_cons_of_mem _ hb)) hr⟩
 exact all X.outer (λ_ hb=>hb) I.ok.iD
theorem Inv.stack(I:Inv X pins σ H s):s.heap.FunFrames X.base X.stack:=by
 rcases I.ok.stk with e|⟨e,hf⟩
 .rw[e]; exact I.iD
 .rw[e]
  obtain⟨m,hn,_⟩:=I.loc
  refine .cons (by rw[I.ok.kind]; decide) hf hn ?_ I.iD
  exact Heap.get?_none_of_le (Nat.le_trans I.ok.jF I.ok.above)
theorem Inv.xJ(I:Inv X pins σ H s):∀b∈frs X.stack,b∈X.env.locals::X.fs:=λb hb=>by
 rcases I.ok.stk with e|⟨e,hf⟩
 .rw[e]at hb; exact List.mem_cons_of_mem _ hb
 .rw[e]at hb
  unfold frs at hb
  rw[List.filterMap_cons,hf]at hb
  exact hb
theorem Inv.xK(I:Inv X pins σ H s):∀b∈frs X.stack,H b=none:=λb hb=>by
 rcases List.mem_cons.mp (I.xJ b hb)with e|hb
 .rw[e]; exact I.free
 .obtain⟨_,o,ho,_⟩:=I.ok.iD.mem hb
  exact I.base.free b o ho (I.ok.lQ b hb) λz=>I.ok.xH b z hb
theorem Inv.step{g':Array GenState}{t':Nat}{d':Drawn}{ch:List Addr}(I:Inv X pins σ H s)
  (hch:∀b∈ch,(b∈X.ex\/X.s₀.heap.objs.size<=b)/\b≠X.env.locals/\(∀x c,X.env.cells.lookup x=some c->c≠b)/\∀p∈X.pn++pins,p.1≠b)
  (keep:∀b o,b≠X.env.locals->b∉X.fs->b∉ch->s.heap.get? b=some o->H b=none->h'.get? b=some o)
  (slot:∀b o,b≠X.env.locals->b∈X.fs->b∉ch->s.heap.get? b=some o->H b=none->∃sl,h'.get? b=some {o with slots:=sl }) (free:∀b o,b∉ch->s.heap.get? b=some o->H b=none->H' b=none)
  (there:∀b o,b∉ch->s.heap.get? b=some o->∃o',h'.get? b=some o')
  (tups:∀b xs,H b=some (.tup xs)->H' b=some (.tup xs)) (gP:∀b o u,H b=some (.cO o u)->H' b=some (.cO o u)) (gQ:∀b ps,H b=some (.bO ps)->∃more,H' b=some (.bO (ps++more)))
  (ns:∀m,s.heap.Ns X.env.locals m->h'.Ns X.env.locals m) (hok:bZ X.prog X.w H' h') (hg:AllBare g') :
  Inv X pins σ H' {s with heap:=h',gens:=g',drawn:=d',toks:=t' }:=by
 have MF:∀b o,X.s₀.heap.get? b=some o->b≠X.env.locals:=λb o e=>Nat.ne_of_lt (Nat.lt_of_lt_of_le (Heap.lt_size e) I.ok.above)
 have xM:∀b o,X.s₀.heap.get? b=some o->b∉X.ex->b∉ch:=λb o e hx hb=>by
  rcases(hch b hb).1 with z|z
  .exact hx z
  .exact absurd (Nat.lt_of_lt_of_le (Heap.lt_size e) z) (Nat.lt_irrefl _)
 have cellK:∀x c,X.env.cells.lookup x=some c->∀v,s.heap.IsCell c v->h'.IsCell c v:=λx c e v ⟨o,ho,hd⟩=>by
  have uw:c∉ch:=λz=>(hch c z).2.2.1 x c e rfl
  by_cases hc:c∈X.fs
  .obtain⟨sl,q⟩:=slot c o (I.oZ x c e) hc uw ho (I.jG x c e)
   exact⟨_,q,hd⟩
  .exact⟨o,keep c o (I.oZ x c e) hc uw ho (I.jG x c e),hd⟩
 refine⟨I.ok,I.os,hg,⟨λb o e n hb hx=>?_,λb o e n hb hx=>?_,λb o e n hx=>?_,λb o e hx=>?_,λb xs e=>tups b xs (I.base.tups b xs e),λb o xs e=>gP b o xs (I.base.gP b o xs e),λb ps e=>?_⟩,?_,λx c e=>?_,?_,λx c e=>?_,λp hp=>?_,hok,I.len⟩
 .exact keep b o (MF b o e) hb (xM b o e hx) (I.base.keep b o e n hb hx) (I.base.free b o e n hx)
 .obtain⟨sl,e1⟩:=I.base.slot b o e n hb hx
  obtain⟨sl',e2⟩:=slot b _ (MF b o e) hb (xM b o e hx) e1 (I.base.free b o e n hx)
  exact⟨sl',e2⟩
 .obtain⟨o',e1⟩:=I.base.there b o e hx
  exact free b o' (xM b o e hx) e1 (I.base.free b o e n hx)
 .obtain⟨o',e1⟩:=I.base.there b o e hx
  exact there b o' (xM b o e hx) e1
 .obtain⟨m1,e1⟩:=I.base.gQ b ps e
  obtain⟨m2,e2⟩:=gQ b _ e1
  exact⟨m1++m2,by rw[e2,Array.append_assoc]⟩
 .obtain⟨m,hn,hl⟩:=I.loc
  refine⟨m,ns m hn,λi x v e1 e2 e3=>?_⟩
  obtain⟨u,r,l⟩:=hl i x v e1 e2 e3
  refine⟨u,r,?_⟩
  rcases l with l|⟨k,c,e,z⟩
  .exact .inl l
  .exact .inr ⟨k,c,e,cellK x c e _ z⟩
 .obtain⟨v,z⟩:=I.cell x c e
  exact⟨v,cellK x c e v z⟩
 .obtain⟨m,⟨o,_,_,ho,_⟩,_⟩:=I.loc
  exact free _ o (λz=>(hch _ z).2.1 rfl) ho I.free
 .obtain⟨v,o,ho,hd⟩:=I.cell x c e
  exact free c o (λz=>(hch c z).2.2.1 x c e rfl) ho (I.jG x c e)
 .obtain⟨e,n,ne,nf,d⟩:=I.pin p hp
  have uw:p.1∉ch:=λz=>(hch p.1 z).2.2.2 p hp rfl
  exact⟨keep p.1 p.2 ne nf uw e n,free p.1 p.2 uw e n,ne,nf,d⟩
theorem Inv.un{t':Nat}(I:Inv X pins σ H s)(u:Un X.fs [] H H' s.heap h')(hok:bZ X.prog X.w H' h'):Inv X pins σ H' {s with heap:=h',toks:=t' }:=by
 obtain⟨m,⟨o,es,ep,ho,r⟩,_⟩:=id I.loc
 obtain⟨sl,hL⟩:=u.any ho I.free (by simp)
 exact I.step (g':=s.gens) (d':=s.drawn) (ch:=[]) (λ_ z=>nomatch z) (λb o _ hb _ e n=>u.keep b o e n hb (by simp)) (λb o _ hb _ e n=>u.slot b o e n hb (by simp)) (λb o _ e n=>u.free b o e n (by simp)) (λb o _ e=>u.there b o e (by simp)) u.tups u.gP u.gQ (λm' hm=>by
  obtain⟨o',es',ep',ho',r'⟩:=hm
  rw[ho]at ho'; cases ho'
  exact⟨_,es',ep',hL,r'⟩) hok I.bare
theorem Inv.call{g':Array GenState}{t':Nat}{d':Drawn}{ch:List Addr}(I:Inv X pins σ H s)(u:Un (frs X.stack) ch H H' s.heap h')(hok:bZ X.prog X.w H' h')(hg:AllBare g')
  (hch:∀b∈ch,(b∈X.ex\/X.s₀.heap.objs.size<=b)/\b≠X.env.locals/\(∀x c,X.env.cells.lookup x=some c->c≠b)/\∀p∈X.pn++pins,p.1≠b) :
  Inv X pins σ H' {s with heap:=h',gens:=g',drawn:=d',toks:=t' }:=by
 obtain⟨m,⟨o,es,ep,ho,r⟩,_⟩:=id I.loc
 obtain⟨sl,hL⟩:=u.any ho I.free λz=>(hch _ z).2.1 rfl
 exact I.step (ch:=ch) hch (λb o hL hb hc e n=>u.keep b o e n (λz=>(List.mem_cons.mp (I.xJ b z)).elim hL hb) hc) (λb o _ _ hc e n=>u.any e n hc) (λb o hc e n=>u.free b o e n hc) (λb o hc e=>u.there b o e hc) u.tups u.gP u.gQ (λm' hm=>by
  obtain⟨o',es',ep',ho',r'⟩:=hm
  rw[ho]at ho'; cases ho'
  exact⟨_,es',ep',hL,r'⟩) hok hg
theorem Inv.turned{t':Nat}{it:Addr}(I:Inv X pins σ H s)(k:∀b o,b≠it->s.heap.get? b=some o->h'.get? b=some o)(hn:H it=none)(hL:it≠X.env.locals)
  (h1:it∈X.ex\/X.s₀.heap.objs.size<=it) (h2:∀x c,X.env.cells.lookup x=some c->c≠it) (h3:∀p∈X.pn++pins,p.1≠it):Inv X pins σ H {s with heap:=h',toks:=t' }:=by
 have MJ:∀b u,H b=some u->b≠it:=λb u e z=>by rw[z,hn]at e; cases e
 refine I.step (g':=s.gens) (d':=s.drawn) (ch:=[it]) (λb hb=>?_) (λb o _ _ hc e _=>k b o (λz=>hc (by simp[z])) e) (λb o _ _ hc e _=>⟨o.slots,k b o (λz=>hc (by simp[z])) e⟩) (λ_ _ _ _ n=>n)
  (λb o hc e=>⟨o,k b o (λz=>hc (by simp[z])) e⟩) (λ_ _ e=>e) (λ_ _ _ e=>e) (λb ps e=>⟨#[],by rw[e]; simp⟩) (λm hm=>?_) (λb u e=>?_) I.bare
 .have e:b=it:=by simpa using hb
  subst e
  exact⟨h1,hL,h2,h3⟩
 .obtain⟨o,es,ep,ho,r⟩:=hm
  exact⟨o,es,ep,k _ o (Ne.symm hL) ho,r⟩
 .refine(I.hok b u e).stay (λc v hc q=>k c v ?_ q) (λ_ q=>q) λ_ _ q=>q
  rcases hc with z|z
  .rw[z]; exact MJ b u e
  .exact MJ c _ z
theorem Inv.tok(I:Inv X pins σ H s)(t:Nat):Inv X pins σ H {s with toks:=t }:=I.un (h':=s.heap) (t':=t) Un.refl I.hok
theorem Inv.kept(I:Inv X pins σ H s)(k:∀b u,s.heap.get? b=some u->h'.get? b=some u):Inv X pins σ H {s with heap:=h',toks:=t' }:=I.un (Un.kept k) (I.hok.kept k)
theorem Inv.laid{a:Addr}{o:HO}{t':Nat}(I:Inv X pins σ H s)(k:∀b u,s.heap.get? b=some u->h'.get? b=some u)(hp:s.heap.objs.size<=a)(new:fQ X.prog X.w (upd H a o) h' a o) :
  Inv X pins σ (upd H a o) {s with heap:=h',toks:=t' }:=I.un (Un.laid k hp (I.hok.fresh hp)) (I.hok.laid k hp new)
theorem Inv.write(I:Inv X pins σ H s)(mu:xr (H x))(he:e=x\/H e=some (.own x))(k:∀b u,b≠e->s.heap.get? b=some u->h'.get? b=some u)(heo:∃u,h'.get? e=some u)
  (new:fQ X.prog X.w (upd H x o) h' x o):Inv X pins σ (upd H x o) {s with heap:=h',toks:=t' }:=I.un (Un.write mu he k heo) (I.hok.write mu he k heo new)
theorem Inv.xO(I:Inv X pins σ H s)(h:∀p∈m9,s.heap.get? p.1=some p.2/\H p.1=none/\p.1≠X.env.locals/\p.1∉X.fs/\∀v,p.2.data ≠ .cell v):Inv X m9 σ H s :=
 ⟨I.ok,I.os,I.bare,I.base,I.loc,I.cell,I.free,I.jG,λp hp=>(List.mem_append.mp hp).elim (λz=>I.pin p (List.mem_append_left _ z)) (h p),I.hok,I.len⟩
theorem MK{N:List Str}(hN:N.Nodup){i j:Nat}{x:Str}(a:N[i]?=some x)(b:N[j]?=some x):i=j:=by
 obtain⟨h1,e1⟩:=List.getElem?_eq_some_iff.mp a
 obtain⟨h2,e2⟩:=List.getElem?_eq_some_iff.mp b
 exact(List.getElem_inj hN).mp (e1.trans e2.symm)
theorem MN{M:Model}{A:Around}{E:Value->Shared->Prop}{i:Nat}{x:Str}{v:V}{u:Value}{Q:Unit->Shared->Prop}(I:Inv X pins σ H s)(hN:X.N.Nodup)(hi:X.N[i]?=some x)(hx:Loc X.env.scope x)(r:RelV v u)
  (h:∀s',Inv X pins (σ.set i (some v)) H s'->(∃a,Heap.SameBut a s.heap s'.heap/\(a=X.env.locals\/X.env.cells.lookup x=some a))->Q () s') (hf:X.fn x=true\/X.env.scope.names.lookup x=some .local:=by first|exact .inl rfl|exact .inr rfl|assumption):wpAny M A (storeName X.env x u) Q E s:=by
 obtain⟨m,hn,hl⟩:=id I.loc
 have hcls:(X.env.scope.kind == .class || (X.env.scope.kind == .module&&X.env.locals != X.env.globals))=false:=by rw[I.ok.kind]; rfl
 have MP:i < σ.length:=by rw[I.len]; exact(List.getElem?_eq_some_iff.mp hi).1
 have oZ:=I.oZ
 have tracked:∀{a:Addr} {h':Heap},(∃o,s.heap.get? a=some o/\H a=none)->Heap.SameBut a s.heap h'->bZ X.prog X.w H h':=λ{a h'} ha hs b ob e=>by
  obtain⟨_,_,hfree⟩:=ha
  refine(I.hok b ob e).stay (λc w' hc q=>(hs.2 c ?_).trans q) (λ_ q=>q) λ_ _ q=>q
  rintro rfl
  rcases hc with rfl|hc
  .rw[hfree]at e; cases e
  .rw[hfree]at hc; cases hc
 rcases hx with hk|hk
 .refine wpAny_storeName_local hk hn (λh' hn' hs=>?_) hcls
  obtain⟨oL,_,_,hoL,_⟩:=id hn
  refine h _ ⟨I.ok,I.os,I.bare,⟨λb o e n hb hx=>?_,λb o e n hb hx=>?_,I.base.free,λb o e hx=>?_,I.base.tups,I.base.gP,I.base.gQ⟩,⟨_,hn',λj y v' e1 e2 e3=>?_⟩,λy c e=>?_,I.free,I.jG,λp hp=>?_,tracked ⟨oL,hoL,I.free⟩ hs,by simpa using I.len⟩ ⟨_,hs,.inl rfl⟩
  .exact(hs.2 b (Nat.ne_of_lt (Nat.lt_of_lt_of_le (Heap.lt_size e) I.ok.above))).trans (I.base.keep b o e n hb hx)
  .obtain⟨sl,e1⟩:=I.base.slot b o e n hb hx
   exact⟨sl,(hs.2 b (Nat.ne_of_lt (Nat.lt_of_lt_of_le (Heap.lt_size e) I.ok.above))).trans e1⟩
  .obtain⟨o',e1⟩:=I.base.there b o e hx
   exact⟨o',(hs.2 b (Nat.ne_of_lt (Nat.lt_of_lt_of_le (Heap.lt_size e) I.ok.above))).trans e1⟩
  .by_cases hj:j=i
   .subst hj
    rw[hi]at e1; cases e1
    rw[List.getElem?_set_self MP]at e2
    cases e2
    exact⟨u,r,.inl ⟨hk,by simp⟩⟩
   .rw[List.getElem?_set_ne (Ne.symm hj)]at e2
    obtain⟨u',r',q⟩:=hl j y v' e1 e2 e3
    refine⟨u',r',?_⟩
    rcases q with⟨k,e⟩|⟨k,c,e,z⟩
    .refine .inl ⟨k,?_⟩
     have:y≠x:=λe=>hj (MK hN e1 (e▸hi))
     simp[this,e]
    .exact .inr ⟨k,c,e,z.sameBut hs (oZ y c e)⟩
  .obtain⟨w',z⟩:=I.cell y c e
   exact⟨w',z.sameBut hs (oZ y c e)⟩
  .obtain⟨e,n,ne,nf,d⟩:=I.pin p hp
   exact⟨(hs.2 p.1 ne).trans e,n,ne,nf,d⟩
 .have hfn:X.fn x=true:=by
   rcases hf with z|z
   .exact z
   .rw[z]at hk; cases hk
  obtain⟨c,hc⟩:=I.ok.has x (.inl hk)
  obtain⟨w',z⟩:=I.cell x c hc
  refine wpAny_storeName_cell I.ok.kind hk hc z (λh' hc' hs=>?_)
  obtain⟨oc,hoc,aa0⟩:=id z
  refine h {s with heap:=h' } ⟨I.ok,I.os,I.bare,⟨λb o e n hb hx=>?_,λb o e n hb hx=>?_,I.base.free,λb o e hx=>?_,I.base.tups,I.base.gP,I.base.gQ⟩,⟨m,hn.sameBut hs (Ne.symm (oZ x c hc)),λj y v' e1 e2 e3=>?_⟩,λy c' e=>?_,I.free,I.jG,λp hp=>?_,tracked ⟨oc,hoc,I.jG x c hc⟩ hs,by simpa using I.len⟩ ⟨c,hs,.inr hc⟩
  .exact(hs.2 b (Nat.ne_of_lt (Nat.lt_of_lt_of_le (Heap.lt_size e) (I.ok.cab x c hfn hc)))).trans (I.base.keep b o e n hb hx)
  .obtain⟨sl,e1⟩:=I.base.slot b o e n hb hx
   exact⟨sl,(hs.2 b (Nat.ne_of_lt (Nat.lt_of_lt_of_le (Heap.lt_size e) (I.ok.cab x c hfn hc)))).trans e1⟩
  .obtain⟨o',e1⟩:=I.base.there b o e hx
   exact⟨o',(hs.2 b (Nat.ne_of_lt (Nat.lt_of_lt_of_le (Heap.lt_size e) (I.ok.cab x c hfn hc)))).trans e1⟩
  .by_cases hj:j=i
   .subst hj
    rw[hi]at e1; cases e1
    rw[List.getElem?_set_self MP]at e2
    cases e2
    exact⟨u,r,.inr ⟨.inl hk,c,hc,hc'⟩⟩
   .rw[List.getElem?_set_ne (Ne.symm hj)]at e2
    obtain⟨u',r',q⟩:=hl j y v' e1 e2 e3
    refine⟨u',r',?_⟩
    rcases q with q|⟨k,c',e,z'⟩
    .exact .inl q
    .refine .inr ⟨k,c',e,z'.sameBut hs ?_⟩
     rintro rfl
     exact hj (MK hN e1 (I.ok.inj _ _ _ e hc▸hi))
  .by_cases hcc:c'=c
   .subst hcc; exact⟨_,hc'⟩
   .obtain⟨w2,z2⟩:=I.cell y c' e
    exact⟨w2,z2.sameBut hs hcc⟩
  .obtain⟨e,n,ne,nf,d⟩:=I.pin p hp
   refine⟨(hs.2 p.1 ?_).trans e,n,ne,nf,d⟩
   intro q
   rw[q,hoc]at e
   have q':oc=p.2:=Option.some.inj e
   exact d w' (by rw[<-q']; exact aa0)
theorem xP(I:Inv X pins σ H s)(hN:X.N.Nodup)(hi:X.N[i]?=some x)(hx:Loc X.env.scope x)(r:RelV v u)
  (h:∀s',Inv X pins (σ.set i (some v)) H s'->Q () s') (hf:X.fn x=true\/X.env.scope.names.lookup x=some .local:=by first|exact .inl rfl|exact .inr rfl|assumption):wpAny M A (storeName X.env x u) Q E s :=
 MN I hN hi hx r (λs' I' _=>h s' I') hf
theorem Inv.call'(I:Inv X pins σ H s)(ho:s'.os=s.os)(u:Un (frs X.stack) ch H H' s.heap s'.heap)(hok:bZ X.prog X.w H' s'.heap)(hg:AllBare s'.gens)
  (hch:∀b∈ch,(b∈X.ex\/X.s₀.heap.objs.size<=b)/\b≠X.env.locals/\(∀x c,X.env.cells.lookup x=some c->c≠b)/\∀p∈X.pn++pins,p.1≠b):Inv X pins σ H' s':=by
 obtain⟨h',g',d',t',o'⟩:=s'
 have e:o'=s.os:=ho
 subst e
 exact I.call (g':=g') (t':=t') (d':=d') u hok hg hch
end
noncomputable abbrev XK:=Value->Option Addr->Hp->Prop
noncomputable abbrev St:=List (Option V)
noncomputable abbrev VK:=V->Hp->Prop
noncomputable abbrev TE:=St->Hp->VK->Prop
noncomputable abbrev TT:=St->Hp->(Bool->Hp->Prop)->Prop
noncomputable abbrev TA:=St->Hp->(List V->Hp->Prop)->Prop
structure Ends where
 nx:St->Hp->Prop
 rt:VK
 bk:St->Hp->Prop:=λ_ _=>False
 ct:St->Hp->Prop:=λ_ _=>False
noncomputable abbrev TS:=Ends->St->Hp->Prop
noncomputable def EP(X:Cx)(pins:List (Addr × Obj))(σ : St)(Q:VK)(u:Value)(s':Shared):Prop:=∃v H',Inv X pins σ H' s'/\RelV v u/\Q v H'
noncomputable def TP(X:Cx)(pins:List (Addr × Obj))(σ : St)(Q:Bool->Hp->Prop)(b:Bool)(s':Shared):Prop:=∃H',Inv X pins σ H' s'/\Q b H'
noncomputable def AP(X:Cx)(pins:List (Addr × Obj))(σ : St)(Q:List V->Hp->Prop)(us:List Value)(s':Shared):Prop:=∃vs H',Inv X pins σ H' s'/\Vals vs us/\Q vs H'
noncomputable def SP(X:Cx)(pins:List (Addr × Obj))(D:Ends)(f:Flow)(s':Shared):Prop :=
 match f with
 |.next=>∃σ' H',Inv X pins σ' H' s'/\D.nx σ' H'
 |.brk=>∃σ' H',Inv X pins σ' H' s'/\D.bk σ' H'
 |.cont=>∃σ' H',Inv X pins σ' H' s'/\D.ct σ' H'
 |.ret u=>∃v σ' H',Inv X pins σ' H' s'/\RelV v u/\D.rt v H'
structure PE(X:Cx)(e:Expr)(t:TE):Prop where
 run:∀(pins:List (Addr × Obj)) (s:Shared) (σ : St) (H:Hp) (Q:VK),Inv X pins σ H s->t σ H Q->wpAny (model X.prog X.w) X.A (eval e X.env) (EP X pins σ Q) X.xe s
noncomputable instance {X:Cx}{e:Expr}{t:TE}:CoeFun (PE X e t) λ_=>∀(pins:List (Addr × Obj)) (s:Shared) (σ : St) (H:Hp) (Q:VK),Inv X pins σ H s->t σ H Q->wpAny (model X.prog X.w) X.A (eval e X.env) (EP X pins σ Q) X.xe s:=⟨PE.run⟩
structure PT(X:Cx)(e:Expr)(t:TT):Prop where
 run:∀(pins:List (Addr × Obj)) (s:Shared) (σ : St) (H:Hp) (Q:Bool->Hp->Prop),Inv X pins σ H s->t σ H Q->wpAny (model X.prog X.w) X.A (isTrue e X.env (eval e X.env)) (TP X pins σ Q) X.xe s
noncomputable instance {X:Cx}{e:Expr}{t:TT}:CoeFun (PT X e t) λ_=>∀(pins:List (Addr × Obj)) (s:Shared) (σ : St) (H:Hp) (Q:Bool->Hp->Prop),Inv X pins σ H s->t σ H Q->wpAny (model X.prog X.w) X.A (isTrue e X.env (eval e X.env)) (TP X pins σ Q) X.xe s:=⟨PT.run⟩
structure PW(X:Cx)(e:Expr)(t:TT):Prop where
 run:∀(whole:Sem Value) (pins:List (Addr × Obj)) (s:Shared) (σ : St) (H:Hp) (Q:Bool->Hp->Prop),Inv X pins σ H s->t σ H Q->wpAny (model X.prog X.w) X.A (isTrue e X.env whole) (TP X pins σ Q) X.xe s
noncomputable instance {X:Cx}{e:Expr}{t:TT}:CoeFun (PW X e t) λ_=>∀(whole:Sem Value) (pins:List (Addr × Obj)) (s:Shared) (σ : St) (H:Hp) (Q:Bool->Hp->Prop),Inv X pins σ H s->t σ H Q->wpAny (model X.prog X.w) X.A (isTrue e X.env whole) (TP X pins σ Q) X.xe s:=⟨PW.run⟩
theorem PW.pt(h:PW X e t):PT X e t:=⟨h.run _⟩
structure PA(X:Cx)(es:List Expr)(t:TA):Prop where
 run:∀(pos:Pos) (pins:List (Addr × Obj)) (s:Shared) (σ : St) (H:Hp) (Q:List V->Hp->Prop),Inv X pins σ H s->t σ H Q->wpAny (model X.prog X.w) X.A (spliced (backTo pos (starEach es X.env))) (AP X pins σ Q) X.xe s
noncomputable instance {X:Cx}{es:List Expr}{t:TA}:CoeFun (PA X es t) λ_=>∀(pos:Pos) (pins:List (Addr × Obj)) (s:Shared) (σ : St) (H:Hp) (Q:List V->Hp->Prop),Inv X pins σ H s->t σ H Q->wpAny (model X.prog X.w) X.A (spliced (backTo pos (starEach es X.env))) (AP X pins σ Q) X.xe s:=⟨PA.run⟩
structure PS(X:Cx)(st:Stmt)(t:TS):Prop where
 run:∀(pins:List (Addr × Obj)) (s:Shared) (σ : St) (H:Hp) (D:Ends),Inv X pins σ H s->t D σ H->wpAny (model X.prog X.w) X.A (exec st X.env) (SP X pins D) X.xe s
noncomputable instance {X:Cx}{st:Stmt}{t:TS}:CoeFun (PS X st t) λ_=>∀(pins:List (Addr × Obj)) (s:Shared) (σ : St) (H:Hp) (D:Ends),Inv X pins σ H s->t D σ H->wpAny (model X.prog X.w) X.A (exec st X.env) (SP X pins D) X.xe s:=⟨PS.run⟩
structure cX(X:Cx)(st:List Stmt)(t:TS):Prop where
 run:∀(pins:List (Addr × Obj)) (s:Shared) (σ : St) (H:Hp) (D:Ends),Inv X pins σ H s->t D σ H->wpAny (model X.prog X.w) X.A (execs st X.env) (SP X pins D) X.xe s
noncomputable instance {X:Cx}{st:List Stmt}{t:TS}:CoeFun (cX X st t) λ_=>∀(pins:List (Addr × Obj)) (s:Shared) (σ : St) (H:Hp) (D:Ends),Inv X pins σ H s->t D σ H->wpAny (model X.prog X.w) X.A (execs st X.env) (SP X pins D) X.xe s:=⟨cX.run⟩
theorem aF{α : Type}{t:Sem α}{Q Q' : α -> Shared->Prop}{M:Model}{A:Around}{E:Value->Shared->Prop}{s:Shared}(h:wpAny M A t Q E s)(hQ:∀a s,Q a s->Q' a s):wpAny M A t Q' E s:=wpAny_mono h hQ λ_ _ x=>x
section
variable {X:Cx}
noncomputable def ux(i:Nat):TE:=λσ H Q=>∃v,σ[i]?=some (some v)/\Q v H
noncomputable def tC(v:V):TE:=λ_ H Q=>Q v H
theorem M4(hN:X.N[i]?=some x)(hv:xG X.env.scope x)(hd:(x == ("__debug__" : Str))=false:=by decide) (hcd:(x == ("__classdict__" : Str))=false:=by decide):PE X (.Name x pos) (ux i):=by
 refine⟨λpins s σ H Q I h=>?_⟩
 obtain⟨v,e,h⟩:=h
 obtain⟨m,hn,hl⟩:=I.loc
 obtain⟨u,r,l⟩:=hl i x v hN e hv
 have fin:EP X pins σ Q u s:=⟨v,H,I,r,h⟩
 rcases l with⟨hk,hm⟩|⟨hk,c,hc,hcell⟩
 .exact wpAny_Name (wpAny_loadName_local I.ok.kind hk hn hm fin) hd
 .rcases hk with hk|hk
  .exact wpAny_Name (wpAny_loadName_cell I.ok.kind hk hc hcell fin) hd
  .exact wpAny_Name (wpAny_loadName_free I.ok.kind hk hc hcell fin hcd) hd
theorem Dl{i j pos}:PE X (.Constant (.int i) j pos) (tC (.int i)):=⟨λ_ _ _ H _ I h=>wpAny_Constant_int ⟨.int i,H,I.tok _,⟨_,rfl⟩,h⟩⟩
theorem M5{b j pos}:PE X (.Constant (.bool b) j pos) (tC (.bl b)):=⟨λ_ _ _ H _ I h=>Constant_bool ⟨.bl b,H,I,rfl,h⟩⟩
theorem M6{j pos}:PE X (.Constant .none j pos) (tC .non):=⟨λ_ _ _ H _ I h=>Constant_none ⟨.non,H,I,rfl,h⟩⟩
theorem M7{x j pos}:PE X (.Constant (.str x) j pos) (tC (.str x)):=⟨λ_ _ _ H _ I h=>Calls.Constant_str ⟨.str x,H,I.tok _,⟨_,rfl⟩,h⟩⟩
noncomputable def Gl(X:Cx)(x:Str):Prop:=X.env.kindOf x=some .globalImplicit
theorem xQ(I:Inv X pins σ H s)(hg:Gl X x)(hm:X.mg x=some u)(h:Q u s)
  (hd:(x == ("__debug__" : Str))=false:=by decide):wpAny (model X.prog X.w) X.A (eval (.Name x pos) X.env) Q E s :=
 Calls.Name_function_global I.ok.kind hg (Calls.loadGlobal_global (by rw[I.ok.glob]; exact I.mod.glob.keeps I.bk) hm h) hd
theorem o7(I:Inv X pins σ H s)(hg:Gl X x)(hm:X.mg x=none)(hv:bootBuiltins x=some u)(h:Q u s)
  (hn:x ≠ "__name__" := by decide) (hd:(x == ("__debug__" : Str))=false:=by decide):wpAny (model X.prog X.w) X.A (eval (.Name x pos) X.env) Q E s:=by
 obtain⟨mb,h1,h2⟩:=I.mod.blt
 exact Calls.Name_function_global I.ok.kind hg (Calls.loadGlobal_builtin (by rw[I.ok.glob]; exact I.mod.glob.keeps I.bk) hm (by rw[I.ok.blt]; exact h1.keeps I.bk) ((h2 x hn).trans hv) h) hd
theorem aa1(hg:Gl X x)(hm:X.mg x=some u)(r:RelV v u)(hd:(x == ("__debug__" : Str))=false:=by decide):PE X (.Name x pos) (tC v) :=
 ⟨λ_ _ _ H _ I h=>xQ I hg hm ⟨v,H,I,r,h⟩ hd⟩
theorem aa2(hg:Gl X x)(hm:X.mg x=none)(hv:bootBuiltins x=some u)(r:RelV v u)(hn:x ≠ "__name__" := by decide) (hd:(x == ("__debug__" : Str))=false:=by decide):PE X (.Name x pos) (tC v) :=
 ⟨λ_ _ _ H _ I h=>o7 I hg hm hv ⟨v,H,I,r,h⟩ hn hd⟩
variable {a b:Expr}{ta tb:TE}{pos:Pos}
variable {tA xR:TT}{rest:List Expr}
noncomputable def M8(t u:TT):TT:=λσ H Q=>t σ H λc H1=>if c=true then u σ H1 Q else Q false H1
noncomputable def M9(t u:TT):TT:=λσ H Q=>t σ H λc H1=>if c=true then Q true H1 else u σ H1 Q
noncomputable def Nb(t:TT):TT:=λσ H Q=>t σ H λc H1=>Q (!c) H1
theorem aa3(ha:PT X a tA):PW X (.BoolOp .And [a] pos) tA:=by
 refine⟨λwh pins s σ H Q I h=>?_⟩
 refine isTrue_and (aF (ha pins s σ H Q I h) λc s1 e=>?_)
 cases c with
 |true=>exact isTrue_and_nil e
 |false=>exact e
theorem aa4(ha:PT X a tA):PW X (.BoolOp .Or [a] pos) tA:=by
 refine⟨λwh pins s σ H Q I h=>?_⟩
 refine isTrue_or (aF (ha pins s σ H Q I h) λc s1 e=>?_)
 cases c with
 |false=>exact isTrue_or_nil e
 |true=>exact e
theorem aa5(ha:PT X a tA)(hb:PW X (.BoolOp .And (b::rest) pos) xR):PW X (.BoolOp .And (a::b::rest) pos) (M8 tA xR):=by
 refine⟨λwh pins s σ H Q I h=>?_⟩
 refine isTrue_and (aF (ha pins s σ H _ I h) λc s1 ⟨H1,I1,q1⟩=>?_)
 cases c with
 |true=>exact hb wh pins s1 σ H1 Q I1 q1
 |false=>exact⟨H1,I1,q1⟩
theorem aa6(ha:PT X a tA)(hb:PW X (.BoolOp .Or (b::rest) pos) xR):PW X (.BoolOp .Or (a::b::rest) pos) (M9 tA xR):=by
 refine⟨λwh pins s σ H Q I h=>?_⟩
 refine isTrue_or (aF (ha pins s σ H _ I h) λc s1 ⟨H1,I1,q1⟩=>?_)
 cases c with
 |true=>exact⟨H1,I1,q1⟩
 |false=>exact hb wh pins s1 σ H1 Q I1 q1
theorem aa7(ha:PT X a tA):PT X (.UnaryOp .Not a pos) (Nb tA):=by
 refine⟨λpins s σ H Q I h=>?_⟩
 exact isTrue_not (ha pins s σ H (λc H1=>Q (!c) H1) I h)
noncomputable def Nf(ta tb:TE):TE:=λσ H Q=>ta σ H λx H1=>∃c,x=.bl c/\if c=true then tb σ H1 Q else Q (.bl false) H1
noncomputable def Ng(ta:TE):TE:=λσ H Q=>ta σ H λx H1=>∃c,x=.bl c/\Q (.bl (!c)) H1
theorem aa8{op}{t:TE}(h:PE X a t):PE X (.BoolOp op [a] pos) t:=⟨λpins s σ H Q I hw=>BoolOp_one (h pins s σ H Q I hw)⟩
theorem aa9(ha:PE X a ta)(hb:PE X (.BoolOp .And (b::rest) pos) tb):PE X (.BoolOp .And (a::b::rest) pos) (Nf ta tb):=by
 refine⟨λpins s σ H Q I h=>?_⟩
 refine BoolOp_and (aF (ha pins s σ H _ I h) λv s1 ⟨x,H1,I1,r1,q1⟩=>?_)
 obtain⟨c,rfl,q1⟩:=q1
 cases r1
 refine wpAny_truthy_bool ?_
 cases c with
 |true=>exact hb pins s1 σ H1 Q I1 q1
 |false=>exact⟨.bl false,H1,I1,rfl,q1⟩
theorem abb(ha:PE X a ta):PE X (.UnaryOp .Not a pos) (Ng ta):=by
 refine⟨λpins s σ H Q I h=>?_⟩
 refine UnaryOp_ (aF (ha pins s σ H _ I h) λv s1 ⟨x,H1,I1,r1,q1⟩=>?_)
 obtain⟨c,rfl,q1⟩:=q1
 cases r1
 exact not_of (wpAny_truthy_bool ⟨.bl (!c),H1,I1,rfl,q1⟩)
noncomputable def Nh(t:TT)(ta tb:TE):TE:=λσ H Q=>t σ H λc H1=>if c=true then ta σ H1 Q else tb σ H1 Q
theorem abd{c:Expr}(hc:PT X c tA)(ha:PE X a ta)(hb:PE X b tb):PE X (.IfExp c a b pos) (Nh tA ta tb):=by
 refine⟨λpins s σ H Q I h=>?_⟩
 refine wpAny_IfExp (aF (hc pins s σ H _ I h) λd s1 ⟨H1,I1,q1⟩=>?_)
 cases d with
 |true=>exact ha pins s1 σ H1 Q I1 q1
 |false=>exact hb pins s1 σ H1 Q I1 q1
end
noncomputable def aL(K:PySem.W.Frag)(H:Hp)(a:Addr)(xs:List V):Prop :=
 Rd H a (.lst xs) \/
  ∃(o:Obj) (its:Array Value) (n:Nat),K.lookup a=some o/\o.cls=.type "list" /\ o.dict=none/\o.data=.seq its n/\its.size<=sizeLine/\Vals xs its.toList
noncomputable def aX(K:PySem.W.Frag)(H:Hp)(a:Addr)(xs:List V):Prop :=
 Rd H a (.tup xs) \/
  ∃(o:Obj) (its:Array Value) (n:Nat),K.lookup a=some o/\o.cls=.type "tuple" /\ o.data=.seq its n/\its.size<=sizeLine/\Vals xs its.toList
noncomputable def abe:Value->Option V
 |.none=>some .non
 |.bool b=>some (.bl b)
 |.int i _=>some (.int i)
 |.str x _=>some (.str x)
 |.bytes b _=>some (.qX b)
 |.float b _=>some (.flt b)
 |.ref a=>some (.ref a)
 |.type n=>some (.ty n)
 |_=>none
theorem RelV.abs(r:RelV x u):abe u=some x:=by
 cases x with
 |non=>cases r; rfl
 |bl _=>cases r; rfl
 |int _=>obtain⟨t,rfl⟩:=r; rfl
 |str _=>obtain⟨t,rfl⟩:=r; rfl
 |qX _=>obtain⟨t,rfl⟩:=r; rfl
 |flt _=>obtain⟨t,rfl⟩:=r; rfl
 |ref _=>cases r; rfl
 |ty _=>cases r; rfl
theorem RelV.inj{x y:V}{u:Value}(r:RelV x u)(q:RelV y u):x=y:=Option.some.inj (r.abs.symm.trans q.abs)
theorem Vals.inj:∀{xs ys:List V} {us:List Value},Vals xs us->Vals ys us->xs=ys
 |_,_,_,.nil,.nil=>rfl
 |_,_,_,.cons r t,.cons r' t'=>by rw[r.inj r',Vals.inj t t']
section
variable {X:Cx}{pins:List (Addr × Obj)}{σ : St}{H:Hp}{s:Shared}{a:Addr}{xs ys:List V}
theorem aL.of{K:PySem.W.Frag}(h:H a=some (.lst xs)):aL K H a xs:=.inl (.inl h)
theorem aX.of{K:PySem.W.Frag}(h:H a=some (.tup xs)):aX K H a xs:=.inl (.inl h)
theorem Inv.list(I:Inv X pins σ H s)(h:aL X.K H a xs):∃its:List Value,Vals xs its/\PlainL s.heap a its.toArray/\xs.length<=sizeLine:=by
 rcases h with h|⟨o,its,n,hk,hc,hd,hs,hz,r⟩
 .obtain⟨z,its,n,r,e⟩:=h.ok I.hok
  exact⟨its,r,⟨_,n,e,rfl,rfl,rfl⟩,z⟩
 .refine⟨its.toList,r,⟨o,n,I.dG a o hk,hc,hd,by simpa using hs⟩,?_⟩
  have e:=r.length
  simp only[Array.length_toList]at e
  lia
theorem Inv.tuple(I:Inv X pins σ H s)(h:aX X.K H a xs):∃its:List Value,Vals xs its/\IsTup s.heap a its.toArray/\xs.length<=sizeLine:=by
 rcases h with h|⟨o,its,n,hk,hc,hs,hz,r⟩
 .obtain⟨z,its,r,p⟩:=h.ok I.hok
  exact⟨its,r,p,z⟩
 .refine⟨its.toList,r,⟨o,I.dG a o hk,hc,n,by simpa using hs⟩,?_⟩
  have e:=r.length
  simp only[Array.length_toList]at e
  lia
theorem Inv.xU(I:Inv X pins σ H s)(h:aL X.K H a xs)(h':aL X.K H a ys):xs=ys:=by
 obtain⟨its,r,⟨o,n,e,_,_,d⟩,_⟩:=I.list h
 obtain⟨its',r',⟨o',n',e',_,_,d'⟩,_⟩:=I.list h'
 rw[e]at e'; cases e'
 rw[d]at d'
 injection d' with d1 _
 have:its=its':=by simpa using congrArg Array.toList d1
 subst this
 exact r.inj r'
theorem Inv.Ni(I:Inv X pins σ H s)(h:aX X.K H a xs)(h':aX X.K H a ys):xs=ys:=by
 obtain⟨its,r,⟨o,e,_,n,d⟩,_⟩:=I.tuple h
 obtain⟨its',r',⟨o',e',_,n',d'⟩,_⟩:=I.tuple h'
 rw[e]at e'; cases e'
 rw[d]at d'
 injection d' with d1 _
 have:its=its':=by simpa using congrArg Array.toList d1
 subst this
 exact r.inj r'
end
noncomputable abbrev Cx.wish(X:Cx)(E:Value->Shared->Prop):Cx:={X with xe:=E }
noncomputable abbrev Cx.iY(X:Cx):Cx:=X.wish λ_ _=>False
theorem Cx.Ok.wish{X:Cx}(ok:X.Ok)(E:Value->Shared->Prop):(X.wish E).Ok :=
 ⟨ok.mod,ok.kind,ok.glob,ok.blt,ok.above,ok.inj,ok.has,ok.cab,ok.hd,ok.frames,ok.stk,ok.Mz,ok.bs,ok.jF,ok.ur,ok.xH,ok.iD,ok.lQ⟩
theorem Cx.Ok.jH{X:Cx}{E:Value->Shared->Prop}(ok:(X.wish E).Ok):X.Ok :=
 ⟨ok.mod,ok.kind,ok.glob,ok.blt,ok.above,ok.inj,ok.has,ok.cab,ok.hd,ok.frames,ok.stk,ok.Mz,ok.bs,ok.jF,ok.ur,ok.xH,ok.iD,ok.lQ⟩
section
variable {X:Cx}{pins:List (Addr × Obj)}{σ : St}{H:Hp}{s:Shared}{E:Value->Shared->Prop}
theorem Inv.wish(I:Inv X pins σ H s)(E:Value->Shared->Prop):Inv (X.wish E) pins σ H s:=⟨I.ok.wish E,I.os,I.bare,I.base,I.loc,I.cell,I.free,I.jG,I.pin,I.hok,I.len⟩
theorem Inv.jH(I:Inv (X.wish E) pins σ H s):Inv X pins σ H s:=⟨I.ok.jH,I.os,I.bare,I.base,I.loc,I.cell,I.free,I.jG,I.pin,I.hok,I.len⟩
theorem SP.jH{D:Ends}{f:Flow}{s':Shared}(h:SP (X.wish E) pins D f s'):SP X pins D f s':=by
 cases f with
 |next=>obtain⟨σ',H',I,q⟩:=h; exact⟨σ',H',I.jH,q⟩
 |brk=>obtain⟨σ',H',I,q⟩:=h; exact⟨σ',H',I.jH,q⟩
 |cont=>obtain⟨σ',H',I,q⟩:=h; exact⟨σ',H',I.jH,q⟩
 |ret u=>obtain⟨v,σ',H',I,r,q⟩:=h; exact⟨v,σ',H',I.jH,r,q⟩
theorem PE.iY(h:PE X.iY e t):PE X e t:=⟨λpins s σ H Q I hw =>
 wpAny_mono (h pins s σ H Q (I.wish _) hw) (λ_ _ ⟨v,H',I',r,q⟩=>⟨v,H',I'.jH,r,q⟩) λ_ _ z=>False.elim z⟩
theorem PT.iY(h:PT X.iY e t):PT X e t:=⟨λpins s σ H Q I hw =>
 wpAny_mono (h pins s σ H Q (I.wish _) hw) (λ_ _ ⟨H',I',q⟩=>⟨H',I'.jH,q⟩) λ_ _ z=>False.elim z⟩
theorem cX.iY{st:List Stmt}{t:TS}(h:cX X.iY st t):cX X st t:=⟨λpins s σ H D I hw =>
 wpAny_mono (h pins s σ H D (I.wish _) hw) (λ_ _ q=>q.jH) λ_ _ z=>False.elim z⟩
end
section
variable {X:Cx}{st:Stmt}{rest:List Stmt}{t u:TS}{e:Expr}{te:TE}{pos:Pos}
noncomputable def abf:TS:=λD σ H=>D.nx σ H
noncomputable def Nj(t u:TS):TS:=λD σ H=>t {D with nx:=u D } σ H
theorem Dm:cX X [] abf:=⟨λ_ _ σ H _ I h=>wpAny_execs_nil ⟨σ,H,I,h⟩⟩
theorem xV(h1:PS X st t)(h2:cX X rest u):cX X (st::rest) (Nj t u):=by
 refine⟨λpins s σ H D I h=>?_⟩
 refine wpAny_execs_cons (aF (h1 pins s σ H {D with nx:=u D } I h) λf s1 q=>?_)
 cases f with
 |next =>
  obtain⟨σ',H',I',q⟩:=q
  exact h2 pins s1 σ' H' D I' q
 |ret v=>exact q
 |brk=>exact q
 |cont=>exact q
theorem xW(h1:PS X st t):cX X [st] t:=by
 refine⟨λpins s σ H D I h=>?_⟩
 refine wpAny_execs_cons (aF (h1 pins s σ H D I h) λf s1 q=>?_)
 cases f with
 |next=>exact wpAny_execs_nil q
 |ret v=>exact q
 |brk=>exact q
 |cont=>exact q
theorem Inv.quiet{pins:List (Addr × Obj)}{σ : St}{H:Hp}{s:Shared}(I:Inv X pins σ H s):interactive X.env=false:=by simp[interactive,I.ok.kind]
noncomputable def abg(te:TE):TS:=λD σ H=>te σ H λ_ H1=>D.nx σ H1
theorem abh(he:PE X e te)(hs:swapsWith e none pos.line X.env=pure false:=by rfl):PS X (.Expr e pos) (abg te):=by
 refine⟨λpins s σ H D I h=>?_⟩
 exact wpAny_Expr_any (aF (he pins s σ H _ I h) λv s1 ⟨x,H1,I1,r1,q1⟩=>⟨σ,H1,I1,q1⟩) I.quiet hs
noncomputable def abj(te:TE):TS:=λD σ H=>te σ H D.rt
theorem xX(he:PE X e te):PS X (.Return (some e) pos) (abj te):=by
 refine⟨λpins s σ H D I h=>?_⟩
 exact wpAny_Return_some (aF (he pins s σ H _ I h) λv s1 ⟨x,H1,I1,r1,q1⟩=>⟨x,σ,H1,I1,r1,q1⟩)
noncomputable def Nk(c:TT)(t u:TS):TS:=λD σ H=>c σ H λb H1=>if b=true then t D σ H1 else u D σ H1
theorem Nm{c:Expr}{a b:List Stmt}{tc:TT}(hc:PT X c tc)(ha:cX X a t)(hb:cX X b u):PS X (.If c a b pos) (Nk tc t u):=by
 refine⟨λpins s σ H D I h=>?_⟩
 refine wpAny_If (aF (hc pins s σ H _ I h) λd s1 ⟨H1,I1,q1⟩=>?_)
 cases d with
 |true=>exact ha pins s1 σ H1 D I1 q1
 |false=>exact hb pins s1 σ H1 D I1 q1
end
noncomputable abbrev TG:=V->St->Hp->(St->Hp->Prop)->Prop
noncomputable abbrev o8:=List V->St->Hp->(St->Hp->Prop)->Prop
noncomputable def PG(X:Cx)(target:Expr)(t:TG):Prop :=
 ∀(pins:List (Addr × Obj)) (s:Shared) (σ : St) (H:Hp) (v:V) (u:Value) (Q:St->Hp->Prop),Inv X pins σ H s->RelV v u->t v σ H Q ->
  wpAny (model X.prog X.w) X.A (assign target X.env u) (λ_ s'=>∃σ' H',Inv X pins σ' H' s'/\Q σ' H') X.xe s
noncomputable def nj(X:Cx)(ts:List Expr)(t:o8):Prop :=
 ∀(pins:List (Addr × Obj)) (s:Shared) (σ : St) (H:Hp) (vs:List V) (us:List Value) (Q:St->Hp->Prop),Inv X pins σ H s->Vals vs us->t vs σ H Q ->
  wpAny (model X.prog X.w) X.A (assignInOrder ((assignEach ts X.env).map (·.2)) us) (λ_ s'=>∃σ' H',Inv X pins σ' H' s'/\Q σ' H') X.xe s
noncomputable abbrev Dn:=V->V->V->Hp->(Hp->Prop)->Prop
noncomputable def Np(X:Cx)(t:Dn):Prop :=
 ∀(pins:List (Addr × Obj)) (s:Shared) (σ : St) (H:Hp) (o i v:V) (ov iv u:Value) (Q:Hp->Prop),Inv X pins σ H s->RelV o ov->RelV i iv->RelV v u->t o i v H Q ->
  wpAny (model X.prog X.w) X.A (setItem ov iv u) (λ_ s'=>∃H',Inv X pins σ H' s'/\Q H') X.xe s
section
variable {X:Cx}{pos:Pos}
noncomputable def jY(i:Nat):TG:=λv σ H Q=>Q (σ.set i (some v)) H
theorem abk(hN:X.N.Nodup)(hi:X.N[i]?=some x)(hx:Loc X.env.scope x)(hf:X.fn x=true\/X.env.scope.names.lookup x=some .local:=by first|exact .inl rfl|exact .inr rfl|assumption):PG X (.Name x pos) (jY i):=by
 intro pins s σ H v u Q I r h
 exact wpAny_assign_Name (xP I hN hi hx r (λs' I'=>⟨_,H,I',h⟩) hf)
noncomputable def abl:o8:=λvs σ H Q=>vs=[]/\Q σ H
noncomputable def abm(t:TG)(u:o8):o8:=λvs σ H Q=>∃v r,vs=v::r/\t v σ H λσ' H'=>u r σ' H' Q
theorem abn:nj X [] abl:=by
 intro pins s σ H vs us Q I r h
 obtain⟨e,h⟩:=h
 subst e
 cases r
 exact assignInOrder_nil ⟨σ,H,I,h⟩
theorem abo{e:Expr}{es:List Expr}{t:TG}{u:o8}(h1:PG X e t)(h2:nj X es u)
  (hs:(assignEach (e::es) X.env).map (·.2)=assign e X.env::(assignEach es X.env).map (·.2):=by rfl):nj X (e::es) (abm t u):=by
 intro pins s σ H vs us Q I r h
 obtain⟨v,vr,e1,h⟩:=h
 subst e1
 cases r with
 |cons r rr =>
  rw[hs]
  refine assignInOrder_cons (aF (h1 pins s σ H _ _ _ I r h) λ_ s1 ⟨σ1,H1,I1,q1⟩=>?_)
  exact h2 pins s1 σ1 H1 _ _ Q I1 rr q1
noncomputable def abp(K:PySem.W.Frag)(n:Nat)(t:o8):TG:=λv σ H Q=>∃a xs,v=.ref a/\aX K H a xs/\xs.length=n/\t xs σ H Q
theorem abq(hc:X.calm=true)(h:nj X es t)
  (hn:(assignEach es X.env).length=n:=by rfl) (hst:(assignEach es X.env).findIdx? (·.1)=none:=by rfl):PG X (.Tuple es k pos) (abp X.K n t):=by
 intro pins s σ H v u Q I r hw
 obtain⟨a,xs,e1,hq,hl,hw⟩:=hw
 subst e1
 cases r
 obtain⟨its,rv,ht,hz⟩:=I.tuple hq
 refine assign_Tuple_tuple (I.ok.hd hc) ht (by simp[hn,<-hl,rv.length]) hst λh' hx=>?_
 have I1:Inv X pins σ H {s with heap:=h' }:=I.kept (t':=s.toks) λb o e=>hx b o (Nat.ne_of_lt (Heap.lt_size e)) e
 exact h pins _ σ H xs _ Q I1 (by simpa using rv) hw
noncomputable def abr(to ti:TE)(t:Dn):TG:=λv σ H Q=>to σ H λo H1=>ti σ H1 λi H2=>t o i v H2 λH3=>Q σ H3
theorem Dp{o i:Expr}{to ti:TE}{t:Dn}(ho:PE X o to)(hi:PE X i ti)(hs:Np X t)
  (ha:∀v,assign (.Subscript o i pos) X.env v=(do
   let ov <-holding [v] (eval o X.env)
   let iv <-holding [v,ov] (eval i X.env)
   standAt pos
   holding [v,ov,iv] (setItem ov iv v)
   release [v,ov,iv] []):=by intro _; rfl):PG X (.Subscript o i pos) (abr to ti t):=by
 intro pins s σ H v u Q I r h
 rw[ha]
 refine wpAny_bind (wpAny_holding (aF (ho pins s σ H _ I h) λov s1 ⟨x,H1,I1,r1,q1⟩=>?_))
 refine wpAny_bind (wpAny_holding (aF (hi pins s1 σ H1 _ I1 q1) λiv s2 ⟨y,H2,I2,r2,q2⟩=>?_))
 refine wpAny_bind (wpAny_standAt (wpAny_bind (wpAny_holding (aF (hs pins s2 σ H2 x y v ov iv u _ I2 r1 r2 r q2) λ_ s3 ⟨H3,I3,q3⟩=>?_))))
 exact wpAny_release ⟨σ,H3,I3,q3⟩
noncomputable def jZ(te:TE)(g:TG):TS:=λD σ H=>te σ H λx H1=>g x σ H1 D.nx
theorem xY{tg e:Expr}{te:TE}{g:TG}(he:PE X e te)(hg:PG X tg g)(hs:swapsWithSole [tg] e pos.line X.env=pure false:=by rfl)(hw:swappedStores [tg] e X.env=pure none:=by rfl)
  (h1:(assignEach [tg] X.env).map (·.2)=[assign tg X.env]:=by rfl):PS X (.Assign [tg] e pos) (jZ te g):=by
 refine⟨λpins s σ H D I h=>?_⟩
 refine wpAny_Assign_stores (aF (he pins s σ H _ I h) λv s1 ⟨x,H1,I1,r1,q1⟩=>?_) hs hw
 rw[h1]
 exact aF (hg pins s1 σ H1 x v _ I1 r1 q1) λ_ s2 q=>q
theorem Dq{i:Nat}{x:Str}{e:Expr}{te:TE}{pos':Pos}(hN:X.N.Nodup)(hi:X.N[i]?=some x)(hx:Loc X.env.scope x)(he:PE X e te)(hs:swapsWith e (some (.Name x pos')) pos.line X.env=pure false:=by rfl)(hf:X.fn x=true\/X.env.scope.names.lookup x=some .local:=by first|exact .inl rfl|exact .inr rfl|assumption) :
  PS X (.Assign [.Name x pos'] e pos) (jZ te (jY i)):=by
 refine⟨λpins s σ H D I h=>?_⟩
 refine wpAny_Assign_Name (aF (he pins s σ H _ I h) λv s1 ⟨y,H1,I1,r1,q1⟩=>?_) hs
 exact xP I1 hN hi hx r1 (λs2 I2=>⟨_,H1,I2,q1⟩) hf
noncomputable def abt(i j:Nat)(ta:TA):TS:=λD σ H=>ta σ H λvs H1=>∃v w,vs=[v,w]/\D.nx ((σ.set i (some v)).set j (some w)) H1
theorem abu{kt k2 Dr}(hc:X.calm=true)(hN:X.N.Nodup)(hi:X.N[i]?=some x)(hj:X.N[j]?=some y)(hij:i≠j)
  (hx:X.env.scope.names.lookup x=some .local) (hy:X.env.scope.names.lookup y=some .local) (ha:PA X [a,b] ta)
  (hw:swappedStores [.Tuple [.Name x px,.Name y py] kt pt] (.Tuple [a,b] k2 Dr) X.env=pure (some [x,y]))
  (hs:swapsWithSole [.Tuple [.Name x px,.Name y py] kt pt] (.Tuple [a,b] k2 Dr) pos.line X.env=pure false:=by rfl) :
  PS X (.Assign [.Tuple [.Name x px,.Name y py] kt pt] (.Tuple [a,b] k2 Dr) pos) (abt i j ta):=by
 refine⟨λpins s σ H D I h=>?_⟩
 rw[exec_Assign_arm]
 refine wpAny_bind (wpAny_standAt ?_)
 rw[hs]
 refine wpAny_bind (wpAny_pure ?_)
 rw[if_neg (by decide)]
 refine wpAny_bind (Tuple_ (aF (ha _ pins s σ H _ I h) λus s1 ⟨vs,H1,I1,r1,q1⟩=>?_))
 obtain⟨v,w,e1,q1⟩:=q1
 subst e1
 obtain⟨u1,u2,rfl,rv,o9⟩:∃u1 u2,us=[u1,u2]/\RelV v u1/\RelV w u2:=by
  cases r1 with
  |cons p q =>
   cases q with
   |cons p' q' =>
    cases q'
    exact⟨_,_,rfl,p,p'⟩
 refine wpAny_newObj_type ?_ (by show 2<=sizeLine; decide)
 have I2:Inv X pins σ H1 {s1 with heap:=s1.heap.push {cls:=.type "tuple",data:=.seq [u1,u2].toArray } }:=I1.kept (t':=s1.toks) λb o e=>Heap.get?_push_of_some _ e
 rw[hw]
 refine wpAny_bind (wpAny_pure ?_)
 show wpAny (model X.prog X.w) X.A (do rule "assign.swapped-stores"; let items <-unpackItems (.ref s1.heap.objs.size) 2 none; assignInOrder [λv=>bindName X.env y v,λv=>bindName X.env x v] items.reverse; pure Flow.next) _ _ _
 refine wpAny_bind (wpAny_rule (wpAny_bind (unpackItems_tuple (items:=#[u1,u2]) (I.ok.hd hc) (IsTup.new s1.heap _) λh' hx'=>?_)))
 have I3:=I2.kept (h':=h') (t':=s1.toks) λb o e=>hx' b o (Nat.ne_of_lt (Heap.lt_size e)) e
 show wpAny _ _ (assignInOrder [λv=>bindName X.env y v,λv=>bindName X.env x v] [u2,u1] >>= λ_=>pure Flow.next) _ _ _
 refine wpAny_bind (assignInOrder_cons (wpAny_bindName (xP I3 hN hj (.inl hy) o9 (λs2 I4=>?_) (.inr hy))))
 refine assignInOrder_cons (wpAny_bindName (xP I4 hN hi (.inl hx) rv (λs3 I5=>assignInOrder_nil (wpAny_pure ?_)) (.inr hx)))
 rw[List.set_comm _ _ (Ne.symm hij)]at I5
 exact⟨_,H1,I5,q1⟩
end
section
variable {X:Cx}{pos:Pos}
noncomputable def abv(c:TT)(tb:TS):TS:=λD σ H=>∃W:Nat->St->Hp->Prop,(∃m,W m σ H)/\∀m σ H,W m σ H ->
 c σ H λb H1=>if b=true then ∃N:St->Hp->Prop,(∀σ' H',N σ' H'->∃m',m'<m/\W m' σ' H')/\tb {D with nx:=N,ct:=N,bk:=D.nx } σ H1 else D.nx σ H1
theorem abw(hp:PassesOwn (model X.prog X.w) X.A X.env X.xe)(hc:PT X c tc)(hb:cX X body tb):PS X (.While c body [] pos) (abv tc tb):=by
 refine⟨λpins s σ H D I h=>?_⟩
 obtain⟨W,⟨m0,w0⟩,turn⟩:=h
 refine wpAny_While (codeAny_whileLoop (λn s'=>∃σ' H',Inv X pins σ' H' s'/\W n σ' H') ?_ m0 ⟨σ,H,I,w0⟩)
 rintro n s1 ⟨σ1,H1,I1,w1⟩
 refine wpAny_passesOwn hp (aF (hc pins s1 σ1 H1 _ I1 (turn n σ1 H1 w1)) λb s2 ⟨H2,I2,q2⟩=>?_)
 cases b with
 |true =>
  obtain⟨N,hN,q2⟩:=q2
  rw[if_pos rfl]
  refine wpAny_passesOwn hp (aF (hb pins s2 σ1 H2 _ I2 q2) λf s3 q3=>?_)
  cases f with
  |next =>
   obtain⟨σ3,H3,I3,n3⟩:=q3
   obtain⟨m',hm,w3⟩:=hN σ3 H3 n3
   exact⟨m',hm,σ3,H3,I3,w3⟩
  |cont =>
   obtain⟨σ3,H3,I3,n3⟩:=q3
   obtain⟨m',hm,w3⟩:=hN σ3 H3 n3
   exact⟨m',hm,σ3,H3,I3,w3⟩
  |brk=>exact q3
  |ret v=>exact q3
 |false =>
  rw[if_neg Bool.false_ne_true]
  exact wpAny_execs_nil ⟨σ1,H2,I2,q2⟩
end
structure It where
 go:Nat->Hp->Prop
 pq:Nat->Hp->V->Hp->Prop
 stop:Nat->Hp->Prop
noncomputable def cH(X:Cx)(pins:List (Addr × Obj))(H:Hp)(b:Addr):Prop :=
 H b=none/\b≠X.env.locals/\b∉X.fs/\(b∈X.ex\/X.s₀.heap.objs.size<=b)/\(∀x c,X.env.cells.lookup x=some c->c≠b)/\∀p∈X.pn++pins,p.1≠b
theorem Inv.lR(I:Inv X pins σ H s)(hb:s.heap.objs.size<=b)(hn:H' b=none):cH X pins H' b:=by
 refine⟨hn,Nat.ne_of_gt (Nat.lt_of_lt_of_le I.lt hb),I.aaZ hb,.inr (Nat.le_trans I.sz hb),λx c e z=>?_,λp hp z=>?_⟩
 .obtain⟨v,q⟩:=I.cell x c e
  exact absurd (Nat.lt_of_lt_of_le q.lt (by rw[z]; exact hb)) (Nat.lt_irrefl _)
 .exact absurd (Nat.lt_of_lt_of_le (Heap.lt_size (I.pin p hp).1) (by rw[z]; exact hb)) (Nat.lt_irrefl _)
structure Turn(P:Program)(w:World)(K:PySem.W.Frag)(tg:Expr)(J:It)(fp:List Addr)(it:Addr)(tn:Nat->Heap->Prop):Prop where
 mem:it∈fp
 obj:∀i h,tn i h->∀b∈fp,∃o,h.get? b=some o/\∀v,o.data ≠ .cell v
 keep:∀i h h',tn i h->(∀b∈fp,∀o,h.get? b=some o->h'.get? b=some o)->tn i h'
 item:∀(X:Cx),X.prog=P->X.w=w->X.K=K->X.calm=true->∀(i:Nat) (pins:List (Addr × Obj)) (s:Shared) (σ : St) (H:Hp) (E:Value->Shared->Prop),Inv X pins σ H s->(∀b∈fp,cH X pins H b)->tn i s.heap->J.go i H ->
  wpAny (model P w) X.A (pyNext (.ref it)) (λr s1=>∃u,r=some u /\
   wpAny (model P w) X.A (letOwnedTupleGo tg (.ref it) u) (λ_ s2=>∃x H',Inv X pins σ H' s2/\RelV x u/\J.pq i H x H'/\tn (i+1) s2.heap/\∀b∈fp,H' b=none) E s1) E s
 done:∀(X:Cx),X.prog=P->X.w=w->X.K=K->X.calm=true->∀(i:Nat) (pins:List (Addr × Obj)) (s:Shared) (σ : St) (H:Hp) (E:Value->Shared->Prop),Inv X pins σ H s->(∀b∈fp,cH X pins H b)->tn i s.heap->J.stop i H ->
  wpAny (model P w) X.A (pyNext (.ref it)) (λr s1=>r=none/\Inv X pins σ H s1) E s
 self:∀(A:Around) (i:Nat) (s:Shared) (Q:Value->Shared->Prop) (E:Value->Shared->Prop),tn i s.heap->Q (.ref it) s->wpAny (model P w) A (pyIter (.ref it)) Q E s
noncomputable abbrev TI:=St->Hp->(It->Hp->Prop)->Prop
noncomputable def PIE(X:Cx)(pins:List (Addr × Obj))(σ : St)(tg:Expr)(R:It->Hp->Prop)(itv:Value)(s2:Shared):Prop :=
 ∃(it:Addr) (fp:List Addr) (tn:Nat->Heap->Prop) (J:It) (H':Hp),itv=.ref it/\Inv X pins σ H' s2/\Turn X.prog X.w X.K tg J fp it tn/\tn 0 s2.heap/\(∀b∈fp,cH X pins H' b)/\R J H'
noncomputable def PI(X:Cx)(tg iter:Expr)(wi:TI):Prop :=
 ∀(pins:List (Addr × Obj)) (s:Shared) (σ : St) (H:Hp) (R:It->Hp->Prop),Inv X pins σ H s->wi σ H R ->
  wpAny (model X.prog X.w) X.A (eval iter X.env) (λv s1=>wpAny (model X.prog X.w) X.A (pyIter v) (PIE X pins σ tg R) X.xe s1) X.xe s
theorem Ds(ho:s.heap.get? it=some o)(hc:o.cls=.type n)(hd:o.data=.fields vs)
    (hn : ["enumerate", "zip", "dict_itemiterator", "dict_reverseitemiterator", "odict_iterator", "itertools.zip_longest", "itertools.pairwise"].contains n=false) (hQ:Q () s):wpAny M A (letOwnedTupleGo tg (.ref it) u) Q E s:=by
  unfold letOwnedTupleGo
  cases tg <;> first
    |exact wpAny_pure hQ
    | (cases u <;> first
        |exact wpAny_pure hQ
        | (refine wpAny_bind (wpAny_load ho ?_)
           rw[hc,hd]
           show wpAny M A (if(["enumerate", "zip", "dict_itemiterator", "dict_reverseitemiterator", "odict_iterator", "itertools.zip_longest", "itertools.pairwise"].contains n&&vs[0]? == some (rawInt _))=true then _ else _) Q E s
           rw[if_neg (by intro h; rw[hn,Bool.false_and]at h; cases h)]
           exact wpAny_pure hQ))
noncomputable def Dt(K:PySem.W.Frag)(a:Addr):It :=
 ⟨λi H=>∃xs x,aL K H a xs/\xs[i]?=some x,λi H x H'=>H'=H/\∀xs,aL K H a xs->xs[i]?=some x,λi H=>∃xs,aL K H a xs/\xs.length<=i⟩
noncomputable def Du(K:PySem.W.Frag)(a:Addr):It :=
 ⟨λi H=>∃xs x,aX K H a xs/\xs[i]?=some x,λi H x H'=>H'=H/\∀xs,aX K H a xs->xs[i]?=some x,λi H=>∃xs,aX K H a xs/\xs.length<=i⟩
noncomputable def xZ(lo:Int)(n:Nat):It:=⟨λi _=>i<n,λi H x H'=>H'=H/\x=.int (lo+i),λi _=>n<=i⟩
theorem abx{P:Program}{w:World}{K:PySem.W.Frag}{tg:Expr}(a it:Addr):Turn P w K tg (Dt K a) [it] it (λi h=>h.IsListIter it a i) where
 mem:=by simp
 obj:=λi h st b hb=>by
  have e:b=it:=by simpa using hb
  subst e
  obtain⟨o,e,c,d⟩:=st
  exact⟨o,e,λv z=>by rw[d]at z; cases z⟩
 keep:=λi h h' st k=>st.at λo e=>k it (by simp) o e
 item:=by
  intro X hP hw hK hc i pins s σ H E I hf st hg
  subst hP hw hK
  obtain⟨xs,x,hq,hx⟩:=hg
  obtain⟨its,rv,p,hz⟩:=I.list hq
  obtain⟨u,hu,ru⟩:=rv.get hx
  obtain⟨f0,f1,f2,f3,f4,f5⟩:=hf it (by simp)
  refine wpAny_pyNext_list_item st p.isList (x:=u) (by simpa using hu) λh' st' sb=>?_
  have I1:Inv X pins σ H {s with heap:=h' }:=I.turned (t':=s.toks) (λb o hb e=>(sb.2 b hb).trans e) f0 f1 f3 f4 f5
  obtain⟨o,e,c,d⟩:=id st'
  exact⟨u,rfl,Ds (s:={s with heap:=h' }) e c d (by decide) ⟨x,H,I1,ru,⟨rfl,λys hy=>by rw[I.xU hy hq]; exact hx⟩,st',λb hb=>(hf b hb).1⟩⟩
 done:=by
  intro X hP hw hK hc i pins s σ H E I hf st hg
  subst hP hw hK
  obtain⟨xs,hq,hx⟩:=hg
  obtain⟨its,rv,p,hz⟩:=I.list hq
  obtain⟨f0,f1,f2,f3,f4,f5⟩:=hf it (by simp)
  have hl:=rv.length
  exact wpAny_pyNext_list_end (I.ok.hd hc) st p.isList (by simp; lia) λh' eb=>⟨rfl,I.turned (t':=s.toks) (λb o hb e=>eb b o hb e) f0 f1 f3 f4 f5⟩
 self:=λ_ _ _ _ _ st h=>wpAny_pyIter_listiter st h
theorem aby{P:Program}{w:World}{K:PySem.W.Frag}{tg:Expr}(a it:Addr):Turn P w K tg (Du K a) [it] it (λi h=>h.IsTupleIter it a i) where
 mem:=by simp
 obj:=λi h st b hb=>by
  have e:b=it:=by simpa using hb
  subst e
  obtain⟨o,e,c,d⟩:=st
  exact⟨o,e,λv z=>by rw[d]at z; cases z⟩
 keep:=λi h h' st k=>st.at λo e=>k it (by simp) o e
 item:=by
  intro X hP hw hK hc i pins s σ H E I hf st hg
  subst hP hw hK
  obtain⟨xs,x,hq,hx⟩:=hg
  obtain⟨its,rv,p,hz⟩:=I.tuple hq
  obtain⟨u,hu,ru⟩:=rv.get hx
  obtain⟨f0,f1,f2,f3,f4,f5⟩:=hf it (by simp)
  refine wpAny_pyNext_tuple_item st (show s.heap.IsTuple a its.toArray from p) (x:=u) (by simpa using hu) λh' st' sb=>?_
  have I1:Inv X pins σ H {s with heap:=h' }:=I.turned (t':=s.toks) (λb o hb e=>(sb.2 b hb).trans e) f0 f1 f3 f4 f5
  obtain⟨o,e,c,d⟩:=id st'
  exact⟨u,rfl,Ds (s:={s with heap:=h' }) e c d (by decide) ⟨x,H,I1,ru,⟨rfl,λys hy=>by rw[I.Ni hy hq]; exact hx⟩,st',λb hb=>(hf b hb).1⟩⟩
 done:=by
  intro X hP hw hK hc i pins s σ H E I hf st hg
  subst hP hw hK
  obtain⟨xs,hq,hx⟩:=hg
  obtain⟨its,rv,p,hz⟩:=I.tuple hq
  obtain⟨f0,f1,f2,f3,f4,f5⟩:=hf it (by simp)
  have hl:=rv.length
  exact wpAny_pyNext_tuple_end (I.ok.hd hc) st (show s.heap.IsTuple a its.toArray from p) (by simp; lia) λh' eb=>⟨rfl,I.turned (t':=s.toks) (λb o hb e=>eb b o hb e) f0 f1 f3 f4 f5⟩
 self:=λ_ _ _ _ _ st h=>wpAny_pyIter_tupleiter st h
theorem abz{P:Program}{w:World}{K:PySem.W.Frag}{tg:Expr}(it:Addr)(lo:Int)(n:Nat):Turn P w K tg (xZ lo n) [it] it (λi h=>IsRangeIter h it (lo+(i:Nat)*1) ((n:Int)-(i:Nat)) 1) where
 mem:=by simp
 obj:=λi h st b hb=>by
  have e:b=it:=by simpa using hb
  subst e
  exact⟨_,st,λv z=>by
   have z':Data.fields _=Data.cell v:=z
   cases z'⟩
 keep:=λi h h' st k=>k it (by simp) _ st
 item:=by
  intro X hP hw hK hc i pins s σ H E I hf st hg
  subst hP hw hK
  obtain⟨f0,f1,f2,f3,f4,f5⟩:=hf it (by simp)
  have W:=Walks.range (prog:=X.prog) (w:=X.w) (I.ok.hd hc) it lo 1 n
  refine W.item i s _ _ hg st λv h' tk hv st' kk=>?_
  obtain⟨t,rfl⟩:=hv
  have I1:Inv X pins σ H {s with heap:=h',toks:=tk }:=I.turned (λb o hb e=>kk b o (by simpa using hb) e) f0 f1 f3 f4 f5
  refine⟨_,rfl,Ds (s:={s with heap:=h',toks:=tk }) (n := "range_iterator") st' rfl rfl (by decide) ⟨.int (lo+i),H,I1,⟨t,?_⟩,⟨rfl,rfl⟩,st',λb hb=>(hf b hb).1⟩⟩
  rw[Int.mul_one]
 done:=by
  intro X hP hw hK hc i pins s σ H E I hf st hg
  subst hP hw hK
  obtain⟨f0,f1,f2,f3,f4,f5⟩:=hf it (by simp)
  exact wpAny_pyNext_range_end (I.ok.hd hc) st (by have:n<=i:=hg; lia) λh' eb=>⟨rfl,I.turned (t':=s.toks) (λb o hb e=>eb b o hb e) f0 f1 f3 f4 f5⟩
 self:=λ_ _ _ _ _ st h=>wpAny_pyIter_rangeiter st h
section
variable {X:Cx}{tg:Expr}
noncomputable def Nq(K:PySem.W.Frag)(tl:TE):TI:=λσ H R=>tl σ H λx H1=>∃a,x=.ref a/\(∃xs,aL K H1 a xs)/\R (Dt K a) H1
noncomputable def Nr(K:PySem.W.Frag)(tl:TE):TI:=λσ H R=>tl σ H λx H1=>∃a,x=.ref a/\(∃xs,aX K H1 a xs)/\R (Du K a) H1
theorem abA{l:Expr}{tl:TE}(hl:PE X l tl):PI X tg l (Nq X.K tl):=by
 intro pins s σ H R I h
 refine aF (hl pins s σ H _ I h) λv s1 ⟨x,H1,I1,r1,q1⟩=>?_
 obtain⟨a,e,⟨xs,hq⟩,q⟩:=q1
 subst e
 cases r1
 obtain⟨its,rv,p,hz⟩:=I1.list hq
 refine wpAny_pyIter_list p.isList ?_
 refine⟨s1.heap.objs.size,[s1.heap.objs.size],_,_,H1,rfl,I1.kept (t':=s1.toks) λb o e=>Heap.get?_push_of_some _ e,abx a _,⟨_,Heap.get?_push_size _ rfl,rfl,rfl⟩,λb hb=>?_,q⟩
 have e:b=s1.heap.objs.size:=by simpa using hb
 subst e
 exact I1.lR (Nat.le_refl _) (I1.hok.fresh (Nat.le_refl _))
theorem abB{l:Expr}{tl:TE}(hl:PE X l tl):PI X tg l (Nr X.K tl):=by
 intro pins s σ H R I h
 refine aF (hl pins s σ H _ I h) λv s1 ⟨x,H1,I1,r1,q1⟩=>?_
 obtain⟨a,e,⟨xs,hq⟩,q⟩:=q1
 subst e
 cases r1
 obtain⟨its,rv,p,hz⟩:=I1.tuple hq
 refine wpAny_pyIter_tuple (show s1.heap.IsTuple a its.toArray from p) ?_
 refine⟨s1.heap.objs.size,[s1.heap.objs.size],_,_,H1,rfl,I1.kept (t':=s1.toks) λb o e=>Heap.get?_push_of_some _ e,aby a _,⟨_,Heap.get?_push_size _ rfl,rfl,rfl⟩,λb hb=>?_,q⟩
 have e:b=s1.heap.objs.size:=by simpa using hb
 subst e
 exact I1.lR (Nat.le_refl _) (I1.hok.fresh (Nat.le_refl _))
theorem abC{pins:List (Addr × Obj)}{σ : St}{H:Hp}{s:Shared}{R:It->Hp->Prop}{E:Value->Shared->Prop}{lo hi:Int}{t u v:Tok}{tk:Nat}(I:Inv X pins σ H s)(h1 : -(2 ^ 62)<=lo)(h2:lo<2 ^ 62)(h3 : -(2 ^ 62)<=hi)(h4:hi<2 ^ 62)
  (q:R (xZ lo (hi-lo).toNat) H):wpAny (model X.prog X.w) X.A (pyIter (.ref s.heap.objs.size)) (PIE X pins σ tg R) E {s with heap:=s.heap.push {cls:=.type "range",data:=.fields #[.int lo t,.int hi u,.int 1 v] },toks:=tk }:=by
 refine wpAny_pyIter_range (IsRange.new ..) (small_one h1 h2 h3 h4) ?_
 have I1:Inv X pins σ H {s with heap:=s.heap.push {cls:=.type "range",data:=.fields #[.int lo t,.int hi u,.int 1 v] },toks:=tk }:=I.kept λb o e=>Heap.get?_push_of_some _ e
 refine⟨(s.heap.push {cls:=.type "range",data:=.fields #[.int lo t,.int hi u,.int 1 v] }).objs.size,[(s.heap.push {cls:=.type "range",data:=.fields #[.int lo t,.int hi u,.int 1 v] }).objs.size],_,_,H,rfl,
  I1.kept (t':=tk) λb o e=>Heap.get?_push_of_some _ e,abz _ lo (hi-lo).toNat,?_,λb hb=>?_,q⟩
 .have e1:lo+((0:Nat):Int)*1=lo:=by simp
  have e2:(((hi-lo).toNat:Nat):Int)-((0:Nat):Int)=Builtin.Range.rangeSize lo hi 1:=by rw[rangeSize_one]; split <;> lia
  show IsRangeIter _ _ (lo+((0:Nat):Int)*1) ((((hi-lo).toNat:Nat):Int)-((0:Nat):Int)) 1
  rw[e1,e2]
  exact Heap.get?_push_size _ rfl
 .have e:b=(s.heap.push {cls:=.type "range",data:=.fields #[.int lo t,.int hi u,.int 1 v] }).objs.size:=by simpa using hb
  subst e
  exact I1.lR (Nat.le_refl _) (I1.hok.fresh (Nat.le_refl _))
noncomputable def abD(ta:TA):TI:=λσ H R=>ta σ H λvs H1=>∃j:Int,vs=[.int j] /\ -(2 ^ 62)<=j/\j<2 ^ 62/\R (xZ 0 j.toNat) H1
theorem abE{a:Expr}{ta:TA}{p pos:Pos}(hg:Gl X "range") (hm:X.mg "range" = none) (ha:PA X [a] ta) (hs:starEach [a] X.env=[(false,eval a X.env)]:=by rfl):PI X tg (.Call (.Name "range" p) [a] [] pos) (abD ta):=by
 intro pins s σ H R I h
 refine Call_ (o7 I hg hm boot_range (PyProof.Rows.callWith_type1 (aF (ha pos pins s σ H _ I h) λus s1 ⟨vs,H1,I1,r1,q1⟩=>?_) hs rfl))
 obtain⟨j,e,q1,q2,q⟩:=q1
 subst e
 cases r1 with
 |cons r rr =>
  cases rr
  obtain⟨t,rfl⟩:=r
  exact call_range_1 (abC I1 (by lia) (by lia) q1 q2 (by simpa using q))
noncomputable def abF(wi:TI)(g:TG)(tb:TS):TS:=λD σ H=>wi σ H λJ H1=>∃W:Nat->Nat->St->Hp->Prop,(∃m,W 0 m σ H1)/\∀i m σ H,W i m σ H ->
 (J.stop i H/\D.nx σ H)\/(J.go i H/\∃N:St->Hp->Prop,(∀σ' H',N σ' H'->∃m',m'<m/\W (i+1) m' σ' H')/\∀x H',J.pq i H x H'->g x σ H' λσ2 H2=>tb {D with nx:=N,ct:=N,bk:=D.nx } σ2 H2)
noncomputable def yd(fp:List Addr)(h:Heap):List (Addr × Obj):=fp.filterMap λb=>(h.get? b).map λo=>(b,o)
theorem qZ(hb:b∈fp)(e:h.get? b=some o):(b,o)∈yd fp h:=List.mem_filterMap.mpr ⟨b,hb,by rw[e]; rfl⟩
theorem abG(hp:p∈yd fp h):p.1∈fp/\h.get? p.1=some p.2:=by
 obtain⟨b,hb,e⟩:=List.mem_filterMap.mp hp
 cases q:h.get? b with
 |none=>rw[q]at e; cases e
 |some o =>
  rw[q]at e
  have e':(b,o)=p:=Option.some.inj e
  subst e'
  exact⟨hb,q⟩
theorem Inv.pinned(I:Inv X pins σ H s)(hf:∀b∈fp,cH X pins H b)(ho:∀b∈fp,∃o,s.heap.get? b=some o/\∀v,o.data ≠ .cell v):Inv X (pins++yd fp s.heap) σ H s :=
 I.xO λp hp=>(List.mem_append.mp hp).elim (λz=>I.pin p (List.mem_append_right _ z)) λz=>by
  obtain⟨hb,e⟩:=abG z
  obtain⟨f0,f1,f2,_⟩:=hf p.1 hb
  obtain⟨o,e',d⟩:=ho p.1 hb
  rw[e]at e'; cases e'
  exact⟨e,f0,f1,f2,d⟩
theorem Inv.uy(I:Inv X (pins++pl) σ H s):Inv X pins σ H s:=I.xO λp hp=>I.pin p (List.mem_append_right _ (List.mem_append_left _ hp))
theorem abH(hp:PassesOwn (model X.prog X.w) X.A X.env X.xe)(hc:X.calm=true)(hi:PI X tg iter wi)(hg:PG X tg g)(hb:cX X body tb)
  (hs:∀x,foldedSetIterable iter X.env x=pure x:=by intro _; rfl):PS X (.For tg iter body [] pos) (abF wi g tb):=by
 refine⟨λpins s σ H D I h=>?_⟩
 refine wpAny_For (aF (hi pins s σ H _ I h) λv s1 h1=>aF h1 λitv s2 h2=>?_) hs
 obtain⟨it,fp,tn,J,H2,e,I2,T,st2,f2,W,⟨m0,w0⟩,turn⟩:=h2
 subst e
 -- what stays true of the iterator's objects through the loop
 have stat:∀{H':Hp},(∀b∈fp,H' b=none)->∀b∈fp,cH X pins H' b:=λhn b hb=>⟨hn b hb,(f2 b hb).2⟩
 refine codeAny_forLoop_any (λn s'=>∃i σ' H',Inv X pins σ' H' s'/\tn i s'.heap/\(∀b∈fp,H' b=none)/\W i n σ' H') ?_ m0 ⟨0,σ,H2,I2,st2,λb hb=>(f2 b hb).1,w0⟩
 rintro n s3 ⟨i,σ3,H3,I3,st3,Nt,w3⟩
 rcases turn i n σ3 H3 w3 with⟨stop,qn⟩|⟨go,N,hN,step⟩
 .refine wpAny_passesOwn hp (aF (T.done X rfl rfl rfl hc i pins s3 σ3 H3 X.xe I3 (stat Nt) st3 stop) λr s4 ⟨hr,I4⟩=>?_)
  subst hr
  exact wpAny_execs_nil ⟨σ3,H3,I4,qn⟩
 .refine wpAny_passesOwn hp (aF (T.item X rfl rfl rfl hc i pins s3 σ3 H3 X.xe I3 (stat Nt) st3 go) λr s4 ⟨u,hr,h4⟩=>?_)
  subst hr
  refine wpAny_passesOwn hp (aF h4 λ_ s5 ⟨x,H5,I5,r5,y5,mY,yg⟩=>?_)
  have I5':=I5.pinned (stat yg) (T.obj _ _ mY)
  refine wpAny_passesOwn hp (aF (hg _ s5 σ3 H5 x u _ I5' r5 (step x H5 y5)) λ_ s6 ⟨σ6,H6,I6,q6⟩=>?_)
  refine wpAny_passesOwn hp (aF (hb _ s6 σ6 H6 _ I6 q6) λf s7 q7=>?_)
  have again:∀{σ7:St} {H7:Hp},Inv X (pins++yd fp s5.heap) σ7 H7 s7->N σ7 H7->∃m,m<n/\∃i σ' H',Inv X pins σ' H' s7/\tn i s7.heap/\(∀b∈fp,H' b=none)/\W i m σ' H':=λ{σ7 H7} I7 n7=>by
   obtain⟨m',hm,w7⟩:=hN σ7 H7 n7
   refine⟨m',hm,i+1,σ7,H7,I7.uy,T.keep _ _ _ mY λb hb o e=>(I7.pin (b,o) (List.mem_append_right _ (List.mem_append_right _ (qZ hb e)))).1,λb hb=>?_,w7⟩
   obtain⟨o,e,d⟩:=T.obj _ _ mY b hb
   exact(I7.pin (b,o) (List.mem_append_right _ (List.mem_append_right _ (qZ hb e)))).2.1
  cases f with
  |next=>obtain⟨σ7,H7,I7,n7⟩:=q7; exact again I7 n7
  |cont=>obtain⟨σ7,H7,I7,n7⟩:=q7; exact again I7 n7
  |brk=>obtain⟨σ7,H7,I7,q7⟩:=q7; exact⟨σ7,H7,I7.uy,q7⟩
  |ret v=>obtain⟨x7,σ7,H7,I7,r7,q7⟩:=q7; exact⟨x7,σ7,H7,I7.uy,r7,q7⟩
end
noncomputable abbrev R2:=V->V->Hp->VK->Prop
noncomputable def bw(X:Cx)(f:Value->Value->Sem Value)(r:R2):Prop :=
 ∀(pins:List (Addr × Obj)) (s:Shared) (σ : St) (H:Hp) (x y:V) (v u:Value) (Q:VK),Inv X pins σ H s->RelV x v->RelV y u->r x y H Q ->
  wpAny (model X.prog X.w) X.A (f v u) (EP X pins σ Q) X.xe s
noncomputable def Dv(X:Cx)(f:Value->Sem Value)(r:V->Hp->VK->Prop):Prop :=
 ∀(pins:List (Addr × Obj)) (s:Shared) (σ : St) (H:Hp) (x:V) (v:Value) (Q:VK),Inv X pins σ H s->RelV x v->r x H Q ->
  wpAny (model X.prog X.w) X.A (f v) (EP X pins σ Q) X.xe s
noncomputable def eV(X:Cx)(f:Value)(r:List V->Hp->VK->Prop):Prop :=
 ∀(pins:List (Addr × Obj)) (s:Shared) (σ : St) (H:Hp) (xs:List V) (us:List Value) (Q:VK),Inv X pins σ H s->Vals xs us->r xs H Q ->
  wpAny (model X.prog X.w) X.A (call f us) (EP X pins σ Q) X.xe s
noncomputable def abI(X:Cx)(r:V->Hp->(Bool->Hp->Prop)->Prop):Prop :=
 ∀(pins:List (Addr × Obj)) (s:Shared) (σ : St) (H:Hp) (x:V) (v:Value) (Q:Bool->Hp->Prop),Inv X pins σ H s->RelV x v->r x H Q ->
  wpAny (model X.prog X.w) X.A (truthy v) (TP X pins σ Q) X.xe s
noncomputable def uz(r:R2)(ta tb:TE):TE:=λσ H Q=>ta σ H λx H1=>tb σ H1 λy H2=>r x y H2 Q
noncomputable def Nu(r:V->Hp->VK->Prop)(ta:TE):TE:=λσ H Q=>ta σ H λx H1=>r x H1 Q
noncomputable def rI(C:Int->Int->Prop)(g:Int->Int->V):R2:=λx y H Q=>∃i j,x=.int i/\y=.int j/\C i j/\Q (g i j) H
noncomputable def eG(g:Int->Int->V):R2:=λx y H Q=>∃i j,x=.int i/\y=.int j/\Q (g i j) H
noncomputable def rU(g:Int->V):V->Hp->VK->Prop:=λx H Q=>∃i,x=.int i/\Q (g i) H
section
variable {X:Cx}{a b c:Expr}{ta tb tc:TE}{pos:Pos}
theorem Dw(ha:PE X a ta)(hb:PE X b tb){pins:List (Addr × Obj)}{s:Shared}{σ : St}{H:Hp}{R:V->V->Hp->Prop}(I:Inv X pins σ H s)
  (h:ta σ H λx H1=>tb σ H1 λy H2=>R x y H2) {Q:Value->Shared->Prop} {f:Value->Value->Sem Value}
  (hf:∀v u s2 x y H2,Inv X pins σ H2 s2->RelV x v->RelV y u->R x y H2->wpAny (model X.prog X.w) X.A (f v u) Q X.xe s2) :
  wpAny (model X.prog X.w) X.A (eval a X.env) (λv s₁=>wpAny (model X.prog X.w) X.A (eval b X.env) (λu s₂=>wpAny (model X.prog X.w) X.A (f v u) Q X.xe s₂) X.xe s₁) X.xe s:=by
 refine aF (ha pins s σ H _ I h) λv s1 ⟨x,H1,I1,r1,q1⟩=>?_
 refine aF (hb pins s1 σ H1 _ I1 q1) λu s2 ⟨y,H2,I2,r2,q2⟩=>?_
 exact hf v u s2 x y H2 I2 r1 r2 q2
theorem yh{op:Operator}{r:R2}(ho:bw X (binaryOp op) r)(ha:PE X a ta)(hb:PE X b tb):PE X (.BinOp a op b pos) (uz r ta tb):=by
 refine⟨λpins s σ H Q I h=>?_⟩
 exact wpAny_BinOp (Dw ha hb I h λv u s2 x y H2 I2 rx ry q=>ho pins s2 σ H2 x y v u Q I2 rx ry q)
theorem Dy(ho:Dv X (unaryOp op) r)(ha:PE X a ta):PE X (.UnaryOp op a pos) (Nu r ta):=by
 refine⟨λpins s σ H Q I h=>?_⟩
 exact UnaryOp_ (aF (ha pins s σ H _ I h) λv s1 ⟨x,H1,I1,r1,q1⟩=>ho pins s1 σ H1 x v Q I1 r1 q1)
theorem yj{f:Value->Value->Sem Value}{C:Int->Int->Prop}{g:Int->Int->Int}
  (rule:∀(i j:Int) (t u:Tok) (s:Shared) (Q:Value->Shared->Prop) (E:Value->Shared->Prop),C i j->Q (.int (g i j) s.toks) {s with toks:=s.toks+1 }->wpAny (model X.prog X.w) X.A (f (.int i t) (.int j u)) Q E s) :
  bw X f (rI C λi j=>.int (g i j)):=by
 intro pins s σ H x y v u Q I rx ry h
 obtain⟨i,j,rfl,rfl,hc,q⟩:=h
 obtain⟨t,rfl⟩:=rx
 obtain⟨t',rfl⟩:=ry
 exact rule i j t t' s _ _ hc ⟨.int (g i j),H,I.tok _,⟨_,rfl⟩,q⟩
theorem Nv{f:Value->Value->Sem Value}{g:Int->Int->Int}
  (rule:∀(i j:Int) (t u:Tok) (s:Shared) (Q:Value->Shared->Prop) (E:Value->Shared->Prop),Q (.int (g i j) s.toks) {s with toks:=s.toks+1 }->wpAny (model X.prog X.w) X.A (f (.int i t) (.int j u)) Q E s) :
  bw X f (eG λi j=>.int (g i j)):=by
 intro pins s σ H x y v u Q I rx ry h
 obtain⟨i,j,rfl,rfl,q⟩:=h
 obtain⟨t,rfl⟩:=rx
 obtain⟨t',rfl⟩:=ry
 exact rule i j t t' s _ _ ⟨.int (g i j),H,I.tok _,⟨_,rfl⟩,q⟩
theorem yp{f:Value->Value->Sem Value}{g:Int->Int->Bool}
  (rule:∀(i j:Int) (t u:Tok) (s:Shared) (Q:Value->Shared->Prop) (E:Value->Shared->Prop),Q (.bool (g i j)) s->wpAny (model X.prog X.w) X.A (f (.int i t) (.int j u)) Q E s) :
  bw X f (eG λi j=>.bl (g i j)):=by
 intro pins s σ H x y v u Q I rx ry h
 obtain⟨i,j,rfl,rfl,q⟩:=h
 obtain⟨t,rfl⟩:=rx
 obtain⟨t',rfl⟩:=ry
 exact rule i j t t' s _ _ ⟨.bl (g i j),H,I,rfl,q⟩
noncomputable def yq(i j:Int):Prop:=0<=j/\j<=1000000/\i.natAbs<2 ^ 64
noncomputable def Nx(i j:Int):Prop:=(-(2 ^ 64)<i/\i<2 ^ 64)\/(-(2 ^ 64)<j/\j<2 ^ 64)
theorem Nx.ok{i j:Int}(h:Nx i j):IntMulOk i j:=by
 rcases h with⟨h1,h2⟩|⟨h1,h2⟩
 .exact .of_left (intBits_le_64 h1 h2)
 .exact .of_right (intBits_le_64 h1 h2)
theorem Ny:bw X (binaryOp .Add) (eG λi j=>.int (i+j)):=Nv λ_ _ _ _ _ _ _ q=>add_int q
theorem Nz:bw X (binaryOp .Sub) (eG λi j=>.int (i-j)):=Nv λ_ _ _ _ _ _ _ q=>sub_int q
theorem abJ:bw X (binaryOp .Mod) (rI (λ_ j=>j≠0) λi j=>.int (i.fmod j)):=yj λ_ _ _ _ _ _ _ hc q=>mod_int' hc q
theorem NK:bw X (binaryOp .Pow) (rI yq λi j=>.int (i ^ j.toNat)):=yj λ_ _ _ _ _ _ _ hc q=>pow_int_small hc.1 hc.2.1 hc.2.2 q
theorem unI{f:Value->Sem Value}{g:Int->Int}
  (rule:∀(i:Int) (t:Tok) (s:Shared) (Q:Value->Shared->Prop) (E:Value->Shared->Prop),Q (.int (g i) s.toks) {s with toks:=s.toks+1 }->wpAny (model X.prog X.w) X.A (f (.int i t)) Q E s) :
  Dv X f (rU λi=>.int (g i)):=by
 intro pins s σ H x v Q I rx h
 obtain⟨i,rfl,q⟩:=h
 obtain⟨t,rfl⟩:=rx
 exact rule i t s _ _ ⟨.int (g i),H,I.tok _,⟨_,rfl⟩,q⟩
theorem Dz:Dv X (unaryOp .USub) (rU λi=>.int (-i)):=unI λ_ _ _ _ _ q=>neg_int q
end
section
variable {X:Cx}{a b c:Expr}{ta tb tc:TE}{pos:Pos}
theorem NP(I:Inv X pins σ H s)(q:Q (.bl k) H)(e:k=k'):EP X pins σ Q (.bool k') s:=by
 subst e
 exact⟨.bl k,H,I,rfl,q⟩
theorem abK:bw X (compareOp .Lt) (eG λi j=>.bl (decide (i<j))):=yp λ_ _ _ _ _ _ _ q=>lt_int q
theorem abL:bw X (compareOp .LtE) (eG λi j=>.bl (decide (i<=j))):=yp λ_ _ _ _ _ _ _ q=>le_int q
theorem abM:bw X (compareOp .Gt) (eG λi j=>.bl (decide (j<i))):=yp λ_ _ _ _ _ _ _ q=>gt_int q
theorem abN:bw X (compareOp .GtE) (eG λi j=>.bl (decide (j<=i))):=yp λ_ _ _ _ _ _ _ q=>ge_int q
theorem abO:bw X (compareOp .Is) (λx y H Q=>y=.non/\Q (.bl (decide (x=.non))) H):=by
 intro pins s σ H x y v u Q I rx ry h
 obtain⟨rfl,q⟩:=h
 cases ry
 refine is_none_gen (NP I q ?_)
 cases x <;> first
  |(cases rx; rfl)
  |(obtain⟨t,rfl⟩:=rx; rfl)
theorem bw.or(h:bw X f r)(h':bw X f r'):bw X f (λx y H Q=>r x y H Q\/r' x y H Q):=by
 intro pins s σ H x y v u Q I rx ry q
 rcases q with q|q
 .exact h pins s σ H x y v u Q I rx ry q
 .exact h' pins s σ H x y v u Q I rx ry q
theorem abP{op:CmpOp}{r:R2}(ho:bw X (compareOp op) r)(ha:PE X a ta)(hb:PE X b tb)(hm:behindInMarks op b=false):PE X (.Compare a [op] [b] pos) (uz r ta tb):=by
 refine⟨λpins s σ H Q I h=>?_⟩
 exact wpAny_Compare1 (Dw ha hb I h λv u s2 x y H2 I2 rx ry q=>ho pins s2 σ H2 x y v u Q I2 rx ry q) hm
noncomputable def nq(t:TE):TT:=λσ H Q=>t σ H λx H'=>∃k,x=.bl k/\Q k H'
theorem abQ(ho:bw X (compareOp op) r)(ha:PE X a ta)(hb:PE X b tb)(hm:behindInMarks op b=false):PT X (.Compare a [op] [b] pos) (nq (uz r ta tb)):=by
 refine⟨λpins s σ H Q I h=>?_⟩
 refine wpAny_isTrue_Compare1 (aF (ha pins s σ H _ I h) λv s1 ⟨x,H1,I1,r1,q1⟩=>aF (hb pins s1 σ H1 _ I1 q1) λu s2 ⟨y,H2,I2,r2,q2⟩ =>
  aF (ho pins s2 σ H2 x y v u _ I2 r1 r2 q2) λc s3 ⟨z,H3,I3,r3,k,e,q3⟩=>?_) hm
 subst e
 cases r3
 exact wpAny_truthy_bool ⟨H3,I3,q3⟩
noncomputable def DG(r r':R2)(ta tb tc:TE):TE:=λσ H Q=>ta σ H λx H1=>tb σ H1 λy H2=>r x y H2 λz H3=>∃k,z=.bl k /\
 (if k=true then tc σ H3 λw' H4=>r' y w' H4 Q else Q (.bl false) H3)
theorem abR(ho:bw X (compareOp op) r)(ho':bw X (compareOp op') r')(ha:PE X a ta)(hb:PE X b tb)(hc:PE X c tc)
  (hm:lastMarks [op,op'] [b,c]=false:=by with_unfolding_all rfl):PE X (.Compare a [op,op'] [b,c] pos) (DG r r' ta tb tc):=by
 refine⟨λpins s σ H Q I h=>?_⟩
 refine Compare_chain (aF (ha pins s σ H _ I h) λv s1 ⟨x,H1,I1,r1,q1⟩=>chain_link (aF (hb pins s1 σ H1 _ I1 q1) λu s2 ⟨y,H2,I2,r2,q2⟩ =>
  aF (ho pins s2 σ H2 x y v u _ I2 r1 r2 q2) λd s3 ⟨z,H3,I3,r3,k,e,q3⟩=>?_)) hm
 subst e
 cases r3
 refine wpAny_truthy_bool ?_
 cases k with
 |false=>exact ite_ff ⟨.bl false,H3,I3,rfl,q3⟩
 |true=>exact ite_tt (chain_last (aF (hc pins s3 σ H3 _ I3 q3) λw' s4 ⟨z',H4,I4,r4,q4⟩=>ho' pins s4 σ H4 y z' u w' Q I4 r2 r4 q4))
theorem abS(ho:bw X (compareOp op) r)(ho':bw X (compareOp op') r')(ha:PE X a ta)(hb:PE X b tb)(hc:PE X c tc)
  (hm:lastMarks [op,op'] [b,c]=false:=by with_unfolding_all rfl):PT X (.Compare a [op,op'] [b,c] pos) (nq (DG r r' ta tb tc)):=by
 refine⟨λpins s σ H Q I h=>?_⟩
 refine isTrue_chain (aF (ha pins s σ H _ I h) λv s1 ⟨x,H1,I1,r1,q1⟩=>test_link (aF (hb pins s1 σ H1 _ I1 q1) λu s2 ⟨y,H2,I2,r2,q2⟩ =>
  aF (ho pins s2 σ H2 x y v u _ I2 r1 r2 q2) λd s3 ⟨z,H3,I3,r3,k,e,q3⟩=>?_)) hm
 subst e
 cases r3
 refine wpAny_truthy_bool ?_
 cases k with
 |false =>
  obtain⟨k',e',q'⟩:=q3
  cases e'
  exact ite_ff ⟨H3,I3,q'⟩
 |true =>
  refine ite_tt (test_last (aF (hc pins s3 σ H3 _ I3 q3) λw' s4 ⟨z',H4,I4,r4,q4⟩=>aF (ho' pins s4 σ H4 y z' u w' _ I4 r2 r4 q4) λd' s5 ⟨z2,H5,I5,r5,k2,e2,q5⟩=>?_))
  subst e2
  cases r5
  exact wpAny_truthy_bool ⟨H5,I5,q5⟩
noncomputable def DK(K:PySem.W.Frag)(x:V)(H:Hp)(k:Bool):Prop :=
 match x with
 |.non=>k=false
 |.bl b=>k=b
 |.int i=>k=(i != 0)
 |.str y=>y.length<=sizeLine/\k=((y.length:Int) != 0)
 |.qX y=>y.size<=sizeLine/\k=((y.size:Int) != 0)
 |.ref p=>(∃xs,aL K H p xs/\k = !xs.isEmpty)\/(∃xs,aX K H p xs/\k = !xs.isEmpty)
 |_=>False
theorem NQ{xs:List V}{its:List Value}(r:Vals xs its):(!its.toArray.isEmpty) = !xs.isEmpty:=by
 cases r <;> simp
theorem pA:(sizeLine:Nat)<2 ^ 63:=by rw[sizeLine_eq]; decide
theorem abT:abI X (λx H Q=>∃k,DK X.K x H k/\Q k H):=by
 intro pins s σ H x v Q I rx h
 obtain⟨k,e,q⟩:=h
 have hl:=pA
 have hs:sizeLine=16777216:=sizeLine_eq
 cases x with
 |non =>
  cases rx
  have e':k=false:=e
  subst e'
  exact truthy_none ⟨H,I,q⟩
 |bl b =>
  cases rx
  have e':k=b:=e
  subst e'
  exact wpAny_truthy_bool ⟨H,I,q⟩
 |int i =>
  obtain⟨t,rfl⟩:=rx
  have e':k=(i != 0):=e
  subst e'
  exact PySem.P.truthy_int ⟨H,I,q⟩
 |str y =>
  obtain⟨t,rfl⟩:=rx
  obtain⟨hy,e'⟩:y.length<=sizeLine/\k=((y.length:Int) != 0):=e
  subst e'
  exact PySem.P.truthy_str (by lia) ⟨H,I.tok _,q⟩
 |qX y =>
  obtain⟨t,rfl⟩:=rx
  obtain⟨hy,e'⟩:y.size<=sizeLine/\k=((y.size:Int) != 0):=e
  subst e'
  exact PySem.W.truthy_bytes (by lia) ⟨H,I.tok _,q⟩
 |ref p =>
  cases rx
  have e':(∃xs,aL X.K H p xs/\k = !xs.isEmpty)\/(∃xs,aX X.K H p xs/\k = !xs.isEmpty):=e
  rcases e' with⟨xs,hx,e'⟩|⟨xs,hx,e'⟩
  .subst e'
   obtain⟨its,r,pl,hz⟩:=I.list hx
   have hlen:=r.length
   exact wpAny_truthy_list pl.isList (by simp only[List.size_toArray]; lia) ⟨H,I.tok _,by rw[NQ r]; exact q⟩
  .subst e'
   obtain⟨its,r,pl,hz⟩:=I.tuple hx
   have hlen:=r.length
   exact truthy_tuple pl (by simp only[List.size_toArray]; lia) ⟨H,I.tok _,by rw[NQ r]; exact q⟩
 |_=>exact(show False from e).elim
theorem abU(ha:PE X a ta)(he:∀whole,isTrue a X.env whole=(do let v <-whole; standAt a.pos; holding [v] (truthy v))) :
  PT X a (λσ H Q=>ta σ H λx H'=>∃k,DK X.K x H' k/\Q k H'):=by
 refine⟨λpins s σ H Q I h=>?_⟩
 exact isTrue_plain (aF (ha pins s σ H _ I h) λv s1 ⟨x,H1,I1,r1,q1⟩=>abT pins s1 σ H1 x v Q I1 r1 q1) (he _)
theorem abV:bw X (binaryOp .Add) (λx y H Q=>∃i j,x=.str i/\y=.str j/\i.length+j.length<=sizeLine/\Q (.str (i++j)) H):=by
 intro pins s σ H x y v u Q I rx ry h
 obtain⟨i,j,rfl,rfl,hz,q⟩:=h
 obtain⟨t,rfl⟩:=rx
 obtain⟨t',rfl⟩:=ry
 exact add_str (λt' tk=>⟨.str (i++j),H,I.tok _,⟨_,rfl⟩,q⟩) hz
theorem vals1(r:Vals [x] us):∃u,us=[u]/\RelV x u:=by
 cases r with
 |cons r1 r2=>cases r2; exact⟨_,rfl,r1⟩
theorem vals2(r:Vals [x,y] us):∃u w',us=[u,w']/\RelV x u/\RelV y w':=by
 cases r with
 |cons r1 r2 =>
  cases r2 with
  |cons r3 r4=>cases r4; exact⟨_,_,rfl,r1,r3⟩
theorem abW:eV X (.builtin "abs") (λxs H Q=>∃i,xs=[.int i]/\Q (.int (if i<0 then -i else i)) H):=by
 intro pins s σ H xs us Q I r h
 obtain⟨i,rfl,q⟩:=h
 obtain⟨u,rfl,t,rfl⟩:=vals1 r
 exact call_abs_int λu tk=>⟨.int (if i<0 then -i else i),H,I.tok _,⟨_,rfl⟩,q⟩
theorem abX(hc:X.calm=true):eV X (.builtin "max") (λxs H Q=>∃i j,xs=[.int i,.int j]/\Q (.int (if j > i then j else i)) H):=by
 intro pins s σ H xs us Q I r h
 obtain⟨i,j,rfl,q⟩:=h
 obtain⟨u,w',rfl,⟨t,rfl⟩,⟨t',rfl⟩⟩:=vals2 r
 refine max_two_ints (I.ok.hd hc) λh' tk k=>⟨_,H,I.kept k,?_,q⟩
 by_cases hj:j > i
 .rw[if_pos hj,if_pos hj]; exact⟨_,rfl⟩
 .rw[if_neg hj,if_neg hj]; exact⟨_,rfl⟩
theorem abY(hc:X.calm=true):eV X (.builtin "min") (λxs H Q=>∃i j,xs=[.int i,.int j]/\Q (.int (if j<i then j else i)) H):=by
 intro pins s σ H xs us Q I r h
 obtain⟨i,j,rfl,q⟩:=h
 obtain⟨u,w',rfl,⟨t,rfl⟩,⟨t',rfl⟩⟩:=vals2 r
 refine min_two_ints (I.ok.hd hc) λh' tk k=>⟨_,H,I.kept k,?_,q⟩
 by_cases hj:j<i
 .rw[if_pos hj,if_pos hj]; exact⟨_,rfl⟩
 .rw[if_neg hj,if_neg hj]; exact⟨_,rfl⟩
end
structure pB(h:Heap)(x dx C:Addr)(mA:Str->Option Value):Prop where
 obj:h.get? x=some (PySem.W.instObj C dx)
 ns:h.Ns1 dx mA
 ne:dx≠x
theorem abZ{h:Heap}{dx:Addr}{mA:Str->Option Value}(n:h.Ns1 dx mA):∃od,h.get? dx=some od/\∀name,PySem.W.lookIn name od=some (mA name):=by
 obtain⟨o,es,ep,ho,hd,hk,_,hm⟩:=n
 refine⟨o,ho,λname=>?_⟩
 have e:=hm name
 unfold nsFind findBy at e
 rw[<-Array.find?_toList]at e
 unfold PySem.W.lookIn
 rw[hd]
 dsimp only
 split
 .rename_i y q
  rw[q]at e
  exact congrArg some e
 .rename_i q
  rw[q]at e
  have a:es.toList.any (·.refKey)=false:=by
   rw[List.any_eq_false]
   intro y hy
   obtain⟨z,t,hkey⟩:=hk y (Array.mem_toList_iff.mp hy)
   simp[DictEntry.refKey,hkey]
  have a':¬es.toList.any (·.refKey)=true:=by rw[a]; exact Bool.false_ne_true
  rw[if_neg a']
  exact congrArg some e
theorem pB.look(I:pB h x dx C mA):∃od,PySem.W.InstAt h x (PySem.W.instObj C dx) C (some od)/\∀name,PySem.W.lookIn name od=some (mA name) :=
 let⟨od,ho,hl⟩:=abZ I.ns
 ⟨od,⟨I.obj,rfl,rfl,ho⟩,hl⟩
section
variable {prog:Program}{w:World}{A:Around}{E:Value->Shared->Prop}{s:Shared}{K:PySem.W.Frag}{x dx C f:Addr}{mA:Str->Option Value}{name:Str}{v:Value}
theorem get_map(X:K.In s.heap)(I:pB s.heap x dx C mA)(hg:PySem.W.plainGet K C name=true)(hh:PySem.W.hasDictIn K C=true)
  (ha:PySem.W.findIn K (.ref C) name=some none) (hv:mA name=some v) (hv':PySem.W.handedIn v=true) (h:Q v {s with toks:=s.toks+1 }) :
  wpAny (model prog w) A (getAttr (.ref x) name expr) Q E s:=by
 obtain⟨od,J,hl⟩:=I.look
 exact PySem.W.get_value X J (PySem.W.plainGet_of hg).1 (PySem.W.findObj_own hh ha rfl (by rw[hl,hv])) hv' h
theorem ab0(X:K.In s.heap)(I:pB s.heap x dx C mA)(hg:PySem.W.plainGet K C name=true)
  (hf:PySem.W.findIn K (.ref C) name=some (some (.ref f))) (ht:PySem.W.isFn K (.ref f)=true) (hv:mA name=none) (h:Q (.ref f,[.ref x]) s) :
  wpAny (model prog w) A (getMethod (.ref x) name pl) Q E s:=by
 obtain⟨od,J,hl⟩:=I.look
 exact PySem.W.method_fn X J (PySem.W.plainGet_of hg).1 (PySem.W.plainGet_of hg).2 hf (beq_iff_eq.mp ht) (by show(PySem.W.lookIn name od).map (·.isSome)=some false; rw[hl,hv]; rfl) h
theorem ab1(X:K.In s.heap)(I:pB s.heap x dx C mA)
  (hs:PySem.W.findIn K (.ref C) "__setattr__" = some (some (.builtin "object.__setattr__"))) (hp:PySem.W.plainOver K C=true) (ht:PySem.W.takerIn K C name=some none) (hh:PySem.W.hasDictIn K C=true)
  (hw:PySem.Within mA ns) (hsz:ns.length<=sizeLine)
  (h:∀h',pB h' x dx C (λy=>if y=name then some v else mA y)->Heap.SameBut dx s.heap h'->Q () {s with heap:=h',toks:=s.toks+2 }) :
  wpAny (model prog w) A (setAttr (.ref x) name v) Q E s:=by
 obtain⟨od,J,hl⟩:=I.look
 refine PySem.W.set_plain X J hs (PySem.W.osa_open (s:={s with toks:=s.toks+1 }) (r:=none) X J hp ht λb=>?_)
 obtain⟨cd,hc,hd'⟩:=PySem.W.any_some hh
 have hx:s.heap.get? x=some ⟨.ref C,some dx,.plain,#[]⟩:=I.obj
 refine wpAny_bind (wpAny_pure (wpAny_bind (wpAny_bind (wpAny_loadPart hx (wpAny_bind (PySem.W.Looks.here (s:={s with toks:=s.toks+1 }) (PySem.W.looks_clsIn X hc) ?_))))))
 rw[hd']
 refine wpAny_pure (a:=some dx) (wpAny_bind (wpAny_pure (wpAny_bind ?_)))
 refine wpAny_nsSet1 (s:={s with toks:=s.toks+1 }) I.ns λh' hn2 hs2=>?_
 obtain⟨oD,esD,epD,hoD,hdD,hcD⟩:=hn2.count (PySem.Within.cons name v hw)
 refine wpAny_bind (wpAny_lookBehind hoD (by rw[hdD]; exact pastItsLine_dict (Nat.le_trans hcD (by rw[List.length_cons]; lia))) ?_)
 exact wpAny_pure (h _ ⟨(hs2.2 _ (Ne.symm I.ne)).trans I.obj,hn2,I.ne⟩ hs2)
theorem ab2(X:K.In s.heap)(hm:PySem.W.makesIn K C=true)
  (hi:PySem.W.findIn K (.ref C) "__init__" = some (some (.ref f))) (hf:PySem.W.typeIn K (.ref f)=some (.type "function"))
  (h:codeAny (model prog w) (A.under (.builtin "type.__call__" ⟨.ref C::vs,kw⟩)) (.call (.ref f) ⟨.ref (s.heap.objs.size+1)::vs,kw⟩) (PySem.W.InitBack (s.heap.objs.size+1) R)
   {s with heap:=(s.heap.push PySem.W.emptyDict).push (PySem.W.instObj C s.heap.objs.size) }) :
  codeAny (model prog w) A (.call (.ref C) ⟨vs,kw⟩) R s:=by
 obtain⟨hh,g,d,t,os⟩:=s
 exact PySem.W.make_core (PySem.W.makes_of X hm) (PySem.W.looks_findIn X hi) (λself=>PySem.W.bind_fn X self hf) (.inl rfl) h
end
noncomputable def dh(f:Str)(v:V):List (Str × V)->List (Str × V)
 | []=>[(f,v)]
 |(g,x)::r=>if g=f then(g,v)::r else(g,x)::dh f v r
theorem NT(f g:Str)(v:V):∀fs:List (Str × V),(dh f v fs).lookup g=if g=f then some v else fs.lookup g
 | []=>by
  show List.lookup g [(f,v)]=_
  by_cases h:g=f
  .have hb:(g == f)=true:=beq_iff_eq.mpr h
   simp only[List.lookup,hb,if_pos h]
  .have hb:(g == f)=false:=beq_eq_false_iff_ne.mpr h
   simp only[List.lookup,hb,if_neg h]
 |(k,x)::r=>by
  have ih:=NT f g v r
  rw[show dh f v ((k,x)::r)=(if k=f then(k,v)::r else(k,x)::dh f v r)from rfl]
  by_cases hk:k=f
  .rw[if_pos hk]
   by_cases h:g=k
   .have hb:(g == k)=true:=beq_iff_eq.mpr h
    simp only[List.lookup,hb,if_pos (h.trans hk)]
   .have hb:(g == k)=false:=beq_eq_false_iff_ne.mpr h
    simp only[List.lookup,hb,if_neg (λe:g=f=>h (e.trans hk.symm))]
  .rw[if_neg hk]
   by_cases h:g=k
   .have hb:(g == k)=true:=beq_iff_eq.mpr h
    simp only[List.lookup,hb,if_neg (λe:g=f=>hk (h.symm.trans e))]
   .have hb:(g == k)=false:=beq_eq_false_iff_ne.mpr h
    simp only[List.lookup,hb]
    exact ih
theorem DN(f:Str)(v:V):∀fs:List (Str × V),f∈(dh f v fs).map (·.1)/\∀g,g∈fs.map (·.1)->g∈(dh f v fs).map (·.1)
 | []=>⟨by simp[dh],λg h=>by simp at h⟩
 |(k,x)::r=>by
  obtain⟨i1,i2⟩:=DN f v r
  rw[show dh f v ((k,x)::r)=(if k=f then(k,v)::r else(k,x)::dh f v r)from rfl]
  by_cases hk:k=f
  .rw[if_pos hk]
   subst hk
   exact⟨by simp,λg h=>by simpa using h⟩
  .rw[if_neg hk]
   refine⟨?_,λg h=>?_⟩
   .rw[List.map_cons]
    exact List.mem_cons_of_mem _ i1
   .rw[List.map_cons]at h ⊢
    rcases List.mem_cons.mp h with e|e
    .exact List.mem_cons.mpr (.inl e)
    .exact List.mem_cons_of_mem _ (i2 g e)
theorem NZ(f:Str)(v:V):∀fs:List (Str × V),(dh f v fs).length<=fs.length+1
 | []=>by simp[dh]
 |(k,x)::r=>by
  have ih:=NZ f v r
  rw[show dh f v ((k,x)::r)=(if k=f then(k,v)::r else(k,x)::dh f v r)from rfl]
  by_cases hk:k=f
  .rw[if_pos hk,List.length_cons,List.length_cons]; lia
  .rw[if_neg hk,List.length_cons,List.length_cons]; lia
theorem lN.some_of(r:lN (some v) o):∃u,o=some u/\RelV v u:=by
 cases o with
 |none=>exact(show False from r).elim
 |some u=>exact⟨u,rfl,r⟩
theorem lN.none_of(r:lN none o):o=none:=by
 cases o with
 |none=>rfl
 |some u=>exact(show False from r).elim
theorem ab3(r:RelV v u):PySem.W.handedIn u=true:=by
 cases v with
 |non=>cases(show u=Value.none from r); rfl
 |bl b=>cases(show u=Value.bool b from r); rfl
 |int i=>obtain⟨t,e⟩:=(show ∃t,u=Value.int i t from r); cases e; rfl
 |str x=>obtain⟨t,e⟩:=(show ∃t,u=Value.str x t from r); cases e; rfl
 |qX b=>obtain⟨t,e⟩:=(show ∃t,u=Value.bytes b t from r); cases e; rfl
 |flt b=>obtain⟨t,e⟩:=(show ∃t,u=Value.float b t from r); cases e; rfl
 |ref a=>cases(show u=Value.ref a from r); rfl
 |ty n=>cases(show u=Value.type n from r); rfl
section
variable {P:Program}{w:World}{H H':Hp}{h h':Heap}{a C dx:Addr}{fs fs':List (Str × V)}
theorem DP(hok:bZ P w H h)(e:H a=some (.ins C dx fs)):∃mA,pB h a dx C mA/\(∀f,lN (fs.lookup f) (mA f))/\PySem.Within mA (fs.map (·.1))/\fs.length<=1000/\H dx=some (.own a):=by
 obtain⟨d,z,ne,ob,mA,n,r,q⟩:=(show fQ P w H h a (.ins C dx fs)from hok a _ e)
 exact⟨mA,⟨ob,n,ne⟩,r,q,z,d⟩
end
structure Cls(K:PySem.W.Frag)(C:Addr):Prop where
 pg:PySem.W.plainGet K C Str.empty=true
 hd:PySem.W.hasDictIn K C=true
 po:PySem.W.plainOver K C=true
 sa:PySem.W.findIn K (.ref C) "__setattr__" = some (some (.builtin "object.__setattr__"))
theorem Cls.get{K:PySem.W.Frag}{C:Addr}(c:Cls K C)(f:Str):PySem.W.plainGet K C f=true:=c.pg
noncomputable def nu(K:PySem.W.Frag)(C:Addr)(f:Str):Prop:=PySem.W.findIn K (.ref C) f=some none
theorem nu.taker{K:PySem.W.Frag}{C:Addr}{f:Str}(n:nu K C f):PySem.W.takerIn K C f=some none:=by
 unfold PySem.W.takerIn
 rw[show PySem.W.findIn K (.ref C) f=some none from n]
 rfl
structure Meth(K:PySem.W.Frag)(C:Addr)(m:Str)(f:Addr):Prop where
 at_:PySem.W.findIn K (.ref C) m=some (some (.ref f))
 fn:PySem.W.isFn K (.ref f)=true
 kp:PySem.W.keepIn K (.ref f)=true
section
variable {X:Cx}{pins:List (Addr × Obj)}{σ : St}{H:Hp}{s:Shared}{a C dx:Addr}{fs:List (Str × V)}{f:Str}{v:V}{A:Around}{E:Value->Shared->Prop}
theorem N5(I:Inv X pins σ H s)(e:H a=some (.ins C dx fs))(c:Cls X.K C)(n:nu X.K C f)(l:fs.lookup f=some v)
  (h:∀u s',Inv X pins σ H s'->RelV v u->Q u s'):wpAny (model X.prog X.w) A (getAttr (.ref a) f b) Q E s:=by
 obtain⟨mA,O,r,_,_,_⟩:=DP I.hok e
 obtain⟨u,hu,ru⟩:=lN.some_of (v:=v) (o:=mA f) (by rw[<-l]; exact r f)
 exact get_map I.dG O (c.get f) c.hd n hu (ab3 ru) (h u _ (I.tok _) ru)
theorem N6(I:Inv X pins σ H s)(e:H a=some (.ins C dx fs))(c:Cls X.K C)(k:Meth X.K C m g)(l:fs.lookup m=none)
  (h:Q (.ref g,[.ref a]) s):wpAny (model X.prog X.w) A (getMethod (.ref a) m pl) Q E s:=by
 obtain⟨mA,O,r,_,_,_⟩:=DP I.hok e
 have hn:mA m=none:=lN.none_of (by rw[<-l]; exact r m)
 exact ab0 I.dG O (c.get m) k.at_ k.fn hn h
theorem N7(I:Inv X pins σ H s)(e:H a=some (.ins C dx fs))(c:Cls X.K C)(n:nu X.K C f)(hl:fs.length<1000)(ry:RelV y u)
  (h:∀s',Inv X pins σ (upd H a (.ins C dx (dh f y fs))) s'->Q () s'):wpAny (model X.prog X.w) A (setAttr (.ref a) f u) Q E s:=by
 obtain⟨mA,O,r,wi,_,ho⟩:=DP I.hok e
 have hz:(fs.map (·.1)).length<=sizeLine:=by rw[List.length_map,sizeLine_eq]; lia
 refine ab1 I.dG O c.sa c.po n.taker c.hd wi hz λh' O' sb=>h _ ?_
 have hd:∃o,h'.get? dx=some o:=let⟨o,_,_,e',_⟩:=O'.ns; ⟨o,e'⟩
 refine I.write (x:=a) (e:=dx) (by rw[e]; exact True.intro) (.inr ho) (λb q hb z=>(sb.2 b hb).trans z) hd ?_
 refine⟨by rw[aD O.ne]; exact ho,?_,O.ne,O'.obj,_,O'.ns,λg=>?_,λg hg=>?_⟩
 .have:=NZ f y fs; lia
 .show lN ((dh f y fs).lookup g) (if g=f then some u else mA g)
  rw[NT]
  by_cases q:g=f
  .rw[if_pos q,if_pos q]; exact ry
  .rw[if_neg q,if_neg q]; exact r g
 .by_cases q:g=f
  .rw[q]; exact(DN f y fs).1
  .refine(DN f y fs).2 g (wi g λz=>hg ?_)
   show(if g=f then some u else mA g)=none
   rw[if_neg q]; exact z
theorem Inv.made(I:Inv X pins σ H s):Inv X pins σ (upd (upd H s.heap.objs.size (.own (s.heap.objs.size+1))) (s.heap.objs.size+1) (.ins C s.heap.objs.size []))
  {s with heap:=(s.heap.push PySem.W.emptyDict).push (PySem.W.instObj C s.heap.objs.size) }:=by
 have e1:(s.heap.push PySem.W.emptyDict).get? s.heap.objs.size=some PySem.W.emptyDict:=Heap.get?_push_size s.heap rfl
 have e2:((s.heap.push PySem.W.emptyDict).push (PySem.W.instObj C s.heap.objs.size)).get? (s.heap.objs.size+1)=some (PySem.W.instObj C s.heap.objs.size):=by
  have:=Heap.get?_push_size (s.heap.push PySem.W.emptyDict) (o:=PySem.W.instObj C s.heap.objs.size) rfl
  rwa[Heap.size_push]at this
 have e3:(s.heap.push PySem.W.emptyDict).Ns s.heap.objs.size (λ_=>none):=⟨PySem.W.emptyDict,#[],_,e1,rfl,(λe he=>absurd he (by simp)),λ_=>rfl⟩
 have I1:=I.laid (a:=s.heap.objs.size) (o:=.own (s.heap.objs.size+1)) (h':=s.heap.push PySem.W.emptyDict) (t':=s.toks) (λb u q=>Heap.get?_push_of_some _ q) (Nat.le_refl _) ⟨_,e1⟩
 refine I1.laid (a:=s.heap.objs.size+1) (o:=.ins C s.heap.objs.size []) (t':=s.toks) (λb u q=>Heap.get?_push_of_some _ q) (Nat.le_of_eq (Heap.size_push _ _)) ?_
 have ne:s.heap.objs.size≠s.heap.objs.size+1:=Nat.ne_of_lt (Nat.lt_succ_self _)
 refine⟨by rw[aD ne,bJ],Nat.zero_le _,ne,e2,λ_=>none,(Heap.Ns1.of_empty e3).at λo q=>Heap.get?_push_of_some _ q,λ_=>True.intro,λy hy=>absurd rfl hy⟩
theorem ab4(hb:attributeBase e f env (eval e env)=eval e env)
  (h:wpAny (model prog w) A (eval e env) (λo s₁=>wpAny (model prog w) A (getAttr o f true) Q E s₁) E s):wpAny (model prog w) A (eval (.Attribute e f pos) env) Q E s :=
 Attribute_any_ h (by rw[arm_eval_Attribute,hb])
end
noncomputable def N8(K:PySem.W.Frag)(ta:TE)(f:Str):TE:=λσ H Q=>ta σ H λx H1=>∃a C dx fs v,x=.ref a/\H1 a=some (.ins C dx fs)/\Cls K C/\nu K C f/\fs.lookup f=some v/\Q v H1
noncomputable def ab5(K:PySem.W.Frag)(ta tv:TE)(f:Str):TS:=λD σ H=>tv σ H λy H1=>ta σ H1 λx H2=>∃a C dx fs,x=.ref a/\H2 a=some (.ins C dx fs)/\Cls K C/\nu K C f/\fs.length<1000 /\
 D.nx σ (upd H2 a (.ins C dx (dh f y fs)))
noncomputable def Oa(X:Cx)(op:Operator)(rd:V->V->Hp->VK->Prop):Prop :=
 ∀(pins:List (Addr × Obj)) (s:Shared) (σ : St) (H:Hp) (x y:V) (u v:Value) (Q:VK),Inv X pins σ H s->RelV x u->RelV y v->rd x y H Q->wpAny (model X.prog X.w) X.A (inplaceOp op u v) (EP X pins σ Q) X.xe s
noncomputable def ab6(K:PySem.W.Frag)(ta tv:TE)(rd:V->V->Hp->VK->Prop)(f:Str):TS:=λD σ H=>ta σ H λx H1=>∃a C dx fs v,x=.ref a/\H1 a=some (.ins C dx fs)/\Cls K C/\nu K C f/\fs.lookup f=some v /\
 tv σ H1 λy H2=>rd v y H2 λz H3=>∃uD fs',H3 a=some (.ins C uD fs')/\fs'.length<1000/\D.nx σ (upd H3 a (.ins C uD (dh f z fs')))
section
variable {X:Cx}{o e value:Expr}{f:Str}{pos pos' tpos:Pos}{ta tv:TE}
theorem Ob(he:PE X e ta)(hb:attributeBase e f X.env (eval e X.env)=eval e X.env):PE X (.Attribute e f pos) (N8 X.K ta f):=by
 refine⟨λpins s σ H Q I h=>?_⟩
 refine ab4 hb (aF (he pins s σ H _ I h) λu s1 ⟨x,H1,I1,rx,a,C,dx,fs,v,ex,ea,c,n,l,q⟩=>?_)
 subst ex
 obtain rfl:u=Value.ref a:=rx
 exact N5 I1 ea c n l λu' s2 I2 ru=>⟨v,H1,I2,ru,q⟩
theorem Oc(ha:PE X o ta)(hv:PE X value tv)(hs:swapsWith value (some (.Attribute o f pos')) pos.line X.env=pure false):PS X (.Assign [.Attribute o f pos'] value pos) (ab5 X.K ta tv f):=by
 refine⟨λpins s σ H D I h=>?_⟩
 refine plainObj_wpAny_Assign_Attribute (aF (hv pins s σ H _ I h) λu s1 ⟨y,H1,I1,ry,q⟩=>aF (ha pins s1 σ H1 _ I1 q) λov s2 ⟨x,H2,I2,rx,a,C,dx,fs,ex,ea,c,n,l,q2⟩=>?_) hs
 subst ex
 obtain rfl:ov=Value.ref a:=rx
 exact N7 I2 ea c n l ry λs3 I3=>⟨σ,_,I3,q2⟩
theorem ab7(ha:PE X o ta)(hv:PE X value tv)(hop:Oa X op rd):PS X (.AugAssign (.Attribute o f tpos) op value pos) (ab6 X.K ta tv rd f):=by
 refine⟨λpins s σ H D I h=>?_⟩
 refine wpAny_AugAssign_AttributeAny (aF (ha pins s σ H _ I h) λov s1 ⟨x,H1,I1,rx,a,C,dx,fs,v,ex,ea,c,n,l,q⟩=>?_)
 subst ex
 obtain rfl:ov=Value.ref a:=rx
 refine N5 I1 ea c n l λu s2 I2 ru=>aF (hv pins s2 σ H1 _ I2 q) λw3 s3 ⟨y,H2,I3,ry,q3⟩=>aF (hop pins s3 σ H2 v y u w3 _ I3 ru ry q3) λw4 s4 ⟨z,H3,I4,rz,uD,fs',ea',l',q4⟩=>?_
 exact N7 I4 ea' c n l' rz λs5 I5=>⟨σ,_,I5,q4⟩
noncomputable def ab8:V->V->Hp->VK->Prop:=λx y H Q=>∃i j,x=.int i/\y=.int j/\Q (.int (i+j)) H
theorem ab9:Oa X .Add ab8:=by
 rintro pins s σ H x y u v Q I rx ry ⟨i,j,rfl,rfl,q⟩
 obtain⟨t,rfl⟩:=(show ∃t,u=Value.int i t from rx)
 obtain⟨t',rfl⟩:=(show ∃t',v=Value.int j t' from ry)
 exact PyProof.Rows.iadd_int ⟨.int (i+j),H,I.tok _,⟨_,rfl⟩,q⟩
end
structure bQ(k:Nat)(A:Around):Prop where
 hd:A.handled=none
 dp:A.depth+3*k+5<recursionLimit
 un:A.units+16*k+200<cLine
 gd:A.guards=some []:=by rfl
theorem bQ.mono(r:bQ k A)(h:j<=k):bQ j A:=⟨r.hd,by have:=r.dp; lia,by have:=r.un; lia,r.gd⟩
theorem bQ.deeper(r:bQ (k+1) A)(env:Env):bQ k (A.deeper env) :=
 ⟨r.hd,by have:=r.dp; show A.depth+1+3*k+5<_; lia,by have:=r.un; show A.units+3+16*k+200<_; lia,r.gd⟩
theorem bQ.in1(r:bQ (k+1) A):bQ k A.in1 :=
 ⟨r.hd,by have:=r.dp; show A.depth+3*k+5<_; lia,by have:=r.un; show A.units+1+16*k+200<_; lia,r.gd⟩
theorem acd{A:Around}{C:Addr}{us:List Value}{kw:List (Str × Value)}:(A.under (.builtin "type.__call__" ⟨.ref C::us,kw⟩)).depth=A.depth+1:=by
 first|rfl|simp[Around.under,Code.weight,Code.isCreation,Code.isGuard,Code.isCaller,Code.frames,Code.isFrame,guardIds]
theorem ace{A:Around}{C:Addr}{us:List Value}{kw:List (Str × Value)}:(A.under (.builtin "type.__call__" ⟨.ref C::us,kw⟩)).units=A.units+1:=by
 first|rfl|simp[Around.under,Code.cUnits,Code.frames,Code.isFrame]
theorem bQ.make(r:bQ (k+1) A)(C:Addr)(us:List Value)(kw:List (Str × Value)):bQ k (A.under (.builtin "type.__call__" ⟨.ref C::us,kw⟩)) :=
 ⟨r.hd,by have:=r.dp; rw[acd]; lia,by have:=r.un; rw[ace]; lia,by first|exact r.gd|simpa[Around.under,Code.guards,Code.isGuard,guardIds,pushGuards]using r.gd⟩
theorem bQ.depth(r:bQ k A):A.depth<recursionLimit:=by have:=r.dp; lia
theorem bQ.units(r:bQ k A):A.units+64<cLine:=by have:=r.un; lia
noncomputable def DQ:TA:=λ_ H Q=>Q [] H
noncomputable def DW(ta:TE)(tr:TA):TA:=λσ H Q=>ta σ H λx H1=>tr σ H1 λxs H2=>Q (x::xs) H2
section
variable {X:Cx}{e:Expr}{es:List Expr}{te:TE}{t:TA}{pos:Pos}
theorem yr:PA X [] DQ:=⟨λ_ _ _ _ H Q I h=>Calls.spliced_nil ⟨[],H,I,.nil,h⟩⟩
theorem rA(ha:PE X e te)(hr:PA X es t)(hs:starEach (e::es) X.env=(false,eval e X.env)::starEach es X.env:=by rfl):PA X (e::es) (DW te t):=by
 refine⟨λpos pins s σ H Q I h=>?_⟩
 rw[hs]
 show wpAny _ _ (spliced ((false,eval e X.env)::backTo pos (starEach es X.env))) _ _ s
 refine Calls.spliced_cons (aF (ha pins s σ H _ I h) λu s1 ⟨x,H1,I1,r1,q1⟩=>?_)
 exact aF (hr pos pins s1 σ H1 _ I1 q1) λus s2 ⟨xs,H2,I2,r2,q2⟩=>⟨x::xs,H2,I2,.cons r1 r2,q2⟩
noncomputable def acf(t:TA):TE:=λσ H Q=>t σ H λxs H1=>xs.length<=sizeLine/\∀p,H1 p=none->Q (.ref p) (upd H1 p (.tup xs))
noncomputable def acg(t:TA):TE:=λσ H Q=>t σ H λxs H1=>xs.length<=sizeLine/\∀p,H1 p=none->Q (.ref p) (upd H1 p (.lst xs))
theorem Oe{x1}(h:PA X es t):PE X (.Tuple es x1 pos) (acf t):=by
 refine⟨λpins s σ H Q I hq=>?_⟩
 refine wpAny_Tuple_spliced (aF (h pos pins s σ H _ I hq) λus s1 ⟨xs,H1,I1,r,z,q⟩=>⟨by rw[<-r.length]; exact z,?_⟩)
 have hf:H1 s1.heap.objs.size=none:=I1.hok.fresh (Nat.le_refl _)
 refine⟨.ref s1.heap.objs.size,upd H1 s1.heap.objs.size (.tup xs),I1.laid (t':=s1.toks) (λb u e=>Heap.get?_push_of_some _ e) (Nat.le_refl _) ?_,rfl,q _ hf⟩
 exact⟨z,us,r,⟨_,Heap.get?_push_size _ rfl,rfl,_,rfl⟩⟩
theorem Og(h:PA X es t):PE X (.List es pos) (acg t):=by
 refine⟨λpins s σ H Q I hq=>?_⟩
 refine wpAny_List_spliced (aF (h pos pins s σ H _ I hq) λus s1 ⟨xs,H1,I1,r,z,q⟩=>⟨by rw[<-r.length]; exact z,?_⟩)
 have hf:H1 s1.heap.objs.size=none:=I1.hok.fresh (Nat.le_refl _)
 refine⟨.ref s1.heap.objs.size,upd H1 s1.heap.objs.size (.lst xs),I1.laid (t':=s1.toks) (λb u e=>Heap.get?_push_of_some _ e) (Nat.le_refl _) ?_,rfl,q _ hf⟩
 exact⟨z,us,0,r,Heap.get?_push_size _ rfl⟩
end
noncomputable abbrev Sp:=List V->Hp->VK->XK->Prop
noncomputable abbrev gR:=List Env->Hp->Shared->XK->Value->Shared->Prop
structure j4(P:Program)(w:World)(K:PySem.W.Frag)(mg:Str->Option Value)(base:Heap)(A:Around)(outer:List Env)(s:Shared)(H:Hp):Prop where
 frames:A.frames=some outer
 mod:Mod K mg base
 bs:∀b o,base.get? b=some o->s.heap.get? b=some o/\H b=none
 jF:base.objs.size<=s.heap.objs.size
 iD:s.heap.FunFrames base outer
 lQ:∀b∈frs outer,H b=none
 hok:bZ P w H s.heap
 bare:AllBare s.gens
noncomputable def CE(outer:List Env)(P:Program)(w:World)(H:Hp)(s:Shared)(Q:VK)(u:Value)(s':Shared):Prop :=
 ∃v H',s'.os=s.os/\AllBare s'.gens/\Un (frs outer) [] H H' s.heap s'.heap/\bZ P w H' s'.heap/\RelV v u/\Q v H'
noncomputable def CR(CX:gR)(outer:List Env)(P:Program)(w:World)(H:Hp)(s:Shared)(Q:VK)(E:XK)(r:Result)(s':Shared):Prop :=
 match r with
 |.ok (.ret u)=>CE outer P w H s Q u s'
 |.ok _=>False
 |.error e=>CX outer H s E e s'
structure dH(P:Program)(w:World)(K:PySem.W.Frag)(mg:Str->Option Value)(base:Heap)(CX:gR)(k:Nat)(f:Addr)(fd:FuncData)(ps:List Str)(sp:Sp):Prop where
 len:∀vs H Q E,sp vs H Q E->vs.length=ps.length
 run:∀(A:Around) (outer:List Env) (s:Shared) (H:Hp) (args:Args) (us:List Value) (vs:List V) (Q:VK) (E:XK),bQ k A->j4 P w K mg base A outer s H->BindsTo s fd args (ps.zip us)->Vals vs us->sp vs H Q E ->
  codeAny (model P w) A (.call (.ref f) args) (CR CX outer P w H s Q E) s
theorem dH.mono{P:Program}{w:World}{K:PySem.W.Frag}{mg:Str->Option Value}{base:Heap}{CX:gR}{j k:Nat}{f:Addr}{fd:FuncData}{ps:List Str}{sp:Sp}(F:dH P w K mg base CX j f fd ps sp)(h:j<=k) :
  dH P w K mg base CX k f fd ps sp:=⟨F.len,λA outer s H args us vs Q E hr=>F.run A outer s H args us vs Q E (hr.mono h)⟩
theorem dH.imp{P:Program}{w:World}{K:PySem.W.Frag}{mg:Str->Option Value}{base:Heap}{CX:gR}{k:Nat}{f:Addr}{fd:FuncData}{ps:List Str}{sp Oh:Sp}(F:dH P w K mg base CX k f fd ps sp)
  (h:∀vs H Q E,Oh vs H Q E->sp vs H Q E):dH P w K mg base CX k f fd ps Oh :=
 ⟨λvs H Q E q=>F.len vs H Q E (h _ _ _ _ q),λA outer s H args us vs Q E hr he hb hv hs=>F.run A outer s H args us vs Q E hr he hb hv (h _ _ _ _ hs)⟩
theorem j4.make{P:Program}{w:World}{K:PySem.W.Frag}{mg:Str->Option Value}{base:Heap}{A:Around}{outer:List Env}{s:Shared}{H:Hp}(e:j4 P w K mg base A outer s H)(C:Addr)(us:List Value)(kw:List (Str × Value)) :
  j4 P w K mg base (A.under (.builtin "type.__call__" ⟨.ref C::us,kw⟩)) outer s H:=⟨by first|exact e.frames|(simpa[Around.under,Code.envs,Code.isFrame,pushEnvs]using e.frames),e.mod,e.bs,e.jF,e.iD,e.lQ,e.hok,e.bare⟩
theorem j4.in1{P:Program}{w:World}{K:PySem.W.Frag}{mg:Str->Option Value}{base:Heap}{A:Around}{outer:List Env}{s:Shared}{H:Hp}(e:j4 P w K mg base A outer s H) :
  j4 P w K mg base A.in1 outer s H:=⟨e.frames,e.mod,e.bs,e.jF,e.iD,e.lQ,e.hok,e.bare⟩
section
variable {X:Cx}{pins:List (Addr × Obj)}{σ : St}{H:Hp}{s s':Shared}
theorem Inv.env0(I:Inv X pins σ H s):j4 X.prog X.w X.K X.mg X.base X.A X.stack s H :=
 ⟨I.ok.frames,I.ok.mod,I.bs,Nat.le_trans I.ok.jF I.sz,I.stack,I.xK,I.hok,I.bare⟩
theorem Inv.after(I:Inv X pins σ H s)(h:CE X.stack X.prog X.w H s Q u s'):EP X pins σ Q u s':=by
 obtain⟨v,H',os,bare,un,hok,r,q⟩:=h
 obtain⟨hh,g,d,t,os'⟩:=s'
 obtain rfl:os'=s.os:=os
 exact⟨v,H',I.call (h':=hh) (g':=g) (d':=d) (t':=t) (ch:=[]) un hok bare (λb z=>absurd z (by simp)),r,q⟩
end
noncomputable def DX(sp:Sp)(dW:List V)(E:XK)(t:TA):TE:=λσ H Q=>t σ H λvs H1=>sp (vs++dW) H1 Q E
noncomputable def DY(C:Addr)(m:Str)(sp:Sp)(dW:List V)(E:XK)(ta:TE)(t:TA):TE:=λσ H Q=>ta σ H λx H1=>∃a dx fs,x=.ref a/\H1 a=some (.ins C dx fs)/\fs.lookup m=none /\
 t σ H1 λvs H2=>sp (x::(vs++dW)) H2 Q E
noncomputable def Oi(C:Addr)(sp:Sp)(dW:List V)(E:XK)(t:TA):TE:=λσ H Q=>t σ H λvs H1=>∀x dx,H1 x=none->H1 dx=none->dx≠x ->
 sp (.ref x::(vs++dW)) (upd (upd H1 dx (.own x)) x (.ins C dx [])) (λv H2=>v=.non/\Q (.ref x) H2) E
noncomputable def Binds(K:PySem.W.Frag)(fd:FuncData)(ps:List Str)(ds:List Value):Prop :=
 ∀(s:Shared) (us:List Value),K.In s.heap->(us++ds).length=ps.length->BindsTo s fd ⟨us,[]⟩ (ps.zip (us++ds))
theorem Binds.all{K:PySem.W.Frag}{fd:FuncData}{ps:List Str}(h:∀us:List Value,us.length=ps.length->bindArgs fd ⟨us,[]⟩=pure (ps.zip us)):Binds K fd ps []:=λs us _ hl=>by
 rw[List.append_nil]at hl ⊢
 exact .of_eq (h us hl)
noncomputable def Passes(CX:gR)(X:Cx)(E:XK):Prop:=∀(pins:List (Addr × Obj)) (σ : St) (H:Hp) (s:Shared) (e:Value) (s':Shared),Inv X pins σ H s->CX X.stack H s E e s'->X.xe e s'
section
variable {X:Cx}{CX:gR}{k:Nat}{f C:Addr}{fd:FuncData}{ps:List Str}{sp:Sp}{dW:List V}{ds:List Value}{E:XK}{x m:Str}{p pos apos:Pos}{e o:Expr}{es:List Expr}{ta:TE}{t:TA}
theorem Ea(F:dH X.prog X.w X.K X.mg X.base CX k f fd ps sp)(hr:bQ k X.A)(hb:Binds X.K fd ps ds)(hd:Vals dW ds)(hx:Passes CX X E)
  (I:Inv X pins σ H s) (r:Vals vs us) (h:sp (vs++dW) H Q E):wpAny (model X.prog X.w) X.A (call (.ref f) us) (EP X pins σ Q) X.xe s:=by
 have r2:Vals (vs++dW) (us++ds):=r.append hd
 have hl:(us++ds).length=ps.length:=by rw[<-r2.length]; exact F.len _ _ _ _ h
 refine wpAny_call (codeAny_mono (F.run X.A X.stack s H ⟨us,[]⟩ (us++ds) (vs++dW) Q E hr I.env0 (hb s us I.dG hl) r2 h) λr s' hq=>?_)
 cases r with
 |error e=>exact hx pins σ H s e s' I hq
 |ok fl =>
  cases fl with
  |ret u=>exact I.after hq
  |next=>exact False.elim hq
  |brk=>exact False.elim hq
  |cont=>exact False.elim hq
theorem Eb(F:dH X.prog X.w X.K X.mg X.base CX k f fd ps sp)(hr:bQ k X.A)(hg:Gl X x)(hm:X.mg x=some (.ref f))(hk:PySem.W.keepIn X.K (.ref f)=true)(hb:Binds X.K fd ps ds)(hd:Vals dW ds)(hx:Passes CX X E)
  (ha:PA X (e::es) t) (hdb:(x == ("__debug__" : Str))=false:=by decide) (he:starEach (e::es) X.env=(false,eval e X.env)::starEach es X.env:=by rfl) (hpl:(backTo pos (starEach es X.env)).any (·.1)=false:=by rfl) :
  PE X (.Call (.Name x p) (e::es) [] pos) (DX sp dW E t):=by
 refine⟨λpins s σ H Q I h=>?_⟩
 refine wpAny_Call_Name_kw (xQ I hg hm ?_ hdb)
 refine PySem.W.callWith_K (h₀ := X.base) I.ok.mod.uq hk (aF (ha pos pins s σ H _ I h) λus s1 ⟨vs,H1,I1,r,q⟩=>⟨I1.dG,?_⟩) he hpl
 exact Ea F hr hb hd hx I1 r q
theorem ach(he:PE X o ta)(c:Cls X.K C)(hm:Meth X.K C m f)(F:dH X.prog X.w X.K X.mg X.base CX k f fd ps sp)(hr:bQ k X.A)(hb:Binds X.K fd ps ds)(hd:Vals dW ds)(hx:Passes CX X E)(ha:PA X (e::es) t)
  (hst:starEach (e::es) X.env=(false,eval e X.env)::starEach es X.env:=by rfl) (hpl:(backTo pos (starEach es X.env)).any (·.1)=false:=by rfl)
  (ht:eval (.Call (.Attribute o m apos) (e::es) [] pos) X.env=(do
   let ov <-eval o X.env
   standAt apos.atName
   let(f,first) <-holding [ov] (getMethod ov m pl)
   callWith pos f first (backTo pos (starEach (e::es) X.env)) (backToKw pos (keywordEach [] X.env))):=by rfl) :
  PE X (.Call (.Attribute o m apos) (e::es) [] pos) (DY C m sp dW E ta t):=by
 refine⟨λpins s σ H Q I h=>?_⟩
 refine PySem.W.methodCall_KW (pl:=pl) (aF (he pins s σ H _ I h) λu s1 ⟨x,H1,I1,rx,a,dx,fs,ex,ea,l,q⟩=>?_) ht
 subst ex
 obtain rfl:u=Value.ref a:=rx
 refine N6 I1 ea c hm l ?_
 refine PySem.W.callWith_K (first:=[.ref a]) (h₀ := X.base) I.ok.mod.uq hm.kp (aF (ha pos pins s1 σ H1 _ I1 q) λus s2 ⟨vs,H2,I2,r,q2⟩=>⟨I2.dG,?_⟩) hst hpl
 exact Ea (us:=.ref a::us) (vs:=.ref a::vs) F hr hb hd hx I2 (.cons rfl r) q2
theorem aci(he:PE X o ta)(c:Cls X.K C)(hm:Meth X.K C m f)(F:dH X.prog X.w X.K X.mg X.base CX k f fd ps sp)(hr:bQ k X.A)(hb:Binds X.K fd ps ds)(hd:Vals dW ds)(hx:Passes CX X E)
  (ht:eval (.Call (.Attribute o m apos) [] [] pos) X.env=(do
   let ov <-eval o X.env
   standAt apos.atName
   let(f,first) <-holding [ov] (getMethod ov m pl)
   callWith pos f first (backTo pos (starEach [] X.env)) (backToKw pos (keywordEach [] X.env))):=by rfl) :
  PE X (.Call (.Attribute o m apos) [] [] pos) (DY C m sp dW E ta DQ):=by
 refine⟨λpins s σ H Q I h=>?_⟩
 refine PySem.W.methodCall_KW (pl:=pl) (aF (he pins s σ H _ I h) λu s1 ⟨x,H1,I1,rx,a,dx,fs,ex,ea,l,q⟩=>?_) ht
 subst ex
 obtain rfl:u=Value.ref a:=rx
 refine N6 I1 ea c hm l ?_
 exact PySem.W.callWith_K0 (first:=[.ref a]) I1.dG hm.kp (Ea (us:=[.ref a]) (vs:=[.ref a]) F hr hb hd hx I1 (.cons rfl .nil) q)
structure Mk(K:PySem.W.Frag)(C f:Addr):Prop where
 makes:PySem.W.makesIn K C=true
 init:PySem.W.findIn K (.ref C) "__init__" = some (some (.ref f))
 fn:PySem.W.isFn K (.ref f)=true
 kp:PySem.W.keepIn K (.ref C)=true
theorem acj(M:Mk X.K C f)(F:dH X.prog X.w X.K X.mg X.base CX k f fd ps sp)(hr:bQ (k+1) X.A)(hb:Binds X.K fd ps ds)(hd:Vals dW ds)
  (hx:Passes CX X E) (I:Inv X pins σ H s) (r:Vals vs us)
  (h:∀x dx,H x=none->H dx=none->dx≠x->sp (.ref x::(vs++dW)) (upd (upd H dx (.own x)) x (.ins C dx [])) (λv H2=>v=.non/\Q (.ref x) H2) E) :
  wpAny (model X.prog X.w) X.A (call (.ref C) us) (EP X pins σ Q) X.xe s:=by
 have hq:=h (s.heap.objs.size+1) s.heap.objs.size (I.hok.fresh (Nat.le_succ _)) (I.hok.fresh (Nat.le_refl _)) (Nat.ne_of_lt (Nat.lt_succ_self _))
 have I2:=Inv.made (C:=C) I
 have r2:Vals (V.ref (s.heap.objs.size+1)::(vs++dW)) (Value.ref (s.heap.objs.size+1)::(us++ds)):=.cons rfl (r.append hd)
 have hl:(Value.ref (s.heap.objs.size+1)::us++ds).length=ps.length:=by
  have e:=r2.length
  rw[F.len _ _ _ _ hq]at e
  exact e.symm
 refine wpAny_call (ab2 (f:=f) I.dG M.makes M.init (beq_iff_eq.mp M.fn) (codeAny_mono (F.run _ X.stack _ _ ⟨Value.ref (s.heap.objs.size+1)::us,[]⟩ (Value.ref (s.heap.objs.size+1)::(us++ds)) _ _ E (hr.make C us [])
  (I2.env0.make C us []) (hb _ (Value.ref (s.heap.objs.size+1)::us) I2.dG hl) r2 hq) λr s' hq'=>?_))
 cases r with
 |error e=>exact hx pins σ _ _ e s' I2 hq'
 |ok fl =>
  cases fl with
  |ret u =>
   obtain⟨v,H',I3,rv,ev,q3⟩:=I2.after hq'
   subst ev
   exact⟨rv,⟨V.ref (s.heap.objs.size+1),H',I3,rfl,q3⟩⟩
  |next=>exact False.elim hq'
  |brk=>exact False.elim hq'
  |cont=>exact False.elim hq'
theorem acn(M:Mk X.K C f)(F:dH X.prog X.w X.K X.mg X.base CX k f fd ps sp)(hr:bQ (k+1) X.A)(hg:Gl X x)(hm:X.mg x=some (.ref C))(hb:Binds X.K fd ps ds)(hd:Vals dW ds)(hx:Passes CX X E)
  (ha:PA X (e::es) t) (hdb:(x == ("__debug__" : Str))=false:=by decide) (he:starEach (e::es) X.env=(false,eval e X.env)::starEach es X.env:=by rfl) (hpl:(backTo pos (starEach es X.env)).any (·.1)=false:=by rfl) :
  PE X (.Call (.Name x p) (e::es) [] pos) (Oi C sp dW E t):=by
 refine⟨λpins s σ H Q I h=>?_⟩
 refine wpAny_Call_Name_kw (xQ I hg hm ?_ hdb)
 refine PySem.W.callWith_K (h₀ := X.base) I.ok.mod.uq M.kp (aF (ha pos pins s σ H _ I h) λus s1 ⟨vs,H1,I1,r,q⟩=>⟨I1.dG,?_⟩) he hpl
 exact acj M F hr hb hd hx I1 r q
end
structure pC(N P:List Str)(sc:Scope):Prop where
 kind:sc.kind=.function
 co:sc.isCoroutine=false
 gen:sc.isGenerator=false
 nd:N.Nodup
 pre:N.take P.length=P
 par:∀x∈P,sc.names.lookup x=some .local\/sc.names.lookup x=some .cell
 aco:∀y∈sc.names,y.2 ≠ .free
theorem Oj{kindOf:Str->Option NameKind}{x:Str}:∀{binds:List (Str × Value)} {m:Str->Option Value},(∀v,(x,v)∉binds)->bindL kindOf binds m x=m x
 | [],_,_=>rfl
 |(n,v)::r,m,h=>by
  unfold bindL
  rw[Oj λw hw=>h w (List.mem_cons_of_mem _ hw)]
  split
  .have:x≠n:=by rintro rfl; exact h v List.mem_cons_self
   simp[this]
  .rfl
theorem Ol{kindOf:Str->Option NameKind}{x:Str}:∀{binds:List (Str × Value)} {m:Str->Option Value},(∀v,(x,v)∉binds)->bindC kindOf binds m x=m x
 | [],_,_=>rfl
 |(n,v)::r,m,h=>by
  unfold bindC
  rw[Ol λw hw=>h w (List.mem_cons_of_mem _ hw)]
  split
  .rfl
  .have:x≠n:=by rintro rfl; exact h v List.mem_cons_self
   simp[this]
theorem Om{kindOf:Str->Option NameKind}{x:Str}{v:Value}:∀{P:List Str} {vs:List Value} {i:Nat} {m:Str->Option Value},P.Nodup->P[i]?=some x->vs[i]?=some v->kindOf x=some .local ->
  bindL kindOf (P.zip vs) m x=some v
 | [],_,_,_,_,h,_,_=>by simp at h
 |_::_,[],_,_,_,_,h,_=>by simp at h
 |p::P,w::vs,0,m,nd,h1,h2,hk=>by
  simp at h1 h2; subst h1; subst h2
  show bindL kindOf ((p,w)::P.zip vs) m p=_
  unfold bindL
  rw[Oj λv hv=>(List.nodup_cons.mp nd).1 (List.of_mem_zip hv).1,if_pos hk]
  simp
 |p::P,w::vs,i+1,m,nd,h1,h2,hk=>by
  show bindL kindOf ((p,w)::P.zip vs) m x=_
  unfold bindL
  exact Om (i:=i) (List.nodup_cons.mp nd).2 (by simpa using h1) (by simpa using h2) hk
theorem Oo{kindOf:Str->Option NameKind}{x:Str}{v:Value}:∀{P:List Str} {vs:List Value} {i:Nat} {m:Str->Option Value},P.Nodup->P[i]?=some x->vs[i]?=some v->kindOf x≠some .local ->
  bindC kindOf (P.zip vs) m x=some v
 | [],_,_,_,_,h,_,_=>by simp at h
 |_::_,[],_,_,_,_,h,_=>by simp at h
 |p::P,w::vs,0,m,nd,h1,h2,hk=>by
  simp at h1 h2; subst h1; subst h2
  show bindC kindOf ((p,w)::P.zip vs) m p=_
  unfold bindC
  rw[Ol λv hv=>(List.nodup_cons.mp nd).1 (List.of_mem_zip hv).1,if_neg hk]
  simp
 |p::P,w::vs,i+1,m,nd,h1,h2,hk=>by
  show bindC kindOf ((p,w)::P.zip vs) m x=_
  unfold bindC
  exact Oo (i:=i) (List.nodup_cons.mp nd).2 (by simpa using h1) (by simpa using h2) hk
noncomputable def start(N:List Str)(vs:List V):St:=vs.map some++List.replicate (N.length-vs.length) none
noncomputable def gq(CX:gR)(P:Program)(w:World)(K:PySem.W.Frag)(mg:Str->Option Value)(base:Heap)(N:List Str)(qual:Str)(scope:Scope)(f:Addr)(cd:Value)(A:Around)(outer:List Env)(s:Shared)(H:Hp)(E:XK):Cx where
 prog:=P
 w:=w
 K:=K
 mg:=mg
 base:=base
 A:=A.deeper (envOfC qual scope s.heap.objs.size f cd)
 N:=N
 s₀ := s
 H₀ := H
 env:=envOfC qual scope s.heap.objs.size f cd
 outer:=outer
 stack:=envOfC qual scope s.heap.objs.size f cd::outer
 ex:=[]
 calm:=true
 fn:=λ_=>true
 pn:=[]
 xe:=λe s'=>wpAny (model P w) (A.deeper (envOfC qual scope s.heap.objs.size f cd)) (leaving (envOfC qual scope s.heap.objs.size f cd) e) (λ_ s''=>CX outer H s E e s'') (λe' s''=>CX outer H s E e' s'') s'
theorem Oq{sc:Scope}{n:Nat}{x:Str}(h:sc.names.lookup x=some .cell):∃c,(cellsFrom n sc.names []).lookup x=some c:=by
 have q:=PySem.W.cellsFrom_some sc.names n [] (.inl h)
 exact Option.isSome_iff_exists.mp q
theorem acp{CX:gR}{P:Program}{w:World}{K:PySem.W.Frag}{mg:Str->Option Value}{base:Heap}{N ps:List Str}{qual:Str}{scope:Scope}{f:Addr}{cd:Value}{A:Around}{outer:List Env}{s s1:Shared}{H:Hp}{E:XK}{us:List Value}{vs:List V}
  (S:pC N ps scope) (hd:A.handled=none) (e0:j4 P w K mg base A outer s H) (hl:vs.length=ps.length) (r:Vals vs us)
  (x:InCallC s s.heap.objs.size (bindL (envOfC qual scope s.heap.objs.size f cd).kindOf (ps.zip us) λ_=>none) (cellsFrom (s.heap.objs.size+1) scope.names []) (bindC (envOfC qual scope s.heap.objs.size f cd).kindOf (ps.zip us) λ_=>none) s1) :
  Inv (gq CX P w K mg base N qual scope f cd A outer s H E) [] (start N vs) H s1:=by
 have hpl:ps.length<=N.length:=by have:=congrArg List.length S.pre; rw[List.length_take]at this; lia
 obtain⟨h1,tk,rfl,hk⟩:=x.done
 have uE:∀b:Addr,b∉(gq CX P w K mg base N qual scope f cd A outer s H E).ex:=λb z=>absurd (show b∈([]:List Addr)from z) (by simp)
 refine⟨⟨e0.mod,S.kind,rfl,rfl,Nat.le_refl _,λy z c h1 h2=>?_,λy hy=>?_,λy c _ h=>?_,λ_=>hd,Around.frames_deeper e0.frames,.inr ⟨rfl,rfl⟩,λb z=>absurd z (uE b),e0.bs,e0.jF,λb _ _=>uE b,λb z=>absurd z (uE b),e0.iD,e0.lQ⟩,
  rfl,e0.bare,Un.kept hk,⟨_,x.toInCall.ns,λi y v h1 h2 h3=>?_⟩,λy c h=>⟨_,x.cell y c h⟩,e0.hok.fresh (Nat.le_refl _),λy c h=>?_,λp hp=>absurd (show p∈([]:List (Addr × Obj))from hp) (by simp),e0.hok.kept hk,?_⟩
 .exact name_of_addr x.apart (PySem.mem_of_lookup h1) (PySem.mem_of_lookup h2)
 .have hy:scope.names.lookup y=some .cell\/scope.names.lookup y=some .free:=hy
  rcases hy with hy|hy
  .exact Oq hy
  .exact absurd rfl (S.aco _ (PySem.mem_of_lookup hy))
 .exact Nat.le_of_lt (x.above y c (PySem.mem_of_lookup h))
 .have hi:i<vs.length:=by
   unfold start at h2
   by_cases hi:i<vs.length
   .exact hi
   .rw[List.getElem?_append_right (by simpa using hi)]at h2
    rw[List.getElem?_replicate]at h2
    split at h2 <;> cases h2
  have ha:vs[i]?=some v:=by
   unfold start at h2
   rw[List.getElem?_append_left (by simpa using hi),List.getElem?_map]at h2
   cases e:vs[i]? with
   |none=>rw[e]at h2; cases h2
   |some a=>rw[e]at h2; cases h2; rfl
  obtain⟨u,hu,rv⟩:=r.get ha
  have hp:ps[i]?=some y:=by
   rw[<-S.pre,List.getElem?_take_of_lt (by lia)]; exact h1
  have Ot:ps.Nodup:=by rw[<-S.pre]; exact S.nd.sublist (List.take_sublist _ _)
  refine⟨u,rv,?_⟩
  rcases S.par y (List.mem_of_getElem? hp)with k|k
  .exact .inl ⟨k,Om Ot hp hu k⟩
  .obtain⟨c,e⟩:=Oq (n:=s.heap.objs.size+1) k
   refine .inr ⟨.inl k,c,e,?_⟩
   have q:=x.cell y c e
   rw[Oo Ot hp hu (by show scope.names.lookup y≠_; rw[k]; decide)]at q
   exact q
 .exact e0.hok.fresh (Nat.le_of_lt (x.above y c (PySem.mem_of_lookup h)))
 .unfold start
  show _=N.length
  rw[List.length_append,List.length_map,List.length_replicate]
  lia
theorem Ec{CX:gR}{P:Program}{w:World}{K:PySem.W.Frag}{mg:Str->Option Value}{base:Heap}{k:Nat}{f:Addr}{name qual:Str}{params:Arguments}{body:List Stmt}{scope:Scope}{dV kV doc pm cdv ct oc:Value}{an od:Option Addr}
  {osl:Array (Option Value)} {N ps:List Str} {sp:Sp} (lk:K.lookup f=some ⟨oc,od,.func (PySem.W.fnOf name qual params body scope dV kV doc pm an cdv ct),osl⟩) (hcd:PySem.W.codeIn K cdv qual=true) (S:pC N ps scope)
  (len:∀vs H Q E,sp vs H Q E->vs.length=ps.length)
  (hbody:∀(A:Around) (outer:List Env) (s:Shared) (H:Hp) (vs:List V) (Q:VK) (E:XK),bQ k (A.deeper (envOfC qual scope s.heap.objs.size f cdv))->sp vs H Q E ->
   ∃t,cX (gq CX P w K mg base N qual scope f cdv A outer s H E) body t/\t {nx:=λ_ H'=>Q .non H',rt:=Q } (start N vs) H) :
  dH P w K mg base CX (k+1) f (PySem.W.fnOf name qual params body scope dV kV doc pm an cdv ct) ps sp:=by
 refine⟨len,λA outer s H args us vs Q E hr e0 hb r hsp=>?_⟩
 have hl:=len _ _ _ _ hsp
 have KX:K.In s.heap:=e0.mod.uq.keeps λb o e=>(e0.bs b o e).1
 have lim:s.heap.NoLimit:=e0.mod.nolimit.keeps λb o e=>(e0.bs b o e).1
 have hkind:∀y∈ps.zip us,scope.names.lookup y.1=some .local\/(scope.names.lookup y.1=some .cell/\((cellsFrom (s.heap.objs.size+1) scope.names []).lookup y.1).isSome=true):=λ⟨n,v⟩ hy=>by
  rcases S.par n (List.of_mem_zip hy).1 with q|q
  .exact .inl q
  .exact .inr ⟨q,PySem.W.cellsFrom_some _ _ _ (.inl q)⟩
 refine codeAny_call_function hr.depth (KX _ _ lk) rfl S.co S.gen rfl (PySem.W.codeRec_of KX hcd) (hb _ _ _ _ ?_)
 refine wpAny_newFunctionEnv_cells S.kind hkind λenv he s1 x=>?_
 subst he
 refine⟨lim.keeps x.toInCall.keep,codeAny_func ?_⟩
 obtain⟨t,ht,hq⟩:=hbody A outer s H vs Q E (hr.deeper _) hsp
 have I:Inv (gq CX P w K mg base N qual scope f cdv A outer s H E) [] (start N vs) H s1:=acp S hr.hd e0 hl r x
 refine wpAny_mono (ht [] s1 (start N vs) H _ I hq) (λfl s' hs=>?_) λe s' hs=>hs
 have fin:∀{σ':St} {H':Hp} {v:V} {u:Value},Inv (gq CX P w K mg base N qual scope f cdv A outer s H E) [] σ' H' s'->RelV v u->Q v H'->CE outer P w H s Q u s' :=
  λ{σ' H' v u} J rv q=>⟨v,H',J.os,J.bare,J.base,J.hok,rv,q⟩
 cases fl with
 |ret u =>
  obtain⟨v,σ',H',J,rv,q⟩:=hs
  exact fin J rv q
 |next =>
  obtain⟨σ',H',J,q⟩:=hs
  exact fin (v:=V.non) (u:=Value.none) J rfl q
 |brk =>
  obtain⟨_,_,_,q⟩:=hs
  exact False.elim q
 |cont =>
  obtain⟨_,_,_,q⟩:=hs
  exact False.elim q
section
variable {X:Cx}{x:Str}{p pos:Pos}{e:Expr}{es:List Expr}{t:TA}{id T:String}{r:List V->Hp->VK->Prop}
noncomputable def yt(r:List V->Hp->VK->Prop)(t:TA):TE:=λσ H Q=>t σ H λvs H1=>r vs H1 Q
theorem Ou(hc:eV X (.builtin id) r)(hg:Gl X x)(hm:X.mg x=none)(hv:bootBuiltins x=some (.builtin id))(ha:PA X (e::es) t)(hn:x ≠ "__name__" := by decide) (hdb:(x == ("__debug__" : Str))=false:=by decide)
  (he:starEach (e::es) X.env=(false,eval e X.env)::starEach es X.env:=by rfl) (hpl:(backTo pos (starEach es X.env)).any (·.1)=false:=by rfl):PE X (.Call (.Name x p) (e::es) [] pos) (yt r t):=by
 refine⟨λpins s σ H Q I h=>?_⟩
 refine wpAny_Call_Name_kw (o7 I hg hm hv ?_ hn hdb)
 exact PyProof.Rows.callWith_builtin1 (aF (ha pos pins s σ H _ I h) λus s1 ⟨vs,H1,I1,r1,q1⟩=>hc pins s1 σ H1 vs us Q I1 r1 q1) he hpl
theorem acq(hc:eV X (.type T) r)(hg:Gl X x)(hm:X.mg x=none)(hv:bootBuiltins x=some (.type T))(ha:PA X (e::es) t)(hn:x ≠ "__name__" := by decide) (hdb:(x == ("__debug__" : Str))=false:=by decide)
  (he:starEach (e::es) X.env=(false,eval e X.env)::starEach es X.env:=by rfl) (hpl:(backTo pos (starEach es X.env)).any (·.1)=false:=by rfl):PE X (.Call (.Name x p) (e::es) [] pos) (yt r t):=by
 refine⟨λpins s σ H Q I h=>?_⟩
 refine wpAny_Call_Name_kw (o7 I hg hm hv ?_ hn hdb)
 exact PyProof.Rows.callWith_type1 (aF (ha pos pins s σ H _ I h) λus s1 ⟨vs,H1,I1,r1,q1⟩=>hc pins s1 σ H1 vs us Q I1 r1 q1) he hpl
end
end L2
namespace HT
open PySem PyProof.Rows
noncomputable def lexLt:List Int->List Int->Bool
 | [],[]=>false
 | [],_::_=>true
 |_::_,[]=>false
 |x::xs,y::ys=>if x=y then lexLt xs ys else decide (x<y)
theorem acr(x y:Int)(xs ys:List Int):lexLt (x::xs) (y::ys)=if x=y then lexLt xs ys else decide (x<y):=rfl
theorem acs:lexLt [] []=false:=rfl
theorem acu(y:Int)(ys:List Int):lexLt [] (y::ys)=true:=rfl
theorem acv(x:Int)(xs:List Int):lexLt (x::xs) []=false:=rfl
theorem acw(A:Around)(s:Shared)(a:Int)(t:Tok)(c:Int)(u:Tok):∃e,SeqAt.EqAt A s (.int a t) (.int c u) e/\(e=true↔a=c) :=
 ⟨(a == c),SeqAt.EqAt.int_int a t c u,by simp⟩
theorem acy(A:Around)(s:Shared)(a:Int)(t:Tok)(c:Int)(u:Tok)(prog:Program)(w:World)(E:Value->Shared->Prop)(Q:Value->Shared->Prop)(h:Q (.bool (decide (a<c))) s) :
  wpAny (model prog w) A (richCompare .Lt (.int a t) (.int c u)) Q E s :=
 (PyProof.Rows.lt_int h:wpAny (model prog w) A (compareOp .Lt (.int a t) (.int c u)) Q E s)
section
open PySem.SeqAt
open PySem.AutoSeq1 (wpAny_loadPart')
open PySem.MeetsSeq PySem.MeetsSeq2 PySem.MeetsSeq3
theorem acz(l b:Addr)(items items2:Array Value)(n n2:Nat)(dd dd2:Option Addr)(sl sl2:Array (Option Value))(ns ms:List Int)(hi:IntsAre items.toList ns)(hj:IntsAre items2.toList ms) :
  Meets (Builtin.«tuple.__lt__» ⟨[.ref l,.ref b],[]⟩)
   (λ_ R s=>s.heap.get? l=some {cls:=.type "tuple",dict:=dd,data:=.seq items n,slots:=sl }∧s.heap.get? b=some {cls:=.type "tuple",dict:=dd2,data:=.seq items2 n2,slots:=sl2 } ∧
    R (.ok (.ret (.bool (lexLt ns ms)))) s) :=
 .of_wp λprog w A R s h=>by
  obtain⟨hp,g,d,tk,os⟩:=s; obtain⟨hl,hb,h⟩:=h
  have f2:=AutoSeq1.sub_tuple_tuple
  have z1:items.size=ns.length:=by rw[<-hi.length]; simp
  have z2:items2.size=ms.length:=by rw[<-hj.length]; simp
  wp_walk using wpAny_loadPart' hl,wpAny_loadPart' hb,wpAny_forIn_list _ (λrest b s'=>b.1=none/\s'=⟨hp,g,d,tk,os⟩/\∃(vs ws:List Value) (ns' rB:List Int),rest=vs.zip ws /\
   IntsAre vs ns'/\IntsAre ws rB/\ns'.length+items2.size=rB.length+items.size/\R (.ok (.ret (.bool (lexLt ns' rB)))) ⟨hp,g,d,tk,os⟩) _
  case turn =>
   rintro⟨y,x⟩ rest b s' ⟨hb',rfl,vs,ws,ns',rB,hz,Ed,hwi,hlen,hR⟩
   cases Ed with
   |nil=>rw[List.zip_nil_left]at hz; cases hz
   |cons a t acA =>
    cases hwi with
    |nil=>rw[List.zip_nil_right]at hz; cases hz
    |cons c u acB =>
     rw[List.zip_cons_cons]at hz
     injection hz with hyx hrest
     injection hyx with hy hx
     subst hy hx
     rw[acr]at hR
     simp only[List.length_cons]at hlen
     obtain⟨e,he,hiff⟩:=acw A.in1 ⟨hp,g,d,tk,os⟩ a t c u
     refine wpAny_bind (he prog w _ _ ?_)
     cases e with
     |true =>
      rw[if_pos (hiff.mp rfl)]at hR
      wp_walk
      exact⟨rfl,rfl,_,_,_,_,hrest,acA,acB,by lia,hR⟩
     |false =>
      rw[if_neg (λq=>absurd (hiff.mpr q) Bool.false_ne_true)]at hR
      have hri:=acy A.in1 ⟨hp,g,d,tk,os⟩ a t c u prog w
      wp_walk using hri
      exact⟨_,rfl,by simpa using hR⟩
  case fin =>
   rintro⟨b1,b2⟩ s' ⟨hb',rfl,vs,ws,ns',rB,hz,Ed,hwi,hlen,hR⟩
   simp only at hb'
   subst hb'
   have hv:lexLt ns' rB=decide (items.size<items2.size):=by
    cases Ed with
    |nil =>
     cases hwi with
     |nil =>
      simp only[List.length_nil]at hlen
      rw[acs]
      exact(decide_eq_false (by lia)).symm
     |cons c u hw =>
      simp only[List.length_nil,List.length_cons]at hlen
      rw[acu]
      exact(decide_eq_true (by lia)).symm
    |cons a t hv =>
     cases hwi with
     |nil =>
      simp only[List.length_nil,List.length_cons]at hlen
      rw[acv]
      exact(decide_eq_false (by lia)).symm
     |cons c u hw =>
      rw[List.zip_cons_cons]at hz
      cases hz
   rw[hv]at hR
   wp_walk
   exact⟨_,rfl,by simpa[Builtin.Tuple.tupleCompareSizes]using hR⟩
  case h =>
   exact⟨rfl,rfl,items.toList,items2.toList,ns,ms,rfl,hi,hj,by lia,h⟩
end
section
variable {prog:Program}{w:World}{A:Around}{E:Value->Shared->Prop}{s:Shared}
theorem acC(hl:IsTup s.heap l items)(hb:IsTup s.heap b items2)(hi:IntsAre items.toList ns)(hj:IntsAre items2.toList ms)
  (hu:A.units<cLine) (h:Q (.bool (lexLt ns ms)) s):wpAny (model prog w) A (compareOp .Lt (.ref l) (.ref b)) Q E s:=by
 obtain⟨⟨cls,dd,data,sl⟩,ho,hc,n,hd⟩:=id hl
 obtain⟨⟨cls2,dd2,data2,sl2⟩,ho2,hc2,n2,hd2⟩:=id hb
 simp only at hc hd hc2 hd2
 subst hc hd hc2 hd2
 exact richCompare_meets_room (op:=.Lt) ⟨_,ho,rfl⟩ ⟨_,ho2,rfl⟩ PySem.F.slot_tuple_lt PySem.F.entry_tuple_lt (PySem.F.args_tuple_lt_2 _ _) (acz l b items items2 n n2 dd dd2 sl sl2 ns ms hi hj)
  ⟨ho,ho2,show Value.bool (lexLt ns ms)≠Value.notImplemented/\Q (.bool (lexLt ns ms)) s from⟨(λx=>nomatch x),h⟩⟩ hu
theorem acD(ht:IsTup s.heap t vs.toArray)(hb:IsTup s.heap b ws.toArray)(hv:vs≠[])
  (h1:ws=[]->Q (.ref t) s) (h2:ws≠[]->Q (.ref s.heap.objs.size) {s with heap:=s.heap.push {cls:=.type "tuple",data:=.seq (vs++ws).toArray } })
  (hsz:vs.length+ws.length<=sizeLine):wpAny (model prog w) A (binaryOp .Add (.ref t) (.ref b)) Q E s:=by
 obtain⟨⟨cls,dd,data,sl⟩,ho,hc,n,hd⟩:=id ht
 obtain⟨⟨cls2,dd2,data2,sl2⟩,ho2,hc2,n2,hd2⟩:=id hb
 simp only at hc hd hc2 hd2
 subst hc hd hc2 hd2
 have e:vs.toArray++ws.toArray=(vs++ws).toArray:=by simp
 by_cases hw:ws=[]
 .exact concat_meets ⟨_,ho,rfl⟩ ⟨_,ho2,rfl⟩ noFill_tuple_add seq_tuple_add PySem.F.slot_tuple_add PySem.F.entry_tuple_add (PySem.F.args_tuple_add_2 _ _)
   (tuple_addW1 t b vs.toArray ws.toArray n n2 dd dd2 sl sl2 (by simpa using hv) (by simp[hw])) ⟨ho,ho2,h1 hw⟩
 .refine concat_meets ⟨_,ho,rfl⟩ ⟨_,ho2,rfl⟩ noFill_tuple_add seq_tuple_add PySem.F.slot_tuple_add PySem.F.entry_tuple_add (PySem.F.args_tuple_add_2 _ _)
   (tuple_addW2 t b vs.toArray ws.toArray n n2 dd dd2 sl sl2 (by simpa using hv) (by simpa using hw) (by rw[List.size_toArray,List.size_toArray]; exact hsz)) ⟨ho,ho2,?_⟩
  rw[e]
  exact h2 hw
noncomputable def aO(n d:Nat):Option Int->Nat
 |none=>d
 |some v=>if v<0 then(v+(n:Int)).toNat else min v.toNat n
theorem acE(n d:Nat)(hd:d<=n)(o:Option Int):aO n d o<=n:=by
 cases o with
 |none=>exact hd
 |some v =>
  show(if v<0 then(v+(n:Int)).toNat else min v.toNat n)<=n
  by_cases hv:v<0
  .rw[if_pos hv]; lia
  .rw[if_neg hv]; exact Nat.min_le_right _ _
theorem Ov(v:Int)(n d:Nat):(if v<0 then max (v+(n:Int)) 0 else min v (n:Int))=((aO n d (some v):Nat):Int):=by
 show(if v<0 then max (v+(n:Int)) 0 else min v (n:Int))=(((if v<0 then(v+(n:Int)).toNat else min v.toNat n):Nat):Int)
 by_cases hv:v<0
 .simp only[if_pos hv]; lia
 .simp only[if_neg hv]; lia
theorem acF(lo hi:Option Int)(n:Nat):Builtin.Slice.sliceAdjust lo hi 1 (n:Int)=(((aO n 0 lo:Nat):Int),((aO n n hi:Nat):Int)):=by
 have h1:¬((1:Int)<0):=by lia
 unfold Builtin.Slice.sliceAdjust
 simp only[h1,if_false]
 refine Prod.ext ?_ ?_
 .cases lo with
  |none=>rfl
  |some v=>exact Ov v n 0
 .cases hi with
  |none=>rfl
  |some v=>exact Ov v n n
theorem acG(i j:Nat):Builtin.Slice.slicePlaces (i:Int) (j:Int) 1=j-i:=by
 unfold Builtin.Slice.slicePlaces
 have h1:(1:Int) > 0:=by lia
 simp only[h1,if_true,Int.ediv_one]
 split <;> lia
theorem Ow(p:IsPart v o)(h:Q o s):wpAny (model prog w) A (Builtin.Slice.slicePartIndex v) Q E s:=by
 cases p with
 |none=>exact slicePart_none h
 |int i t=>exact slicePart_int h
theorem acH{sl:Addr}{vl vu:Value}{lo hi:Option Int}{n:Nat}{Q:Int × Int × Nat->Shared->Prop}(hs:s.heap.IsSliceOf sl vl vu .none)(pl:IsPart vl lo)(pu:IsPart vu hi)
  (h:Q (((aO n 0 lo:Nat):Int),1,aO n n hi-aO n 0 lo) s):wpAny (model prog w) A (Builtin.Slice.sliceApplied (.ref sl) (pure (n:Int))) Q E s:=by
 obtain⟨os,hos,hcs,hds⟩:=id hs
 unfold Builtin.Slice.sliceApplied Builtin.Slice.sliceFields
 refine wpAny_bind (wpAny_bind (wpAny_field hos hds (x:=vl) rfl (wpAny_bind (wpAny_field hos hds (x:=vu) rfl (wpAny_bind (wpAny_field hos hds (x:=.none) rfl (wpAny_pure ?_)))))))
 refine wpAny_bind (slicePart_none ?_)
 show wpAny _ _ (if((1:Int) == 0)=true then _ else _) _ _ s
 rw[if_neg (by decide)]
 refine wpAny_bind (Ow pl (wpAny_bind (Ow pu (wpAny_bind (wpAny_pure ?_)))))
 show wpAny _ _ (match Builtin.Slice.sliceAdjust lo hi 1 (n:Int)with|(lo,hi)=>pure (lo,(1:Int),Builtin.Slice.slicePlaces lo hi 1)) _ _ s
 rw[acF lo hi n]
 show wpAny _ _ (pure (((aO n 0 lo:Nat):Int),(1:Int),Builtin.Slice.slicePlaces ((aO n 0 lo:Nat):Int) ((aO n n hi:Nat):Int) 1)) _ _ s
 rw[acG]
 exact wpAny_pure h
theorem acI(xs:Array Value)(i k:Nat):((List.range k).filterMap λ(m:Nat)=>xs[((i:Int)+(m:Int)*1).toNat]?).toArray=((xs.toList.drop i).take k).toArray:=by
 have e:(λ(m:Nat)=>xs[((i:Int)+(m:Int)*1).toNat]?)=λm=>xs[i+m]? := by
  funext m
  have:((i:Int)+(m:Int)*1).toNat=i+m:=by lia
  rw[this]
 rw[e]
 have:=pick_run xs i k
 rw[List.filterMap_map]at this
 have e2:((λx=>xs[x]?) ∘ λx=>i+x)=λm=>xs[i+m]? := rfl
 rw[e2]at this
 rw[this]
theorem acJ{t sl:Addr}{items:Array Value}{vl vu:Value}{lo hi:Option Int}{Q:Value->Shared->Prop}(ht:IsTup s.heap t items)(hs:s.heap.IsSliceOf sl vl vu .none)(pl:IsPart vl lo)(pu:IsPart vu hi)
  (hw:¬(aO items.size 0 lo=0/\aO items.size items.size hi=items.size))
  (h:Q (.ref s.heap.objs.size) {s with heap:=s.heap.push {cls:=.type "tuple",data:=.seq ((items.toList.drop (aO items.size 0 lo)).take (aO items.size items.size hi-aO items.size 0 lo)).toArray } })
  (hsz:items.size<=sizeLine):wpAny (model prog w) A (getItem (.ref t) (.ref sl)) Q E s:=by
 have yu:sizeOk (.seq ((items.toList.drop (aO items.size 0 lo)).take (aO items.size items.size hi-aO items.size 0 lo)).toArray):=by
  show((items.toList.drop (aO items.size 0 lo)).take (aO items.size items.size hi-aO items.size 0 lo)).toArray.size<=sizeLine
  rw[List.size_toArray,List.length_take,List.length_drop,Array.length_toList]
  lia
 have hj:aO items.size items.size hi<=items.size:=acE _ _ (Nat.le_refl _) hi
 obtain⟨os,hos,hcs,hds⟩:=id hs
 have hTs:s.TypeIs (.ref sl) "slice" := ⟨os,hos,hcs⟩
 unfold getItem
 try with_reducible refine wpAny_holding ?_
 first|refine wpAny_bind (wpAny_pure ?_)|skip
 refine wpAny_bind (wpAny_sequenceKey ht.typeIs (by decide) ?_)
 refine wpAny_bind (wpAny_callSpecial?_slot (name:=Str.ofString "__getitem__") ht.typeIs PyProof.Rows.slot_tuple_getitem
  (wpAny_call_entry PyProof.Rows.slot_tuple_getitem ht.typeIs entry_tuple_getitem ?_ (args_tuple_getitem _ _)))
 show wpAny _ _ (Builtin.Tuple.tupleItemsOf (.ref t) >>= _) _ _ s
 refine wpAny_bind (tupleItemsOf_ ht ?_)
 refine wpAny_bind (wpAny_typeOf hTs ?_)
 rw[if_pos (by decide)]
 refine wpAny_bind (acH hs pl pu ?_)
 have hno:¬((((aO items.size 0 lo:Nat):Int) == 0&&(1:Int) == 1&&(aO items.size items.size hi-aO items.size 0 lo) == items.size)=true):=by
  intro q
  rw[Bool.and_eq_true,Bool.and_eq_true]at q
  have q1:((aO items.size 0 lo:Nat):Int)=0:=eq_of_beq q.1.1
  have q2:aO items.size items.size hi-aO items.size 0 lo=items.size:=eq_of_beq q.2
  exact hw ⟨by lia,by lia⟩
 show wpAny _ _ (if(((aO items.size 0 lo:Nat):Int) == 0&&(1:Int) == 1&&(aO items.size items.size hi-aO items.size 0 lo) == items.size)=true then _ else _) _ _ s
 rw[if_neg hno,acI]
 first
  |exact wpAny_bind (m:=Builtin.Tuple.tupleExact _) (wpAny_newObj_type (wpAny_pure ⟨_,rfl,wpAny_pure h⟩) yu)
  |exact wpAny_bind (m:=Builtin.Tuple.tupleExact _) (wpAny_newObj_type (wpAny_bind (wpAny_pure (wpAny_pure ⟨_,rfl,wpAny_pure h⟩))) yu)
  |exact wpAny_bind (wpAny_bind (m:=Builtin.Tuple.tupleExact _) (wpAny_newObj_type (wpAny_pure (wpAny_pure ⟨_,rfl,wpAny_pure h⟩)) yu))
  |exact wpAny_bind (wpAny_bind (m:=Builtin.Tuple.tupleExact _) (wpAny_newObj_type (wpAny_pure ⟨_,rfl,wpAny_pure h⟩) yu))
end
end HT
namespace L2
open PySem PySem.Spec PyProof.Rows
noncomputable abbrev TO:=St->Hp->(Option Int->Hp->Prop)->Prop
noncomputable def PO(X:Cx)(e:Option Expr)(t:TO):Prop :=
 ∀(pins:List (Addr × Obj)) (s:Shared) (σ : St) (H:Hp) (Q:Option Int->Hp->Prop),Inv X pins σ H s->t σ H Q ->
  wpAny (model X.prog X.w) X.A (evalPart e X.env) (λu s'=>∃o H',Inv X pins σ H' s'/\IsPart u o/\Q o H') X.xe s
noncomputable def acK:TO:=λ_ H Q=>Q none H
noncomputable def acL(t:TE):TO:=λσ H Q=>t σ H λx H1=>∃i,x=.int i/\Q (some i) H1
theorem intsAre_of:∀{us:List Value},Vals (ns.map V.int) us->IntsAre us ns:=by
 induction ns with
 |nil=>intro us r; rw[List.map_nil]at r; cases r; exact .nil
 |cons n ns ih =>
  intro us r
  rw[List.map_cons]at r
  cases r with
  |cons r1 r2 =>
   obtain⟨t,e⟩:=r1
   subst e
   exact .cons n t (ih r2)
section
variable {X:Cx}{e:Expr}{te:TE}{lo hi:Option Expr}{tl th:TO}{pos p2:Pos}
theorem acM:PO X none acK:=by
 intro pins s σ H Q I h
 rw[evalPart_none]
 exact wpAny_pure ⟨none,H,I,.none,h⟩
theorem acN(h:PE X e te):PO X (some e) (acL te):=by
 intro pins s σ H Q I hw
 rw[evalPart_some]
 refine aF (h pins s σ H _ I hw) λu s1 ⟨x,H1,I1,r1,q1⟩=>?_
 obtain⟨i,rfl,q⟩:=q1
 obtain⟨t,rfl⟩:=r1
 exact⟨some i,H1,I1,.int i t,q⟩
noncomputable def lU(X:Cx)(r:V->Option Int->Option Int->Hp->VK->Prop):Prop :=
 ∀(pins:List (Addr × Obj)) (s:Shared) (σ : St) (H:Hp) (x:V) (v vl vu:Value) (lo hi:Option Int) (sl:Addr) (Q:VK),Inv X pins σ H s->RelV x v->s.heap.IsSliceOf sl vl vu .none->IsPart vl lo->IsPart vu hi->r x lo hi H Q ->
  ∃T id,typeLookup (.type T) "__getitem__" = pure (some (.builtin id))/\s.TypeIs v T/\wpAny (model X.prog X.w) X.A (getItem v (.ref sl)) (EP X pins σ Q) X.xe s
theorem lU.or(h:lU X r)(h':lU X r'):lU X (λx lo hi H Q=>r x lo hi H Q\/r' x lo hi H Q):=by
 intro pins s σ H x v vl vu lo hi sl Q I rx hs pl pu q
 rcases q with q|q
 .exact h pins s σ H x v vl vu lo hi sl Q I rx hs pl pu q
 .exact h' pins s σ H x v vl vu lo hi sl Q I rx hs pl pu q
noncomputable def tSl(r:V->Option Int->Option Int->Hp->VK->Prop)(te:TE)(tl th:TO):TE:=λσ H Q=>te σ H λx H1=>tl σ H1 λl H2=>th σ H2 λu H3=>r x l u H3 Q
theorem acO(hr:lU X r)(he:PE X e te)(hl:PO X lo tl)(hu:PO X hi th):PE X (.Subscript e (.Slice lo hi none p2) pos) (tSl r te tl th):=by
 refine⟨λpins s σ H Q I h=>?_⟩
 refine Subscript_ (aF (he pins s σ H _ I h) λv s1 ⟨x,H1,I1,r1,q1⟩=>?_)
 refine wpAny_Slice (aF (hl pins s1 σ H1 _ I1 q1) λvl s2 ⟨l,H2,I2,pl,q2⟩=>aF (hu pins s2 σ H2 _ I2 q2) λvu s3 ⟨u,H3,I3,pu,q3⟩=>?_)
 rw[evalPart_none]
 refine wpAny_pure ?_
 have I4:Inv X pins σ H3 {s3 with heap:=s3.heap.push {cls:=.type "slice",data:=.fields #[vl,vu,.none] } }:=I3.kept (t':=s3.toks) λb ob q=>Heap.get?_push_of_some _ q
 obtain⟨T,id,hT,ht,hg⟩:=hr pins {s3 with heap:=s3.heap.push {cls:=.type "slice",data:=.fields #[vl,vu,.none] } } σ H3 x v vl vu l u s3.heap.objs.size Q I4 r1 (Heap.IsSliceOf.new ..) pl pu q3
 show wpAny (model X.prog X.w) X.A (subscriptTail e (.Slice lo hi none p2) v (.ref s3.heap.objs.size)) (EP X pins σ Q) X.xe {s3 with heap:=s3.heap.push {cls:=.type "slice",data:=.fields #[vl,vu,.none] } }
 exact tail_any (ops:=[.ref s3.heap.objs.size,v]) ht hT hg (by with_unfolding_all rfl)
noncomputable def nA(xs:List V)(lo hi:Option Int):List V:=(xs.drop (HT.aO xs.length 0 lo)).take (HT.aO xs.length xs.length hi-HT.aO xs.length 0 lo)
theorem Oz(xs:List V)(lo hi:Option Int):(nA xs lo hi).length<=xs.length:=by
 unfold nA
 rw[List.length_take,List.length_drop]
 lia
noncomputable def OD(K:PySem.W.Frag):V->Option Int->Option Int->Hp->VK->Prop:=λx lo hi H Q=>∃a xs,x=.ref a/\aX K H a xs /\
 ¬(HT.aO xs.length 0 lo=0/\HT.aO xs.length xs.length hi=xs.length)/\∀p,H p=none->Q (.ref p) (upd H p (.tup (nA xs lo hi)))
theorem acP:lU X (OD X.K):=by
 intro pins s σ H x v vl vu lo hi sl Q I rx hs pl pu h
 obtain⟨a,xs,rfl,hx,hw,q⟩:=h
 cases rx
 obtain⟨its,r,ht,hz⟩:=I.tuple hx
 have hlen:its.toArray.size=xs.length:=by rw[List.size_toArray]; exact r.length.symm
 refine⟨"tuple",_,PyProof.Rows.slot_tuple_getitem.lookup,ht.typeIs,?_⟩
 refine HT.acJ ht hs pl pu (by rw[hlen]; exact hw) ?_ (by rw[hlen]; exact hz)
 rw[hlen]
 refine⟨.ref s.heap.objs.size,_,I.laid (t':=s.toks) (o:=.tup (nA xs lo hi)) (λb ob q=>Heap.get?_push_of_some _ q) (Nat.le_refl _) ?_,rfl,q _ (I.hok.fresh (Nat.le_refl _))⟩
 exact⟨Nat.le_trans (Oz xs lo hi) hz,_,(r.drop (HT.aO xs.length 0 lo)).take (HT.aO xs.length xs.length hi-HT.aO xs.length 0 lo),IsTup.new _ _⟩
noncomputable def OJ(K:PySem.W.Frag):R2:=λx y H Q=>∃a b ns ms,x=.ref a/\y=.ref b/\aX K H a (ns.map V.int)/\aX K H b (ms.map V.int)/\Q (.bl (HT.lexLt ns ms)) H
theorem acQ(hu:X.A.units<cLine):bw X (compareOp .Lt) (OJ X.K):=by
 intro pins s σ H x y v u Q I rx ry h
 obtain⟨a,b,ns,ms,rfl,rfl,ha,hb,q⟩:=h
 cases rx
 cases ry
 obtain⟨its,r1,p1,_⟩:=I.tuple ha
 obtain⟨its2,r2,p2,_⟩:=I.tuple hb
 have i1:IntsAre its.toArray.toList ns:=intsAre_of r1
 have i2:IntsAre its2.toArray.toList ms:=intsAre_of r2
 exact HT.acC p1 p2 i1 i2 hu ⟨.bl (HT.lexLt ns ms),H,I,rfl,q⟩
noncomputable def O1(K:PySem.W.Frag):R2:=λx y H Q=>∃a b xs ys,x=.ref a/\y=.ref b/\aX K H a xs/\aX K H b ys/\xs≠[]/\xs.length+ys.length<=sizeLine /\
 (ys=[]->Q (.ref a) H)/\(ys≠[]->∀p,H p=none->Q (.ref p) (upd H p (.tup (xs++ys))))
theorem Vals.Ef(r:Vals xs us):us=[]↔xs=[]:=by
 cases r with
 |nil=>simp
 |cons _ _=>simp
theorem acR:bw X (binaryOp .Add) (O1 X.K):=by
 intro pins s σ H x y v u Q I rx ry h
 obtain⟨a,b,xs,ys,rfl,rfl,ha,hb,hx,hz,q1,q2⟩:=h
 cases rx
 cases ry
 obtain⟨its,r1,p1,_⟩:=I.tuple ha
 obtain⟨its2,r2,p2,_⟩:=I.tuple hb
 refine HT.acD p1 p2 (λz=>hx (r1.Ef.mp z)) (λz=>⟨.ref a,H,I,rfl,q1 (r2.Ef.mp z)⟩) (λz=>?_) (by rw[<-r1.length,<-r2.length]; exact hz)
 refine⟨.ref s.heap.objs.size,_,I.laid (t':=s.toks) (o:=.tup (xs++ys)) (λb ob q=>Heap.get?_push_of_some _ q) (Nat.le_refl _) ?_,rfl,q2 (λw=>z (r2.Ef.mpr w)) _ (I.hok.fresh (Nat.le_refl _))⟩
 exact⟨by rw[List.length_append]; exact hz,_,r1.append r2,IsTup.new _ _⟩
end
noncomputable def eH(n:Nat)(i:Int):Option Nat:=if 0<=i then(if i<n then some i.toNat else none)else if -(n:Int)<=i then some (i+n).toNat else none
noncomputable def dX{α : Type}(xs:List α)(i:Int):Option α := (eH xs.length i).bind λj=>xs[j]?
theorem O2(h:eH n i=some j):seqIndex? i n=some j/\j<n /\ -(n:Int)<=i/\i<n:=by
 unfold eH at h
 by_cases h0:0<=i
 .rw[if_pos h0]at h
  by_cases h1:i<n
  .rw[if_pos h1]at h
   have e:i.toNat=j:=Option.some.inj h
   exact⟨by rw[seqIndex_of h0 h1,e],by lia,by lia,h1⟩
  .rw[if_neg h1]at h; cases h
 .rw[if_neg h0]at h
  by_cases h1 : -(n:Int)<=i
  .rw[if_pos h1]at h
   have e:(i+n).toNat=j:=Option.some.inj h
   exact⟨by rw[seqIndex_neg (by lia) h1,e],by lia,h1,by lia⟩
  .rw[if_neg h1]at h; cases h
theorem Eh{α : Type}{xs:List α}{i:Int}{v : α}(h:dX xs i=some v):∃j,seqIndex? i xs.length=some j/\xs[j]?=some v/\j<xs.length /\ -(xs.length:Int)<=i/\i<xs.length:=by
 unfold dX at h
 cases e:eH xs.length i with
 |none=>rw[e]at h; cases h
 |some j =>
  rw[e]at h
  obtain⟨h1,h2,h3,h4⟩:=O2 e
  exact⟨j,h1,h,h2,h3,h4⟩
noncomputable def O3(b:Expr):Prop:=∀o i,subscripted b false o i=operate [o,i] (getItem o i)
noncomputable def lV(X:Cx)(r:R2):Prop :=
 ∀(value slice:Expr) (pins:List (Addr × Obj)) (s:Shared) (σ : St) (H:Hp) (x y:V) (v u:Value) (Q:VK),Inv X pins σ H s->RelV x v->RelV y u->r x y H Q ->
  subscripted slice false v u=operate [v,u] (getItem v u)->wpAny (model X.prog X.w) X.A (subscriptTail value slice v u) (EP X pins σ Q) X.xe s
noncomputable def uF(X:Cx)(id:String)(r:V->List V->Hp->VK->Prop):Prop :=
 ∀(pins:List (Addr × Obj)) (s:Shared) (σ : St) (H:Hp) (x:V) (xs:List V) (v:Value) (us:List Value) (Q:VK),Inv X pins σ H s->RelV x v->Vals xs us->r x xs H Q ->
  wpAny (model X.prog X.w) X.A (call (.builtin id) (v::us)) (EP X pins σ Q) X.xe s
section
variable {X:Cx}{a b:Expr}{ta tb:TE}{pos:Pos}
theorem lV.or(h:lV X r)(h':lV X r'):lV X (λx y H Q=>r x y H Q\/r' x y H Q):=by
 intro value slice pins s σ H x y v u Q I rx ry q hs
 rcases q with q|q
 .exact h value slice pins s σ H x y v u Q I rx ry q hs
 .exact h' value slice pins s σ H x y v u Q I rx ry q hs
theorem uF.or{id:String}{r r':V->List V->Hp->VK->Prop}(h:uF X id r)(h':uF X id r'):uF X id (λx xs H Q=>r x xs H Q\/r' x xs H Q):=by
 intro pins s σ H x xs v us Q I rx rs q
 rcases q with q|q
 .exact h pins s σ H x xs v us Q I rx rs q
 .exact h' pins s σ H x xs v us Q I rx rs q
theorem yw(hr:lV X r)(ha:PE X a ta)(hb:PE X b tb)(hs:O3 b):PE X (.Subscript a b pos) (uz r ta tb):=by
 refine⟨λpins s σ H Q I h=>?_⟩
 exact Subscript_ (Dw ha hb I h λv u s2 x y H2 I2 rx ry q=>hr a b pins s2 σ H2 x y v u Q I2 rx ry q (hs _ _))
noncomputable def O4(K:PySem.W.Frag):R2:=λx y H Q=>∃p xs i v,x=.ref p/\y=.int i/\aL K H p xs/\dX xs i=some v/\Q v H
noncomputable def O5(K:PySem.W.Frag):R2:=λx y H Q=>∃p xs i v,x=.ref p/\y=.int i/\aX K H p xs/\dX xs i=some v/\Q v H
noncomputable def O6:R2:=λx y H Q=>∃z i c,x=.str z/\y=.int i/\z.length<=sizeLine/\dX z.cps.toList i=some c/\Q (.str ⟨#[c]⟩) H
theorem acS:lV X (O4 X.K):=by
 intro value slice pins s σ H x y v u Q I rx ry h hs
 obtain⟨p,xs,i,z,rfl,rfl,hq,he,q⟩:=h
 cases rx
 obtain⟨t,rfl⟩:=ry
 obtain⟨its,r,pl,hz⟩:=I.list hq
 obtain⟨j,h1,h2,h3,h4,h5⟩:=Eh he
 obtain⟨w,ew,o9⟩:=r.get h2
 have hl:=r.length
 have hn:=pA
 have fin:EP X pins σ Q w s:=⟨z,H,I,o9,q⟩
 by_cases h0:0<=i
 .have hj:i.toNat=j:=by
   rw[seqIndex_of h0 h5]at h1
   exact Option.some.inj h1
  exact item_listR pl.isList h0 (by lia) (by rw[hj]; simpa using ew) fin hs
 .have hj:(i+(its.toArray.size:Int)).toNat=j:=by
   rw[seqIndex_neg (by lia) h4]at h1
   rw[List.size_toArray,<-hl]
   exact Option.some.inj h1
  exact subscriptTail_builtinR (x:=w) pl.isList.typeIs slot_list_getitem.lookup
   (wpAny_getItem_list_neg (Q:=λr s'=>r=w/\EP X pins σ Q r s') pl.isList (by lia) (by rw[List.size_toArray] <;> lia) (by lia) (by rw[hj]; simpa using ew) ⟨rfl,fin⟩) hs
theorem acT:lV X (O5 X.K):=by
 intro value slice pins s σ H x y v u Q I rx ry h hs
 obtain⟨p,xs,i,z,rfl,rfl,hq,he,q⟩:=h
 cases rx
 obtain⟨t,rfl⟩:=ry
 obtain⟨its,r,pl,hz⟩:=I.tuple hq
 obtain⟨j,h1,h2,h3,h4,h5⟩:=Eh he
 obtain⟨w,ew,o9⟩:=r.get h2
 have hl:=r.length
 have hn:=pA
 have fin:EP X pins σ Q w s:=⟨z,H,I,o9,q⟩
 exact subscriptTail_builtinR (x:=w) pl.typeIs slot_tuple_getitem.lookup
  (getItem_tuple (j:=j) (Q:=λr s'=>r=w/\EP X pins σ Q r s') pl (by lia) (by lia) (by rw[List.size_toArray,<-hl]; exact h1) (by simpa using ew) ⟨rfl,fin⟩) hs
theorem acU:lV X O6:=by
 intro value slice pins s σ H x y v u Q I rx ry h hs
 obtain⟨z,i,c,rfl,rfl,hz,he,q⟩:=h
 obtain⟨t,rfl⟩:=rx
 obtain⟨t',rfl⟩:=ry
 obtain⟨j,h1,h2,h3,h4,h5⟩:=Eh he
 have hl:z.cps.toList.length=z.length:=by simp[Str.length]
 rw[hl]at h1 h4 h5
 have hn:=pA
 exact tail_any (typeIs_str s z t) slot_str_getitem.lookup (getItem_str (c:=c) (by
  have e1:decide (i < -(2 ^ 63:Int))=false:=decide_eq_false (by lia)
  have e2:decide (i >= 2 ^ 63)=false:=decide_eq_false (by lia)
  rw[e1,e2,Bool.or_false]) (by rw[h1]; simpa using h2) ⟨.str ⟨#[c]⟩,H,I.tok _,⟨_,rfl⟩,q⟩) hs
noncomputable def O7(K:PySem.W.Frag):R2:=λx y H Q=>O4 K x y H Q\/O5 K x y H Q\/O6 x y H Q
theorem yx:lV X (O7 X.K):=acS.or (acT.or acU)
theorem acV(its:List Value)(n j:Nat)(u:Value):Obj.mapSeq (·.setIfInBounds j u) {cls:=.type "list",data:=.seq its.toArray n }={cls:=.type "list",data:=.seq (its.set j u).toArray n }:=by
 simp[Obj.mapSeq]
theorem Inv.lst{pins:List (Addr × Obj)}{σ : St}{H:Hp}{s:Shared}{p:Addr}{xs:List V}(I:Inv X pins σ H s)(h:H p=some (.lst xs)) :
  ∃(its:List Value) (n:Nat),Vals xs its/\s.heap.get? p=some {cls:=.type "list",data:=.seq its.toArray n }/\xs.length<=sizeLine:=by
 obtain⟨z,its,n,r,e⟩:=I.hok p _ h
 exact⟨its,n,r,e,z⟩
theorem Inv.acW{pins:List (Addr × Obj)}{σ : St}{H:Hp}{s:Shared}{p:Addr}{xs ys:List V}{its its':List Value}{n n':Nat}{f:Obj->Obj}(I:Inv X pins σ H s)(h:H p=some (.lst xs))
  (ho:s.heap.get? p=some {cls:=.type "list",data:=.seq its.toArray n }) (hf:f {cls:=.type "list",data:=.seq its.toArray n }={cls:=.type "list",data:=.seq its'.toArray n' }) (r:Vals ys its') (hz:ys.length<=sizeLine) (t:Nat) :
  Inv X pins σ (upd H p (.lst ys)) {s with heap:=s.heap.update p f,toks:=t }:=by
 have e:(s.heap.update p f).get? p=some {cls:=.type "list",data:=.seq its'.toArray n' }:=by
  rw[Heap.get?_update_self f ho (by rw[hf] <;> rfl),hf]
 refine I.write (x:=p) (e:=p) (by rw[h]; trivial) (.inl rfl) (λb u hb q=>(Heap.get?_update_other _ _ (Ne.symm hb)).trans q) ⟨_,e⟩ ?_
 exact⟨hz,its',n',r,e⟩
noncomputable def acX:V->V->V->Hp->(Hp->Prop)->Prop:=λo i v H Q=>∃p xs k j,o=.ref p/\i=.int k/\H p=some (.lst xs)/\eH xs.length k=some j/\Q (upd H p (.lst (xs.set j v)))
theorem set_list:Np X acX:=by
 intro pins s σ H o i v ov iv u Q I ro ri rv h
 obtain⟨p,xs,k,j,rfl,rfl,hp,hj,q⟩:=h
 cases ro
 obtain⟨t,rfl⟩:=ri
 obtain⟨its,n,r,ho,hz⟩:=I.lst hp
 obtain⟨h1,h2,h3,h4⟩:=O2 hj
 have hl:=r.length
 have hn:=pA
 have I':Inv X pins σ (upd H p (.lst (xs.set j v))) {s with heap:=s.heap.update p (Obj.mapSeq (·.setIfInBounds j u)) } :=
  I.acW hp ho (acV its n j u) (r.set rv j) (by rw[List.length_set]; exact hz) s.toks
 by_cases h0:0<=k
 .have hk:k.toNat=j:=by
   rw[seqIndex_of h0 h4]at h1
   exact Option.some.inj h1
  exact PySem.W.ki_setAt ho h0 (by lia) (by rw[List.size_toArray,<-hl]; exact h4) (by rw[hk]; exact⟨_,I',q⟩)
 .have hk:(k+(its.toArray.size:Int)).toNat=j:=by
   rw[seqIndex_neg (by lia) h3]at h1
   rw[List.size_toArray,<-hl]
   exact Option.some.inj h1
  exact PySem.W.ki_setBack ho (by lia) (by rw[List.size_toArray,<-hl]; exact h3) (by lia) (by rw[hk]; exact⟨_,I',q⟩)
theorem acY(lo hi:Option Int)(n:Nat):(sliceBounds lo hi none n).1=((HT.aO n 0 lo:Nat):Int)/\(sliceBounds lo hi none n).2.1=((HT.aO n n hi:Nat):Int)/\(sliceBounds lo hi none n).2.2=1:=by
 refine⟨?_,?_,rfl⟩
 .cases lo with
  |none=>simp[sliceBounds,HT.aO]
  |some i =>
   simp only[sliceBounds,HT.aO,Option.getD_none,show(1:Int) > 0 by decide,if_true]
   by_cases h:i<0
   .simp only[h,if_true] <;> lia
   .simp only[h,if_false] <;> lia
 .cases hi with
  |none=>simp[sliceBounds,HT.aO]
  |some i =>
   simp only[sliceBounds,HT.aO,Option.getD_none,show(1:Int) > 0 by decide,if_true]
   by_cases h:i<0
   .simp only[h,if_true] <;> lia
   .simp only[h,if_false] <;> lia
theorem acZ(its:List Value)(lo hi:Option Int):slicePick its.toArray lo hi none=((its.drop (HT.aO its.length 0 lo)).take (HT.aO its.length its.length hi-HT.aO its.length 0 lo)).toArray:=by
 obtain⟨h1,h2,h3⟩:=acY lo hi its.toArray.size
 unfold slicePick
 rw[h1,h2,h3]
 simp only[sliceRange_one,pick_run,List.size_toArray] <;> rfl
noncomputable def O8(K:PySem.W.Frag):V->Option Int->Option Int->Hp->VK->Prop:=λx lo hi H Q=>∃a xs,x=.ref a/\aL K H a xs/\∀p,H p=none->Q (.ref p) (upd H p (.lst (nA xs lo hi)))
theorem ac0:lU X (O8 X.K):=by
 intro pins s σ H x v vl vu lo hi sl Q I rx hs pl pu h
 obtain⟨a,xs,rfl,hx,q⟩:=h
 cases rx
 obtain⟨its,r,ht,hz⟩:=I.list hx
 have hlen:=r.length
 refine⟨"list",_,slot_list_getitem.lookup,ht.isList.typeIs,?_⟩
 refine wpAny_getItem_list_slice ht.isList hs pl pu .none (by simp) ?_ (by rw[List.size_toArray] <;> lia)
 rw[acZ,<-hlen]
 refine⟨.ref s.heap.objs.size,_,I.laid (t':=s.toks) (o:=.lst (nA xs lo hi)) (λb ob q=>Heap.get?_push_of_some _ q) (Nat.le_refl _) ?_,rfl,q _ (I.hok.fresh (Nat.le_refl _))⟩
 exact⟨Nat.le_trans (Oz xs lo hi) hz,_,0,(r.drop (HT.aO xs.length 0 lo)).take (HT.aO xs.length xs.length hi-HT.aO xs.length 0 lo),Heap.get?_push_size _ rfl⟩
theorem ac1:eV X (.builtin "len") (λxs H Q=>∃p ys,xs=[.ref p]/\(aL X.K H p ys\/aX X.K H p ys)/\Q (.int ys.length) H):=by
 intro pins s σ H xs us Q I r h
 obtain⟨p,ys,rfl,hq,q⟩:=h
 obtain⟨u,rfl,rx⟩:=vals1 r
 cases rx
 have hn:=pA
 rcases hq with hq|hq
 .obtain⟨its,r',pl,hz⟩:=I.list hq
  have hlen:=r'.length
  exact Calls.call_len_list pl.isList (by simp only[List.size_toArray] <;> lia) ⟨.int ys.length,H,I.tok _,⟨s.toks+1,by rw[List.size_toArray,hlen]⟩,q⟩
 .obtain⟨its,r',pl,hz⟩:=I.tuple hq
  have hlen:=r'.length
  exact len_tuple pl (by simp only[List.size_toArray] <;> lia) ⟨.int ys.length,H,I.tok _,⟨s.toks+1,by rw[List.size_toArray,hlen]⟩,q⟩
theorem ac2:eV X (.builtin "len") (λxs H Q=>∃z,xs=[.str z]/\z.length<=sizeLine/\Q (.int z.length) H):=by
 intro pins s σ H xs us Q I r h
 obtain⟨z,rfl,hz,q⟩:=h
 obtain⟨u,rfl,t,rfl⟩:=vals1 r
 have hn:=pA
 exact len_str (by lia) ⟨.int z.length,H,I.tok _,⟨_,rfl⟩,q⟩
theorem eV.or(h:eV X f r)(h':eV X f r'):eV X f (λxs H Q=>r xs H Q\/r' xs H Q):=by
 intro pins s σ H xs us Q I rs q
 rcases q with q|q
 .exact h pins s σ H xs us Q I rs q
 .exact h' pins s σ H xs us Q I rs q
theorem ac3:eV X (.type "list") (λxs H Q=>∃p ys,xs=[.ref p]/\(aL X.K H p ys\/aX X.K H p ys)/\∀l,H l=none->Q (.ref l) (upd H l (.lst ys))):=by
 intro pins s σ H xs us Q I r h
 obtain⟨p,ys,rfl,hq,q⟩:=h
 obtain⟨u,rfl,rx⟩:=vals1 r
 cases rx
 have fin:∀(its:List Value),Vals ys its->ys.length<=sizeLine->∀(h':Heap) (c':Nat),(∀b o',s.heap.get? b=some o'->h'.get? b=some o') ->
   h'.get? s.heap.objs.size=some {cls:=.type "list",dict:=none,data:=.seq its.toArray c',slots:=#[] }->EP X pins σ Q (.ref s.heap.objs.size) {s with heap:=h' }:=λits r' hz h' c' kp e =>
  ⟨.ref s.heap.objs.size,_,I.laid (t':=s.toks) kp (Nat.le_refl _) (show fQ X.prog X.w _ h' _ (.lst ys)from⟨hz,its,c',r',e⟩),rfl,q _ (I.hok.fresh (Nat.le_refl _))⟩
 rcases hq with hq|hq
 .obtain⟨its,r',pl,hz⟩:=I.list hq
  have hlen:=r'.length
  obtain⟨o,ho,hc,n,hd⟩:=pl.isList
  exact call_list_seq p (.inl rfl) ho hc hd (λh' c' kp e=>fin its r' hz h' c' kp e) (by simp only[List.size_toArray] <;> lia)
 .obtain⟨its,r',pl,hz⟩:=I.tuple hq
  have hlen:=r'.length
  obtain⟨o,ho,hc,n,hd⟩:=pl
  exact call_list_seq p (.inr rfl) ho hc hd (λh' c' kp e=>fin its r' hz h' c' kp e) (by simp only[List.size_toArray] <;> lia)
noncomputable def O9(K:PySem.W.Frag)(T:String)(x:V)(H:Hp):Prop:=match x with
 |.str _=>T = "str"
 |.int _=>T = "int"
 | .ref p=>(T = "list" ∧ ∃xs,aL K H p xs)∨(T = "tuple" ∧ ∃o,K.lookup p=some o∧o.cls=.type "tuple" ∧ o.dict=none)
 |_=>False
theorem ac4(I:Inv X pins σ H s)(r:RelV x v)(ty:O9 X.K T x H) :
  s.TypeIs v T/\∀a,v=.ref a->∃ob,s.heap.get? a=some ob/\ob.dict=none:=by
 cases x with
 |str z =>
  obtain⟨t,rfl⟩:=r
  cases(show T = "str" from ty)
  exact⟨typeIs_str s z t,λ_ e=>nomatch e⟩
 |int i =>
  obtain⟨t,rfl⟩:=r
  cases(show T = "int" from ty)
  exact⟨typeIs_int s i t,λ_ e=>nomatch e⟩
 |ref p =>
  cases r
  rcases ty with⟨rfl,xs,hq⟩|⟨rfl,o,hk,hc,hd⟩
  .obtain⟨its,_,pl,_⟩:=I.list hq
   refine⟨pl.isList.typeIs,λa e=>?_⟩
   cases e
   obtain⟨o,n,e,c,hd,_⟩:=pl
   exact⟨o,e,hd⟩
  .refine⟨⟨o,I.dG p o hk,hc⟩,λa e=>?_⟩
   cases e
   exact⟨o,I.dG _ o hk,hd⟩
 |_=>exact False.elim ty
noncomputable def tBM(K:PySem.W.Frag)(T:String)(r:V->List V->Hp->VK->Prop)(to:TE)(t:TA):TE:=λσ H Q=>to σ H λx H1=>O9 K T x H1/\t σ H1 λxs H2=>r x xs H2 Q
variable {o e:Expr}{es:List Expr}{to:TE}{t:TA}{name:Str}{apos cpos:Pos}{T id:String}{r:V->List V->Hp->VK->Prop}
theorem ac5(pa:PlainAttrs T)(slot:Slot T name id)(hty:typeOf (.builtin id)=pure (.type "method_descriptor")) (hm:uF X id r) (ho:PE X o to) (ha:PA X (e::es) t)
  (hbase:attributeBase o name X.env (eval o X.env)=eval o X.env:=by rfl)
  (hfew:((backTo cpos (starEach (e::es) X.env)).all (λx=>!x.1)&&(backToKw cpos (keywordEach [] X.env)).all (λx=>x.1.isSome)
   && decide ((e::es).length+([]:List Keyword).length+(if([]:List Keyword).isEmpty then 0 else 1)<30))=true:=by rfl)
  (hline:(apos.endLine == cpos.line)=true:=by rfl) (hs:starEach (e::es) X.env=(false,eval e X.env)::starEach es X.env:=by rfl) (hplain:(backTo cpos (starEach es X.env)).any (·.1)=false:=by rfl) :
  PE X (.Call (.Attribute o name apos) (e::es) [] cpos) (tBM X.K T r to t):=by
 refine⟨λpins s σ H Q I h=>?_⟩
 refine wpAny_Call_method_late hbase hfew hline rfl (aF (ho pins s σ H _ I h) λv s1 ⟨x,H1,I1,r1,ty,q1⟩=>?_)
 obtain⟨h1,h2⟩:=ac4 I1 r1 ty
 refine⟨T,id,pa,slot,hty,h1,h2,?_⟩
 have hA:=ha cpos pins s1 σ H1 _ I1 q1
 rw[hs]at hA ⊢
 refine Calls.callWith_builtin (by show(false || (backTo cpos (starEach es X.env)).any (·.1))=false; rw[hplain] <;> rfl) (Calls.evalArgs_plain ?_)
 exact aF hA λus s2 ⟨vs,H2,I2,r2,q2⟩=>hm pins s2 σ H2 x vs v us Q I2 r1 r2 q2
end
noncomputable def Ei(X:Cx)(id:String)(r:V->List V->Hp->VK->Prop):Prop :=
 ∀(pins:List (Addr × Obj)) (s:Shared) (σ : St) (H:Hp) (x:V) (xs:List V) (v:Value) (us:List Value) (Q:VK),Inv X pins σ H s->RelV x v->Vals xs us->r x xs H Q ->
  wpAny (model X.prog X.w) X.A (call (.builtin id) (v::us)) (EP X pins σ Q) X.xe s
theorem Vals.one:∀{x:V} {us:List Value},Vals [x] us->∃u,us=[u]/\RelV x u
 |_,_,.cons r .nil=>⟨_,rfl,r⟩
theorem Vals.zero:∀{us:List Value},Vals [] us->us=[]
 |_,.nil=>rfl
theorem Vals.reverse{xs:List V}{us:List Value}(h:Vals xs us):Vals xs.reverse us.reverse:=by
 induction h with
 |nil=>exact .nil
 |cons r t ih=>rw[List.reverse_cons,List.reverse_cons]; exact Vals.append ih (.cons r .nil)
theorem Vals.rep(h:Vals xs us):∀k:Nat,Vals (List.replicate k xs).flatten (List.replicate k us).flatten
 | 0=>.nil
 |k+1=>by
  rw[List.replicate_succ,List.replicate_succ,List.flatten_cons,List.flatten_cons]
  exact Vals.append h (Vals.rep h k)
theorem foldl_rep(its:List Value):∀(k:Nat) (acc:List Value),
  List.foldl (λx1 x2=>x1++x2) acc.toArray (List.replicate k its.toArray)=(acc++(List.replicate k its).flatten).toArray
 | 0,acc=>by simp
 |k+1,acc=>by
  have e:acc.toArray++its.toArray=(acc++its).toArray:=by simp
  have e2:(acc++its)++(List.replicate k its).flatten=acc++(List.replicate (k+1) its).flatten:=by
   rw[List.replicate_succ,List.flatten_cons,List.append_assoc]
  rw[<-e2,<-foldl_rep its k (acc++its),<-e,List.replicate_succ,List.foldl_cons]
section
variable {X:Cx}{pins:List (Addr × Obj)}{σ : St}{H:Hp}{s:Shared}{l b:Addr}{xs ys zs:List V}
theorem Inv.Pa{its its':List Value}{n:Nat}{f:Array Value->Array Value}{t':Nat}(I:Inv X pins σ H s)(hH:H l=some (.lst xs))
  (e:s.heap.get? l=some {cls:=.type "list",data:=.seq its.toArray n }) (hf:f its.toArray=its'.toArray) (hv:Vals ys its') (hz:ys.length<=sizeLine) :
  Inv X pins σ (upd H l (.lst ys)) {s with heap:=s.heap.update l (Obj.mapSeq f),toks:=t' }:=by
 have q:=PySem.IsL.update e f
 rw[hf]at q
 refine I.write (x:=l) (e:=l) (by rw[hH]; exact trivial) (.inl rfl) (λb' u hb hu=>(Heap.get?_update_other s.heap (Obj.mapSeq f) (Ne.symm hb)).trans hu) ⟨_,q⟩ ?_
 exact⟨hz,its',_,hv,q⟩
theorem Inv.Ej(I:Inv X pins σ H s)(hv:Vals ys its)(hz:ys.length<=sizeLine) :
  Inv X pins σ (upd H s.heap.objs.size (.lst ys)) {s with heap:=s.heap.push {cls:=.type "list",data:=.seq its.toArray },toks:=t' } :=
 I.laid (λ_ _ q=>Heap.get?_push_of_some _ q) (Nat.le_refl _) ⟨hz,its,0,hv,Heap.get?_push_size _ rfl⟩
theorem Inv.fresh(I:Inv X pins σ H s):H s.heap.objs.size=none:=I.hok.fresh (Nat.le_refl _)
theorem Inv.Pb(I:Inv X pins σ H s)(hH:H l=some (.lst xs)):xs.length<=sizeLine/\∃(its:List Value) (n:Nat),Vals xs its/\xs.length=its.length/\s.heap.get? l=some {cls:=.type "list",data:=.seq its.toArray n }:=by
 obtain⟨z,its,n,r,e⟩:=I.hok l _ hH
 exact⟨z,its,n,r,r.length,e⟩
theorem ac6{n:Nat}(h:n<=sizeLine):Builtin.List.listTooLong n=false:=by
 unfold Builtin.List.listTooLong
 exact decide_eq_false (by lia)
end
section
variable {X:Cx}
noncomputable def Ek:V->List V->Hp->VK->Prop:=λx vs H Q=>∃l xs y,x=.ref l/\vs=[y]/\H l=some (.lst xs)/\xs.length<sizeLine/\Q .non (upd H l (.lst (xs++[y])))
theorem Pg:Ei X "list.append" Ek:=by
 intro pins s σ H x vs v us Q I rx rv h
 obtain⟨l,xs,y,rfl,rfl,hH,hz,q⟩:=h
 cases rx
 obtain⟨u,rfl,ru⟩:=rv.one
 obtain⟨z,its,n,r,hl,e⟩:=I.Pb hH
 refine call_meets F.slot_list_append ⟨_,e,rfl⟩ F.entry_list_append (F.args_list_append_2 _ _) (PySem.list_append l its.toArray n u (by rw[List.size_toArray]; lia)) ⟨e,?_⟩
 refine⟨.non,_,I.Pa (its':=its++[u]) hH e (by simp) (r.append (.cons ru .nil)) ?_,rfl,q⟩
 rw[List.length_append,List.length_singleton]
 lia
theorem len_rep{α : Type}(xs:List α)(k:Nat):(List.replicate k xs).flatten.length=k*xs.length:=by
 induction k with
 |zero=>simp
 |succ k ih=>rw[List.replicate_succ,List.flatten_cons,List.length_append,ih,Nat.succ_mul,Nat.add_comm]
end
end L2
namespace Ph
open PySem PySem.W PySem.Calls PyProof.Rows
theorem ac7:∀(ns:List Int) (vs:List Value),WellAll P h vs (ns.map WData.int)->IntsAre vs ns:=by
 intro ns
 induction ns with
 |nil =>
  intro vs w
  rw[List.map_nil]at w
  cases w
  exact .nil
 |cons n ns ih =>
  intro vs w
  rw[List.map_cons]at w
  cases w with
  |cons a b =>
   cases a
   exact .cons _ _ (ih _ b)
theorem ac8{l:OpenLaw}{n:Nat}(hn:l.most=some n){P:Params}{h:Heap}{args:List WData}{vals:List Value}
  (hpre:l.row.toRowW.claim.pre args=true) (hwl:WellAll P h vals args) :
  ∃a vs ns,vals=[Value.ref a]/\args=[WData.list (ns.map WData.int)]/\h.get? a=some {cls:=.type "list",data:=.seq vs.toArray }/\IntsAre vs ns/\ns.length<=n:=by
 have hsh:WShape.hasAll [] args [.list .int]=true:=(pre_splitW hpre).1
 have hc:l.pre.holds [] {args:=args }=true:=(pre_splitW hpre).2
 obtain⟨d,r,rfl,h1,h2⟩:=hasAllW_cons hsh
 obtain rfl:=hasAllW_nil h2
 obtain⟨xs,rfl,h3⟩:=hasW_list h1
 obtain⟨ns,rfl⟩:=items_int h3
 have hlen:ns.length<=n:=by
  unfold OpenLaw.pre at hc
  have h4:(WTm.not (.lt (.lit (.int (n:Int))) (.len (.arg 0)))).holds [] {args:=[.list (ns.map .int)] }=true:=by
   have h4:=(holds_andW hc).1
   rw[hn]at h4
   exact h4
  have h5:=condW_of h4 (w_not (w_lt w_lit (w_len_list (w_arg rfl))))
  rw[List.length_map]at h5
  refine Nat.le_of_not_lt λq=>?_
  have q':(n:Int)<((ns.length:Nat):Int):=by lia
  first
   |(rw[decide_eq_true q']at h5; exact absurd h5 (by decide))
   |(simp at h5; lia)
 cases hwl with
 |cons w1 w2 =>
  cases w2
  cases w1 with
  |list ho hall=>exact⟨_,_,ns,rfl,rfl,ho,ac7 ns _ hall,hlen⟩
theorem ac9(l:OpenLaw)(args:List WData):l.row.toRowW.claim.post args (.bool true) args=true :=
 postW_of (r:=l.row.toRowW) (X:=(true == true))
  (show WShape.has [] (.bool true) .bool=true by first|rfl|decide|simp[WShape.has,WShape.arms,WShape.armsAll])
  (show(WTm.eq .res (.lit (.bool true))).value [] {args:=args,res:=some (.bool true),after:=args }=some (.bool (true == true))from w_eq_bool (w_res rfl) w_lit) rfl
theorem ada{l:OpenLaw}{n:Nat}{q:Program}{loose:List Str}{XP:(Str->Option Value)->Heap->Prop}{YP:World->Heap->Prop}{d:DefRec}
  (hn:l.most=some n) (hdf:d.params.defaults=[])
  (call:∀(w:World) (s₀ s₁ : Shared) (mg mb:Str->Option Value) (fa:Addr) (o:Obj) (pm cd doc:Value) (a:Addr) (vs:List Value) (ns:List Int),
   Ground q loose [] XP w s₀ mg mb s₁.heap->YP w s₁.heap ->
   s₁.heap.get? fa=some o->o.data=.func (docDef d.name d.params d.body d.scope pm cd doc)->s₁.heap.CodeRec cd d.name->mg d.name=some (.ref fa) ->
   s₁.heap.get? a=some {cls:=.type "list",data:=.seq vs.toArray }->IntsAre vs ns->ns.length<=n->s₁.gens = #[] ->
   codeAny (model l.prog w) callerA (.call (.ref fa) ⟨[.ref a],[]⟩) (λr s'=>r=.ok (.ret (.bool true))/\OldK s₁.heap s'.heap/\s'.os=s₁.os/\AllBare s'.gens) s₁) :
  WalkO q loose XP YP l.row.toRowW d [] (λf vs=>PySem.call f vs):=by
 intro w s₀ s₁ mg mb G Y fa o pm cd doc dV kV ho hd hcd hD hmg hg args vals as hpre hlay hrd hwl hlo
 obtain rfl:dV=.none:=Dflts.none hD hdf
 obtain rfl:kV=.none:=Dflts.noKw hD
 obtain⟨a,vs,ns,rfl,rfl,hobj,hints,hlen⟩:=ac8 hn hpre hwl
 refine enter_call (codeAny_mono (call w s₀ s₁ mg mb fa o pm cd doc a vs ns G Y ho (fd_plain hd) hcd hmg hobj hints hlen hg) λr s' hq=>?_)
 obtain⟨rfl,h2,h3,h4⟩:=hq
 exact⟨.inl ⟨.bool true,.bool true,[],rfl,λ_=>rfl,.bool true,ac9 l _,λ_=>⟨List.Pairwise.nil,λ_ hm=>(nomatch hm)⟩⟩,h2,h3,h4⟩
end Ph
namespace L2
open PySem PySem.Spec PyProof.Rows
theorem El:∀{vs:List Value} {ns:List Int},IntsAre vs ns->Vals (ns.map V.int) vs
 |_,_,.nil=>.nil
 |_,_,.cons n t h=>.cons ⟨t,rfl⟩ (El h)
noncomputable def iG(s:Stmt):Arguments:=match s with
 |.FunctionDef _ a _ _ _ _ _ _ _ _=>a
 |_=>{posonlyargs:=[],args:=[],vararg:=none,kwonlyargs:=[],kw_defaults:=[],kwarg:=none,defaults:=[] }
noncomputable def eN(s:Stmt):List Stmt:=match s with
 |.FunctionDef _ _ b _ _ _ _ _ _ _=>b
 |_=>[]
noncomputable def bG(s:Stmt):Scope:=match s with
 |.FunctionDef _ _ _ _ _ _ sc _ _ _=>sc
 |_=>{kind:=.function,names:=[],isGenerator:=false,isCoroutine:=false }
noncomputable abbrev Em:gR:=λ_ _ _ _ _ _=>False
noncomputable abbrev E0:XK:=λ_ _ _=>False
structure jm(K:PySem.W.Frag)(x qual:Str)(st:Stmt)(f:Addr)(fd:FuncData):Prop where
 ex:∃(oc:Value) (od:Option Addr) (kV doc pm:Value) (an:Option Addr) (cdv ct:Value) (osl:Array (Option Value)),
  fd=PySem.W.fnOf x qual (iG st) (eN st) (bG st) .none kV doc pm an cdv ct/\K.lookup f=some ⟨oc,od,.func fd,osl⟩/\PySem.W.codeIn K cdv qual=true
 kp:PySem.W.keepIn K (.ref f)=true
section
variable {P:Program}{w:World}{K:PySem.W.Frag}{mg:Str->Option Value}{base:Heap}
theorem jm.ok{x qual:Str}{st:Stmt}{f:Addr}{fd:FuncData}{N ps:List Str}{k:Nat}{sp:Sp}(F:jm K x qual st f fd)(S:pC N ps (bG st))(len:∀vs H Q E,sp vs H Q E->vs.length=ps.length)
  (hbody:∀(cdv:Value) (A:Around) (outer:List Env) (s:Shared) (H:Hp) (vs:List V) (Q:VK) (E:XK),bQ k (A.deeper (envOfC qual (bG st) s.heap.objs.size f cdv))->sp vs H Q E ->
   ∃t,cX (gq Em P w K mg base N qual (bG st) f cdv A outer s H E).iY (eN st) t/\t {nx:=λ_ H'=>Q .non H',rt:=Q } (start N vs) H):dH P w K mg base Em (k+1) f fd ps sp:=by
 obtain⟨oc,od,kV,doc,pm,an,cdv,ct,osl,rfl,lk,hcd⟩:=F.ex
 refine Ec lk hcd S len λA outer s H vs Q E hr hsp=>?_
 obtain⟨t,h,q⟩:=hbody cdv A outer s H vs Q E hr hsp
 exact⟨t,h.iY,q⟩
theorem jm.binds{x qual:Str}{st:Stmt}{f:Addr}{fd:FuncData}{ps:List Str}(F:jm K x qual st f fd)
  (h:∀(kV doc pm:Value) (an:Option Addr) (cdv ct:Value) (us:List Value),us.length=ps.length->bindArgs (PySem.W.fnOf x qual (iG st) (eN st) (bG st) .none kV doc pm an cdv ct) ⟨us,[]⟩=pure (ps.zip us)):Binds K fd ps []:=by
 obtain⟨oc,od,kV,doc,pm,an,cdv,ct,osl,rfl,lk,hcd⟩:=F.ex
 exact .all (h kV doc pm an cdv ct)
theorem yC{x qual:Str}{st:Stmt}{f:Addr}{oc:Value}{od an:Option Addr}{osl:Array (Option Value)}{kV doc pm cdv ct:Value}(l:K.lookup f=some ⟨oc,od,.func (PySem.W.fnOf x qual (iG st) (eN st) (bG st) .none kV doc pm an cdv ct),osl⟩)
  (c:PySem.W.codeIn K cdv qual=true) (k:PySem.W.keepIn K (.ref f)=true):jm K x qual st f (PySem.W.fnOf x qual (iG st) (eN st) (bG st) .none kV doc pm an cdv ct):=⟨⟨oc,od,kV,doc,pm,an,cdv,ct,osl,rfl,l,c⟩,k⟩
end
theorem Eo(h:n<=1000):n<sizeLine:=Nat.lt_of_le_of_lt h (by decide)
noncomputable def Same(H H':Hp):Prop:=∀b o,H b=some o->H' b=some o
theorem Same.refl(H:Hp):Same H H:=λ_ _ h=>h
theorem Same.trans(a:Same H H1)(b:Same H1 H2):Same H H2:=λc o h=>b c o (a c o h)
theorem Same.free{H H':Hp}(e:Same H H'){l:Addr}(h:H' l=Option.none):H l=Option.none:=by
 cases q:H l with
 |none=>rfl
 |some o =>
  rw[e l o q]at h
  cases h
theorem Same.seq{K:PySem.W.Frag}{H H':Hp}{a:Addr}{xs:List V}(e:Same H H')(h:aL K H a xs):aL K H' a xs:=by
 rcases h with(h|⟨o,h⟩)|h
 .exact .inl (.inl (e _ _ h))
 .exact .inl (.inr ⟨o,e _ _ h⟩)
 .exact .inr h
noncomputable def bW(cells:List (Str × Addr)):List (Str × NameKind)->List (Str × Addr)->List (Str × Addr)
 | [],acc=>acc
 |(n,k)::r,acc=>if k=.free then(match cells.lookup n with|some a=>bW cells r ((n,a)::acc)|none=>bW cells r acc)else bW cells r acc
theorem pD:∀{names:List (Str × NameKind)} {acc:List (Str × Addr)},(bW cells names acc).lookup x=some c->acc.lookup x=some c\/cells.lookup x=some c
 | [],acc,h=>.inl h
 |(n,k)::r,acc,h=>by
  unfold bW at h
  split at h
  .split at h
   .rename_i a ha
    rcases pD h with q|q
    .by_cases e:x=n
     .subst e
      rw[List.lookup_cons,beq_self_eq_true]at q
      cases q
      exact .inr ha
     .rw[List.lookup_cons,beq_false_of_ne e]at q
      exact .inl q
    .exact .inr q
   .exact pD h
  .exact pD h
theorem pG:∀{names:List (Str × NameKind)} {acc:List (Str × Addr)},((acc.lookup x).isSome=true\/((x,NameKind.free)∈names/\(cells.lookup x).isSome=true))->((bW cells names acc).lookup x).isSome=true
 | [],acc,h=>by
  rcases h with h|⟨h,_⟩
  .exact h
  .cases h
 |(n,k)::r,acc,h=>by
  have up:∀a,(acc.lookup x).isSome=true->(List.lookup x ((n,a)::acc)).isSome=true:=λa q=>by
   rw[List.lookup_cons]
   split
   .rfl
   .exact q
  unfold bW
  split
  .rename_i hk
   split
   .rename_i a ha
    refine pG ?_
    rcases h with h|⟨h,hc⟩
    .exact .inl (up a h)
    .rcases List.mem_cons.mp h with e|e
     .cases e
      refine .inl ?_
      rw[List.lookup_cons,beq_self_eq_true]
      rfl
     .exact .inr ⟨e,hc⟩
   .rename_i hn
    refine pG ?_
    rcases h with h|⟨h,hc⟩
    .exact .inl h
    .rcases List.mem_cons.mp h with e|e
     .cases e
      rw[hn]at hc; cases hc
     .exact .inr ⟨e,hc⟩
  .rename_i hk
   refine pG ?_
   rcases h with h|⟨h,hc⟩
   .exact .inl h
   .rcases List.mem_cons.mp h with e|e
    .cases e; exact absurd rfl hk
    .exact .inr ⟨e,hc⟩
theorem Ep(h:∀y∈scope.names,y.2=.free->(env.cells.lookup y.1).isSome=true):closureFor scope env=pure (bW env.cells scope.names []):=by
 suffices q:∀(names:List (Str × NameKind)) (acc:List (Str × Addr)),(∀y∈names,y.2=.free->(env.cells.lookup y.1).isSome=true) ->
   (forIn names acc λx r=>do
    match x with
    |(name,kind)=>if(kind == NameKind.free)=true then do let a <-cellOf env name; pure (ForInStep.yield ((name,a)::r))else pure (ForInStep.yield r):Sem _)=pure (bW env.cells names acc) by
  have z:=q scope.names [] h
  exact(congrArg (λm=>m >>= λcs=>pure cs) z)
 intro names
 induction names with
 |nil=>intro acc _; rfl
 |cons y r ih =>
  intro acc hy
  obtain⟨n,k⟩:=y
  rw[List.forIn_cons]
  unfold bW
  by_cases hk:k=.free
  .subst hk
   have q:=hy (n,.free) List.mem_cons_self rfl
   cases e:env.cells.lookup n with
   |none=>rw[e]at q; cases q
   |some a =>
    have ec:cellOf env n=pure a:=by unfold cellOf; rw[e]
    simp only[ec]
    exact ih _ λz hz=>hy z (List.mem_cons_of_mem _ hz)
  .rw[if_neg hk]
   have hb:(k == NameKind.free)=false:=by simpa using hk
   simp only[hb]
   exact ih _ λz hz=>hy z (List.mem_cons_of_mem _ hz)
noncomputable def Pk(scope sc:Scope):Scope :=
 {scope with names:=scope.names.map λ(n,k)=>if(k == .free&&sc.kind == .function&&sc.names.lookup n == some .cell)then(n,.cell)else(n,k) }
theorem Pn{env:Env}:∀{names:List (Str × NameKind)} {x:Str},names.lookup x=some .free ->
  (names.map λ(n,k)=>if(k == NameKind.free&&env.scope.kind == .function&&env.kindOf n == some .cell)then(n,NameKind.cell)else(n,k)).lookup x=some .cell \/
  (names.map λ(n,k)=>if(k == NameKind.free&&env.scope.kind == .function&&env.kindOf n == some .cell)then(n,NameKind.cell)else(n,k)).lookup x=some .free
 | [],_,h=>by simp at h
 |(n,k)::r,x,h=>by
  have ih:=@Pn env r x
  rw[List.map_cons]
  dsimp only
  cases hx:x == n with
  |true =>
   simp only[List.lookup_cons,hx]at h
   cases h
   by_cases hc:(NameKind.free == NameKind.free&&env.scope.kind == .function&&env.kindOf n == some .cell)=true
   .rw[if_pos hc]; simp[List.lookup_cons,hx]
   .rw[if_neg hc]; simp[List.lookup_cons,hx]
  |false =>
   simp only[List.lookup_cons,hx]at h
   by_cases hc:(k == NameKind.free&&env.scope.kind == .function&&env.kindOf n == some .cell)=true
   .rw[if_pos hc]; simp only[List.lookup_cons,hx]; exact ih h
   .rw[if_neg hc]; simp only[List.lookup_cons,hx]; exact ih h
theorem Pq{env:Env}:∀{names:List (Str × NameKind)} {x:Str},
  ((names.map λ(n,k)=>if(k == NameKind.free&&env.scope.kind == .function&&env.kindOf n == some .cell)then(n,NameKind.cell)else(n,k)).lookup x=some .cell \/
  (names.map λ(n,k)=>if(k == NameKind.free&&env.scope.kind == .function&&env.kindOf n == some .cell)then(n,NameKind.cell)else(n,k)).lookup x=some .free)->names.lookup x=some .cell\/names.lookup x=some .free
 | [],_,h=>by simp at h
 |(n,k)::r,x,h=>by
  have ih:=@Pq env r x
  rw[List.map_cons]at h
  dsimp only at h
  cases hx:x == n with
  |true =>
   by_cases hcc:(k == NameKind.free&&env.scope.kind == .function&&env.kindOf n == some .cell)=true
   .have hk:k=.free:=by
     simp only[Bool.and_eq_true,beq_iff_eq]at hcc
     exact hcc.1.1
    subst hk
    exact .inr (by simp only[List.lookup_cons,hx])
   .rw[if_neg hcc]at h
    simp only[List.lookup_cons,hx]at h ⊢
    exact h
  |false =>
   have q:=ih (by
    by_cases hcc:(k == NameKind.free&&env.scope.kind == .function&&env.kindOf n == some .cell)=true
    .rw[if_pos hcc]at h; simp only[List.lookup_cons,hx]at h; exact h
    .rw[if_neg hcc]at h; simp only[List.lookup_cons,hx]at h; exact h)
   simp only[List.lookup_cons,hx]
   exact q
theorem nC:∀(names:List (Str × NameKind)) (n:Nat) (acc:List (Str × Addr)),cellsFrom n names acc=cellsFrom n names []++acc
 | [],_,_=>rfl
 |(x,k)::r,n,acc=>by
  unfold cellsFrom
  split
  .rw[nC r (n+1) ((x,n)::acc),nC r (n+1) [(x,n)],List.append_assoc]
   rfl
  .exact nC r n acc
theorem Er:∀(names:List (Str × NameKind)) (n:Nat) {x:Str} {c:Addr},(x,c)∈cellsFrom n names []->(x,NameKind.cell)∈names
 | [],_,_,_,h=>by cases h
 |(y,k)::r,n,x,c,h=>by
  unfold cellsFrom at h
  split at h
  .rename_i hk
   have hk:k=.cell:=by simpa using hk
   rw[nC]at h
   rcases List.mem_append.mp h with z|z
   .exact List.mem_cons_of_mem _ (Er r _ z)
   .have z:=List.mem_singleton.mp z
    cases z
    rw[hk]
    exact List.mem_cons_self
  .exact List.mem_cons_of_mem _ (Er r _ h)
theorem uG(x:Str):∀(a b:List (Str × Addr)),(a++b).lookup x=(match a.lookup x with|some c=>some c|none=>b.lookup x)
 | [],_=>rfl
 |(y,c)::r,b=>by
  have ih:=uG x r b
  rw[List.cons_append,List.lookup_cons,List.lookup_cons]
  cases h:x == y with
  |true=>rfl
  |false=>exact ih
theorem adb
  (hQ:∀h',h'.Ns s.heap.objs.size (λ_=>none)->(∀b o,s.heap.get? b=some o->h'.get? b=some o)->CellsOk h' (s.heap.objs.size+1) (cellsFrom (s.heap.objs.size+1) scope.names []) ->
   Q {scope:=scope,locals:=s.heap.objs.size,globals:=globals,cells:=cellsFrom (s.heap.objs.size+1) scope.names cl,qual:=qual,func:=none,code:=env.code,frame:=env.frame,builtins:=env.builtins } {s with heap:=h',toks:=s.toks+([]:List (Str × Value)).length }) :
  wpAny M A (newFunctionEnv scope globals cl [] qual none .none (some env)) Q E s:=by
 simp only[newFunctionEnv,Option.isSome_some,if_true]
 refine wpAny_bind (wpAny_alloc ?_)
 refine wpAny_bind (wpAny_layCells _ (λname kind cells=>by cases hkc:kind == NameKind.cell <;> simp[hkc]) _ _ _ _ ?_)
 have ok:=cellsFrom_ok scope.names (s.heap.push {cls:=.type "dict",data:=.dict #[] }) (s.heap.objs.size+1) [] ⟨λ_ _ hm=>(nomatch hm),List.Pairwise.nil⟩ (by rw[Heap.size_push]; exact Nat.le_refl _)
 rw[Heap.size_push]at ok
 rw[show({s with heap:=s.heap.push {cls:=.type "dict",data:=.dict #[] } }:Shared).heap.objs.size=s.heap.objs.size+1 from Heap.size_push ..]
 exact wpAny_bind (wpAny_pure (wpAny_pure (hQ _ ((Heap.Ns.new s.heap (.type "dict")).keeps (pushCells_keeps _ _)) (λb o e=>pushCells_keeps _ _ b o (Heap.get?_push_of_some _ e)) ok)))
structure rC(sc:Scope)(No N:List Str)(src:List (Option Nat))(scope:Scope):Prop where
 kind:scope.kind=.function
 cells:∀y∈scope.names,y.2=.cell->scope.names.lookup y.1=some .cell
 names:∀y∈scope.names,y.2=.local->scope.names.lookup y.1=some .local
 free:∀y∈scope.names,y.2=.free->sc.names.lookup y.1=some .cell\/sc.names.lookup y.1=some .free
 len:src.length=N.length
 up:∀p∈N.zip src,∀j∈p.2,No[j]?=some p.1/\scope.names.lookup p.1=some .free
noncomputable def cY(src:List (Option Nat))(σ : St):St:=src.map λo=>o.bind λj=>(σ[j]?).join
noncomputable def cA(X:Cx)(N:List Str)(scope:Scope)(C:Addr)(s:Shared)(H:Hp)(ex:List Addr):Cx where
 prog:=X.prog
 w:=X.w
 K:=X.K
 mg:=X.mg
 base:=X.base
 A:=X.A
 N:=N
 s₀ := s
 H₀ := H
 env:=compEnvC scope (cellsFrom (C+1) scope.names (bW X.env.cells scope.names [])) C X.env
 outer:=X.stack
 stack:=X.stack
 ex:=ex
 fn:=λx=>scope.names.lookup x == some .cell
 calm:=X.calm
 pn:=[]
 xe:=λ_ _=>False
noncomputable def Pu(Q:VK)(D:Addr)(H:Hp):Prop:=Q (.ref D) H
section
variable {X:Cx}{elt tg iter:Expr}{scope sc:Scope}{pos:Pos}{No N:List Str}{src:List (Option Nat)}{wi:TI}{g:TG}{te:TE}
theorem ade{pins:List (Addr × Obj)}{σ : St}{H:Hp}{s:Shared}{h₁ : Heap}{fp:List Addr}{tk:Nat}(hsc:X.env.scope=sc)(jc:X.N=No)(S:rC sc No N src scope)(I:Inv X pins σ H s)
  (hf:∀b∈fp,cH X pins H b) (hlt:∀b∈fp,b<s.heap.objs.size)
  (hns:h₁.Ns s.heap.objs.size (λ_=>none)) (old:∀b o,s.heap.get? b=some o->h₁.get? b=some o) (ck:CellsOk h₁ (s.heap.objs.size+1) (cellsFrom (s.heap.objs.size+1) scope.names [])) :
  Inv (cA X N scope s.heap.objs.size s H fp) [] (cY src σ) H {s with heap:=h₁,toks:=tk }:=by
 subst hsc
 subst jc
 have rD:∀x c,(cellsFrom (s.heap.objs.size+1) scope.names (bW X.env.cells scope.names [])).lookup x=some c->(cellsFrom (s.heap.objs.size+1) scope.names []).lookup x=some c\/X.env.cells.lookup x=some c:=λx c h=>by
  rw[nC,uG]at h
  split at h
  .rename_i e
   exact .inl (e.trans h)
  .rcases pD h with q|q
   .simp at q
   .exact .inr q
 have big:=λx c h=>(ck.empty x c (PySem.mem_of_lookup h)).2
 have Px:∀x c,X.env.cells.lookup x=some c->c<s.heap.objs.size:=λx c e=>by
  obtain⟨v,q⟩:=I.cell x c e
  exact q.lt
 have amg:∀b∈frs X.stack,b<s.heap.objs.size:=λb hb=>by
  obtain⟨_,o,ho,_⟩:=I.stack.mem hb
  exact Heap.lt_size ho
 refine⟨⟨I.ok.mod,S.kind,I.ok.glob,I.ok.blt,Nat.le_refl _,λx y c h1 h2=>?_,λx hx=>?_,λx c hfn h=>?_,I.ok.hd,I.ok.frames,.inl rfl,λb hb=>⟨Nat.ne_of_lt (hlt b hb),λx c e=>?_⟩,
   I.bs,Nat.le_trans I.ok.jF I.sz,λb o e hb=>?_,λb hb hb'=>?_,I.stack,I.xK⟩,
  rfl,I.bare,Un.kept old,⟨_,hns,λi x v h1 h2 h3=>?_⟩,λx c e=>?_,I.hok.fresh (Nat.le_refl _),λx c e=>?_,λp hp=>absurd (show p∈([]:List (Addr × Obj))from hp) (by simp),I.hok.kept old,?_⟩
 .rcases rD _ _ h1 with z1|z1
  .rcases rD _ _ h2 with z2|z2
   .exact name_of_addr ck.apart (PySem.mem_of_lookup z1) (PySem.mem_of_lookup z2)
   .exact absurd (Nat.le_trans (big _ _ z1) (Nat.le_of_lt (Px _ _ z2))) (Nat.not_succ_le_self _)
  .rcases rD _ _ h2 with z2|z2
   .exact absurd (Nat.le_trans (big _ _ z2) (Nat.le_of_lt (Px _ _ z1))) (Nat.not_succ_le_self _)
   .exact I.ok.inj x y c z1 z2
 ·-- every cell or free name has its cell
  rcases Pq hx with m|m
  .exact Option.isSome_iff_exists.mp (PySem.W.cellsFrom_some _ _ _ (.inl m))
  .have m:=PySem.mem_of_lookup m
   have q:=pG (cells:=X.env.cells) (acc:=[]) (.inr ⟨m,by
    obtain⟨c,e⟩:=I.ok.has x (S.free _ m rfl)
    rw[e]; rfl⟩)
   exact Option.isSome_iff_exists.mp (PySem.W.cellsFrom_some _ _ _ (.inr q))
 .have hfn:scope.names.lookup x=some .cell:=by
   have z:(scope.names.lookup x == some .cell)=true:=hfn
   simpa using z
  obtain⟨c',e'⟩:=Option.isSome_iff_exists.mp (PySem.W.cellsFrom_some _ (s.heap.objs.size+1) [] (.inl hfn))
  have h:(cellsFrom (s.heap.objs.size+1) scope.names (bW X.env.cells scope.names [])).lookup x=some c:=h
  rw[nC,uG,e']at h
  cases h
  exact Nat.le_of_succ_le (big _ _ e')
 .rcases rD _ _ e with z|z
  .exact λy=>absurd (Nat.le_trans (big _ _ z) (y▸Nat.le_of_lt (hlt b hb))) (Nat.not_succ_le_self _)
  .exact(hf b hb).2.2.2.2.1 x c z
 .obtain⟨f0,f1,f2,f3,f4,f5⟩:=hf b hb
  rcases f3 with z|z
  .exact I.ok.ur b o e z
  .have q:=Heap.lt_size (I.ok.bs b o e).1
   exact absurd q (Nat.not_lt.mpr z)
 .obtain⟨f0,f1,f2,_⟩:=hf b hb
  rcases List.mem_cons.mp (I.xJ b hb')with z|z
  .exact f1 z
  .exact f2 z
 .have hi:i<src.length:=by
   unfold cY at h2
   have:=(List.getElem?_eq_some_iff.mp h2).1
   simpa using this
  have h2':((src[i]).bind λj=>(σ[j]?).join)=some v:=by
   unfold cY at h2
   rw[List.getElem?_map,List.getElem?_eq_getElem hi]at h2
   exact Option.some.inj h2
  cases es:src[i]with
  |none=>rw[es]at h2'; cases h2'
  |some j =>
   rw[es]at h2'
   have hj : σ[j]?=some (some v):=by
    have z:(σ[j]?).join=some v:=h2'
    cases q : σ[j]? with
    |none=>rw[q]at z; cases z
    |some o=>rw[q]at z; have z':o=some v:=z; rw[z']
   have hz:(x,some j)∈N.zip src:=by
    refine List.mem_of_getElem? (i:=i) ?_
    rw[List.getElem?_zip_eq_some]
    exact⟨h1,by rw[List.getElem?_eq_getElem hi,es]⟩
   obtain⟨u1,u2⟩:=S.up _ hz j rfl
   have m:(x,NameKind.free)∈scope.names:=PySem.mem_of_lookup u2
   have kx:=S.free _ m rfl
   obtain⟨m0,hn0,hl0⟩:=id I.loc
   obtain⟨u,r,lk⟩:=hl0 j x v u1 hj (kx.elim (λz=>.inr (.inl z)) λz=>.inr (.inr z))
   refine⟨u,r,?_⟩
   rcases lk with⟨k,_⟩|⟨_,c,e,ic⟩
   .have k':X.env.scope.names.lookup x=some .local:=k
    rcases kx with z|z
    .rw[z]at k'; cases k'
    .rw[z]at k'; cases k'
   .refine .inr ⟨Pn u2,c,?_,?_⟩
    .have q:=pG (cells:=X.env.cells) (acc:=[]) (.inr ⟨m,by rw[e]; rfl⟩)
     obtain⟨c',e'⟩:=Option.isSome_iff_exists.mp q
     have e2:X.env.cells.lookup x=some c':=by
      rcases pD e' with q|q
      .simp at q
      .exact q
     rw[e]at e2; cases e2
     show(cellsFrom (s.heap.objs.size+1) scope.names (bW X.env.cells scope.names [])).lookup x=some c
     rw[nC,uG]
     split
     .rename_i c2 z
      have y:=S.cells _ (Er _ _ (PySem.mem_of_lookup z)) rfl
      rw[u2]at y; cases y
     .exact e'
    .obtain⟨o,ho,hd⟩:=ic
     exact⟨o,old _ _ ho,hd⟩
 .rcases rD _ _ e with z|z
  .exact⟨_,(ck.empty x c (PySem.mem_of_lookup z)).1⟩
  .obtain⟨v,o,ho,hd⟩:=I.cell x c z
   exact⟨v,o,old _ _ ho,hd⟩
 .rcases rD _ _ e with z|z
  .exact I.hok.fresh (Nat.le_of_succ_le (big _ _ z))
  .exact I.jG x c z
 .unfold cY
  rw[List.length_map]
  exact S.len
end
noncomputable def Es(e C:Addr)(h:Heap):Prop:=∃o vs,h.get? e=some o/\o.cls=.ref C/\o.data=.fields vs
noncomputable def yD(e C:Addr):HO:=.ext (Es e C)
noncomputable def yE:List Str:=["NoBottom", "NoBook", "NoList", "NoRule", "NoCount", "NoLooks", "NoThings", "NotSure", "NoSlack", "NoThing", "NoWorth", "TooMany", "NoText", "NoLine"]
inductive Tr where
 |non|bl (b:Bool)|int (i:Int)|str (x:Str)|tup (ts:List Tr)|lst (ts:List Tr)|bR (c:Str)
mutual
inductive Rep(K:PySem.W.Frag)(H:Hp):V->Tr->Prop
 |non:Rep K H .non .non
 |bl (b:Bool):Rep K H (.bl b) (.bl b)
 |int (i:Int):Rep K H (.int i) (.int i)
 |str (x:Str):Rep K H (.str x) (.str x)
 |tup {a:Addr} {xs:List V} {ts:List Tr} (h:aX K H a xs) (r:au K H xs ts):Rep K H (.ref a) (.tup ts)
 |lst {a:Addr} {xs:List V} {ts:List Tr} (h:aL K H a xs) (r:au K H xs ts):Rep K H (.ref a) (.lst ts)
 |bR {a C:Addr} {c:Str} (h:H a=some (yD a C)) (m:c∈yE) (n:PySem.W.nsIn K mainGlobals c=some (some (.ref C))):Rep K H (.ref a) (.bR c)
inductive au(K:PySem.W.Frag)(H:Hp):List V->List Tr->Prop
 |nil:au K H [] []
 |cons {x:V} {t:Tr} {xs:List V} {ts:List Tr} (h:Rep K H x t) (r:au K H xs ts):au K H (x::xs) (t::ts)
end
theorem Rep.both{K:PySem.W.Frag}{H:Hp}{P:V->Tr->Prop}{Q:List V->List Tr->Prop}(h1:P .non .non)(h2:∀b,P (.bl b) (.bl b))(h3:∀i,P (.int i) (.int i))(h4:∀x,P (.str x) (.str x))(h5:∀a xs ts,aX K H a xs->Q xs ts->P (.ref a) (.tup ts))(h6:∀a xs ts,aL K H a xs->Q xs ts->P (.ref a) (.lst ts))(h7:∀a C c,H a=some (yD a C)->c∈yE->PySem.W.nsIn K mainGlobals c=some (some (.ref C))->P (.ref a) (.bR c))(h8:Q [] [])(h9:∀x t xs ts,P x t->Q xs ts->Q (x::xs) (t::ts)):(∀{v t},Rep K H v t->P v t)/\∀{vs ts},au K H vs ts->Q vs ts :=
 ⟨λh=>Rep.rec (motive_1:=λv t _=>P v t) (motive_2:=λv t _=>Q v t) h1 h2 h3 h4 (λh _ q=>h5 _ _ _ h q) (λh _ q=>h6 _ _ _ h q) (λh m n=>h7 _ _ _ h m n) h8 (λ_ _ p q=>h9 _ _ _ _ p q) h,λh=>au.rec (motive_1:=λv t _=>P v t) (motive_2:=λv t _=>Q v t) h1 h2 h3 h4 (λh _ q=>h5 _ _ _ h q) (λh _ q=>h6 _ _ _ h q) (λh m n=>h7 _ _ _ h m n) h8 (λ_ _ p q=>h9 _ _ _ _ p q) h⟩
theorem Same.jJ{K:PySem.W.Frag}{H H':Hp}{a:Addr}{xs:List V}(e:Same H H')(h:aX K H a xs):aX K H' a xs:=by
 rcases h with(h|⟨o,h⟩)|h
 .exact .inl (.inl (e _ _ h))
 .exact .inl (.inr ⟨o,e _ _ h⟩)
 .exact .inr h
theorem Py{K:PySem.W.Frag}{H H':Hp}(e:Same H H'):(∀{v t},Rep K H v t->Rep K H' v t)/\∀{vs ts},au K H vs ts->au K H' vs ts:=Rep.both .non .bl .int .str (λ_ _ _ h q=>.tup (e.jJ h) q) (λ_ _ _ h q=>.lst (e.seq h) q) (λ_ _ _ h m n=>.bR (e _ _ h) m n) .nil λ_ _ _ _ p q=>.cons p q
theorem Rep.mono{K:PySem.W.Frag}{H H':Hp}(e:Same H H'){v:V}{t:Tr}(h:Rep K H v t):Rep K H' v t:=(Py e).1 h
theorem au.mono{K:PySem.W.Frag}{H H':Hp}(e:Same H H'){v:List V}{t:List Tr}(h:au K H v t):au K H' v t:=(Py e).2 h
theorem au.length{K:PySem.W.Frag}{H:Hp}:∀{v:List V} {t:List Tr},au K H v t->v.length=t.length
 |_,_,.nil=>rfl
 |_,_,.cons _ r=>by rw[List.length_cons,List.length_cons,au.length r]
theorem au.get{K:PySem.W.Frag}{H:Hp}:∀{v:List V} {t:List Tr} {i:Nat} {x:V},au K H v t->v[i]?=some x->∃u,t[i]?=some u/\Rep K H x u
 |_,_,_,_,.nil,e=>by simp at e
 |_,_,0,_,.cons h _,e=>by
  simp at e
  subst e
  exact⟨_,rfl,h⟩
 |_,_,i+1,x,.cons _ r,e=>by
  obtain⟨u,h1,h2⟩:=au.get (i:=i) (x:=x) r (by simpa using e)
  exact⟨u,by simpa using h1,h2⟩
theorem au.app{K:PySem.W.Frag}{H:Hp}:∀{v w:List V} {t u:List Tr},au K H v t->au K H w u->au K H (v++w) (t++u)
 |_,_,_,_,.nil,s=>s
 |_,_,_,_,.cons h r,s=>.cons h (au.app r s)
theorem au.take{K:PySem.W.Frag}{H:Hp}:∀{v:List V} {t:List Tr} (n:Nat),au K H v t->au K H (v.take n) (t.take n)
 |_,_,0,_=>by rw[List.take_zero,List.take_zero]; exact .nil
 |_,_,n+1,.nil=>by simpa using au.nil
 |_,_,n+1,.cons h r=>by
  exact .cons h (au.take n r)
theorem au.drop{K:PySem.W.Frag}{H:Hp}:∀{v:List V} {t:List Tr} (n:Nat),au K H v t->au K H (v.drop n) (t.drop n)
 |_,_,0,r=>by rw[List.drop_zero,List.drop_zero]; exact r
 |_,_,n+1,.nil=>by simpa using au.nil
 |_,_,n+1,.cons h r=>by
  exact au.drop n r
mutual
noncomputable def dep:Tr->Nat
 |.tup ts=>deps ts+1
 |.lst ts=>deps ts+1
 |.bR _=>100
 |_=>0
noncomputable def deps:List Tr->Nat
 | []=>0
 |t::r=>max (dep t) (deps r)
end
mutual
noncomputable def eqT:Tr->Tr->Bool
 |.non,.non=>true
 |.bl a,.bl b=>a == b
 |.bl a,.int b=>(if a then 1 else 0) == b
 |.int a,.bl b=>a == (if b then 1 else 0)
 |.int a,.int b=>a == b
 |.str a,.str b=>a == b
 |.tup a,.tup b=>gU a b
 |.lst a,.lst b=>gU a b
 |.bR a,.bR b=>a == b
 |_,_=>false
noncomputable def gU:List Tr->List Tr->Bool
 | [],[]=>true
 |a::x,b::y=>eqT a b&&gU x y
 |_,_=>false
end
mutual
theorem PB:∀t:Tr,eqT t t=true
 |.non=>rfl
 |.bl b=>by exact beq_self_eq_true b
 |.int i=>by exact beq_self_eq_true i
 |.str x=>by exact beq_self_eq_true x
 |.tup ts=>by exact Et ts
 |.lst ts=>by exact Et ts
 |.bR c=>by exact beq_self_eq_true c
theorem Et:∀ts:List Tr,gU ts ts=true
 | []=>rfl
 |t::r=>by show(eqT t t&&gU r r)=true; rw[PB t,Et r]; rfl
end
theorem uH:∀{a b:List Tr},a.length≠b.length->gU a b=false
 | [],[],h=>absurd rfl h
 | [],_::_,_=>rfl
 |_::_,[],_=>rfl
 |x::a,y::b,h=>by
  show(_&&gU a b)=false
  rw[uH (a:=a) (b:=b) (by simpa using h),Bool.and_false]
noncomputable def lW(a b:List Tr)(j:Nat):Bool:=match a[j]?,b[j]? with
 |some x,some y=>eqT x y
 |_,_=>true
theorem uJ:∀{a b:List Tr},a.length=b.length->(List.range a.length).all (lW a b)=gU a b
 | [],[],_=>rfl
 | [],_::_,h=>by cases h
 |_::_,[],h=>by cases h
 |x::a,y::b,h=>by
  have ih:=uJ (a:=a) (b:=b) (by simpa using h)
  rw[List.length_cons,List.range_succ_eq_map,List.all_cons,List.all_map]
  show _=(eqT x y&&gU a b)
  rw[<-ih]
  rfl
section
variable {X:Cx}{pins:List (Addr × Obj)}{σ : St}{H:Hp}{s:Shared}
theorem Inv.adf(I:Inv X pins σ H s)(h:H a=some (yD a C))(p:IsTup s.heap a its):False:=by
 obtain⟨o,_,e1,e2,_⟩:=(I.hok a _ h).1
 obtain⟨o',e1',e2',_⟩:=p
 rw[e1]at e1'
 cases e1'
 rw[e2]at e2'
 cases e2'
theorem Inv.adg(I:Inv X pins σ H s)(h:H a=some (yD a C))(p:PlainL s.heap a its):False:=by
 obtain⟨o,_,e1,e2,_⟩:=(I.hok a _ h).1
 obtain⟨o',_,e1',e2',_⟩:=p
 rw[e1]at e1'
 cases e1'
 rw[e2]at e2'
 cases e2'
theorem adh(I:Inv X pins σ H s):(∀{v t},Rep X.K H v t->dep t<=99->∀u,Rep X.K H v u->t=u)/\∀{vs ts},au X.K H vs ts->deps ts<=99->∀us,au X.K H vs us->ts=us:=by
 refine Rep.both (λ_ u h=>?_) (λ_ _ u h=>?_) (λ_ _ u h=>?_) (λ_ _ u h=>?_) (λa xs ts h q d u h'=>?_) (λa xs ts h q d u h'=>?_) (λa C c h m n d u _=>?_) (λ_ u h=>?_) λx t xs ts p q d u h=>?_
 .cases h; rfl
 .cases h; rfl
 .cases h; rfl
 .cases h; rfl
 .obtain⟨_,_,p,_⟩:=I.tuple h
  cases h' with
  |tup h' r' =>
   have e:=I.Ni h h'
   subst e
   rw[q (by unfold dep at d; lia) _ r']
  |lst h' r' =>
   obtain⟨_,_,p',_⟩:=I.list h'
   exact absurd rfl (SeqAt.ne_of_list_tuple p'.isList p)
  |bR h' _ _=>exact(I.adf h' p).elim
 .obtain⟨_,_,p,_⟩:=I.list h
  cases h' with
  |tup h' r' =>
   obtain⟨_,_,p',_⟩:=I.tuple h'
   exact absurd rfl (SeqAt.ne_of_list_tuple p.isList p')
  |lst h' r' =>
   have e:=I.xU h h'
   subst e
   rw[q (by unfold dep at d; lia) _ r']
  |bR h' _ _=>exact(I.adg h' p).elim
 .unfold dep at d; lia
 .cases h; rfl
 .cases h with
  |cons h r =>
   unfold deps at d
   rw[p (by lia) _ h,q (by lia) _ r]
theorem Rep.inj(I:Inv X pins σ H s){v:V}{t u:Tr}(d:dep t<=99)(h:Rep X.K H v t)(h':Rep X.K H v u):t=u:=(adh I).1 h d u h'
theorem in1_units(A:Around):A.in1.units<=A.units+1:=by
 show A.units+1<=_
 lia
theorem yF{xs:List V}{its:List Value}{j:Nat}(r:Vals xs its)(h:j<its.toArray.size):∃x,xs[j]?=some x/\RelV x its.toArray[j]:=by
 have h':j<its.length:=by simpa using h
 have hx:j<xs.length:=by rw[r.length]; exact h'
 obtain⟨u,h1,h2⟩:=r.get (List.getElem?_eq_getElem hx)
 refine⟨xs[j],List.getElem?_eq_getElem hx,?_⟩
 have e:u=its.toArray[j]:=by
  rw[List.getElem?_eq_getElem h']at h1
  have:=Option.some.inj h1
  simpa using this.symm
 rw[<-e]; exact h2
theorem PJ{a b:List Tr}{j:Nat}{x y:Tr}(h1:a[j]?=some x)(h2:b[j]?=some y):lW a b j=eqT x y:=by
 unfold lW
 rw[h1,h2]
theorem nF:∀{ts:List Tr} {j:Nat} {t:Tr},ts[j]?=some t->dep t<=deps ts
 | [],_,_,h=>by simp at h
 |x::r,0,t,h=>by
  simp at h
  subst h
  unfold deps
  exact Nat.le_max_left _ _
 |x::r,j+1,t,h=>by
  have:=nF (ts:=r) (j:=j) (t:=t) (by simpa using h)
  unfold deps
  exact Nat.le_trans this (Nat.le_max_right _ _)
theorem uK(I:Inv X pins σ H s)(A:Around)(t u:Tr)(x y:V)(xv yv:Value)(hu:A.units+0<cLine)(hd:dep t<=0)(du:dep u<=99)(rx:Rep X.K H x t)(ry:Rep X.K H y u)(vx:RelV x xv)(vy:RelV y yv) :
  SeqAt.RcAt A s xv yv (eqT t u)/\SeqAt.EqAt A s xv yv (eqT t u):=by
 have hu0:A.units<cLine:=by lia
 cases rx with
 |tup h r=>unfold dep at hd; lia
 |lst h r=>unfold dep at hd; lia
 |bR h m n=>unfold dep at hd; lia
 |non =>
  cases vx
  cases ry with
  |non=>cases vy; exact⟨SeqAt.RcAt.none_none,.same _⟩
  |bl b2=>cases vy; exact⟨SeqAt.RcAt.none_bool _,SeqAt.EqAt.none_bool _⟩
  |int i2=>obtain⟨_,rfl⟩:=vy; exact⟨SeqAt.RcAt.none_int _ _,SeqAt.EqAt.none_int _ _⟩
  |str z2=>obtain⟨_,rfl⟩:=vy; exact⟨SeqAt.RcAt.none_str _ _,SeqAt.EqAt.none_str _ _⟩
  |tup h r=>cases vy; obtain⟨_,_,p,_⟩:=I.tuple h; exact⟨SeqAt.RcAt.none_tuple p hu0,SeqAt.EqAt.none_tuple p hu0⟩
  |lst h r=>cases vy; obtain⟨_,_,p,_⟩:=I.list h; exact⟨SeqAt.RcAt.none_list p.isList hu0,SeqAt.EqAt.none_list p.isList hu0⟩
  |bR h m n=>unfold dep at du; lia
 |bl b =>
  cases vx
  cases ry with
  |non=>cases vy; exact⟨SeqAt.RcAt.bool_none _,SeqAt.EqAt.bool_none _⟩
  |bl b2=>cases vy; exact⟨SeqAt.RcAt.bool_bool _ _,SeqAt.EqAt.bool_bool _ _⟩
  |int i2=>obtain⟨_,rfl⟩:=vy; exact⟨SeqAt.RcAt.bool_int _ _ _,SeqAt.EqAt.bool_int _ _ _⟩
  |str z2=>obtain⟨_,rfl⟩:=vy; exact⟨SeqAt.RcAt.bool_str _ _ _,SeqAt.EqAt.bool_str _ _ _⟩
  |tup h r=>cases vy; obtain⟨_,_,p,_⟩:=I.tuple h; exact⟨SeqAt.RcAt.bool_tuple _ p hu0,SeqAt.EqAt.bool_tuple _ p hu0⟩
  |lst h r=>cases vy; obtain⟨_,_,p,_⟩:=I.list h; exact⟨SeqAt.RcAt.bool_list _ p.isList hu0,SeqAt.EqAt.bool_list _ p.isList hu0⟩
  |bR h m n=>unfold dep at du; lia
 |int i =>
  obtain⟨_,rfl⟩:=vx
  cases ry with
  |non=>cases vy; exact⟨SeqAt.RcAt.int_none _ _,SeqAt.EqAt.int_none _ _⟩
  |bl b2=>cases vy; exact⟨SeqAt.RcAt.int_bool _ _ _,SeqAt.EqAt.int_bool _ _ _⟩
  |int i2=>obtain⟨_,rfl⟩:=vy; exact⟨SeqAt.RcAt.int_int _ _ _ _,SeqAt.EqAt.int_int _ _ _ _⟩
  |str z2=>obtain⟨_,rfl⟩:=vy; exact⟨SeqAt.RcAt.int_str _ _ _ _,SeqAt.EqAt.int_str _ _ _ _⟩
  |tup h r=>cases vy; obtain⟨_,_,p,_⟩:=I.tuple h; exact⟨SeqAt.RcAt.int_tuple _ _ p hu0,SeqAt.EqAt.int_tuple _ _ p hu0⟩
  |lst h r=>cases vy; obtain⟨_,_,p,_⟩:=I.list h; exact⟨SeqAt.RcAt.int_list _ _ p.isList hu0,SeqAt.EqAt.int_list _ _ p.isList hu0⟩
  |bR h m n=>unfold dep at du; lia
 |str z =>
  obtain⟨_,rfl⟩:=vx
  cases ry with
  |non=>cases vy; exact⟨SeqAt.RcAt.str_none _ _,SeqAt.EqAt.str_none _ _⟩
  |bl b2=>cases vy; exact⟨SeqAt.RcAt.str_bool _ _ _,SeqAt.EqAt.str_bool _ _ _⟩
  |int i2=>obtain⟨_,rfl⟩:=vy; exact⟨SeqAt.RcAt.str_int _ _ _ _,SeqAt.EqAt.str_int _ _ _ _⟩
  |str z2=>obtain⟨_,rfl⟩:=vy; exact⟨SeqAt.RcAt.str_str _ _ _ _,SeqAt.EqAt.str_str _ _ _ _⟩
  |tup h r=>cases vy; obtain⟨_,_,p,_⟩:=I.tuple h; exact⟨SeqAt.RcAt.str_tuple _ _ p hu0,SeqAt.EqAt.str_tuple _ _ p hu0⟩
  |lst h r=>cases vy; obtain⟨_,_,p,_⟩:=I.list h; exact⟨SeqAt.RcAt.str_list _ _ p.isList hu0,SeqAt.EqAt.str_list _ _ p.isList hu0⟩
  |bR h m n=>unfold dep at du; lia
theorem yG(I:Inv X pins σ H s):∀(n:Nat) (A:Around) (t u:Tr) (x y:V) (xv yv:Value),A.units+n<cLine->dep t<=n->dep t<=99->dep u<=99->Rep X.K H x t->Rep X.K H y u->RelV x xv->RelV y yv ->
  SeqAt.RcAt A s xv yv (eqT t u)/\SeqAt.EqAt A s xv yv (eqT t u):=by
 intro n
 induction n with
 |zero=>exact λA t u x y xv yv hu hd _ du rx ry vx vy=>uK I A t u x y xv yv hu hd du rx ry vx vy
 |succ n ih =>
  intro A t u x y xv yv hu hd rE du rx ry vx vy
  have hu0:A.units<cLine:=by lia
  have hu1:A.in1.units+n<cLine:=by
   have:=in1_units A
   lia
  have he:∀{xs ys:List V} {ts us:List Tr} {its its2:List Value},Vals xs its->Vals ys its2->au X.K H xs ts->au X.K H ys us->deps ts<=n->deps ts<=99->deps us<=99->∀j (h1:j<its.toArray.size) (h2:j<its2.toArray.size),SeqAt.EqAt A.in1 s its.toArray[j] its2.toArray[j] (lW ts us j):=by
   intro xs ys ts us its its2 r1 r2 q1 q2 hde hd9 PK j h1 h2
   obtain⟨a,ea,ra⟩:=yF r1 h1
   obtain⟨b,eb,rb⟩:=yF r2 h2
   obtain⟨ta,eta,qa⟩:=q1.get ea
   obtain⟨tb,uL,qb⟩:=q2.get eb
   rw[PJ eta uL]
   exact(ih A.in1 ta tb a b _ _ hu1 (Nat.le_trans (nF eta) hde) (Nat.le_trans (nF eta) hd9) (Nat.le_trans (nF uL) PK) qa qb ra rb).2
  have dt:∀{ts:List Tr},dep (.tup ts)<=n+1->deps ts<=n:=λ{ts} h=>by unfold dep at h; lia
  have dl:∀{ts:List Tr},dep (.lst ts)<=n+1->deps ts<=n:=λ{ts} h=>by unfold dep at h; lia
  have nt:∀{ts:List Tr},dep (.tup ts)<=99->deps ts<=99:=λ{ts} h=>by unfold dep at h; lia
  have nl:∀{ts:List Tr},dep (.lst ts)<=99->deps ts<=99:=λ{ts} h=>by unfold dep at h; lia
  have refs:∀{a b:Addr} {t u:Tr} {k:Bool},dep t<=99->Rep X.K H (.ref a) t->Rep X.K H (.ref b) u->k=eqT t u->SeqAt.RcAt A s (.ref a) (.ref b) k->SeqAt.EqAt A s (.ref a) (.ref b) k:=λ{a b t u k} d9 r1 r2 ek h=>by
   by_cases e:a=b
   .subst e
    have:=Rep.inj I d9 r1 r2
    subst this
    rw[ek,PB]
    exact .same _
   .exact .of_refs e h
  cases rx with
  | @tup a1 xs1 ts h r =>
   cases vx
   obtain⟨its,rv,p,_⟩:=I.tuple h
   cases ry with
   | @tup a2 xs2 us h' r' =>
    cases vy
    obtain⟨its2,gA,p2,_⟩:=I.tuple h'
    have R:=SeqAt.RcAt.tuples p p2 hu0 (he rv gA r r' (dt hd) (nt rE) (nt du))
    have el:its.toArray.size=ts.length:=by simpa using(rv.length.symm.trans r.length)
    have el2:its2.toArray.size=us.length:=by simpa using(gA.length.symm.trans r'.length)
    rw[el,el2]at R
    have eb:((List.range (min ts.length us.length)).all (lW ts us)&&ts.length == us.length)=eqT (.tup ts) (.tup us):=by
     show _=gU ts us
     by_cases e:ts.length=us.length
     .rw[e,Nat.min_self,<-e,uJ e,beq_self_eq_true,Bool.and_true]
     .rw[beq_false_of_ne e,Bool.and_false,uH e]
    rw[eb]at R
    exact⟨R,refs rE (.tup h r) (.tup h' r') rfl R⟩
   |lst h' r' =>
    cases vy
    obtain⟨_,_,p2,_⟩:=I.list h'
    exact⟨SeqAt.RcAt.tuple_list p p2.isList hu0,.tuple_list p p2.isList hu0⟩
   |bR h' m n=>unfold dep at du; lia
   |non=>cases vy; exact⟨SeqAt.RcAt.tuple_none p hu0,.tuple_none p hu0⟩
   |bl b=>cases vy; exact⟨SeqAt.RcAt.tuple_bool _ p hu0,.tuple_bool _ p hu0⟩
   |int i=>obtain⟨_,rfl⟩:=vy; exact⟨SeqAt.RcAt.tuple_int _ _ p hu0,.tuple_int _ _ p hu0⟩
   |str z=>obtain⟨_,rfl⟩:=vy; exact⟨SeqAt.RcAt.tuple_str _ _ p hu0,.tuple_str _ _ p hu0⟩
  | @lst a1 xs1 ts h r =>
   cases vx
   obtain⟨its,rv,p,_⟩:=I.list h
   cases ry with
   | @lst a2 xs2 us h' r' =>
    cases vy
    obtain⟨its2,gA,p2,_⟩:=I.list h'
    have el:its.toArray.size=ts.length:=by simpa using(rv.length.symm.trans r.length)
    have el2:its2.toArray.size=us.length:=by simpa using(gA.length.symm.trans r'.length)
    by_cases e:ts.length=us.length
    .have R:=SeqAt.RcAt.lists p.isList p2.isList (by rw[el,el2,e]) hu0 (he rv gA r r' (dl hd) (nl rE) (nl du))
     rw[el,uJ e]at R
     have eb:gU ts us=eqT (.lst ts) (.lst us):=by rfl
     rw[eb]at R
     exact⟨R,refs rE (.lst h r) (.lst h' r') rfl R⟩
    .have R:SeqAt.RcAt A s _ _ false:=SeqAt.RcAt.lists_lengths p.isList p2.isList (by rw[el,el2]; simpa using e) hu0
     have eb:false=eqT (.lst ts) (.lst us):=(uH e).symm
     rw[eb]at R
     exact⟨R,refs rE (.lst h r) (.lst h' r') rfl R⟩
   |tup h' r' =>
    cases vy
    obtain⟨_,_,p2,_⟩:=I.tuple h'
    exact⟨SeqAt.RcAt.list_tuple p.isList p2 hu0,.list_tuple p.isList p2 hu0⟩
   |bR h' m n=>unfold dep at du; lia
   |non=>cases vy; exact⟨SeqAt.RcAt.list_none p.isList hu0,.list_none p.isList hu0⟩
   |bl b=>cases vy; exact⟨SeqAt.RcAt.list_bool _ p.isList hu0,.list_bool _ p.isList hu0⟩
   |int i=>obtain⟨_,rfl⟩:=vy; exact⟨SeqAt.RcAt.list_int _ _ p.isList hu0,.list_int _ _ p.isList hu0⟩
   |str z=>obtain⟨_,rfl⟩:=vy; exact⟨SeqAt.RcAt.list_str _ _ p.isList hu0,.list_str _ _ p.isList hu0⟩
  |bR h m n=>unfold dep at rE; lia
  |non=>exact uK I A _ _ _ _ _ _ (by lia) (by unfold dep; lia) du .non ry vx vy
  |bl b=>exact uK I A _ _ _ _ _ _ (by lia) (by unfold dep; lia) du (.bl b) ry vx vy
  |int i=>exact uK I A _ _ _ _ _ _ (by lia) (by unfold dep; lia) du (.int i) ry vx vy
  |str z=>exact uK I A _ _ _ _ _ _ (by lia) (by unfold dep; lia) du (.str z) ry vx vy
end
section
variable {X:Cx}{a b:Expr}{ta tb:TE}{pos:Pos}
noncomputable def Eu(K:PySem.W.Frag):R2:=λx y H Q=>∃t u,Rep K H x t/\Rep K H y u/\dep t<=40/\dep u<=40/\Q (.bl (eqT t u)) H
theorem adi(hu:X.A.units+64<cLine):bw X (compareOp .Eq) (Eu X.K):=by
 intro pins s σ H x y v u Q I rx ry h
 obtain⟨t,t',q1,q2,hd,hd2,q⟩:=h
 exact(yG I 40 X.A t t' x y v u (by lia) hd (by lia) (by lia) q1 q2 rx ry).1 _ _ _ _ ⟨.bl _,H,I,rfl,q⟩
noncomputable def lX(t:Tr)(ts:List Tr):Bool:=ts.any λu=>eqT u t
noncomputable def Ew(K:PySem.W.Frag):R2:=λx y H Q=>∃t ts p xs,Rep K H x t/\y=.ref p/\(aL K H p xs\/aX K H p xs)/\au K H xs ts/\deps ts<=40/\dep t<=40/\Q (.bl (lX t ts)) H
theorem yH{xs:List V}{its:List Value}{ts:List Tr}{K:PySem.W.Frag}{H:Hp}(f:Tr->Bool)(e:Value->Bool)(r:Vals xs its)(q:au K H xs ts)(h:∀x v t,x∈xs->RelV x v->Rep K H x t->t∈ts->e v=f t):its.any e=ts.any f:=by
 induction r generalizing ts with
 |nil=>cases q; rfl
 |cons r1 r2 ih =>
  cases q with
  |cons q1 q2 =>
   rw[List.any_cons,List.any_cons,h _ _ _ List.mem_cons_self r1 q1 List.mem_cons_self,ih q2 λx v t hx hr hq ht=>h x v t (List.mem_cons_of_mem _ hx) hr hq (List.mem_cons_of_mem _ ht)]
theorem rF:∀{ts:List Tr} {t:Tr},t∈ts->dep t<=deps ts:=λ{ts t} h=>by
 obtain⟨i,hi,e⟩:=List.mem_iff_getElem.mp h
 exact nF (j:=i) (by rw[List.getElem?_eq_getElem hi,e])
open Classical in
theorem adk(hu:X.A.units+64<cLine):bw X (compareOp .In) (Ew X.K):=by
 intro pins s σ H x y v u Q I rx ry h
 obtain⟨t,ts,p,xs,q1,rfl,hq,qs,hd,hd2,q⟩:=h
 cases ry
 have hu1:X.A.in1.units+40<cLine:=by
  have:=in1_units X.A
  lia
 -- what == tells of an item,by the item itself
 let e:Value->Bool:=λw'=>if h:∃z tz,z∈xs/\RelV z w'/\Rep X.K H z tz/\tz∈ts then eqT (Classical.choose (Classical.choose_spec h)) t else false
 have ee:∀z w' tz,z∈xs->RelV z w'->Rep X.K H z tz->tz∈ts->e w'=eqT tz t:=λz w' tz h1 h2 h3 h4=>by
  have hx:∃z tz,z∈xs/\RelV z w'/\Rep X.K H z tz/\tz∈ts:=⟨z,tz,h1,h2,h3,h4⟩
  show(if h:_ then _ else _)=_
  rw[dif_pos hx]
  have sp:=Classical.choose_spec (Classical.choose_spec hx)
  have key:∀z z' t1 t2,RelV z w'->RelV z' w'->dep t1<=99->Rep X.K H z t1->Rep X.K H z' t2->t1=t2:=λz z' t1 t2 a1 a2 d9 a3 a4=>by
   obtain rfl:=RelV.inj a1 a2
   exact Rep.inj I d9 a3 a4
  rw[key _ _ _ _ sp.2.1 h2 (by have:=rF sp.2.2.2; lia) sp.2.2.1 h3]
 have mem:∀{its:List Value},Vals xs its->∀w'∈its,SeqAt.EqAt X.A.in1 s w' v (e w'):=by
  intro its r w' hw
  obtain⟨j,hj,ej⟩:=List.mem_iff_getElem.mp hw
  have hjx:j<xs.length:=by rw[r.length]; exact hj
  obtain⟨u',h1,h2⟩:=r.get (List.getElem?_eq_getElem hjx)
  rw[List.getElem?_eq_getElem hj,ej]at h1
  cases h1
  obtain⟨tz,h3,h4⟩:=qs.get (List.getElem?_eq_getElem hjx)
  have hm:=List.mem_of_getElem? h3
  rw[ee _ _ tz (List.getElem_mem hjx) h2 h4 hm]
  exact(yG I 40 X.A.in1 tz t _ x _ v hu1 (Nat.le_trans (rF hm) hd) (by have:=rF hm; lia) (by lia) h4 q1 h2 rx).2
 rcases hq with hq|hq
 .obtain⟨its,r,pl,hz⟩:=I.list hq
  refine SeqAt.in_listAt e pl.isList (λw hw=>mem r w (by simpa using hw)) ⟨.bl _,H,I,rfl,?_⟩
  rw[show its.toArray.any e=its.any e by simp,yH (λz=>eqT z t) e r qs λz w' tz h1 h2 h3 h4=>ee z w' tz h1 h2 h3 h4]
  exact q
 .obtain⟨its,r,pl,hz⟩:=I.tuple hq
  refine SeqAt.in_tupleAt e pl (λw hw=>mem r w (by simpa using hw)) ⟨.bl _,H,I,rfl,?_⟩
  rw[show its.toArray.any e=its.any e by simp,yH (λz=>eqT z t) e r qs λz w' tz h1 h2 h3 h4=>ee z w' tz h1 h2 h3 h4]
  exact q
inductive Ty where|int|bool|str|tuple|list
noncomputable def Ty.name:Ty->String
 |.int => "int" |.bool => "bool" |.str => "str" |.tuple => "tuple" |.list => "list"
noncomputable def rG:Tr->Ty->Bool
 |.bl _,.bool=>true|.bl _,.int=>true|.int _,.int=>true|.str _,.str=>true|.tup _,.tuple=>true|.lst _,.list=>true
 |_,_=>false
noncomputable def PL(K:PySem.W.Frag):List V->Hp->VK->Prop:=λxs H Q=>∃v t c,xs=[v,.ty (Ty.name c)]/\Rep K H v t/\Q (.bl (rG t c)) H
noncomputable def lY(K:PySem.W.Frag):Prop:=∀c∈yE,∀C,PySem.W.nsIn K mainGlobals c=some (some (.ref C))->(∀a,PySem.W.KitX K (.ref a) (.ref C) (Es a C))/\∀y:Ty,PySem.W.kitOne K (.ref C) (.type y.name)=some false
theorem adl(hX:lY X.K):eV X (.builtin "isinstance") (PL X.K):=by
 intro pins s σ H xs us Q I r h
 obtain⟨v,t,c,rfl,q1,q⟩:=h
 obtain⟨u,w',rfl,ru,o9⟩:=vals2 r
 obtain rfl:w'=Value.type (Ty.name c):=o9
 have fin:∀tk,EP X pins σ Q (.bool (rG t c)) {s with toks:=tk }:=λtk=>⟨.bl _,H,I.tok tk,rfl,q⟩
 cases q1 with
 |non=>cases ru; cases c <;> exact PySem.W.kia_one PySem.W.kitx_none I.dG True.intro (by kernel_rfl) (λz=>nomatch z) fin
 |bl y=>cases ru; cases c <;> exact PySem.W.kia_one PySem.W.kitx_bool I.dG True.intro (by kernel_rfl) (λz=>nomatch z) fin
 |int i=>obtain⟨_,rfl⟩:=ru; cases c <;> exact PySem.W.kia_one PySem.W.kitx_int I.dG True.intro (by kernel_rfl) (λz=>nomatch z) fin
 |str y=>obtain⟨_,rfl⟩:=ru; cases c <;> exact PySem.W.kia_one PySem.W.kitx_str I.dG True.intro (by kernel_rfl) (λz=>nomatch z) fin
 |tup h r =>
  cases ru
  obtain⟨_,_,⟨o,h1,h2,_⟩,_⟩:=I.tuple h
  cases c <;> exact PySem.W.kia_one PySem.W.kitx_tuple I.dG ⟨o,h1,h2⟩ (by kernel_rfl) (λz=>nomatch z) fin
 |lst h r =>
  cases ru
  obtain⟨_,_,p,_⟩:=I.list h
  obtain⟨o,h1,h2,_⟩:=p.isList
  cases c <;> exact PySem.W.kia_one PySem.W.kitx_list I.dG ⟨o,h1,h2⟩ (by kernel_rfl) (λz=>nomatch z) fin
 |bR h m n =>
  cases ru
  obtain⟨z1,z2⟩:=hX _ m _ n
  exact PySem.W.kia_one (z1 _) I.dG (I.hok _ _ h).1 (z2 c) (λz=>nomatch z) fin
noncomputable def Ez(K:PySem.W.Frag):List V->Hp->VK->Prop:=λxs H Q=>∃(p:Addr) (bs:List Bool),xs=[.ref p]/\aL K H p (bs.map V.bl)/\Q (.bl (bs.all id)) H
theorem adn(hc:X.calm=true):eV X (.builtin "all") (Ez X.K):=by
 intro pins s σ H xs us Q I r h
 obtain⟨p,bs,rfl,hq,q⟩:=h
 obtain⟨u,rfl,ru⟩:=vals1 r
 cases ru
 obtain⟨its,rv,pl,hz⟩:=I.list hq
 refine call_all_walk (wpAny_pyIter_list pl.isList ?_)
 obtain⟨ol,hol,hol'⟩:=id pl.isList
 have hlt:p<s.heap.objs.size:=Heap.lt_size hol
 have hlen:its.toArray.size=bs.length:=by simpa using rv.length.symm
 have at_:∀(i:Nat) (v:Value),its.toArray[i]?=some v->∃k,bs[i]?=some k/\v=Value.bool k:=λi v e=>by
  have e':its[i]?=some v:=by simpa using e
  have hi:i<its.length:=(List.getElem?_eq_some_iff.mp e').1
  have hb:i<(bs.map V.bl).length:=by rw[rv.length]; exact hi
  obtain⟨u',h1,h2⟩:=rv.get (List.getElem?_eq_getElem hb)
  rw[e']at h1
  cases h1
  have hb':i<bs.length:=by simpa using hb
  refine⟨bs[i],List.getElem?_eq_getElem hb',?_⟩
  rw[List.getElem_map]at h2
  exact h2
 refine⟨s.heap.objs.size,_,_,_,_,_,λi=>bs.getD i true,rfl,Walks.list (A:=X.A.in1) (I.ok.hd hc) s.heap.objs.size p (Nat.ne_of_lt hlt) its.toArray,⟨⟨_,Heap.get?_push_size _ rfl,rfl,rfl⟩,⟨ol,Heap.get?_push_of_some _ hol,hol'⟩⟩,?_,?_⟩
 .intro i v s' Q' E' hP hQ'
  obtain⟨k,h1,rfl⟩:=at_ i v hP
  have:bs.getD i true=k:=by rw[List.getD_eq_getElem?_getD,h1]; rfl
  dsimp only at hQ'
  rw[this]at hQ'
  exact wpAny_truthy_bool hQ'
 .intro h' tk hk
  have I1:Inv X pins σ H {s with heap:=h',toks:=tk }:=I.kept λb o e=>hk b o (by
   have:=Heap.lt_size e
   simp
   exact Nat.ne_of_lt this) (Heap.get?_push_of_some _ e)
  refine⟨.bl _,H,I1,rfl,?_⟩
  have eq:(List.range its.toArray.size).all (λi=>bs.getD i true)=bs.all id:=by
   rw[hlen]
   clear q hq rv at_ hlen hz
   induction bs with
   |nil=>rfl
   |cons b r ih =>
    rw[List.length_cons,List.range_succ_eq_map,List.all_cons,List.all_map,List.all_cons]
    exact congrArg (b && ·) ih
  rw[eq]
  exact q
end
noncomputable def Df(P:Program)(w:World)(K:PySem.W.Frag)(mg:Str->Option Value)(base:Heap)(k:Nat)(x:Str)(ps:List Str)(sp:Sp):Prop :=
 ∃f fd,dH P w K mg base Em k f fd ps sp/\Binds K fd ps []/\PySem.W.keepIn K (.ref f)=true/\mg x=some (.ref f)
theorem Df.mono{P:Program}{w:World}{K:PySem.W.Frag}{mg:Str->Option Value}{base:Heap}{j k:Nat}{x:Str}{ps:List Str}{sp:Sp}(D:Df P w K mg base j x ps sp)(h:j<=k):Df P w K mg base k x ps sp:=by
 obtain⟨f,fd,h1,h2⟩:=D
 exact⟨f,fd,h1.mono h,h2⟩
noncomputable def At(K:PySem.W.Frag)(mg:Str->Option Value)(x:Str)(st:Stmt):Prop:=∃f fd,jm K x x st f fd/\mg x=some (.ref f)
section
variable {X:Cx}{k:Nat}{x:Str}{ps:List Str}{sp:Sp}{p q pos:Pos}{e:Expr}{es:List Expr}{te:TE}{t:TA}
theorem ado(hX:lY X.K)(c:Ty)(he:PE X e te)(h1:X.mg "isinstance" = none) (h2:X.mg x=none) (hb:bootBuiltins x=some (.type c.name):=by decide +kernel) (hg1:Gl X "isinstance" := by rfl) (hg2:Gl X x:=by rfl) (hn:x ≠ "__name__" := by decide) (hd:(x == ("__debug__" : Str))=false:=by decide)
  (hs:starEach (e::[.Name x q]) X.env=(false,eval e X.env)::starEach [.Name x q] X.env:=by rfl):PE X (.Call (.Name "isinstance" p) [e,.Name x q] [] pos) (yt (PL X.K) (DW te (DW (tC (.ty c.name)) DQ))) :=
 Ou (adl hX) hg1 h1 PyProof.Rows.boot_isinstance (rA he (rA (aa2 hg2 h2 hb rfl hn hd) yr) hs) (he:=hs)
end
structure Pj(Pr:Hp->Hp)(H0:Hp):Prop where
 mono:∀{H H':Hp},Same H H'->Same (Pr H) (Pr H')
 sub:∀H,Same (Pr H) H
 new:∀{H:Hp} {r:Addr} {o:HO},Same H0 H->H r=none->Pr (upd H r o) r=some o
theorem Pj.id(H0:Hp):Pj (λH=>H) H0:=⟨λs=>s,λH=>Same.refl H,λ_ _=>bJ⟩
theorem Pj.le(p:Pj Pr H0)(s:Same H0 H1):Pj Pr H1:=⟨p.mono,p.sub,λs' h=>p.new (s.trans s') h⟩
theorem fD(h:H p=none)(o:HO):Same H (upd H p o):=λb u q=>by rw[aD (iW q h)]; exact q
section
variable (K:PySem.W.Frag)(Pr:Hp->Hp)(σ : St)(H0:Hp)
noncomputable def Ev(te:TE)(T:Tr):Prop:=∀(H:Hp) (Q:VK),Same H0 H->(∀v H',Same H H'->Rep K (Pr H') v T->Q v H')->te σ H Q
noncomputable def PN(te:TE)(Ts:List Tr):Prop:=∀(H:Hp) (Q:VK),Same H0 H->(∀a xs H1,Same H H1->H1 a=none->au K (Pr H1) xs Ts->xs.length=Ts.length->Q (.ref a) (upd H1 a (.lst xs)))->te σ H Q
end
section
variable {K:PySem.W.Frag}{Pr:Hp->Hp}{σ : St}{H0:Hp}{te tb:TE}{ta:TA}{T:Tr}{Ts Us:List Tr}
theorem PN.ev(p:Pj Pr H0)(h:PN K Pr σ H0 te Ts):Ev K Pr σ H0 te (.lst Ts):=λH Q s k =>
 h H _ s λa xs H1 s1 ha r _=>k (.ref a) _ (s1.trans (fD ha _)) (.lst (aL.of (p.new (s.trans s1) ha)) (r.mono (p.mono (fD ha _))))
end
noncomputable def notStar:Expr->Bool
 |.Starred _ _=>false
 |_=>true
theorem iH(h:notStar e=true):starEach (e::es) env=(false,eval e env)::starEach es env:=by
 cases e <;> first|rfl|(unfold notStar at h; cases h)
noncomputable def pH(K:PySem.W.Frag)(T:Tr):TE:=λ_ H Q=>∀v H',Same H H'->(∀Pr,Pj Pr H->Rep K (Pr H') v T)->Q v H'
noncomputable def rH(K:PySem.W.Frag)(Ts:List Tr):TA:=λ_ H Q=>∀vs H',Same H H'->(∀Pr,Pj Pr H->au K (Pr H') vs Ts)->Q vs H'
noncomputable def EY(K:PySem.W.Frag)(Ts:List Tr):TE:=λ_ H Q=>∀a xs H1,Same H H1->H1 a=none->(∀Pr,Pj Pr H->au K (Pr H1) xs Ts)->xs.length=Ts.length->Q (.ref a) (upd H1 a (.lst xs))
theorem PE.imp(h:PE X e t)(i:∀σ H Q,u σ H Q->t σ H Q):PE X e u:=⟨λpins s σ H Q I q=>h pins s σ H Q I (i σ H Q q)⟩
theorem PA.imp(h:PA X e t)(i:∀σ H Q,u σ H Q->t σ H Q):PA X e u:=⟨λpos pins s σ H Q I q=>h pos pins s σ H Q I (i σ H Q q)⟩
mutual
noncomputable def pd:Tr->PyData
 |.non=>.none
 |.bl b=>.bool b
 |.int i=>.int i
 |.str x=>.str x
 |.tup ts=>.tuple (Fb ts)
 |.lst ts=>.list (Fb ts)
 |.bR _=>.none
noncomputable def Fb:List Tr->List PyData
 | []=>[]
 |t::r=>pd t::Fb r
end
noncomputable def nw(H H':Hp):Hp:=λb=>match H b with
 |none=>H' b
 |some _=>none
noncomputable def But(p:Addr)(H H':Hp):Prop:=∀b u,b≠p->H b=some u->H' b=some u
theorem But.refl(p:Addr)(H:Hp):But p H H:=λ_ _ _ e=>e
theorem But.trans(a:But p H H1)(b:But p H1 H2):But p H H2:=λx u n e=>b x u n (a x u n e)
theorem But.put(p:Addr)(H:Hp)(o:HO):But p H (upd H p o):=λb u n e=>by rw[aD n]; exact e
theorem But.new(h:H r=none)(o:HO):But p H (upd H r o):=λb u _ e=>fD h o b u e
theorem But.free(h:But p H H')(hp:H' p=some o)(e:H' b=none):H b=none:=by
 cases e':H b with
 |none=>rfl
 |some u =>
  by_cases n:b=p
  .rw[n,hp]at e; cases e
  .rw[h b u n e']at e; cases e
noncomputable def eX(P:Program)(w:World):gR:=λouter H s E e s'=>∃ea cls a0 H' B,e=.ref ea/\E cls none H'/\s'.os=s.os/\AllBare s'.gens/\Un (frs outer) [] H H' s.heap s'.heap/\bZ P w H' B /\
 Heap.FlyingW B outer ea cls a0 s'.heap/\∀b o,s.heap.get? b=some o->b∉frs outer->∃o',B.get? b=some o'
theorem adp(hf:env.frame=some L)(h:b∈frs (env::outer)):b=L\/b∈frs outer:=by
 unfold frs at h
 rw[List.filterMap_cons_some hf]at h
 exact List.mem_cons.mp h
theorem adq(h:b∈frs outer):b∈frs (env::outer):=by
 obtain⟨e,he,q⟩:=List.mem_filterMap.mp h
 exact List.mem_filterMap.mpr ⟨e,List.mem_cons_of_mem _ he,q⟩
theorem adt(x:bZ P w H h)(fr:∀b∈l,H b=none):bZ P w H (PySem.W.hideAll h l):=λa o e =>
 (x a o e).stay (λb u hb q=>PySem.W.hideAll_get _ q λhm=>by
  rcases hb with rfl|hb
  .rw[fr _ hm]at e; cases e
  .rw[fr _ hm]at hb; cases hb) (λ_ q=>q) λ_ _ q=>q
section
variable {P:Program}{w:World}{K:PySem.W.Frag}{mg:Str->Option Value}{base:Heap}{N:List Str}{qual:Str}{scope:Scope}{f:Addr}{cd:Value}{A:Around}{outer:List Env}{s:Shared}{H:Hp}{E:XK}{CX:gR}
theorem Un.left{pins:List (Addr × Obj)}{σ : St}{H1 H2:Hp}{s1:Shared}{h2 h3 B:Heap}(I:Inv (gq CX P w K mg base N qual scope f cd A outer s H E) pins σ H1 s1)
  (u:Un (frs (envOfC qual scope s.heap.objs.size f cd::outer)) [] H1 H2 s1.heap h2) (st:B.StaysIn h2) (kb:∀b o,s1.heap.get? b=some o->b∉frs (envOfC qual scope s.heap.objs.size f cd::outer)->∃o',B.get? b=some o')
  (fl:B.StaysIn h3) (sl:h2.UpToSlots h3):Un (frs outer) [] H H2 s.heap h3/\∀b o,s.heap.get? b=some o->b∉frs outer->∃o',B.get? b=some o':=by
 have ub:=I.base
 have hf:(envOfC qual scope s.heap.objs.size f cd).frame=some s.heap.objs.size:=by
  rcases I.ok.stk with z|z
  .exact absurd (congrArg List.length z) (by show outer.length+1≠outer.length; lia)
  .exact z.2
 have no:∀b o,s.heap.get? b=some o->b∉frs outer->b∉frs (envOfC qual scope s.heap.objs.size f cd::outer):=λb o e n z=>by
  rcases adp hf z with rfl|z
  .exact absurd (Heap.lt_size e) (Nat.lt_irrefl _)
  .exact n z
 have nx:∀b:Addr,b∉([]:List Addr):=λb z=>nomatch z
 have inB:∀b o,s.heap.get? b=some o->b∉frs outer->∃o',B.get? b=some o':=λb o e n=>by
  obtain⟨o1,e1⟩:=ub.there b o e (nx b)
  exact kb b o1 e1 (no b o e n)
 have slots:∀b o,s.heap.get? b=some o->H b=none->b∈frs outer->∃sl,h3.get? b=some {o with slots:=sl }:=λb o e n z=>by
  obtain⟨PX,e1⟩:=ub.slot b o e n z (nx b)
  obtain⟨sl2,e2⟩:=u.slot b _ e1 (ub.free b o e n (nx b)) (adq z) (nx b)
  obtain⟨_,o',e',nf⟩:=I.ok.iD.mem z
  have e'':s.heap.get? b=some o':=e'
  rw[e]at e''
  cases e''
  obtain⟨Fd,e3⟩:=sl b _ e2 nf
  exact⟨Fd,e3⟩
 refine⟨⟨λb o e n z _=>?_,λb o e n z _=>slots b o e n z,λb o e n _=>?_,λb o e _=>?_,λb xs q=>u.tups b xs (ub.tups b xs q),λb o q z=>u.gP b o q (ub.gP b o q z),λb ps q=>?_⟩,inB⟩
 .have e1:=ub.keep b o e n z (nx b)
  have e2:=u.keep b o e1 (ub.free b o e n (nx b)) (no b o e z) (nx b)
  obtain⟨o',e3⟩:=inB b o e z
  have e4:=st b o' e3
  rw[e2]at e4
  cases e4
  exact fl b o e3
 .obtain⟨o1,e1⟩:=ub.there b o e (nx b)
  exact u.free b o1 e1 (ub.free b o e n (nx b)) (nx b)
 .by_cases z:b∈frs outer
  .obtain⟨sl,e1⟩:=slots b o e (I.ok.lQ b z) z
   exact⟨_,e1⟩
  .obtain⟨o',e1⟩:=inB b o e z
   exact⟨o',fl b o' e1⟩
 .obtain⟨m1,e1⟩:=ub.gQ b ps q
  obtain⟨m2,e2⟩:=u.gQ b _ e1
  exact⟨m1++m2,by rw[e2,Array.append_assoc]⟩
end
noncomputable def Raises(X:Cx)(E:XK):Prop:=∀(pins:List (Addr × Obj)) (σ : St) (H:Hp) (s:Shared) (h':Heap) (e C:Addr) (us:List Value),Inv X pins σ H s->Heap.MadeExcOf s.heap h' e (.ref C) us->E (.ref C) none H->X.xe (.ref e) {s with heap:=h' }
theorem yI{P:Program}{w:World}{K:PySem.W.Frag}{mg:Str->Option Value}{base:Heap}{N:List Str}{qual:Str}{scope:Scope}{f:Addr}{cd:Value}{A:Around}{outer:List Env}{s:Shared}{H:Hp}{E:XK} :
  Raises (gq (eX P w) P w K mg base N qual scope f cd A outer s H E) E:=by
 intro pins σ H1 s1 h' e C us I hx q
 have hs:=I.stack
 have hf:(envOfC qual scope s.heap.objs.size f cd).frame=some s.heap.objs.size:=by
  rcases I.ok.stk with z|z
  .exact absurd (congrArg List.length z) (by show outer.length+1≠outer.length; lia)
  .exact z.2
 have hin:∀env∈(envOfC qual scope s.heap.objs.size f cd::outer),∀a,env.frame=some a->a∈frs (envOfC qual scope s.heap.objs.size f cd::outer):=λenv he b hb=>List.mem_filterMap.mpr ⟨env,he,hb⟩
 have P0:(PySem.W.hideAll s1.heap (frs (envOfC qual scope s.heap.objs.size f cd::outer))).StaysIn s1.heap:=λb o z=>PySem.W.of_hideAll _ z
 have stH:=λb o z=>hx.keeps b o (P0 b o z)
 refine wpAny_leaves_madeW (base:=PySem.W.hideAll s1.heap (frs (envOfC qual scope s.heap.objs.size f cd::outer))) (h:=s1.heap) I.ok.frames hf P0 (PySem.W.funFrames_hide hs hin) hx λh'' t fl _ _ sl=>?_
 obtain⟨un,ib⟩:=Un.left (B:=PySem.W.hideAll s1.heap (frs (envOfC qual scope s.heap.objs.size f cd::outer))) I (Un.kept (h':=h') hx.keeps) stH (λb o z n=>⟨o,PySem.W.hideAll_get _ z n⟩) fl.1 sl
 exact⟨e,.ref C,.ref t,H1,_,rfl,q,I.os,I.bare,un,adt I.hok I.xK,fl,ib⟩
theorem yJ{P:Program}{w:World}{K:PySem.W.Frag}{mg:Str->Option Value}{base:Heap}{N:List Str}{qual:Str}{scope:Scope}{f:Addr}{cd:Value}{A:Around}{outer:List Env}{s:Shared}{H:Hp}{E:XK} :
  Passes (eX P w) (gq (eX P w) P w K mg base N qual scope f cd A outer s H E) E:=by
 intro pins σ H1 s1 e s' I h
 obtain⟨ea,cls,a0,H2,B,rfl,q,os,bare,un,hok,fl,kb⟩:=h
 have hf:(envOfC qual scope s.heap.objs.size f cd).frame=some s.heap.objs.size:=by
  rcases I.ok.stk with z|z
  .exact absurd (congrArg List.length z) (by show outer.length+1≠outer.length; lia)
  .exact z.2
 refine wpAny_leaves_onW (base:=B) I.ok.frames hf fl λh'' yK sl=>?_
 obtain⟨un',ib⟩:=Un.left (B:=B) I un fl.1 kb yK.1 sl
 exact⟨ea,cls,a0,H2,B,rfl,q,os.trans I.os,bare,un',hok,yK,ib⟩
noncomputable def adu(E:XK)(C:Addr)(te:TE):TS:=λ_ σ H=>te σ H λv H1=>[v].length=1/\E (.ref C) none H1
theorem adv(R:Raises X E)(O:OwnCls x C bm newId X.mg X.base)(FB:ExcBaseFacts B newId initId bm)(hc:X.calm=true)(ha:PE X e te)
  (hg:Gl X x:=by rfl) (hd:(x == ("__debug__" : Str))=false:=by decide) (hs:starEach [e] X.env=[(false,eval e X.env)]:=by rfl) :
  PS X (.Raise (some (.Call (.Name x np) [e] [] cpos)) none pos) (adu E C te):=by
 refine⟨λpins s σ H D I h=>?_⟩
 obtain⟨tl,N,nm,q,bs,hdct,sn,sub,ab,col,dd,k0,k1,k2,k3,k5,mN,hC,hN,hni,T⟩:=O.obj
 refine wpAny_Raise_call_subT (C:=C) (nm:=nm) (q:=q) (N:=N) (bs:=bs) (bm:=tl) (hdct:=hdct) (sn:=sn) (sub:=sub) (ab:=ab) (col:=col) (dd:=dd) (k0:=k0) (k1:=k1) (k2:=k2) (k3:=k3) (k5:=k5)
  FB (mN:=mN) (T.hasType FB.hasBase) (I.ok.hd hc) (by rw[hs]; rfl) hni (xQ I hg O.bound ⟨rfl,?_⟩ hd)
 have ga:=rA ha yr (by rw[hs]; rfl)
 have z:=ga cpos pins s σ H (λvs H1=>vs.length=1/\E (.ref C) none H1) I (by
  exact h)
 rw[hs]at z ⊢
 refine Calls.evalArgs_plain (wpAny_mono z (λus s₂ h₂=>?_) λ_ _ y=>y)
 obtain⟨vs,H2,I2,rv,hl,hE⟩:=h₂
 refine⟨rfl,?_,I2.bk _ _ hC,hN.keeps I2.bk,T.keeps I2.bk,λh' e' hm=>R pins σ H2 s₂ h' e' C us I2 hm hE⟩
 rw[<-rv.length,hl]
 decide
noncomputable def XP(X:Cx)(pins:List (Addr × Obj))(EX:St->XK)(e:Value)(s':Shared):Prop:=∃σ H s,Inv X pins σ H s/\eX X.prog X.w X.stack H s (EX σ) e s'
noncomputable abbrev TX:=Ends->(St->XK)->St->Hp->Prop
noncomputable abbrev TEX:=(St->XK)->TE
theorem fQ.here{P:Program}{w:World}{H:Hp}{h:Heap}{a:Addr}{o:HO}(x:fQ P w H h a o):∃u,h.get? a=some u:=by
 cases o with
 |lst xs=>obtain⟨_,_,_,_,e⟩:=x; exact⟨_,e⟩
 |tup xs=>obtain⟨_,_,_,_,e,_⟩:=x; exact⟨_,e⟩
 |ins C dx fs=>obtain⟨_,_,_,e,_⟩:=x; exact⟨_,e⟩
 |own y=>exact x
 |rng lo hi=>obtain⟨_,_,_,e⟩:=x; exact⟨_,e⟩
 |cO ob u=>obtain⟨e,_⟩:=x; exact⟨_,e⟩
 |bO ps=>exact⟨_,(show h.get? a=some _ from x)⟩
 |ext φ=>exact x.2.1
end L2
end
section
namespace L2
open PySem PySem.Spec PyProof.Rows PySem.W PySem.Builtin PySem.Builtin.ObjectAttr PySem.Builtin.Getset_descriptor
structure nH(K:Frag)(C:Addr):Prop where
 ga:findIn K (.ref C) "__getattribute__" = some (some (.builtin "BaseException.__getattribute__"))
 gn:findIn K (.ref C) "__getattr__" = some none
 cl:findIn K (.ref C) "__class__" = some (some (.builtin "object.__class__"))
 ob:mroIn K C (.type "object")=some true
 be:mroIn K C (.type "BaseException")=some true
 is:(clsIn K C).isSome=true
section
variable {prog:Program}{w:World}{A:Around}{E:Value->Shared->Prop}{h:Heap}{g:Array GenState}{d:Drawn}{t:Nat}{os:OsState}{a C:Addr}{o:Obj}{K:Frag}
theorem adw(X:K.In h)(Z:nH K C)(hx:h.get? a=some o)(hc:o.cls=.ref C)(hq:R (.ok (.ret (.ref C))) ⟨h,g,d,t,os⟩) :
  codeAny (model prog w) A (.call (.builtin "getset_descriptor.__get__") ⟨[.builtin "object.__class__",.ref a,.ref C],[]⟩) R ⟨h,g,d,t,os⟩:=by
 have ty:Looks (model prog w) h (typeOf (.ref a)) (.ref C):=hc▸(Looks.ld hx).andThen .now
 have ms:=looks_mroIn (M:=model prog w) X Z.ob
 refine codeAny_call_builtin KF.slot_gs.plain KF.entry_gs (KF.slot_gs.check _ _ _ _ _ _ _ _ KF.type_class (KF.args_gs _ _ _) ?_)
 unfold Builtin.«getset_descriptor.__get__»
 unfold Builtin.Getset_descriptor.descrGet
 rw[dga_obj]
 refine wpAny_bind (wpAny_pure ?_)
 unfold Builtin.Getset_descriptor.descrGetter
 unfold Builtin.Getset_descriptor.descrCheckInstance
 unfold Builtin.Getset_descriptor.descrNameAndClass
 unfold isInstance
 simp only[KF.owner_class]
 repeat lk
 refine⟨Code.quiet_builtin _ (by decide +kernel),codeAny_builtin KF.entry_class ?_⟩
 unfold Builtin.«object.__class__»
 unfold shownTypeOf
 repeat lk
 all_goals first|exact hq|assumption
theorem adx(X:K.In h)(Z:nH K C)(hx:h.get? a=some o)(hc:o.cls=.ref C)(hq:Q (.done (.ret (.ref C))) ⟨h,g,d,t,os⟩) :
  wpAny (model prog w) A (Builtin.«object.__getattribute__» ⟨[.ref a,.str "__class__" tk],[]⟩) Q E ⟨h,g,d,t,os⟩:=by
 have hT5:(⟨h,g,d,t,os⟩:Shared).TypeIs (.builtin "object.__class__") "getset_descriptor" := KF.type_class
 have f6:=F.slot_gs_get.lookup
 have f7:=F.slot_gs_set.lookup
 have lc:=λA (Q:Option Value->Shared->Prop) E (q:Q (some (.builtin "object.__class__")) ⟨h,g,d,t,os⟩)=>looks_findIn (M:=model prog w) X Z.cl A Q E ⟨h,g,d,t,os⟩ (λ_ _ z=>z) q
 repeat(any_goals (first|assumption|(with_reducible refine wpAny_loadPart_at hx ?_; rw[hc])|with_reducible refine lc _ _ _ ?_|wp_step))
 refine adw X Z hx hc ?_
 repeat(any_goals (first|assumption|wp_step))
theorem ady(X:K.In h)(Z:nH K C)(hx:h.get? a=some o)(hc:o.cls=.ref C)(hq:Q () ⟨h,g,d,t,os⟩) :
  wpAny (model prog w) A (checkBuiltinCall "BaseException.__getattribute__" ⟨[.ref a,nameV],[]⟩) Q E ⟨h,g,d,t,os⟩:=by
 have b1:builtinKind "BaseException.__getattribute__" = some .slot:=by decide +kernel
 have b2:splitId "BaseException.__getattribute__" = some ("BaseException", "__getattribute__"):=by decide +kernel
 have ha:=F.args_bexc_ga (.ref a) nameV
 have lc:=λA (Q:Bool->Shared->Prop) E (q:Q true ⟨h,g,d,t,os⟩)=>looks_mroIn (M:=model prog w) X Z.be A Q E ⟨h,g,d,t,os⟩ (λ_ _ z=>z) q
 simp only[checkBuiltinCall,b1,b2]
 refine wpAny_bind ?_
 unfold isInstance
 repeat(first|(with_reducible refine wpAny_loadPart_at hx ?_; rw[hc])|with_reducible refine lc _ _ _ ?_|wp_step)
 exact hq
theorem adz(X:K.In h)(Z:nH K C)(hx:h.get? a=some o)(hc:o.cls=.ref C)(hq:R (.ok (.ret (.ref C))) ⟨h,g,d,t,os⟩) :
  codeAny (model prog w) A (.call (.builtin "BaseException.__getattribute__") ⟨[.ref a,.str "__class__" tk],[]⟩) R ⟨h,g,d,t,os⟩ :=
 codeAny_call_builtin PySem.F.attr_ValueError.ga.plain F.entry_bexc_ga (ady X Z hx hc (adx X Z hx hc hq))
theorem adA(X:K.In h)(Z:nH K C)(hx:h.get? a=some o)(hc:o.cls=.ref C)(hq:Q (.ref C) ⟨h,g,d,t,os⟩) :
  wpAny (model prog w) A (getAttrBy (.ref a) (.str "__class__" tk) false) Q E ⟨h,g,d,t,os⟩:=by
 have f3:=PySem.F.attr_ValueError.ga.bind (.ref a)
 have hx2:(Value.builtin "BaseException.__getattribute__" == Value.builtin "object.__getattribute__")=false:=by decide +kernel
 have hx1:(onTheHeap (Value.ref C)&&Value.builtin "BaseException.__getattribute__" == Value.builtin "object.__getattribute__")=false:=by rw[hx2]; rfl
 have l1:=λA (Q:Option Value->Shared->Prop) E (q:Q (some (.builtin "BaseException.__getattribute__")) ⟨h,g,d,t,os⟩)=>looks_findIn (M:=model prog w) X Z.ga A Q E ⟨h,g,d,t,os⟩ (λ_ _ z=>z) q
 have l2:=λA (Q:Option Value->Shared->Prop) E (q:Q none ⟨h,g,d,t,os⟩)=>looks_findIn (M:=model prog w) X Z.gn A Q E ⟨h,g,d,t,os⟩ (λ_ _ z=>z) q
 repeat(any_goals (first|assumption|(with_reducible refine wpAny_loadPart_at hx ?_; rw[hc])|with_reducible refine l1 _ _ _ ?_|with_reducible refine l2 _ _ _ ?_|wp_step))
 refine adz X Z hx hc ?_
 repeat(any_goals (first|assumption|wp_step))
theorem adB(X:K.In h)(Z:nH K C)(hx:h.get? a=some o)(hc:o.cls=.ref C)(hq:Q (some (.ref C)) ⟨h,g,d,t+1,os⟩) :
  wpAny (model prog w) A (getAttr? (.ref a) "__class__") Q E ⟨h,g,d,t,os⟩:=by
 repeat(any_goals (first|assumption|with_reducible apply adA X Z hx hc|wp_step))
theorem adC(Z:nH K C):KitX K (.ref a) (.ref C) (Es a C) where
 ty:=λ_ _ _ ⟨o,_,h1,h2,_⟩=>h2▸(Looks.ld h1).andThen .now
 it:=λ_ _ X _=>by
  obtain⟨cd,e⟩:=Option.isSome_iff_exists.mp Z.is
  unfold clsIn at e
  split at e
  .rename_i ho
   intro A' Q' E' s' k q
   unfold isType loadHead
   exact wpAny_bind (wpAny_loadPart (k _ _ (X _ _ ho)) (wpAny_pure q))
  .cases e
 ne:=λh tp dd its n sl X htp=>by
  obtain⟨cd,e⟩:=Option.isSome_iff_exists.mp Z.is
  refine Bool.eq_false_iff.mpr λq=>?_
  have q':C=tp:=Value.ref.inj (beq_iff_eq.mp q)
  subst q'
  unfold clsIn at e
  split at e
  .rename_i ho
   have z:=(X _ _ ho).symm.trans htp
   cases z
  .cases e
 ca:=λ{_ _ _ _ _ s} X p k=>by
  obtain⟨h,g,d,t,os⟩:=s
  obtain⟨o,_,h1,h2,_⟩:=p
  exact adB X Z h1 h2 k
end
open PySem
theorem adD(a b:Int):a=b*a.fdiv b+a.fmod b:=by
 have:=Int.mul_fdiv_add_fmod a b
 omega
theorem adE(a b:Int)(h:b≠0):(a.fmod b).natAbs<b.natAbs:=by
 have h1:=Int.emod_nonneg a h
 have h2:=Int.emod_lt a h
 rw[Int.fmod_eq_emod]
 split
 .omega
 .rename_i hn
  have hb:¬0<=b:=λz=>hn (.inl z)
  have hd:¬b∣a:=λz=>hn (.inr z)
  have h3:a%b≠0:=λz=>hd (Int.dvd_of_emod_eq_zero z)
  omega
theorem adF(a b:Int):Int.gcd b (a.fmod b)=Int.gcd a b:=by
 have e:=adD a b
 apply Nat.dvd_antisymm
 .refine Int.dvd_gcd ?_ ?_
  .have h1:(Int.gcd b (a.fmod b):Int)∣b:=Int.gcd_dvd_left ..
   have h2:(Int.gcd b (a.fmod b):Int)∣a.fmod b:=Int.gcd_dvd_right ..
   have h3:=Int.dvd_add (Int.dvd_mul_of_dvd_left (c:=a.fdiv b) h1) h2
   rw[<-e]at h3
   exact h3
  .exact Int.gcd_dvd_left ..
 .refine Int.dvd_gcd ?_ ?_
  .exact Int.gcd_dvd_right ..
  .have h1:(Int.gcd a b:Int)∣a:=Int.gcd_dvd_left ..
   have h2:(Int.gcd a b:Int)∣b:=Int.gcd_dvd_right ..
   have e2:a.fmod b=a-b*a.fdiv b:=by omega
   rw[e2]
   exact Int.dvd_sub h1 (Int.dvd_mul_of_dvd_left h2)
theorem adG(a:Int):(if a<0 then -a else a)=((Int.gcd a 0:Nat):Int):=by
 rw[Int.gcd_zero_right]
 split <;> omega
theorem rJ(hb:0<b):0<((Int.gcd a b:Nat):Int)/\((Int.gcd a b:Nat):Int)<=b/\1<=b / (Int.gcd a b:Nat)/\Int.gcd (a / (Int.gcd a b:Nat)) (b / (Int.gcd a b:Nat))=1/\(0<=a->0<=a / (Int.gcd a b:Nat)) /\
  a=(a / (Int.gcd a b:Nat))*(Int.gcd a b:Nat)/\b=(b / (Int.gcd a b:Nat))*(Int.gcd a b:Nat):=by
 have hg:0<Int.gcd a b:=Int.gcd_pos_of_ne_zero_right a (by omega)
 have hgi:0<((Int.gcd a b:Nat):Int):=by omega
 have d1:(Int.gcd a b:Int)∣a:=Int.gcd_dvd_left ..
 have d2:(Int.gcd a b:Int)∣b:=Int.gcd_dvd_right ..
 have e1:=Int.ediv_mul_cancel d1
 have e2:=Int.ediv_mul_cancel d2
 refine⟨hgi,Int.le_of_dvd hb d2,?_,Int.gcd_ediv_gcd_ediv_gcd hg,λh=>Int.ediv_nonneg h (by omega),e1.symm,e2.symm⟩
 have:0<b / (Int.gcd a b:Nat):=Int.ediv_pos_of_pos_of_dvd hb (by omega) d2
 omega
open PySem.Spec PyProof.Rows
theorem adH(h1:1<=q)(h2:1<=q')(g1:Int.gcd p q=1)(g2:Int.gcd p' q'=1)(e:p*q'=p'*q):p=p'/\q=q':=by
 have en:p.natAbs*q'.natAbs=p'.natAbs*q.natAbs:=by rw[<-Int.natAbs_mul,<-Int.natAbs_mul,e]
 have c1:Nat.Coprime q.natAbs p.natAbs:=by rw[Nat.coprime_comm]; exact g1
 have c2:Nat.Coprime q'.natAbs p'.natAbs:=by rw[Nat.coprime_comm]; exact g2
 have d1:q.natAbs∣q'.natAbs:=c1.dvd_of_dvd_mul_left ⟨p'.natAbs,by rw[en,Nat.mul_comm]⟩
 have d2:q'.natAbs∣q.natAbs:=c2.dvd_of_dvd_mul_left ⟨p.natAbs,by rw[<-en,Nat.mul_comm]⟩
 have ea:=Nat.dvd_antisymm d1 d2
 have eq:q=q':=by lia
 refine⟨?_,eq⟩
 rw[<-eq]at e
 exact Int.eq_of_mul_eq_mul_right (by lia) e
open PySem.W
theorem adI{K:Frag}{h:Heap}{mg:Str->Option Value}{x:Str}{C:Addr}{bmB:List Value}{newId:String}(X:K.In h)(G:h.Ns mainGlobals mg)(e:nsIn K mainGlobals x=some (some (.ref C)))(q:excIn K C bmB newId=true):OwnCls x C bmB newId mg h:=by
 constructor
 .exact mg_of X G e
 unfold excIn at q
 split at q
 case h_2=>cases q
 rename_i dd cd sl lk
 split at q
 case h_2=>cases q
 rename_i c0 bm y0 y1 y2 y3 nid y5 hm hl
 rw[Bool.and_eq_true,Bool.and_eq_true,Bool.and_eq_true,Bool.and_eq_true,Bool.and_eq_true]at q
 obtain⟨⟨⟨⟨⟨q1,q2⟩,q3⟩,q4⟩,q5⟩,q6⟩:=q
 have r1:=beq_iff_eq.mp q1
 have r2:=beq_iff_eq.mp q2
 have r6:=beq_iff_eq.mp q6
 have r3:cd.hasDel=false:=by simpa using q3
 subst r1 r2
 have hsl:sl = #[y0,y1,y2,y3,some (.builtin nid),y5]:=by
  cases sl with
  |mk l=>exact congrArg Array.mk hl
 subst hsl
 cases cd with
 |mk nm bs mro ns qn hd sn sub ab col del =>
  subst hm r3
  exact⟨bm,ns,nm,qn,bs,hd,sn,sub,ab,col,dd,y0,y1,y2,y3,y5,_,X _ _ lk,.of_isNs (isNs_of_in X q5),nsMap_none_of_in X q5 r6,tail_of_in X q4⟩
section
variable {P:Program}{w:World}{K:Frag}{mg:Str->Option Value}{base:Heap}
theorem jm.Qa{x qual:Str}{st:Stmt}{f:Addr}{fd:FuncData}{N ps:List Str}{k:Nat}{sp:Sp}(F:jm K x qual st f fd)(S:pC N ps (bG st))(len:∀vs H Q E,sp vs H Q E->vs.length=ps.length)
  (hbody:∀(cdv:Value) (A:Around) (outer:List Env) (s:Shared) (H:Hp) (vs:List V) (Q:VK) (E:XK),bQ k (A.deeper (envOfC qual (bG st) s.heap.objs.size f cdv))->sp vs H Q E ->
   ∃t,cX (gq (eX P w) P w K mg base N qual (bG st) f cdv A outer s H E) (eN st) t/\t {nx:=λ_ H'=>Q .non H',rt:=Q } (start N vs) H):dH P w K mg base (eX P w) (k+1) f fd ps sp:=by
 obtain⟨oc,od,kV,doc,pm,an,cdv,ct,osl,rfl,lk,hcd⟩:=F.ex
 exact Ec lk hcd S len λA outer s H vs Q E hr h=>hbody cdv A outer s H vs Q E hr h
noncomputable def iI(P:Program)(w:World)(K:Frag)(mg:Str->Option Value)(base:Heap)(k:Nat)(x:Str)(ps:List Str)(sp:Sp):Prop :=
 ∃f fd,dH P w K mg base (eX P w) k f fd ps sp/\Binds K fd ps []/\keepIn K (.ref f)=true/\mg x=some (.ref f)
theorem iI.mono(D:iI P w K mg base j x ps sp)(h:j<=k):iI P w K mg base k x ps sp:=by
 obtain⟨f,fd,h1,h2⟩:=D
 exact⟨f,fd,h1.mono h,h2⟩
theorem At.Fe{k:Nat}{x:Str}{st:Stmt}{N ps:List Str}{sp:Sp}(a:At K mg x st)(S:pC N ps (bG st))
  (hb:∀(kV doc pm:Value) (an:Option Addr) (cdv ct:Value) (us:List Value),us.length=ps.length->bindArgs (fnOf x x (iG st) (eN st) (bG st) .none kV doc pm an cdv ct) ⟨us,[]⟩=pure (ps.zip us))
  (len:∀vs H Q E,sp vs H Q E->vs.length=ps.length)
  (hbody:∀(f:Addr) (cdv:Value) (A:Around) (outer:List Env) (s:Shared) (H:Hp) (vs:List V) (Q:VK) (E:XK),bQ k (A.deeper (envOfC x (bG st) s.heap.objs.size f cdv))->sp vs H Q E ->
   ∃t,cX (gq (eX P w) P w K mg base N x (bG st) f cdv A outer s H E) (eN st) t/\t {nx:=λ_ H'=>Q .non H',rt:=Q } (start N vs) H):iI P w K mg base (k+1) x ps sp:=by
 obtain⟨f,fd,F,m⟩:=a
 exact⟨f,fd,F.Qa S len λcdv A outer s H vs Q E hr h=>hbody f cdv A outer s H vs Q E hr h,F.binds hb,F.kp,m⟩
end
section
variable {X:Cx}{k:Nat}{x:Str}{ps:List Str}{sp:Sp}{p pos:Pos}{e:Expr}{es:List Expr}{t:TA}
theorem Qc:Passes (eX P w) X E0:=λ_ _ _ _ _ _ _ h=>by
 obtain⟨_,_,_,_,_,_,q,_⟩:=h
 exact q.elim
end
noncomputable def Sx(p:Addr)(H H':Hp):Prop:=∀b o,b≠p->H b=some o->H' b=some o
theorem Sx.refl(p:Addr)(H:Hp):Sx p H H:=λ_ _ _ h=>h
theorem Sx.trans(a:Sx p H H1)(b:Sx p H1 H2):Sx p H H2:=λc o n h=>b c o n (a c o n h)
theorem Sx.put(p:Addr)(H:Hp)(o:HO):Sx p H (upd H p o):=λb u n h=>by rw[aD n]; exact h
theorem Sx.of(s:Same H H'):Sx p H H':=λb o _ h=>s b o h
end L2
end
section
namespace L2
open PySem PySem.Spec PyProof.Rows
noncomputable def Qd(K:PySem.W.Frag)(l1 l2:Addr):It where
 go:=λi H=>∃xs ys x y,aL K H l1 xs/\aL K H l2 ys/\xs[i]?=some x/\ys[i]?=some y
 pq:=λi H v H'=>∃T x y,v=.ref T/\H T=none/\H'=upd H T (.tup [x,y])/\∀xs ys,aL K H l1 xs->aL K H l2 ys->xs[i]?=some x/\ys[i]?=some y
 stop:=λi H=>∃xs ys,aL K H l1 xs/\aL K H l2 ys/\i=min xs.length ys.length
noncomputable def adJ(l1 l2 z TI TO i1 i2:Addr)(i:Nat)(h:Heap):Prop:=IsZip h z TI TO .none/\IsPair h TI (.ref i1) (.ref i2)/\(∃a b,IsPair h TO a b)/\h.IsListIter i1 l1 i/\h.IsListIter i2 l2 i
section
variable {P:Program}{w:World}{K:PySem.W.Frag}
theorem Inv.adK{pins:List (Addr × Obj)}{tk:Nat}{fp:List Addr}{xs:List V}{its:List Value}(I:Inv X pins σ H s)(hf:∀b∈fp,cH X pins H b)(k:∀b o,b∉fp->s.heap.get? b=some o->h'.get? b=some o)
  (th:∀b∈fp,∃o,h'.get? b=some o) (hT:s.heap.objs.size<=T) (ht:IsTup h' T its.toArray) (rv:Vals xs its) (hz:xs.length<=sizeLine):Inv X pins σ (upd H T (.tup xs)) {s with heap:=h',toks:=tk }:=by
 have fT:H T=none:=I.hok.fresh hT
 have neT:∀b o,s.heap.get? b=some o->b≠T:=λb o e z=>by rw[z]at e; exact absurd (Heap.lt_size e) (Nat.not_lt.mpr hT)
 have uM:∀b o,H b=some o->b≠T:=λb o e z=>by rw[z,fT]at e; cases e
 refine I.step (g':=s.gens) (d':=s.drawn) (ch:=fp) (λb hb=>?_) (λb o _ _ hc e _=>k b o hc e) (λb o _ _ hc e _=>⟨o.slots,k b o hc e⟩) (λb o _ e n=>by rw[aD (neT b o e)]; exact n) (λb o hc e=>⟨o,k b o hc e⟩)
  (λb ys e=>by rw[aD (uM b _ e)]; exact e) (λb o u e=>by rw[aD (uM b _ e)]; exact e) (λb ps e=>⟨#[],by rw[aD (uM b _ e)]; simpa using e⟩) (λm hm=>?_) (λb u e=>?_) I.bare
 .obtain⟨f0,f1,f2,f3,f4,f5⟩:=hf b hb
  exact⟨f3,f1,f4,f5⟩
 .obtain⟨o,es,ep,ho,r⟩:=hm
  exact⟨o,es,ep,k _ o (λz=>(hf _ z).2.1 rfl) ho,r⟩
 .by_cases z:b=T
  .subst z
   rw[bJ]at e
   cases e
   exact⟨hz,its,rv,ht⟩
  .rw[aD z]at e
   refine(I.hok b u e).stay (λc o hc q=>k c o (λzc=>?_) q) (λc q=>by rw[aD (uM c _ q)]; exact q) λc ys q=>by rw[aD (uM c _ q)]; exact q
   have:=(hf c zc).1
   rcases hc with rfl|hc
   .rw[this]at e; cases e
   .rw[this]at hc; cases hc
theorem Inv.adL{pins:List (Addr × Obj)}{tk:Nat}{fp:List Addr}(I:Inv X pins σ H s)(hf:∀b∈fp,cH X pins H b)(k:∀b o,b∉fp->s.heap.get? b=some o->h'.get? b=some o):Inv X pins σ H {s with heap:=h',toks:=tk }:=by
 refine I.step (g':=s.gens) (d':=s.drawn) (ch:=fp) (λb hb=>?_) (λb o _ _ hc e _=>k b o hc e) (λb o _ _ hc e _=>⟨o.slots,k b o hc e⟩) (λb o _ e n=>n) (λb o hc e=>⟨o,k b o hc e⟩)
  (λb ys e=>e) (λb o u e=>e) (λb ps e=>⟨#[],by simpa using e⟩) (λm hm=>?_) (λb u e=>?_) I.bare
 .obtain⟨f0,f1,f2,f3,f4,f5⟩:=hf b hb
  exact⟨f3,f1,f4,f5⟩
 .obtain⟨o,es,ep,ho,r⟩:=hm
  exact⟨o,es,ep,k _ o (λz=>(hf _ z).2.1 rfl) ho,r⟩
 .refine(I.hok b u e).stay (λc o hc q=>k c o (λzc=>?_) q) (λc q=>q) λc ys q=>q
  have:=(hf c zc).1
  rcases hc with rfl|hc
  .rw[this]at e; cases e
  .rw[this]at hc; cases hc
theorem adM{elts:List Expr}{k:Nat}(l1 l2 z TI TO i1 i2:Addr)(D:ZipApart z TI TO i1 i2 l1 l2):Turn P w K (.Tuple elts k pos) (Qd K l1 l2) [z,TI,TO,i1,i2] z (adJ l1 l2 z TI TO i1 i2) where
 mem:=by simp
 obj:=λi h st b hb=>by
  obtain⟨hz,hTI,⟨a,c,hTO⟩,⟨o1,e1,_,d1⟩,⟨o2,e2,_,d2⟩⟩:=st
  have hb':b=z\/b=TI\/b=TO\/b=i1\/b=i2:=by simpa using hb
  rcases hb' with rfl|rfl|rfl|rfl|rfl
  .exact⟨_,hz,λv q=>nomatch q⟩
  .exact⟨_,hTI,λv q=>nomatch q⟩
  .exact⟨_,hTO,λv q=>nomatch q⟩
  .exact⟨o1,e1,λv q=>by rw[d1]at q; cases q⟩
  .exact⟨o2,e2,λv q=>by rw[d2]at q; cases q⟩
 keep:=λi h h' st kp=>by
  obtain⟨hz,hTI,⟨a,c,hTO⟩,h1,h2⟩:=st
  exact⟨kp z (by simp) _ hz,kp TI (by simp) _ hTI,⟨a,c,kp TO (by simp) _ hTO⟩,h1.at λo e=>kp i1 (by simp) o e,h2.at λo e=>kp i2 (by simp) o e⟩
 item:=by
  intro X hP hw hK hc i pins s σ H E I hf st hg
  subst hP hw hK
  obtain⟨xs,ys,x,y,q1,q2,hx,hy⟩:=hg
  obtain⟨pI,yL,p1,_⟩:=I.list q1
  obtain⟨its2,gA,p2,_⟩:=I.list q2
  obtain⟨u,hu,ru⟩:=yL.get hx
  obtain⟨v,hv,rv⟩:=gA.get hy
  have W:=WalksT.zip2 (prog:=X.prog) (w:=X.w) (A:=X.A) (I.ok.hd hc) z TI TO i1 i2 l1 l2 D pI.toArray its2.toArray
  have lt1:i<pI.length:=(List.getElem?_eq_some_iff.mp hu).1
  have aU:i<its2.length:=(List.getElem?_eq_some_iff.mp hv).1
  refine W.item i s _ E (by simp; lia) ⟨st.1,st.2.1,st.2.2.1,st.2.2.2.1,st.2.2.2.2,p1.isList,p2.isList⟩ λT vals h' tk hp hT ht mid kk=>?_
  obtain⟨u',v',e1,e2,rfl⟩:=hp
  have eu:u'=u:=by
   have:pI[i]?=some u':=by simpa using e1
   rw[hu]at this; cases this; rfl
  have ev:v'=v:=by
   have:its2[i]?=some v':=by simpa using e2
   rw[hv]at this; cases this; rfl
  subst eu ev
  refine⟨.ref T,rfl,?_⟩
  refine W.go elts k pos i T _ _ E mid λh'' st' Qe=>?_
  have nT:=W.apart i T _ mid
  have ob:=(λb hb=>(by
   obtain⟨hz,hTI,⟨a,c,hTO⟩,⟨o1,e1,_,d1⟩,⟨o2,e2,_,d2⟩⟩:=st
   have hb':b=z\/b=TI\/b=TO\/b=i1\/b=i2:=by simpa using hb
   rcases hb' with rfl|rfl|rfl|rfl|rfl
   .exact Heap.lt_size hz
   .exact Heap.lt_size hTI
   .exact Heap.lt_size hTO
   .exact Heap.lt_size e1
   .exact Heap.lt_size e2:b<s.heap.objs.size):∀b∈[z,TI,TO,i1,i2],b<s.heap.objs.size)
  have nTf:T∉[z,TI,TO,i1,i2]:=λm=>absurd (ob T m) (Nat.not_lt.mpr hT)
  have sub:∀b,b∉[z,TI,TO,i1,i2]->b∉[z,TO,i1,i2]:=λb n m=>n (by simp at m ⊢; rcases m with rfl|rfl|rfl|rfl <;> simp)
  have adN:IsTup h'' T #[u',v']:=by
   obtain⟨o,e,r⟩:=ht
   exact⟨o,Qe T o nT e,r⟩
  have th:∀b∈[z,TI,TO,i1,i2],∃o,h''.get? b=some o:=λb hb=>by
   obtain⟨hz,hTI,⟨a,c,hTO⟩,⟨o1,e1,_,d1⟩,⟨o2,e2,_,d2⟩,_⟩:=st'
   have hb':b=z\/b=TI\/b=TO\/b=i1\/b=i2:=by simpa using hb
   rcases hb' with rfl|rfl|rfl|rfl|rfl
   .exact⟨_,hz⟩
   .exact⟨_,hTI⟩
   .exact⟨_,hTO⟩
   .exact⟨_,e1⟩
   .exact⟨_,e2⟩
  have I':Inv X pins σ (upd H T (.tup [x,y])) {s with heap:=h'',toks:=tk }:=I.adK (its:=[u',v']) hf (λb o n e=>Qe b o (sub b n) (kk b o (sub b n) e)) th hT adN (.cons ru (.cons rv .nil)) (by show 2<=sizeLine; decide)
  refine⟨.ref T,_,I',rfl,⟨T,x,y,rfl,I.hok.fresh hT,rfl,λxs' ys' a1 a2=>?_⟩,⟨st'.1,st'.2.1,st'.2.2.1,st'.2.2.2.1,st'.2.2.2.2.1⟩,λb hb=>?_⟩
  .rw[I.xU a1 q1,I.xU a2 q2]
   exact⟨hx,hy⟩
  .have nb:b≠T:=by
    intro e0
    rw[e0]at hb
    exact nTf hb
   rw[aD nb]
   exact(hf b hb).1
 done:=by
  intro X hP hw hK hc i pins s σ H E I hf st hg
  subst hP hw hK
  obtain⟨xs,ys,q1,q2,e⟩:=hg
  obtain⟨pI,yL,p1,_⟩:=I.list q1
  obtain⟨its2,gA,p2,_⟩:=I.list q2
  have W:=WalksT.zip2 (prog:=X.prog) (w:=X.w) (A:=X.A) (I.ok.hd hc) z TI TO i1 i2 l1 l2 D pI.toArray its2.toArray
  have ei:i=min pI.toArray.size its2.toArray.size:=by simp[e,yL.length,gA.length]
  subst ei
  have sub:∀b,b∉[z,TI,TO,i1,i2]->b∉[z,TO,i1,i2]:=λb n m=>n (by simp at m ⊢; rcases m with rfl|rfl|rfl|rfl <;> simp)
  exact W.done s _ E ⟨st.1,st.2.1,st.2.2.1,st.2.2.2.1,st.2.2.2.2,p1.isList,p2.isList⟩ λh' tk kk=>⟨rfl,I.adL hf λb o n e=>kk b o (sub b n) e⟩
 self:=λA i s Q E st h=>wpAny_pyIter_zip st.1 h
end
section
variable {X:Cx}
noncomputable def adO(K:PySem.W.Frag)(ta:TA):TI:=λσ H R=>ta σ H λvs H1=>∃l1 l2,vs=[.ref l1,.ref l2]/\(∃xs,aL K H1 l1 xs)/\(∃ys,aL K H1 l2 ys)/\R (Qd K l1 l2) H1
theorem adP(hm:X.mg "zip" = none) (ha:PA X [a,b] ta) (hg:Gl X "zip" := by rfl) (hs:starEach [a,b] X.env=[(false,eval a X.env),(false,eval b X.env)]:=by rfl) (hs2:starEach [b] X.env=[(false,eval b X.env)]:=by rfl) :
  PI X (.Tuple elts k tpos) (.Call (.Name "zip" p) [a,b] [] pos) (adO X.K ta):=by
 intro pins s σ H R I h
 refine Call_ (o7 I hg hm (show bootBuiltins "zip" = some (.type "zip") by decide +kernel) (PyProof.Rows.callWith_type1 (aF (ha pos pins s σ H _ I h) λus s1 ⟨vs,H1,I1,r1,q1⟩=>?_) (by rw[hs,hs2]) (by rw[hs2]; rfl)))
 obtain⟨l1,l2,e,⟨xs,h1⟩,⟨ys,h2⟩,q⟩:=q1
 subst e
 cases r1 with
 |cons r rr =>
  cases rr with
  |cons r' rr =>
   cases rr
   cases r
   cases r'
   obtain⟨pI,yL,p1,_⟩:=I1.list h1
   obtain⟨its2,gA,p2,_⟩:=I1.list h2
   obtain⟨o1,e1,_⟩:=p1.isList
   obtain⟨o2,e2,_⟩:=p2.isList
   refine call_zip_2 p1.isList p2.isList λh' hz hTI hTO hi1 hi2 hsz hk=>?_
   refine wpAny_pyIter_zip hz ?_
   refine⟨_,[_,_,_,_,_],_,_,H1,rfl,I1.kept (t':=s1.toks) hk,adM l1 l2 _ _ _ _ _ (PySem.W.ktu_apart _ _ _ (Heap.lt_size e1) (Heap.lt_size e2)),⟨hz,hTI,⟨_,_,hTO⟩,hi1,hi2⟩,λc hc=>?_,q⟩
   have hc':c=s1.heap.objs.size+4\/c=s1.heap.objs.size+2\/c=s1.heap.objs.size+3\/c=s1.heap.objs.size\/c=s1.heap.objs.size+1:=by simpa using hc
   have hge:s1.heap.objs.size<=c:=by rcases hc' with rfl|rfl|rfl|rfl|rfl <;> lia
   exact I1.lR hge (I1.hok.fresh hge)
end
end L2
end
section
namespace L2
open PySem
noncomputable def Sz(m:Nat)(r:Rat):Prop:=r.num.natAbs<=2 ^ m/\r.den<=2 ^ m
theorem Sz.mono(h:Sz m r)(hm:m<=n):Sz n r:=⟨Nat.le_trans h.1 (Nat.pow_le_pow_right (by decide) hm),Nat.le_trans h.2 (Nat.pow_le_pow_right (by decide) hm)⟩
theorem Sz.d(h:Sz m r):(r.den:Int).natAbs<=2 ^ m:=by rw[Int.natAbs_natCast]; exact h.2
open PySem.Spec PyProof.Rows
section
variable {X:Cx}
noncomputable def Fg(K:PySem.W.Frag):R2:=λx y H Q=>∃t ts p xs,Rep K H x t/\y=.ref p/\(aL K H p xs\/aX K H p xs)/\au K H xs ts/\deps ts<=40/\dep t<=40/\Q (.bl (!lX t ts)) H
open Classical in
theorem adQ(hu:X.A.units+64<cLine):bw X (compareOp .NotIn) (Fg X.K):=by
 intro pins s σ H x y v u Q I rx ry h
 obtain⟨t,ts,p,xs,q1,rfl,hq,qs,hd,hd2,q⟩:=h
 cases ry
 have hu1:X.A.in1.units+40<cLine:=by
  have:=in1_units X.A
  lia
 -- what == tells of an item,by the item itself
 let e:Value->Bool:=λw'=>if h:∃z tz,z∈xs/\RelV z w'/\Rep X.K H z tz/\tz∈ts then eqT (Classical.choose (Classical.choose_spec h)) t else false
 have ee:∀z w' tz,z∈xs->RelV z w'->Rep X.K H z tz->tz∈ts->e w'=eqT tz t:=λz w' tz h1 h2 h3 h4=>by
  have hx:∃z tz,z∈xs/\RelV z w'/\Rep X.K H z tz/\tz∈ts:=⟨z,tz,h1,h2,h3,h4⟩
  show(if h:_ then _ else _)=_
  rw[dif_pos hx]
  have sp:=Classical.choose_spec (Classical.choose_spec hx)
  have key:∀z z' t1 t2,RelV z w'->RelV z' w'->dep t1<=99->Rep X.K H z t1->Rep X.K H z' t2->t1=t2:=λz z' t1 t2 a1 a2 d9 a3 a4=>by
   obtain rfl:=RelV.inj a1 a2
   exact Rep.inj I d9 a3 a4
  rw[key _ _ _ _ sp.2.1 h2 (by have:=rF sp.2.2.2; lia) sp.2.2.1 h3]
 have mem:∀{its:List Value},Vals xs its->∀w'∈its,SeqAt.EqAt X.A.in1 s w' v (e w'):=by
  intro its r w' hw
  obtain⟨j,hj,ej⟩:=List.mem_iff_getElem.mp hw
  have hjx:j<xs.length:=by rw[r.length]; exact hj
  obtain⟨u',h1,h2⟩:=r.get (List.getElem?_eq_getElem hjx)
  rw[List.getElem?_eq_getElem hj,ej]at h1
  cases h1
  obtain⟨tz,h3,h4⟩:=qs.get (List.getElem?_eq_getElem hjx)
  have hm:=List.mem_of_getElem? h3
  rw[ee _ _ tz (List.getElem_mem hjx) h2 h4 hm]
  exact(yG I 40 X.A.in1 tz t _ x _ v hu1 (Nat.le_trans (rF hm) hd) (by have:=rF hm; lia) (by lia) h4 q1 h2 rx).2
 rcases hq with hq|hq
 .obtain⟨its,r,pl,hz⟩:=I.list hq
  refine SeqAt.notIn_listAt e pl.isList (λw hw=>mem r w (by simpa using hw)) ⟨.bl _,H,I,rfl,?_⟩
  rw[show its.toArray.any e=its.any e by simp,yH (λz=>eqT z t) e r qs λz w' tz h1 h2 h3 h4=>ee z w' tz h1 h2 h3 h4]
  exact q
 .obtain⟨its,r,pl,hz⟩:=I.tuple hq
  refine SeqAt.notIn_tupleAt e pl (λw hw=>mem r w (by simpa using hw)) ⟨.bl _,H,I,rfl,?_⟩
  rw[show its.toArray.any e=its.any e by simp,yH (λz=>eqT z t) e r qs λz w' tz h1 h2 h3 h4=>ee z w' tz h1 h2 h3 h4]
  exact q
end
theorem _root_.L2.aX.mono{K:PySem.W.Frag}{H H':Hp}{a:Addr}{xs:List V}(s:Same H H')(h:aX K H a xs):aX K H' a xs:=by
 rcases h with(h|h)|h
 .exact .inl (.inl (s _ _ h))
 .exact .inl (.inr (by obtain⟨o,e⟩:=h; exact⟨o,s _ _ e⟩))
 .exact .inr h
section
variable {X:Cx}
noncomputable def Fi(K:PySem.W.Frag):R2:=λx y H Q=>∃t u,Rep K H x t/\Rep K H y u/\dep t<=40/\dep u<=40/\Q (.bl (!eqT t u)) H
theorem adR(hu:X.A.units+64<cLine):bw X (compareOp .NotEq) (Fi X.K):=by
 intro pins s σ H x y v u Q I vx vy h
 obtain⟨t,t',rx,ry,hd,du,q⟩:=h
 have hu0:X.A.units<cLine:=by lia
 have hu1:X.A.in1.units+40<cLine:=by
  have:=in1_units X.A
  lia
 have fin:SeqAt.RcNeAt X.A s v u (!eqT t t')->wpAny (model X.prog X.w) X.A (compareOp .NotEq v u) (EP X pins σ Q) X.xe s:=λh=>h _ _ _ _ ⟨.bl _,H,I,rfl,q⟩
 have items:∀{xs ys:List V} {ts us:List Tr} {its its2:List Value},Vals xs its->Vals ys its2->au X.K H xs ts->au X.K H ys us->deps ts<=40->deps us<=40->∀j (h1:j<its.toArray.size) (h2:j<its2.toArray.size),SeqAt.EqAt X.A.in1 s its.toArray[j] its2.toArray[j] (lW ts us j):=by
  intro xs ys ts us its its2 r1 r2 q1 q2 hde PK j h1 h2
  obtain⟨a,ea,ra⟩:=yF r1 h1
  obtain⟨b,eb,rb⟩:=yF r2 h2
  obtain⟨ta,eta,qa⟩:=q1.get ea
  obtain⟨tb,uL,qb⟩:=q2.get eb
  rw[PJ eta uL]
  exact(yG I 40 X.A.in1 ta tb a b _ _ hu1 (Nat.le_trans (nF eta) hde) (by have:=nF eta; lia) (by have:=nF uL; lia) qa qb ra rb).2
 cases rx with
 |bR h m n=>unfold dep at hd; lia
 |non =>
  cases vx
  cases ry with
  |non=>cases vy; exact fin .none_none
  |bl b2=>cases vy; exact fin (.none_bool _)
  |int i2=>obtain⟨_,rfl⟩:=vy; exact fin (.none_int _ _)
  |str z2=>obtain⟨_,rfl⟩:=vy; exact fin (.none_str _ _)
  |tup h r=>cases vy; obtain⟨_,_,p,_⟩:=I.tuple h; exact fin (.none_tuple p hu0)
  |lst h r=>cases vy; obtain⟨_,_,p,_⟩:=I.list h; exact fin (.none_list p.isList hu0)
  |bR h m n=>unfold dep at du; lia
 |bl b =>
  cases vx
  cases ry with
  |non=>cases vy; exact fin (.bool_none _)
  |bl b2=>cases vy; exact fin (.bool_bool _ _)
  |int i2=>obtain⟨_,rfl⟩:=vy; exact fin (.bool_int _ _ _)
  |str z2=>obtain⟨_,rfl⟩:=vy; exact fin (.bool_str _ _ _)
  |tup h r=>cases vy; obtain⟨_,_,p,_⟩:=I.tuple h; exact fin (.bool_tuple _ p hu0)
  |lst h r=>cases vy; obtain⟨_,_,p,_⟩:=I.list h; exact fin (.bool_list _ p.isList hu0)
  |bR h m n=>unfold dep at du; lia
 |int i =>
  obtain⟨_,rfl⟩:=vx
  cases ry with
  |non=>cases vy; exact fin (.int_none _ _)
  |bl b2=>cases vy; exact fin (.int_bool _ _ _)
  |int i2=>obtain⟨_,rfl⟩:=vy; exact fin (.int_int _ _ _ _)
  |str z2=>obtain⟨_,rfl⟩:=vy; exact fin (.int_str _ _ _ _)
  |tup h r=>cases vy; obtain⟨_,_,p,_⟩:=I.tuple h; exact fin (.int_tuple _ _ p hu0)
  |lst h r=>cases vy; obtain⟨_,_,p,_⟩:=I.list h; exact fin (.int_list _ _ p.isList hu0)
  |bR h m n=>unfold dep at du; lia
 |str z =>
  obtain⟨_,rfl⟩:=vx
  cases ry with
  |non=>cases vy; exact fin (.str_none _ _)
  |bl b2=>cases vy; exact fin (.str_bool _ _ _)
  |int i2=>obtain⟨_,rfl⟩:=vy; exact fin (.str_int _ _ _ _)
  |str z2=>obtain⟨_,rfl⟩:=vy; exact fin (.str_str _ _ _ _)
  |tup h r=>cases vy; obtain⟨_,_,p,_⟩:=I.tuple h; exact fin (.str_tuple _ _ p hu0)
  |lst h r=>cases vy; obtain⟨_,_,p,_⟩:=I.list h; exact fin (.str_list _ _ p.isList hu0)
  |bR h m n=>unfold dep at du; lia
 | @tup a1 xs1 ts h1 r1 =>
  cases vx
  obtain⟨its,rv,p,_⟩:=I.tuple h1
  have hd':deps ts<=40:=by unfold dep at hd; lia
  cases ry with
  |non=>cases vy; exact fin (.tuple_none p hu0)
  |bl b2=>cases vy; exact fin (.tuple_bool _ p hu0)
  |int i2=>obtain⟨_,rfl⟩:=vy; exact fin (.tuple_int _ _ p hu0)
  |str z2=>obtain⟨_,rfl⟩:=vy; exact fin (.tuple_str _ _ p hu0)
  |lst h r=>cases vy; obtain⟨_,_,p2,_⟩:=I.list h; exact fin (.tuple_list p p2.isList hu0)
  |bR h m n=>unfold dep at du; lia
  | @tup a2 xs2 us h2 r2 =>
   cases vy
   obtain⟨its2,gA,p2,_⟩:=I.tuple h2
   have R:=SeqAt.RcNeAt.tuples (A:=X.A) (e:=lW ts us) p p2 (by lia) λj k1 k2=>items rv gA r1 r2 hd' (by unfold dep at du; lia) j k1 k2
   have el:its.toArray.size=ts.length:=by simpa using(rv.length.symm.trans r1.length)
   have el2:its2.toArray.size=us.length:=by simpa using(gA.length.symm.trans r2.length)
   rw[el,el2]at R
   have eb:((List.range (min ts.length us.length)).all (lW ts us)&&ts.length == us.length)=eqT (.tup ts) (.tup us):=by
    show _=gU ts us
    by_cases e:ts.length=us.length
    .rw[e,Nat.min_self,<-e,uJ e,beq_self_eq_true,Bool.and_true]
    .rw[beq_false_of_ne e,Bool.and_false,uH e]
   rw[eb]at R
   exact fin R
 | @lst a1 xs1 ts h1 r1 =>
  cases vx
  obtain⟨its,rv,p,_⟩:=I.list h1
  have hd':deps ts<=40:=by unfold dep at hd; lia
  cases ry with
  |non=>cases vy; exact fin (.list_none p.isList hu0)
  |bl b2=>cases vy; exact fin (.list_bool _ p.isList hu0)
  |int i2=>obtain⟨_,rfl⟩:=vy; exact fin (.list_int _ _ p.isList hu0)
  |str z2=>obtain⟨_,rfl⟩:=vy; exact fin (.list_str _ _ p.isList hu0)
  |bR h m n=>unfold dep at du; lia
  |tup h r=>cases vy; obtain⟨_,_,p2,_⟩:=I.tuple h; exact fin (.list_tuple p.isList p2 hu0)
  | @lst a2 xs2 us h2 r2 =>
   cases vy
   obtain⟨its2,gA,p2,_⟩:=I.list h2
   have el:its.toArray.size=ts.length:=by simpa using(rv.length.symm.trans r1.length)
   have el2:its2.toArray.size=us.length:=by simpa using(gA.length.symm.trans r2.length)
   by_cases e:ts.length=us.length
   .have R:=SeqAt.RcNeAt.lists (A:=X.A) (e:=lW ts us) p.isList p2.isList (by lia) (by lia) λj k1 k2=>items rv gA r1 r2 hd' (by unfold dep at du; lia) j k1 k2
    rw[el]at R
    rw[uJ e]at R
    exact fin R
   .have R:=SeqAt.RcNeAt.lists_lengths (A:=X.A) p.isList p2.isList (by rw[el,el2]; simpa using e) (by lia)
    exact fin (show SeqAt.RcNeAt X.A s (.ref a1) (.ref a2) (!gU ts us)from(uH e).symm▸R)
end
open Classical in
noncomputable def cg(o:Obj):Obj:=if o.cls=.type "list" ∧ ¬(∃its n,o={cls:=.type "list",data:=.seq its n })then{cls:=.none,data:=.fields #[] }else o
noncomputable def aq(K:PySem.W.Frag):PySem.W.Frag:=K.map λp=>(p.1,cg p.2)
theorem jo:∀(K:PySem.W.Frag) (a:Addr),(aq K).lookup a=(K.lookup a).map cg
 | [],a=>rfl
 |(c,q)::r,a=>by
  show((c,cg q)::aq r).lookup a=_
  rw[List.lookup_cons,List.lookup_cons]
  cases a == c with
  |true=>rfl
  |false=>exact jo r a
theorem adS{K:PySem.W.Frag}{a:Addr}{o:Obj}(h:(aq K).lookup a=some o)(c:o.cls=.type "tuple"):K.lookup a=some o:=by
 rw[jo]at h
 cases e:K.lookup a with
 |none=>rw[e]at h; cases h
 |some q =>
  rw[e]at h
  have h:cg q=o:=Option.some.inj h
  unfold cg at h
  split at h
  .subst h; cases c
  .rw[h]
theorem adT{K:PySem.W.Frag}{a:Addr}{o:Obj}(h:(aq K).lookup a=some o)(c:o.cls=.type "list"):K.lookup a=some o∧∃its n,o={cls:=.type "list",data:=.seq its n }:=by
 rw[jo]at h
 cases e:K.lookup a with
 |none=>rw[e]at h; cases h
 |some q =>
  rw[e]at h
  have h:cg q=o:=Option.some.inj h
  unfold cg at h
  split at h
  .subst h; cases c
  .rename_i n
   subst h
   refine⟨rfl,?_⟩
   by_cases z:∃its n,q={cls:=.type "list",data:=.seq its n }
   .exact z
   .exact(n ⟨c,z⟩).elim
theorem adU{K:PySem.W.Frag}{a:Addr}{o:Obj}(h:K.lookup a=some o)(c:o.cls=.type "tuple"):(aq K).lookup a=some o:=by
 rw[jo,h]
 show some (cg o)=some o
 unfold cg
 rw[if_neg (by rintro⟨z,_⟩; rw[c]at z; injection z with z; exact absurd z (by decide))]
theorem aX.toK{K:PySem.W.Frag}{H:Hp}{a:Addr}{xs:List V}(h:aX (aq K) H a xs):aX K H a xs:=by
 rcases h with h|⟨o,its,n,e,c,r⟩
 .exact .inl h
 .exact .inr ⟨o,its,n,adS e c,c,r⟩
noncomputable def iJ(K:PySem.W.Frag)(H:Hp)(a:Addr)(xs:List V):Prop:=Rd H a (.lst xs)\/∃(its:Array Value) (n:Nat),K.lookup a=some {cls:=.type "list",data:=.seq its n }/\its.size<=sizeLine/\Vals xs its.toList
theorem aL.yM{K:PySem.W.Frag}{H:Hp}{a:Addr}{xs:List V}(h:aL (aq K) H a xs):iJ K H a xs:=by
 rcases h with h|⟨o,its,n,e,c,_,d,r⟩
 .exact .inl h
 .obtain⟨e2,its',n',rfl⟩:=adT e c
  injection d with d1 d2
  subst d1 d2
  exact .inr ⟨its',n',e2,r⟩
theorem iJ.toK{K:PySem.W.Frag}{H:Hp}{a:Addr}{xs:List V}(h:iJ K H a xs):aL K H a xs:=by
 rcases h with h|⟨its,n,e,r⟩
 .exact .inl h
 .exact .inr ⟨_,its,n,e,rfl,rfl,rfl,r⟩
theorem iJ.toN{K:PySem.W.Frag}{H:Hp}{a:Addr}{xs:List V}(h:iJ K H a xs):aL (aq K) H a xs:=by
 rcases h with h|⟨its,n,e,r⟩
 .exact .inl h
 .refine .inr ⟨{cls:=.type "list",data:=.seq its n },its,n,?_,rfl,rfl,rfl,r⟩
  rw[jo,e]
  show some (cg _)=_
  unfold cg
  rw[if_neg λz=>z.2 ⟨its,n,rfl⟩]
theorem aL.toK{K:PySem.W.Frag}{H:Hp}{a:Addr}{xs:List V}(h:aL (aq K) H a xs):aL K H a xs:=h.yM.toK
theorem adV{K:PySem.W.Frag}{N:Addr}{c:Str}{v:Value}(h:PySem.W.nsIn (aq K) N c=some (some v)):PySem.W.nsIn K N c=some (some v):=by
 unfold PySem.W.nsIn at h ⊢
 rw[jo]at h
 cases e:K.lookup N with
 |none=>rw[e]at h; cases h
 |some q =>
  rw[e]at h
  by_cases z:q.cls=.type "list" ∧ ¬(∃its n,q={cls:=.type "list",data:=.seq its n })
  .have:cg q={cls:=.none,data:=.fields #[] }:=by unfold cg; rw[if_pos z]
   rw[show(some q).map cg=some (cg q)from rfl,this]at h
   cases h
  .have:cg q=q:=by unfold cg; rw[if_neg z]
   rw[show(some q).map cg=some (cg q)from rfl,this]at h
   exact h
theorem Qf{K:PySem.W.Frag}{H:Hp}:(∀{v t},Rep (aq K) H v t->Rep K H v t)/\∀{vs ts},au (aq K) H vs ts->au K H vs ts:=Rep.both .non .bl .int .str (λ_ _ _ h q=>.tup h.toK q) (λ_ _ _ h q=>.lst h.toK q) (λ_ _ _ h m n=>.bR h m (adV n)) .nil λ_ _ _ _ p q=>.cons p q
theorem Rep.toK{K:PySem.W.Frag}{H:Hp}{v:V}{t:Tr}(h:Rep (aq K) H v t):Rep K H v t:=Qf.1 h
theorem au.toK{K:PySem.W.Frag}{H:Hp}{v:List V}{t:List Tr}(h:au (aq K) H v t):au K H v t:=Qf.2 h
section
variable {X:Cx}
theorem Inv.Fj(I:Inv X pins σ H s)(hH:iJ X.K H l xs):xs.length<=sizeLine/\∃(its:List Value) (n:Nat),Vals xs its/\xs.length=its.length/\s.heap.get? l=some {cls:=.type "list",data:=.seq its.toArray n }:=by
 rcases hH with hH|⟨its,n,e,z,r⟩
 .obtain⟨z,its,n,r,e⟩:=hH.ok I.hok
  exact⟨z,its,n,r,r.length,e⟩
 .have l':=r.length.trans Array.length_toList
  exact⟨by rw[l']; exact z,its.toList,n,r,r.length,I.dG _ _ e⟩
noncomputable def Qg(K:PySem.W.Frag):R2:=λx y H Q=>∃l b xs zs,x=.ref l/\y=.ref b/\iJ K H l xs/\iJ K H b zs/\xs.length+zs.length<=sizeLine/\∀p,H p=none->Q (.ref p) (upd H p (.lst (xs++zs)))
theorem adW:bw X (binaryOp .Add) (Qg X.K):=by
 intro pins s σ H x y v u Q I rx ry h
 obtain⟨l,b,xs,zs,rfl,rfl,hH,hB,hz,q⟩:=h
 cases rx
 cases ry
 obtain⟨z,its,n,r,hl,e⟩:=I.Fj hH
 obtain⟨z2,its2,n2,r2,hl2,e2⟩:=I.Fj hB
 refine PySem.P.add_list e e2 ?_ (by rw[List.size_toArray,List.size_toArray]; lia)
 have ea:its.toArray++its2.toArray=(its++its2).toArray:=by simp
 rw[ea]
 exact⟨.ref _,_,I.Ej (t':=s.toks) (r.append r2) (by rw[List.length_append]; lia),rfl,q _ I.fresh⟩
end
noncomputable def Qh(K:PySem.W.Frag):R2:=λx y H Q=>∃l k xs,x=.ref l/\y=.int k/\iJ K H l xs /\ -(2 ^ 63)<=k/\k<2 ^ 63/\xs.length*k.toNat<=sizeLine/\∀p,H p=none->Q (.ref p) (upd H p (.lst (List.replicate k.toNat xs).flatten))
theorem adX{X:Cx}:bw X (binaryOp .Mult) (Qh X.K):=by
 intro pins s σ H x y v u Q I rx ry h
 obtain⟨l,k,xs,rfl,rfl,hH,h1,h2,hz,q⟩:=h
 cases rx
 obtain⟨t,rfl⟩:=ry
 obtain⟨z,its,n,r,hl,e⟩:=I.Fj hH
 have hlen:its.toArray.size*k.toNat<=sizeLine:=by rw[List.size_toArray,<-hl]; exact hz
 have hcap:¬its.toArray.size*k.toNat > (2 ^ 63-1) / 8:=by
  have:(sizeLine:Nat)<=(2 ^ 63-1) / 8:=by decide
  lia
 have hfit:¬(!Builtin.List.listFitsIndex k)=true:=by
  rw[fitsIndex_both h1 h2]
  exact Bool.false_ne_true
 have adY:¬Builtin.List.listTooLong (its.toArray.size*k.toNat)=true:=by
  rw[ac6 hlen]
  exact Bool.false_ne_true
 have hnew:List.foldl (λx1 x2=>x1++x2) #[] (List.replicate (if its.toArray.isEmpty=true then 0 else k.toNat) its.toArray)=(List.replicate k.toNat its).flatten.toArray:=by
  have f0:∀m:Nat,List.foldl (λx1 x2=>x1++x2) #[] (List.replicate m its.toArray)=(List.replicate m its).flatten.toArray:=λm=>by
   have:=foldl_rep its m []
   rw[List.nil_append]at this
   exact this
  rw[f0]
  cases its with
  |nil=>simp
  |cons a r'=>rw[if_neg (by simp)]
 refine wpAny_binaryOp_repeat_ref (T := "list") (U := "int") (by decide) ⟨_,e,rfl⟩ (λs'=>typeIs_int s' k t) noFill_list_mul F.fills_int_mul F.slot_int_rmul repeat_list F.slot_int_index.lookup
  (call_meets F.slot_int_rmul (typeIs_int s k t) F.entry_int_rmul (F.args_int_rmul_2 _ _) (int___rmul___int_list k t l its.toArray n)
   ⟨e,rfl,⟨_,e,rfl⟩,call_meets F.slot_list_mul ⟨_,e,rfl⟩ F.entry_list_mul (F.args_list_mul_2 _ _) (AutoListH.list___mul___list_int_3 l its.toArray n k t hfit hcap adY) ⟨e,?_⟩⟩)
 rw[hnew]
 exact⟨.ref _,_,I.Ej (t':=s.toks) (r.rep k.toNat) (by rw[len_rep,Nat.mul_comm]; exact hz),rfl,q _ I.fresh⟩
inductive Rs(α : Type) where
 |bad|ex (c:Str)|ok (a : α)
noncomputable def Rs.bind{α β : Type}:Rs α -> (α -> Rs β)->Rs β
 |.bad,_=>.bad
 |.ex c,_=>.ex c
 |.ok a,f=>f a
noncomputable instance:Monad Rs where
 pure:=.ok
 bind:=Rs.bind
inductive aJ where
 |sh (T:Tr)|dp (ts:List Tr)
inductive Sl where
 |un|sh (t:Tr)|ow (ts:List Tr)|rf (ts:List Tr)|dp (ts:List Tr)|ob (l:Bool) (c:Str) (fs:List (Str × aJ))|vo (c:Str) (fs:List (Str × aJ))|dt (T:Tr)
noncomputable abbrev En:=List Sl
inductive Rv where
 |v (T:Tr) (fr:Bool)|s (i:Nat)
noncomputable abbrev EF:=En->Rs (Rv × En)
noncomputable abbrev BF:=En->Rs (Bool × En)
noncomputable abbrev AF:=En->Rs (List Rv × En)
noncomputable abbrev OF:=En->Rs (Option Int × En)
noncomputable abbrev IF:=En->Rs (List Tr × En)
noncomputable abbrev GF:=Tr->En->Rs En
noncomputable abbrev rK:=List Tr->En->Rs En
inductive Fl where
 |nx|rt (T:Tr) (fr:Bool)|bk|ct
noncomputable abbrev SF:=En->Rs (Fl × En)
noncomputable def pJ:Tr->Bool
 |.lst _=>true
 |_=>false
noncomputable def fH:List Str:=["falling_places", "order_of_bounds"]
noncomputable def Tb(K:PySem.W.Frag)(b:Addr):Prop:=∃x∈fH,∃c,PySem.W.tabIn K x=some (c,b)
noncomputable def Qi(o:Obj)(q:Str):Prop:=∃vs t,o.data=.fields vs/\vs[1]?=some (.str q t)
noncomputable def yN(x:Str):Str:=x++(".<locals>." : Str)++("<lambda>" : Str)
noncomputable def yO(H:Hp)(q:Str)(ps:Array Value):Prop:=TriplesOk ps.toList/\∀pos v,codeAmong pos ps.toList=some v->∃c o,v=.ref c/\H c=some (.cO o (.own 0))/\Qi o q
noncomputable def bx(K:PySem.W.Frag)(H:Hp):Prop:=∀x∈fH,∀c b,PySem.W.tabIn K x=some (c,b)->∃ps,H b=some (.bO ps)/\yO H (yN x) ps
theorem bx.bO{K:PySem.W.Frag}{H:Hp}(h:bx K H){b:Addr}(t:Tb K b):∃ps,H b=some (.bO ps):=by
 obtain⟨x,hx,c,e⟩:=t
 obtain⟨ps,q,_⟩:=h x hx c b e
 exact⟨ps,q⟩
noncomputable def lZ:HO->Bool
 |.lst _=>true
 |.ins _ _ _=>true
 |.own _=>true
 |_=>false
theorem bx.nm{K:PySem.W.Frag}{H:Hp}(h:bx K H){b:Addr}{o:HO}(e:H b=some o)(m:lZ o=true):¬Tb K b:=λt=>by
 obtain⟨ps,q⟩:=h.bO t
 rw[e]at q
 cases q
 cases m
theorem bx.nt{K:PySem.W.Frag}{H:Hp}(h:bx K H){b:Addr}{xs:List V}(e:H b=some (.lst xs)):¬Tb K b:=λt=>by
 obtain⟨ps,q⟩:=h.bO t
 rw[e]at q
 cases q
theorem bx.fr{K:PySem.W.Frag}{H H':Hp}(h:bx K H)(s:∀b o,lZ o=false->H b=some o->H' b=some o):bx K H':=λx hx c b e=>by
 obtain⟨ps,q,t1,t2⟩:=h x hx c b e
 refine⟨ps,s _ _ rfl q,t1,λpos v k=>?_⟩
 obtain⟨c,o,e1,e2,e3⟩:=t2 pos v k
 exact⟨c,o,e1,s _ _ rfl e2,e3⟩
theorem bx.Fo{K:PySem.W.Frag}{H:Hp}(h:bx K H){a:Addr}{u o:HO}(e:H a=some u)(m:lZ u=true):bx K (L2.upd H a o):=h.fr λb u n q=>by
 rw[aD]
 .exact q
 .rintro rfl
  rw[e]at q
  cases q
  rw[m]at n
  cases n
theorem bx.upd{K:PySem.W.Frag}{H:Hp}(h:bx K H){a:Addr}{xs:List V}{o:HO}(e:H a=some (.lst xs)):bx K (L2.upd H a o):=h.Fo e rfl
mutual
noncomputable def bh:Tr->Bool
 |.tup ts=>bT ts
 |.lst _=>false
 |_=>true
noncomputable def bT:List Tr->Bool
 | []=>true
 |t::r=>bh t&&bT r
end
inductive DR(K:PySem.W.Frag)(G H:Hp):List V->List Tr->List Addr->Prop
 |nil:DR K G H [] [] []
 |cl {x:V} {u:Tr} {xs:List V} {ts:List Tr} {bs:List Addr} (n:bh u=true) (h:Rep K G x u) (r:DR K G H xs ts bs):DR K G H (x::xs) (u::ts) bs
 |rw {b:Addr} {ys:List V} {us:List Tr} {cs:List Addr} {xs:List V} {ts:List Tr} {bs:List Addr} (h:H b=some (.lst ys)) (q:DR K G H ys us cs) (r:DR K G H xs ts bs):DR K G H (.ref b::xs) (.lst us::ts) (b::(cs++bs))
 |tp {b:Addr} {ys:List V} {us:List Tr} {cs:List Addr} {xs:List V} {ts:List Tr} {bs:List Addr} (h:aX K G b ys) (q:DR K G H ys us cs) (r:DR K G H xs ts bs):DR K G H (.ref b::xs) (.tup us::ts) (cs++bs)
theorem DR.mono{K:PySem.W.Frag}{G G' H H':Hp}(m:Same G G'){xs:List V}{ts:List Tr}{bs:List Addr}(h:DR K G H xs ts bs):(∀b∈bs,∀o,H b=some o->H' b=some o)->DR K G' H' xs ts bs:=by
 induction h with
 |nil=>exact λ_=>.nil
 |cl n h _ ih=>exact λk=>.cl n (h.mono m) (ih k)
 |rw h _ _ i1 i2=>exact λk=>.rw (k _ (List.mem_cons_self ..) _ h) (i1 λb hb=>k b (List.mem_cons_of_mem _ (List.mem_append_left _ hb))) (i2 λb hb=>k b (List.mem_cons_of_mem _ (List.mem_append_right _ hb)))
 |tp h _ _ i1 i2=>exact λk=>.tp (m.jJ h) (i1 λb hb=>k b (List.mem_append_left _ hb)) (i2 λb hb=>k b (List.mem_append_right _ hb))
theorem DR.lst{K:PySem.W.Frag}{G H:Hp}{xs:List V}{ts:List Tr}{bs:List Addr}(h:DR K G H xs ts bs):∀b∈bs,∃ys,H b=some (.lst ys):=by
 induction h with
 |nil=>exact λ_ h=>by cases h
 |cl _ _ _ ih=>exact ih
 |rw q _ _ i1 i2 =>
  intro b h
  rcases List.mem_cons.mp h with rfl|h
  .exact⟨_,q⟩
  .exact(List.mem_append.mp h).elim (i1 b) (i2 b)
 |tp _ _ _ i1 i2=>exact λb h=>(List.mem_append.mp h).elim (i1 b) (i2 b)
theorem DR.flat{K:PySem.W.Frag}{G H:Hp}:∀{ts:List Tr} {xs:List V},au K G xs ts->bT ts=true->DR K G H xs ts []
 | [],_,h,_=>by cases h; exact .nil
 |t::ts,_,h,n=>by
  cases h with
  |cons h r =>
   have n:(bh t&&bT ts)=true:=n
   rw[Bool.and_eq_true]at n
   exact .cl n.1 h (DR.flat r n.2)
theorem DR.nil_of{K:PySem.W.Frag}{G H:Hp}{xs:List V}{ts:List Tr}{bs:List Addr}(h:DR K G H xs ts bs):bT ts=true->bs=[]:=by
 induction h with
 |nil=>exact λ_=>rfl
 | @cl _ u _ ts _ _ _ _ ih =>
  intro n
  have n:(bh u&&bT ts)=true:=n
  rw[Bool.and_eq_true]at n
  exact ih n.2
 |rw=>exact λn=>(by cases n)
 | @tp _ _ us _ _ ts _ _ _ _ i1 i2 =>
  intro n
  have n:(bT us&&bT ts)=true:=n
  rw[Bool.and_eq_true]at n
  rw[i1 n.1,i2 n.2]
  rfl
theorem Ft:∀{ts:List Tr},(∀t∈ts,bh t=true)->bT ts=true
 | [],_=>rfl
 |t::ts,h=>by
  show(bh t&&bT ts)=true
  rw[h t (List.mem_cons_self ..),Ft λx hx=>h x (List.mem_cons_of_mem _ hx)]
  rfl
theorem DR.app{K:PySem.W.Frag}{G H:Hp}{xs ys:List V}{ts us:List Tr}{as bs:List Addr}(h:DR K G H xs ts as)(r:DR K G H ys us bs):DR K G H (xs++ys) (ts++us) (as++bs):=by
 induction h with
 |nil=>exact r
 |cl n h _ ih=>exact .cl n h ih
 |rw h q _ _ ih=>have:=DR.rw h q ih; rw[<-List.append_assoc]at this; exact this
 |tp h q _ _ ih=>have:=DR.tp h q ih; rw[<-List.append_assoc]at this; exact this
theorem DR.reps{K:PySem.W.Frag}{G G' H:Hp}(m:Same G G'){xs:List V}{ts:List Tr}{bs:List Addr}(h:DR K G H xs ts bs):(∀b∈bs,G' b=H b)->au K G' xs ts:=by
 induction h with
 |nil=>exact λ_=>.nil
 |cl n h _ ih=>exact λk=>.cons (h.mono m) (ih k)
 |rw h _ _ i1 i2=>exact λk=>.cons (.lst (aL.of ((k _ (List.mem_cons_self ..)).trans h)) (i1 λb hb=>k b (List.mem_cons_of_mem _ (List.mem_append_left _ hb)))) (i2 λb hb=>k b (List.mem_cons_of_mem _ (List.mem_append_right _ hb)))
 |tp h _ _ i1 i2=>exact λk=>.cons (.tup (m.jJ h) (i1 λb hb=>k b (List.mem_append_left _ hb))) (i2 λb hb=>k b (List.mem_append_right _ hb))
theorem DR.length{K:PySem.W.Frag}{G H:Hp}{xs:List V}{ts:List Tr}{bs:List Addr}(h:DR K G H xs ts bs):xs.length=ts.length:=by
 induction h with
 |nil=>rfl
 |cl _ _ _ ih=>rw[List.length_cons,List.length_cons,ih]
 |rw _ _ _ _ ih=>rw[List.length_cons,List.length_cons,ih]
 |tp _ _ _ _ ih=>rw[List.length_cons,List.length_cons,ih]
theorem DR.split{K:PySem.W.Frag}{G H:Hp}{xs:List V}{t:Tr}{ts:List Tr}{bs:List Addr}(h:DR K G H xs (t::ts) bs):∃v ys c b,xs=v::ys/\bs=c++b/\DR K G H [v] [t] c/\DR K G H ys ts b:=by
 cases h with
 |cl n h r=>exact⟨_,_,[],_,rfl,rfl,.cl n h .nil,r⟩
 | @rw b _ _ cs _ _ bs h q r=>exact⟨_,_,b::cs,bs,rfl,rfl,by have:=DR.rw h q .nil; rwa[List.append_nil]at this,r⟩
 | @tp b _ _ cs _ _ bs h q r=>exact⟨_,_,cs,bs,rfl,rfl,by have:=DR.tp h q .nil; rwa[List.append_nil]at this,r⟩
theorem DR.at{K:PySem.W.Frag}{G H:Hp}:∀{ts:List Tr} {xs:List V} {bs:List Addr} {m:Nat} {T:Tr},DR K G H xs ts bs->bs.Nodup->ts[m]?=some T->∃v cs,xs[m]?=some v/\DR K G H [v] [T] cs/\cs.Nodup/\(∀c∈cs,c∈bs)/\∀G' H' T',Same G G'->(∀b∈bs,b∉cs->∀o,H b=some o->H' b=some o)->DR K G' H' [v] [T'] cs->DR K G' H' xs (ts.set m T') bs
 | [],_,_,_,_,_,_,h=>by simp at h
 |t::ts,_,_,m,T,d,n,h=>by
  obtain⟨v,ys,c,b,rfl,rfl,d1,d2⟩:=d.split
  obtain⟨n1,n2,n3⟩:=List.nodup_append.mp n
  cases m with
  |zero =>
   obtain rfl:t=T:=by simpa using h
   exact⟨v,c,rfl,d1,n1,λx hx=>List.mem_append_left _ hx,λG' H' T' g k q=>q.app (d2.mono g λx hx=>k x (List.mem_append_right _ hx) λz=>n3 x z x hx rfl)⟩
  |succ m =>
   obtain⟨w,cs,h1,h2,h3,h4,h5⟩:=DR.at d2 n2 (by simpa using h)
   exact⟨w,cs,by simpa using h1,h2,h3,λx hx=>List.mem_append_right _ (h4 x hx),λG' H' T' g k q=>(d1.mono g λx hx=>k x (List.mem_append_left _ hx) λz=>n3 x hx x (h4 x z) rfl).app (h5 G' H' T' g (λx hx=>k x (List.mem_append_right _ hx)) q)⟩
noncomputable abbrev Fp:=Nat->List Addr
noncomputable def Fn(F:Fp)(b:Addr):Prop:=∃i,b∈F i
noncomputable def Qj(K:PySem.W.Frag)(G H:Hp)(v:Option (Option V))(f:List Addr)(ts:List Tr)(P:Addr->Prop):Prop:=∃a xs,v=some (some (.ref a))/\f=[a]/\P a/\H a=some (.lst xs)/\au K G xs ts
inductive bB(K:PySem.W.Frag)(G H:Hp):List (Str × V)->List (Str × aJ)->List Addr->Prop
 |nil:bB K G H [] [] []
 |sh {k:Str} {x:V} {T:Tr} {xs:List (Str × V)} {fs:List (Str × aJ)} {bs:List Addr} (h:Rep K G x T) (r:bB K G H xs fs bs):bB K G H ((k,x)::xs) ((k,.sh T)::fs) bs
 |dp {k:Str} {b:Addr} {ys:List V} {us:List Tr} {cs:List Addr} {xs:List (Str × V)} {fs:List (Str × aJ)} {bs:List Addr} (h:H b=some (.lst ys)) (q:DR K G H ys us cs) (r:bB K G H xs fs bs):bB K G H ((k,.ref b)::xs) ((k,.dp us)::fs) (b::(cs++bs))
theorem bB.mono{K:PySem.W.Frag}{G G' H H':Hp}(m:Same G G'){xs:List (Str × V)}{fs:List (Str × aJ)}{bs:List Addr}(h:bB K G H xs fs bs):(∀b∈bs,∀o,H b=some o->H' b=some o)->bB K G' H' xs fs bs:=by
 induction h with
 |nil=>exact λ_=>.nil
 |sh h _ ih=>exact λk=>.sh (h.mono m) (ih k)
 |dp h q _ ih=>exact λk=>.dp (k _ (List.mem_cons_self ..) _ h) (q.mono m λb hb=>k b (List.mem_cons_of_mem _ (List.mem_append_left _ hb))) (ih λb hb=>k b (List.mem_cons_of_mem _ (List.mem_append_right _ hb)))
theorem bB.lst{K:PySem.W.Frag}{G H:Hp}{xs:List (Str × V)}{fs:List (Str × aJ)}{bs:List Addr}(h:bB K G H xs fs bs):∀b∈bs,∃ys,H b=some (.lst ys):=by
 induction h with
 |nil=>exact λ_ h=>by cases h
 |sh _ _ ih=>exact ih
 |dp q d _ ih =>
  intro b h
  rcases List.mem_cons.mp h with rfl|h
  .exact⟨_,q⟩
  .exact(List.mem_append.mp h).elim (d.lst b) (ih b)
noncomputable def jd(K:PySem.W.Frag)(c:Str)(C:Addr):Prop:=PySem.W.nsIn K mainGlobals c=some (some (.ref C))
noncomputable def dw(K:PySem.W.Frag)(R:Addr->Prop)(G H:Hp)(v:Option (Option V))(f:List Addr):Option Sl->Prop
 |some (.sh T)=>f=[]/\∃u,v=some (some u)/\Rep K G u T
 |some (.ow ts)=>Qj K G H v f ts λa=>¬R a
 |some (.rf ts)=>Qj K G H v f ts R
 |some (.dp ts)=>∃a xs bs,v=some (some (.ref a))/\f=a::bs/\f.Nodup/\(∀b∈f,¬R b)/\H a=some (.lst xs)/\DR K G H xs ts bs
 |some (.ob l c fs)=>∃a dx C xs bs,v=some (some (.ref a))/\f=a::dx::bs/\f.Nodup/\(R a↔l=true)/\(∀b∈dx::bs,¬R b)/\jd K c C/\H a=some (.ins C dx xs)/\H dx=some (.own a)/\bB K G H xs fs bs
 |some (.vo c fs)=>f=[]/\∃a dx C xs,v=some (some (.ref a))/\jd K c C/\G a=some (.ins C dx xs)/\bB K G H xs fs []
 |some (.dt T)=>∃u,v=some (some u)/\f.Nodup/\(∀b∈f,¬R b)/\DR K G H [u] [T] f
 |_=>f=[]
theorem dw.mu{K:PySem.W.Frag}{R:Addr->Prop}{G H:Hp}{v:Option (Option V)}{f:List Addr}{s:Option Sl}(h:dw K R G H v f s):∀b∈f,∃o,H b=some o/\L2.lZ o=true:=λb hb=>by
 unfold dw at h
 split at h
 .rw[h.1]at hb; cases hb
 .obtain⟨a,xs,_,rfl,_,q,_⟩:=h; cases List.mem_singleton.mp hb; exact⟨_,q,rfl⟩
 .obtain⟨a,xs,_,rfl,_,q,_⟩:=h; cases List.mem_singleton.mp hb; exact⟨_,q,rfl⟩
 .obtain⟨a,xs,bs,_,rfl,_,_,q,d⟩:=h
  rcases List.mem_cons.mp hb with rfl|hb
  .exact⟨_,q,rfl⟩
  .obtain⟨ys,q⟩:=d.lst b hb; exact⟨_,q,rfl⟩
 .obtain⟨a,dx,C,xs,bs,_,rfl,_,_,_,_,q,q',d⟩:=h
  rcases List.mem_cons.mp hb with rfl|hb
  .exact⟨_,q,rfl⟩
  rcases List.mem_cons.mp hb with rfl|hb
  .exact⟨_,q',rfl⟩
  .obtain⟨ys,q⟩:=d.lst b hb; exact⟨_,q,rfl⟩
 .rw[h.1]at hb; cases hb
 .obtain⟨u,_,_,_,d⟩:=h; obtain⟨ys,q⟩:=d.lst b hb; exact⟨_,q,rfl⟩
 .rw[h]at hb; cases hb
theorem dw.mono{K:PySem.W.Frag}{R:Addr->Prop}{G G' H H':Hp}{v:Option (Option V)}{f:List Addr}{s:Option Sl}(h:dw K R G H v f s)(m:Same G G')(k:∀b∈f,∀o,H b=some o->H' b=some o):dw K R G' H' v f s:=by
 unfold dw at h ⊢
 split at h
 .obtain⟨h1,u,h2,h3⟩:=h; exact⟨h1,u,h2,h3.mono m⟩
 .obtain⟨a,xs,h1,rfl,n,q,r⟩:=h; exact⟨a,xs,h1,rfl,n,k _ (List.mem_singleton.mpr rfl) _ q,r.mono m⟩
 .obtain⟨a,xs,h1,rfl,n,q,r⟩:=h; exact⟨a,xs,h1,rfl,n,k _ (List.mem_singleton.mpr rfl) _ q,r.mono m⟩
 .obtain⟨a,xs,bs,h1,rfl,nd,n,q,d⟩:=h; exact⟨a,xs,bs,h1,rfl,nd,n,k _ (List.mem_cons_self ..) _ q,d.mono m λb hb=>k b (List.mem_cons_of_mem _ hb)⟩
 .obtain⟨a,dx,C,xs,bs,h1,rfl,nd,n,n',c,q,q',d⟩:=h
  exact⟨a,dx,C,xs,bs,h1,rfl,nd,n,n',c,k _ (List.mem_cons_self ..) _ q,k _ (List.mem_cons_of_mem _ (List.mem_cons_self ..)) _ q',d.mono m λb hb=>k b (List.mem_cons_of_mem _ (List.mem_cons_of_mem _ hb))⟩
 .obtain⟨h1,a,dx,C,xs,h2,c,q,d⟩:=h
  exact⟨h1,a,dx,C,xs,h2,c,m _ _ q,d.mono m λ_ z=>by cases z⟩
 .obtain⟨u,h1,nd,n,d⟩:=h; exact⟨u,h1,nd,n,d.mono m k⟩
 .exact h
structure Ok(K:PySem.W.Frag)(R:Addr->Prop)(ρ : En)(σ : St)(G H:Hp)(F:Fp):Prop where
 len : ρ.length = σ.length
 sub:Same G H
 tb:bx K H
 tg:∀b,Tb K b->G b=none
 hid:∀b,Fn F b->G b=none
 rg:∀b,R b->G b=none/\H b≠none
 di:∀i j b,b∈F i->b∈F j->i=j
 sl:∀i,dw K R G H σ[i]? (F i) ρ[i]?
structure Fr(K:PySem.W.Frag)(H:Hp)(F:Fp)(H':Hp):Prop where
 fr:∀b o,H b=some o->¬Fn F b->¬Tb K b->H' b=some o
 tb:bx K H'
structure aC(K:PySem.W.Frag)(G H:Hp)(F:Fp)(G' H':Hp)(F':Fp):Prop where
 gg:Same G G'
 fr:∀b o,H b=some o->¬Fn F b->¬Tb K b->H' b=some o
 nw:∀b,G' b≠none->G b≠none\/H b=none\/Fn F b
 nf:∀b,Fn F' b->H b=none\/Fn F b
 dm:∀b,H' b=none->H b=none
section
variable {K:PySem.W.Frag}{R:Addr->Prop}{ρ : En}{σ : St}{G H G' H':Hp}{F F':Fp}
theorem aC.refl:aC K G H F G H F:=⟨Same.refl _,λ_ _ h _ _=>h,λ_ h=>.inl h,λ_ h=>.inr h,λ_ h=>h⟩
theorem aC.out(s:aC K G H F G' H' F')(h:H b=some o)(n:¬Fn F b):¬Fn F' b:=λz=>(s.nf b z).elim (λq=>by rw[h]at q; cases q) n
theorem aC.trans(s:aC K G H F G1 H1 F1)(u:aC K G1 H1 F1 G' H' F'):aC K G H F G' H' F' where
 gg:=s.gg.trans u.gg
 fr b o h n t:=u.fr b o (s.fr b o h n t) (s.out h n) t
 nw b h:=(u.nw b h).elim (s.nw b) λh=>.inr (h.elim (λh=>.inl (s.dm b h)) (s.nf b))
 nf b h:=(u.nf b h).elim (λh=>.inl (s.dm b h)) (s.nf b)
 dm b h:=s.dm b (u.dm b h)
theorem aC.back(s:aC K G H F G1 H1 F1)(f:Fr K H1 F1 H'):Fr K H F H':=⟨λb o h n t=>f.fr b o (s.fr b o h n t) (s.out h n) t,f.tb⟩
theorem Ok.fl(e:Ok K R ρ σ G H F)(h:Fn F b):∃o,H b=some o/\lZ o=true:=h.elim λi h=>(e.sl i).mu b h
theorem Ok.fs(e:Ok K R ρ σ G H F)(h:H b=none):¬Fn F b:=λz=>by
 obtain⟨_,q,_⟩:=e.fl z
 rw[h]at q
 cases q
theorem Ok.rn(e:Ok K R ρ σ G H F)(h:H b=none):¬R b:=λz=>(e.rg b z).2 h
structure Gw(K:PySem.W.Frag)(G H G' H':Hp):Prop where
 gg:Same G G'
 hh:∀b o,H b=some o->¬Tb K b->H' b=some o
 sub:Same G' H'
 tb:bx K H->bx K H'
 nw:∀b,G' b≠none->G b≠none\/H b=none
theorem bx.new(h:bx K H)(q:H p=none):bx K (L2.upd H p o):=h.fr λb u _ z=>fD q _ b u z
theorem Gw.refl(s:Same G H):Gw K G H G H:=⟨Same.refl _,λ_ _ h _=>h,s,id,λ_ h=>.inl h⟩
theorem Gw.flt(s:Same G H)(h:H p=none):Gw K G H G (upd H p o):=⟨Same.refl _,λb u q _=>fD h o b u q,s.trans (fD h o),λt=>t.new h,λ_ h=>.inl h⟩
theorem Gw.new(s:Same G H)(h:H p=none):Gw K G H (upd G p o) (upd H p o):=⟨fD (s.free h) o,λb u q _=>fD h o b u q,λb u q=>by
 by_cases e:b=p
 .subst e; rw[bJ]at q ⊢; exact q
 .rw[aD e]at q ⊢; exact s b u q,λt=>t.new h,λb q=>by
 by_cases e:b=p
 .subst e; exact .inr h
 .rw[aD e]at q; exact .inl q⟩
structure Gs(K:PySem.W.Frag)(G H G' H':Hp):Prop where
 gw:Gw K G H G' H'
 sm:Same H H'
theorem Gs.refl(s:Same G H):Gs K G H G H:=⟨.refl s,Same.refl _⟩
theorem Gs.flt(s:Same G H)(h:H p=none):Gs K G H G (upd H p o):=⟨.flt s h,fD h o⟩
theorem Gs.new(s:Same G H)(h:H p=none):Gs K G H (upd G p o) (upd H p o):=⟨.new s h,fD h o⟩
theorem Ok.grow(e:Ok K R ρ σ G H F)(w:Gw K G H G' H'):Ok K R ρ σ G' H' F/\aC K G H F G' H' F:=by
 have tb:=w.tb e.tb
 have dm:∀b,H' b=none->H b=none:=λb h=>by
  cases q:H b with
  |none=>rfl
  |some o =>
   by_cases t:Tb K b
   .obtain⟨ps,z⟩:=tb.bO t; rw[h]at z; cases z
   .rw[w.hh b o q t]at h; cases h
 have no:∀b,G b=none->H b≠none->G' b=none:=λb h n=>by
  cases q:G' b with
  |none=>rfl
  |some o=>exact((w.nw b (by rw[q]; exact λz=>by cases z)).elim (λz=>z h) n).elim
 refine⟨⟨e.len,w.sub,tb,λb t=>no b (e.tg b t) λz=>?_,λb h=>no b (e.hid b h) λz=>e.fs z h,λb h=>⟨no b (e.rg b h).1 (e.rg b h).2,λz=>(e.rg b h).2 (dm b z)⟩,e.di,λi=>(e.sl i).mono w.gg λb hb o q=>w.hh b o q ?_⟩,w.gg,λb o h _ t=>w.hh b o h t,λb h=>(w.nw b h).imp id .inl,λb h=>.inr h,dm⟩
 .obtain⟨ps,q⟩:=e.tb.bO t; rw[z]at q; cases q
 .obtain⟨_,z,m⟩:=e.fl ⟨i,hb⟩
  exact e.tb.nm z m
theorem Ok.show(e:Ok K R ρ σ G H F)(h:H a=some (.lst xs))(n:¬Fn F a)(r:¬R a):Ok K R ρ σ (upd G a (.lst xs)) H F/\Same G (upd G a (.lst xs)):=by
 have m:Same G (upd G a (.lst xs)):=λb o q=>by
  by_cases z:b=a
  .subst z; rw[bJ,<-h]; exact(e.sub b o q)
  .rw[aD z]; exact q
 have no:∀b,b≠a->G b=none->upd G a (.lst xs) b=none:=λb z q=>by rw[aD z]; exact q
 refine⟨⟨e.len,λb o q=>?_,e.tb,λb t=>no b (λz=>e.tb.nt h (z▸t)) (e.tg b t),λb z=>no b (λq=>n (q▸z)) (e.hid b z),λb z=>⟨no b (λq=>r (q▸z)) (e.rg b z).1,(e.rg b z).2⟩,e.di,λi=>(e.sl i).mono m λ_ _ _ q=>q⟩,m⟩
 by_cases z:b=a
 .subst z; rw[bJ]at q; rw[h]; exact q
 .rw[aD z]at q; exact e.sub b o q
noncomputable def VN(K:PySem.W.Frag)(Hs G H:Hp)(v:V)(T:Tr):Bool->Prop
 |false=>Rep K G v T
 |true=>∃a xs ts,v=.ref a/\T=.lst ts/\Hs a=none/\G a=none/\H a=some (.lst xs)/\au K G xs ts
noncomputable def fJ(K:PySem.W.Frag)(σ : St)(Hs G H:Hp)(F:Fp)(v:V):Rv->Prop
 |.v T fr=>VN K Hs G H v T fr/\(fr=true->∀a,v=.ref a->¬Fn F a)
 |.s i=>σ[i]?=some (some v)
theorem VN.ok(h:VN K H G' H' v T fr)(e:Ok K R ρ σ G H F):fJ K τ H G' H' F v (.v T fr):=⟨h,λz a q=>by
 subst z; subst q
 obtain⟨b,_,_,z,_,n,_⟩:=h
 cases z
 exact e.fs n⟩
theorem fJ.low(h:Rep K G v T):fJ K σ Hs G H F v (.v T false):=⟨h,λz=>by cases z⟩
theorem fJ.step(h:fJ K σ Hs G H F v r)(tb:bx K H)(s:aC K G H F G' H' F'):fJ K σ Hs G' H' F' v r:=by
 match r,h with
 |.s i,h=>exact h
 |.v T false,h=>exact .low (Rep.mono s.gg h.1)
 |.v T true,⟨⟨a,xs,ts,e1,e2,n,g,q,r⟩,f⟩ =>
  have na:=f rfl a e1
  refine⟨⟨a,xs,ts,e1,e2,n,?_,s.fr a _ q na (tb.nt q),r.mono s.gg⟩,λ_ b z=>?_⟩
  .cases k:G' a with
   |none=>rfl
   |some o=>exact((s.nw a (by rw[k]; exact λz=>by cases z)).elim (λz=>z g) λz=>z.elim (λz=>by rw[q]at z; cases z) na).elim
  .rw[e1]at z; cases z
   exact s.out q na
theorem fJ.back(h:fJ K σ H1 G' H' F' v r)(d:∀b,H1 b=none->H b=none):fJ K σ H G' H' F' v r:=by
 match r,h with
 |.s i,h=>exact h
 |.v T false,h=>exact .low h.1
 |.v T true,⟨⟨a,xs,ts,e1,e2,n,q⟩,f⟩=>exact⟨⟨a,xs,ts,e1,e2,d a n,q⟩,f⟩
noncomputable def Rp(K:PySem.W.Frag)(G H:Hp)(v:V)(T:Tr):Prop:=Rep K G v T\/∃a xs ts,v=.ref a/\T=.lst ts/\H a=some (.lst xs)/\au K G xs ts
theorem Rp.rep(s:Same G H)(h:Rp K G H v T):Rep K H v T:=by
 rcases h with h|⟨a,xs,ts,rfl,rfl,e,r⟩
 .exact h.mono s
 .exact .lst (aL.of e) (r.mono s)
theorem Rp.lst(s:Same G H)(h:Rp K G H v (.lst ts)):∃a xs,v=.ref a/\aL K H a xs/\au K G xs ts:=by
 rcases h with h|⟨a,xs,us,rfl,e0,e,r⟩
 .cases h with
  |lst h r=>exact⟨_,_,rfl,s.seq h,r⟩
 .cases e0
  exact⟨a,xs,rfl,aL.of e,r⟩
theorem Rp.low(h:Rp K G H v T)(n:pJ T=false):Rep K G v T:=by
 rcases h with h|⟨a,xs,us,rfl,rfl,_⟩
 .exact h
 .cases n
theorem Rp.tup(s:Same G H)(h:Rp K G H v (.tup ts)):∃a xs,v=.ref a/\aX K H a xs/\au K G xs ts:=by
 have q:=h.low rfl
 cases q with
 |tup q r=>exact⟨_,_,rfl,s.jJ q,r⟩
theorem Rp.int(h:Rp K G H v (.int i)):v=.int i:=by cases h.low rfl; rfl
theorem Rp.bl(h:Rp K G H v (.bl i)):v=.bl i:=by cases h.low rfl; rfl
theorem Rp.str(h:Rp K G H v (.str i)):v=.str i:=by cases h.low rfl; rfl
theorem Rp.non(h:Rp K G H v .non):v=.non:=by cases h.low rfl; rfl
noncomputable def dr(ρ : En):Rv->Rs Tr
 |.v T _=>.ok T
 |.s i=>match ρ[i]? with
  |some (Sl.ow ts)=>.ok (.lst ts)
  |some (Sl.rf ts)=>.ok (.lst ts)
  |_=>.bad
theorem gW(ρ : En)(r:Rv)(c:Str):dr ρ r ≠ .ex c:=by
 cases r with
 |v T fr=>intro z; cases z
 |s i=>dsimp only[dr]; split <;> (intro z; cases z)
theorem gY(e:Ok K R ρ σ G H F)(h:fJ K σ Hs G H F v r)(q:dr ρ r=.ok T):Rp K G H v T:=by
 match r,h with
 |.v U false,h=>cases q; exact .inl h.1
 |.v U true,⟨⟨a,xs,ts,e1,e2,_,_,z,r⟩,_⟩=>cases q; exact .inr ⟨a,xs,ts,e1,e2,z,r⟩
 |.s i,h =>
  dsimp only[dr]at q
  have z:=e.sl i
  split at q <;> rename_i k <;> (first|cases q; done|skip) <;> (rw[k]at z; obtain⟨a,xs,h1,_,_,h4,h5⟩:=z; rw[h]at h1; cases h1; cases q; exact .inr ⟨a,xs,_,rfl,rfl,h4,h5⟩)
end
structure Tx where
 K:PySem.W.Frag
 xe:Str->Hp->Prop
noncomputable def bF{α : Type}(t:Tx)(H:Hp)(F:Fp)(r:Rs α)(P : α -> Prop):Prop:=match r with
 |.bad=>False
 |.ex c=>∀H',Fr t.K H F H'->t.xe c H'
 |.ok a=>P a
theorem bD{C:Prop}{A B:(Addr->Prop)->En->Hp->Fp->Prop}(k:∀R ρ G F,A R ρ G F->B R ρ G F->C):(∃R ρ G F,A R ρ G F/\B R ρ G F)->C:=λz=>by
 obtain⟨R,ρ,G,F,e,h⟩:=z
 exact k R ρ G F e h
noncomputable def Te(t:Tx)(f:EF):TE:=λσ H Q=>∃R ρ G F,Ok t.K R ρ σ G H F/\bF t H F (f ρ) λp=>∀v G' H' F',Ok t.K R p.2 σ G' H' F'->aC t.K G H F G' H' F'->fJ t.K σ H G' H' F' v p.1->Q v H'
noncomputable def Tt(t:Tx)(f:BF):TT:=λσ H Q=>∃R ρ G F,Ok t.K R ρ σ G H F/\bF t H F (f ρ) λp=>∀G' H' F',Ok t.K R p.2 σ G' H' F'->aC t.K G H F G' H' F'->Q p.1 H'
noncomputable def To(t:Tx)(f:OF):TO:=λσ H Q=>∃R ρ G F,Ok t.K R ρ σ G H F/\bF t H F (f ρ) λp=>∀G' H' F',Ok t.K R p.2 σ G' H' F'->aC t.K G H F G' H' F'->Q p.1 H'
inductive dY(K:PySem.W.Frag)(σ : St)(Hs G H:Hp)(F:Fp):List V->List Rv->Prop
 |nil:dY K σ Hs G H F [] []
 |cons {v:V} {r:Rv} {vs:List V} {rs:List Rv} (h:fJ K σ Hs G H F v r) (q:dY K σ Hs G H F vs rs):dY K σ Hs G H F (v::vs) (r::rs)
noncomputable def Ta(t:Tx)(f:AF):TA:=λσ H Q=>∃R ρ G F,Ok t.K R ρ σ G H F/\bF t H F (f ρ) λp=>∀vs G' H' F',Ok t.K R p.2 σ G' H' F'->aC t.K G H F G' H' F'->dY t.K σ H G' H' F' vs p.1->Q vs H'
section
variable {t:Tx}{R:Addr->Prop}{ρ : En}{σ : St}{G H G0 H0:Hp}{F F0:Fp}
theorem bF.run{α β : Type}{r:Rs α}{g : α -> Rs β}{P : β -> Prop}{P' : α -> Prop}(s:aC t.K G0 H0 F0 G H F)(h:bF t H0 F0 (r.bind g) P)(k:∀a,bF t H0 F0 (g a) P->P' a):bF t H F r P':=by
 cases r with
 |bad=>exact h
 |ex c=>exact λH' f=>h H' (s.back f)
 |ok a=>exact k a h
theorem bF.okb{α β : Type}{r:Rs α}{g : α -> Rs β}{P : β -> Prop}(h:bF t H F (r.bind g) P)(n:∀c,r ≠ .ex c):∃a,r=.ok a/\bF t H F (g a) P:=by
 cases r with
 |bad=>exact h.elim
 |ex c=>exact(n c rfl).elim
 |ok a=>exact⟨a,rfl,h⟩
theorem cZ{β : Type}{g:Rv × En->Rs β}{P : β -> Prop}(e:Ok t.K R ρ σ G H F)(s:aC t.K G0 H0 F0 G H F)(h:bF t H0 F0 ((f ρ).bind g) P)(k:∀p,bF t H0 F0 (g p) P->∀v G' H' F',Ok t.K R p.2 σ G' H' F'->aC t.K G H F G' H' F'->fJ t.K σ H G' H' F' v p.1->Q v H'):Te t f σ H Q:=⟨R,ρ,G,F,e,h.run s k⟩
theorem mj{β : Type}{g:List Rv × En->Rs β}{P : β -> Prop}(e:Ok t.K R ρ σ G H F)(s:aC t.K G0 H0 F0 G H F)(h:bF t H0 F0 ((f ρ).bind g) P)(k:∀p,bF t H0 F0 (g p) P->∀v G' H' F',Ok t.K R p.2 σ G' H' F'->aC t.K G H F G' H' F'->dY t.K σ H G' H' F' v p.1->Q v H'):Ta t f σ H Q:=⟨R,ρ,G,F,e,h.run s k⟩
theorem mq{β : Type}{g:Bool × En->Rs β}{P : β -> Prop}(e:Ok t.K R ρ σ G H F)(s:aC t.K G0 H0 F0 G H F)(h:bF t H0 F0 ((f ρ).bind g) P)(k:∀p,bF t H0 F0 (g p) P->∀G' H' F',Ok t.K R p.2 σ G' H' F'->aC t.K G H F G' H' F'->Q p.1 H'):Tt t f σ H Q:=⟨R,ρ,G,F,e,h.run s k⟩
theorem Qk{β : Type}{g:Option Int × En->Rs β}{P : β -> Prop}(e:Ok t.K R ρ σ G H F)(s:aC t.K G0 H0 F0 G H F)(h:bF t H0 F0 ((f ρ).bind g) P)(k:∀p,bF t H0 F0 (g p) P->∀G' H' F',Ok t.K R p.2 σ G' H' F'->aC t.K G H F G' H' F'->Q p.1 H'):To t f σ H Q:=⟨R,ρ,G,F,e,h.run s k⟩
end
local macro_rules | `(tactic| walk_at "x")=>`(tactic| ((repeat' split) <;> (intro z; cases z)))
noncomputable def Pz{α : Type}(r:Rs α)(P : α -> Prop):Prop:=match r with
 |.ok a=>P a
 |_=>False
noncomputable abbrev G1:=Tr->Rs (Tr × Bool)
noncomputable abbrev G2:=Tr->Tr->Rs (Tr × Bool)
noncomputable abbrev GN:=List Tr->Rs (Tr × Bool)
structure cj(K:PySem.W.Frag)(r:R2)(g:G2):Prop where
 nx:∀a b c,g a b ≠ .ex c
 ok:∀G H x y a b Q,Same G H->Rp K G H x a->Rp K G H y b->Pz (g a b) (λp=>∀v G' H',Gs K G H G' H'->VN K H G' H' v p.1 p.2->Q v H')->r x y H Q
inductive mD(K:PySem.W.Frag)(G H:Hp):List V->List Tr->Prop
 |nil:mD K G H [] []
 |cons {x:V} {t:Tr} {xs:List V} {ts:List Tr} (h:Rp K G H x t) (r:mD K G H xs ts):mD K G H (x::xs) (t::ts)
structure yP(K:PySem.W.Frag)(r:List V->Hp->VK->Prop)(g:GN):Prop where
 nx:∀as c,g as ≠ .ex c
 ok:∀G H xs as Q,Same G H->mD K G H xs as->Pz (g as) (λp=>∀v G' H',Gs K G H G' H'->VN K H G' H' v p.1 p.2->Q v H')->r xs H Q
section
variable {K:PySem.W.Frag}
theorem VN.flt(s:Same G H)(hz:H z=none)(r:au K G xs ts):VN K H G (upd H z (.lst xs)) (.ref z) (.lst ts) true:=⟨z,xs,ts,rfl,rfl,hz,s.free hz,bJ,r⟩
theorem VN.newT(s:Same G H)(hz:H z=none)(r:au K G xs ts):VN K H (upd G z (.tup xs)) (upd H z (.tup xs)) (.ref z) (.tup ts) false:=Rep.tup (aX.of bJ) (r.mono (fD (s.free hz) _))
theorem au.nJ:∀{v:List V} {t:List Tr} {i:Nat} {u:Tr},au K H v t->t[i]?=some u->∃x,v[i]?=some x/\Rep K H x u
 |_,_,_,_,.nil,e=>by simp at e
 |_,_,0,_,.cons h _,e=>by simp at e; subst e; exact⟨_,rfl,h⟩
 |_,_,i+1,_,.cons _ r,e=>by
  obtain⟨x,a,b⟩:=au.nJ (i:=i) r (by simpa using e)
  exact⟨x,by simpa using a,b⟩
theorem au.dX(r:au K H xs ts)(h:dX ts i=some t):∃x,L2.dX xs i=some x/\Rep K H x t:=by
 unfold L2.dX at h ⊢
 rw[r.length]
 cases e:eH ts.length i with
 |none=>rw[e]at h; cases h
 |some j =>
  rw[e]at h
  exact r.nJ h
theorem big(h:n<=100000):n<=sizeLine:=Nat.le_trans h (by decide)
noncomputable def gI(p:Int->Int->Int):G2
 |.int i,.int j=>.ok (.int (p i j),false)
 |_,_=>.bad
theorem adZ:cj K (eG λi j=>.int (p i j)) (gI p):=⟨λa b c=>by unfold gI; walk_at "x",λG H x y a b Q s rx ry h=>by
 cases a <;> try exact h.elim
 cases b <;> try exact h.elim
 rw[rx.int,ry.int]
 exact⟨_,_,rfl,rfl,h _ G H (.refl s) (.int _)⟩⟩
noncomputable def rM(c:Int->Int->Bool)(p:Int->Int->Int):G2
 |.int i,.int j=>if c i j=true then .ok (.int (p i j),false)else .bad
 |_,_=>.bad
theorem Fv(hc:∀i j,c i j=true->C i j):cj K (rI C λi j=>.int (p i j)) (rM c p):=⟨λa b c=>by unfold rM; walk_at "x",λG H x y a b Q s rx ry h=>by
 cases a <;> try exact h.elim
 cases b <;> try exact h.elim
 rw[rx.int,ry.int]
 dsimp only[rM]at h
 split at h
 .rename_i e
  exact⟨_,_,rfl,rfl,hc _ _ e,h _ G H (.refl s) (.int _)⟩
 .exact h.elim⟩
noncomputable def gB(p:Int->Int->Bool):G2
 |.int i,.int j=>.ok (.bl (p i j),false)
 |_,_=>.bad
theorem Fw:cj K (eG λi j=>.bl (p i j)) (gB p):=⟨λa b c=>by unfold gB; walk_at "x",λG H x y a b Q s rx ry h=>by
 cases a <;> try exact h.elim
 cases b <;> try exact h.elim
 rw[rx.int,ry.int]
 exact⟨_,_,rfl,rfl,h _ G H (.refl s) (.bl _)⟩⟩
noncomputable def jq:G2:=λt u=>if dep t<=40/\dep u<=40 then .ok (.bl (eqT t u),false)else .bad
theorem ad0:cj (aq K) (Eu K) jq:=⟨λa b c=>by unfold jq; walk_at "x",λG H x y a b Q s rx ry h=>by
 unfold jq at h
 split at h
 .rename_i e
  exact⟨a,b,(rx.rep s).toK,(ry.rep s).toK,e.1,e.2,h _ G H (.refl s) (.bl _)⟩
 .exact h.elim⟩
noncomputable def j5:G2:=λt u=>if dep t<=40/\dep u<=40 then .ok (.bl (!eqT t u),false)else .bad
theorem ad1:cj (aq K) (Fi K) j5:=⟨λa b c=>by unfold j5; walk_at "x",λG H x y a b Q s rx ry h=>by
 unfold j5 at h
 split at h
 .rename_i e
  exact⟨a,b,(rx.rep s).toK,(ry.rep s).toK,e.1,e.2,h _ G H (.refl s) (.bl _)⟩
 .exact h.elim⟩
noncomputable def gZ(f:Bool->Bool):G2:=λt u=>match u with
 |.lst us=>if deps us<=40/\dep t<=40 then .ok (.bl (f (lX t us)),false)else .bad
 |.tup us=>if deps us<=40/\dep t<=40 then .ok (.bl (f (lX t us)),false)else .bad
 |_=>.bad
theorem Ql(hr:∀x y H Q,(∃t ts p xs,Rep K H x t/\y=.ref p/\(aL K H p xs\/aX K H p xs)/\au K H xs ts/\deps ts<=40/\dep t<=40/\Q (.bl (f (lX t ts))) H)->r x y H Q):cj (aq K) r (gZ f):=⟨λa b c=>by unfold gZ; walk_at "x",λG H x y a b Q s rx ry h=>hr x y H Q (by
 cases b <;> try exact h.elim
 all_goals
  rename_i us
  dsimp only[gZ]at h
  split at h
  case isFalse=>exact h.elim
  rename_i e
 .obtain⟨p,xs,rfl,q,r⟩:=ry.tup s
  exact⟨a,us,p,xs,(rx.rep s).toK,rfl,.inr q.toK,(r.mono s).toK,e.1,e.2,h _ G H (.refl s) (.bl _)⟩
 .obtain⟨p,xs,rfl,q,r⟩:=ry.lst s
  exact⟨a,us,p,xs,(rx.rep s).toK,rfl,.inl q.toK,(r.mono s).toK,e.1,e.2,h _ G H (.refl s) (.bl _)⟩)⟩
theorem ad2:cj (aq K) (Ew K) (gZ id):=Ql λ_ _ _ _ h=>h
theorem ad3:cj (aq K) (Fg K) (gZ not):=Ql λ_ _ _ _ h=>h
noncomputable def Qm:Tr->Bool
 |.non=>true
 |_=>false
noncomputable def qU(f:Bool->Bool):G2:=λt u=>match u with
 |.non=>.ok (.bl (f (Qm t)),false)
 |_=>.bad
theorem ad4(f:Bool->Bool):cj K (λx y H Q=>y=.non/\Q (.bl (f (decide (x=.non)))) H) (qU f):=⟨λa b c=>by unfold qU; walk_at "x",λG H x y a b Q s rx ry h=>by
 cases b <;> try exact h.elim
 have z:decide (x=.non)=Qm a:=by cases rx.rep s <;> rfl
 rw[ry.non,z]
 exact⟨rfl,h _ G H (.refl s) (.bl _)⟩⟩
noncomputable def Fy(K:PySem.W.Frag):R2:=λx y H Q=>(eG λi j=>.int (i+j)) x y H Q\/Qg K x y H Q\/(∃i j,x=.str i/\y=.str j/\i.length+j.length<=sizeLine/\Q (.str (i++j)) H)\/O1 K x y H Q
theorem ad5:bw X (binaryOp .Add) (Fy X.K):=bw.or Ny (bw.or adW (bw.or abV acR))
noncomputable def j6:G2
 |.int i,.int j=>.ok (.int (i+j),false)
 |.lst a,.lst b=>if a.length+b.length<=100000 then .ok (.lst (a++b),true)else .bad
 |.str a,.str b=>if a.length+b.length<=100000 then .ok (.str (a++b),false)else .bad
 |.tup a,.tup b=>if 0<a.length/\a.length+b.length<=100000 then .ok (.tup (a++b),false)else .bad
 |_,_=>.bad
theorem ad6:cj (aq K) (Fy K) j6:=⟨λa b c=>by unfold j6; walk_at "x",λG H x y a b Q s rx ry h=>by
 cases a <;> cases b <;> try exact h.elim
 .rw[rx.int,ry.int]
  exact .inl ⟨_,_,rfl,rfl,h _ G H (.refl s) (.int _)⟩
 all_goals
  rename_i us ws
  dsimp only[j6]at h
  split at h
  case isFalse=>exact h.elim
  rename_i e
 .rw[rx.str,ry.str]
  exact .inr (.inr (.inl ⟨us,ws,rfl,rfl,big e,h _ G H (.refl s) (.str _)⟩))
 .have rt:=rx.low rfl
  obtain⟨p,xs,rfl,q,r⟩:=rx.tup s
  obtain⟨p',ys,rfl,q',r'⟩:=ry.tup s
  have l1:=r.length
  have l2:=r'.length
  refine .inr (.inr (.inr ⟨p,p',xs,ys,rfl,rfl,q.toK,q'.toK,?_,by rw[l1,l2]; exact big e.2,λz=>h _ G H (.refl s) ?_,λ_ z hz=>h _ _ _ (.new s hz) (.newT s hz (r.app r'))⟩))
  .rintro rfl
   have e1:=e.1
   rw[<-l1]at e1
   cases e1
  .subst z
   cases r'
   rw[List.append_nil]
   exact rt
 .obtain⟨p,xs,rfl,q,r⟩:=rx.lst s
  obtain⟨p',ys,rfl,q',r'⟩:=ry.lst s
  exact .inr (.inl ⟨p,p',xs,ys,rfl,rfl,q.yM,q'.yM,by rw[r.length,r'.length]; exact big e,λz hz=>h _ _ _ (.flt s hz) (.flt s hz (r.app r'))⟩)⟩
noncomputable def fit(i:Int):Bool:=decide (i.natAbs.log2<1048575)
theorem Qn(h:fit i=true):Builtin.Int.intBits i<=2 ^ 20:=by
 have h:=of_decide_eq_true h
 unfold Builtin.Int.intBits
 split
 .decide
 .omega
noncomputable def tiny(i:Int):Bool:=decide (-18446744073709551616<i)&&decide (i<18446744073709551616)
noncomputable def dg(i j:Int):Bool:=(fit i&&fit j) || tiny i || tiny j
noncomputable def yQ(i j:Int):Prop:=dg i j=true
theorem yQ.ok(h:yQ i j):IntMulOk i j:=by
 unfold yQ dg at h
 rw[Bool.or_eq_true,Bool.or_eq_true,Bool.and_eq_true]at h
 have tn:∀{k:Int},tiny k=true -> -(2 ^ 64)<k/\k<2 ^ 64:=λ{k} h=>by
  unfold tiny at h
  rw[Bool.and_eq_true]at h
  have h1:=of_decide_eq_true h.1
  have h2:=of_decide_eq_true h.2
  omega
 rcases h with(⟨h1,h2⟩|h)|h
 .exact .of_bits (Qn h1) (Qn h2)
 .exact .of_left (intBits_le_64 (tn h).1 (tn h).2)
 .exact .of_right (intBits_le_64 (tn h).1 (tn h).2)
noncomputable def Fz(K:PySem.W.Frag):R2:=λx y H Q=>(rI yQ λi j=>.int (i*j)) x y H Q\/Qh K x y H Q
theorem ad7:bw X (binaryOp .Mult) (Fz X.K):=bw.or (yj λ_ _ _ _ _ _ _ hc q=>mul_int q hc.ok) adX
noncomputable def uN:G2
 |.int i,.int j=>if dg i j=true then .ok (.int (i*j),false)else .bad
 |.lst a,.int k=>if(-1000<=k/\k<=1000)/\a.length<=100 then .ok (.lst (List.replicate k.toNat a).flatten,true)else .bad
 |_,_=>.bad
noncomputable def iV(_ j:Int):Bool:=decide (j≠0)&&decide (j.natAbs.log2<9000)
noncomputable def yR(i j:Int):Prop:=iV i j=true
theorem ad8:bw X (binaryOp .FloorDiv) (rI yR λi j=>.int (i.fdiv j)):=yj λi j _ _ _ _ _ hc q=>by
 unfold yR iV at hc
 rw[Bool.and_eq_true]at hc
 exact floordiv_int (of_decide_eq_true hc.1) q (.inl (PyProof.noPylong_of_log2 (of_decide_eq_true hc.2)))
noncomputable def FJ:G2:=rM iV Int.fdiv
noncomputable def yS:G2:=rM (λ_ j=>decide (j≠0)) Int.fmod
noncomputable def FN(i j:Int):Bool:=decide (0<=j)&&decide (j<=1000)&&tiny i
noncomputable def mZ:G2:=rM FN λi j=>i ^ j.toNat
noncomputable def uO:G2:=gI λi j=>i-j
section
variable {K:PySem.W.Frag}
theorem au.rep(r:au K H xs ts):∀n,au K H (List.replicate n xs).flatten (List.replicate n ts).flatten
 | 0=>.nil
 |n+1=>by
  exact r.app (au.rep r n)
theorem ad9:cj (aq K) (Fz K) uN:=⟨λa b c=>by unfold uN; walk_at "x",λG H x y a b Q s rx ry h=>by
 cases a <;> cases b <;> try exact h.elim
 all_goals
  rename_i us k
  rw[ry.int]
  dsimp only[uN]at h
  split at h
  case isFalse=>exact h.elim
  rename_i e
 .rw[rx.int]
  exact .inl ⟨_,_,rfl,rfl,e,h _ G H (.refl s) (.int _)⟩
 .obtain⟨p,xs,rfl,q,r⟩:=rx.lst s
  refine .inr ⟨p,k,xs,rfl,rfl,q.yM,by omega,by omega,?_,λz hz=>h _ _ _ (.flt s hz) (.flt s hz (r.rep _))⟩
  rw[r.length]
  exact Nat.le_trans (Nat.mul_le_mul e.2 (show k.toNat<=1000 by omega)) (by decide)⟩
theorem aea:cj K (rI yR λi j=>.int (i.fdiv j)) FJ:=Fv λ_ _ h=>h
theorem aeb:cj K (rI (λ_ j=>j≠0) λi j=>.int (i.fmod j)) yS:=Fv λ_ _ h=>of_decide_eq_true h
theorem aec(i j:Int)(h:FN i j=true):yq i j:=by
 simp only[FN,tiny,Bool.and_eq_true,decide_eq_true_eq]at h
 exact⟨h.1.1,by omega,by omega⟩
theorem aed:cj K (rI yq λi j=>.int (i ^ j.toNat)) mZ:=Fv aec
theorem aee:cj K (eG λi j=>.int (i-j)) uO:=adZ
noncomputable def FQ:G2:=gB λi j=>decide (j<i)
noncomputable def FT:G2:=gB λi j=>decide (i<=j)
noncomputable def FW:G2:=gB λi j=>decide (j<=i)
theorem aef:cj K (eG λi j=>.bl (decide (j<i))) FQ:=Fw
theorem aeg:cj K (eG λi j=>.bl (decide (i<=j))) FT:=Fw
theorem aeh:cj K (eG λi j=>.bl (decide (j<=i))) FW:=Fw
noncomputable def intsOf:List Tr->Option (List Int)
 | []=>some []
 |.int i::r=>(intsOf r).map (i :: ·)
 |_::_=>none
theorem ints_of:∀{ts:List Tr} {ns:List Int} {xs:List V},intsOf ts=some ns->au K H xs ts->xs=ns.map V.int
 | [],ns,xs,h,r=>by cases h; cases r; rfl
 |.int i::q,ns,xs,h,r=>by
  obtain⟨ms,e,rfl⟩:=Option.map_eq_some_iff.mp h
  cases r with
  |cons h1 r1 =>
   cases h1
   rw[ints_of e r1]
   rfl
noncomputable def Ga(K:PySem.W.Frag):R2:=λx y H Q=>(eG λi j=>.bl (decide (i<j))) x y H Q\/OJ K x y H Q
theorem aei(hu:X.A.units+64<cLine):bw X (compareOp .Lt) (Ga X.K):=bw.or abK (acQ (by omega))
noncomputable def uP:G2
 |.int i,.int j=>.ok (.bl (decide (i<j)),false)
 |.tup a,.tup b=>match intsOf a,intsOf b with
  |some ns,some ms=>.ok (.bl (HT.lexLt ns ms),false)
  |_,_=>.bad
 |_,_=>.bad
theorem aej:cj (aq K) (Ga K) uP:=⟨λa b c=>by unfold uP; walk_at "x",λG H x y a b Q s rx ry h=>by
 cases a <;> cases b <;> try exact h.elim
 .rw[rx.int,ry.int]
  exact .inl ⟨_,_,rfl,rfl,h _ G H (.refl s) (.bl _)⟩
 .dsimp only[uP]at h
  split at h
  case h_2=>exact h.elim
  rename_i ns ms e1 e2
  obtain⟨p,xs,rfl,q,r⟩:=rx.tup s
  obtain⟨p',ys,rfl,q',r'⟩:=ry.tup s
  have z1:=ints_of e1 r
  have z2:=ints_of e2 r'
  subst z1 z2
  exact .inr ⟨p,p',ns,ms,rfl,rfl,q.toK,q'.toK,h _ G H (.refl s) (.bl _)⟩⟩
noncomputable def aW:G2
 |.lst ts,.int i=>match dX ts i with
  |some t=>.ok (t,false)
  |none=>.bad
 |.tup ts,.int i=>match dX ts i with
  |some t=>.ok (t,false)
  |none=>.bad
 | .str z,.int i=>if z.length<=100000 then (match dX z.cps.toList i with
  |some c=>.ok (.str ⟨#[c]⟩,false)
  |none=>.bad)else .bad
 |_,_=>.bad
theorem Qo:cj (aq K) (O7 K) aW:=⟨λa b c=>by unfold aW; walk_at "x",λG H x y a b Q s rx ry h=>by
 cases a <;> cases b <;> try exact h.elim
 all_goals
  rename_i z i
  rw[ry.int]
  dsimp only[aW]at h
  split at h
  rotate_left
  exact h.elim
 .rename_i e
  rw[rx.str]
  split at h
  .rename_i c ec
   exact .inr (.inr ⟨z,i,c,rfl,rfl,big e,ec,h _ G H (.refl s) (.str _)⟩)
  .exact h.elim
 .rename_i t e
  obtain⟨p,xs,rfl,q,r⟩:=rx.tup s
  obtain⟨v,ev,rv⟩:=r.dX e
  exact .inr (.inl ⟨p,xs,i,v,rfl,rfl,q.toK,ev,h _ G H (.refl s) rv⟩)
 .rename_i t e
  obtain⟨p,xs,rfl,q,r⟩:=rx.lst s
  obtain⟨v,ev,rv⟩:=r.dX e
  exact .inl ⟨p,xs,i,v,rfl,rfl,q.toK,ev,h _ G H (.refl s) rv⟩⟩
structure j7(K:PySem.W.Frag)(r:V->Hp->VK->Prop)(g:G1):Prop where
 nx:∀a c,g a ≠ .ex c
 ok:∀G H x a Q,Same G H->Rp K G H x a->Pz (g a) (λp=>∀v G' H',Gs K G H G' H'->VN K H G' H' v p.1 p.2->Q v H')->r x H Q
noncomputable def g1(g:G1):GN
 | [a]=>g a
 |_=>.bad
theorem rN{r:List V->Hp->VK->Prop}{g:G1}(h:j7 K (λx=>r [x]) g):yP K r (g1 g):=⟨λas c=>(by
 unfold g1
 split
 .exact h.nx _ c
 .intro z; cases z),λG H xs as Q s rs q=>by
 cases rs with
 |nil=>exact q.elim
 |cons h1 r1 =>
  cases r1 with
  |nil=>exact h.ok G H _ _ Q s h1 q
  |cons _ _=>exact q.elim⟩
noncomputable def g2(g:G2):GN
 | [a,b]=>g a b
 |_=>.bad
theorem Qp{r:List V->Hp->VK->Prop}{g:G2}(h:cj K (λx y=>r [x,y]) g):yP K r (g2 g):=⟨λas c=>(by
 unfold g2
 split
 .exact h.nx _ _ c
 .intro z; cases z),λG H xs as Q s rs q=>by
 cases rs with
 |nil=>exact q.elim
 |cons h1 r1 =>
  cases r1 with
  |nil=>exact q.elim
  |cons h2 r2 =>
   cases r2 with
   |nil=>exact h.ok G H _ _ _ _ Q s h1 h2 q
   |cons _ _=>exact q.elim⟩
noncomputable def qW:G1
 |.int i=>.ok (.int (-i),false)
 |_=>.bad
theorem Qq:j7 K (rU λi=>.int (-i)) qW:=⟨λa c=>by unfold qW; walk_at "x",λG H x a Q s rx h=>by
 cases a <;> try exact h.elim
 rw[rx.int]
 exact⟨_,rfl,h _ G H (.refl s) (.int _)⟩⟩
noncomputable def Gb(K:PySem.W.Frag):List V->Hp->VK->Prop:=λxs H Q=>(∃p ys,xs=[.ref p]/\(aL K H p ys\/aX K H p ys)/\Q (.int ys.length) H)\/(∃z,xs=[.str z]/\z.length<=sizeLine/\Q (.int z.length) H)
theorem aek:eV X (.builtin "len") (Gb X.K):=eV.or ac1 ac2
noncomputable def fC:G1
 |.lst ts=>.ok (.int ts.length,false)
 |.tup ts=>.ok (.int ts.length,false)
 |.str z=>if z.length<=100000 then .ok (.int z.length,false)else .bad
 |_=>.bad
theorem ael:j7 (aq K) (λx=>Gb K [x]) fC:=⟨λa c=>by unfold fC; walk_at "x",λG H x a Q s rx h=>by
 cases a <;> try exact h.elim
 .dsimp only[fC]at h
  split at h
  .rename_i z e
   rw[rx.str]
   exact .inr ⟨z,rfl,big e,h _ G H (.refl s) (.int _)⟩
  .exact h.elim
 .obtain⟨p,xs,rfl,q,r⟩:=rx.tup s
  refine .inl ⟨p,xs,rfl,.inr q.toK,?_⟩
  rw[r.length]
  exact h _ G H (.refl s) (.int _)
 .obtain⟨p,xs,rfl,q,r⟩:=rx.lst s
  refine .inl ⟨p,xs,rfl,.inl q.toK,?_⟩
  rw[r.length]
  exact h _ G H (.refl s) (.int _)⟩
noncomputable def uQ:G1
 |.int i=>.ok (.int (if i<0 then -i else i),false)
 |_=>.bad
theorem aem:j7 K (λx H Q=>∃i,[x]=[V.int i]/\Q (.int (if i<0 then -i else i)) H) uQ:=⟨λa c=>by unfold uQ; walk_at "x",λG H x a Q s rx h=>by
 cases a <;> try exact h.elim
 rw[rx.int]
 exact⟨_,rfl,h _ G H (.refl s) (.int _)⟩⟩
noncomputable def aaK:G1
 |.int i=>.ok (.int i,false)
 |.bl b=>.ok (.int (if b then 1 else 0),false)
 |_=>.bad
noncomputable def xg:G1
 |.lst ts=>.ok (.lst ts,true)
 |.tup ts=>.ok (.lst ts,true)
 |_=>.bad
theorem aen:j7 (aq K) (λx H Q=>∃p ys,[x]=[V.ref p]/\(aL K H p ys\/aX K H p ys)/\∀l,H l=none->Q (.ref l) (upd H l (.lst ys))) xg:=⟨λa c=>by unfold xg; walk_at "x",λG H x a Q s rx h=>by
 cases a <;> try exact h.elim
 .obtain⟨p,xs,rfl,q,r⟩:=rx.tup s
  exact⟨p,xs,rfl,.inr q.toK,λz hz=>h _ _ _ (.flt s hz) (.flt s hz r)⟩
 .obtain⟨p,xs,rfl,q,r⟩:=rx.lst s
  exact⟨p,xs,rfl,.inl q.toK,λz hz=>h _ _ _ (.flt s hz) (.flt s hz r)⟩⟩
noncomputable def wZ:G2
 |.int i,.int j=>.ok (.int (if j<i then j else i),false)
 |_,_=>.bad
noncomputable def w6:G2
 |.int i,.int j=>.ok (.int (if j > i then j else i),false)
 |_,_=>.bad
theorem aeo:cj K (λx y H Q=>∃i j,[x,y]=[V.int i,V.int j]/\Q (.int (if j<i then j else i)) H) wZ:=⟨λa b c=>by unfold wZ; walk_at "x",λG H x y a b Q s rx ry h=>by
 cases a <;> cases b <;> try exact h.elim
 rw[rx.int,ry.int]
 exact⟨_,_,rfl,h _ G H (.refl s) (.int _)⟩⟩
theorem aep:cj K (λx y H Q=>∃i j,[x,y]=[V.int i,V.int j]/\Q (.int (if j > i then j else i)) H) w6:=⟨λa b c=>by unfold w6; walk_at "x",λG H x y a b Q s rx ry h=>by
 cases a <;> cases b <;> try exact h.elim
 rw[rx.int,ry.int]
 exact⟨_,_,rfl,h _ G H (.refl s) (.int _)⟩⟩
noncomputable def uR:List Tr->Option (List Bool)
 | []=>some []
 |.bl i::r=>(uR r).map (i :: ·)
 |_::_=>none
theorem Qs:∀{ts:List Tr} {ns:List Bool} {xs:List V},uR ts=some ns->au K H xs ts->xs=ns.map V.bl
 | [],ns,xs,h,r=>by cases h; cases r; rfl
 |.bl i::q,ns,xs,h,r=>by
  obtain⟨ms,e,rfl⟩:=Option.map_eq_some_iff.mp h
  cases r with
  |cons h1 r1 =>
   cases h1
   rw[Qs e r1]
   rfl
noncomputable def rO:G1
 |.lst ts=>match uR ts with
  |some bs=>.ok (.bl (bs.all id),false)
  |none=>.bad
 |_=>.bad
theorem aer:j7 (aq K) (λx=>Ez K [x]) rO:=⟨λa c=>by unfold rO; walk_at "x",λG H x a Q s rx h=>by
 cases a <;> try exact h.elim
 dsimp only[rO]at h
 split at h
 .rename_i bs e
  obtain⟨p,xs,rfl,q,r⟩:=rx.lst s
  have z:=Qs e r
  subst z
  exact⟨p,bs,rfl,q.toK,h _ G H (.refl s) (.bl _)⟩
 .exact h.elim⟩
noncomputable def qR:Tr->Rs Bool
 |.bl b=>.ok b
 |_=>.bad
theorem Qt(a:Tr)(c:Str):qR a ≠ .ex c:=by cases a <;> (intro z; cases z)
theorem Qu{a:Tr}(h:Rp K G H v a)(q:qR a=.ok b):v=.bl b:=by
 cases a <;> cases q
 exact h.bl
noncomputable def rP:Tr->Rs Int
 |.int i=>.ok i
 |_=>.bad
theorem Qv(a:Tr)(c:Str):rP a ≠ .ex c:=by cases a <;> (intro z; cases z)
theorem Qw{a:Tr}(h:Rp K G H v a)(q:rP a=.ok b):v=.int b:=by
 cases a <;> cases q
 exact h.int
noncomputable def mX:Tr->Rs Bool
 |.non=>.ok false
 |.bl b=>.ok b
 |.int i=>.ok (i != 0)
 |.lst ts=>.ok (!ts.isEmpty)
 |.tup ts=>.ok (!ts.isEmpty)
 |.str x=>if x.length<=100000 then .ok ((x.length:Int) != 0)else .bad
 |.bR _=>.bad
theorem aes(a:Tr)(c:Str):mX a ≠ .ex c:=by unfold mX; walk_at "x"
theorem Qx{α β : Type}{a:List α}{b:List β}(h:a.length=b.length):a.isEmpty=b.isEmpty:=by
 cases a <;> cases b <;> first|rfl|cases h
theorem aeu(s:Same G H)(h:Rp (aq K) G H v a)(q:mX a=.ok b):DK K v H b:=by
 cases a with
 |non=>cases q; rw[h.non]; rfl
 |bl i=>cases q; rw[h.bl]; rfl
 |int i=>cases q; rw[h.int]; rfl
 |str i =>
  dsimp only[mX]at q
  split at q
  .rename_i e
   cases q
   rw[h.str]
   exact⟨big e,rfl⟩
  .cases q
 |tup ts =>
  cases q
  obtain⟨p,xs,rfl,q,r⟩:=h.tup s
  exact .inr (id ⟨xs,q.toK,by rw[Qx r.length]⟩)
 |lst ts =>
  cases q
  obtain⟨p,xs,rfl,q,r⟩:=h.lst s
  exact .inl ⟨xs,q.toK,by rw[Qx r.length]⟩
 |bR c=>cases q
end
end
end L2
end
section
namespace L2
open PySem
theorem dI{c P:Prop} [i:Decidable c]{f:c->Bool}(h:(if z:c then f z else false)=true)(k:c->∀z,f z=true->P):P:=by
 cases i with
 |isTrue z=>exact k z z h
 |isFalse z=>cases h
@[irreducible] def atName(e:Expr)(k:Str->Pos->Bool):Bool:=if h:e.ctorIdx=23 then Expr.Name.elim e h k else false
theorem KC(h:atName e k=true):∃x0 x1,e=.Name x0 x1/\k x0 x1=true:=by unfold atName at h; exact dI h λy=>Expr.Name.elim e y λ_ _ _ h=>⟨_,_,rfl,h⟩
@[elab_as_elim] theorem Z2{C:_->Prop}(h:atName e k=true)(f:∀x0 x1,k x0 x1=true->C (.Name x0 x1)):C e:=by obtain⟨_,_,rfl,h'⟩:=KC h; exact f _ _ h'
@[irreducible] def yU(e:Expr)(k:Expr->Operator->Expr->Pos->Bool):Bool:=if h:e.ctorIdx=2 then Expr.BinOp.elim e h k else false
theorem KD(h:yU e k=true):∃x0 x1 x2 x3,e=.BinOp x0 x1 x2 x3/\k x0 x1 x2 x3=true:=by unfold yU at h; exact dI h λy=>Expr.BinOp.elim e y λ_ _ _ _ _ h=>⟨_,_,_,_,rfl,h⟩
@[elab_as_elim] theorem Z4{C:_->Prop}(h:yU e k=true)(f:∀x0 x1 x2 x3,k x0 x1 x2 x3=true->C (.BinOp x0 x1 x2 x3)):C e:=by obtain⟨_,_,_,_,rfl,h'⟩:=KD h; exact f _ _ _ _ h'
@[irreducible] def pK(e:Expr)(k:UnaryOp->Expr->Pos->Bool):Bool:=if h:e.ctorIdx=3 then Expr.UnaryOp.elim e h k else false
theorem KH(h:pK e k=true):∃x0 x1 x2,e=.UnaryOp x0 x1 x2/\k x0 x1 x2=true:=by unfold pK at h; exact dI h λy=>Expr.UnaryOp.elim e y λ_ _ _ _ h=>⟨_,_,_,rfl,h⟩
@[elab_as_elim] theorem Z5{C:_->Prop}(h:pK e k=true)(f:∀x0 x1 x2,k x0 x1 x2=true->C (.UnaryOp x0 x1 x2)):C e:=by obtain⟨_,_,_,rfl,h'⟩:=KH h; exact f _ _ _ h'
@[irreducible] def uT(e:Expr)(k:Expr->List CmpOp->List Expr->Pos->Bool):Bool:=if h:e.ctorIdx=15 then Expr.Compare.elim e h k else false
theorem KJ(h:uT e k=true):∃x0 x1 x2 x3,e=.Compare x0 x1 x2 x3/\k x0 x1 x2 x3=true:=by unfold uT at h; exact dI h λy=>Expr.Compare.elim e y λ_ _ _ _ _ h=>⟨_,_,_,_,rfl,h⟩
@[elab_as_elim] theorem Z6{C:_->Prop}(h:uT e k=true)(f:∀x0 x1 x2 x3,k x0 x1 x2 x3=true->C (.Compare x0 x1 x2 x3)):C e:=by obtain⟨_,_,_,_,rfl,h'⟩:=KJ h; exact f _ _ _ _ h'
@[irreducible] def uU(e:Expr)(k:BoolOp->List Expr->Pos->Bool):Bool:=if h:e.ctorIdx=0 then Expr.BoolOp.elim e h k else false
theorem KN(h:uU e k=true):∃x0 x1 x2,e=.BoolOp x0 x1 x2/\k x0 x1 x2=true:=by unfold uU at h; exact dI h λy=>Expr.BoolOp.elim e y λ_ _ _ _ h=>⟨_,_,_,rfl,h⟩
@[elab_as_elim] theorem Z7{C:_->Prop}(h:uU e k=true)(f:∀x0 x1 x2,k x0 x1 x2=true->C (.BoolOp x0 x1 x2)):C e:=by obtain⟨_,_,_,rfl,h'⟩:=KN h; exact f _ _ _ h'
@[irreducible] def yV(e:Expr)(k:Expr->Expr->Expr->Pos->Bool):Bool:=if h:e.ctorIdx=5 then Expr.IfExp.elim e h k else false
theorem KQ(h:yV e k=true):∃x0 x1 x2 x3,e=.IfExp x0 x1 x2 x3/\k x0 x1 x2 x3=true:=by unfold yV at h; exact dI h λy=>Expr.IfExp.elim e y λ_ _ _ _ _ h=>⟨_,_,_,_,rfl,h⟩
@[elab_as_elim] theorem Z8{C:_->Prop}(h:yV e k=true)(f:∀x0 x1 x2 x3,k x0 x1 x2 x3=true->C (.IfExp x0 x1 x2 x3)):C e:=by obtain⟨_,_,_,_,rfl,h'⟩:=KQ h; exact f _ _ _ _ h'
@[irreducible] def jK(e:Expr)(k:Expr->Expr->Pos->Bool):Bool:=if h:e.ctorIdx=21 then Expr.Subscript.elim e h k else false
theorem KR(h:jK e k=true):∃x0 x1 x2,e=.Subscript x0 x1 x2/\k x0 x1 x2=true:=by unfold jK at h; exact dI h λy=>Expr.Subscript.elim e y λ_ _ _ _ h=>⟨_,_,_,rfl,h⟩
@[elab_as_elim] theorem Z9{C:_->Prop}(h:jK e k=true)(f:∀x0 x1 x2,k x0 x1 x2=true->C (.Subscript x0 x1 x2)):C e:=by obtain⟨_,_,_,rfl,h'⟩:=KR h; exact f _ _ _ h'
@[irreducible] def j8(e:Expr)(k:List Expr->Nat->Pos->Bool):Bool:=if h:e.ctorIdx=25 then Expr.Tuple.elim e h k else false
theorem KY(h:j8 e k=true):∃x0 x1 x2,e=.Tuple x0 x1 x2/\k x0 x1 x2=true:=by unfold j8 at h; exact dI h λy=>Expr.Tuple.elim e y λ_ _ _ _ h=>⟨_,_,_,rfl,h⟩
@[elab_as_elim] theorem aac{C:_->Prop}(h:j8 e k=true)(f:∀x0 x1 x2,k x0 x1 x2=true->C (.Tuple x0 x1 x2)):C e:=by obtain⟨_,_,_,rfl,h'⟩:=KY h; exact f _ _ _ h'
@[irreducible] def uV(e:Expr)(k:List Expr->Pos->Bool):Bool:=if h:e.ctorIdx=24 then Expr.List.elim e h k else false
theorem KZ(h:uV e k=true):∃x0 x1,e=.List x0 x1/\k x0 x1=true:=by unfold uV at h; exact dI h λy=>Expr.List.elim e y λ_ _ _ h=>⟨_,_,rfl,h⟩
@[elab_as_elim] theorem aad{C:_->Prop}(h:uV e k=true)(f:∀x0 x1,k x0 x1=true->C (.List x0 x1)):C e:=by obtain⟨_,_,rfl,h'⟩:=KZ h; exact f _ _ h'
@[irreducible] def yW(e:Expr)(k:Option Expr->Option Expr->Option Expr->Pos->Bool):Bool:=if h:e.ctorIdx=26 then Expr.Slice.elim e h k else false
theorem K1(h:yW e k=true):∃x0 x1 x2 x3,e=.Slice x0 x1 x2 x3/\k x0 x1 x2 x3=true:=by unfold yW at h; exact dI h λy=>Expr.Slice.elim e y λ_ _ _ _ _ h=>⟨_,_,_,_,rfl,h⟩
@[elab_as_elim] theorem aae{C:_->Prop}(h:yW e k=true)(f:∀x0 x1 x2 x3,k x0 x1 x2 x3=true->C (.Slice x0 x1 x2 x3)):C e:=by obtain⟨_,_,_,_,rfl,h'⟩:=K1 h; exact f _ _ _ _ h'
@[irreducible] def gC(e:Expr)(k:Expr->List Expr->List Keyword->Pos->Bool):Bool:=if h:e.ctorIdx=16 then Expr.Call.elim e h k else false
theorem wX(h:gC e k=true):∃x0 x1 x2 x3,e=.Call x0 x1 x2 x3/\k x0 x1 x2 x3=true:=by unfold gC at h; exact dI h λy=>Expr.Call.elim e y λ_ _ _ _ _ h=>⟨_,_,_,_,rfl,h⟩
@[elab_as_elim] theorem aaf{C:_->Prop}(h:gC e k=true)(f:∀x0 x1 x2 x3,k x0 x1 x2 x3=true->C (.Call x0 x1 x2 x3)):C e:=by obtain⟨_,_,_,_,rfl,h'⟩:=wX h; exact f _ _ _ _ h'
@[irreducible] def jL(e:Expr)(k:Expr->Str->Pos->Bool):Bool:=if h:e.ctorIdx=20 then Expr.Attribute.elim e h k else false
theorem K3(h:jL e k=true):∃x0 x1 x2,e=.Attribute x0 x1 x2/\k x0 x1 x2=true:=by unfold jL at h; exact dI h λy=>Expr.Attribute.elim e y λ_ _ _ _ h=>⟨_,_,_,rfl,h⟩
@[elab_as_elim] theorem aag{C:_->Prop}(h:jL e k=true)(f:∀x0 x1 x2,k x0 x1 x2=true->C (.Attribute x0 x1 x2)):C e:=by obtain⟨_,_,_,rfl,h'⟩:=K3 h; exact f _ _ _ h'
@[irreducible] def pL(e:Expr)(k:Expr->List Comprehension->Scope->Pos->Bool):Bool:=if h:e.ctorIdx=8 then Expr.ListComp.elim e h k else false
theorem K4(h:pL e k=true):∃x0 x1 x2 x3,e=.ListComp x0 x1 x2 x3/\k x0 x1 x2 x3=true:=by unfold pL at h; exact dI h λy=>Expr.ListComp.elim e y λ_ _ _ _ _ h=>⟨_,_,_,_,rfl,h⟩
@[elab_as_elim] theorem aah{C:_->Prop}(h:pL e k=true)(f:∀x0 x1 x2 x3,k x0 x1 x2 x3=true->C (.ListComp x0 x1 x2 x3)):C e:=by obtain⟨_,_,_,_,rfl,h'⟩:=K4 h; exact f _ _ _ _ h'
@[irreducible] def yX(e:Expr)(k:Arguments->Expr->Scope->Pos->Bool):Bool:=if h:e.ctorIdx=4 then Expr.Lambda.elim e h k else false
theorem K5(h:yX e k=true):∃x0 x1 x2 x3,e=.Lambda x0 x1 x2 x3/\k x0 x1 x2 x3=true:=by unfold yX at h; exact dI h λy=>Expr.Lambda.elim e y λ_ _ _ _ _ h=>⟨_,_,_,_,rfl,h⟩
@[elab_as_elim] theorem aai{C:_->Prop}(h:yX e k=true)(f:∀x0 x1 x2 x3,k x0 x1 x2 x3=true->C (.Lambda x0 x1 x2 x3)):C e:=by obtain⟨_,_,_,_,rfl,h'⟩:=K5 h; exact f _ _ _ _ h'
@[irreducible] def jr(e:Stmt)(k:List Expr->Expr->Pos->Bool):Bool:=if h:e.ctorIdx=5 then Stmt.Assign.elim e h k else false
theorem K6(h:jr e k=true):∃x0 x1 x2,e=.Assign x0 x1 x2/\k x0 x1 x2=true:=by unfold jr at h; exact dI h λy=>Stmt.Assign.elim e y λ_ _ _ _ h=>⟨_,_,_,rfl,h⟩
@[elab_as_elim] theorem aaj{C:_->Prop}(h:jr e k=true)(f:∀x0 x1 x2,k x0 x1 x2=true->C (.Assign x0 x1 x2)):C e:=by obtain⟨_,_,_,rfl,h'⟩:=K6 h; exact f _ _ _ h'
@[irreducible] def yZ(e:Stmt)(k:Expr->Pos->Bool):Bool:=if h:e.ctorIdx=24 then Stmt.Expr.elim e h k else false
theorem K7(h:yZ e k=true):∃x0 x1,e=.Expr x0 x1/\k x0 x1=true:=by unfold yZ at h; exact dI h λy=>Stmt.Expr.elim e y λ_ _ _ h=>⟨_,_,rfl,h⟩
@[elab_as_elim] theorem aak{C:_->Prop}(h:yZ e k=true)(f:∀x0 x1,k x0 x1=true->C (.Expr x0 x1)):C e:=by obtain⟨_,_,rfl,h'⟩:=K7 h; exact f _ _ h'
@[irreducible] def pN(e:Stmt)(k:Option Expr->Pos->Bool):Bool:=if h:e.ctorIdx=3 then Stmt.Return.elim e h k else false
theorem K8(h:pN e k=true):∃x0 x1,e=.Return x0 x1/\k x0 x1=true:=by unfold pN at h; exact dI h λy=>Stmt.Return.elim e y λ_ _ _ h=>⟨_,_,rfl,h⟩
@[elab_as_elim] theorem aal{C:_->Prop}(h:pN e k=true)(f:∀x0 x1,k x0 x1=true->C (.Return x0 x1)):C e:=by obtain⟨_,_,rfl,h'⟩:=K8 h; exact f _ _ h'
@[irreducible] def uW(e:Stmt)(k:Expr->List Stmt->List Stmt->Pos->Bool):Bool:=if h:e.ctorIdx=12 then Stmt.If.elim e h k else false
theorem K9(h:uW e k=true):∃x0 x1 x2 x3,e=.If x0 x1 x2 x3/\k x0 x1 x2 x3=true:=by unfold uW at h; exact dI h λy=>Stmt.If.elim e y λ_ _ _ _ _ h=>⟨_,_,_,_,rfl,h⟩
@[elab_as_elim] theorem aam{C:_->Prop}(h:uW e k=true)(f:∀x0 x1 x2 x3,k x0 x1 x2 x3=true->C (.If x0 x1 x2 x3)):C e:=by obtain⟨_,_,_,_,rfl,h'⟩:=K9 h; exact f _ _ _ _ h'
@[irreducible] def zf(e:Stmt)(k:Option Expr->Option Expr->Pos->Bool):Bool:=if h:e.ctorIdx=16 then Stmt.Raise.elim e h k else false
theorem La(h:zf e k=true):∃x0 x1 x2,e=.Raise x0 x1 x2/\k x0 x1 x2=true:=by unfold zf at h; exact dI h λy=>Stmt.Raise.elim e y λ_ _ _ _ h=>⟨_,_,_,rfl,h⟩
@[elab_as_elim] theorem aan{C:_->Prop}(h:zf e k=true)(f:∀x0 x1 x2,k x0 x1 x2=true->C (.Raise x0 x1 x2)):C e:=by obtain⟨_,_,_,rfl,h'⟩:=La h; exact f _ _ _ h'
@[irreducible] def zj(e:Stmt)(k:Expr->List Stmt->List Stmt->Pos->Bool):Bool:=if h:e.ctorIdx=11 then Stmt.While.elim e h k else false
theorem Lb(h:zj e k=true):∃x0 x1 x2 x3,e=.While x0 x1 x2 x3/\k x0 x1 x2 x3=true:=by unfold zj at h; exact dI h λy=>Stmt.While.elim e y λ_ _ _ _ _ h=>⟨_,_,_,_,rfl,h⟩
@[elab_as_elim] theorem aao{C:_->Prop}(h:zj e k=true)(f:∀x0 x1 x2 x3,k x0 x1 x2 x3=true->C (.While x0 x1 x2 x3)):C e:=by obtain⟨_,_,_,_,rfl,h'⟩:=Lb h; exact f _ _ _ _ h'
@[irreducible] def zm(e:Stmt)(k:Expr->Expr->List Stmt->List Stmt->Pos->Bool):Bool:=if h:e.ctorIdx=9 then Stmt.For.elim e h k else false
theorem Ld(h:zm e k=true):∃x0 x1 x2 x3 x4,e=.For x0 x1 x2 x3 x4/\k x0 x1 x2 x3 x4=true:=by unfold zm at h; exact dI h λy=>Stmt.For.elim e y λ_ _ _ _ _ _ h=>⟨_,_,_,_,_,rfl,h⟩
@[elab_as_elim] theorem aap{C:_->Prop}(h:zm e k=true)(f:∀x0 x1 x2 x3 x4,k x0 x1 x2 x3 x4=true->C (.For x0 x1 x2 x3 x4)):C e:=by obtain⟨_,_,_,_,_,rfl,h'⟩:=Ld h; exact f _ _ _ _ _ h'
@[irreducible] def Gd(e:Expr)(k:Const->Nat->Pos->Bool):Bool:=if h:e.ctorIdx=19 then Expr.Constant.elim e h k else false
@[elab_as_elim] theorem aaz{C:_->Prop}(h:Gd e k=true)(f:∀x0 x1 x2,k x0 x1 x2=true->C (.Constant x0 x1 x2)):C e:=by unfold Gd at h; exact dI h λy=>Expr.Constant.elim e y λ_ _ _ _ h=>f _ _ _ h
@[irreducible] def Ge(e:Const)(k:Int->Bool):Bool:=if h:e.ctorIdx=2 then Const.int.elim e h k else false
@[elab_as_elim] theorem aaA{C:_->Prop}(h:Ge e k=true)(f:∀x0,k x0=true->C (.int x0)):C e:=by unfold Ge at h; exact dI h λy=>Const.int.elim e y λ_ _ h=>f _ h
@[irreducible] def Gf(e:Const)(k:Str->Bool):Bool:=if h:e.ctorIdx=5 then Const.str.elim e h k else false
@[elab_as_elim] theorem aaB{C:_->Prop}(h:Gf e k=true)(f:∀x0,k x0=true->C (.str x0)):C e:=by unfold Gf at h; exact dI h λy=>Const.str.elim e y λ_ _ h=>f _ h
@[irreducible] def Gg(e:Const)(k:Bool->Bool):Bool:=if h:e.ctorIdx=1 then Const.bool.elim e h k else false
@[elab_as_elim] theorem aaC{C:_->Prop}(h:Gg e k=true)(f:∀x0,k x0=true->C (.bool x0)):C e:=by unfold Gg at h; exact dI h λy=>Const.bool.elim e y λ_ _ h=>f _ h
@[irreducible] def Gh(e:Const):Bool:=decide (e.ctorIdx=0)
@[elab_as_elim] theorem aaD{C:_->Prop}(h:Gh e=true)(f:True->C .none):C e:=by unfold Gh at h; exact Const.none.elim e (of_decide_eq_true h) (f trivial)
@[irreducible] def pO(e:Comprehension)(k:Expr->Expr->List Expr->Int->Bool):Bool:=k e.target e.iter e.ifs e.is_async
theorem Le(h:pO e k=true):∃x0 x1 x2 x3,e=⟨x0,x1,x2,x3⟩/\k x0 x1 x2 x3=true:=by unfold pO at h; cases e; exact⟨_,_,_,_,rfl,h⟩
@[elab_as_elim] theorem aaq{C:_->Prop}(h:pO e k=true)(f:∀x0 x1 x2 x3,k x0 x1 x2 x3=true->C (⟨x0,x1,x2,x3⟩)):C e:=by obtain⟨_,_,_,_,rfl,h'⟩:=Le h; exact f _ _ _ _ h'
@[irreducible] def zq(e:Keyword)(k:Option Str->Expr->Pos->Bool):Bool:=k e.arg e.value e.pos
theorem Lf(h:zq e k=true):∃x0 x1 x2,e=⟨x0,x1,x2⟩/\k x0 x1 x2=true:=by unfold zq at h; cases e; exact⟨_,_,_,rfl,h⟩
@[elab_as_elim] theorem aar{C:_->Prop}(h:zq e k=true)(f:∀x0 x1 x2,k x0 x1 x2=true->C (⟨x0,x1,x2⟩)):C e:=by obtain⟨_,_,_,rfl,h'⟩:=Lf h; exact f _ _ _ h'
@[irreducible] def zu(e:Arg)(k:Str->Option Expr->Pos->Bool):Bool:=k e.arg e.annotation e.pos
theorem Lg(h:zu e k=true):∃x0 x1 x2,e=⟨x0,x1,x2⟩/\k x0 x1 x2=true:=by unfold zu at h; cases e; exact⟨_,_,_,rfl,h⟩
@[elab_as_elim] theorem aas{C:_->Prop}(h:zu e k=true)(f:∀x0 x1 x2,k x0 x1 x2=true->C (⟨x0,x1,x2⟩)):C e:=by obtain⟨_,_,_,rfl,h'⟩:=Lg h; exact f _ _ _ h'
@[irreducible] def zx(e:Arguments)(k:List Arg->List Arg->Option Arg->List Arg->List (Option Expr)->Option Arg->List Expr->Bool):Bool:=k e.posonlyargs e.args e.vararg e.kwonlyargs e.kw_defaults e.kwarg e.defaults
theorem Lh(h:zx e k=true):∃x0 x1 x2 x3 x4 x5 x6,e=⟨x0,x1,x2,x3,x4,x5,x6⟩/\k x0 x1 x2 x3 x4 x5 x6=true:=by unfold zx at h; cases e; exact⟨_,_,_,_,_,_,_,rfl,h⟩
@[elab_as_elim] theorem aat{C:_->Prop}(h:zx e k=true)(f:∀x0 x1 x2 x3 x4 x5 x6,k x0 x1 x2 x3 x4 x5 x6=true->C (⟨x0,x1,x2,x3,x4,x5,x6⟩)):C e:=by obtain⟨_,_,_,_,_,_,_,rfl,h'⟩:=Lh h; exact f _ _ _ _ _ _ _ h'
@[irreducible] def aP{α : Type}(l:List α)(k : α -> List α -> Bool):Bool:=match l with
 |x::y=>k x y
 |_=>false
theorem Ky{α : Type}{l:List α}{k : α -> List α -> Bool}(h:aP l k=true):∃x y,l=x::y/\k x y=true:=by unfold aP at h; cases l <;> first|exact⟨_,_,rfl,h⟩|cases h
@[elab_as_elim] theorem aau{α : Type}{l:List α}{k : α -> List α -> Bool}{C:_->Prop}(h:aP l k=true)(f:∀x y,k x y=true->C (x::y)):C l:=by obtain⟨_,_,rfl,h'⟩:=Ky h; exact f _ _ h'
@[irreducible] def aQ{α : Type}(l:List α)(k:Bool):Bool:=l.isEmpty&&k
theorem Kz{α : Type}{l:List α}{k:Bool}(h:aQ l k=true):l=[]/\k=true:=by unfold aQ at h; cases l <;> first|exact⟨rfl,h⟩|cases h
@[elab_as_elim] theorem aav{α : Type}{l:List α}{k:Bool}{C:_->Prop}(h:aQ l k=true)(f:k=true->C ([])):C l:=by obtain⟨rfl,h'⟩:=Kz h; exact f h'
@[irreducible] def j9{α : Type}(l:Option α)(k : α -> Bool):Bool:=match l with
 |some x=>k x
 |_=>false
theorem Li{α : Type}{l:Option α}{k : α -> Bool}(h:j9 l k=true):∃x,l=some x/\k x=true:=by unfold j9 at h; cases l <;> first|exact⟨_,rfl,h⟩|cases h
@[elab_as_elim] theorem aaw{α : Type}{l:Option α}{k : α -> Bool}{C:_->Prop}(h:j9 l k=true)(f:∀x,k x=true->C (some x)):C l:=by obtain⟨_,rfl,h'⟩:=Li h; exact f _ h'
@[irreducible] def pP{α : Type}(l:Option α)(k:Bool):Bool:=l.isNone&&k
theorem Lj{α : Type}{l:Option α}{k:Bool}(h:pP l k=true):l=none/\k=true:=by unfold pP at h; cases l <;> first|exact⟨rfl,h⟩|cases h
@[elab_as_elim] theorem aax{α : Type}{l:Option α}{k:Bool}{C:_->Prop}(h:pP l k=true)(f:k=true->C (none)):C l:=by obtain⟨rfl,h'⟩:=Lj h; exact f h'
@[irreducible] def jM{α : Type} [DecidableEq α](a b : α)(k:Bool):Bool:=decide (a=b)&&k
theorem Ln{α : Type} [DecidableEq α]{a b : α}{k:Bool}(h:jM a b k=true):a=b/\k=true:=by simpa[jM]using h
@[elab_as_elim] theorem aay{α : Type} [DecidableEq α]{a b : α}{k:Bool}{C : α -> Prop}(h:jM a b k=true)(f:k=true->C b):C a:=by obtain⟨e,q⟩:=Ln h; subst e; exact f q
open PySem.Spec PyProof.Rows
noncomputable def pQ(i:Int):TE:=λ_ H Q=>Q (.int i) H
noncomputable def kI:Const->Option Int
 |.int i=>some i
 |_=>none
noncomputable def bI(o:Operator)(i j:Int):Option Int:=match o with
 |.Sub=>some (i-j)
 |.Add=>some (i+j)
 |.Pow=>if 0<=j/\j<=100/\i.natAbs<=1000 then some (i ^ j.toNat)else none
 |_=>none
noncomputable def uI(o:UnaryOp)(i:Int):Option Int:=match o with
 |.USub=>some (-i)
 |_=>none
noncomputable def cI:Expr->Option Int
 |.Constant c _ _=>kI c
 |.UnaryOp o e _=>(cI e).bind (uI o)
 |.BinOp a o b _=>(cI a).bind λi=>(cI b).bind λj=>bI o i j
 |_=>none
theorem aev(h:kI c=some i):PE X (.Constant c k p) (pQ i):=by
 cases c <;> first|(cases h; exact Dl)|cases h
theorem aew(h:uI o i=some k)(he:PE X e (pQ i)):PE X (.UnaryOp o e p) (pQ k):=by
 cases o <;> first|(cases h; exact(Dy Dz he).imp λσ H Q q=>⟨i,rfl,q⟩)|cases h
theorem aex(h:bI o i j=some k)(ha:PE X a (pQ i))(hb:PE X b (pQ j)):PE X (.BinOp a o b p) (pQ k):=by
 cases o <;> try cases h
 .exact(yh Ny ha hb).imp λσ H Q q=>⟨i,j,rfl,rfl,q⟩
 .exact(yh Nz ha hb).imp λσ H Q q=>⟨i,j,rfl,rfl,q⟩
 .dsimp only[bI]at h
  split at h
  .rename_i c
   cases h
   exact(yh NK ha hb).imp λσ H Q q=>⟨i,j,rfl,rfl,⟨c.1,by lia,by lia⟩,q⟩
  .cases h
theorem zy(e:Expr)(k:Int)(h:cI e=some k):PE X e (pQ k):=by
 cases e with
 |Constant c _ _=>exact aev h
 |UnaryOp o a _ =>
  have h:(cI a).bind (uI o)=some k:=h
  cases e1:cI a with
  |none=>rw[e1]at h; cases h
  |some i=>rw[e1]at h; exact aew h (zy a i e1)
 |BinOp a o b _ =>
  have h:((cI a).bind λi=>(cI b).bind λj=>bI o i j)=some k:=h
  cases e1:cI a with
  |none=>rw[e1]at h; cases h
  |some i =>
   cases e2:cI b with
   |none=>rw[e1,e2]at h; cases h
   |some j=>rw[e1,e2]at h; exact aex h (zy a i e1) (zy b j e2)
 |_=>cases h
noncomputable def kT:Const->Option Tr
 |.none=>some .non
 |.bool b=>some (.bl b)
 |.str x=>some (.str x)
 |.int i=>some (.int i)
 |_=>none
mutual
noncomputable def cT:Expr->Option Tr
 |.Constant c _ _=>kT c
 |.Tuple es _ _=>(ig es).map .tup
 |.List es _=>(ig es).map .lst
 |.UnaryOp o a p=>(cI (.UnaryOp o a p)).map .int
 |.BinOp a o b p=>(cI (.BinOp a o b p)).map .int
 |_=>none
noncomputable def ig:List Expr->Option (List Tr)
 | []=>some []
 |e::r=>match cT e,ig r with
  |some T,some Ts=>if Ts.length<1000 then some (T::Ts)else none
  |_,_=>none
end
theorem zA:∀{es:List Expr} {Ts:List Tr},ig es=some Ts->Ts.length<=1000
 | [],Ts,h=>by
  cases h
  decide
 |e::r,Ts,h=>by
  unfold ig at h
  split at h
  .split at h
   .cases h
    rename_i h1
    rw[List.length_cons]
    lia
   .cases h
  .cases h
section
variable {X:Cx}{e:Expr}{es:List Expr}{T:Tr}{Ts:List Tr}{pos:Pos}{k:Nat}{G:PySem.W.Frag}
theorem aey:PA X [] (rH G []):=yr.imp λσ H Q q=>q [] H (Same.refl _) λ_ _=>.nil
theorem aez(h:PE X e (pH G T))(r:PA X es (rH G Ts))(hs:starEach (e::es) X.env=(false,eval e X.env)::starEach es X.env):PA X (e::es) (rH G (T::Ts)) :=
 (rA h r hs).imp λσ H Q q v H1 s1 rv vs H2 s2 rs=>q (v::vs) H2 (s1.trans s2) λPr p=>.cons ((rv Pr p).mono (p.mono s2)) (rs Pr (p.le s1))
theorem Qy(h:PA X es (rH G Ts))(hl:Ts.length<=1000):PE X (.Tuple es k pos) (pH G (.tup Ts)) :=
 (Oe h).imp λσ H Q q vs H1 s1 rs=>by
  by_cases hv:vs.length<=sizeLine
  .exact⟨hv,λa ha=>q (.ref a) _ (s1.trans (fD ha _)) λPr p=>.tup (aX.of ((p.le s1).new (Same.refl _) ha)) ((rs Pr p).mono (p.mono (fD ha _)))⟩
  .exact absurd (Nat.le_of_lt (Eo (by rw[(rs _ (Pj.id H)).length]; exact hl))) hv
theorem Qz(h:PA X es (rH G Ts))(hl:Ts.length<=1000):PE X (.List es pos) (EY G Ts) :=
 (Og h).imp λσ H Q q vs H1 s1 rs=>by
  have e:=(rs _ (Pj.id H)).length
  exact⟨Nat.le_of_lt (Eo (by rw[e]; exact hl)),λa ha=>q a vs H1 s1 ha rs e⟩
theorem aeA(h:PE X e (EY G Ts)):PE X e (pH G (.lst Ts)) :=
 h.imp λσ H Q q a xs H1 s1 ha rs _=>q (.ref a) _ (s1.trans (fD ha _)) λPr p=>.lst (aL.of ((p.le s1).new (Same.refl _) ha)) ((rs Pr p).mono (p.mono (fD ha _)))
theorem QB(h:(cI e).map Tr.int=some T):PE X e (pH G T):=by
 cases e1:cI e with
 |none=>rw[e1]at h; cases h
 |some i =>
  rw[e1]at h; cases h
  exact(zy e i e1).imp λσ H Q q=>q _ H (Same.refl _) λ_ _=>.int i
end
theorem aeB(h:cT e=some T):starEach (e::es) env=(false,eval e env)::starEach es env:=by
 cases e <;> first|rfl|(unfold cT at h; cases h)
theorem aeC(h:kT c=some T):PE X (.Constant c k p) (pH G T):=by
 cases c <;> try cases h
 .exact M6.imp λσ H Q q=>q _ H (Same.refl _) λ_ _=>.non
 .exact M5.imp λσ H Q q=>q _ H (Same.refl _) λ_ _=>.bl _
 .exact Dl.imp λσ H Q q=>q _ H (Same.refl _) λ_ _=>.int _
 .exact M7.imp λσ H Q q=>q _ H (Same.refl _) λ_ _=>.str _
mutual
theorem aeD(e:Expr)(T:Tr)(h:cT e=some T):PE X e (pH G T):=by
 cases e with
 |Constant c _ _=>exact aeC (by unfold cT at h; exact h)
 |Tuple es _ _ =>
  unfold cT at h
  cases e:ig es with
  |none=>rw[e]at h; cases h
  |some Ts =>
   rw[e]at h
   cases h
   exact Qy (uX es Ts e) (zA e)
 |List es _ =>
  unfold cT at h
  cases e:ig es with
  |none=>rw[e]at h; cases h
  |some Ts =>
   rw[e]at h
   cases h
   exact aeA (Qz (uX es Ts e) (zA e))
 |UnaryOp o a p=>exact QB (by unfold cT at h; exact h)
 |BinOp a o b p=>exact QB (by unfold cT at h; exact h)
 |_=>unfold cT at h; cases h
theorem uX:∀(es:List Expr) (Ts:List Tr),ig es=some Ts->PA X es (rH G Ts)
 | [],Ts,h=>by
  unfold ig at h; cases h
  exact aey
 |e::r,Ts,h=>by
  unfold ig at h
  cases e1:cT e with
  |none=>rw[e1]at h; cases h
  |some T =>
   cases e2:ig r with
   |none=>rw[e1,e2]at h; cases h
   |some Us =>
    rw[e1,e2]at h
    dsimp only at h
    split at h
    .cases h
     exact aez (aeD e T e1) (uX r Us e2) (aeB e1)
    .cases h
end
theorem aeE(h:ig es=some Ts):PE X (.List es pos) (EY G Ts):=Qz (uX es Ts h) (zA h)
theorem aeF(h:ig es=some Ts):PE X (.Tuple es k pos) (pH G (.tup Ts)):=Qy (uX es Ts h) (zA h)
class NF where
 f:Value->Int
section
variable [NF]{kf:Value->Int × Int}
noncomputable def q1(kf:Value->Int × Int)(xs:Array Keyed)(i:Nat):Int:=match xs[i]? with|some p=>(kf p.1).1|none=>0
noncomputable def q2(kf:Value->Int × Int)(xs:Array Keyed)(i:Nat):Int:=match xs[i]? with|some p=>(kf p.1).2|none=>0
noncomputable def qr(xs:Array Keyed)(i:Nat):Int:=match xs[i]? with|some p=>NF.f p.2|none=>0
noncomputable def Kl(kf:Value->Int × Int)(xs:Array Keyed)(i j:Nat):Prop:=q1 kf xs i<q1 kf xs j\/(q1 kf xs i=q1 kf xs j/\q2 kf xs i<q2 kf xs j)
noncomputable instance {kf:Value->Int × Int}{xs:Array Keyed}{i j:Nat}:Decidable (Kl kf xs i j):=by unfold Kl; infer_instance
noncomputable def Ke(kf:Value->Int × Int)(xs:Array Keyed)(i j:Nat):Prop:=q1 kf xs i=q1 kf xs j/\q2 kf xs i=q2 kf xs j
noncomputable def Lq(kf:Value->Int × Int)(xs:Array Keyed)(i j:Nat):Prop:=Kl kf xs i j\/(Ke kf xs i j/\qr xs i<qr xs j)
noncomputable def fK(kf:Value->Int × Int)(xs:Array Keyed)(m:Nat):Prop:=∀i j,i<j->j<m->Lq kf xs i j
noncomputable def cF(kf:Value->Int × Int)(xs:Array Keyed)(m:Nat):Prop:=∀i j,i<j->j<m->Lq kf xs j i
noncomputable def kh(kf:Value->Int × Int)(xs:Array Keyed)(m q:Nat):Prop:=(∀i j,i<j->j<m->i<q->Lq kf xs j i/\(q<=j->Kl kf xs j i))/\∀i j,q<=i->i<j->j<m->Ke kf xs i j/\qr xs i<qr xs j
noncomputable def Pre(N:Nat)(xs:Array Keyed)(m:Nat):Prop:=(∀k:Nat,k<m->qr xs k<m)/\∀k:Nat,m<=k->k<N->qr xs k=k
theorem mG(h:xs[i]?=ys[j]?):qr xs i=qr ys j:=by unfold qr; rw[h]
theorem zB(h:xs[i]?=ys[j]?):q1 kf xs i=q1 kf ys j:=by unfold q1; rw[h]
theorem zE(h:xs[i]?=ys[j]?):q2 kf xs i=q2 kf ys j:=by unfold q2; rw[h]
theorem iw(hj:j<=xs.size)(k:Nat):(i<=k/\k<j/\(mirror xs i j ((j-i) / 2))[k]?=xs[i+j-1-k]?)\/(¬(i<=k/\k<j)/\(mirror xs i j ((j-i) / 2))[k]?=xs[k]?):=by
 have e:=getElem?_mirror_all (i:=i) hj k
 by_cases h:i<=k/\k<j
 .rw[if_pos h]at e; exact .inl ⟨h.1,h.2,e⟩
 .rw[if_neg h]at e; exact .inr ⟨h,e⟩
theorem mH(h1:xs[i]?=ys[i']?)(h2:xs[j]?=ys[j']?):Lq kf xs i j↔Lq kf ys i' j':=by
 unfold Lq Kl Ke; rw[mG h1,mG h2,zB h1,zB h2,zE h1,zE h2]
theorem zF(h1:xs[i]?=ys[i']?)(h2:xs[j]?=ys[j']?):Kl kf xs i j↔Kl kf ys i' j':=by
 unfold Kl; rw[zB h1,zB h2,zE h1,zE h2]
theorem Kl.tr(a:Kl kf xs i j)(b:Kl kf xs j k):Kl kf xs i k:=by
 unfold Kl at *
 generalize q1 kf xs i=a1,q2 kf xs i=a2,q1 kf xs j=b1,q2 kf xs j=b2,q1 kf xs k=c1,q2 kf xs k=c2 at *
 lia
theorem Kl.no(a:¬Kl kf xs i j)(b:¬Kl kf xs j i):Ke kf xs i j:=by
 unfold Kl at *
 unfold Ke
 generalize q1 kf xs i=a1,q2 kf xs i=a2,q1 kf xs j=b1,q2 kf xs j=b2 at *
 lia
theorem Ke.s(a:Ke kf xs i j):Ke kf xs j i:=⟨a.1.symm,a.2.symm⟩
theorem Ke.t(a:Ke kf xs i j)(b:Ke kf xs j k):Ke kf xs i k:=⟨a.1.trans b.1,a.2.trans b.2⟩
theorem Ke.l(a:Ke kf xs i j)(b:Kl kf xs j k):Kl kf xs i k:=by
 unfold Kl at *
 rw[a.1,a.2]
 exact b
theorem Ke.r(a:Kl kf xs i j)(b:Ke kf xs j k):Kl kf xs i k:=by
 unfold Kl at *
 rw[<-b.1,<-b.2]
 exact a
theorem Kl.tq(a:Kl kf xs i j)(b:Lq kf xs j k):Kl kf xs i k:=b.elim a.tr λz=>Ke.r a z.1
theorem Kl.qt(a:Lq kf xs i j)(b:Kl kf xs j k):Kl kf xs i k:=a.elim (λz=>z.tr b) λz=>z.1.l b
theorem Lq.mk(a:¬Kl kf xs j i)(b:qr xs i<qr xs j):Lq kf xs i j:=by
 by_cases h:Kl kf xs i j
 .exact .inl h
 .exact .inr ⟨Kl.no h a,b⟩
theorem Pre.iw(h:Pre N xs m)(hj:j<=xs.size)(hm:j<=m):Pre N (mirror xs i j ((j-i) / 2)) m:=by
 refine⟨λk hk=>?_,λk hk hN=>?_⟩
 .rcases L2.iw hj k with⟨a,b,e⟩|⟨n,e⟩
  .rw[mG e]; exact h.1 _ (by lia)
  .rw[mG e]; exact h.1 _ hk
 .rcases L2.iw hj k with⟨a,b,e⟩|⟨n,e⟩
  .lia
  .rw[mG e]; exact h.2 _ hk hN
theorem cF.turn(h:cF kf xs m)(hm:m<=xs.size):fK kf (mirror xs 0 m ((m-0) / 2)) m:=λi j hij hj=>by
 rcases iw (i:=0) hm i with⟨_,_,e1⟩|⟨n,_⟩
 .rcases iw (i:=0) hm j with⟨_,_,e2⟩|⟨n,_⟩
  .rw[mH e1 e2]; exact h _ _ (by lia) (by lia)
  .lia
 .lia
theorem kh.turn(h:kh kf xs m q)(hm:m<=xs.size)(hq:q<m):cF kf (mirror xs q m ((m-q) / 2)) m:=λi j hij hj=>by
 rcases iw (i:=q) hm i with⟨a,b,e1⟩|⟨n,e1⟩ <;> rcases iw (i:=q) hm j with⟨a',b',e2⟩|⟨n',e2⟩
 .rw[mH e2 e1]
  have z:=h.2 (q+m-1-j) (q+m-1-i) (by lia) (by lia) (by lia)
  exact .inr z
 .lia
 .rw[mH e2 e1]
  exact(h.1 i (q+m-1-j) (by lia) (by lia) (by lia)).1
 .rw[mH e2 e1]
  exact(h.1 i j hij hj (by lia)).1
theorem kh.one(h:kh kf xs m q)(hq:m<=q+1):cF kf xs m:=λi j hij hj=>(h.1 i j hij hj (by lia)).1
end
section
variable [NF]{prog:Program}{w:World}{A:Around}{E:Value->Shared->Prop}{s:Shared}{N:Nat}{kd:SortKind}{kf:Value->Int × Int}
structure SB(a₀ : Array Keyed)(kd:SortKind)(st:SortSt):Prop where
 pm:(arrOf st).Perm a₀
 kn:kindOf st=kd
 fl:failedOf st=none
 pd:pendingOf st = #[]
theorem SB.sz{st:SortSt}(h:SB a₀ kd st):(arrOf st).size=a₀.size:=h.pm.size_eq
theorem SB.put{st:SortSt}(h:SB a₀ kd st)(p:xs.Perm (arrOf st)):SB a₀ kd (setArr st xs):=⟨p.trans h.pm,h.kn,h.fl,h.pd⟩
noncomputable def Asks(prog:Program)(w:World)(A:Around)(E:Value->Shared->Prop)(s:Shared)(a₀ : Array Keyed)(kd:SortKind)(kf:Value->Int × Int):Prop :=
 ∀(st:SortSt) (i j:Nat) (Q:Option Bool->SortSt->Prop),SB a₀ kd st->i<a₀.size->j<a₀.size->Q (some (decide (Kl kf (arrOf st) i j))) st->wpS (model prog w) A E s (ltAt' i j) Q st
variable {a₀ : Array Keyed}(ask:Asks prog w A E s a₀ kd kf)
include ask
theorem QC{st:SortSt}(hn:n<=a₀.size)(ha:1<=a)(han:a<=n)(B:SB a₀ kd st)(p:Pre a₀.size (arrOf st) a)(h0:fK kf (arrOf st) a)
  (h:∀m,a<=m->m<=n->fK kf (arrOf st) m->Pre a₀.size (arrOf st) m->(m=n\/(m<n/\Kl kf (arrOf st) m (m-1)))->Q (none,m) st):wpS (model prog w) A E s (ascLoop a n) Q st:=by
 have up:∀x,a<=x->x<=n->Pre a₀.size (arrOf st) x:=λx h1 h2=>⟨λk hk=>by
  by_cases z:k<a
  .have:=p.1 k z; lia
  .rw[p.2 k (by lia) (by lia)]; lia,λk h3 h4=>p.2 k (by lia) h4⟩
 refine wpS_forRange (I:=λx c t=>t=st/\c=(none,x)/\x<=n/\fK kf (arrOf st) x) ?_ ?_ ⟨rfl,rfl,han,h0⟩
 .rintro x c t h1 h2 ⟨rfl,rfl,_,hs⟩
  refine wpS_bind (ask _ _ _ _ B (by lia) (by lia) ?_)
  by_cases l:Kl kf (arrOf t) x (x-1)
  .rw[decide_eq_true l]
   exact wpS_pure (h x h1 (by lia) hs (up x h1 (by lia)) (.inr ⟨h2,l⟩))
  .rw[decide_eq_false l]
   refine wpS_pure ⟨rfl,rfl,h2,λi j hij hj=>?_⟩
   by_cases z:j<x
   .exact hs i j hij z
   .have ej:j=x:=by lia
    subst ej
    have r1:=(up j h1 (by lia)).1 i hij
    have r2:=(up j h1 (by lia)).2 j (Nat.le_refl _) (by lia)
    by_cases z:i=j-1
    .subst z
     exact Lq.mk l (by rw[r2]; exact r1)
    .have y:=hs i (j-1) (by lia) (by lia)
     exact Lq.mk (λz=>l (z.tq y)) (by rw[r2]; exact r1)
 .rintro c t ⟨rfl,rfl,_,hs⟩
  rw[show max a n=n by lia]at hs ⊢
  exact h n han (Nat.le_refl _) hs (up n han (Nat.le_refl _)) (.inl rfl)
theorem QD{st:SortSt}(hn:n<=a₀.size)(h1:1<=m)(hm:m<=n)(B:SB a₀ kd st)(p:Pre a₀.size (arrOf st) m)(d:cF kf (arrOf st) m)
  (h:∀m t,SB a₀ kd t->1<=m->m<=n->fK kf (arrOf t) m->Pre a₀.size (arrOf t) m->Q (some m) t):wpS (model prog w) A E s (tail3 m n) Q st:=by
 unfold tail3
 have z:m<=(arrOf st).size:=by rw[B.sz]; lia
 refine wpS_bind (wpS_reverse ?_)
 have B':SB a₀ kd (setArr st (mirror (arrOf st) 0 m ((m-0) / 2))):=B.put (mirror_perm _ _ _ _)
 exact wpS_bind (QC ask hn h1 hm B' (p.iw z (Nat.le_refl _)) (d.turn z) λk k1 k2 k3 k4 _=>wpS_pure (h k _ B' (by lia) k2 k3 k4))
theorem aeG{st:SortSt}(hn:n<=a₀.size)(h1:1<=m)(hm:m<=n)(B:SB a₀ kd st)(p:Pre a₀.size (arrOf st) m)(d:kh kf (arrOf st) m (m-1))
  (h:∀x e t,SB a₀ kd t->m<=x->x<=n->e+1<=x->kh kf (arrOf t) x (x-(e+1))->Pre a₀.size (arrOf t) x->Q (none,x,e) t):wpS (model prog w) A E s (descLoop m n) Q st:=by
 unfold descLoop
 refine wpS_forRange (I:=λx c t=>∃e,c=(none,x,e)/\SB a₀ kd t/\x<=n/\e+1<=x/\kh kf (arrOf t) x (x-(e+1))/\Pre a₀.size (arrOf t) x) ?_ ?_ ⟨0,rfl,B,hm,by lia,d,p⟩
 .rintro x c t k1 k2 ⟨e,rfl,B',_,ke,d',p'⟩
  dsimp only
  have z:x<=(arrOf t).size:=by rw[B'.sz]; lia
  have pu:∀ys:Array Keyed,Pre a₀.size ys x->Pre a₀.size ys (x+1):=λys q=>⟨λk hk=>by
   by_cases y:k<x
   .have:=q.1 k y; lia
   .rw[q.2 k (by lia) (by lia)]; lia,λk h3 h4=>q.2 k (by lia) h4⟩
  refine wpS_bind (ask _ _ _ _ B' (by lia) (by lia) ?_)
  by_cases l:Kl kf (arrOf t) x (x-1)
  .rw[decide_eq_true l]
   have next:∀ys:Array Keyed,cF kf ys x->(∀i,i<x->Kl kf ys x i)->kh kf ys (x+1) x:=λys y1 y2=>⟨λi j hij hj hi=>by
    by_cases y:j<x
    .exact⟨y1 i j hij y,λz=>by lia⟩
    .have:j=x:=by lia
     subst this
     exact⟨.inl (y2 i hi),λ_=>y2 i hi⟩,λi j h1 h2 h3=>by lia⟩
   have low:∀i,i<x->Kl kf (arrOf t) x i:=λi hi=>by
    by_cases y:i=x-1
    .rw[y]; exact l
    .by_cases y2:i<x-(e+1)
     .exact l.tq (d'.1 i (x-1) (by lia) (by lia) y2).1
     .exact Ke.r l (d'.2 i (x-1) (by lia) (by lia) (by lia)).1.s
   by_cases g:e > 0
   .rw[if_pos g]
    refine wpS_bind (wpS_reverse (wpS_pure ⟨0,rfl,B'.put (mirror_perm _ _ _ _),k2,by lia,?_,pu _ (p'.iw z (Nat.le_refl _))⟩))
    rw[show x+1-(0+1)=x by lia]
    refine next _ (d'.turn z (by lia)) λi hi=>?_
    rcases iw (i:=x-(e+1)) z x with⟨_,b,_⟩|⟨_,e1⟩
    .lia
    .rcases iw (i:=x-(e+1)) z i with⟨_,_,e2⟩|⟨_,e2⟩
     .rw[zF e1 e2]; exact low _ (by lia)
     .rw[zF e1 e2]; exact low _ hi
   .rw[if_neg g]
    refine wpS_pure ⟨0,rfl,B',k2,by lia,?_,pu _ p'⟩
    rw[show x+1-(0+1)=x by lia]
    exact next _ (d'.one (by lia)) low
  .rw[decide_eq_false l]
   refine wpS_bind (ask _ _ _ _ B' (by lia) (by lia) ?_)
   by_cases g:Kl kf (arrOf t) (x-1) x
   .rw[decide_eq_true g]
    exact wpS_pure (h x e t B' k1 (by lia) ke d' p')
   .rw[decide_eq_false g]
    have eq:Ke kf (arrOf t) (x-1) x:=Kl.no g l
    refine wpS_pure ⟨e+1,rfl,B',k2,by lia,?_,pu _ p'⟩
    rw[show x+1-(e+1+1)=x-(e+1) by lia]
    refine⟨λi j hij hj hi=>?_,λi j hi hij hj=>?_⟩
    .by_cases y:j<x
     .exact d'.1 i j hij y hi
     .have:j=x:=by lia
      subst this
      have y:=(d'.1 i (j-1) (by lia) (by lia) hi).2 (by lia)
      have y':Kl kf (arrOf t) j i:=eq.s.l y
      exact⟨.inl y',λ_=>y'⟩
    .by_cases y:j<x
     .exact d'.2 i j hi hij y
     .have:j=x:=by lia
      subst this
      have r1:=p'.1 i hij
      have r2:=p'.2 j (Nat.le_refl _) (by lia)
      refine⟨?_,by lia⟩
      by_cases y:i=j-1
      .rw[y]; exact eq
      .exact(d'.2 i (j-1) hi (by lia) (by lia)).1.t eq
 .rintro c t ⟨e,rfl,B',_,ke,d',p'⟩
  rw[show max m n=n by lia]at ke d' p' ⊢
  exact h n e t B' hm (Nat.le_refl _) ke d' p'
theorem QG{st:SortSt}(hn:n<=a₀.size)(hm:m+1<=n)(B:SB a₀ kd st)(p:Pre a₀.size (arrOf st) (m+1))(d:kh kf (arrOf st) (m+1) m)
  (h:∀m t,SB a₀ kd t->1<=m->m<=n->fK kf (arrOf t) m->Pre a₀.size (arrOf t) m->Q (some m) t):wpS (model prog w) A E s (descPart m n) Q st:=by
 refine wpS_bind (wpS_lift (wpAny_rule ⟨rfl,?_⟩))
 refine wpS_bind (aeG ask hn (by lia) hm B p (by rw[show m+1-1=m by lia]; exact d) λx e t B' k1 k2 ke d' p'=>?_)
 have z:x<=(arrOf t).size:=by rw[B'.sz]; lia
 show wpS _ _ _ _ (if e > 0 then(reverseSlice' (x-(e+1)) x >>= λ_=>tail3 x n)else tail3 x n) _ _
 by_cases g:e > 0
 .rw[if_pos g]
  exact wpS_bind (wpS_reverse (QD ask hn (by lia) k2 (B'.put (mirror_perm _ _ _ _)) (p'.iw z (Nat.le_refl _)) (d'.turn z (by lia)) h))
 .rw[if_neg g]
  exact QD ask hn (by lia) k2 B' p' (d'.one (by lia)) h
theorem aeH{st:SortSt}(hn:n<=a₀.size)(h1:1<=n)(B:SB a₀ kd st)(p:Pre a₀.size (arrOf st) 0)
  (h:∀m t,SB a₀ kd t->1<=m->m<=n->fK kf (arrOf t) m->Pre a₀.size (arrOf t) m->Q (some m) t):wpS (model prog w) A E s (countRun' 0 n) Q st:=by
 rw[countRun0_eq]
 have p1:Pre a₀.size (arrOf st) 1:=⟨λk hk=>by rw[p.2 k (by lia) (by lia)]; lia,λk h3 h4=>p.2 k (by lia) h4⟩
 refine wpS_bind (QC ask hn (Nat.le_refl 1) h1 B p1 (λi j _ _=>by lia) λm m1 m2 hs hp ho=>?_)
 by_cases e:m=n
 .rw[if_pos (by simpa using e)]
  exact wpS_pure (h m st B m1 m2 hs hp)
 .rw[if_neg (by simpa using e)]
  obtain⟨ml,l⟩:=ho.resolve_left e
  have pn:∀ys:Array Keyed,Pre a₀.size ys m->Pre a₀.size ys (m+1):=λys q=>⟨λk hk=>by
   by_cases y:k<m
   .have:=q.1 k y; lia
   .rw[q.2 k (by lia) (by lia)]; lia,λk h3 h4=>q.2 k (by lia) h4⟩
  by_cases g:m > 1
  .rw[if_pos g]
   refine wpS_bind (ask _ _ _ _ B (by lia) (by lia) ?_)
   by_cases r:Kl kf (arrOf st) 0 (m-1)
   .rw[decide_eq_true r]
    exact wpS_pure (h m st B m1 m2 hs hp)
   .rw[decide_eq_false r]
    have z:m<=(arrOf st).size:=by rw[B.sz]; lia
    have all:∀i j,i<j->j<m->Ke kf (arrOf st) i j/\qr (arrOf st) i<qr (arrOf st) j:=λi j hij hj=>by
     have a1:=hs i j hij hj
     have a2:i=0\/Lq kf (arrOf st) 0 i:=by
      by_cases y:i=0
      .exact .inl y
      .exact .inr (hs 0 i (by lia) (by lia))
     have a3:j=m-1\/Lq kf (arrOf st) j (m-1):=by
      by_cases y:j=m-1
      .exact .inl y
      .exact .inr (hs j (m-1) (by lia) (by lia))
     rcases a1 with k1|k1
     .have k2:Kl kf (arrOf st) 0 j:=by
       rcases a2 with y|y
       .rw[y]at k1; exact k1
       .exact Kl.qt y k1
      refine absurd ?_ r
      rcases a3 with y|y
      .rw[y]at k2; exact k2
      .exact k2.tq y
     .exact k1
    have ds:kh kf (arrOf st) m 0:=⟨λi j _ _ hi=>by lia,λi j _ hij hj=>all i j hij hj⟩
    refine wpS_bind (wpS_reverse (QG ask hn (by lia) (B.put (mirror_perm _ _ _ _)) (pn _ (hp.iw z (Nat.le_refl _))) ?_ h))
    have dd:=ds.turn z (by lia)
    have low:∀i,i<m->Kl kf (arrOf st) m i:=λi hi=>by
     by_cases y:i=m-1
     .rw[y]; exact l
     .exact Ke.r l (all i (m-1) (by lia) (by lia)).1.s
    have QH:∀i,i<m->Kl kf (mirror (arrOf st) 0 m ((m-0) / 2)) m i:=λi hi=>by
     rcases iw (i:=0) z m with⟨_,b,_⟩|⟨_,e1⟩
     .lia
     .rcases iw (i:=0) z i with⟨_,_,e2⟩|⟨_,e2⟩
      .rw[zF e1 e2]; exact low _ (by lia)
      .rw[zF e1 e2]; exact low _ hi
    refine⟨λi j hij hj hi=>?_,λi j _ _ _=>by lia⟩
    by_cases y:j<m
    .exact⟨dd i j hij y,λz=>by lia⟩
    .have:j=m:=by lia
     subst this
     exact⟨.inl (QH i hi),λ_=>QH i hi⟩
  .rw[if_neg g]
   have e1:m=1:=by lia
   subst e1
   refine QG ask hn (by lia) B (pn _ hp) ⟨λi j hij hj hi=>?_,λi j _ _ _=>by lia⟩ h
   have i0:i=0:=by lia
   have j1:j=1:=by lia
   subst i0 j1
   exact⟨.inl l,λ_=>l⟩
theorem aeI{st:SortSt}(hn:n<=a₀.size)(h1:1<=ok)(hok:ok<=n)(B:SB a₀ kd st)(p:Pre a₀.size (arrOf st) ok)(d:fK kf (arrOf st) ok)
  (h:∀t,SB a₀ kd t->fK kf (arrOf t) n->Q true t):wpS (model prog w) A E s (binarySort' 0 n ok) Q st:=by
 rw[binarySort'_eq]
 simp only[Nat.zero_add]
 refine wpS_bind (wpS_mono (wpS_forRange (I:=λk c t=>c=(none,())/\SB a₀ kd t/\k<=n/\fK kf (arrOf t) k/\Pre a₀.size (arrOf t) k) (Q:=λc t=>c=(none,())/\SB a₀ kd t/\fK kf (arrOf t) n) ?_ ?_ ?_) ?_)
 .rintro k c t k1 k2 ⟨rfl,B',_,d',p'⟩
  have hk:k<a₀.size:=by lia
  have rk:=p'.2 k (Nat.le_refl _) hk
  refine wpS_bind (wpS_mono (wpS_forRange (I:=λx c u=>u=t/\∃l r,c=(none,l,r)/\l<=r/\r<=k/\r-l<=k-x/\(∀i,i<l->¬Kl kf (arrOf t) k i)/\∀i,r<=i->i<k->Kl kf (arrOf t) k i)
   (Q:=λc u=>u=t/\∃l r,c=(none,l,r)/\l<=k/\(∀i,i<l->¬Kl kf (arrOf t) k i)/\∀i,l<=i->i<k->Kl kf (arrOf t) k i) ?_ ?_ ?_) ?_)
  .rintro x c u _ hx ⟨rfl,l,r,rfl,g1,g2,g3,lo,hi⟩
   dsimp only
   by_cases g:l >= r
   .rw[if_pos g]
    have:l=r:=by lia
    subst this
    exact wpS_pure ⟨rfl,l,l,rfl,g2,lo,hi⟩
   .rw[if_neg g]
    refine wpS_bind (ask _ _ _ _ B' hk (by lia) ?_)
    by_cases le:Kl kf (arrOf u) k ((l+r) / 2)
    .rw[decide_eq_true le]
     refine wpS_pure ⟨rfl,l,(l+r) / 2,rfl,by lia,by lia,by lia,lo,λi h1 h2=>?_⟩
     by_cases y:i=(l+r) / 2
     .rw[y]; exact le
     .exact le.tq (d' ((l+r) / 2) i (by lia) h2)
    .rw[decide_eq_false le]
     refine wpS_pure ⟨rfl,(l+r) / 2+1,r,rfl,by lia,by lia,by lia,λi h1=>?_,hi⟩
     by_cases y:i=(l+r) / 2
     .rw[y]; exact le
     .exact λz=>le (z.tq (d' i ((l+r) / 2) (by lia) (by lia)))
  .rintro c u ⟨rfl,l,r,rfl,g1,g2,g3,lo,hi⟩
   have:l=r:=by lia
   subst this
   exact⟨rfl,l,l,rfl,g2,lo,hi⟩
  .exact⟨rfl,0,k,rfl,by lia,by lia,by lia,λi hi=>by lia,λi g1 g2=>by lia⟩
  .rintro c u ⟨rfl,l,r,rfl,lk,lo,hi⟩
   rw[moveDown'_eq]
   refine wpS_bind (wpS_modify (wpS_pure ⟨rfl,B'.put (bubble_perm _ _ _),k2,?_,?_⟩))
   all_goals
    have ks:k<(arrOf u).size:=by rw[B'.sz]; exact hk
    have bb:=getElem?_bubble ks (k-l) (by lia)
    rw[show k-(k-l)=l by lia]at bb
    have b1:(bubble (arrOf u) k (k-l))[l]?=(arrOf u)[k]? := by rw[bb,if_pos rfl]
    have b2:∀i,l<i->i<=k->(bubble (arrOf u) k (k-l))[i]?=(arrOf u)[i-1]? := λi g1 g2=>by rw[bb,if_neg (by lia),if_pos ⟨g1,g2⟩]
    have b3:∀i,i<l->(bubble (arrOf u) k (k-l))[i]?=(arrOf u)[i]? := λi g1=>by rw[bb,if_neg (by lia),if_neg (by lia)]
    have b4:∀i,k<i->(bubble (arrOf u) k (k-l))[i]?=(arrOf u)[i]? := λi g1=>by rw[bb,if_neg (by lia),if_neg (by lia)]
   .intro i j hij hj
    show Lq kf (bubble (arrOf u) k (k-l)) i j
    rcases Nat.lt_trichotomy i l with y|y|y <;> rcases Nat.lt_trichotomy j l with y'|y'|y'
    .rw[mH (b3 i y) (b3 j y')]; exact d' i j hij (by lia)
    .subst y'
     rw[mH (b3 i y) b1]
     exact Lq.mk (lo i y) (by rw[rk]; exact p'.1 i (by lia))
    .rw[mH (b3 i y) (b2 j y' (by lia))]; exact d' i (j-1) (by lia) (by lia)
    .lia
    .lia
    .subst y
     rw[mH b1 (b2 j y' (by lia))]
     exact .inl (hi _ (by lia) (by lia))
    .lia
    .lia
    .rw[mH (b2 i y (by lia)) (b2 j y' (by lia))]; exact d' _ _ (by lia) (by lia)
   .refine⟨λi hi'=>?_,λi g1 g2=>?_⟩
    .show qr (bubble (arrOf u) k (k-l)) i<_
     rcases Nat.lt_trichotomy i l with y|y|y
     .rw[mG (b3 i y)]; have:=p'.1 i (by lia); lia
     .subst y; rw[mG b1,rk]; lia
     .rw[mG (b2 i y (by lia))]; have:=p'.1 (i-1) (by lia); lia
    .show qr (bubble (arrOf u) k (k-l)) i=_
     rw[mG (b4 i (by lia))]
     exact p'.2 i (by lia) g2
 .rintro c t ⟨rfl,B',kn,d',p'⟩
  refine⟨rfl,B',?_⟩
  rwa[show max (max ok 1) n=n by lia]at d'
 .rw[show max ok 1=ok by lia]
  exact⟨rfl,B,hok,d,p⟩
 .rintro c t ⟨rfl,B',d'⟩
  exact wpS_pure (h t B' d')
theorem aeJ{st:SortSt}(B:SB a₀ kd st)(h2:2<=a₀.size)(h64:a₀.size<64)(p:Pre a₀.size (arrOf st) 0)
  (h:∀t,(arrOf t).Perm a₀ -> failedOf t=none->fK kf (arrOf t) a₀.size->Q () t):wpS (model prog w) A E s sortRuns' Q st:=by
 rw[sortRuns'_eq]
 refine wpS_bind (wpS_get ?_)
 have mr:minRun' (arrOf st).size (arrOf st).size 0=a₀.size:=by
  rw[B.sz]
  obtain⟨f,hf⟩:∃f,a₀.size=f+1:=⟨a₀.size-1,by lia⟩
  have:minRun' (f+1) (f+1) 0=f+1:=by rw[minRun'_succ,if_pos (by lia)]
  rw[hf]; exact this
 dsimp only
 rw[mr,B.sz]
 have fin:∀t,SB a₀ kd t->fK kf (arrOf t) a₀.size->(arrOf (setPending t ((pendingOf t).push (0,a₀.size,0)))).Perm a₀/\failedOf (setPending t ((pendingOf t).push (0,a₀.size,0)))=none/\pendingOf (setPending t ((pendingOf t).push (0,a₀.size,0))) = #[(0,a₀.size,0)]/\fK kf (arrOf (setPending t ((pendingOf t).push (0,a₀.size,0)))) a₀.size :=
  λt B' d'=>⟨B'.pm,B'.fl,by show(pendingOf t).push _=_; rw[B'.pd]; rfl,d'⟩
 refine wpS_bind (wpS_mono (wpS_forRange (I:=λx c t=>(x=0/\c=(none,0)/\SB a₀ kd t/\Pre a₀.size (arrOf t) 0)\/(1<=x/\c=(none,a₀.size)/\(arrOf t).Perm a₀/\failedOf t=none/\pendingOf t = #[(0,a₀.size,0)]/\fK kf (arrOf t) a₀.size))
  (Q:=λc t=>c=(none,a₀.size)/\(arrOf t).Perm a₀/\failedOf t=none/\pendingOf t = #[(0,a₀.size,0)]/\fK kf (arrOf t) a₀.size) ?_ ?_ (.inl ⟨rfl,rfl,B,p⟩)) ?_)
 .rintro x c t _ hx (⟨rfl,rfl,B',p'⟩|⟨hx1,rfl,D⟩)
  .skip
   rw[if_neg (by lia)]
   simp only[Nat.sub_zero,Nat.min_self,Nat.zero_add]
   refine wpS_bind (aeH ask (Nat.le_refl _) (by lia) B' p' λm u B2 m1 m2 d2 p2=>?_)
   show wpS _ _ _ _ (if m<a₀.size then _ else _) _ _
   by_cases g:m<a₀.size
   .rw[if_pos g]
    refine wpS_bind (wpS_lift (wpAny_rule ⟨rfl,?_⟩))
    refine wpS_bind (aeI ask (Nat.le_refl _) m1 m2 B2 p2 d2 λv B3 d3=>?_)
    refine wpS_bind (wpS_get ?_)
    rw[show(pendingOf v).back? = none by rw[B3.pd]; rfl]
    exact wpS_bind (wpS_modify (wpS_pure (.inr ⟨by lia,rfl,fin v B3 d3⟩)))
   .rw[if_neg g]
    have e:m=a₀.size:=by lia
    subst e
    refine wpS_bind (wpS_get ?_)
    rw[show(pendingOf u).back? = none by rw[B2.pd]; rfl]
    exact wpS_bind (wpS_modify (wpS_pure (.inr ⟨by lia,rfl,fin u B2 d2⟩)))
  .skip
   rw[if_pos (Nat.le_refl _)]
   exact wpS_pure ⟨rfl,D⟩
 .rintro c t (⟨hx,_,_⟩|⟨_,hc,D⟩)
  .lia
  .exact⟨hc,D⟩
 .rintro c t ⟨rfl,D⟩
  refine wpS_bind (wpS_mono (wpS_forRange (I:=λ_ c u=>u=t/\c=(none,())) (Q:=λc u=>u=t/\c=(none,())) ?_ (λ_ _ z=>z) ⟨rfl,rfl⟩) ?_)
  .rintro x c u _ _ ⟨rfl,rfl⟩
   refine wpS_bind (wpS_get ?_)
   rw[if_pos (by rw[D.2.2.1]; exact Nat.le_refl 1)]
   exact wpS_pure ⟨rfl,rfl⟩
  .rintro c u ⟨rfl,rfl⟩
   exact wpS_pure (h _ D.1 D.2.1 D.2.2.2)
end
open PySem.W
section
variable {X:Cx}{pins:List (Addr × Obj)}{σ : St}{H:Hp}{s:Shared}
theorem Inv.track(I:Inv X pins σ H s)(f:cH X pins H a)(e:s.heap.get? a=some {cls:=.type "list",data:=.seq its.toArray n }) (r:Vals xs its) (hz:xs.length<=sizeLine):Inv X pins σ (upd H a (.lst xs)) s:=by
 obtain⟨f0,f1,f2,f3,f4,f5⟩:=f
 have ok:bZ X.prog X.w (upd H a (.lst xs)) s.heap:=λb u q=>by
  by_cases hb:b=a
  .subst hb; rw[bJ]at q; cases q; exact⟨hz,its,n,r,e⟩
  .rw[aD hb]at q
   exact(I.hok b u q).stay (λc v _ z=>z) (λc z=>by rw[aD (iW z f0)]; exact z) λc ys z=>by rw[aD (iW z f0)]; exact z
 exact I.step (h':=s.heap) (g':=s.gens) (t':=s.toks) (d':=s.drawn) (ch:=[a]) (λb hb=>by
   have:b=a:=by simpa using hb
   subst this
   exact⟨f3,f1,f4,f5⟩) (λb o _ _ _ q _=>q) (λb o _ _ _ q _=>⟨o.slots,q⟩) (λb o hb _ q=>by rw[aD (by simpa using hb)]; exact q) (λb o _ q=>⟨o,q⟩)
  (λb ys q=>by rw[aD (iW q f0)]; exact q) (λb o u q=>by rw[aD (iW q f0)]; exact q) (λb ps q=>⟨#[],by rw[aD (iW q f0),q]; simp⟩) (λm q=>q) ok I.bare
theorem Inv.sub(I:Inv X pins σ H s)(h:∀p∈m9,p∈pins):Inv X m9 σ H s:=I.xO λp hp=>I.pin p (List.mem_append_right _ (h p hp))
theorem Inv.pR(I:Inv X pins σ H s)(f:cH X pins H a)(e:s.heap.get? a=some o)(d:∀v,o.data ≠ .cell v):Inv X ((a,o)::pins) σ H s:=I.xO λp hp=>by
 rcases List.mem_cons.mp hp with rfl|hp
 .exact⟨e,f.1,f.2.1,f.2.2.1,d⟩
 .exact I.pin p (List.mem_append_right _ hp)
theorem cH.pR(f:cH X pins H b)(n:a≠b):cH X ((a,o)::pins) H b:=⟨f.1,f.2.1,f.2.2.1,f.2.2.2.1,f.2.2.2.2.1,λp hp=>by
 rcases List.mem_append.mp hp with hp|hp
 .exact f.2.2.2.2.2 p (List.mem_append_left _ hp)
 .rcases List.mem_cons.mp hp with rfl|hp
  .exact n
  .exact f.2.2.2.2.2 p (List.mem_append_right _ hp)⟩
theorem Inv.wr(I:Inv X pins σ H s)(f:cH X pins H a):Inv X pins σ H {s with heap:=s.heap.update a (Obj.mapSeq g),toks:=t' }:=by
 obtain⟨f0,f1,f2,f3,f4,f5⟩:=f
 exact I.turned (it:=a) (λb o hb e=>((Heap.SameBut.update s.heap a _).2 b hb).trans e) f0 f1 f3 f4 f5
end
noncomputable instance nfI:NF:=⟨numOf⟩
noncomputable def mJ(n:Nat)(kz:Nat->Int × Int)(ys:List Nat):Prop:=ys.Perm (List.range n)/\ys.Pairwise λi j=>((kz i).1<(kz j).1\/((kz i).1=(kz j).1/\(kz i).2<(kz j).2))\/(((kz i).1=(kz j).1/\(kz i).2=(kz j).2)/\i<j)
structure nO(X:Cx)(Kv:Hp->Value->Int × Int->Prop)(kd:SortKind):Prop where
 kind:∀(H:Hp) (keys:Array Value) (kz:Nat->Int × Int),2<=keys.size->(∀i v,keys[i]?=some v->Kv H v (kz i))->∀{pins σ s Q E},Inv X pins σ H s->Q kd s->wpAny (model X.prog X.w) X.A.in1.in1 (keyKind' keys) Q E s
 ask:∀{pins σ H s} {E:Value->Shared->Prop} (a₀ : Array Keyed) (kf:Value->Int × Int),Inv X pins σ H s->(∀p,p∈a₀.toList->Kv H p.1 (kf p.1))->Asks X.prog X.w X.A.in1.in1 E s a₀ kd kf
section
variable {X:Cx}
theorem QJ:nO X (λ_ v k=>∃t,v=.int k.1 t/\k.2=0) oneType' where
 kind:=λH keys kz h2 hk pins σ s Q E I q=>by
  have hi:IntsAre keys.toList (keys.toList.map numOf):=by
   refine intsAre_map _ λv hv=>?_
   obtain⟨i,hi,e⟩:=List.getElem_of_mem hv
   obtain⟨t,z,_⟩:=hk i v (by rw[<-e]; simp[Array.getElem?_eq_getElem (show i<keys.size by simpa using hi)])
   exact⟨_,t,z⟩
  rw[ksk_kind hi h2]
  exact wpAny_pure q
 ask:=λa₀ kf I h st i j Q B hi hj q=>by
  have h0:IntKeys a₀ := λp hp=>by
   obtain⟨t,z,_⟩:=h p hp
   exact⟨_,t,z⟩
  have B':SBase a₀ st:=⟨B.pm,B.kn,B.fl,B.pd⟩
  have at_:∀i,i<a₀.size->q1 kf (arrOf st) i=K (arrOf st) i/\q2 kf (arrOf st) i=0:=λi hi=>by
   obtain⟨t,p,e⟩:=B'.at h0 hi
   have hi':i<(arrOf st).size:=by rw[B.sz]; exact hi
   have hm:(arrOf st)[i]∈a₀.toList:=(Array.perm_iff_toList_perm.mp B.pm).mem_iff.mp (by simp)
   obtain⟨t',z,z2⟩:=h _ hm
   have e':(arrOf st)[i]?=some (arrOf st)[i]:=getElem?_pos _ i hi'
   have e2:(arrOf st)[i]=(Value.int (K (arrOf st) i) t,p):=by rw[e']at e; exact Option.some.inj e
   rw[e2]at z z2
   unfold q1 q2
   rw[e]
   refine⟨?_,z2⟩
   injection z with z
   exact z.symm
  refine wpS_ltK B' h0 hi hj ?_
  have:decide (Kl kf (arrOf st) i j)=decide (K (arrOf st) i<K (arrOf st) j):=by
   rw[decide_eq_decide]
   unfold Kl
   rw[(at_ i hi).1,(at_ j hj).1,(at_ i hi).2,(at_ j hj).2]
   lia
  rw[this]at q
  exact q
end
section
variable {X:Cx}{pins:List (Addr × Obj)}{σ : St}{H:Hp}{s:Shared}{Kv:Hp->Value->Int × Int->Prop}{kd:SortKind}{a kS:Addr}{n:Nat}{kz:Nat->Int × Int}{vs:List Value}
theorem QK{st:SortSt}(I:Inv X pins σ H s)(fk:cH X pins H kS)(fa:cH X pins H a)(ne:kS≠a)(hk:s.heap.get? kS=some (seqObj "list" keys e)) (ha:s.heap.get? a=some (seqObj "list" #[] e1)) (hks:keys.size<=64) (hst:(arrOf st).size<=64) (fl:failedOf st=none)
  (h:∀s' c,Inv X pins σ H s'->s'.heap.get? a=some (seqObj "list" ((arrOf st).map (·.2)) c)->P (.done (.ret .none)) s'):wpAny (model X.prog X.w) X.A.in1.in1 (ksk_tail a false e1 (.ref kS) st) P E s:=by
 refine wpAny_bind (listUpdate_at hk rfl ?_ (by rw[sizeLine_eq]; lia) (Nat.zero_le _))
 refine wpAny_bind (wpAny_letGo ?_)
 have I1:=I.wr (g:=λ_=>#[]) (t':=s.toks) fk
 have ha1:(s.heap.update kS (Obj.mapSeq λ_=>(#[]:Array Value))).get? a=some (seqObj "list" #[] e1):=((Heap.SameBut.update s.heap kS _).2 a (Ne.symm ne)).trans ha
 refine wpAny_bind (seqEpoch_at ha1 rfl ?_)
 refine wpAny_bind (listUpdate_at ha1 rfl ?_ (Nat.zero_le _) (by simp only[Bool.false_eq_true,if_false,Array.size_map]; rw[sizeLine_eq]; lia))
 rw[fl]
 simp only[bne_self_eq_false,Bool.false_eq_true,if_false]
 exact wpAny_pure (h _ _ (I1.wr (t':=s.toks) fa) (get?_update_seq ha1 _))
theorem aeK(T:nO X Kv kd)(I:Inv X pins σ H s)(fk:cH X pins H kS)(fa:cH X pins H a)(ne:kS≠a)(hk:s.heap.get? kS=some (seqObj "list" keys e)) (ha:s.heap.get? a=some (seqObj "list" #[] e1))
  (hv:∀(i:Nat) (v:Value),vs[i]?=some v->∃t,v=Value.int i t) (hl:vs.length=n) (hkn:keys.size=n) (h64:n<64) (hK:∀i v,keys[i]?=some v->Kv H v (kz i)) (inj:∀v k k',Kv H v k->Kv H v k'->k=k')
  (h:∀s' c out,Inv X pins σ H s'->s'.heap.get? a=some (seqObj "list" out c)->(∃ys,mJ n kz ys/\Vals (ys.map λi:Nat=>V.int i) out.toList)->P (.done (.ret .none)) s'):wpAny (model X.prog X.w) X.A.in1.in1 (ksk_end a false vs.toArray e1 (.ref kS) keys) P E s:=by
 have rQ:(keys.zip vs.toArray).size=n:=by rw[Array.size_zip,hkn,List.size_toArray,hl,Nat.min_self]
 have uY:∀i,i<n->∃v t,(keys.zip vs.toArray)[i]?=some (v,.int i t)/\Kv H v (kz i):=λi hi=>by
  obtain⟨t,e2⟩:=hv i vs[i] (by simp[hl,hi])
  have e1:keys[i]?=some keys[i]:=getElem?_pos _ _ (by lia)
  refine⟨keys[i],t,?_,hK i _ e1⟩
  rw[<-Array.getElem?_toList,ksk_zip,List.getElem?_zip_eq_some]
  refine⟨by simp[Array.getElem?_toList,e1],?_⟩
  show vs[i]?=some (Value.int i t)
  rw[List.getElem?_eq_getElem (by lia),e2]
 -- what the sorted array says
 have fin:∀(kf:Value->Int × Int) (xs:Array Keyed),(∀(i:Nat) v t,(keys.zip vs.toArray)[i]?=some (v,Value.int i t)->kf v=kz i)->xs.Perm (keys.zip vs.toArray)->fK kf xs n->∃ys,mJ n kz ys/\Vals (ys.map λi:Nat=>V.int i) (xs.map (·.2)).toList:=λkf xs hkf hp hs=>by
  have hpl:=Array.perm_iff_toList_perm.mp hp
  have mem:∀p∈xs.toList,∃i t,i<n/\p.2=.int (i:Nat) t/\kf p.1=kz i:=λp hp'=>by
   obtain⟨i,hi,e⟩:=List.getElem_of_mem (hpl.mem_iff.mp hp')
   have hi':i<n:=by rw[Array.length_toList,rQ]at hi; exact hi
   obtain⟨v,t,e1,_⟩:=uY i hi'
   have e2:(keys.zip vs.toArray)[i]?=some p:=by rw[<-Array.getElem?_toList,List.getElem?_eq_getElem hi,e]
   rw[e1]at e2
   cases e2
   exact⟨i,t,hi',rfl,hkf i v t e1⟩
  refine⟨xs.toList.map λp=>(numOf p.2).toNat,⟨?_,?_⟩,?_⟩
  .have h1:=hpl.map λp:Keyed=>(numOf p.2).toNat
   refine h1.trans (List.Perm.of_eq ?_)
   refine List.ext_getElem? λi=>?_
   by_cases hi:i<n
   .obtain⟨v,t,e1,_⟩:=uY i hi
    rw[List.getElem?_map,Array.getElem?_toList,e1,List.getElem?_range hi]
    simp[numOf]
   .rw[List.getElem?_eq_none (by simp[rQ]; lia),List.getElem?_eq_none (by simp; lia)]
  .rw[List.pairwise_map,List.pairwise_iff_getElem]
   intro i j hi hj hij
   have sz:xs.size=n:=by rw[hp.size_eq,rQ]
   have hi':i<xs.size:=by simpa using hi
   have hj':j<xs.size:=by simpa using hj
   have z:=hs i j hij (by lia)
   obtain⟨a1,t1,_,b1,c1⟩:=mem _ (List.getElem_mem hi)
   obtain⟨a2,t2,_,b2,c2⟩:=mem _ (List.getElem_mem hj)
   have x1:xs[i]?=some xs.toList[i]:=by rw[<-Array.getElem?_toList,List.getElem?_eq_getElem hi]
   have x2:xs[j]?=some xs.toList[j]:=by rw[<-Array.getElem?_toList,List.getElem?_eq_getElem hj]
   unfold Lq Kl Ke q1 q2 qr at z
   rw[x1,x2]at z
   dsimp only at z
   rw[b1,b2,c1,c2]at z
   rw[b1,b2]
   simp only[NF.f,nfI,numOf,Int.toNat_natCast]at z ⊢
   lia
  .rw[Array.toList_map,List.map_map]
   have go:∀l:List Keyed,(∀p∈l,∃i t,i<n/\p.2=.int (i:Nat) t/\kf p.1=kz i)->Vals (l.map ((λi:Nat=>V.int i) ∘ λp:Keyed=>(numOf p.2).toNat)) (l.map (·.2)):=λl=>by
    induction l with
    |nil=>intro _; exact .nil
    |cons p r ih =>
     intro hm
     refine .cons ?_ (ih λq hq=>hm q (List.mem_cons_of_mem _ hq))
     obtain⟨i,t,_,e,_⟩:=hm p (List.mem_cons_self ..)
     exact⟨t,by simp[e,numOf]⟩
   exact go _ mem
 -- a function of the keys
 obtain⟨kf,hkf⟩:∃kf:Value->Int × Int,∀v k,Kv H v k->kf v=k:=by
  classical
  refine⟨λv=>if q:∃k,Kv H v k then q.choose else(0,0),λv k hk=>?_⟩
  have q:∃k,Kv H v k:=⟨k,hk⟩
  dsimp only
  rw[dif_pos q]
  exact inj v _ _ q.choose_spec hk
 have QL:∀(i:Nat) v t,(keys.zip vs.toArray)[i]?=some (v,Value.int i t)->kf v=kz i:=λi v t e=>by
  have hi:i<n:=by
   have:=(Array.getElem?_eq_some_iff.mp e).1
   lia
  obtain⟨v',t',e1,q⟩:=uY i hi
  rw[e1]at e
  cases e
  exact hkf _ _ q
 unfold ksk_end
 simp only[Bool.false_eq_true,if_false]
 rw[List.size_toArray,hl]
 by_cases h2:n<2
 .rw[if_pos h2,if_pos h2]
  refine wpAny_bind (wpAny_pure ?_)
  rw[StateT.run_pure]
  refine wpAny_bind (wpAny_pure ?_)
  refine QK (st:=SortSt.mk' general' (keys.zip vs.toArray) #[] 7 none) I fk fa ne hk ha (by lia) (by show(keys.zip vs.toArray).size<=64; lia) rfl λs' c I' e'=>h s' c _ I' e' (fin kf _ QL (Array.Perm.refl _) λi j hij hj=>by lia)
 .rw[if_neg h2,if_neg h2]
  refine wpAny_bind (T.kind H keys kz (by lia) hK I ?_)
  have ask:=T.ask (E:=E) (s:=s) (keys.zip vs.toArray) kf I (λp hp=>by
   obtain⟨i,hi,e⟩:=List.getElem_of_mem hp
   have hi':i<n:=by rw[Array.length_toList,rQ]at hi; exact hi
   obtain⟨v,t,e1,q⟩:=uY i hi'
   have e2:(keys.zip vs.toArray)[i]?=some p:=by rw[<-Array.getElem?_toList,List.getElem?_eq_getElem hi,e]
   rw[e1]at e2
   cases e2
   rw[hkf _ _ q]
   exact q)
  have B:SB (keys.zip vs.toArray) kd (SortSt.mk' kd (keys.zip vs.toArray) #[] 7 none):=⟨Array.Perm.refl _,rfl,rfl,rfl⟩
  have p0:Pre (keys.zip vs.toArray).size (arrOf (SortSt.mk' kd (keys.zip vs.toArray) #[] 7 none)) 0:=⟨λk hk=>by lia,λk _ hk=>by
   obtain⟨v,t,e1,_⟩:=uY k (by lia)
   show qr (keys.zip vs.toArray) k=k
   unfold qr
   rw[e1]
   rfl⟩
  refine wpAny_bind (wpAny_mono (aeJ (Q:=λ_ t=>(arrOf t).Perm (keys.zip vs.toArray)/\failedOf t=none/\fK kf (arrOf t) (keys.zip vs.toArray).size) ask B (by lia) (by lia) p0 λt a1 a2 a3=>⟨a1,a2,a3⟩) ?_ λ_ _ z=>z)
  rintro⟨⟨⟩,t⟩ s' ⟨rfl,hp,hf,hs⟩
  rw[rQ]at hs
  exact QK I fk fa ne hk ha (by lia) (by rw[hp.size_eq,rQ]; lia) hf λs' c I' e'=>h s' c _ I' e' (fin kf _ QL hp hs)
end
section
variable {X:Cx}{pins:List (Addr × Obj)}{σ : St}{H:Hp}{s:Shared}{Kv:Hp->Value->Int × Int->Prop}{kd:SortKind}{n:Nat}{kz:Nat->Int × Int}{vs:List Value}{f:Value}
theorem cH.up(h:cH X pins H b)(e:H' b=none):cH X pins H' b:=⟨e,h.2⟩
noncomputable def Gi(X:Cx)(pins:List (Addr × Obj))(σ : St)(H:Hp)(Kv:Hp->Value->Int × Int->Prop)(n:Nat)(kz:Nat->Int × Int)(f:Value):Prop :=
 ∀(m9:List (Addr × Obj)) (i:Nat) (t:Tok) (s':Shared) (H':Hp),i<n->(∀p∈pins,p∈m9)->Same H H'->Inv X m9 σ H' s' ->
  wpAny (model X.prog X.w) X.A.in1.in1 (call f [.int i t]) (λv s''=>∃dZ,Same H' dZ/\Kv dZ v (kz i)/\Inv X m9 σ dZ s'') (λ_ _=>False) s'
theorem aeL(T:nO X Kv kd)(mono:∀{H H':Hp} {v k},Same H H'->Kv H v k->Kv H' v k)(inj:∀{pins:List (Addr × Obj)} {σ : St} {H:Hp} {s:Shared},Inv X pins σ H s->∀v k k',Kv H v k->Kv H v k'->k=k')
  (I:Inv X pins σ H s) (fk:cH X pins H kS) (fa:cH X pins H a) (ne:kS≠a) (hk:s.heap.get? kS=some (seqObj "list" #[] 0)) (ha:s.heap.get? a=some (seqObj "list" #[] e1))
  (hv:∀(i:Nat) (v:Value),vs[i]?=some v->∃t,v=Value.int i t) (hl:vs.length=n) (h64:n<64) (key:Gi X pins σ H Kv n kz f)
  (h:∀s' c out H',Same H H'->H' a=none->Inv X pins σ H' s'->s'.heap.get? a=some (seqObj "list" out c)->(∃ys,mJ n kz ys/\Vals (ys.map λi:Nat=>V.int i) out.toList)->P (.done (.ret .none)) s') :
  wpAny (model X.prog X.w) X.A.in1.in1 (ksk_rest a f false vs.toArray e1 (.ref kS)) P E s:=by
 unfold ksk_rest
 refine wpAny_bind (wpAny_rule ?_)
 rw[<-Array.forIn_toList]
 refine wpAny_bind (ksk_fold (λi s'=>∃H' kA e,Same H H'∧H' kS=none∧H' a=none∧Inv X pins σ H' s'∧s'.heap.get? kS=some (seqObj "list" kA e)∧s'.heap.get? a=some (seqObj "list" #[] e1)∧kA.size=i∧∀(j:Nat) v,kA[j]?=some v→Kv H' v (kz j)) vs 0 s
  ⟨H,#[],0,Same.refl _,fk.1,fa.1,I,hk,ha,rfl,λj v z=>by simp at z⟩ ?_ ?_)
 .rintro j x s' hx ⟨H',kA,e,sm,nk,na,I',hk',ha',sz,hK⟩
  rw[Nat.zero_add]at sz ⊢
  have hj:j<vs.length:=(List.getElem?_eq_some_iff.mp hx).1
  obtain⟨t,rfl⟩:=hv j x hx
  have fk':=fk.up nk
  have nQ:=fa.up na
  have I2:=(I'.pR nQ ha' (λv z=>by cases z)).pR (fk'.pR (Ne.symm ne)) hk' (λv z=>by cases z)
  refine wpAny_bind (wpAny_attempt (wpAny_mono (key _ j t s' H' (by lia) (λp hp=>List.mem_cons_of_mem _ (List.mem_cons_of_mem _ hp)) sm I2) (λv s'' he=>?_) λ_ _ z=>z.elim))
  obtain⟨dZ,QM,kv,I3⟩:=he
  have p1:=I3.pin (kS,seqObj "list" kA e) (List.mem_append_right _ (List.mem_cons_self ..))
  have p2:=I3.pin (a,seqObj "list" #[] e1) (List.mem_append_right _ (List.mem_cons_of_mem _ (List.mem_cons_self ..)))
  have I4:=I3.sub λp hp=>List.mem_cons_of_mem _ (List.mem_cons_of_mem _ hp)
  refine wpAny_bind (listUpdate_at p1.1 rfl ?_ (by rw[sizeLine_eq]; lia) (Nat.le_trans (Nat.le_of_eq (Array.size_push ..)) (by rw[sizeLine_eq]; lia)))
  refine wpAny_pure ⟨rfl,dZ,kA.push v,_,sm.trans QM,p1.2.1,p2.2.1,I4.wr (t':=s''.toks) (fk.up p1.2.1),get?_update_seq p1.1 _,((Heap.SameBut.update s''.heap kS _).2 a (Ne.symm ne)).trans p2.1,by rw[Array.size_push,sz],λi u q=>?_⟩
  rw[Array.getElem?_push]at q
  split at q
  .rename_i z
   cases q
   rw[z,sz]
   exact kv
  .exact mono QM (hK i u q)
 .rintro s' ⟨H',kA,e,sm,nk,na,I',hk',ha',sz,hK⟩
  refine wpAny_bind (listItems_at hk' rfl ?_)
  exact aeK T I' (fk.up nk) (fa.up na) ne hk' ha' hv hl (by lia) h64 hK (inj I') λs'' c out Gj e'' q=>h s'' c out H' sm na Gj e'' q
theorem aeM(T:nO X Kv kd)(mono:∀{H H':Hp} {v k},Same H H'->Kv H v k->Kv H' v k)(inj:∀{pins:List (Addr × Obj)} {σ : St} {H:Hp} {s:Shared},Inv X pins σ H s->∀v k k',Kv H v k->Kv H v k'->k=k')
  (I:Inv X pins σ H s) (fa:cH X pins H a) (ha:s.heap.get? a=some (seqObj "list" vs.toArray c0))
  (hv:∀(i:Nat) (v:Value),vs[i]?=some v->∃t,v=Value.int i t) (hl:vs.length=n) (h64:n<64) (key:Gi X pins σ H Kv n kz f)
  (h:∀s' c out H',Same H H'->H' a=none->Inv X pins σ H' s'->s'.heap.get? a=some (seqObj "list" out c)->(∃ys,mJ n kz ys/\Vals (ys.map λi:Nat=>V.int i) out.toList)->P (.done (.ret .none)) s') :
  wpAny (model X.prog X.w) X.A.in1.in1 (ksk_tree a f false) P E s:=by
 refine wpAny_bind (listItems_at ha rfl ?_)
 refine wpAny_bind (listUpdate_at ha rfl ?_ (by rw[List.size_toArray,sizeLine_eq]; lia) (Nat.zero_le _))
 have I1:=I.wr (g:=λ_=>#[]) (t':=s.toks) fa
 obtain⟨e1,ha1⟩:∃e1,(s.heap.update a (Obj.mapSeq λ_=>(#[]:Array Value))).get? a=some (seqObj "list" #[] e1):=⟨_,get?_update_seq ha _⟩
 refine wpAny_bind (seqEpoch_at ha1 rfl ?_)
 refine wpAny_bind (wpAny_newTuple ?_ (by show vs.toArray.toList.length<=_; rw[List.toList_toArray,sizeLine_eq]; lia))
 refine wpAny_bind (wpAny_newList ?_ (Nat.zero_le _))
 have I2:Inv X pins σ H {s with heap:=(s.heap.update a (Obj.mapSeq λ_=>(#[]:Array Value))).push {cls:=.type "tuple",data:=.seq vs.toArray.toList.toArray } }:=I1.kept (t':=s.toks) λb o e=>Heap.get?_push_of_some _ e
 have I3:Inv X pins σ H {s with heap:=((s.heap.update a (Obj.mapSeq λ_=>(#[]:Array Value))).push {cls:=.type "tuple",data:=.seq vs.toArray.toList.toArray }).push {cls:=.type "list",data:=.seq ([]:List Value).toArray } }:=I2.kept (t':=s.toks) λb o e=>Heap.get?_push_of_some _ e
 have lt:a<((s.heap.update a (Obj.mapSeq λ_=>(#[]:Array Value))).push {cls:=.type "tuple",data:=.seq vs.toArray.toList.toArray }).objs.size:=by
  rw[size_push',Heap.size_update]
  exact Nat.lt_succ_of_lt (Heap.lt_size ha)
 refine wpAny_holding ?_
 exact aeL T mono inj I3 (I2.lR (Nat.le_refl _) (I2.hok.fresh (Nat.le_refl _))) fa (Nat.ne_of_gt lt) (Heap.get?_push_size _ rfl) (Heap.get?_push_of_some _ (Heap.get?_push_of_some _ ha1)) hv hl h64 key h
theorem aeN(hh:A.handled=none)(hr:IsRange s.heap r 0 n 1 t u v)(hn:n<=1000)
  (h:∀h' tk (vs:List Value),(∀b o,s.heap.get? b=some o->h'.get? b=some o)->vs.length=n->(∀(i:Nat) (v:Value),vs[i]?=some v->∃t,v=Value.int i t)->Q vs {s with heap:=h',toks:=tk }) :
  wpAny (model P w) A (collect (.ref r)) Q E s:=by
 refine wpAny_bind (wpAny_runValue (codeAny_builtin F.entry_proto_collect ?_))
 refine wpAny_bind (wpAny_newList ?_ (Nat.zero_le _))
 refine wpAny_pure ⟨plainId_quiet F.plain_list_iadd _,codeAny_builtin F.entry_list_iadd ?_⟩
 have sz1:Builtin.Range.rangeSize 0 (n:Int) 1=n:=by rw[rangeSize_one]; split <;> lia
 have keep:∀b o,s.heap.get? b=some o->(s.heap.push {cls:=.type "list",data:=.seq ([]:List Value).toArray }).get? b=some o:=λb o e=>Heap.get?_push_of_some _ e
 refine wpAny_extend_range (A:=A) (R:=λr s'=>match r with
  | Except.ok (Flow.ret v)=>wpAny (model P w) A (match v with
   |Value.ref a=>do
    let __do_lift <-load a
    match __do_lift.data with
     |Data.seq xs epoch=>pure xs.toList
     |x=>unsupported "internal:collect"
   |x=>unsupported "internal:collect") Q E s'
  |Except.ok a=>False
  |Except.error e=>E e s') (s:={s with heap:=s.heap.push {cls:=.type "list",data:=.seq ([]:List Value).toArray } }) hh (keep _ _ hr) (small_one (by lia) (by lia) (by lia) (by lia)) sz1 (by lia) s.heap.objs.size (.ref s.heap.objs.size) 0 (Heap.get?_push_size _ rfl) λh' tk acc c hk hS hi=>?_
 refine wpAny_bind (wpAny_load hS ?_)
 refine wpAny_pure (h h' tk acc.toList (λb o e=>hk b o (Nat.ne_of_lt (Heap.lt_size e)) (keep b o e)) (by rw[Array.length_toList]; exact hi.1) λi v e=>?_)
 rw[Array.getElem?_toList]at e
 obtain⟨t,z⟩:=hi.2 i v e
 exact⟨t,by rw[z]; simp⟩
theorem aeO(T:nO X Kv kd)(mono:∀{H H':Hp} {v k},Same H H'->Kv H v k->Kv H' v k)(inj:∀{pins:List (Addr × Obj)} {σ : St} {H:Hp} {s:Shared},Inv X pins σ H s->∀v k k',Kv H v k->Kv H v k'->k=k')
  (I:Inv X pins σ H s) (hh:X.A.handled=none) (hr:IsRange s.heap r 0 n 1 t u v) (h64:n<64) (key:Gi X pins σ H Kv n kz (.ref q))
  (h:∀s' D ys H',Same H H'->H' D=none->Inv X pins σ (upd H' D (.lst (ys.map λi:Nat=>V.int i))) s'->mJ n kz ys->Q (.ref D) s') :
  wpAny (model X.prog X.w) X.A (call (.builtin "sorted") [.ref r] [(Str.ofString "key",.ref q)]) Q E s:=by
 refine call_function_entry_kw kind_sorted plain_sorted entry_sorted (ksk_s1 _ _) ?_
 refine wpAny_bind (m:=checkCount "sorted" 1 1 _) (wpAny_pure ?_)
 refine wpAny_bind (aeN (A:=X.A.in1) hh hr (by lia) λh1 tk vs keep hl hv=>?_)
 have I1:Inv X pins σ H {s with heap:=h1,toks:=tk }:=I.kept keep
 refine wpAny_bind (wpAny_newList ?_ (by rw[sizeLine_eq]; lia))
 have I2:Inv X pins σ H {s with heap:=h1.push {cls:=.type "list",data:=.seq vs.toArray },toks:=tk }:=I1.kept (t':=tk) λb o e=>Heap.get?_push_of_some _ e
 have ha:(h1.push {cls:=.type "list",data:=.seq vs.toArray }).get? h1.objs.size=some (seqObj "list" vs.toArray 0):=Heap.get?_push_size _ rfl
 refine wpAny_bind (wpAny_holding (wpAny_call_entry_kw slot_list_sort ⟨_,ha,rfl⟩ entry_list_sort ?_ (ksk_l1 _ _)))
 rw[ksk_t1]
 have fa:=I1.lR (Nat.le_refl _) (I1.hok.fresh (Nat.le_refl _))
 refine aeM T mono inj I2 fa ha hv hl h64 key λs' c out H' sm na I' e' ⟨ys,hs,hv'⟩=>⟨_,rfl,?_⟩
 refine wpAny_pure ⟨_,rfl,h s' _ ys H' sm na (I'.track (its:=out.toList) (n:=c) (fa.up na) e' hv' ?_) hs⟩
 have:=hs.1.length_eq
 rw[List.length_map,this,List.length_range,sizeLine_eq]
 lia
end
noncomputable def zG(X:Cx)(A:Around)(N:List Str)(qual:Str)(scope:Scope)(f:Addr)(cd:Value)(s:Shared)(H:Hp):Cx where
 prog:=X.prog
 w:=X.w
 K:=X.K
 mg:=X.mg
 base:=X.base
 A:=A.deeper (envX qual scope s.heap.objs.size f cd (bW X.env.cells scope.names []))
 N:=N
 s₀ := s
 H₀ := H
 env:=envX qual scope s.heap.objs.size f cd (bW X.env.cells scope.names [])
 outer:=X.stack
 stack:=envX qual scope s.heap.objs.size f cd (bW X.env.cells scope.names [])::X.stack
 ex:=[]
 fn:=λ_=>false
 calm:=true
 pn:=[]
 xe:=λ_ _=>False
structure zH(sc:Scope)(No:List Str)(x:Str)(Ns:List Str)(src:List (Option Nat))(scope:Scope):Prop where
 c:rC sc No (x::Ns) (none::src) scope
 QS:∀y∈scope.names,y.2 ≠ .cell
 par:scope.names.lookup x=some .local
 co:scope.isCoroutine=false
 gen:scope.isGenerator=false
section
variable {X:Cx}{pins:List (Addr × Obj)}{σ : St}{H:Hp}{s:Shared}{sc scope:Scope}{No Ns:List Str}{src:List (Option Nat)}{x qual:Str}
theorem aeP(hsc:X.env.scope=sc)(jc:X.N=No)(S:zH sc No x Ns src scope)(hfr:A.frames=some X.stack)(hhd:A.handled=none)(I:Inv X pins σ H s)(rv:RelV v u)
  (hns:h₁.Ns s.heap.objs.size (λy=>([(x,u)]:List (Str × Value)).reverse.lookup y)) (old:∀b o,s.heap.get? b=some o->h₁.get? b=some o) :
  Inv (zG X A (x::Ns) qual scope f cd s H) [] (some v::cY src σ) H {s with heap:=h₁,toks:=tk }:=by
 subst hsc
 subst jc
 have uZ:∀x c,(bW X.env.cells scope.names []).lookup x=some c->X.env.cells.lookup x=some c:=λx c h=>by
  rcases pD h with q|q
  .simp at q
  .exact q
 refine⟨⟨I.ok.mod,S.c.kind,rfl,rfl,Nat.le_refl _,λx y c h1 h2=>I.ok.inj x y c (uZ _ _ h1) (uZ _ _ h2),λy hy=>?_,λx c h=>(Bool.false_ne_true h).elim,λ_=>hhd,Around.frames_deeper hfr,.inr ⟨rfl,rfl⟩,λb hb=>absurd (show b∈([]:List Addr)from hb) (by simp),
   I.bs,Nat.le_trans I.ok.jF I.sz,λb o e=>by intro hb; exact absurd (show b∈([]:List Addr)from hb) (by simp),λb hb=>absurd (show b∈([]:List Addr)from hb) (by simp),I.stack,I.xK⟩,
  rfl,I.bare,Un.kept old,⟨_,hns,λi y w' h1 h2 h3=>?_⟩,λy c e=>?_,I.hok.fresh (Nat.le_refl _),λy c e=>I.jG y c (uZ y c e),λp hp=>absurd (show p∈([]:List (Addr × Obj))from hp) (by simp),I.hok.kept old,?_⟩
 .skip
  have m:(y,NameKind.free)∈scope.names:=by
   rcases hy with z|z
   .exact absurd rfl (S.QS _ (PySem.mem_of_lookup z))
   .exact PySem.mem_of_lookup z
  have q:=pG (cells:=X.env.cells) (acc:=[]) (.inr ⟨m,by
   obtain⟨c,e⟩:=I.ok.has y (S.c.free _ m rfl)
   rw[e]; rfl⟩)
  exact Option.isSome_iff_exists.mp q
 .cases i with
  |zero =>
   have h1:some x=some y:=h1
   cases h1
   cases h2
   exact⟨u,rv,.inl ⟨S.par,by show([(x,u)]:List (Str × Value)).reverse.lookup x=some u; simp⟩⟩
  |succ i =>
   have h1:Ns[i]?=some y:=h1
   have h2:(cY src σ)[i]?=some (some w'):=h2
   have hi:i<src.length:=by
    unfold cY at h2
    have:=(List.getElem?_eq_some_iff.mp h2).1
    simpa using this
   have h2':((src[i]).bind λj=>(σ[j]?).join)=some w':=by
    unfold cY at h2
    rw[List.getElem?_map,List.getElem?_eq_getElem hi]at h2
    exact Option.some.inj h2
   cases es:src[i]with
   |none=>rw[es]at h2'; cases h2'
   |some j =>
    rw[es]at h2'
    have hj : σ[j]?=some (some w'):=by
     have z:(σ[j]?).join=some w':=h2'
     cases q : σ[j]? with
     |none=>rw[q]at z; cases z
     |some o=>rw[q]at z; have z':o=some w':=z; rw[z']
    have hz:(y,some j)∈(x::Ns).zip (none::src):=by
     refine List.mem_of_getElem? (i:=i+1) ?_
     rw[List.getElem?_zip_eq_some]
     exact⟨by simpa using h1,by simp[List.getElem?_eq_getElem hi,es]⟩
    obtain⟨u1,u2⟩:=S.c.up _ hz j rfl
    have m:(y,NameKind.free)∈scope.names:=PySem.mem_of_lookup u2
    have kx:=S.c.free _ m rfl
    obtain⟨m0,hn0,hl0⟩:=id I.loc
    obtain⟨u',r,lk⟩:=hl0 j y w' u1 hj (kx.elim (λz=>.inr (.inl z)) λz=>.inr (.inr z))
    refine⟨u',r,?_⟩
    rcases lk with⟨k,_⟩|⟨_,c,e,ic⟩
    .have k':X.env.scope.names.lookup y=some .local:=k
     rcases kx with z|z <;> (rw[z]at k'; cases k')
    .refine .inr ⟨.inr u2,c,?_,?_⟩
     .have q:=pG (cells:=X.env.cells) (acc:=[]) (.inr ⟨m,by rw[e]; rfl⟩)
      obtain⟨c',e'⟩:=Option.isSome_iff_exists.mp q
      have e2:=uZ y c' e'
      rw[e]at e2; cases e2
      exact e'
     .obtain⟨o,ho,hd⟩:=ic
      exact⟨o,old _ _ ho,hd⟩
 .obtain⟨v,o,ho,hd⟩:=I.cell y c (uZ y c e)
  exact⟨v,o,old _ _ ho,hd⟩
 .have:=S.c.len
  show _=(x::Ns).length
  rw[List.length_cons]at this ⊢
  rw[List.length_cons]
  unfold cY
  rw[List.length_map]
  exact this
theorem aeQ(hsc:X.env.scope=sc)(jc:X.N=No)(S:zH sc No x Ns src scope)(hfr:A.frames=some X.stack)(hhd:A.handled=none)(hroom:A.depth<recursionLimit)
  (I:Inv X pins σ H s) (ho:s.heap.get? f=some (kla_obj "<lambda>" qual params body scope (bW X.env.cells scope.names []) pm c' ctv)) (hcd:s.heap.CodeRec (.ref c') qual) (rv:RelV v u)
  (hbind:bindArgs (kla_fn "<lambda>" qual params body scope (bW X.env.cells scope.names []) pm (.ref c') ctv) ⟨[u],[]⟩=pure [(x,u)])
  (he:∀s H,PE (zG X A (x::Ns) qual scope f (.ref c') s H) body te) (hq:te (some v::cY src σ) H Q):wpAny (model X.prog X.w) A (call (.ref f) [u]) (EP X pins σ Q) E s:=by
 refine wpAny_call (kla_callFunE hroom ho rfl S.co S.gen rfl hcd ?_)
 rw[hbind]
 refine wpAny_pure (wpAny_newFunctionEnv S.QS (λy hy=>?_) (λh₁ hns hsb=>⟨I.nolimit.fresh _ hsb,?_⟩) S.c.kind)
 .have:y=(x,u):=by simpa using hy
  subst this
  exact S.par
 have old:=λb o e=>hsb.extBut b o (Nat.ne_of_lt (Heap.lt_size e)) (Heap.get?_push_of_some _ e)
 have J:=aeP (A:=A) (f:=f) (cd:=.ref c') (qual:=qual) (tk:=s.toks+[(x,u)].length) hsc jc S hfr hhd I rv hns old
 refine kla_codeExpr (wpAny_mono (he s H [] _ _ H Q J hq) (λw' s' hw=>?_) λ_ _ z=>z.elim)
 obtain⟨v',H',J',r',q'⟩:=hw
 exact⟨v',H',I.call' (ch:=[]) J'.os J'.base J'.hok J'.bare (λb hb=>absurd hb (by simp)),r',q'⟩
end
noncomputable def mK(mg:Str→Option Value)(base:Heap):Prop:=∃bm ob,mg "__builtins__" = some (.ref bm)∧bm≠builtinsNs∧bm≠mainGlobals∧base.get? bm=some ob∧ob.cls=.type "module" ∧ ob.dict=some builtinsNs∧ob.data=.plain
theorem QT:∀{l:List Value},TriplesOk l->TriplesOk (l++[.int a t,.int b u,c])
 | [],_=>trivial
 |.int _ _ :: .int _ _::_::r,h=>QT (l:=r) h
theorem QV:∀{l:List Value},TriplesOk l->codeAmong pos (l++[.int a t,.int b u,c])=some v->codeAmong pos l=some v\/v=c
 | [],_,h=>by
  have h:(if _ then some c else none)=some v:=h
  split at h
  .cases h; exact .inr rfl
  .cases h
 |.int x _ :: .int y _::z::r,o,h=>by
  have h:(if(x == pos.line&&y == pos.col)=true then some z else codeAmong pos (r++[.int a t,.int b u,c]))=some v:=h
  show(if(x == pos.line&&y == pos.col)=true then some z else codeAmong pos r)=some v\/_
  split at h
  .rename_i q
   rw[if_pos q]
   exact .inl h
  .rename_i q
   rw[if_neg q]
   exact QV (l:=r) o h
section
variable {X:Cx}{pins:List (Addr × Obj)}{σ : St}{H:Hp}{s:Shared}{sc scope:Scope}{No Ns:List Str}{src:List (Option Nat)}{x:Str}
structure zJ(P:Addr)(q:Str)(H H':Hp):Prop where
 kp:∀b o,H b=some o->b≠P->H' b=some o
 tb:∃ps,H' P=some (.bO ps)/\yO H' q ps
theorem aeR(hsc:X.env.scope=sc)(S:zH sc No x Ns src scope)(hcode:X.env.code=.ref c)(C:CodeHd X.base c P)(B:mK X.mg X.base)
  (hdef:defaultsOf params X.env=([],[])) (I:Inv X pins σ H s) (hP:H P=some (.bO ps)) (ok:yO H (X.env.qual++("<lambda>" : Str)) ps)
  (h:∀f c' ctv pm H' s' oc,zJ P (X.env.qual++("<lambda>" : Str)) H H'→Inv X ((f,kla_obj "<lambda>" (X.env.qual++("<lambda>" : Str)) params body scope (bW X.env.cells scope.names []) pm c' ctv)::pins) σ H' s'→H' c'=some (.cO oc (.own 0))→Qi oc (X.env.qual++("<lambda>" : Str))→Q (.ref f) s') :
  wpAny (model X.prog X.w) A (eval (.Lambda params body scope pos) X.env) Q E s:=by
 have hcl:closureFor scope X.env=pure (bW X.env.cells scope.names []):=Ep λy hy e=>by
  have k:=S.c.free y hy e
  rw[<-hsc]at k
  obtain⟨c,q⟩:=I.ok.has y.1 k
  rw[q]; rfl
 have oP:s.heap.get? P=some (tabObj ps):=I.hok P _ hP
 have nP:mainGlobals≠P:=λz=>by
  obtain⟨o,es,ep,e,hd,_⟩:=I.ok.mod.glob
  have:=(I.bs _ _ e).2
  rw[z,hP]at this
  cases this
 have hg:s.heap.Ns mainGlobals X.mg:=let⟨o,es,ep,e,r⟩:=I.ok.mod.glob; ⟨o,es,ep,I.bk _ _ e,r⟩
 have hB:s.heap.BuiltinsAt X.mg P:=by
  obtain⟨bm,ob,b1,b2,b3,b4,b5,b6,b7⟩:=B
  refine⟨bm,ob,b1,b2,b3,λz=>?_,I.bk _ _ b4,b5,b6,b7⟩
  have:=(I.bs _ _ b4).2
  rw[z,hP]at this
  cases this
 have C':CodeHd s.heap c P:=C.keeps I.bk
 refine kla_eval hdef ?_
 cases hf:codeAmong pos ps.toList with
 |some cv =>
  obtain⟨c',oc,rfl,e1,e2⟩:=ok.2 pos cv hf
  refine kla_makeFunctionHit (mg:=X.mg) hcl I.ok.glob hg hcode C' oP ok.1 hf hB λctv h' tk keep hsz=>?_
  have I1:Inv X pins σ H {s with heap:=h',toks:=tk }:=I.kept keep
  have I2:Inv X pins σ H {s with heap:=h'.push (kla_obj "<lambda>" (X.env.qual++("<lambda>" : Str)) params body scope (bW X.env.cells scope.names []) ((X.mg "__name__").getD .none) c' ctv),toks:=tk }:=I1.kept (t':=tk) λb o e=>Heap.get?_push_of_some _ e
  refine h _ c' ctv _ H _ oc ⟨λ_ _ q _=>q,ps,hP,ok⟩ (I2.pR (I1.lR (Nat.le_refl _) (I1.hok.fresh (Nat.le_refl _))) (Heap.get?_push_size _ rfl) (λv z=>by cases z)) e1 e2
 |none =>
  refine kla_makeFunction (mg:=X.mg) hcl I.ok.glob hg hcode C' oP ok.1 hf nP hB λc' ctv h' tk ext hge hlt hrec htb=>?_
  obtain⟨c2,oc,vs,t,e2,hoc,hd,hv⟩:=hrec
  cases e2
  have nc:H c'=none:=I.hok.fresh hge
  have cP:c'≠P:=λz=>by rw[z,hP]at nc; cases nc
  have ne:∀b u,H b=some u->b≠c':=λb u q=>iW q nc
  have up:∀b u,H b=some u->b≠P->(upd (upd H P (.bO (ps ++ #[rawInt pos.line,rawInt pos.col,.ref c']))) c' (.cO oc (.own 0))) b=some u:=λb u q z=>by rw[aD (ne b u q),aD z]; exact q
  have Gm:(upd (upd H P (.bO (ps ++ #[rawInt pos.line,rawInt pos.col,.ref c']))) c' (.cO oc (.own 0))) P=some (.bO (ps ++ #[rawInt pos.line,rawInt pos.col,.ref c'])):=by rw[aD (Ne.symm cP)]; exact bJ
  have keep:∀b o,b≠P->s.heap.get? b=some o->h'.get? b=some o:=λb o z e=>ext b o z e
  have hok:bZ X.prog X.w (upd (upd H P (.bO (ps ++ #[rawInt pos.line,rawInt pos.col,.ref c']))) c' (.cO oc (.own 0))) h':=λb u q=>by
   by_cases z1:b=c'
   .subst z1
    rw[bJ]at q
    cases q
    exact⟨hoc,oc,hoc⟩
   .by_cases z2:b=P
    .subst z2
     rw[Gm]at q
     cases q
     exact htb
    .rw[aD z1,aD z2]at q
     refine(I.hok b u q).stay (λd v hd' e=>keep d v ?_ e) (λd z=>up d _ z ?_) λd ys z=>up d _ z ?_
     .rcases hd' with rfl|hd'
      .exact z2
      .rintro rfl
       rw[hP]at hd'
       cases hd'
     .rintro rfl
      rw[hP]at z
      cases z
     .rintro rfl
      rw[hP]at z
      cases z
  have qY:∀b,H b=none->b≠P:=λb n z=>by rw[z,hP]at n; cases n
  have I1:Inv X pins σ (upd (upd H P (.bO (ps ++ #[rawInt pos.line,rawInt pos.col,.ref c']))) c' (.cO oc (.own 0))) {s with heap:=h',toks:=tk } :=
   I.step (h':=h') (g':=s.gens) (d':=s.drawn) (t':=tk) (ch:=[]) (λ_ z=>nomatch z) (λb o _ _ _ e n=>keep b o (qY b n) e) (λb o _ _ _ e n=>⟨o.slots,keep b o (qY b n) e⟩)
    (λb o _ e n=>by
     rw[aD (λz=>by rw[z]at e; exact absurd (Heap.lt_size e) (Nat.not_lt.mpr hge)),aD (qY b n)]; exact n)
    (λb o _ e=>by
     by_cases z:b=P
     .subst z; exact⟨_,htb⟩
     .exact⟨o,keep b o z e⟩)
    (λb ys q=>up b _ q (by rintro rfl; rw[hP]at q; cases q)) (λb o u q=>up b _ q (by rintro rfl; rw[hP]at q; cases q))
    (λb qs q=>by
     by_cases z:b=P
     .subst z
      rw[hP]at q
      cases q
      exact⟨_,Gm⟩
     .exact⟨#[],by rw[up b _ q z]; simp⟩)
    (λm q=>q.extBut ext (qY _ I.free)) hok I.bare
  have I2:=I1.kept (t':=tk) (h':=h'.push (kla_obj "<lambda>" (X.env.qual++("<lambda>" : Str)) params body scope (bW X.env.cells scope.names []) ((X.mg "__name__").getD .none) c' ctv)) λb o e=>Heap.get?_push_of_some _ e
  refine h _ c' ctv _ _ _ oc ⟨up,_,Gm,?_,λpos' v q=>?_⟩ (I2.pR (I1.lR (Nat.le_refl _) (I1.hok.fresh (Nat.le_refl _))) (Heap.get?_push_size _ rfl) (λv z=>by cases z)) bJ ⟨vs,t,hd,hv⟩
  .have:(ps ++ #[rawInt pos.line,rawInt pos.col,.ref c']).toList=ps.toList++[rawInt pos.line,rawInt pos.col,.ref c']:=by simp
   rw[this]
   exact QT ok.1
  .have:(ps ++ #[rawInt pos.line,rawInt pos.col,.ref c']).toList=ps.toList++[rawInt pos.line,rawInt pos.col,.ref c']:=by simp
   rw[this]at q
   rcases QV ok.1 q with q|q
   .obtain⟨d,o,z1,z2,z3⟩:=ok.2 pos' v q
    exact⟨d,o,z1,up d _ z2 (by rintro rfl; rw[hP]at z2; cases z2),z3⟩
   .exact⟨c',oc,q,bJ,vs,t,hd,hv⟩
end
noncomputable abbrev KW:=Hp->V->Int × Int->Prop
noncomputable def zK:KW:=λ_ v k=>v=.int k.1/\k.2=0
noncomputable def QW(Kw:KW)(P:Addr)(q:Str)(src:List (Option Nat))(ta:TA)(te:TE):TE:=λσ H Q=>ta σ H λvs H1=>∃(n:Nat) (kz:Nat->Int × Int),vs=[.int n]/\n<64/\(∃ps,H1 P=some (.bO ps)/\yO H1 q ps)/\∀H2,zJ P q H1 H2 ->
 (∀(i:Nat),i<n->∀H3,Same H2 H3->te (some (.int i)::cY src σ) H3 λv H4=>Kw H4 v (kz i)/\Same H3 H4)/\∀D (ys:List Nat) H3,Same H2 H3->H3 D=none->mJ n kz ys->Q (.ref D) (upd H3 D (.lst (ys.map λi:Nat=>V.int i)))
section
variable {X:Cx}{sc scope:Scope}{No Ns:List Str}{src:List (Option Nat)}{x:Str}{Kw:KW}{kd:SortKind}
theorem aeS(T:nO X (λH u k=>∃v,RelV v u/\Kw H v k) kd)(mono:∀{H H':Hp} {v k},Same H H'->Kw H v k->Kw H' v k)(inj:∀{pins:List (Addr × Obj)} {σ : St} {H:Hp} {s:Shared},Inv X pins σ H s->∀u k k',(∃v,RelV v u/\Kw H v k)->(∃v,RelV v u/\Kw H v k')->k=k')
  (hr:bQ k X.A) (h1:X.mg "sorted" = none) (h2:X.mg "range" = none) (hsc:X.env.scope=sc) (jc:X.N=No) (S:zH sc No x Ns src scope) (hcode:X.env.code=.ref c) (C:CodeHd X.base c P) (B:mK X.mg X.base) (hdef:defaultsOf params X.env=([],[]))
  (ha:PA X [e] ta) (hbind:∀(pm cd ctv u:Value),bindArgs (kla_fn "<lambda>" (X.env.qual++("<lambda>" : Str)) params body scope (bW X.env.cells scope.names []) pm cd ctv) ⟨[u],[]⟩=pure [(x,u)])
  (he:∀A f cd s H,PE (zG X A (x::Ns) (X.env.qual++("<lambda>" : Str)) scope f cd s H) body te)
  (hg:X.env.kindOf "sorted" = some .globalImplicit:=by kernel_rfl) (hg2:X.env.kindOf "range" = some .globalImplicit:=by kernel_rfl) (hs:notStar e=true:=by kernel_rfl) :
  PE X (.Call (.Name "sorted" p) [.Call (.Name "range" p2) [e] [] pos2] [⟨some (Str.ofString "key"),.Lambda params body scope amh,kp⟩] pos) (QW Kw P (X.env.qual++("<lambda>" : Str)) src ta te):=by
 refine⟨λpins s σ H Q I h=>?_⟩
 refine wpAny_Call_Name_kw (o7 I hg h1 (by decide +kernel:bootBuiltins "sorted" = some (.builtin "sorted")) ?_ (by decide +kernel) (by kernel_rfl))
 refine callWith_kw (Calls.spliced_cons (wpAny_Call_Name_kw (o7 I hg2 h2 boot_range (PyProof.Rows.callWith_type1 (aF (ha pos2 pins s σ H _ I h) λus s1 ⟨vs,H1,I1,r1,q1⟩=>?_) (iH hs) rfl) (by decide +kernel) (by kernel_rfl))))
 obtain⟨n,kz,rfl,h64,⟨ps,hP,ok⟩,hq⟩:=q1
 obtain⟨u1,rfl,t1,rfl⟩:=vals1 r1
 refine call_range_1 ?_
 have rfp:=I1.lR (Nat.le_refl _) (I1.hok.fresh (Nat.le_refl _))
 have I2:Inv X pins σ H1 {s1 with heap:=s1.heap.push {cls:=.type "range",data:=.fields #[.int 0 s1.toks,.int n t1,.int 1 (s1.toks+1)] },toks:=s1.toks+1+1 }:=I1.kept λb o e=>Heap.get?_push_of_some _ e
 have I3:=I2.pR rfp (Heap.get?_push_size _ rfl) (λv z=>by cases z)
 refine Calls.spliced_nil ?_
 refine kws_cons (aeR hsc S hcode C B hdef I3 hP ok λf c' ctv pm H2 s2 oc lh I4 e1 e2=>?_)
 refine kws_nil ?_
 have pr:=I4.pin _ (List.mem_append_right _ (List.mem_cons_of_mem _ (List.mem_cons_self ..)))
 obtain⟨key,fin⟩:=hq H2 lh
 refine aeO T (λ{H H' u k} sm ⟨v,a1,a2⟩=>⟨v,a1,mono sm a2⟩) inj I4 hr.hd pr.1 h64 (λm9 i t s' H' hi sub sm I'=>?_) λs' D ys H3 sm nD I' hs'=>⟨.ref D,_,I'.sub λp hp=>List.mem_cons_of_mem _ (List.mem_cons_of_mem _ hp),rfl,fin D ys H3 sm nD hs'⟩
 have pf:=I'.pin _ (List.mem_append_right _ (sub _ (List.mem_cons_self ..)))
 have hcd:s'.heap.CodeRec (.ref c') (X.env.qual++("<lambda>" : Str)):=by
  obtain⟨vs,t,a1,a2⟩:=e2
  exact⟨c',oc,vs,t,rfl,(I'.hok c' _ (sm _ _ e1)).1,a1,a2⟩
 refine aF (aeQ (A:=X.A.in1.in1) (v:=.int i) (te:=te) (Q:=λv H4=>Kw H4 v (kz i)/\Same H' H4) hsc jc S I.ok.frames hr.hd hr.depth I' pf.1 hcd ⟨t,rfl⟩ (hbind _ _ _ _) (λs H=>he _ _ _ _ _) (key i hi H' sm)) λu s'' ⟨v,H4,Gj,rv,q1,q2⟩=>⟨H4,q2,⟨v,rv,q1⟩,Gj⟩
theorem aeT:nO X (λH u k=>∃v,RelV v u/\zK H v k) oneType' where
 kind:=λH keys kz h2 hk pins σ s Q E I q=>QJ.kind H keys kz h2 (λi v e=>by
  obtain⟨w,r,rfl,z⟩:=hk i v e
  obtain⟨t,rfl⟩:=r
  exact⟨t,rfl,z⟩) I q
 ask:=λa₀ kf I h=>QJ.ask a₀ kf I λp hp=>by
  obtain⟨w,r,z1,z⟩:=h p hp
  subst z1
  obtain⟨t,r⟩:=r
  exact⟨t,r,z⟩
theorem aeU(_:Inv X pins σ H s)(u:Value)(k k':Int × Int)(h:∃v,RelV v u/\zK H v k)(h':∃v,RelV v u/\zK H v k'):k=k':=by
 obtain⟨v,r,rfl,z⟩:=h
 obtain⟨v',r',rfl,z'⟩:=h'
 obtain⟨t,rfl⟩:=r
 obtain⟨t',r'⟩:=r'
 injection r' with r' _
 exact Prod.ext r' (z.trans z'.symm)
end
noncomputable def u0(K:PySem.W.Frag)(mg:Str->Option Value)(x:Str)(st:Stmt)(c:Addr):Prop:=∃f fd,jm K x x st f fd/\mg x=some (.ref f)/\fd.code=.ref c
section
variable {P:Program}{w:World}{K:PySem.W.Frag}{mg:Str->Option Value}{base:Heap}
theorem u0.aeV{c:Addr}{k:Nat}{x:Str}{st:Stmt}{N ps:List Str}{sp:Sp}(a:u0 K mg x st c)(S:pC N ps (bG st))
  (hb:∀(kV doc pm:Value) (an:Option Addr) (cdv ct:Value) (us:List Value),us.length=ps.length->bindArgs (fnOf x x (iG st) (eN st) (bG st) .none kV doc pm an cdv ct) ⟨us,[]⟩=pure (ps.zip us))
  (len:∀vs H Q E,sp vs H Q E->vs.length=ps.length)
  (hbody:∀(f:Addr) (A:Around) (outer:List Env) (s:Shared) (H:Hp) (vs:List V) (Q:VK) (E:XK),bQ k (A.deeper (envOfC x (bG st) s.heap.objs.size f (.ref c)))->sp vs H Q E ->
   ∃t,cX (gq (eX P w) P w K mg base N x (bG st) f (.ref c) A outer s H E) (eN st) t/\t {nx:=λ_ H'=>Q .non H',rt:=Q } (start N vs) H):iI P w K mg base (k+1) x ps sp:=by
 obtain⟨f,fd,F,m,hc⟩:=a
 refine⟨f,fd,?_,F.binds hb,F.kp,m⟩
 obtain⟨oc,od,kV,doc,pm,an,cdv,ct,osl,rfl,lk,hcd⟩:=F.ex
 have hc:cdv=.ref c:=hc
 subst hc
 exact Ec lk hcd S len λA outer s H vs Q E hr h=>hbody f A outer s H vs Q E hr h
end
theorem Gn{o:Obj}(h:(o.cls == .type "list")=false):cg o=o:=by
 unfold cg
 rw[if_neg]
 rintro⟨z,_⟩
 rw[z]at h
 exact absurd h (by decide +kernel)
theorem QX{K:PySem.W.Frag}{x:Str}{o:Obj}(h:K.lookup mainGlobals=some o)(n:(o.cls == .type "list")=false):nsIn (aq K) mainGlobals x=nsIn K mainGlobals x:=by
 have e:(aq K).lookup mainGlobals=K.lookup mainGlobals:=by
  rw[jo,h]
  show some (cg o)=some o
  rw[Gn n]
 unfold nsIn
 rw[e]
theorem Gp{K:PySem.W.Frag}{x:Str}{f c P:Addr}{oc:Value}{od:Option Addr}{fd:FuncData}{sl:Array (Option Value)}{cc:Value}{cd:Option Addr}{vs:Array Value}{cs:Array (Option Value)}(a:nsIn K mainGlobals x=some (some (.ref f)))(l2:K.lookup f=some ⟨oc,od,.func fd,sl⟩)(hc:fd.code=.ref c)(l3:K.lookup c=some ⟨cc,cd,.fields vs,cs⟩)(hv:vs[11]?=some (.ref P)):tabIn K x=some (c,P):=by
 unfold tabIn
 rw[a]
 dsimp only
 rw[l2]
 dsimp only
 rw[hc]
 dsimp only
 rw[l3]
 dsimp only
 rw[hv]
theorem Gq{o:Obj}{d:Data}(h:(cg o).data=d)(n:d ≠ .fields #[]):cg o=o:=by
 unfold cg at h ⊢
 split at h
 .exact(n h.symm).elim
 .rename_i q
  rw[if_neg q]
theorem QZ{K:PySem.W.Frag}{x:Str}{z:Addr × Addr}(h:tabIn (aq K) x=some z):tabIn K x=some z:=by
 unfold tabIn at h
 split at h
 .rename_i f hf
  have g1:nsIn K mainGlobals x=some (some (.ref f)):=by
   unfold nsIn at hf
   rw[jo]at hf
   cases e:K.lookup mainGlobals with
   |none=>rw[e]at hf; cases hf
   |some o =>
    rw[e]at hf
    unfold nsIn
    rw[e]
    have q:cg o=o:=by
     dsimp only[Option.map]at hf
     split at hf
     .rename_i a b es ep c eq
      have eq:cg o=⟨a,b,.dict es ep,c⟩:=Option.some.inj eq
      exact Gq (d:=.dict es ep) (by rw[eq]) (by intro z; cases z)
     .cases hf
    dsimp only[Option.map]at hf
    rw[q]at hf
    exact hf
  split at h
  .rename_i a b fd osl hfo
   have g2:K.lookup f=some ⟨a,b,.func fd,osl⟩:=by
    rw[jo]at hfo
    cases e:K.lookup f with
    |none=>rw[e]at hfo; cases hfo
    |some o =>
     rw[e]at hfo
     have eq:cg o=⟨a,b,.func fd,osl⟩:=Option.some.inj hfo
     rw[Gq (d:=.func fd) (by rw[eq]) (by intro z; cases z)]at eq
     rw[eq]
   split at h
   .rename_i c hc
    split at h
    .rename_i a' b' vs Q5 hco
     split at h
     .rename_i Pp hv
      cases h
      have g3:K.lookup c=some ⟨a',b',.fields vs,Q5⟩:=by
       rw[jo]at hco
       cases e:K.lookup c with
       |none=>rw[e]at hco; cases hco
       |some o =>
        rw[e]at hco
        have eq:cg o=⟨a',b',.fields vs,Q5⟩:=Option.some.inj hco
        rw[Gq (d:=.fields vs) (by rw[eq]) (by intro z; injection z with z; subst z; simp at hv)]at eq
        rw[eq]
      exact Gp g1 g2 hc g3 hv
     .cases h
    .cases h
   .cases h
  .cases h
 .cases h
structure zL(K:PySem.W.Frag)(mg:Str->Option Value)(base:Heap)(x:Str)(c P:Addr):Prop where
 nm:x∈fH
 hd:CodeHd base c P
 bm:mK mg base
 tab:tabIn (aq K) x=some (c,P)
 un:∀x'∈fH,∀c',tabIn (aq K) x'=some (c',P)->x'=x
theorem aeW{K:PySem.W.Frag}{x:Str}{f c P:Addr}{o1:Obj}{oc:Value}{od:Option Addr}{fd:FuncData}{sl:Array (Option Value)}{cc:Value}{cd:Option Addr}{vs:Array Value}{cs:Array (Option Value)}(a:nsIn K mainGlobals x=some (some (.ref f)))(l1:K.lookup mainGlobals=some o1)(n1:(o1.cls == .type "list")=false)
  (l2:K.lookup f=some ⟨oc,od,.func fd,sl⟩) (n2:(oc == .type "list")=false) (hc:fd.code=.ref c) (l3:K.lookup c=some ⟨cc,cd,.fields vs,cs⟩) (n3:(cc == .type "list")=false) (hv:vs[11]?=some (.ref P)):tabIn K x=some (c,P)/\tabIn (aq K) x=some (c,P):=⟨Gp a l2 hc l3 hv,Gp ((QX l1 n1).trans a) (by rw[jo,l2,Option.map_some,Gn n2]) hc (by rw[jo,l3,Option.map_some,Gn n3]) hv⟩
theorem Q6{K:PySem.W.Frag}{x:Str}(a:nsIn K mainGlobals x=some none):tabIn K x=none:=by
 unfold tabIn
 rw[a]
theorem aeX{K:PySem.W.Frag}{mg:Str->Option Value}{base:Heap}{x:Str}{c P:Addr}(nm:x∈fH)(hc:∀x∈fH,∀c b,tabIn K x=some (c,b)->CodeHd base c b)(bm:mK mg base)(q:tabIn K x=some (c,P)/\tabIn (aq K) x=some (c,P))(ho:∀x'∈fH,x'=x\/∀c',tabIn K x'≠some (c',P)):zL K mg base x c P :=
 ⟨nm,hc x nm c P q.1,bm,q.2,λx' hx' c' e=>(ho x' hx').elim id λz=>(z c' (QZ e)).elim⟩
end L2
end
section
namespace L2
open PySem PySem.Spec PyProof.Rows
noncomputable abbrev FP:=List Tr->Rs (Tr × Bool)
abbrev zM:List Value:=[.type "ValueError",.type "Exception",.type "BaseException",.type "object"]
noncomputable abbrev tx(cl:Str->Addr)(E:XK)(X:Cx):Tx:=⟨aq X.K,λc H'=>E (.ref (cl c)) none H'⟩
noncomputable def nU(K:PySem.W.Frag)(cl:Str->Addr)(n:Nat)(f:FP):Sp:=λvs H Q E=>∃G ts,vs.length=n/\au (aq K) G vs ts/\Same G H/\bx (aq K) H/\(∀b,Tb (aq K) b->G b=none) /\
 bF ⟨aq K,λc H'=>E (.ref (cl c)) none H'⟩ H (λ_=>[]) (f ts) λp=>∀v G' H',Gw (aq K) G H G' H'->VN (aq K) H G' H' v p.1 p.2->Q v H'
structure Vw(K:PySem.W.Frag)(R:Addr->Prop)(Hs:Hp)(Fs:Fp)(G H:Hp)(F:Fp)(vs:List V)(Ts:List Tr)(bs:List Addr):Prop where
 nd:bs.Nodup
 al:∀b∈bs,(Hs b=none\/Fn Fs b)/\¬Fn F b/\¬R b/\G b=none
 dr:DR K G H vs Ts bs
noncomputable def zN(K:PySem.W.Frag)(cl:Str->Addr)(n:Nat)(f:FP):Sp:=λvs H Q E=>∃G ts,vs.length=n/\au (aq K) G vs ts/\Same G H/\bx (aq K) H/\(∀b,Tb (aq K) b->G b=none) /\
 bF ⟨aq K,λc H'=>E (.ref (cl c)) none H'⟩ H (λ_=>[]) (f ts) λp=>∀v G' H',Gw (aq K) G H G' H'->(∃bs,Vw (aq K) (λ_=>False) H (λ_=>[]) G' H' (λ_=>[]) [v] [p.1] bs)->Q v H'
noncomputable abbrev FM:=Sl->List Tr->Rs (Tr × Sl)
noncomputable def jt(fp:List Addr):Fp:=λi=>if i=0 then fp else []
structure Gu(K:PySem.W.Frag)(a:Addr)(G H:Hp)(fp:List Addr)(G' H':Hp)(fp':List Addr)(v:V)(T:Tr)(S':Sl):Prop where
 st:aC K G H (jt fp) G' H' (jt fp')
 sub:Same G' H'
 tb:bx K H'
 hid:∀b∈fp',G' b=none
 sl:dw K (λb=>b=a) G' H' (some (some (.ref a))) fp' (some S')
 vl:∃bs,Vw K (λb=>b=a) H (jt fp) G' H' (jt fp') [v] [T] bs
noncomputable def mL(K:PySem.W.Frag)(cl:Str->Addr)(n:Nat)(f:FM):Sp:=λvs H Q E=>∃G a fp S ws ts,vs=.ref a::ws/\vs.length=n/\au (aq K) G ws ts/\Same G H/\bx (aq K) H/\(∀b,Tb (aq K) b->G b=none)/\a∈fp/\(∀b∈fp,G b=none)/\dw (aq K) (λb=>b=a) G H (some (some (.ref a))) fp (some S) /\
 bF ⟨aq K,λc H'=>E (.ref (cl c)) none H'⟩ H (jt fp) (f S ts) λp=>∀v G' H' fp',Gu (aq K) a G H fp G' H' fp' v p.1 p.2->Q v H'
noncomputable def Gk(K:PySem.W.Frag)(mg:Str->Option Value)(x:Str)(v:V)(T:Tr):Prop:=∃u,mg x=some u/\RelV v u/\∀H,Rep (aq K) H v T
inductive Ey
 |fn (x:Str) (ps:List Str) (f:FP) (l:Nat)
 |fd (x:Str) (ps:List Str) (f:FP) (l:Nat)
 |gk (x:Str) (T:Tr)
 |fm (x:Str) (ps:List Str) (f:FM) (l:Nat)
 |mt (c m:Str) (ps:List Str) (f:FM) (l:Nat)
 |mk (c:Str) (ps:List Str) (f:FM) (l:Nat)
 |cz (c k:Str)
structure Cc where
 P:Program
 w:World
 K:PySem.W.Frag
 mg:Str->Option Value
 base:Heap
 cl:Str->Addr
noncomputable def Ey.fU(c:Cc):Ey->Prop
 |.fn x ps f l=>iI c.P c.w c.K c.mg c.base l x ps (nU c.K c.cl ps.length f)
 |.fd x ps f l=>iI c.P c.w c.K c.mg c.base l x ps (zN c.K c.cl ps.length f)
 |.gk x T=>∃v,Gk c.K c.mg x v T
 |.fm x ps f l=>iI c.P c.w c.K c.mg c.base l x ps (mL c.K c.cl ps.length f)
 |.mt n m ps f l=>∃C g fd,jd (aq c.K) n C/\Cls c.K C/\Meth c.K C m g/\dH c.P c.w c.K c.mg c.base (eX c.P c.w) l g fd ps (mL c.K c.cl ps.length f)/\Binds c.K fd ps []
 |.mk n ps f l=>∃C g fd,jd (aq c.K) n C/\c.mg n=some (.ref C)/\Mk c.K C g/\dH c.P c.w c.K c.mg c.base (eX c.P c.w) l g fd ps (mL c.K c.cl ps.length f)/\Binds c.K fd ps []
 |.cz n k=>∃C,jd (aq c.K) n C/\Cls c.K C/\nu c.K C k
noncomputable abbrev Ey.ok(cl:Str->Addr)(X:Cx)(y:Ey):Prop:=y.fU ⟨X.prog,X.w,X.K,X.mg,X.base,cl⟩
structure Gx where
 N:List Str
 sc:Scope
 fn:Str->Bool
 B:List Str
 R:List Str
 nx:Bool
 k:Nat
 L:List Str
structure Ox(cl:Str->Addr)(Γ : Gx)(E:XK)(X:Cx):Prop where
 N:X.N = Γ.N
 s:X.env.scope = Γ.sc
 d:X.N.Nodup
 l:X.calm=true
 r:bQ Γ.k X.A
 e:Passes (eX X.prog X.w) X E
 B:∀x∈Γ.B,X.mg x=none
 R:∀x∈Γ.R,OwnCls x (cl x) zM "ValueError.__new__" X.mg X.base/\Raises X E
 x:lY X.K
 f:X.fn = Γ.fn
 n : Γ.nx=true->X.xe=λ_ _=>False
 lm:∀x∈Γ.L,∃c P,zL X.K X.mg X.base x c P/\X.env.code=.ref c/\X.env.qual++("<lambda>" : Str)=yN x
structure Vn{τ : Type}(J:(Str->Addr)->XK->Cx -> τ -> Prop) where
 ck:Gx -> τ -> Bool
 cs:List Ey
 ok:∀{cl E Γ X e},(∀y∈cs,y.ok cl X)->Ox cl Γ E X->ck Γ e=true->J cl E X e
noncomputable abbrev VE(f:EF):=Vn λcl E X e=>PE X e (Te (tx cl E X) f)
noncomputable abbrev VT(f:BF):=Vn λcl E X e=>PT X e (Tt (tx cl E X) f)
noncomputable abbrev VO(f:OF):=Vn λcl E X e=>PO X e (To (tx cl E X) f)
noncomputable abbrev VA(f:AF):=Vn λcl E X e=>PA X e (Ta (tx cl E X) f)/\(∀ρ p,f ρ=.ok p->p.1.length=e.length)/\∀x∈e,notStar x=true
theorem an{a b:Bool}:(a&&b)=true↔a=true/\b=true:=by simp
theorem ml{P:Ey->Prop}{l m:List Ey}(h:∀y∈l++m,P y):∀y∈l,P y:=λy q=>h y (List.mem_append_left _ q)
theorem mr{P:Ey->Prop}{l m:List Ey}(h:∀y∈l++m,P y):∀y∈m,P y:=λy q=>h y (List.mem_append_right _ q)
theorem PT.imp(h:PT X e t)(i:∀σ H Q,u σ H Q->t σ H Q):PT X e u:=⟨λpins s σ H Q I q=>h pins s σ H Q I (i σ H Q q)⟩
theorem PO.imp(h:PO X e t)(i:∀σ H Q,u σ H Q->t σ H Q):PO X e u:=λpins s σ H Q I q=>h pins s σ H Q I (i σ H Q q)
noncomputable def dO(i:Nat):EF:=λρ=>match ρ[i]? with
 |some (.sh T)=>.ok (.v T false,ρ)
 |some (.ow _)=>.ok (.s i,ρ)
 |some (.rf _)=>.ok (.s i,ρ)
 |_=>.bad
noncomputable def d8(Γ : Gx)(i:Nat)(x:Str):Bool := Γ.N[i]? == some x&&(Γ.sc.names.lookup x == some .local || Γ.sc.names.lookup x == some .cell || Γ.sc.names.lookup x == some .free) && !(x == ("__debug__" : Str)) && !(x == ("__classdict__" : Str))
theorem fV(o:Ox cl Γ E X)(h:d8 Γ i x=true):PE X (.Name x p) (ux i):=by
 simp only[d8,an]at h
 obtain⟨⟨⟨h1,h2⟩,h3⟩,h4⟩:=h
 exact M4 (by rw[o.N]; exact eq_of_beq h1) (by rw[o.s]; unfold xG; simpa[or_assoc]using h2) (by simpa using h3) (by simpa using h4)
theorem aeY(h:Te t (dO i) σ H Q):ux i σ H Q:=by
 obtain⟨R,ρ,G,F,e,h⟩:=h
 have z:=e.sl i
 unfold dO at h
 split at h <;> rename_i k <;> (try exact h.elim) <;> rw[k]at z
 .obtain⟨_,v,h1,h2⟩:=z
  exact⟨v,h1,h v G H F e .refl (.low h2)⟩
 all_goals
  obtain⟨a,xs,h1,_⟩:=z
  exact⟨_,h1,h _ G H F e .refl h1⟩
noncomputable def aj(i:Nat):VE (dO i) where
 ck Γ e:=atName e λx _=>d8 Γ i x
 cs:=[]
 ok _ o h:=by
  walk_at "o"
  exact(fV o h).imp λ_ _ _=>aeY
noncomputable def eC(T:Tr):EF:=λρ=>.ok (.v T false,ρ)
theorem u5(r:∀H,Rep t.K H v T)(h:Te t (eC T) σ H Q):tC v σ H Q:=by
 obtain⟨R,ρ,G,F,e,h⟩:=h
 exact h v G H F e .refl (.low (r _))
noncomputable def vC(T:Tr):VE (eC T) where
 ck _ e:=Gd e λc _ _=>match T with
  |.int j=>Ge c λi=>decide (i=j)
  |.str j=>Gf c λi=>i == j
  |.bl j=>Gg c λi=>i == j
  |.non=>Gh c
  |_=>false
 cs:=[]
 ok _ o h:=by
  walk_at "o"
  cases T <;> dsimp only at h
  .walk_at "o"
   exact M6.imp λ_ _ _=>u5 λ_=>.non
  .walk_at "o"
   cases eq_of_beq h; exact M5.imp λ_ _ _=>u5 λ_=>.bl _
  .walk_at "o"
   cases of_decide_eq_true h; exact Dl.imp λ_ _ _=>u5 λ_=>.int _
  .walk_at "o"
   cases eq_of_beq h; exact M7.imp λ_ _ _=>u5 λ_=>.str _
  all_goals cases h
noncomputable def ju(Γ : Gx)(x:Str):Bool := Γ.sc.names.lookup x == some .globalImplicit && !(x == ("__debug__" : Str))
theorem dz(o:Ox cl Γ E X)(h:ju Γ x=true):Gl X x/\(x == ("__debug__" : Str))=false:=by
 simp only[ju,an]at h
 exact⟨by show X.env.scope.names.lookup _=_; rw[o.s]; exact eq_of_beq h.1,by simpa using h.2⟩
noncomputable def vG(x:Str)(T:Tr):VE (eC T) where
 ck Γ e:=atName e λy _=>x == y&&ju Γ x
 cs:=[.gk x T]
 ok g o h:=by
  walk_at "o"
  simp only[an]at h
  cases eq_of_beq h.1
  obtain⟨v,u,h1,h2,h3⟩:=g _ (List.mem_singleton.mpr rfl)
  exact(aa1 (dz o h.2).1 h1 h2 (dz o h.2).2).imp λ_ _ _=>u5 h3
section
variable {t:Tx}{R:Addr->Prop}{ρ : En}{σ : St}{G H G0 H0 G' H':Hp}{F F0:Fp}{Q:VK}
theorem Ok.fin(e:Ok t.K R ρ σ G H F)(s:aC t.K G0 H0 F0 G H F)(w:Gw t.K G H G' H')(n:VN t.K H G' H' v T fr)(h:∀v G' H' F',Ok t.K R ρ σ G' H' F'->aC t.K G0 H0 F0 G' H' F'->fJ t.K σ H0 G' H' F' v (.v T fr)->Q v H'):Q v H':=by
 obtain⟨e',s'⟩:=e.grow w
 exact h v G' H' F e' (s.trans s') ((n.ok e).back s.dm)
noncomputable def iy(g:G2)(fa fb:EF):EF:=λρ=>(fa ρ).bind λp=>(fb p.2).bind λq=>(dr q.2 p.1).bind λa=>(dr q.2 q.1).bind λb=>(g a b).bind λz=>.ok (.v z.1 z.2,q.2)
theorem zO(o:cj t.K r g)(h:Te t (iy g fa fb) σ H Q):uz r (Te t fa) (Te t fb) σ H Q:=by
 obtain⟨R,ρ,G,F,e,h⟩:=h
 refine cZ e .refl h λp h x G1 H1 F1 e1 s1 v1=>cZ e1 s1 h λq h y G2 H2 F2 e2 s2 v2=>?_
 obtain⟨a,k1,h⟩:=h.okb (gW _ _)
 obtain⟨b,k2,h⟩:=h.okb (gW _ _)
 obtain⟨z,k3,h⟩:=h.okb (o.nx a b)
 refine o.ok G2 H2 x y a b Q e2.sub (gY e2 (v1.step e1.tb s2) k1) (gY e2 v2 k2) (by rw[k3]; exact λv G' H' w vn=>e2.fin (s1.trans s2) w.gw vn h)
noncomputable def v2(o:Operator)(r:PySem.W.Frag->R2)(g:G2)(hp:∀X,bw X (binaryOp o) (r X.K))(hs:∀K,cj (aq K) (r K) g)(a:VE aB)(b:VE bU):VE (iy g aB bU) where
 ck Γ e:=yU e λx p y _=>decide (p=o)&&a.ck Γ x&&b.ck Γ y
 cs:=a.cs++b.cs
 ok q O h:=by
  walk_at "o"
  simp only[an]at h
  cases of_decide_eq_true h.1.1
  exact(yh (hp _) (a.ok (ml q) O h.1.2) (b.ok (mr q) O h.2)).imp λ_ _ _=>zO (hs _)
noncomputable def Gv(g:G1)(fa:EF):EF:=λρ=>(fa ρ).bind λp=>(dr p.2 p.1).bind λa=>(g a).bind λz=>.ok (.v z.1 z.2,p.2)
theorem aeZ(o:j7 t.K r g)(h:Te t (Gv g fa) σ H Q):Nu r (Te t fa) σ H Q:=by
 obtain⟨R,ρ,G,F,e,h⟩:=h
 refine cZ e .refl h λp h x G1 H1 F1 e1 s1 v1=>?_
 obtain⟨a,k1,h⟩:=h.okb (gW _ _)
 obtain⟨z,k3,h⟩:=h.okb (o.nx a)
 exact o.ok G1 H1 x a Q e1.sub (gY e1 v1 k1) (by rw[k3]; exact λv G' H' w vn=>e1.fin s1 w.gw vn h)
noncomputable def Gy(a:VE aB):VE (Gv qW aB) where
 ck Γ e:=pK e λaK x _=>jM aK .USub (a.ck Γ x)
 cs:=a.cs
 ok q O h:=by
  walk_at "o"
  exact(Dy Dz (a.ok q O h)).imp λ_ _ _=>aeZ Qq
noncomputable def iz(fa:EF):BF:=λρ=>(fa ρ).bind λp=>(dr p.2 p.1).bind λa=>(qR a).bind λb=>.ok (b,p.2)
theorem zP{Q:Bool->Hp->Prop}(h:Tt t (iz fa) σ H Q):nq (Te t fa) σ H Q:=by
 obtain⟨R,ρ,G,F,e,h⟩:=h
 refine cZ e .refl h λp h x G1 H1 F1 e1 s1 v1=>?_
 obtain⟨a,k1,h⟩:=h.okb (gW _ _)
 obtain⟨b,k2,h⟩:=h.okb (Qt _)
 exact⟨b,Qu (gY e1 v1 k1) k2,h G1 H1 F1 e1 s1⟩
noncomputable def Gz(fa:EF):BF:=λρ=>(fa ρ).bind λp=>(dr p.2 p.1).bind λa=>(mX a).bind λb=>.ok (b,p.2)
noncomputable def GC(f g:BF):BF:=λρ=>(f ρ).bind λp=>if p.1=true then g p.2 else .ok (false,p.2)
noncomputable def GD(f g:BF):BF:=λρ=>(f ρ).bind λp=>if p.1=true then .ok (true,p.2)else g p.2
noncomputable def zQ(f:BF):BF:=λρ=>(f ρ).bind λp=>.ok (!p.1,p.2)
theorem bF.go{α : Type}{r:Rs α}{P P' : α -> Prop}(s:aC t.K G0 H0 F0 G H F)(h:bF t H0 F0 r P)(k:∀a,P a->P' a):bF t H F r P':=by
 cases r with
 |bad=>exact h
 |ex c=>exact λH' f=>h H' (s.back f)
 |ok a=>exact k a h
theorem GJ(e:Ok t.K R ρ σ G H F)(s:aC t.K G0 H0 F0 G H F)(h:bF t H0 F0 (f ρ) λp=>∀v G' H' F',Ok t.K R p.2 σ G' H' F'->aC t.K G0 H0 F0 G' H' F'->fJ t.K σ H0 G' H' F' v p.1->Q v H'):Te t f σ H Q :=
 ⟨R,ρ,G,F,e,h.go s λp h v G' H' F' e' s' v'=>h v G' H' F' e' (s.trans s') (v'.back s.dm)⟩
theorem Q7{Q:Bool->Hp->Prop}(e:Ok t.K R ρ σ G H F)(s:aC t.K G0 H0 F0 G H F)(h:bF t H0 F0 (f ρ) λp=>∀G' H' F',Ok t.K R p.2 σ G' H' F'->aC t.K G0 H0 F0 G' H' F'->Q p.1 H'):Tt t f σ H Q :=
 ⟨R,ρ,G,F,e,h.go s λp h G' H' F' e' s'=>h G' H' F' e' (s.trans s')⟩
theorem ae0{Q:Bool->Hp->Prop}(h:Tt t (zQ f) σ H Q):Nb (Tt t f) σ H Q:=by
 obtain⟨R,ρ,G,F,e,h⟩:=h
 exact mq e .refl h λp h G1 H1 F1 e1 s1=>h G1 H1 F1 e1 s1
theorem ae1{Q:Bool->Hp->Prop}(h:Tt t (GC f g) σ H Q):M8 (Tt t f) (Tt t g) σ H Q:=by
 obtain⟨R,ρ,G,F,e,h⟩:=h
 refine mq e .refl h λp h G1 H1 F1 e1 s1=>?_
 split at h <;> rename_i c
 .rw[if_pos c]; exact Q7 e1 s1 h
 .rw[if_neg c]; exact h G1 H1 F1 e1 s1
theorem ae2{Q:Bool->Hp->Prop}(h:Tt t (GD f g) σ H Q):M9 (Tt t f) (Tt t g) σ H Q:=by
 obtain⟨R,ρ,G,F,e,h⟩:=h
 refine mq e .refl h λp h G1 H1 F1 e1 s1=>?_
 split at h <;> rename_i c
 .rw[if_pos c]; exact h G1 H1 F1 e1 s1
 .rw[if_neg c]; exact Q7 e1 s1 h
noncomputable def eB(b:Bool):Rv:=.v (.bl b) false
noncomputable def GK(f g:EF):EF:=λρ=>(iz f ρ).bind λp=>if p.1=true then g p.2 else .ok (eB false,p.2)
noncomputable def eOr(f g:EF):EF:=λρ=>(iz f ρ).bind λp=>if p.1=true then .ok (eB true,p.2)else g p.2
noncomputable def GP(f:EF):EF:=λρ=>(iz f ρ).bind λp=>.ok (eB (!p.1),p.2)
noncomputable def u6(c:BF)(f g:EF):EF:=λρ=>(c ρ).bind λp=>if p.1=true then f p.2 else g p.2
theorem ae3(h:Te t (u6 c f g) σ H Q):Nh (Tt t c) (Te t f) (Te t g) σ H Q:=by
 obtain⟨R,ρ,G,F,e,h⟩:=h
 refine mq e .refl h λp h G1 H1 F1 e1 s1=>?_
 split at h <;> rename_i c
 .rw[if_pos c]; exact GJ e1 s1 h
 .rw[if_neg c]; exact GJ e1 s1 h
theorem ae4(h:Te t (GK f g) σ H Q):Nf (Te t f) (Te t g) σ H Q:=by
 obtain⟨R,ρ,G,F,e,h⟩:=h
 refine zP (mq (f:=iz f) e .refl h λp h G1 H1 F1 e1 s1=>?_)
 split at h <;> rename_i c
 .rw[if_pos c]; exact GJ e1 s1 h
 .rw[if_neg c]; exact h _ G1 H1 F1 e1 s1 (.low (.bl _))
theorem ae5(h:Te t (GP f) σ H Q):Ng (Te t f) σ H Q:=by
 obtain⟨R,ρ,G,F,e,h⟩:=h
 exact zP (mq (f:=iz f) e .refl h λp h G1 H1 F1 e1 s1=>h _ G1 H1 F1 e1 s1 (.low (.bl _)))
end
noncomputable def Q8(a:VE aB):VE (GP aB) where
 ck Γ e:=pK e λaK x _=>jM aK .Not (a.ck Γ x)
 cs:=a.cs
 ok q O h:=by
  walk_at "o"
  exact(abb (a.ok q O h)).imp λ_ _ _=>ae5
noncomputable abbrev VQ(f:EF):=Vn λcl E X e=>PE X e (Te (tx cl E X) f)/\PT X e (Tt (tx cl E X) (iz f))
noncomputable def vK(a:VQ f):VE f:=⟨a.ck,a.cs,λq O h=>(a.ok q O h).1⟩
noncomputable def tK(a:VQ f):VT (iz f):=⟨a.ck,a.cs,λq O h=>(a.ok q O h).2⟩
theorem nq.imp{a b:TE}(i:∀Q,a σ H Q->b σ H Q)(h:nq a σ H Q):nq b σ H Q:=i _ h
structure Cq(g:G2) where
 o:CmpOp
 r:PySem.W.Frag->R2
 p:∀X:Cx,X.A.units+64<cLine->bw X (compareOp o) (r X.K)
 s:∀K,cj (aq K) (r K) g
theorem rR(o:Ox cl Γ E X):X.A.units+64<cLine:=by have:=o.r.un; lia
noncomputable def aV(z:Cq g)(a:VE aB)(b:VE bU):VQ (iy g aB bU) where
 ck Γ e:=uT e λx aK bA _=>aP aK λp bH=>aQ bH (aP bA λy cJ=>aQ cJ (decide (p=z.o)&&a.ck Γ x&&b.ck Γ y && !behindInMarks p y))
 cs:=a.cs++b.cs
 ok q O h:=by
  walk_at "o"
  simp only[an]at h
  obtain⟨⟨⟨h1,h2⟩,h3⟩,h4⟩:=h
  cases of_decide_eq_true h1
  have pa:=a.ok (ml q) O h2
  have pb:=b.ok (mr q) O h3
  have h4:=(Bool.not_eq_true' _).mp h4
  exact⟨(abP (z.p _ (rR O)) pa pb h4).imp λ_ _ _=>zO (z.s _),(abQ (z.p _ (rR O)) pa pb h4).imp λ_ _ _ h=>nq.imp (λ_=>zO (z.s _)) (zP h)⟩
noncomputable def GQ(g g':G2)(fa fb fc:EF):EF:=λρ=>(fa ρ).bind λp=>(fb p.2).bind λq=>(dr q.2 p.1).bind λa=>(dr q.2 q.1).bind λb=>(g a b).bind λz=>(qR z.1).bind λk =>
 if k=true then(fc q.2).bind λs=>(dr s.2 q.1).bind λb=>(dr s.2 s.1).bind λc=>(g' b c).bind λz=>.ok (.v z.1 z.2,s.2)else .ok (eB false,q.2)
theorem Q9(o:cj t.K r g)(o':cj t.K r' g')(h:Te t (GQ g g' fa fb fc) σ H Q):DG r r' (Te t fa) (Te t fb) (Te t fc) σ H Q:=by
 obtain⟨R,ρ,G,F,e,h⟩:=h
 refine cZ e .refl h λp h x G1 H1 F1 e1 s1 v1=>cZ e1 s1 h λq h y G2 H2 F2 e2 s2 v2=>?_
 obtain⟨a,k1,h⟩:=h.okb (gW _ _)
 obtain⟨b,k2,h⟩:=h.okb (gW _ _)
 obtain⟨z,k3,h⟩:=h.okb (o.nx a b)
 obtain⟨k,k4,h⟩:=h.okb (Qt _)
 refine o.ok G2 H2 x y a b _ e2.sub (gY e2 (v1.step e1.tb s2) k1) (gY e2 v2 k2) (by
  rw[k3]
  refine λv G3 H3 w vn=>?_
  obtain⟨e3,s3⟩:=e2.grow w.gw
  have GR:=(s1.trans s2).trans s3
  refine⟨k,Qu (K:=t.K) (G:=G3) (H:=H3) (.inl ?_) k4,?_⟩
  .obtain⟨T,fr⟩:=z
   cases fr
   .exact vn
   .obtain⟨_,_,_,_,rfl,_⟩:=vn; cases k4
  split at h <;> rename_i c
  .rw[if_pos c]
   refine cZ e3 GR h λu h w G4 H4 F4 e4 s4 v4=>?_
   obtain⟨b',k5,h⟩:=h.okb (gW _ _)
   obtain⟨c',k6,h⟩:=h.okb (gW _ _)
   obtain⟨z',k7,h⟩:=h.okb (o'.nx b' c')
   exact o'.ok G4 H4 y w b' c' Q e4.sub (gY e4 ((v2.step e2.tb s3).step e3.tb s4) k5) (gY e4 v4 k6) (by rw[k7]; exact λv G' H' w vn=>e4.fin (GR.trans s4) w.gw vn h)
  .rw[if_neg c]
   exact h _ G3 H3 F2 e3 GR (.low (.bl _)))
noncomputable def rT(z:Cq g)(z':Cq g')(a:VE aB)(b:VE bU)(d:VE d_f):VQ (GQ g g' aB bU d_f) where
 ck Γ e:=uT e λx aK bA _=>aP aK λp bH=>aP bH λp' cJ=>aQ cJ (aP bA λy eE=>aP eE λw fW=>aQ fW (decide (p=z.o)&&decide (p'=z'.o)&&a.ck Γ x&&b.ck Γ y&&d.ck Γ w && !lastMarks [p,p'] [y,w]))
 cs:=a.cs++(b.cs++d.cs)
 ok q O h:=by
  walk_at "o"
  simp only[an]at h
  obtain⟨⟨⟨⟨⟨h1,h2⟩,h3⟩,h4⟩,h5⟩,h6⟩:=h
  cases of_decide_eq_true h1
  cases of_decide_eq_true h2
  have pa:=a.ok (ml q) O h3
  have pb:=b.ok (ml (mr q)) O h4
  have pd:=d.ok (mr (mr q)) O h5
  have h6:=(Bool.not_eq_true' _).mp h6
  exact⟨(abR (z.p _ (rR O)) (z'.p _ (rR O)) pa pb pd h6).imp λ_ _ _=>Q9 (z.s _) (z'.s _),(abS (z.p _ (rR O)) (z'.p _ (rR O)) pa pb pd h6).imp λ_ _ _ h=>nq.imp (λ_=>Q9 (z.s _) (z'.s _)) (zP h)⟩
noncomputable def cQ(a:VT aB):VT (zQ aB) where
 ck Γ e:=pK e λaK x _=>jM aK .Not (a.ck Γ x)
 cs:=a.cs
 ok q O h:=by
  walk_at "o"
  exact(aa7 (a.ok q O h)).imp λ_ _ _=>ae0
noncomputable def Ra:Expr->Bool
 |.UnaryOp .Not _ _=>false
 |.BoolOp .. => false
 |.IfExp .. => false
 |.Compare .. => false
 |_=>true
theorem ae6(h:Ra e=true):∀whole,isTrue e env whole=(do let v <-whole; standAt e.pos; holding [v] (truthy v)):=by
 intro w
 cases e <;> try cases h
 all_goals first|rfl|skip
 next o _ _=>cases o <;> first|rfl|cases h
noncomputable def bL(a:VE aB):VT (Gz aB) where
 ck Γ e:=Ra e&&a.ck Γ e
 cs:=a.cs
 ok q O h:=by
  simp only[an]at h
  refine(abU (a.ok q O h.2) (ae6 h.1)).imp λσ H Q=>bD λR ρ G F e h=>cZ e .refl h λp h x G1 H1 F1 e1 s1 v1=>?_
  obtain⟨a,k1,h⟩:=h.okb (gW _ _)
  obtain⟨b,k2,h⟩:=h.okb (aes _)
  exact⟨b,aeu e1.sub (gY e1 v1 k1) k2,h G1 H1 F1 e1 s1⟩
theorem PW.imp(h:PW X e t)(i:∀σ H Q,u σ H Q->t σ H Q):PW X e u:=⟨λwh pins s σ H Q I q=>h.run wh pins s σ H Q I (i σ H Q q)⟩
noncomputable abbrev VW(b:BoolOp)(f:BF):=Vn λcl E X e=>∀p,PW X (.BoolOp b e p) (Tt (tx cl E X) f)
noncomputable def w1(b:BoolOp)(a:VT aB):VW b (aB) where
 ck Γ e:=aP e λx aK=>aQ aK (a.ck Γ x)
 cs:=a.cs
 ok q O h:=by
  walk_at "o"
  exact λp=>by cases b <;> first|exact aa3 (a.ok q O h)|exact aa4 (a.ok q O h)
noncomputable def wA(a:VT aB)(r:VW .And cV):VW .And (GC aB cV) where
 ck Γ e:=aP e λx aK=>aP aK λy l=>a.ck Γ x&&r.ck Γ (y::l)
 cs:=a.cs++r.cs
 ok q O h:=by
  walk_at "o"
  simp only[an]at h
  exact λp=>(aa5 (a.ok (ml q) O h.1) (r.ok (mr q) O h.2 p)).imp λ_ _ _=>ae1
noncomputable def wO(a:VT aB)(r:VW .Or cV):VW .Or (GD aB cV) where
 ck Γ e:=aP e λx aK=>aP aK λy l=>a.ck Γ x&&r.ck Γ (y::l)
 cs:=a.cs++r.cs
 ok q O h:=by
  walk_at "o"
  simp only[an]at h
  exact λp=>(aa6 (a.ok (ml q) O h.1) (r.ok (mr q) O h.2 p)).imp λ_ _ _=>ae2
noncomputable def tW(b:BoolOp)(r:VW b cV):VT (cV) where
 ck Γ e:=uU e λp l _=>decide (p=b)&&r.ck Γ l
 cs:=r.cs
 ok q O h:=by
  walk_at "o"
  simp only[an]at h
  cases of_decide_eq_true h.1
  exact(r.ok q O h.2 _).pt
noncomputable abbrev VV(b:BoolOp)(f:EF):=Vn λcl E X e=>∀p,PE X (.BoolOp b e p) (Te (tx cl E X) f)
noncomputable def u1(b:BoolOp)(a:VE aB):VV b (aB) where
 ck Γ e:=aP e λx aK=>aQ aK (a.ck Γ x)
 cs:=a.cs
 ok q O h:=by
  walk_at "o"
  exact λp=>aa8 (a.ok q O h)
noncomputable def uA(a:VE aB)(r:VV .And cV):VV .And (GK aB cV) where
 ck Γ e:=aP e λx aK=>aP aK λy l=>a.ck Γ x&&r.ck Γ (y::l)
 cs:=a.cs++r.cs
 ok q O h:=by
  walk_at "o"
  simp only[an]at h
  exact λp=>(aa9 (a.ok (ml q) O h.1) (r.ok (mr q) O h.2 p)).imp λ_ _ _=>ae4
noncomputable def vV(b:BoolOp)(r:VV b cV):VE (cV) where
 ck Γ e:=uU e λp l _=>decide (p=b)&&r.ck Γ l
 cs:=r.cs
 ok q O h:=by
  walk_at "o"
  simp only[an]at h
  cases of_decide_eq_true h.1
  exact r.ok q O h.2 _
noncomputable def GX(t:VT GZ)(a:VE aB)(b:VE bU):VE (u6 GZ aB bU) where
 ck Γ e:=yV e λz x y _=>t.ck Γ z&&a.ck Γ x&&b.ck Γ y
 cs:=t.cs++(a.cs++b.cs)
 ok q O h:=by
  walk_at "o"
  simp only[an]at h
  exact(abd (t.ok (ml q) O h.1.1) (a.ok (ml (mr q)) O h.1.2) (b.ok (mr (mr q)) O h.2)).imp λ_ _ _=>ae3
noncomputable def u9:Expr->Bool
 |.Slice .. => false
 |_=>true
theorem zR(h:u9 b=true):O3 b:=λo i=>by
 cases b <;> first|rfl|cases h
noncomputable def aA(a:VE aB)(b:VE bU):VE (iy aW aB bU) where
 ck Γ e:=jK e λx y _=>u9 y&&a.ck Γ x&&b.ck Γ y
 cs:=a.cs++b.cs
 ok q O h:=by
  walk_at "o"
  simp only[an]at h
  exact(yw yx (a.ok (ml q) O h.1.2) (b.ok (mr q) O h.2) (zR h.1.1)).imp λ_ _ _=>zO Qo
section
variable {t:Tx}{K:PySem.W.Frag}{R:Addr->Prop}{ρ : En}{σ : St}{G H G0 H0 G' H':Hp}{F F0:Fp}{Q:VK}
theorem dY.step(tb:bx K H)(s:aC K G H F G' H' F'):∀{vs:List V} {rs:List Rv},dY K σ Hs G H F vs rs->dY K σ Hs G' H' F' vs rs
 |_,_,.nil=>.nil
 |_,_,.cons h r=>.cons (h.step tb s) (dY.step tb s r)
theorem dY.back(d:∀b,H1 b=none->H b=none):∀{vs:List V} {rs:List Rv},dY K σ H1 G' H' F' vs rs->dY K σ H G' H' F' vs rs
 |_,_,.nil=>.nil
 |_,_,.cons h r=>.cons (h.back d) (dY.back d r)
theorem dY.length:∀{vs:List V} {rs:List Rv},dY K σ Hs G H F vs rs->vs.length=rs.length
 |_,_,.nil=>rfl
 |_,_,.cons _ r=>by rw[List.length_cons,List.length_cons,dY.length r]
noncomputable def drs(ρ : En):List Rv->Rs (List Tr)
 | []=>.ok []
 |r::rs=>(dr ρ r).bind λt=>(drs ρ rs).bind λts=>.ok (t::ts)
theorem zT{α β : Type}{r:Rs α}{f : α -> Rs β}(h1:∀c,r ≠ .ex c)(h2:∀a c,f a ≠ .ex c)(c:Str):r.bind f ≠ .ex c:=by
 cases r with
 |bad=>intro z; cases z
 |ex d=>exact(h1 d rfl).elim
 |ok a=>exact h2 a c
theorem eY{α β : Type}{r:Rs α}{f : α -> Rs β}{b : β}(h:r.bind f=.ok b):∃a,r=.ok a/\f a=.ok b:=by
 cases r with
 |bad=>cases h
 |ex c=>cases h
 |ok a=>exact⟨a,rfl,h⟩
theorem vd(ρ : En):∀(rs:List Rv) (c:Str),drs ρ rs ≠ .ex c
 | [],c=>by intro z; cases z
 |r::rs,c=>zT (gW ρ r) (λ_=>zT (vd ρ rs) λ_ _ z=>by cases z) c
theorem vf(e:Ok K R ρ σ G H F):∀{vs:List V} {rs:List Rv} {ts:List Tr},dY K σ Hs G H F vs rs->drs ρ rs=.ok ts->mD K G H vs ts
 |_,_,_,.nil,q=>by cases q; exact .nil
 |_,_,_,.cons h r,q=>by
  obtain⟨t,q1,q⟩:=eY q
  obtain⟨ts,q2,q⟩:=eY q
  cases q
  exact .cons (gY e h q1) (vf e r q2)
noncomputable def cls:List Rv->Rs (List Tr)
 | []=>.ok []
 |.v t _::rs=>(cls rs).bind λts=>.ok (t::ts)
 |.s _::_=>.bad
theorem nW:∀(rs:List Rv) (c:Str),cls rs ≠ .ex c
 | [],c=>by intro z; cases z
 |.s _::_,c=>by intro z; cases z
 |.v t _::rs,c=>zT (nW rs) (λ_ _ z=>by cases z) c
theorem dY.vis(nR:∀b,Hs b=none->¬R b){rs:List Rv}:∀{vs:List V} {ts:List Tr} {G1:Hp},dY K σ Hs G H F vs rs->cls rs=.ok ts->Same G G1->Ok K R ρ σ G1 H F->(∀b,G1 b≠none->G b≠none\/Hs b=none) ->
  ∃G2,Same G1 G2/\Ok K R ρ σ G2 H F/\(∀b,G2 b≠none->G b≠none\/Hs b=none)/\au K G2 vs ts:=by
 induction rs with
 |nil =>
  intro vs ts G1 h q _ e n
  cases h
  cases q
  exact⟨G1,Same.refl _,e,n,.nil⟩
 |cons r0 rs ih =>
  intro vs ts G1 h q m e n
  cases h with
  |cons h r =>
   cases r0 with
   |s _=>cases q
   |v T fr =>
    obtain⟨ts,q1,q⟩:=eY q
    cases q
    cases fr with
    |false =>
     obtain⟨G2,m2,e2,n2,r2⟩:=ih r q1 m e n
     exact⟨G2,m2,e2,n2,.cons (Rep.mono (m.trans m2) h.1) r2⟩
    |true =>
     obtain⟨⟨a,xs,us,e1,e2,hs,_,ha,ra⟩,f⟩:=h
     obtain⟨e',m'⟩:=e.show ha (f rfl a e1) (nR a hs)
     obtain⟨G2,m2,e3,n2,r2⟩:=ih r q1 (m.trans m') e' λb z=>by
      by_cases y:b=a
      .subst y; exact .inr hs
      .rw[aD y]at z; exact n b z
     subst e1; subst e2
     exact⟨G2,m'.trans m2,e3,n2,.cons (.lst (aL.of (m2 a _ bJ)) (ra.mono (m.trans (m'.trans m2)))) r2⟩
theorem Ok.vis(e:Ok K R ρ σ G H F)(e0:Ok K R ρ0 σ0 G0 H0 F0)(s:aC K G0 H0 F0 G H F)(h:dY K σ H0 G H F vs rs)(q:cls rs=.ok ts):∃G2,Ok K R ρ σ G2 H F/\aC K G0 H0 F0 G2 H F/\Same G G2/\au K G2 vs ts:=by
 obtain⟨G2,m,e2,n,r⟩:=h.vis (λb=>e0.rn) q (Same.refl _) e λb z=>.inl z
 exact⟨G2,e2,⟨s.gg.trans m,s.fr,λb z=>(n b z).elim (s.nw b) λz=>.inr (.inl z),s.nf,s.dm⟩,m,r⟩
noncomputable def jE:Rv->Rs Tr
 |.v T _=>.ok T
 |.s _=>.bad
theorem zU(r:Rv)(c:Str):jE r ≠ .ex c:=by cases r <;> (intro z; cases z)
theorem Ok.pU(e:Ok K R ρ σ G H F)(e0:Ok K R ρ0 σ0 G0 H0 F0)(s:aC K G0 H0 F0 G H F)(h:fJ K σ H0 G H F v r)(q:jE r=.ok T):∃G2,Ok K R ρ σ G2 H F/\aC K G0 H0 F0 G2 H F/\Same G G2/\Rep K G2 v T:=by
 cases r with
 |s i=>cases q
 |v U fr =>
  cases q
  obtain⟨G2,e2,s2,m,r⟩:=e.vis (vs:=[v]) e0 s (.cons h .nil) rfl
  cases r with
  |cons r _=>exact⟨G2,e2,s2,m,r⟩
noncomputable def fO:AF:=λρ=>.ok ([],ρ)
noncomputable def fX(f:EF)(g:AF):AF:=λρ=>(f ρ).bind λp=>(g p.2).bind λq=>.ok (p.1::q.1,q.2)
end
noncomputable def ao:VA fO where
 ck _ e:=e.isEmpty
 cs:=[]
 ok:=@λ_ _ _ X e _ _ h=>by
  cases e <;> try cases h
  exact⟨yr.imp λσ H Q=>bD λR ρ G F e h=>h [] G H F e .refl .nil,λρ p h=>(by cases h; rfl),λ_ z=>nomatch z⟩
noncomputable def ak(a:VE aB)(r:VA cV):VA (fX aB cV) where
 ck Γ e:=aP e λx y=>notStar x&&a.ck Γ x&&r.ck Γ y
 cs:=a.cs++r.cs
 ok q O h:=by
  walk_at "o"
  simp only[an]at h
  obtain⟨pb,lb,nb⟩:=r.ok (mr q) O h.2
  exact⟨(rA (a.ok (ml q) O h.1.2) pb (iH h.1.1)).imp λσ H Q=>bD λR ρ G F e h=>cZ e .refl h λp h x G1 H1 F1 e1 s1 v1=>mj e1 s1 h λq h xs G2 H2 F2 e2 s2 v2=>h (x::xs) G2 H2 F2 e2 (s1.trans s2) (.cons (v1.step e1.tb s2) (v2.back s1.dm)),λρ p q=>(by
   obtain⟨a,q1,q⟩:=eY q
   obtain⟨b,q2,q⟩:=eY q
   cases q
   rw[List.length_cons,lb _ _ q2,List.length_cons]),List.forall_mem_cons.mpr ⟨h.1.1,nb⟩⟩
theorem kj:∀{es:List Expr},(∀x∈es,notStar x=true)->∀env,(backTo pos (starEach es env)).any (·.1)=false
 | [],_,_=>rfl
 |e::es,h,env=>by
  rw[iH (h e (List.mem_cons_self ..))]
  exact kj (λx q=>h x (List.mem_cons_of_mem _ q)) env
noncomputable def Rb(g:AF):EF:=λρ=>(g ρ).bind λp=>(cls p.1).bind λts=>if ts.length<=1000 then .ok (.v (.lst ts) true,p.2)else .bad
noncomputable def G8(g:AF):EF:=λρ=>(g ρ).bind λp=>(cls p.1).bind λts=>if ts.length<=1000 then .ok (.v (.tup ts) false,p.2)else .bad
noncomputable def gD(a:VA aB):VE (G8 aB) where
 ck Γ e:=j8 e λl _ _=>a.ck Γ l
 cs:=a.cs
 ok q O h:=by
  walk_at "o"
  refine(Oe (a.ok q O h).1).imp λσ H Q=>bD λR ρ G F e h=>mj e .refl h λp h vs G1 H1 F1 e1 s1 v1=>?_
  obtain⟨ts,k1,h⟩:=h.okb (nW _)
  obtain⟨G2,e2,s2,_,r⟩:=e1.vis e s1 v1 k1
  split at h
  .exact⟨by rw[r.length]; exact Nat.le_trans ‹_› (by decide),λp hp=>e2.fin s2 (.new e2.sub hp) (.newT e2.sub hp r) h⟩
  .exact h.elim
noncomputable def rW(a:VA aB):VE (Rb aB) where
 ck Γ e:=uV e λl _=>a.ck Γ l
 cs:=a.cs
 ok q O h:=by
  walk_at "o"
  refine(Og (a.ok q O h).1).imp λσ H Q=>bD λR ρ G F e h=>mj e .refl h λp h vs G1 H1 F1 e1 s1 v1=>?_
  obtain⟨ts,k1,h⟩:=h.okb (nW _)
  obtain⟨G2,e2,s2,_,r⟩:=e1.vis e s1 v1 k1
  split at h
  .exact⟨by rw[r.length]; exact Nat.le_trans ‹_› (by decide),λp hp=>e2.fin s2 (.flt e2.sub hp) (.flt e2.sub hp r) h⟩
  .exact h.elim
open Classical in
noncomputable def pW(G H0:Hp):Hp->Hp:=λH b=>if H0 b=none then H b else if H b=G b then G b else none
theorem G9(G H0:Hp):Pj (pW G H0) H0:=⟨λs b o h=>(by
  unfold pW at h ⊢
  split at h
  .rw[if_pos ‹_›]; exact s b o h
  .rw[if_neg ‹_›]
   split at h
   .rename_i e
    rw[h]at e ⊢
    rw[if_pos (s b o e)]
   .cases h),λH b o h=>(by
  unfold pW at h
  split at h
  .exact h
  .split at h
   .rw[‹H b=G b›]; exact h
   .cases h),λs h=>by
  unfold pW
  rw[if_pos (s.free h),bJ]⟩
theorem Rf{K:PySem.W.Frag}(g:Same G H)(s:Same H H'):Gw K G H (pW G H H') H':=⟨λb o h=>by
  have q:=s b o (g b o h)
  unfold pW
  rw[if_neg (by rw[g b o h]; exact λz=>by cases z),q,h]
  exact if_pos rfl,λb o h _=>s b o h,(G9 G H).sub H',λt=>t.fr λb o _ h=>s b o h,λb h=>by
  unfold pW at h
  split at h
  .exact .inr ‹_›
  .split at h
   .exact .inl h
   .exact(h rfl).elim⟩
noncomputable def Lr(Ts:List Tr):EF:=λρ=>.ok (.v (.lst Ts) true,ρ)
mutual
noncomputable def Rg:Tr->Tr->Bool
 |.non,.non=>true
 |.bl a,.bl b=>a == b
 |.int a,.int b=>decide (a=b)
 |.str a,.str b=>a == b
 |.tup a,.tup b=>vg a b
 |.lst a,.lst b=>vg a b
 |_,_=>false
noncomputable def vg:List Tr->List Tr->Bool
 | [],[]=>true
 |a::l,b::m=>Rg a b&&vg l m
 |_,_=>false
end
mutual
theorem ae7:∀{a b:Tr},Rg a b=true->a=b
 |.non,b,h=>by cases b <;> first|rfl|cases h
 |.bl a,b,h=>by cases b <;> first|cases h; done|rw[eq_of_beq h]
 |.int a,b,h=>by cases b <;> first|cases h; done|rw[of_decide_eq_true h]
 |.str a,b,h=>by cases b <;> first|cases h; done|rw[eq_of_beq h]
 |.tup a,b,h=>by cases b <;> first|cases h; done|rw[zV h]
 |.lst a,b,h=>by cases b <;> first|cases h; done|rw[zV h]
 |.bR a,b,h=>by cases h
theorem zV:∀{a b:List Tr},vg a b=true->a=b
 | [],[],_=>rfl
 |a::l,b::m,h=>by
  obtain⟨h1,h2⟩:=an.mp h
  rw[ae7 h1,zV h2]
end
noncomputable def Hf:Option (List Tr)->List Tr->Bool
 |some Us,Ts=>vg Us Ts
 |none,_=>false
theorem Rh(h:Hf o Ts=true):o=some Ts:=by
 cases o <;> first|cases h; done|rw[zV h]
noncomputable def pX(Ts:List Tr):VE (eC (.tup Ts)) where
 ck _ e:=j8 e λl _ _=>Hf (ig l) Ts
 cs:=[]
 ok:=@λ_ _ _ X e _ _ h=>by
  walk_at "o"
  refine(aeF (G:=aq X.K) (Rh h)).imp λσ H Q ⟨R,ρ,G,F,e,h⟩ v H' s r=>?_
  exact e.fin .refl (Rf e.sub s) (show VN _ _ _ _ _ _ false from r _ (G9 _ _)) h
noncomputable def Hg(Ts:List Tr):VE (Lr Ts) where
 ck _ e:=uV e λl _=>Hf (ig l) Ts
 cs:=[]
 ok:=@λ_ _ _ X e _ _ h=>by
  walk_at "o"
  refine(aeE (G:=aq X.K) (Rh h)).imp λσ H Q ⟨R,ρ,G,F,e,h⟩ a xs H1 s ha r _=>?_
  obtain⟨e1,s1⟩:=e.grow (Rf e.sub s)
  exact e1.fin s1 (.flt e1.sub ha) (.flt e1.sub ha (r _ (G9 _ _))) h
noncomputable def Lp:OF:=λρ=>.ok (none,ρ)
noncomputable def Ri(fa:EF):OF:=λρ=>(fa ρ).bind λp=>(dr p.2 p.1).bind λa=>(rP a).bind λb=>.ok (some b,p.2)
noncomputable def oN:VO Lp where
 ck _ e:=e.isNone
 cs:=[]
 ok:=@λ_ _ _ X e _ _ h=>by
  cases e <;> try cases h
  exact acM.imp λσ H Q=>bD λR ρ G F e h=>h G H F e .refl
noncomputable def oS(a:VE aB):VO (Ri aB) where
 ck Γ e:=j9 e λx=>a.ck Γ x
 cs:=a.cs
 ok q O h:=by
  walk_at "o"
  refine(acN (a.ok q O h)).imp λσ H Q=>bD λR ρ G F e h=>cZ e .refl h λp h x G1 H1 F1 e1 s1 v1=>?_
  obtain⟨a,k1,h⟩:=h.okb (gW _ _)
  obtain⟨b,k2,h⟩:=h.okb (Qv _)
  exact⟨b,Qw (gY e1 v1 k1) k2,h G1 H1 F1 e1 s1⟩
noncomputable def cut{α : Type}(xs:List α)(lo hi:Option Int):List α := (xs.drop (HT.aO xs.length 0 lo)).take (HT.aO xs.length xs.length hi-HT.aO xs.length 0 lo)
theorem au.cut{K:PySem.W.Frag}{H:Hp}{xs:List V}{ts:List Tr}(r:au K H xs ts)(lo hi:Option Int):au K H (nA xs lo hi) (L2.cut ts lo hi):=by
 unfold nA L2.cut
 rw[r.length]
 exact(r.drop _).take _
noncomputable def Rj(K:PySem.W.Frag):V->Option Int->Option Int->Hp->VK->Prop:=λx lo hi H Q=>O8 K x lo hi H Q\/OD K x lo hi H Q
theorem ae8:lU X (Rj X.K):=lU.or ac0 acP
noncomputable def oW(lo hi:Option Int):G1
 |.lst ts=>.ok (.lst (cut ts lo hi),true)
 |.tup ts=>if ¬(HT.aO ts.length 0 lo=0/\HT.aO ts.length ts.length hi=ts.length)then .ok (.tup (cut ts lo hi),false)else .bad
 |_=>.bad
theorem Rk{K:PySem.W.Frag}(lo hi:Option Int):j7 (aq K) (λx H Q=>Rj K x lo hi H Q) (oW lo hi):=⟨λa c=>by unfold oW; (repeat' split) <;> (intro z; cases z),λG H x a Q s rx h=>by
 cases a <;> try exact h.elim
 .dsimp only[oW]at h
  split at h
  .obtain⟨b,xs,rfl,q,r⟩:=rx.tup s
   exact .inr ⟨b,xs,rfl,q.toK,by rw[r.length]; assumption,λy hy=>h _ _ _ (.new s hy) (.newT s hy (r.cut _ _))⟩
  .exact h.elim
 .obtain⟨b,xs,rfl,q,r⟩:=rx.lst s
  exact .inl ⟨b,xs,rfl,q.toK,λy hy=>h _ _ _ (.flt s hy) (.flt s hy (r.cut _ _))⟩⟩
noncomputable def Rn(fa:EF)(fl fh:OF):EF:=λρ=>(fa ρ).bind λp=>(fl p.2).bind λl=>(fh l.2).bind λh=>(dr h.2 p.1).bind λa=>(oW l.1 h.1 a).bind λz=>.ok (.v z.1 z.2,h.2)
noncomputable def vSl(a:VE aB)(l:VO l_f)(r:VO cV):VE (Rn aB l_f cV) where
 ck Γ e:=jK e λx aK _=>yW aK λy z bA _=>pP bA (a.ck Γ x&&l.ck Γ y&&r.ck Γ z)
 cs:=a.cs++(l.cs++r.cs)
 ok q O h:=by
  walk_at "o"
  simp only[an]at h
  refine(acO ae8 (a.ok (ml q) O h.1.1) (l.ok (ml (mr q)) O h.1.2) (r.ok (mr (mr q)) O h.2)).imp λσ H Q=>bD λR ρ G F e h=>cZ e .refl h λp h x G1 H1 F1 e1 s1 v1=>Qk e1 s1 h λl h G2 H2 F2 e2 s2=>Qk e2 (s1.trans s2) h λu h G3 H3 F3 e3 s3=>?_
  obtain⟨a,k1,h⟩:=h.okb (gW _ _)
  obtain⟨z,k2,h⟩:=h.okb ((Rk (K:=[]) _ _).nx _)
  exact(Rk l.1 u.1).ok G3 H3 x a Q e3.sub (gY e3 (v1.step e1.tb (s2.trans s3)) k1) (by rw[k2]; exact λv G' H' w vn=>e3.fin ((s1.trans s2).trans s3) w.gw vn h)
noncomputable def pY(Γ : Gx)(x:Str)(as:VA gF):Expr->Bool
 |.Call (.Name y _) (e::es) [] _=>y == x&&ju Γ x&&as.ck Γ (e::es)
 |_=>false
theorem vh(h:pY Γ x as e=true):∃p a es q,e=.Call (.Name x p) (a::es) [] q/\ju Γ x=true/\as.ck Γ (a::es)=true:=by
 unfold pY at h
 split at h
 case h_2=>cases h
 simp only[an]at h
 cases eq_of_beq h.1.1
 exact⟨_,_,_,_,rfl,h.1.2,h.2⟩
noncomputable def nY(g:GN)(fa:AF):EF:=λρ=>(fa ρ).bind λp=>(drs p.2 p.1).bind λas=>(g as).bind λz=>.ok (.v z.1 z.2,p.2)
theorem Ro{t:Tx}(o:yP t.K r g)(h:Te t (nY g fa) σ H Q):yt r (Ta t fa) σ H Q:=by
 obtain⟨R,ρ,G,F,e,h⟩:=h
 refine mj e .refl h λp h xs G1 H1 F1 e1 s1 v1=>?_
 obtain⟨as,k1,h⟩:=h.okb (vd _ _)
 obtain⟨z,k3,h⟩:=h.okb (o.nx as)
 exact o.ok G1 H1 xs as Q e1.sub (vf e1 v1 k1) (by rw[k3]; exact λv G' H' w vn=>e1.fin s1 w.gw vn h)
noncomputable def vB(x:Str)(u:Value)(r:PySem.W.Frag->List V->Hp->VK->Prop)(g:List Tr->Rs (Tr × Bool))(hv:bootBuiltins x=some u/\x ≠ "__name__" /\ ((∃i,u=.builtin i)\/∃i,u=.type i)) (hp:∀{cl Γ E X},Ox cl Γ E X->eV X u (r X.K)) (hs:∀K,yP (aq K) (r K) g) (as:VA gF):VE (nY g gF) where
 ck Γ e := Γ.B.contains x&&pY Γ x as e
 cs:=as.cs
 ok q o h:=by
  obtain⟨h1,h⟩:=an.mp h
  obtain⟨p,a,es,p',rfl,h2,h3⟩:=vh h
  obtain⟨pa,la,na⟩:=as.ok q o h3
  obtain⟨hv1,hv2,⟨i,rfl⟩|⟨i,rfl⟩⟩:=hv
  .exact(Ou (hp o) (dz o h2).1 (o.B x (by simpa using h1)) hv1 pa hv2 (dz o h2).2 (iH (na _ (List.mem_cons_self ..))) (kj (λy m=>na y (List.mem_cons_of_mem _ m)) _)).imp λ_ _ _=>Ro (hs _)
  .exact(acq (hp o) (dz o h2).1 (o.B x (by simpa using h1)) hv1 pa hv2 (dz o h2).2 (iH (na _ (List.mem_cons_self ..))) (kj (λy m=>na y (List.mem_cons_of_mem _ m)) _)).imp λ_ _ _=>Ro (hs _)
noncomputable def Rq(c:Ty)(fa:EF):EF:=λρ=>(fa ρ).bind λp=>(dr p.2 p.1).bind λa=>.ok (eB (rG a c),p.2)
noncomputable def zW(x:Str)(ty:Ty)(hb:bootBuiltins x=some (.type ty.name)/\x ≠ "__name__") (a:VE aB):VE (Rq ty aB) where
 ck Γ e:=gC e λaK bA bH _=>atName aK λy _=>aP bA λb cJ=>aP cJ λeE fW=>atName eE λz _=>aQ fW (aQ bH (y == ("isinstance" : Str)&&ju Γ y&&z == x&&ju Γ z&&Γ.B.contains y&&Γ.B.contains z&&a.ck Γ b&&notStar b))
 cs:=a.cs
 ok q o h:=by
  walk_at "o"
  simp only[an]at h
  obtain⟨⟨⟨⟨⟨⟨⟨h1,h2⟩,h3⟩,h4⟩,h5⟩,h6⟩,h7⟩,h8⟩:=h
  cases eq_of_beq h1
  cases eq_of_beq h3
  refine(ado o.x ty (a.ok q o h7) (o.B _ (by simpa using h5)) (o.B _ (by simpa using h6)) hb.1 (dz o h2).1 (dz o h4).1 hb.2 (dz o h4).2 (iH h8)).imp λσ H Q=>bD λR ρ G F e h=>cZ e .refl h λp h x G1 H1 F1 e1 s1 v1=>?_
  obtain⟨a,k1,h⟩:=h.okb (gW _ _)
  exact⟨x,a,ty,rfl,((gY e1 v1 k1).rep e1.sub).toK,h _ G1 H1 F1 e1 s1 (.low (.bl _))⟩
noncomputable def pZ(G G':Hp):Prop:=∀b o,lZ o=false->G b=some o->G' b=some o
theorem pZ.jJ{K:PySem.W.Frag}{G G':Hp}(m:pZ G G')(h:aX K G a xs):aX K G' a xs:=by
 rcases h with(h|⟨o,h⟩)|h
 .exact .inl (.inl (m _ _ rfl h))
 .exact .inl (.inr ⟨o,m _ _ rfl h⟩)
 .exact .inr h
theorem Rr{K:PySem.W.Frag}{G G':Hp}(m:pZ G G'):(∀{v T},Rep K G v T->bh T=true->Rep K G' v T)/\∀{vs Ts},au K G vs Ts->bT Ts=true->au K G' vs Ts:=by
 refine Rep.both (λ_=>.non) (λb _=>.bl b) (λi _=>.int i) (λx _=>.str x) (λa xs ts h q n=>?_) (λa xs ts h q n=>?_) (λa C c h k n _=>.bR (m _ _ rfl h) k n) (λ_=>.nil) λx t xs ts p q n=>?_
 .exact .tup (m.jJ h) (q (by unfold bh at n; exact n))
 .unfold bh at n; cases n
 .unfold bT at n
  obtain⟨n1,n2⟩:=an.mp n
  exact .cons (p n1) (q n2)
theorem Rep.flat{K:PySem.W.Frag}{G G':Hp}(m:pZ G G'){v:V}{T:Tr}(h:Rep K G v T)(n:bh T=true):Rep K G' v T:=(Rr m).1 h n
theorem au.flat{K:PySem.W.Frag}{G G':Hp}(m:pZ G G'){v:List V}{T:List Tr}(h:au K G v T)(n:bT T=true):au K G' v T:=(Rr m).2 h n
noncomputable def wL(G H:Hp):Hp:=λb=>match G b with
 |some o=>some o
 |none=>match H b with
  |some o=>if lZ o=true then some o else none
  |none=>none
theorem rY(h:G b=some o):wL G H b=some o:=by unfold wL; rw[h]
theorem p7(h:wL G H b=some o):G b=some o\/G b=none/\H b=some o/\lZ o=true:=by
 unfold wL at h
 split at h
 .exact .inl (by rw[<-h]; assumption)
 .split at h
  .split at h <;> cases h
   exact .inr ⟨‹_›,‹_›,‹_›⟩
  .cases h
theorem Rw(h:H b=some o)(m:lZ o=true)(n:G b=none):wL G H b=some o:=by unfold wL; rw[n,h]; exact if_pos m
theorem Rx(h:H b=some (.lst xs))(n:G b=none):wL G H b=some (.lst xs):=Rw h rfl n
noncomputable def wB(G H G':Hp):Hp:=λb=>match wL G H b with
 |some _=>G b
 |none=>G' b
noncomputable def p8:Rv->Bool
 |.s _=>true
 |_=>false
noncomputable def gj(z:Tr × Bool):Bool:=bh z.1 || (z.2&&(match z.1 with
 |.lst us=>bT us
 |_=>false))
section
variable {K:PySem.W.Frag}{G H G' H':Hp}
theorem Hh(s:Same G H)(w:Gw K (wL G H) H G' H'):Gw K G H (wB G H G') H':=by
 have low:Same (wB G H G') G':=λb o h=>by
  unfold wB at h
  split at h
  .exact w.gg b o (rY h)
  .exact h
 refine⟨λb o h=>by unfold wB; rw[rY h]; exact h,w.hh,low.trans w.sub,w.tb,λb h=>?_⟩
 cases q:G b with
 |some o=>exact .inl λz=>by cases z
 |none =>
  unfold wB at h
  split at h
  .exact(h q).elim
  .rename_i z
   exact .inr ((w.nw b h).elim (λy=>(y z).elim) id)
theorem zX(w:Gw K (wL G H) H G' H'):pZ G' (wB G H G'):=λb o n h=>by
 unfold wB
 split
 .rename_i u z
  have y:=w.gg b _ z
  rw[h]at y
  cases y
  rcases p7 z with z|⟨_,_,z⟩
  .exact z
  .rw[n]at z; cases z
 .exact h
theorem VN.flat(s:Same G H)(w:Gw K (wL G H) H G' H')(h:VN K H G' H' v T fr)(f:gj (T,fr)=true):VN K H (wB G H G') H' v T fr:=by
 cases fr with
 |false=>exact Rep.flat (zX w) h (by simpa[gj]using f)
 |true =>
  obtain⟨a,xs,ts,e1,rfl,e3,e4,e5,r⟩:=h
  refine⟨a,xs,ts,e1,rfl,e3,?_,e5,r.flat (zX w) (by simpa[gj,bh]using f)⟩
  unfold wB
  split
  .exact s.free e3
  .exact e4
theorem mD.reps(s:Same G H):∀{vs:List V} {ts:List Tr},mD K G H vs ts->au K (wL G H) vs ts
 |_,_,.nil=>.nil
 |_,_,.cons (.inl h) r=>.cons (h.mono λ_ _=>rY) (mD.reps s r)
 |_,_,.cons (.inr ⟨a,xs,ts,e1,e2,q,r0⟩) r=>by
  subst e1 e2
  refine .cons (.lst (aL.of ?_) (r0.mono λ_ _=>rY)) (mD.reps s r)
  cases z:G a with
  |none=>exact Rx q z
  |some o=>have y:=s a o z; rw[q]at y; cases y; exact rY z
end
theorem Ry:∀{rs:List Rv} {ts:List Tr},drs ρ rs=.ok ts->rs.any p8=false->cls rs=.ok ts
 | [],_,h,_=>h
 |.s _::_,_,_,n=>by simp[p8]at n
 |.v T fr::rs,_,h,n=>by
  obtain⟨ts,q2,q⟩:=eY (show((drs ρ rs).bind _)=_ from h)
  cases q
  unfold cls
  rw[Ry q2 (by simpa[p8]using n)]
  rfl
noncomputable def qj(f:FP)(fa:AF):EF:=λρ=>(fa ρ).bind λp=>(drs p.2 p.1).bind λas=>(f as).bind λz=>if p.1.any p8=true/\gj z=false then .bad else .ok (.v z.1 z.2,p.2)
theorem Fr.none{K:PySem.W.Frag}(h:Fr K H (λ_=>[]) H'):Fr K H F H':=⟨λb o q _=>h.fr b o q λ⟨_,z⟩=>(by cases z),h.tb⟩
theorem ae9(hn:∀ρ p,fa ρ=.ok p->p.1.length=n)(h:Te (tx cl E X) (qj f fa) σ H Q):DX (nU X.K cl n f) [] E (Ta (tx cl E X) fa) σ H Q:=by
 obtain⟨R,ρ,G,F,e,h⟩:=h
 cases ek:fa ρ with
 |bad=>rw[qj,ek]at h; exact h.elim
 |ex c=>exact⟨R,ρ,G,F,e,by rw[qj,ek]at h; rw[ek]; exact h⟩
 |ok p =>
 refine⟨R,ρ,G,F,e,?_⟩
 simp only[qj,ek,Rs.bind]at h
 rw[ek]
 intro vs G1 H1 F1 e1 s1 v1
 obtain⟨as,k1,h⟩:=h.okb (vd _ _)
 show nU X.K cl n f (vs++[]) H1 Q E
 rw[List.append_nil]
 have fin:∀Gc,au (aq X.K) Gc vs as->Same Gc H1->(∀b,Tb (aq X.K) b->Gc b=none)->(∀z,f as=.ok z->∀v G' H',Gw (aq X.K) Gc H1 G' H'->VN (aq X.K) H1 G' H' v z.1 z.2->Q v H')->nU X.K cl n f vs H1 Q E:=λGc r s tg k=>by
  refine⟨Gc,as,by rw[v1.length,hn ρ p ek],r,s,e1.tb,tg,?_⟩
  cases ef:f as with
  |bad=>rw[ef]at h; exact h.elim
  |ex c=>rw[ef]at h; exact λH' q=>h H' (s1.back q.none)
  |ok z=>exact k z ef
 by_cases a:p.1.any p8=true
 .refine fin (wL G1 H1) ((vf e1 v1 k1).reps e1.sub) (λb o q=>(p7 q).elim (e1.sub b o) λq=>q.2.1) (λb t=>?_) λz ef v G' H' w vn=>?_
  .cases q:wL G1 H1 b with
   |none=>rfl
   |some o =>
    rcases p7 q with q|⟨_,q,m⟩
    .rw[e1.tg b t]at q; cases q
    .exact(e1.tb.nm q m t).elim
  .simp only[ef,Rs.bind]at h
   split at h
   .exact h.elim
   .rename_i c
    exact e1.fin s1 (Hh e1.sub w) (vn.flat e1.sub w (by cases q:gj z with|true=>rfl|false=>exact(c ⟨a,q⟩).elim)) h
 .obtain⟨G2,e2,s2,_,r⟩:=e1.vis e s1 v1 (Ry k1 (by simpa using a))
  refine fin G2 r e2.sub e2.tg λz ef v G' H' w vn=>?_
  simp only[ef,Rs.bind]at h
  rw[if_neg λy=>a y.1]at h
  exact e2.fin s2 w vn h
noncomputable def vF(x:Str)(ps:List Str)(f:FP)(l:Nat)(as:VA gF):VE (qj f gF) where
 ck Γ e:=gC e λ_ m _ _=>m.length == ps.length&&decide (l <= Γ.k)&&pY Γ x as e
 cs:=.fn x ps f l::as.cs
 ok q o h:=by
  obtain⟨_,_,_,_,e0,h⟩:=wX h
  subst e0
  simp only[an]at h
  obtain⟨⟨h1,h0⟩,h⟩:=h
  obtain⟨p,a,es,p',e',h2,h3⟩:=vh h
  cases e'
  obtain⟨D,q⟩:=List.forall_mem_cons.mp q
  obtain⟨pa,la,na⟩:=as.ok q o h3
  rw[eq_of_beq h1]at la
  obtain⟨d,fd,d1,d2,d3,d4⟩:=iI.mono D (of_decide_eq_true h0)
  exact(Eb d1 o.r (dz o h2).1 d4 d3 d2 .nil o.e pa (dz o h2).2 (iH (na _ (List.mem_cons_self ..))) (kj (λy m=>na y (List.mem_cons_of_mem _ m)) _)).imp λ_ _ _=>ae9 la
noncomputable def cW(F:Fp)(i:Nat)(f:List Addr):Fp:=λj=>if j=i then f else F j
theorem jw(h:Fn (cW F i f) b):b∈f\/∃j,j≠i/\b∈F j:=by
 obtain⟨j,h⟩:=h
 unfold cW at h
 split at h
 .exact .inl h
 .exact .inr ⟨j,‹_›,h⟩
section
variable {t:Tx}{K:PySem.W.Frag}{R:Addr->Prop}{ρ ρ':En}{σ σ':St}{G H G0 H0 G' H':Hp}{F F0 F':Fp}{Q:VK}
theorem Ok.one(e:Ok K R ρ σ G H F)(i:Nat)(f:List Addr)(len : ρ'.length = σ'.length)(ne:∀j,j≠i -> ρ'[j]?=ρ[j]? /\ σ'[j]?=σ[j]?)(gg:Same G G')(sub:Same G' H')(tb:bx K H')(hG:∀b,G' b≠none->G b≠none\/(∀j,j≠i->b∉F j)/\¬Tb K b/\¬R b)
  (hh:∀j,j≠i->∀b∈F j,∀o,H b=some o->H' b=some o) (hr:∀b,R b->H' b≠none) (hf:∀b∈f,G' b=none/\∀j,j≠i->b∉F j) (si:dw K R G' H' σ'[i]? f ρ'[i]?):Ok K R ρ' σ' G' H' (cW F i f):=by
 have no:∀b,G b=none->(∃j,j≠i/\b∈F j)\/Tb K b\/R b->G' b=none:=λb q c=>by
  cases z:G' b with
  |none=>rfl
  |some o =>
   rcases hG b (by rw[z]; exact λz=>by cases z)with y|⟨y1,y2,y3⟩
   .exact(y q).elim
   .rcases c with⟨j,c1,c2⟩|c|c
    .exact(y1 j c1 c2).elim
    .exact(y2 c).elim
    .exact(y3 c).elim
 refine⟨len,sub,tb,λb t=>no b (e.tg b t) (.inr (.inl t)),λb h=>?_,λb h=>⟨no b (e.rg b h).1 (.inr (.inr h)),hr b h⟩,λj k b h1 h2=>?_,λj=>?_⟩
 .rcases jw h with h|⟨j,n,h⟩
  .exact(hf b h).1
  .exact no b (e.hid b ⟨j,h⟩) (.inl ⟨j,n,h⟩)
 .unfold cW at h1 h2
  split at h1 <;> split at h2
  .rw[‹j=i›,‹k=i›]
  .exact((hf b h1).2 k ‹_› h2).elim
  .exact((hf b h2).2 j ‹_› h1).elim
  .exact e.di j k b h1 h2
 .unfold cW
  split
  .rw[‹j=i›]; exact si
  .rw[(ne j ‹_›).1,(ne j ‹_›).2]
   exact(e.sl j).mono gg (hh j ‹_›)
theorem fL{α : Type}{l:List α}{a : α}(h:j≠i):(l.set i a)[j]?=l[j]? := List.getElem?_set_ne (Ne.symm h)
theorem eO{α : Type}{l:List α}{a : α}(h:i<l.length):(l.set i a)[i]?=some a:=by
 rw[List.getElem?_set_self',List.getElem?_eq_getElem h]
 rfl
theorem nZ{α : Type}{l:List α}{a : α}(h:¬i<l.length):l.set i a=l:=List.set_eq_of_length_le (Nat.le_of_not_lt h)
theorem aC.sub(h:∀b,Fn F' b->Fn F b):aC K G H F G H F':=⟨Same.refl _,λ_ _ h _ _=>h,λ_ h=>.inl h,λb z=>.inr (h b z),λ_ h=>h⟩
theorem Ok.Hi(e:Ok K R ρ σ G H F)(i:Nat)(r:Rep K G v T):∃F',Ok K R (ρ.set i (.sh T)) (σ.set i (some v)) G H F'/\∀b,Fn F' b->Fn F b:=by
 by_cases l:i < ρ.length
 .refine⟨cW F i [],e.one i [] (by rw[List.length_set,List.length_set,e.len]) (λj n=>⟨fL n,fL n⟩) (Same.refl _) e.sub e.tb (λb h=>.inl h) (λ_ _ _ _ _ h=>h) (λb h=>(e.rg b h).2) (λb h=>by cases h) ?_,λb h=>?_⟩
  .rw[eO l,eO (e.len▸l)]
   exact⟨rfl,v,rfl,r⟩
  .rcases jw h with h|⟨j,_,h⟩
   .cases h
   .exact⟨j,h⟩
 .rw[nZ l,nZ (e.len▸l)]
  exact⟨F,e,λb h=>h⟩
theorem Ok.afa(e:Ok K R ρ σ G H F)(i:Nat)(h:H a=some (.lst xs))(g:G a=none)(n:¬Fn F a)(nR:¬R a)(r:au K G xs ts):∃F',Ok K R (ρ.set i (.ow ts)) (σ.set i (some (.ref a))) G H F'/\∀b,Fn F' b->b=a\/Fn F b:=by
 by_cases l:i < ρ.length
 .refine⟨cW F i [a],e.one i [a] (by rw[List.length_set,List.length_set,e.len]) (λj n=>⟨fL n,fL n⟩) (Same.refl _) e.sub e.tb (λb h=>.inl h) (λ_ _ _ _ _ h=>h) (λb h=>(e.rg b h).2) (λb h=>?_) ?_,λb h=>?_⟩
  .cases List.mem_singleton.mp h
   exact⟨g,λj _ z=>n ⟨j,z⟩⟩
  .rw[eO l,eO (e.len▸l)]
   exact⟨a,xs,rfl,rfl,nR,h,r⟩
  .rcases jw h with h|⟨j,_,h⟩
   .exact .inl (List.mem_singleton.mp h)
   .exact .inr ⟨j,h⟩
 .rw[nZ l,nZ (e.len▸l)]
  exact⟨F,e,λb h=>.inr h⟩
noncomputable def con(ρ : En)(i:Nat):Rs (List Tr):=match ρ[i]? with
 |some (.ow ts)=>.ok ts
 |some (.rf ts)=>.ok ts
 |_=>.bad
theorem zY(ρ : En)(i:Nat)(c:Str):con ρ i ≠ .ex c:=by
 unfold con
 split <;> (intro z; cases z)
noncomputable def bM(i:Nat)(us:List Tr)(ρ : En):En:=match ρ[i]? with
 |some (.ow _)=>ρ.set i (.ow us)
 |some (.rf _)=>ρ.set i (.rf us)
 |_=>ρ
theorem Ok.con(e:Ok K R ρ σ G H F)(q:con ρ i=.ok ts):∃a xs,σ[i]?=some (some (.ref a))/\F i=[a]/\H a=some (.lst xs)/\au K G xs ts:=by
 have z:=e.sl i
 unfold L2.con at q
 split at q <;> rename_i k <;> cases q <;> (rw[k]at z; obtain⟨a,xs,h1,h2,_,h3,h4⟩:=z; exact⟨a,xs,h1,h2,h3,h4⟩)
theorem Hj(h:j≠i):(bM i ts ρ)[j]?=ρ[j]? := by
 unfold bM
 split
 .exact fL h
 .exact fL h
 .rfl
theorem Hl:(bM i us ρ).length = ρ.length:=by
 unfold bM
 split
 .rw[List.length_set]
 .rw[List.length_set]
 .rfl
theorem Ok.mov(e:Ok K R ρ σ G H F)(q:L2.con ρ i=.ok ts)(f:F i=[a])(g:Gw K G (upd H a (.lst ys)) G' H')(hx:H' a=some (.lst xs))(r:au K G' xs us):Ok K R (bM i us ρ) σ G' H' F/\aC K G H F G' H' F:=by
 have ha:Fn F a:=⟨i,by rw[f]; exact List.mem_singleton.mpr rfl⟩
 obtain⟨zs,hz,mz⟩:=e.fl ha
 have ne:∀b o,H b=some o->b≠a->¬Tb K b->H' b=some o:=λb o h n t=>g.hh b o (by rw[aD n]; exact h) t
 have nn:∀b,upd H a (.lst ys) b=none->H b=none:=λb h=>by
  by_cases z:b=a
  .subst z; rw[bJ]at h; cases h
  .rw[aD z]at h; exact h
 have tb:=g.tb (e.tb.Fo hz mz)
 have dm:∀b,H' b=none->H b=none:=λb h=>by
  cases q:H b with
  |none=>rfl
  |some o =>
   by_cases z:b=a
   .subst z; rw[hx]at h; cases h
   .by_cases t:Tb K b
    .obtain⟨ps,y⟩:=tb.bO t; rw[h]at y; cases y
    .rw[ne b o q z t]at h; cases h
 have nw:∀b,G' b≠none->G b≠none\/H b=none:=λb h=>(g.nw b h).imp id (nn b)
 have eF:cW F i [a]=F:=by funext j; unfold cW; split <;> first|rfl|rw[‹j=i›,f]
 refine⟨eF▸e.one i [a] (by rw[Hl,e.len]) (λj n=>⟨Hj n,rfl⟩) g.gg g.sub tb (λb h=>(nw b h).imp id λz=>⟨λj _ y=>e.fs z ⟨j,y⟩,λt=>?_,e.rn z⟩) (λj n b hb o h=>?_) (λb h z=>(e.rg b h).2 (dm b z)) (λb h=>?_) ?_,g.gg,λb o h n t=>ne b o h (λz=>n (z▸ha)) t,λb h=>(nw b h).imp id .inl,λb h=>.inr h,dm⟩
 .obtain⟨ps,y⟩:=e.tb.bO t; rw[z]at y; cases y
 .obtain⟨_,q,m⟩:=e.fl ⟨j,hb⟩
  exact ne b o h (λz=>n (e.di j i b hb (by rw[f,z]; exact List.mem_singleton.mpr rfl))) (e.tb.nm q m)
 .cases List.mem_singleton.mp h
  refine⟨?_,λj n z=>n (e.di j i a z (by rw[f]; exact List.mem_singleton.mpr rfl))⟩
  cases q:G' a with
  |none=>rfl
  |some o=>exact((nw a (by rw[q]; exact λz=>by cases z)).elim (λz=>z (e.hid a ha)) λz=>by rw[hz]at z; cases z).elim
 .have z:=e.sl i
  unfold L2.con at q
  unfold bM
  split at q <;> rename_i k <;> cases q <;>
  .rw[k]at z
   obtain⟨b,_,h1,h2,h3,_⟩:=z
   rw[f]at h2
   cases h2
   rw[eO (List.getElem?_eq_some_iff.mp k).1]
   exact⟨a,xs,h1,rfl,h3,hx,r⟩
theorem Ok.put(e:Ok K R ρ σ G H F)(q:L2.con ρ i=.ok ts)(f:F i=[a])(r:au K G xs us):Ok K R (bM i us ρ) σ G (upd H a (.lst xs)) F/\aC K G H F G (upd H a (.lst xs)) F:=by
 refine e.mov q f (ys:=xs) (.refl λb o h=>?_) bJ r
 rw[aD λz=>?_]
 .exact e.sub b o h
 .rw[z,e.hid a ⟨i,by rw[f]; exact List.mem_singleton.mpr rfl⟩]at h
  cases h
end
noncomputable abbrev GM:=List Tr->List Tr->Rs (List Tr × Tr)
structure Ho(r:V->List V->Hp->VK->Prop)(m:GM):Prop where
 nx:∀ts as c,m ts as ≠ .ex c
 ok:∀(K:PySem.W.Frag) (G:Hp) a xs ts vs as H Q ts' T,H a=some (.lst xs)->au K G xs ts->au K G vs as->m ts as=.ok (ts',T)->(∀xs' v,au K G xs' ts'->Rep K G v T->Q v (upd H a (.lst xs')))->r (.ref a) vs H Q
noncomputable def zZ(i:Nat)(m:GM)(fa:AF):EF:=λρ=>(con ρ i).bind λ_=>(fa ρ).bind λp=>(cls p.1).bind λas=>(con p.2 i).bind λts=>(m ts as).bind λz=>.ok (.v z.2 false,bM i z.1 p.2)
theorem Rz(h:∀x∈e::es,notStar x=true)(l:(e::es).length<30):((backTo p (starEach (e::es) env)).all (λx=>!x.1)&&(backToKw p (keywordEach [] env)).all (λx=>x.1.isSome)&&decide ((e::es).length+([]:List Keyword).length+(if([]:List Keyword).isEmpty then 0 else 1)<30))=true:=by
 have:(backTo p (starEach (e::es) env)).all (λx=>!x.1)=true:=by
  have:=kj (pos:=p) h env
  rw[List.all_eq_not_any_not]
  simpa using this
 rw[this]
 simpa[keywordEach,backToKw]using l
noncomputable def vM(nm:Str)(id:String)(r:V→List V→Hp→VK→Prop)(m:GM)(hp:Slot "list" nm id∧typeOf (.builtin id)=pure (.type "method_descriptor")∧∀X,Ei X id r) (hs:Ho r m) (i:Nat) (as:VA gF):VE (zZ i m gF) where
 ck Γ e:=gC e λaK bA bH q=>jL aK λcJ a p=>atName cJ λx _=>aP bA λy l=>aQ bH (a == nm&&d8 Γ i x&&decide ((y::l).length<30)&&p.endLine == q.line&&as.ck Γ (y::l))
 cs:=as.cs
 ok q o h:=by
  walk_at "o"
  simp only[an]at h
  obtain⟨⟨⟨⟨h1,h2⟩,h3⟩,h4⟩,h5⟩:=h
  cases eq_of_beq h1
  obtain⟨pa,la,na⟩:=as.ok q o h5
  refine(ac5 PySem.F.plainAttrs_list hp.1 hp.2.1 (hp.2.2 _) (fV o h2) pa rfl (Rz na (of_decide_eq_true h3)) h4 (iH (na _ (List.mem_cons_self ..))) (kj (λy m=>na y (List.mem_cons_of_mem _ m)) _)).imp λσ H Q=>bD λR ρ G F e h=>?_
  obtain⟨us,k0,h⟩:=h.okb (zY _ _)
  obtain⟨a,xs,hi,_,hx,_⟩:=e.con k0
  refine⟨_,hi,.inl ⟨rfl,xs,aL.of hx⟩,mj e .refl h λp h vs G1 H1 F1 e1 s1 v1=>?_⟩
  obtain⟨as,k1,h⟩:=h.okb (nW _)
  obtain⟨ts,k2,h⟩:=h.okb (zY _ _)
  obtain⟨⟨ts',T⟩,k3,h⟩:=h.okb (hs.nx _ _)
  obtain⟨G2,e2,s2,_,r⟩:=e1.vis e s1 v1 k1
  obtain⟨a',ys,hi',hf,hy,ry⟩:=e2.con k2
  rw[hi]at hi'
  cases hi'
  refine hs.ok _ G2 a ys ts vs as H1 Q ts' T hy ry r k3 λxs' v r' rv=>?_
  obtain⟨e3,s3⟩:=e2.put k2 hf r'
  exact h v G2 _ F1 e3 (s2.trans s3) (.low rv)
noncomputable def ql:GM:=λts as=>match as with
 | [T]=>if ts.length<=100000 then .ok (ts++[T],.non)else .bad
 |_=>.bad
theorem afb:Ho Ek ql:=⟨λts as c=>by unfold ql; (repeat' split) <;> (intro z; cases z),λK G a xs ts vs as H Q ts' T hx r ra q h=>by
 unfold ql at q
 (repeat' split at q) <;> cases q
 cases ra with
 |cons h1 r1 =>
  cases r1
  exact⟨a,xs,_,rfl,rfl,hx,Nat.lt_of_le_of_lt (by rw[r.length]; assumption) (by decide),h _ _ (r.app (.cons h1 .nil)) .non⟩⟩
structure Rt(K:PySem.W.Frag)(R:Addr->Prop)(G H:Hp)(F:Fp)(G' H':Hp)(v:V)(T:Tr)(fr:Bool):Prop where
 gg:Same G G'
 fm:Fr K H F H'
 sub:Same G' H'
 nw:∀b,G' b≠none->G b≠none\/H b=none\/Fn F b
 rg:∀b,R b->G' b=none
 vl:match fr with
  |false=>Rep K G' v T
  |true=>∃a xs ts,v=.ref a/\T=.lst ts/\(H a=none\/Fn F a)/\¬R a/\G' a=none/\H' a=some (.lst xs)/\au K G' xs ts
noncomputable def n6(t:Tx)(R:Addr->Prop)(G H:Hp)(F:Fp)(D:Ends)(p:Fl × En):Prop:=match p.1 with
 |.nx=>∀σ' G' H' F',Ok t.K R p.2 σ' G' H' F'->aC t.K G H F G' H' F'->D.nx σ' H'
 |.bk=>∀σ' G' H' F',Ok t.K R p.2 σ' G' H' F'->aC t.K G H F G' H' F'->D.bk σ' H'
 |.ct=>∀σ' G' H' F',Ok t.K R p.2 σ' G' H' F'->aC t.K G H F G' H' F'->D.ct σ' H'
 |.rt T fr=>∀v G' H',Rt t.K R G H F G' H' v T fr->D.rt v H'
noncomputable def Ts(t:Tx)(f:SF):TS:=λD σ H=>∃R ρ G F,Ok t.K R ρ σ G H F/\bF t H F (f ρ) (n6 t R G H F D)
theorem Te.imp{t:Tx}(h:Te t f σ H Q)(k:∀v H',Q v H'->Q' v H'):Te t f σ H Q':=by
 obtain⟨R,ρ,G,F,e,h⟩:=h
 exact⟨R,ρ,G,F,e,h.go (aC.refl (G:=G)) λp h v G' H' F' e' s' v'=>k v H' (h v G' H' F' e' s' v')⟩
theorem PS.imp(h:PS X e t)(i:∀D σ H,u D σ H->t D σ H):PS X e u:=⟨λpins s σ H D I q=>h pins s σ H D I (i D σ H q)⟩
theorem cX.imp(h:cX X e t)(i:∀D σ H,u D σ H->t D σ H):cX X e u:=⟨λpins s σ H D I q=>h pins s σ H D I (i D σ H q)⟩
noncomputable abbrev VS(f:SF):=Vn λcl E X e=>PS X e (Ts (tx cl E X) f)
noncomputable abbrev VB(f:SF):=Vn λcl E X e=>cX X e (Ts (tx cl E X) f)
section
variable {t:Tx}{K:PySem.W.Frag}{R:Addr->Prop}{ρ : En}{σ : St}{G H G0 H0 G' H':Hp}{F F0 F':Fp}{D:Ends}
theorem Rt.back(s:aC K G0 H0 F0 G H F)(h:Rt K R G H F G' H' v T fr):Rt K R G0 H0 F0 G' H' v T fr:=by
 have ff:∀b,H b=none\/Fn F b->H0 b=none\/Fn F0 b:=λb=>λz=>z.elim (λz=>.inl (s.dm b z)) (s.nf b)
 refine⟨s.gg.trans h.gg,s.back h.fm,h.sub,λb z=>(h.nw b z).elim (s.nw b) λz=>.inr (ff b z),h.rg,?_⟩
 cases fr with
 |false=>exact h.vl
 |true =>
  obtain⟨a,xs,ts,e1,e2,e3,q⟩:=h.vl
  exact⟨a,xs,ts,e1,e2,ff a e3,q⟩
theorem n6.back(s:aC t.K G0 H0 F0 G H F)(h:n6 t R G0 H0 F0 D p):n6 t R G H F D p:=by
 obtain⟨fl,ρ⟩:=p
 cases fl with
 |nx=>exact λσ' G' H' F' e u=>h σ' G' H' F' e (s.trans u)
 |bk=>exact λσ' G' H' F' e u=>h σ' G' H' F' e (s.trans u)
 |ct=>exact λσ' G' H' F' e u=>h σ' G' H' F' e (s.trans u)
 |rt T fr=>exact λv G' H' r=>h v G' H' (r.back s)
theorem z6(e:Ok t.K R ρ σ G H F)(s:aC t.K G0 H0 F0 G H F)(h:bF t H0 F0 (f ρ) (n6 t R G0 H0 F0 D)):Ts t f D σ H:=⟨R,ρ,G,F,e,h.go s λ_=>n6.back s⟩
end
noncomputable def RB:SF:=λρ=>.ok (.nx,ρ)
noncomputable def b0:VB RB where
 ck _ e:=e.isEmpty
 cs:=[]
 ok:=@λ_ _ _ X e _ _ h=>by
  cases e <;> try cases h
  exact Dm.imp λD σ H=>bD λR ρ G F e h=>h σ G H F e .refl
noncomputable def b1(a:VS aB):VB aB where
 ck Γ e:=aP e λx aK=>aQ aK (a.ck Γ x)
 cs:=a.cs
 ok q O h:=by
  walk_at "o"
  exact xW (a.ok q O h)
noncomputable def z7(f g:SF):SF:=λρ=>(f ρ).bind λp=>match p.1 with
 |.nx=>g p.2
 |fl=>.ok (fl,p.2)
theorem afc{t:Tx}(h:Ts t (z7 f g) D σ H):Nj (Ts t f) (Ts t g) D σ H:=by
 obtain⟨R,ρ,G,F,e,h⟩:=h
 refine⟨R,ρ,G,F,e,h.run (aC.refl (G:=G)) λp h=>?_⟩
 obtain⟨fl,ρ1⟩:=p
 cases fl with
 |nx=>exact λσ1 G1 H1 F1 e1 s1=>z6 e1 s1 h
 |rt T fr=>exact h
 |bk=>exact h
 |ct=>exact h
noncomputable def bC(a:VS aB)(r:VB cV):VB (z7 aB cV) where
 ck Γ e:=aP e λx l=>a.ck Γ x&&r.ck Γ l
 cs:=a.cs++r.cs
 ok q O h:=by
  walk_at "o"
  simp only[an]at h
  exact(xV (a.ok (ml q) O h.1) (r.ok (mr q) O h.2)).imp λ_ _ _=>afc
noncomputable def n8(K:PySem.W.Frag)(g:GF)(js:List Nat):TG:=λv σ H Q=>∃R ρ G F T,Ok K R ρ σ G H F/\Rep K G v T/\Pz (g T ρ) λρ'=>∀σ' F',Ok K R ρ' σ' G H F'->(∀b,Fn F' b->Fn F b)->(∀k,k∉js -> σ'[k]?=σ[k]?)->Q σ' H
noncomputable def afd(K:PySem.W.Frag)(g:rK)(js:List Nat):o8:=λvs σ H Q=>∃R ρ G F Ts,Ok K R ρ σ G H F/\au K G vs Ts/\Pz (g Ts ρ) λρ'=>∀σ' F',Ok K R ρ' σ' G H F'->(∀b,Fn F' b->Fn F b)->(∀k,k∉js -> σ'[k]?=σ[k]?)->Q σ' H
theorem PG.imp(h:PG X e t)(i:∀v σ H Q,u v σ H Q->t v σ H Q):PG X e u:=λpins s σ H v w Q I r q=>h pins s σ H v w Q I r (i _ σ H Q q)
theorem nj.imp(h:nj X e t)(i:∀v σ H Q,u v σ H Q->t v σ H Q):nj X e u:=λpins s σ H v w Q I r q=>h pins s σ H v w Q I r (i _ σ H Q q)
theorem Pz.ok{α : Type}{r:Rs α}{P : α -> Prop}(h:Pz r P):∃a,r=.ok a/\P a:=by
 cases r with
 |ok a=>exact⟨a,rfl,h⟩
 |_=>exact h.elim
noncomputable abbrev VG(f:GF)(js:List Nat):=Vn λcl E X e=>PG X e (n8 (aq X.K) f js)/\(∀T ρ y,f T ρ ≠ .ex y)/\notStar e=true
noncomputable abbrev z8(f:rK)(js:List Nat):=Vn λcl E X e=>nj X e (afd (aq X.K) f js)/\(∀T ρ y,f T ρ ≠ .ex y)/\∀env,(assignEach e env).length=e.length/\(assignEach e env).findIdx? (·.1)=none
noncomputable def vm(Γ : Gx)(i:Nat)(x:Str):Bool := Γ.N[i]? == some x&&(Γ.sc.names.lookup x == some .local || Γ.sc.names.lookup x == some .cell&&Γ.fn x)
noncomputable def Wr(X:Cx)(i:Nat)(x:Str):Prop:=X.N[i]?=some x/\Loc X.env.scope x/\(X.fn x=true\/X.env.scope.names.lookup x=some .local)
theorem z9(o:Ox cl Γ E X)(h:vm Γ i x=true):Wr X i x:=by
 obtain⟨h1,h2⟩:=an.mp h
 refine⟨by rw[o.N]; exact eq_of_beq h1,?_⟩
 unfold Loc
 rw[o.s,o.f]
 rcases(Bool.or_eq_true _ _).mp h2 with h|h
 .exact⟨.inl (eq_of_beq h),.inr (eq_of_beq h)⟩
 .exact⟨.inr (eq_of_beq (an.mp h).1),.inl (an.mp h).2⟩
noncomputable def gN(i:Nat):GF:=λT ρ=>.ok (ρ.set i (.sh T))
theorem RD(T:Tr)(ρ : En)(c:Str):gN i T ρ ≠ .ex c:=by intro z; cases z
theorem RG{K:PySem.W.Frag}(h:n8 K (gN i) [i] v σ H Q):jY i v σ H Q:=by
 obtain⟨R,ρ,G,F,T,e,r,h⟩:=h
 obtain⟨F',e',s⟩:=e.Hi i r
 exact h _ F' e' s λk n=>fL λz=>n (by rw[z]; exact List.mem_singleton.mpr rfl)
noncomputable def gV(i:Nat):VG (gN i) [i] where
 ck Γ e:=atName e λx _=>vm Γ i x
 cs:=[]
 ok q o h:=by
  walk_at "o"
  obtain⟨w1,w2,w3⟩:=z9 o h
  exact⟨(abk o.d w1 w2 w3).imp λ_ _ _ _=>RG,RD,rfl⟩
noncomputable def vp:rK:=λTs ρ=>match Ts with
 | []=>.ok ρ
 |_=>.bad
noncomputable def kE(f:GF)(g:rK):rK:=λTs ρ=>match Ts with
 |T::r=>(f T ρ).bind λρ'=>g r ρ'
 | []=>.bad
noncomputable def kJ:z8 vp [] where
 ck _ e:=e.isEmpty
 cs:=[]
 ok:=@λ_ _ _ X e _ _ h=>by
  cases e <;> try cases h
  refine⟨abn.imp λvs σ H Q ⟨R,ρ,G,F,Ts,e,r,h⟩=>?_,λT _ _=>by cases T <;> (intro z; cases z),λ_=>⟨rfl,rfl⟩⟩
  cases r with
  |nil=>exact⟨rfl,h σ F e (λ_ z=>z) λ_ _=>rfl⟩
  |cons _ _=>exact h.elim
theorem Hq(h:notStar e=true):assignEach (e::es) env=(false,assign e env)::assignEach es env:=by
 cases e <;> first|rfl|cases h
noncomputable def eU(a:VG aB a_j)(r:z8 cV Hr):z8 (kE aB cV) (a_j++Hr) where
 ck Γ e:=aP e λx y=>a.ck Γ x&&r.ck Γ y
 cs:=a.cs++r.cs
 ok q O h:=by
  walk_at "o"
  simp only[an]at h
  obtain⟨pa,na,ea⟩:=a.ok (ml q) O h.1
  obtain⟨pb,nb,eb⟩:=r.ok (mr q) O h.2
  refine⟨(abo pa pb (by rw[Hq ea]; rfl)).imp λvs σ H Q ⟨R,ρ,G,F,Ts,e,r,h⟩=>?_,λTs ρ c=>?_,λenv=>?_⟩
  .cases r with
   |nil=>exact h.elim
   | @cons x T xs Ts r1 r2 =>
    obtain⟨ρ2,k,h⟩:=h.ok
    obtain⟨ρ1,k1,k2⟩:=eY k
    refine⟨x,xs,rfl,R,ρ,G,F,T,e,r1,?_⟩
    rw[k1]
    intro σ1 F1 e1 f1 n1
    refine⟨R,ρ1,G,F1,Ts,e1,r2,?_⟩
    rw[k2]
    refine λσ2 F2 e2 f2 n2=>h σ2 F2 e2 (λb z=>f1 b (f2 b z)) λk n=>?_
    rw[List.mem_append,not_or]at n
    rw[n2 k n.2,n1 k n.1]
  .cases Ts with
   |nil=>intro z; cases z
   |cons T r=>exact zT (na T ρ) (λρ'=>nb r ρ') c
  .rw[Hq ea]
   obtain⟨e1,e2⟩:=eb env
   exact⟨by rw[List.length_cons,e1,List.length_cons],by rw[List.findIdx?_cons,e2]; rfl⟩
noncomputable def gT(n:Nat)(f:rK):GF:=λT ρ=>match T with
 |.tup Ts=>if Ts.length=n then f Ts ρ else .bad
 |_=>.bad
noncomputable def kO(n:Nat)(r:z8 cV Hr):VG (gT n cV) Hr where
 ck Γ e:=j8 e λl _ _=>l.length == n&&r.ck Γ l
 cs:=r.cs
 ok q o h:=by
  walk_at "o"
  simp only[an]at h
  obtain⟨pb,nb,eb⟩:=r.ok q o h.2
  refine⟨(abq o.l pb ((eb _).1.trans (eq_of_beq h.1)) (eb _).2).imp λv σ H Q ⟨R,ρ,G,F,T,e,r,h⟩=>?_,λT ρ y=>?_,rfl⟩
  .cases T <;> try exact h.elim
   dsimp only[gT]at h
   split at h
   case isFalse=>exact h.elim
   cases r with
   | @tup a xs _ q r=>exact⟨a,xs,rfl,(e.sub.jJ q).toK,by rw[r.length]; assumption,R,ρ,G,F,_,e,r,h⟩
  .cases T <;> first|(intro z; cases z; done)|(dsimp only[gT]; split <;> first|exact nb _ _ _|(intro z; cases z))
noncomputable def kW:Expr->Bool
 |.ListComp .. => false
 |.SetComp .. => false
 |.DictComp .. => false
 |_=>true
theorem oh(h:kW e=true):swapsWith e t l env=pure false:=by
 cases e <;> first|rfl|(unfold kW at h; cases h)
noncomputable abbrev VC(f:EF):=Vn λcl E X e=>PE X e (Te (tx cl E X) f)/\∀i y p sp,Wr X i y->PS X (.Assign [.Name y p] e sp) (jZ (Te (tx cl E X) f) (jY i))
noncomputable def gG(a:VC f):VE f:=⟨a.ck,a.cs,λq O h=>(a.ok q O h).1⟩
noncomputable def aE(a:VE aB):VC aB where
 ck Γ e:=kW e&&a.ck Γ e
 cs:=a.cs
 ok q o h:=by
  simp only[an]at h
  have pa:=a.ok q o h.2
  exact⟨pa,λi y p sp w=>Dq o.d w.1 w.2.1 pa (oh h.1) w.2.2⟩
noncomputable def Aa(Γ : Gx)(i:Nat)(a:VC f):Stmt->Bool
 |.Assign [.Name x _] v _=>vm Γ i x&&a.ck Γ v
 |_=>false
theorem RJ{a:VC f}(q:∀y∈a.cs,y.ok cl X)(o:Ox cl Γ E X)(h:Aa Γ i a e=true):PS X e (jZ (Te (tx cl E X) f) (jY i)):=by
 unfold Aa at h
 split at h
 case h_2=>cases h
 simp only[an]at h
 exact(a.ok q o h.2).2 _ _ _ _ (z9 o h.1)
noncomputable def vq(f:EF)(g:GF):SF:=λρ=>(f ρ).bind λp=>match p.1 with
 |.v T _=>(g T p.2).bind λρ'=>.ok (.nx,ρ')
 |.s _=>.bad
theorem RK{t:Tx}(nx:∀T ρ y,g T ρ ≠ .ex y)(h:Ts t (vq f g) D σ H):jZ (Te t f) (n8 t.K g js) D σ H:=by
 obtain⟨R,ρ,G,F,e,h⟩:=h
 refine cZ e .refl h λp h v G1 H1 F1 e1 s1 v1=>?_
 obtain⟨r,ρ1⟩:=p
 cases r with
 |s i=>exact h.elim
 |v T fr =>
  obtain⟨G2,e2,s2,_,r⟩:=e1.pU e s1 v1 rfl
  obtain⟨ρ',k,h⟩:=h.okb (nx T ρ1)
  exact⟨R,ρ1,G2,F1,T,e2,r,by rw[k]; exact λσ' F' e' hf _=>h σ' G2 H1 F' e' (s2.trans (.sub hf))⟩
noncomputable def sA(i:Nat)(a:VC aB):VS (vq aB (gN i)) where
 ck Γ e:=Aa Γ i a e
 cs:=a.cs
 ok q o h:=(RJ q o h).imp λ_ _ _ h=>Te.imp (RK (js:=[i]) RD h) λ_ _=>RG
noncomputable def RL(i:Nat)(f:EF):SF:=λρ=>(f ρ).bind λp=>match p.1 with
 |.v (.lst ts) true=>.ok (.nx,p.2.set i (.ow ts))
 |_=>.bad
noncomputable def sO(i:Nat)(a:VC aB):VS (RL i aB) where
 ck Γ e:=Aa Γ i a e
 cs:=a.cs
 ok q o h:=by
  refine(RJ q o h).imp λD σ H=>bD λR ρ G F e h=>cZ e .refl h λp h v G1 H1 F1 e1 s1 v1=>?_
  obtain⟨r,ρ1⟩:=p
  dsimp only at h
  split at h
  case h_2=>exact h.elim
  obtain⟨⟨a,xs,us,rfl,z,n,g,hx,r⟩,f⟩:=v1
  cases z
  obtain⟨F',e',hf⟩:=e1.afa i hx g (f rfl a rfl) (e.rn n) r
  exact h _ G1 H1 F' e' ⟨s1.gg,s1.fr,s1.nw,λb z=>(hf b z).elim (λz=>.inl (z▸n)) (s1.nf b),s1.dm⟩
noncomputable def RM:Expr->Bool
 |.Tuple .. => false
 |_=>true
theorem afe(h:RM v=true):swappedStores [.Tuple l k p] v env=pure none:=by
 cases v <;> first|rfl|cases h
noncomputable def Ht(a:VE aB)(g:VG je kY):VS (vq aB je) where
 ck Γ e:=jr e λaK v _=>aP aK λbA bH=>j8 bA λl k p=>aQ bH (kW v&&RM v&&a.ck Γ v&&g.ck Γ (.Tuple l k p))
 cs:=a.cs++g.cs
 ok q o h:=by
  walk_at "o"
  simp only[an]at h
  obtain⟨⟨⟨h1,h2⟩,h3⟩,h4⟩:=h
  obtain⟨pg,ng,eg⟩:=g.ok (mr q) o h4
  exact(xY (a.ok (ml q) o h3) pg (by unfold swapsWithSole; exact oh h1) (afe h2) (by rw[Hq eg]; rfl)).imp λ_ _ _=>RK ng
noncomputable def Hu(Γ : Gx)(i:Nat)(x:Str):Bool := Γ.N[i]? == some x&&Γ.sc.names.lookup x == some .local
theorem rZ(o:Ox cl Γ E X)(h:Hu Γ i x=true):X.N[i]?=some x/\X.env.scope.names.lookup x=some .local:=by
 obtain⟨h1,h2⟩:=an.mp h
 exact⟨by rw[o.N]; exact eq_of_beq h1,by rw[o.s]; exact eq_of_beq h2⟩
theorem afg{env:Env}(n1:notStar u=true)(n2:notStar v=true)(k1:env.scope.names.lookup x=some .local)(k2:env.scope.names.lookup y=some .local)(h4:p.line=p'.line)(e1:(foldedForSure 8 u&&foldedForSure 8 v)=false)(e2:(constantsAlone 8 u&&constantsAlone 8 v)=false)(h8:x≠y)(h9:env.scope.kind=.function):swappedStores [.Tuple [.Name x p,.Name y p'] k q] (.Tuple [u,v] k' q') env=pure (some [x,y]):=by
 have kx:env.kindOf x=some .local:=k1
 have ky:env.kindOf y=some .local:=k2
 have hb:env.blockKind=.function:=by unfold Env.blockKind; rw[h9]; rfl
 unfold swappedStores
 have hy:(y == x)=false:=by simpa using λz=>h8 (z.symm)
 have hx:(x == y)=false:=by simpa using h8
 have ep:∀(z:Str) (p:Pos),(Expr.Name z p).pos=p:=λ_ _=>rfl
 simp[hb,kx,ky,h4,List.eraseDups,List.filterMap_cons,ep,List.eraseDupsBy,List.eraseDupsBy.loop,hx,hy]
 rw[if_neg]
 .rw[if_neg λh=>(by rw[h.1,h.2]at e1; cases e1),if_neg λh=>(by rw[h.1,h.2]at e2; cases e2)]
 .rintro(h|h)
  .cases u <;> first|cases h; done|cases n1
  .cases v <;> first|cases h; done|cases n2
noncomputable def RN(i j:Nat)(fa:AF):SF:=λρ=>(fa ρ).bind λp=>(cls p.1).bind λTs=>match Ts with
 | [T,U]=>.ok (.nx,(p.2.set i (.sh T)).set j (.sh U))
 |_=>.bad
noncomputable def RP(i j:Nat)(a:VA aB):VS (RN i j aB) where
 ck Γ e:=jr e λaK bA _=>aP aK λbH cJ=>j8 bH λeE _ _=>aP eE λfW jN=>atName fW λx p=>aP jN λvA vD=>atName vA λy p'=>aQ vD (aQ cJ (j8 bA λHv _ _=>aP Hv λu Hw=>aP Hw λv Hx=>aQ Hx (Hu Γ i x&&Hu Γ j y&&decide (i≠j)&&decide (p.line=p'.line)&&a.ck Γ [u,v] && !(foldedForSure 8 u&&foldedForSure 8 v) && !(constantsAlone 8 u&&constantsAlone 8 v)&&decide (x≠y)&&decide (Γ.sc.kind=.function))))
 cs:=a.cs
 ok q o h:=by
  walk_at "o"
  simp only[an]at h
  obtain⟨⟨⟨⟨⟨⟨⟨⟨h1,h2⟩,h3⟩,h4⟩,h5⟩,h6⟩,h7⟩,h8⟩,h9⟩:=h
  obtain⟨pa,_,na⟩:=a.ok q o h5
  refine(abu o.l o.d (rZ o h1).1 (rZ o h2).1 (of_decide_eq_true h3) (rZ o h1).2 (rZ o h2).2 pa (afg (na _ (List.mem_cons_self ..)) (na _ (List.mem_cons_of_mem _ (List.mem_cons_self ..))) (rZ o h1).2 (rZ o h2).2 (of_decide_eq_true h4) ((Bool.not_eq_true' _).mp h6) ((Bool.not_eq_true' _).mp h7) (of_decide_eq_true h8) (by rw[o.s]; exact of_decide_eq_true h9)) rfl).imp λD σ H=>bD λR ρ G F e h=>mj e .refl h λp h vs G1 H1 F1 e1 s1 v1=>?_
  obtain⟨Ts,k1,h⟩:=h.okb (nW _)
  obtain⟨G2,e2,s2,_,r⟩:=e1.vis e s1 v1 k1
  split at h
  case h_2=>exact h.elim
  cases r with
  |cons r1 r =>
   cases r with
   |cons r2 r =>
    cases r
    obtain⟨F3,e3,f3⟩:=e2.Hi i r1
    obtain⟨F4,e4,f4⟩:=e3.Hi j r2
    exact⟨_,_,rfl,h _ G2 H1 F4 e4 (s2.trans (.sub λb z=>f3 b (f4 b z)))⟩
noncomputable def Hy(f:EF):SF:=λρ=>(f ρ).bind λp=>.ok (.nx,p.2)
noncomputable def jf(a:VE aB):VS (Hy aB) where
 ck Γ e:=yZ e λx _=>kW x&&a.ck Γ x
 cs:=a.cs
 ok q o h:=by
  walk_at "o"
  simp only[an]at h
  exact(abh (a.ok q o h.2) (oh h.1)).imp λD σ H=>bD λR ρ G F e h=>cZ e .refl h λp h v G1 H1 F1 e1 s1 v1=>h σ G1 H1 F1 e1 s1
noncomputable def RQ(f:EF):SF:=λρ=>(f ρ).bind λp=>match p.1 with
 |.v T fr=>.ok (.rt T fr,p.2)
 |.s i=>match p.2[i]? with
  |some (.ow ts)=>.ok (.rt (.lst ts) true,p.2)
  |_=>.bad
noncomputable def aG(a:VE aB):VS (RQ aB) where
 ck Γ e:=pN e λaK _=>j9 aK λx=>a.ck Γ x
 cs:=a.cs
 ok q o h:=by
  walk_at "o"
  refine(xX (a.ok q o h)).imp λD σ H=>bD λR ρ G F e h=>cZ e .refl h λp h v G1 H1 F1 e1 s1 v1=>?_
  obtain⟨r,ρ1⟩:=p
  have rg:=λb z=>(e1.rg b z).1
  match r,h,v1 with
  |.v T false,h,v1=>exact h v G1 H1 ⟨s1.gg,⟨s1.fr,e1.tb⟩,e1.sub,s1.nw,rg,v1.1⟩
  |.v T true,h,⟨⟨a,xs,ts,q1,q2,n,g,q3,q4⟩,_⟩=>exact h v G1 H1 ⟨s1.gg,⟨s1.fr,e1.tb⟩,e1.sub,s1.nw,rg,a,xs,ts,q1,q2,.inl n,e.rn n,g,q3,q4⟩
  |.s i,h,v1 =>
   dsimp only at h
   split at h
   case h_2=>exact h.elim
   rename_i ts k
   have z:=e1.sl i
   rw[k]at z
   obtain⟨a,xs,h1,h2,h3,h4,h5⟩:=z
   have f:Fn F1 a:=⟨i,by rw[h2]; exact List.mem_singleton.mpr rfl⟩
   have v1 : σ[i]?=some (some v):=v1
   rw[h1]at v1
   cases v1
   exact h _ G1 H1 ⟨s1.gg,⟨s1.fr,e1.tb⟩,e1.sub,s1.nw,rg,a,xs,ts,rfl,rfl,s1.nf a f,h3,e1.hid a f,h4,h5⟩
noncomputable def Hz(c:BF)(f g:SF):SF:=λρ=>(c ρ).bind λp=>if p.1=true then f p.2 else g p.2
noncomputable def sI(t:VT GZ)(a:VB aB)(b:VB bU):VS (Hz GZ aB bU) where
 ck Γ e:=uW e λz x y _=>t.ck Γ z&&a.ck Γ x&&b.ck Γ y
 cs:=t.cs++(a.cs++b.cs)
 ok q o h:=by
  walk_at "o"
  simp only[an]at h
  refine(Nm (t.ok (ml q) o h.1.1) (a.ok (ml (mr q)) o h.1.2) (b.ok (mr (mr q)) o h.2)).imp λD σ H=>bD λR ρ G F e h=>mq e .refl h λp h G1 H1 F1 e1 s1=>?_
  split at h <;> rename_i c
  .rw[if_pos c]; exact z6 e1 s1 h
  .rw[if_neg c]; exact z6 e1 s1 h
noncomputable def cO(i:Nat)(ρ : En):En:=match ρ[i]? with
 |some (.ow ts)=>ρ.set i (.sh (.lst ts))
 |_=>ρ
theorem Ok.cO{K:PySem.W.Frag}(e:Ok K R ρ σ G H F)(i:Nat):∃G' F',Ok K R (L2.cO i ρ) σ G' H F'/\aC K G H F G' H F':=by
 unfold L2.cO
 split
 case h_2=>exact⟨G,F,e,.refl⟩
 rename_i ts k
 have z:=e.sl i
 rw[k]at z
 obtain⟨a,xs,h1,h2,h3,h4,h5⟩:=z
 have f:Fn F a:=⟨i,by rw[h2]; exact List.mem_singleton.mpr rfl⟩
 have g:=e.hid a f
 have m:Same G (upd G a (.lst xs)):=fD g _
 have l:=(List.getElem?_eq_some_iff.mp k).1
 refine⟨_,cW F i [],e.one (G':=upd G a (.lst xs)) i [] (by rw[List.length_set,e.len]) (λj n=>⟨fL n,rfl⟩) m (λb o q=>?_) e.tb (λb q=>?_) (λ_ _ _ _ _ h=>h) (λb h=>(e.rg b h).2) (λb h=>by cases h) ?_,m,λ_ _ h _ _=>h,λb q=>?_,λb z=>?_,λ_ h=>h⟩
 .by_cases z:b=a
  .subst z; rw[bJ]at q; rw[h4]; exact q
  .rw[aD z]at q; exact e.sub b o q
 .by_cases z:b=a
  .subst z; exact .inr ⟨λj n z=>n (e.di j i b z (by rw[h2]; exact List.mem_singleton.mpr rfl)),e.tb.nt h4,h3⟩
  .rw[aD z]at q; exact .inl q
 .rw[eO l]
  exact⟨rfl,.ref a,h1,.lst (aL.of bJ) (h5.mono m)⟩
 .by_cases z:b=a
  .subst z; exact .inr (.inr f)
  .rw[aD z]at q; exact .inl q
 .rcases jw z with z|⟨j,_,z⟩
  .cases z
  .exact .inr ⟨j,z⟩
noncomputable def RT(i:Nat)(f:SF):SF:=λρ=>f (cO i ρ)
noncomputable def sZ(i:Nat)(a:VS aB):VS (RT i aB) where
 ck:=a.ck
 cs:=a.cs
 ok q o h:=(a.ok q o h).imp λD σ H=>bD λR ρ G F e h=>by
  obtain⟨G',F',e',s'⟩:=e.cO i
  exact z6 e' s' h
noncomputable def afh(c:Str)(f:EF):SF:=λρ=>(f ρ).bind λ_=>.ex c
noncomputable def qm(x:Str)(a:VE aB):VS (afh x aB) where
 ck Γ e:=zf e λaK bA _=>j9 aK λbH=>gC bH λcJ eE fW _=>atName cJ λy _=>aP eE λv jN=>aQ jN (aQ fW (pP bA (y == x&&Γ.R.contains y&&ju Γ y&&notStar v&&a.ck Γ v)))
 cs:=a.cs
 ok q o h:=by
  walk_at "o"
  simp only[an]at h
  obtain⟨⟨⟨⟨h1,h2⟩,h3⟩,h4⟩,h5⟩:=h
  cases eq_of_beq h1
  exact(adv (o.R _ (by simpa using h2)).2 (o.R _ (by simpa using h2)).1 PySem.F.excBase_ValueError o.l (a.ok q o h5) (dz o h3).1 (dz o h3).2 (iH h4)).imp λD σ H=>bD λR ρ G F e h=>cZ e .refl h λp h v G1 H1 F1 e1 s1 v1=>⟨rfl,h H1 ⟨s1.fr,e1.tb⟩⟩
noncomputable def c7{α : Type}:Rs α -> Rs α
 |.bad=>.bad
 |.ex _=>.bad
 |.ok a=>.ok a
theorem PS.iY{X:Cx}{st:Stmt}{t:TS}(h:PS X.iY st t):PS X st t:=⟨λpins s σ H D I hw =>
 wpAny_mono (h pins s σ H D (I.wish _) hw) (λ_ _ q=>q.jH) λ_ _ z=>False.elim z⟩
noncomputable def vH(f:SF):SF:=λρ=>c7 (f ρ)
noncomputable def nG(Γ : Gx):Gx:={Γ with R:=[],nx:=true,L:=[] }
theorem afi(o:Ox cl Γ E X):Ox cl (nG Γ) E0 X.iY:=⟨o.N,o.s,o.d,o.l,o.r,Qc,o.B,(λ_ z=>nomatch z),o.x,o.f,(λ_=>rfl),λ_ z=>nomatch z⟩
noncomputable def sN(a:VS aB):VS (vH aB) where
 ck Γ e:=a.ck (nG Γ) e
 cs:=a.cs
 ok:=@λcl E Γ X e q o h=>(PS.iY (a.ok (X:=X.iY) q (afi o) h)).imp λD σ H=>bD λR ρ G F e h=>⟨R,ρ,G,F,e,by
  unfold vH at h
  cases k:aB ρ <;> rw[k]at h <;> first|exact h|exact h.elim⟩
theorem RV(o:Ox cl Γ E X)(h : Γ.nx=true):PassesOwn (model X.prog X.w) X.A X.env X.xe:=by
 rw[o.n h]; exact .never
noncomputable def vI(c:BF)(b:SF):Nat->SF
 | 0=>λ_=>.bad
 | n + 1=>λρ => (c ρ).bind λp=>if p.1=true then (b p.2).bind λq=>(match q.1 with
  |.nx=>vI c b n q.2
  |.ct=>vI c b n q.2
  |.bk=>.ok (.nx,q.2)
  |.rt T fr=>.ok (.rt T fr,q.2))else .ok (.nx,p.2)
noncomputable def RW(fu:En->Nat)(c:BF)(b:SF):SF:=λρ=>vI c b (fu ρ) ρ
noncomputable def sW(fu:En->Nat)(k:VT su)(b:VB bU):VS (RW fu su bU) where
 ck Γ e:=zj e λt l aK _=>aQ aK (Γ.nx&&k.ck Γ t&&b.ck Γ l)
 cs:=k.cs++b.cs
 ok:=@λcl E Γ X e q o h=>by
  walk_at "o"
  simp only[an]at h
  refine(abw (RV o h.1.1) (k.ok (ml q) o h.1.2) (b.ok (mr q) o h.2)).imp λD σ H=>bD λR ρ G F e h=>?_
  refine⟨λm σ' H'=>∃ρ' G' F',Ok (aq X.K) R ρ' σ' G' H' F'/\aC (aq X.K) G H F G' H' F'/\bF (tx cl E X) H F (vI su bU m ρ') (n6 (tx cl E X) R G H F D),⟨fu ρ,ρ,G,F,e,.refl,h⟩,?_⟩
  rintro m σ1 H1 ⟨ρ1,G1,F1,e1,s1,h1⟩
  cases m with
  |zero=>exact h1.elim
  |succ n =>
   refine mq e1 s1 h1 λp h G2 H2 F2 e2 s2=>?_
   split at h <;> rename_i d
   .rw[if_pos d]
    refine⟨_,λσ' H' q=>⟨n,Nat.lt_succ_self n,q⟩,R,p.2,G2,F2,e2,h.run (s1.trans s2) λq h=>?_⟩
    obtain⟨fl,ρ3⟩:=q
    cases fl with
    |nx=>exact λσ3 G3 H3 F3 e3 s3=>⟨ρ3,G3,F3,e3,(s1.trans s2).trans s3,h⟩
    |ct=>exact λσ3 G3 H3 F3 e3 s3=>⟨ρ3,G3,F3,e3,(s1.trans s2).trans s3,h⟩
    |bk=>exact λσ3 G3 H3 F3 e3 s3=>h σ3 G3 H3 F3 e3 ((s1.trans s2).trans s3)
    |rt T fr=>exact λv G' H' r=>h v G' H' (r.back (s1.trans s2))
   .rw[if_neg d]
    exact h σ1 G2 H2 F2 e2 (s1.trans s2)
noncomputable def Ab(K:PySem.W.Frag)(G:Hp)(J:It)(us:List Tr):Prop:=∀G' H',Same G G'->Same G' H'->∀i,(i=us.length->J.stop i H')/\∀u,us[i]?=some u->J.go i H'/\∀x dZ,J.pq i H' x dZ->∃G'',Gw K G' H' G'' dZ/\Rep K G'' x u
noncomputable def Ti(t:Tx)(f:IF):TI:=λσ H Q=>∃R ρ G F,Ok t.K R ρ σ G H F/\bF t H F (f ρ) λp=>∀J G' H' F',Ok t.K R p.2 σ G' H' F'->aC t.K G H F G' H' F'->Ab t.K G' J p.1->Q J H'
theorem PI.imp(h:PI X tg e t)(i:∀σ H Q,u σ H Q->t σ H Q):PI X tg e u:=λpins s σ H Q I q=>h pins s σ H Q I (i σ H Q q)
noncomputable def HB:Expr->Bool
 |.Set .. => false
 |_=>true
theorem ou(h:HB e=true)(x:Value):foldedSetIterable e env x=pure x:=by
 cases e <;> first|rfl|cases h
noncomputable abbrev VI(f:IF):=Vn (τ := Expr × Expr) λcl E X e=>PI X e.1 e.2 (Ti (tx cl E X) f)/\HB e.2=true
noncomputable def jO(g:GF)(b:SF):List Tr->SF
 | []=>λρ=>.ok (.nx,ρ)
 | u :: us=>λρ => (g u ρ).bind λρ1=>(b ρ1).bind λq=>(match q.1 with
  |.nx=>jO g b us q.2
  |.ct=>jO g b us q.2
  |.bk=>.ok (.nx,q.2)
  |.rt T fr=>.ok (.rt T fr,q.2))
noncomputable def RX(fi:IF)(g:GF)(b:SF):SF:=λρ=>(fi ρ).bind λp=>jO g b p.1 p.2
noncomputable def sF(i:VI mO)(g:VG je kY)(b:VB bU):VS (RX mO je bU) where
 ck Γ e:=zm e λt y l aK _=>aQ aK (Γ.nx&&i.ck Γ (t,y)&&g.ck Γ t&&b.ck Γ l)
 cs:=i.cs++(g.cs++b.cs)
 ok:=@λcl E Γ X e q o h=>by
  walk_at "o"
  simp only[an]at h
  obtain⟨⟨⟨h1,h2⟩,h3⟩,h4⟩:=h
  obtain⟨pi,ni⟩:=i.ok (ml q) o h2
  obtain⟨pg,ng,_⟩:=g.ok (ml (mr q)) o h3
  refine(abH (RV o h1) o.l pi pg (b.ok (mr (mr q)) o h4) (ou ni)).imp λD σ H=>bD λR ρ G F e h=>⟨R,ρ,G,F,e,h.run (aC.refl (G:=G)) λp h J G1 H1 F1 e1 s1 it=>?_⟩
  obtain⟨us,ρ1⟩:=p
  refine⟨λi m σ' H'=>m=us.length-i/\i<=us.length/\∃ρ' G' F',Ok (aq X.K) R ρ' σ' G' H' F'/\aC (aq X.K) G H F G' H' F'/\Same G1 G'/\bF (tx cl E X) H F (jO je bU (us.drop i) ρ') (n6 (tx cl E X) R G H F D),⟨us.length,by simp,Nat.zero_le _,ρ1,G1,F1,e1,s1,Same.refl _,h⟩,?_⟩
  rintro i m σ2 H2 ⟨rfl,hi,ρ2,G2,F2,e2,s2,m2,h2⟩
  have q:=it G2 H2 m2 e2.sub i
  by_cases hlt:i<us.length
  .rw[List.drop_eq_getElem_cons hlt]at h2
   obtain⟨go,y⟩:=q.2 us[i] (by simp[hlt])
   refine .inr ⟨go,_,λσ' H' z=>⟨us.length-(i+1),by omega,rfl,hlt,z⟩,λx H3 yl=>?_⟩
   obtain⟨G3,w3,r3⟩:=y x H3 yl
   obtain⟨e3,s3⟩:=e2.grow w3
   obtain⟨ρ4,k4,h⟩:=h2.okb (ng _ _)
   refine⟨R,ρ2,G3,F2,_,e3,r3,?_⟩
   rw[k4]
   intro σ4 F4 e4 f4 _
   have s4:=s3.trans (aC.sub f4)
   refine⟨R,ρ4,G3,F4,e4,h.run (s2.trans s4) λr h=>?_⟩
   obtain⟨fl,ρ5⟩:=r
   cases fl with
   |nx=>exact λσ5 G5 H5 F5 e5 s5=>⟨ρ5,G5,F5,e5,(s2.trans s4).trans s5,m2.trans (s4.gg.trans s5.gg),h⟩
   |ct=>exact λσ5 G5 H5 F5 e5 s5=>⟨ρ5,G5,F5,e5,(s2.trans s4).trans s5,m2.trans (s4.gg.trans s5.gg),h⟩
   |bk=>exact λσ5 G5 H5 F5 e5 s5=>h σ5 G5 H5 F5 e5 ((s2.trans s4).trans s5)
   |rt T fr=>exact λv G' H' r=>h v G' H' (r.back (s2.trans s4))
  .have z:i=us.length:=by omega
   subst z
   rw[List.drop_length]at h2
   exact .inl ⟨q.1 rfl,h2 σ2 G2 H2 F2 e2 s2⟩
noncomputable abbrev RZ(h:Heap)(T:Addr)(a b c:Value):Prop:=h.get? T=some {cls:=.type "tuple",data:=.seq #[a,b,c] }
noncomputable def R0(m1 m2 m3 y I O j1 j2 j3:Addr)(i:Nat)(h:Heap):Prop:=IsZip h y I O .none/\RZ h I (.ref j1) (.ref j2) (.ref j3)/\(∃a b c,RZ h O a b c)/\h.IsListIter j1 m1 i/\h.IsListIter j2 m2 i/\h.IsListIter j3 m3 i
section
variable {P:Program}{w:World}{K:PySem.W.Frag}
theorem R0.at(st:R0 m1 m2 m3 y I O j1 j2 j3 i h):∀b∈[y,I,O,j1,j2,j3],∃o,h.get? b=some o/\∀v,o.data ≠ .cell v:=λb hb=>by
 obtain⟨hy,hI,⟨a,b',c,hO⟩,⟨o1,e1,_,d1⟩,⟨o2,e2,_,d2⟩,⟨o3,e3,_,d3⟩⟩:=st
 simp only[List.mem_cons,List.not_mem_nil,or_false]at hb
 rcases hb with rfl|rfl|rfl|rfl|rfl|rfl
 .exact⟨_,hy,λv q=>nomatch q⟩
 .exact⟨_,hI,λv q=>nomatch q⟩
 .exact⟨_,hO,λv q=>nomatch q⟩
 .exact⟨o1,e1,λv q=>by rw[d1]at q; cases q⟩
 .exact⟨o2,e2,λv q=>by rw[d2]at q; cases q⟩
 .exact⟨o3,e3,λv q=>by rw[d3]at q; cases q⟩
end
theorem n5(n m:Nat)(h:m<n):m∉[n+5,n+4,n,n+1,n+2]:=by
 simp only[List.mem_cons,List.not_mem_nil,or_false,not_or]
 lia
noncomputable def R3(K:PySem.W.Frag)(tl:TE):TI:=λσ H R=>Nq K tl σ H R\/Nr K tl σ H R
theorem afj(hl:PE X l tl):PI X tg l (R3 X.K tl):=λpins s σ H R I h=>by
 rcases h with h|h
 .exact abA hl pins s σ H R I h
 .exact abB hl pins s σ H R I h
noncomputable def Cu:Rv->Rs (List Tr × Bool)
 |.v (.lst ts) _=>.ok (ts,true)
 |.v (.tup ts) _=>.ok (ts,false)
 |_=>.bad
noncomputable def Ac(f:EF):IF:=λρ=>(f ρ).bind λp=>(Cu p.1).bind λz=>.ok (z.1,p.2)
theorem afk{K:PySem.W.Frag}(q:aL (aq K) G a xs)(r:au (aq K) G xs us):Ab (aq K) G (Dt K a) us:=λG' H' m s i=>by
 have q':=(s.seq (m.seq q)).toK
 refine⟨λz=>⟨xs,q',by rw[r.length]; lia⟩,λu hu=>?_⟩
 obtain⟨x,hx,rx⟩:=r.nJ hu
 refine⟨⟨xs,x,q',hx⟩,λy dZ ⟨e,z⟩=>?_⟩
 have:=z xs q'
 rw[hx]at this
 cases this
 subst e
 exact⟨G',.refl s,rx.mono m⟩
theorem afl{K:PySem.W.Frag}(q:aX (aq K) G a xs)(r:au (aq K) G xs us):Ab (aq K) G (Du K a) us:=λG' H' m s i=>by
 have q':=(s.jJ (m.jJ q)).toK
 refine⟨λz=>⟨xs,q',by rw[r.length]; lia⟩,λu hu=>?_⟩
 obtain⟨x,hx,rx⟩:=r.nJ hu
 refine⟨⟨xs,x,q',hx⟩,λy dZ ⟨e,z⟩=>?_⟩
 have:=z xs q'
 rw[hx]at this
 cases this
 subst e
 exact⟨G',.refl s,rx.mono m⟩
theorem afm{K:PySem.W.Frag}(h:Ti ⟨aq K,xe⟩ (Ac f) σ H Q):R3 K (Te ⟨aq K,xe⟩ f) σ H Q:=by
 obtain⟨R,ρ,G,F,e,h⟩:=h
 unfold Ac at h
 cases k:f ρ with
 |bad=>rw[k]at h; exact h.elim
 |ex c=>rw[k]at h; exact .inl ⟨R,ρ,G,F,e,by rw[k]; exact h⟩
 |ok p =>
  obtain⟨r,ρ1⟩:=p
  rw[k]at h
  match r,h,k with
  |.v (.lst ts) fr,h,k =>
   refine .inl ⟨R,ρ,G,F,e,?_⟩
   rw[k]
   intro v G1 H1 F1 e1 s1 v1
   obtain⟨G2,e2,s2,_,r⟩:=e1.pU e s1 v1 rfl
   cases r with
   |lst q r=>exact⟨_,rfl,⟨_,(e2.sub.seq q).toK⟩,h _ G2 H1 F1 e2 s2 (afk q r)⟩
  |.v (.tup ts) fr,h,k =>
   refine .inr ⟨R,ρ,G,F,e,?_⟩
   rw[k]
   intro v G1 H1 F1 e1 s1 v1
   obtain⟨G2,e2,s2,_,r⟩:=e1.pU e s1 v1 rfl
   cases r with
   |tup q r=>exact⟨_,rfl,⟨_,(e2.sub.jJ q).toK⟩,h _ G2 H1 F1 e2 s2 (afl q r)⟩
noncomputable def cL(a:VE aB):VI (Ac aB) where
 ck Γ e:=HB e.2&&a.ck Γ e.2
 cs:=a.cs
 ok q o h:=⟨(afj (a.ok q o (an.mp h).2)).imp λ_ _ _=>afm,(an.mp h).1⟩
noncomputable def upTo(lo:Int):Nat->List Tr
 | 0=>[]
 |n+1=>.int lo::upTo (lo+1) n
theorem afn(lo:Int):∀n,(upTo lo n).length=n:=λn=>by
 induction n generalizing lo with
 |zero=>rfl
 |succ n ih=>rw[upTo,List.length_cons,ih]
theorem afo{lo:Int}{n i:Nat}(h:(upTo lo n)[i]?=some u):i<n/\u=.int (lo+i):=by
 induction n generalizing lo i with
 |zero=>simp[upTo]at h
 |succ n ih =>
  rw[upTo]at h
  cases i with
  |zero =>
   simp at h
   subst h
   exact⟨Nat.zero_lt_succ _,by simp⟩
  |succ i =>
   obtain⟨h1,h2⟩:=ih (lo:=lo+1) (i:=i) (by simpa using h)
   refine⟨Nat.succ_lt_succ h1,h2.trans ?_⟩
   congr 1
   lia
theorem afp{K:PySem.W.Frag}(lo:Int)(n:Nat):Ab K G (xZ lo n) (upTo lo n):=λG' H' m s i=>by
 refine⟨λz=>?_,λu hu=>?_⟩
 .rw[afn]at z
  exact Nat.le_of_eq z.symm
 .obtain⟨h1,rfl⟩:=afo hu
  refine⟨h1,λx dZ yl=>?_⟩
  obtain⟨rfl,rfl⟩:=yl
  exact⟨G',.refl s,.int _⟩
noncomputable def okR(i:Int):Bool:=decide (-1000000<=i)&&decide (i<=1000000)
theorem afq(h:okR i=true) : -1000000<=i/\i<=1000000:=by simpa[okR]using h
noncomputable def HD(fa:AF):IF:=λρ=>(fa ρ).bind λp=>(drs p.2 p.1).bind λas=>match as with
 | [.int j]=>if okR j=true then .ok (upTo 0 j.toNat,p.2)else .bad
 |_=>.bad
noncomputable def kZ(a:VA aB):VI (HD aB) where
 ck Γ e:=gC e.2 λ_ aK _ _=>aP aK λ_ bA=>aQ bA (Γ.B.contains ("range" : Str)&&pY Γ "range" a e.2)
 cs:=a.cs
 ok:=@λcl E Γ X e q o h=>by
  obtain⟨u,e⟩:=e
  dsimp only at h
  walk_at "O"
  obtain⟨h1,h⟩:=an.mp h
  obtain⟨p,b,es,p',e',h2,h3⟩:=vh h
  cases e'
  obtain⟨pa,la,na⟩:=a.ok q o h3
  refine⟨(abE (dz o h2).1 (o.B _ (by simpa using h1)) pa (iH (na _ (List.mem_cons_self ..)))).imp λσ H Q=>bD λR ρ G F e h=>mj e .refl h λp h vs G1 H1 F1 e1 s1 v1=>?_,rfl⟩
  obtain⟨as,k1,h⟩:=h.okb (vd _ _)
  have r:=vf e1 v1 k1
  split at h
  case h_2=>exact h.elim
  split at h
  case isFalse=>exact h.elim
  have c:=afq ‹_›
  cases r with
  |cons h1 r1 =>
   cases r1
   rw[h1.int]
   exact⟨_,rfl,by lia,by lia,h _ G1 H1 F1 e1 s1 (afp 0 _)⟩
theorem HF:∀{es:List Expr},(∀x∈es,notStar x=true)->∀env,starEach es env=es.map λe=>(false,eval e env)
 | [],_,_=>rfl
 |e::es,h,env=>by
  rw[iH (h e (List.mem_cons_self ..)),HF (λy m=>h y (List.mem_cons_of_mem _ m)) env]; rfl
theorem yT{K:PySem.W.Frag}(s:Same G H)(h:H p=none)(r:au K G xs ts):∃G',Gw K G H G' (upd H p (.tup xs))/\Rep K G' (.ref p) (.tup ts):=⟨_,.new s h,VN.newT s h r⟩
noncomputable def sy(us vs:List Tr):List Tr:=(us.zip vs).map λp=>.tup [p.1,p.2]
noncomputable def R4(fa:AF):IF:=λρ=>(fa ρ).bind λp=>match p.1 with
 | [.v (.lst us) _,.v (.lst vs) _]=>.ok (sy us vs,p.2)
 |_=>.bad
theorem R5{K:PySem.W.Frag}(r:au K G vs (.lst us::ts)):∃a xs vs',vs=.ref a::vs'/\aL K G a xs/\au K G xs us/\au K G vs' ts:=by
 cases r with
 |cons h r=>cases h with
  |lst q p=>exact⟨_,_,_,rfl,q,p,r⟩
noncomputable def iZ(a:VA aB):VI (R4 aB) where
 ck Γ e:=j8 e.1 λ_ _ _=>gC e.2 λ_ aK _ _=>aP aK λ_ bA=>aP bA λ_ bH=>aQ bH (Γ.B.contains ("zip" : Str)&&pY Γ "zip" a e.2)
 cs:=a.cs
 ok:=@λcl E Γ X e q o h=>by
  obtain⟨u,e⟩:=e
  walk_at "O"
  obtain⟨h1,h⟩:=an.mp h
  obtain⟨p,b,es,p',e',h2,h3⟩:=vh h
  cases e'
  obtain⟨pa,la,na⟩:=a.ok q o h3
  refine⟨(adP (o.B _ (by simpa using h1)) pa (dz o h2).1 (HF na _) (HF (λy m=>na y (List.mem_cons_of_mem _ m)) _)).imp λσ H Q=>bD λR ρ G F e h=>mj e .refl h λp h vs G1 H1 F1 e1 s1 v1=>?_,rfl⟩
  split at h
  case h_2=>exact h.elim
  rename_i us _ ws _ ep
  rw[ep]at v1
  obtain⟨G2,e2,s2,_,r⟩:=e1.vis e s1 v1 rfl
  obtain⟨_,_,_,rfl,q1,p1,r⟩:=R5 r
  obtain⟨_,_,_,rfl,q2,p2,r⟩:=R5 r
  cases r
  refine⟨_,_,rfl,⟨_,(e2.sub.seq q1).toK⟩,⟨_,(e2.sub.seq q2).toK⟩,h _ G2 H1 F1 e2 s2 λG' H' m s i=>?_⟩
  have qp:=(s.seq (m.seq q1)).toK
  have vJ:=(s.seq (m.seq q2)).toK
  refine⟨λz=>⟨_,_,qp,vJ,by rw[p1.length,p2.length,z]; simp[sy]⟩,λu hu=>?_⟩
  unfold sy at hu
  rw[List.getElem?_map]at hu
  obtain⟨p,hp,rfl⟩:=Option.map_eq_some_iff.mp hu
  obtain⟨k1,k2⟩:=List.getElem?_zip_eq_some.mp hp
  obtain⟨x,hx,rx⟩:=p1.nJ k1
  obtain⟨y,hy,ry⟩:=p2.nJ k2
  refine⟨⟨_,_,x,y,qp,vJ,hx,hy⟩,λv dZ yl=>?_⟩
  obtain⟨T,x',y',rfl,fT,rfl,z⟩:=yl
  obtain⟨z1,z2⟩:=z _ _ qp vJ
  rw[hx]at z1
  rw[hy]at z2
  cases z1
  cases z2
  exact yT s fT (.cons (rx.mono m) (.cons (ry.mono m) .nil))
noncomputable def HJ:List Tr->List Tr->List Tr->List Tr
 |u::us,v::vs,w::ws=>.tup [u,v,w]::HJ us vs ws
 |_,_,_=>[]
noncomputable def afr(fa:AF):IF:=λρ=>(fa ρ).bind λp=>match p.1 with
 | [.v (.lst us) _,.v (.lst vs) _,.v (.lst ws) _]=>if us.length<=vs.length/\us.length<=ws.length then .ok (HJ us vs ws,p.2)else .bad
 |_=>.bad
noncomputable def R6(ifs:List Expr)(env:Env):Sem Bool:=forIn ifs true λc r=>if r=true then do let ok <-isTrue c env (eval c env); pure (ForInStep.yield ok)else pure (ForInStep.yield r)
noncomputable def vL(X:Cx)(ifs:List Expr)(tc:TT):Prop:=∀(pins:List (Addr × Obj)) s σ H Q,Inv X pins σ H s->tc σ H Q->wpAny (model X.prog X.w) X.A (R6 ifs X.env) (TP X pins σ Q) X.xe s
theorem R7(h:PT X c tc):vL X [c] tc:=λpins s σ H Q I q=>wpAny_tests_one (h pins s σ H Q I q)
theorem vN:vL X [] λ_ H Q=>Q true H:=λpins s σ H Q I q=>wpAny_pure ⟨H,I,q⟩
section
variable {prog:Program}{w:World}{A:Around}{R:Result->Shared->Prop}{s:Shared}
theorem afs(I:Nat->Shared->Prop)
  (turn:∀n s,I n s->wpAny (model prog w) A (pyNext it) (λr s₁=>match r with
   |none=>R (.ok .next) s₁
   | some v=>wpAny (model prog w) A (letOwnedTupleGo target it v) (λ_ s₁'=>wpAny (model prog w) A (assign target env v) (λ_ s₂ => wpAny (model prog w) A (R6 ifs env) (λb s₂'=>if b=true then wpAny (model prog w) A (eval elt env) (λx s₃ =>
     wpAny (model prog w) A (call (.builtin "list.append") [acc,x]) (λ_ s₄=>∃m,m<n/\I m s₄) (λ_ _=>False) s₃) (λ_ _=>False) s₂' else ∃m,m<n/\I m s₂') (λ_ _=>False) s₂) (λ_ _=>False) s₁') (λ_ _=>False) s₁) (λ_ _=>False) s)
  (n:Nat) (h:I n s) :
  codeAny (model prog w) A (.compLoop (.ListComp elt [⟨target,iter,ifs,0⟩] scope pos) 0 it acc env) R s:=by
 refine codeAny_loop rfl I (λn s hI=>?_) n h
 show wpAny _ _ ((compTurn (.ListComp elt [⟨target,iter,ifs,0⟩] scope pos) 0 it acc env).onRaise (λx=>do noteFrame x env; theTreesLotGoes x)) _ _ s
 refine wpAny_noted (wpAny_noRaise ?_)
 rw[compTurn_list]
 refine wpAny_bind (wpAny_standAt (wpAny_bind (wpAny_mono (turn n s hI) (λr s₁ h₁=>?_) λ_ _ h'=>h')))
 cases r with
 |none=>exact wpAny_pure h₁
 |some v =>
  refine wpAny_bind (wpAny_mono h₁ (λ_ s₁' h₁'=>?_) λ_ _ h'=>h')
  refine wpAny_bind (wpAny_mono h₁' (λ_ s₂ h₂=>wpAny_bind (wpAny_mono h₂ (λok s₃ h₃=>?_) λ_ _ h'=>h')) λ_ _ h'=>h')
  cases ok with
  |false=>exact wpAny_pure ⟨rfl,h₃⟩
  |true =>
   exact wpAny_bind (wpAny_bind (wpAny_mono h₃ (λx s₄ h₄=>wpAny_bind (wpAny_mono h₄ (λ_ s₅ h₅=>wpAny_pure (wpAny_pure ⟨rfl,h₅⟩)) λ_ _ h'=>h')) λ_ _ h'=>h'))
end
noncomputable def sE(wi:TI)(g:TG)(src:List (Option Nat))(tc:TT)(te:TE):TE:=λσ H Q=>wi σ H λJ H1=>∀D,H1 D=none ->
 ∃W:Nat->Nat->St->Hp->Prop,(∃m,W 0 m (cY src σ) (upd H1 D (.lst [])))/\∀i m σ' H',W i m σ' H' ->
  (J.stop i H'/\Pu Q D H')\/(J.go i H'/\∀x dZ,J.pq i H' x dZ->g x σ' dZ λσ2 H2=>tc σ2 H2 λb vO=>if b=true then te σ2 vO λv H3=>∃xs,H3 D=some (.lst xs)/\xs.length<sizeLine/\∃m',m'<m/\W (i+1) m' σ2 (upd H3 D (.lst (xs++[v])))else ∃m',m'<m/\W (i+1) m' σ2 vO)
section
variable {X:Cx}{elt tg iter:Expr}{ifs:List Expr}{scope sc:Scope}{pos:Pos}{No N:List Str}{src:List (Option Nat)}{wi:TI}{g:TG}{te:TE}{tc:TT}
theorem R8{pins:List (Addr × Obj)}{RR:Value->Addr->Result->Shared->Prop}(hsc:X.env.scope=sc)(jc:X.N=No)(S:rC sc No N src scope)(hc:X.calm=true)
  (hi:PI X tg iter wi) (hg:∀C s H ex,PG (cA X N scope C s H ex) tg g) (hq:∀C s H ex,vL (cA X N scope C s H ex) ifs tc) (he:∀C s H ex,PE (cA X N scope C s H ex) elt te) (I:Inv X pins σ H s) (h:sE wi g src tc te σ H Q)
  (hRR:∀D C H' s' m,Inv X pins σ H' s'->H' C=none->C≠X.env.locals->X.s₀.heap.objs.size<=C->(∀x c,X.env.cells.lookup x=some c->c≠C)->(∀p∈X.pn++pins,p.1≠C)->s'.heap.Ns C m->Q (.ref D) H'->RR (.ref D) C (.ok .next) s') :
  wpAny (model X.prog X.w) X.A (eval iter X.env) (λx s₁=>wpAny (model X.prog X.w) X.A (pyIter x) (λit s₂=>wpAny (model X.prog X.w) X.A (newList []) (λacc s₃ =>
   wpAny (model X.prog X.w) X.A (newFunctionEnv scope X.env.globals (bW X.env.cells scope.names []) [] X.env.qual none .none (some X.env)) (λcenv s₄ =>
    codeAny (model X.prog X.w) X.A (.compStart (.ListComp elt [⟨tg,iter,ifs,0⟩] scope pos) 0 it acc {cenv with scope:=relabel scope X.env }) (RR acc cenv.locals) s₄) X.xe s₃) X.xe s₂) X.xe s₁) X.xe s:=by
 refine aF (hi pins s σ H _ I h) λv s1 h1=>aF h1 λitv s2 h2=>?_
 obtain⟨it,fp,tn,J,H2,e,I2,T,st2,f2,hW⟩:=h2
 subst e
 have hD0:H2 s2.heap.objs.size=none:=I2.hok.fresh (Nat.le_refl _)
 obtain⟨W,⟨m0,w0⟩,turn⟩:=hW s2.heap.objs.size hD0
 have R9:∀b∈fp,b<s2.heap.objs.size:=λb hb=>by
  obtain⟨o,e,_⟩:=T.obj 0 _ st2 b hb
  exact Heap.lt_size e
 refine wpAny_newObj_type ?_
 have I3:Inv X pins σ (upd H2 s2.heap.objs.size (.lst [])) {s2 with heap:=s2.heap.push {cls:=.type "list",dict:=none,data:=.seq ([]:List Value).toArray } }:=I2.Ej (t':=s2.toks) (ys:=[]) .nil (Nat.zero_le _)
 have f3:∀b∈fp,cH X pins (upd H2 s2.heap.objs.size (.lst [])) b:=λb hb=>by
  obtain⟨q,r⟩:=f2 b hb
  exact⟨by rw[aD (Nat.ne_of_lt (R9 b hb))]; exact q,r⟩
 have st3:tn 0 (s2.heap.push {cls:=.type "list",dict:=none,data:=.seq ([]:List Value).toArray }):=T.keep _ _ _ st2 λb hb o e=>Heap.get?_push_of_some _ e
 have HN:∀b∈fp,b<(s2.heap.push {cls:=.type "list",dict:=none,data:=.seq ([]:List Value).toArray }).objs.size:=λb hb=>by
  rw[Heap.size_push]; exact Nat.lt_succ_of_lt (R9 b hb)
 generalize hD:s2.heap.objs.size=D at *
 generalize hh3:s2.heap.push {cls:=.type "list",dict:=none,data:=.seq ([]:List Value).toArray }=h3 at *
 generalize hH3:upd H2 D (.lst [])=H3 at *
 refine adb λh₁ hns old ck=>?_
 dsimp only at hns old ck ⊢
 have I4:Inv (cA X N scope h3.objs.size {s2 with heap:=h3 } H3 fp) [] (cY src σ) H3 {s2 with heap:=h₁,toks:=s2.toks+([]:List (Str × Value)).length }:=ade (s:={s2 with heap:=h3 }) hsc jc S I3 f3 HN hns old ck
 have qT:tn 0 h₁ := T.keep _ _ _ st3 λb hb o e=>old b o e
 have loop:codeAny (model X.prog X.w) X.A (.compLoop (.ListComp elt [⟨tg,iter,ifs,0⟩] scope pos) 0 (.ref it) (.ref D) (compEnvC scope (cellsFrom (h3.objs.size+1) scope.names (bW X.env.cells scope.names [])) h3.objs.size X.env)) (RR (.ref D) h3.objs.size) {s2 with heap:=h₁,toks:=s2.toks+([]:List (Str × Value)).length }:=by
  have stat:∀{H':Hp},(∀b∈fp,H' b=none)->∀b∈fp,cH (cA X N scope h3.objs.size {s2 with heap:=h3 } H3 fp) [] H' b:=λhn b hb=>by
   obtain⟨g0,g1,g2,g3,g4,g5⟩:=f3 b hb
   refine⟨hn b hb,Nat.ne_of_lt (HN b hb),λz=>?_,.inl hb,λx c e=>?_,λp hp=>absurd (show p∈([]:List (Addr × Obj))from hp) (by simp)⟩
   .rcases List.mem_cons.mp (I3.xJ b z)with z|z
    .exact g1 z
    .exact g2 z
   .have e:(cellsFrom (h3.objs.size+1) scope.names (bW X.env.cells scope.names [])).lookup x=some c:=e
    rw[nC,uG]at e
    split at e
    .rename_i z
     cases e
     exact λy=>absurd (Nat.le_trans (ck.empty x c (PySem.mem_of_lookup z)).2 (y▸Nat.le_of_lt (HN b hb))) (Nat.not_succ_le_self _)
    .rcases pD e with q|q
     .simp at q
     .exact g4 x c q
  refine afs (λn s'=>∃i σ' H',Inv (cA X N scope h3.objs.size {s2 with heap:=h3 } H3 fp) [] σ' H' s'/\tn i s'.heap/\(∀b∈fp,H' b=none)/\W i n σ' H') ?_ m0 ⟨0,cY src σ,H3,I4,qT,λb hb=>(f3 b hb).1,w0⟩
  rintro n s5 ⟨i,σ5,H5,I5,mY,yg,w5⟩
  rcases turn i n σ5 H5 w5 with⟨stop,qn⟩|⟨go,step⟩
  .refine aF (T.done (cA X N scope h3.objs.size {s2 with heap:=h3 } H3 fp) rfl rfl rfl hc i [] s5 σ5 H5 (λ_ _=>False) I5 (stat yg) mY stop) λr s6 ⟨hr,I6⟩=>?_
   subst hr
   obtain⟨mC,hnC,_⟩:=id I6.loc
   have I7:Inv X pins σ H5 s6:=I3.call' (ch:=fp) I6.os I6.base I6.hok I6.bare λb hb=>by
    obtain⟨g0,g1,g2,g3,g4,g5⟩:=f3 b hb
    exact⟨g3,g1,g4,g5⟩
   refine hRR D h3.objs.size H5 s6 mC I7 I6.free (Nat.ne_of_gt I3.lt) I3.sz (λx c e z=>?_) (λp hp z=>?_) hnC qn
   .obtain⟨v,q⟩:=I3.cell x c e
    exact absurd q.lt (by rw[z]; exact Nat.lt_irrefl _)
   .exact absurd (Heap.lt_size (I3.pin p hp).1) (by rw[z]; exact Nat.lt_irrefl _)
  .refine aF (T.item (cA X N scope h3.objs.size {s2 with heap:=h3 } H3 fp) rfl rfl rfl hc i [] s5 σ5 H5 (λ_ _=>False) I5 (stat yg) mY go) λr s6 ⟨u,hr,h6⟩=>?_
   subst hr
   refine aF h6 λ_ s7 ⟨x,H7,I7,r7,y7,oX,fr7⟩=>?_
   have I7':=I7.pinned (stat fr7) (T.obj _ _ oX)
   refine aF (hg _ _ _ _ _ s7 σ5 H7 x u _ I7' r7 (step x H7 y7)) λ_ s8 ⟨σ8,H8,I8,q8⟩=>?_
   refine aF (hq _ _ _ _ _ s8 σ8 H8 _ I8 q8) λbb s8' ⟨Sd,Ad,Ae⟩=>?_
   cases bb with
   |false =>
    rw[if_neg (by decide)]at Ae ⊢
    obtain⟨m',hm,w9⟩:=Ae
    refine⟨m',hm,i+1,σ8,Sd,Ad.uy (pins:=[]),T.keep _ _ _ oX λb hb o e=>(Ad.pin (b,o) (List.mem_append_right _ (List.mem_append_right _ (qZ hb e)))).1,λb hb=>?_,w9⟩
    obtain⟨o,e,d⟩:=T.obj _ _ oX b hb
    exact(Ad.pin (b,o) (List.mem_append_right _ (List.mem_append_right _ (qZ hb e)))).2.1
   |true =>
   rw[if_pos rfl]at Ae ⊢
   refine aF (he _ _ _ _ _ s8' σ8 Sd _ Ad Ae) λyv s9 ⟨y,H9,I9,r9,q9⟩=>?_
   obtain⟨xs,e9,l9,m',hm,w9⟩:=q9
   refine aF (Pg (X:=cA X N scope h3.objs.size {s2 with heap:=h3 } H3 fp) _ s9 σ8 H9 (.ref D) [y] (.ref D) [yv] (λ_ H'=>W (i+1) m' σ8 H') I9 rfl (.cons r9 .nil) ⟨D,xs,y,rfl,rfl,e9,l9,w9⟩) λ_ HS ⟨_,H10,HW,_,HX⟩=>?_
   refine⟨m',hm,i+1,σ8,H10,HW.uy (pins:=[]),T.keep _ _ _ oX λb hb o e=>(HW.pin (b,o) (List.mem_append_right _ (List.mem_append_right _ (qZ hb e)))).1,λb hb=>?_,HX⟩
   obtain⟨o,e,d⟩:=T.obj _ _ oX b hb
   exact(HW.pin (b,o) (List.mem_append_right _ (List.mem_append_right _ (qZ hb e)))).2.1
 exact codeAny_compStart_list loop (T.self _ _ _ _ _ qT loop)
theorem Ag(hsc:X.env.scope=sc)(jc:X.N=No)(S:rC sc No N src scope)(hc:X.calm=true)
  (hi:PI X tg iter wi) (hg:∀C s H ex,PG (cA X N scope C s H ex) tg g) (hq:∀C s H ex,vL (cA X N scope C s H ex) ifs tc) (he:∀C s H ex,PE (cA X N scope C s H ex) elt te)
  (hs:∀x,foldedSetIterable iter X.env x=pure x:=by intro _; rfl):PE X (.ListComp elt [⟨tg,iter,ifs,0⟩] scope pos) (sE wi g src tc te):=by
 refine⟨λpins s σ H Q I h=>?_⟩
 rw[eval_ListComp]
 have hcl:closureFor scope X.env=pure (bW X.env.cells scope.names []):=Ep λy hy e=>by
  have k:=S.free y hy e
  rw[<-hsc]at k
  obtain⟨c,q⟩:=I.ok.has y.1 k
  rw[q]; rfl
 refine wpAny_comprehension_free (use:=none) rfl hs hcl S.kind S.names (R8 (RR:=λacc C=>compPost (model X.prog X.w) X.A X.xe none (EP X pins σ Q) acc C) hsc jc S hc hi hg hq he I h ?_)
 intro D C H' s' m I' n1 n2 n3 n4 n5 hn q
 refine⟨m,hn,λh' hs'=>⟨.ref D,H',?_,rfl,q⟩⟩
 exact I'.turned (t':=s'.toks) (λb o hb e=>(hs'.2 b hb).trans e) n1 (Ne.symm (Ne.symm n2)) (.inr n3) n4 n5
theorem HY(hN:X.N.Nodup)(hyi:X.N[i]?=some y)(hy:Loc X.env.scope y)(hsc:X.env.scope=sc)(jc:X.N=No)(S:rC sc No N src scope)(hc:X.calm=true)
  (hi:PI X tg iter wi) (hg:∀C s H ex,PG (cA X N scope C s H ex) tg g) (hq:∀C s H ex,vL (cA X N scope C s H ex) ifs tc) (he:∀C s H ex,PE (cA X N scope C s H ex) elt te)
  (hsw:swapsWith (.ListComp elt [⟨tg,iter,ifs,0⟩] scope pos) (some (.Name y py)) spos.line X.env=pure true:=by rfl) (hs:∀x,foldedSetIterable iter X.env x=pure x:=by intro _; rfl)
  (hf:X.fn y=true\/X.env.scope.names.lookup y=some .local:=by first|exact .inl rfl|exact .inr rfl|assumption) :
  PS X (.Assign [.Name y py] (.ListComp elt [⟨tg,iter,ifs,0⟩] scope pos) spos) (jZ (sE wi g src tc te) (jY i)):=by
 refine⟨λpins s σ H D I h=>?_⟩
 rw[exec_Assign_Name_used _ _ _ _ hsw]
 have hcl:closureFor scope X.env=pure (bW X.env.cells scope.names []):=Ep λy hy e=>by
  have k:=S.free y hy e
  rw[<-hsc]at k
  obtain⟨c,q⟩:=I.ok.has y.1 k
  rw[q]; rfl
 refine wpAny_bind (wpAny_standAt (wpAny_bind ?_))
 show wpAny _ X.A (do let _ <-comprehension (.ListComp elt [⟨tg,iter,ifs,0⟩] scope pos) scope X.env _ (newList []) false (eval iter X.env) (some (assign (.Name y py) X.env))) _ _ s
 refine wpAny_bind (wpAny_mono (wpAny_comprehension_free (use:=some (assign (.Name y py) X.env)) (Q:=λ_ s'=>SP X pins D .next s') rfl hs hcl S.kind S.names
  (R8 (Q:=λv H'=>D.nx (σ.set i (some v)) H') (RR:=λacc C=>compPost (model X.prog X.w) X.A X.xe (some (assign (.Name y py) X.env)) (λ_ s'=>SP X pins D .next s') acc C) hsc jc S hc hi hg hq he I h ?_)) (λ_ s' hq=>wpAny_pure (wpAny_pure hq)) λ_ _ e=>e)
 intro Da C H' s' m I' n1 n2 n3 n4 n5 hn q
 show wpAny _ X.A (assign (.Name y py) X.env (.ref Da)) _ _ _
 refine wpAny_assign_Name (MN I' hN hyi hy (v:=.ref Da) rfl (λs2 I2 hsame=>?_) hf)
 obtain⟨a,hsb,ha⟩:=hsame
 have hCa:C≠a:=by
  rcases ha with z|z
  .rw[z]; exact n2
  .exact λe=>n4 y a z e.symm
 refine⟨m,hn.sameBut hsb hCa,λh' hs'=>⟨σ.set i (some (.ref Da)),H',?_,q⟩⟩
 exact I2.turned (t':=s2.toks) (λb o hb e=>(hs'.2 b hb).trans e) n1 n2 (.inr n3) n4 n5
end
noncomputable def Mu(ρ : En)(i:Nat):Prop:=∃ts,ρ[i]?=some (Sl.ow ts)\/ρ[i]?=some (Sl.rf ts)
noncomputable def aft:Sl->Sl
 |.dp _=>.un
 |.ob _ _ _=>.un
 |.dt _=>.un
 |s=>s
noncomputable def dF(src:List (Option Nat))(ρ : En):En:=src.map λo=>match o with
 |some j=>aft ((ρ[j]?).getD .un)
 |none=>.un
noncomputable def bf:List (Option Nat)->En->En->En
 |some j::src,.ow ts::ρi,ρ=>bf src ρi (bM j ts ρ)
 |some j::src,.rf ts::ρi,ρ=>bf src ρi (bM j ts ρ)
 |_::src,_::ρi,ρ=>bf src ρi ρ
 |_,_,ρ=>ρ
noncomputable def jx:Option Sl->Bool
 |some (.ow _)=>true
 |some (.rf _)=>true
 |_=>false
noncomputable def dU:List (Option Nat)->En->En->Bool
 |some j::src,s::ρi,ρ=>(!jx ρ[j]? || jx (some s))&&dU src ρi ρ
 |none::src,_::ρi,ρ=>dU src ρi ρ
 | [],_,_=>true
 |_,[],_=>false
theorem Ah:jx ρ[i]?=true↔Mu ρ i:=by
 constructor
 .intro h
  unfold jx at h
  split at h <;> rename_i q
  .exact⟨_,.inl q⟩
  .exact⟨_,.inr q⟩
  .cases h
 .rintro⟨ts,h|h⟩ <;> rw[h] <;> rfl
theorem Ia:∀{src:List (Option Nat)} {ρi ρ : En} {k j:Nat},dU src ρi ρ = true->src[k]?=some (some j)->Mu ρ j->Mu ρi k
 | [],_,_,_,_,_,h,_=>by simp at h
 |some j'::src,s::ρi,ρ,k,j,h,hk,m=>by
  unfold dU at h
  rw[Bool.and_eq_true]at h
  cases k with
  |zero =>
   simp at hk
   subst hk
   have h1:=h.1
   rw[Ah.mpr m]at h1
   cases s with
   |un=>cases h1
   |sh _=>cases h1
   |dp _=>cases h1
   |ob _ _ _=>cases h1
   |vo _ _=>cases h1
   |dt _=>cases h1
   |ow ts=>exact⟨ts,.inl rfl⟩
   |rf ts=>exact⟨ts,.inr rfl⟩
  |succ k =>
   obtain⟨ts,q⟩:=Ia (k:=k) h.2 (by simpa using hk) m
   exact⟨ts,by simpa using q⟩
 |none::src,s::ρi,ρ,k,j,h,hk,m=>by
  unfold dU at h
  cases k with
  |zero=>simp at hk
  |succ k =>
   obtain⟨ts,q⟩:=Ia (k:=k) h (by simpa using hk) m
   exact⟨ts,by simpa using q⟩
 |some j'::src,[],ρ,k,j,h,hk,m=>by unfold dU at h; cases h
 |none::src,[],ρ,k,j,h,hk,m=>by unfold dU at h; cases h
noncomputable def Inj(src:List (Option Nat)):Prop:=∀(k k' j:Nat),src[k]?=some (some j)->src[k']?=some (some j)->k=k'
theorem afu(h:(src.filterMap id).Nodup):Inj src:=by
 induction src with
 |nil=>intro k k' j h1; simp at h1
 |cons o src ih =>
  have tail:Inj src:=by
   cases o with
   |none=>exact ih (by simpa using h)
   |some j=>exact ih (by simpa using(List.nodup_cons.mp (by simpa using h)).2)
  intro k k' j h1 h2
  have no:∀{m:Nat},o=some j->src[m]?=some (some j)->False:=λ{m} e q=>by
   subst e
   have n:=(List.nodup_cons.mp (show(j::src.filterMap id).Nodup by simpa using h)).1
   exact n (List.mem_filterMap.mpr ⟨some j,List.mem_of_getElem? q,rfl⟩)
  cases k with
  |zero =>
   have e1:o=some j:=by simpa using h1
   cases k' with
   |zero=>rfl
   |succ k'=>exact(no e1 (by simpa using h2)).elim
  |succ k =>
   cases k' with
   |zero=>exact(no (by simpa using h2) (by simpa using h1)).elim
   |succ k'=>rw[tail k k' j (by simpa using h1) (by simpa using h2)]
theorem afv(h : ρ[i]?=ρ'[i]?):(bM i ts ρ)[i]?=(bM i ts ρ')[i]? := by
 unfold bM
 rw[h]
 cases q : ρ'[i]? with
 |none=>dsimp only; rw[h,q]
 |some s =>
  have l':=(List.getElem?_eq_some_iff.mp q).1
  have l:=(List.getElem?_eq_some_iff.mp (h.trans q)).1
  cases s with
  |un=>dsimp only; rw[h,q]
  |sh _=>dsimp only; rw[h,q]
  |dp _=>dsimp only; rw[h,q]
  |ob _ _ _=>dsimp only; rw[h,q]
  |vo _ _=>dsimp only; rw[h,q]
  |dt _=>dsimp only; rw[h,q]
  |ow _=>dsimp only; rw[eO l,eO l']
  |rf _=>dsimp only; rw[eO l,eO l']
theorem lg:∀(src:List (Option Nat)) (ρi ρ : En),(bf src ρi ρ).length = ρ.length
 | [],ρi,ρ=>by unfold bf; rfl
 |o::src,[],ρ=>by cases o <;> (unfold bf; rfl)
 |none::src,s::ρi,ρ=>by unfold bf; exact lg src ρi ρ
 |some j::src,.un::ρi,ρ=>by unfold bf; exact lg src ρi ρ
 |some j::src,.sh _::ρi,ρ=>by unfold bf; exact lg src ρi ρ
 |some j::src,.dp _::ρi,ρ=>by unfold bf; exact lg src ρi ρ
 |some j::src,.ob _ _ _::ρi,ρ=>by unfold bf; exact lg src ρi ρ
 |some j::src,.vo _ _::ρi,ρ=>by unfold bf; exact lg src ρi ρ
 |some j::src,.dt _::ρi,ρ=>by unfold bf; exact lg src ρi ρ
 |some j::src,.ow ts::ρi,ρ=>by unfold bf; rw[lg src ρi,Hl]
 |some j::src,.rf ts::ρi,ρ=>by unfold bf; rw[lg src ρi,Hl]
theorem Ib:∀{src:List (Option Nat)} {ρi ρ : En} {j:Nat} {s:Option Sl},Inj src->(bf src ρi ρ)[j]?=s ->
  (∃(k:Nat) (ts:List Tr),src[k]?=some (some j)/\(ρi[k]?=some (.ow ts)\/ρi[k]?=some (.rf ts))/\(bM j ts ρ)[j]?=s)\/((∀k:Nat,src[k]?=some (some j)->¬Mu ρi k)/\ρ[j]?=s)
 | [],ρi,ρ,j,s,_,h=>by
  unfold bf at h
  exact .inr ⟨λk q=>by simp at q,h⟩
 |o::src,[],ρ,j,s,_,h=>by
  have h : ρ[j]?=s:=by cases o <;> (unfold bf at h; exact h)
  refine .inr ⟨λk _ m=>?_,h⟩
  obtain⟨_,q|q⟩:=m <;> simp at q
 |o::src,x::ρi,ρ,j,s,I,h=>by
  have It:Inj src:=λk k' j h1 h2=>by
   have:=I (k+1) (k'+1) j (by simpa using h1) (by simpa using h2)
   omega
  have keep:(o=none\/jx (some x)=false)->(bf src ρi ρ)[j]?=s->(∃(k:Nat) (ts:List Tr),(o::src)[k]?=some (some j)/\((x::ρi)[k]?=some (.ow ts)\/(x::ρi)[k]?=some (.rf ts))/\(bM j ts ρ)[j]?=s)\/((∀k:Nat,(o::src)[k]?=some (some j)->¬Mu (x::ρi) k)/\ρ[j]?=s):=λc h=>by
   rcases Ib It h with⟨k,ts,q1,q2,q3⟩|⟨n,q⟩
   .exact .inl ⟨k+1,ts,by simpa using q1,by simpa using q2,q3⟩
   .refine .inr ⟨λk qk m=>?_,q⟩
    cases k with
    |zero =>
     rcases c with c|c
     .subst c; simp at qk
     .rw[<-Ah]at m
      have m:jx (some x)=true:=m
      rw[c]at m
      cases m
    |succ k =>
     obtain⟨ts,m⟩:=m
     exact n k (by simpa using qk) ⟨ts,by simpa using m⟩
  have put:∀(i:Nat) (ts:List Tr),o=some i->(x=.ow ts\/x=.rf ts)->(bf src ρi (bM i ts ρ))[j]?=s->(∃(k:Nat) (ts:List Tr),(o::src)[k]?=some (some j)/\((x::ρi)[k]?=some (.ow ts)\/(x::ρi)[k]?=some (.rf ts))/\(bM j ts ρ)[j]?=s)\/((∀k:Nat,(o::src)[k]?=some (some j)->¬Mu (x::ρi) k)/\ρ[j]?=s):=λi ts eo ex h=>by
   rcases Ib It h with⟨k,us,q1,q2,q3⟩|⟨n,q⟩
   .have ne:j≠i:=λz=>by
     subst z
     have:=I 0 (k+1) j (by simpa using eo) (by simpa using q1)
     omega
    refine .inl ⟨k+1,us,by simpa using q1,by simpa using q2,?_⟩
    rw[<-afv (Hj ne)]
    exact q3
   .by_cases e:j=i
    .subst e
     refine .inl ⟨0,ts,by simpa using eo,?_,q⟩
     rcases ex with rfl|rfl
     .exact .inl rfl
     .exact .inr rfl
    .rw[Hj e]at q
     refine .inr ⟨λk qk m=>?_,q⟩
     cases k with
     |zero =>
      rw[eo]at qk
      simp at qk
      exact e qk.symm
     |succ k =>
      obtain⟨ts,m⟩:=m
      exact n k (by simpa using qk) ⟨ts,by simpa using m⟩
  cases o with
  |none=>unfold bf at h; exact keep (.inl rfl) h
  |some i =>
   cases x with
   |un=>unfold bf at h; exact keep (.inr rfl) h
   |sh _=>unfold bf at h; exact keep (.inr rfl) h
   |dp _=>unfold bf at h; exact keep (.inr rfl) h
   |ob _ _ _=>unfold bf at h; exact keep (.inr rfl) h
   |vo _ _=>unfold bf at h; exact keep (.inr rfl) h
   |dt _=>unfold bf at h; exact keep (.inr rfl) h
   |ow ts=>unfold bf at h; exact put i ts rfl (.inl rfl) h
   |rf ts=>unfold bf at h; exact put i ts rfl (.inr rfl) h
theorem Ie{src:List (Option Nat)}{k j:Nat}(h:src[k]?=some (some j)):(cY src σ)[k]?=some ((σ[j]?).join):=by
 unfold cY
 rw[List.getElem?_map,h]
 rfl
theorem afw{k j:Nat}(h:src[k]?=some (some j))(q:(cY src σ)[k]?=some (some v)) : σ[j]?=some (some v):=by
 rw[Ie h]at q
 cases z : σ[j]? with
 |none=>rw[z]at q; cases q
 |some o =>
  rw[z]at q
  rw[show o=some v from Option.some.inj q]
noncomputable def inF(src:List (Option Nat))(ρ : En)(F:Fp):Fp:=λk=>match src[k]? with
 |some (some j)=>if jx ρ[j]?=true then F j else []
 |_=>[]
theorem vP(h:b∈inF src ρ F k):∃j,src[k]?=some (some j)/\jx ρ[j]?=true/\b∈F j:=by
 unfold inF at h
 split at h
 .split at h
  .exact⟨_,‹_›,‹_›,h⟩
  .cases h
 .cases h
theorem vQ(h:Fn (inF src ρ F) b):Fn F b:=h.elim λ_ h=>(vP h).elim λj h=>⟨j,h.2.2⟩
section
variable {K:PySem.W.Frag}{R:Addr->Prop}{ρ ρ1:En}{σ τ : St}{G H G1 H1 G' H':Hp}{F F1 F':Fp}{src:List (Option Nat)}
theorem Ok.enter(e:Ok K R ρ σ G H F)(I:Inj src):Ok K R (dF src ρ) (cY src σ) G H (inF src ρ F):=by
 refine⟨by simp[dF,cY],e.sub,e.tb,e.tg,λb h=>e.hid b (vQ h),e.rg,λk k' b h1 h2=>?_,λk=>?_⟩
 .obtain⟨j,q1,_,q2⟩:=vP h1
  obtain⟨j',q3,_,q4⟩:=vP h2
  cases e.di j j' b q2 q4
  exact I k k' j q1 q3
 .unfold dF inF
  rw[List.getElem?_map]
  cases q:src[k]? with
  |none=>rfl
  |some o =>
   cases o with
   |none=>rfl
   |some j =>
    rw[Ie q]
    have z:=e.sl j
    dsimp only[Option.map]
    cases w : ρ[j]? with
    |none=>rfl
    |some sl =>
     rw[w]at z
     cases sl with
     |un=>rfl
     |dp ts=>rfl
     |ob _ _ _=>rfl
     |dt _=>rfl
     |vo c fs =>
      obtain⟨_,a,dx,C,xs,z1,z2⟩:=z
      rw[z1]
      exact⟨rfl,a,dx,C,xs,rfl,z2⟩
     |sh T =>
      obtain⟨_,u,z1,z2⟩:=z
      rw[z1]
      exact⟨rfl,u,rfl,z2⟩
     |ow ts =>
      obtain⟨a,xs,z1,z2⟩:=z
      rw[z1]
      exact⟨a,xs,rfl,z2⟩
     |rf ts =>
      obtain⟨a,xs,z1,z2⟩:=z
      rw[z1]
      exact⟨a,xs,rfl,z2⟩
theorem Ok.mu(e:Ok K R ρ σ G H F)(m:Mu ρ i):∃a,σ[i]?=some (some (.ref a))/\F i=[a]:=by
 have z:=e.sl i
 obtain⟨ts,q|q⟩:=m <;> (rw[q]at z; obtain⟨a,xs,z1,z2,_⟩:=z; exact⟨a,z1,z2⟩)
theorem Ok.leave(e1:Ok K R ρ1 σ G1 H1 F1)(e:Ok K R ρ τ G' H' F')(s:aC K G1 H1 (inF src ρ1 F1) G' H' F')(I:Inj src)(ag:∀k j:Nat,src[k]?=some (some j) -> τ[k]?=(cY src σ)[k]?)(so:dU src ρ ρ1=true):Ok K R (bf src ρ ρ1) σ G' H' F1/\aC K G1 H1 F1 G' H' F1:=by
 have inn:∀{k j:Nat},src[k]?=some (some j)->jx ρ1[j]?=true->Mu ρ k/\∃a,F1 j=[a]/\F' k=[a]/\σ[j]?=some (some (.ref a))/\τ[k]?=some (some (.ref a)):=λq m=>by
  have mk:=Ia so q (Ah.mp m)
  obtain⟨a,q1,q2⟩:=e.mu mk
  obtain⟨b,q3,q4⟩:=e1.mu (Ah.mp m)
  have z:=ag _ _ q
  rw[q1]at z
  have z:=afw q z.symm
  rw[q3]at z
  cases z
  exact⟨mk,_,q4,q2,q3,q1⟩
 have out:∀j,(∀k,src[k]?=some (some j)->jx ρ1[j]?=true->False)->∀b∈F1 j,∀o,H1 b=some o->H' b=some o:=λj n b hb o h=>by
  refine s.fr b o h (λ⟨k,z⟩=>?_) ?_
  .obtain⟨j',q1,q2,q3⟩:=vP z
   cases e1.di j j' b hb q3
   exact n k q1 q2
  .obtain⟨_,z,m⟩:=e1.fl ⟨j,hb⟩
   exact e1.tb.nm z m
 refine⟨⟨by rw[lg,e1.len],e.sub,e.tb,e.tg,λb ⟨j,hb⟩=>?_,e.rg,e1.di,λj=>?_⟩,s.gg,λb o h n=>s.fr b o h λz=>n (vQ z),λb h=>(s.nw b h).imp id (Or.imp id vQ),λb h=>.inr h,s.dm⟩
 .cases z:G' b with
  |none=>rfl
  |some o =>
   rcases s.nw b (by rw[z]; exact λy=>by cases y)with y|y|⟨k,y⟩
   .exact(y (e1.hid b ⟨j,hb⟩)).elim
   .exact(e1.fs y ⟨j,hb⟩).elim
   .obtain⟨j',q1,q2,q3⟩:=vP y
    obtain⟨_,a,h1,h2,_⟩:=inn q1 q2
    rw[h1]at q3
    rw[e.hid b ⟨k,by rw[h2]; exact q3⟩]at z
    cases z
 .rcases Ib I (rfl:(bf src ρ ρ1)[j]?=_)with⟨k,ts,q1,q2,q3⟩|⟨n,q⟩
  .rw[<-q3]
   cases m:jx ρ1[j]? with
   |false =>
    have:(bM j ts ρ1)[j]?=ρ1[j]? := by
     unfold bM
     split <;> first|rfl|(rename_i y; rw[y]at m; cases m)
    rw[this]
    exact(e1.sl j).mono s.gg (out j λk _ z=>by rw[m]at z; cases z)
   |true =>
    obtain⟨_,a,h1,h2,h3,h4⟩:=inn q1 m
    have z:=e.sl k
    have z1:=e1.sl j
    have y:∃xs,H' a=some (.lst xs)/\au K G' xs ts:=by
     rcases q2 with q2|q2 <;> (rw[q2,h4]at z; obtain⟨b,xs,y1,_,_,y2⟩:=z; cases y1; exact⟨xs,y2⟩)
    obtain⟨xs,y1,y2⟩:=y
    unfold bM
    unfold jx at m
    split at m <;> rename_i w <;> (try cases m) <;>
    .rw[w]at z1
     obtain⟨b,_,y3,_,y4,_⟩:=z1
     rw[h3]at y3
     cases y3
     try simp only[w]
     rw[eO (List.getElem?_eq_some_iff.mp w).1]
     exact⟨a,xs,h3,h1,y4,y1,y2⟩
  .rw[<-q]
   exact(e1.sl j).mono s.gg (out j λk q1 z=>n k q1 (inn q1 z).1)
theorem Ok.afx(e:Ok K R ρ σ G H F)(h:H D=some (.lst xs))(n:¬Fn F D)(g:G D=none):Ok K R ρ σ G (upd H D (.lst ys)) F:=by
 have ne:∀b,Fn F b->b≠D:=λb z y=>n (y▸z)
 refine⟨e.len,λb o q=>?_,e.tb.upd h,e.tg,e.hid,λb z=>⟨(e.rg b z).1,λy=>?_⟩,e.di,λi=>(e.sl i).mono (Same.refl _) λb hb o q=>?_⟩
 .rw[aD λz=>by rw[z,g]at q; cases q]
  exact e.sub b o q
 .by_cases z:b=D
  .subst z; rw[bJ]at y; cases y
  .rw[aD z]at y; exact(e.rg b ‹_›).2 y
 .rw[aD (ne b ⟨i,hb⟩)]; exact q
theorem aC.flt(s:aC K G H F G' H' F')(tb:bx K H)(h:H D=some (.lst xs))(n:¬Fn F D)(g:G D=none):H' D=some (.lst xs)/\¬Fn F' D/\G' D=none:=by
 refine⟨s.fr D _ h n (tb.nt h),s.out h n,?_⟩
 cases k:G' D with
 |none=>rfl
 |some o=>exact((s.nw D (by rw[k]; exact λz=>by cases z)).elim (λz=>z g) λz=>z.elim (λz=>by rw[h]at z; cases z) n).elim
end
noncomputable abbrev Ig:=Hp->Hp->Fp->List V->List Tr->Prop
noncomputable def oA(cv:Rv->Rs Tr)(g:GF)(c:BF)(f:EF):List Tr->En->Rs (List Tr × En)
 | [],ρ=>.ok ([],ρ)
 |u::us,ρ=>(g u ρ).bind λρ1=>(c ρ1).bind λb=>if b.1=true then(f b.2).bind λp=>(cv p.1).bind λT=>(oA cv g c f us p.2).bind λz=>.ok (T::z.1,z.2)else oA cv g c f us b.2
structure Acc(K:PySem.W.Frag)(R:Addr->Prop)(H1:Hp)(D:Addr)(cv:Rv->Rs Tr)(A:Ig):Prop where
 nx:∀r c,cv r ≠ .ex c
 nil:∀G H F,A G H F [] []
 stp:∀{G H F G' H' F' xs ts},bx K H->aC K G H F G' H' F'->A G H F xs ts->A G' H' F' xs ts
 pok:∀{G H F xs ts ys},A G H F xs ts->A G (upd H D ys) F xs ts
 add:∀{ρ ρ0 σ σ0 G H F G0 H0 F0 xs ts v r T},A G0 H0 F0 xs ts->Ok K R ρ0 σ0 G0 H0 F0->(∀b,H0 b=none->H1 b=none/\b≠D)->Ok K R ρ σ G H F->aC K G0 H0 F0 G H F->fJ K σ H0 G H F v r->cv r=.ok T->∃G2,Ok K R ρ σ G2 H F/\aC K G0 H0 F0 G2 H F/\A G2 H F (xs++[v]) (ts++[T])
noncomputable abbrev InC(K:PySem.W.Frag)(R:Addr->Prop)(A:Ig)(cv:Rv->Rs Tr)(gf:GF)(cf:BF)(f:EF)(src:List (Option Nat))(σ : St)(D:Addr)(G1 H1:Hp)(F1:Fp)(us:List Tr)(z:List Tr × En):Nat->Nat->St->Hp->Prop:=λi m τ H'=>m=us.length-i/\i<=us.length/\∃ρ' G' F' xs acc,Ok K R ρ' τ G' H' F'/\aC K G1 H1 F1 G' H' F'/\(H' D=some (.lst xs)/\¬Fn F' D/\G' D=none)/\A G' H' F' xs acc/\xs.length<=i/\(∀k j:Nat,src[k]?=some (some j) -> τ[k]?=(cY src σ)[k]?)/\∃y,oA cv gf cf f (us.drop i) ρ'=.ok y/\z=(acc++y.1,y.2)
theorem Ih{K:PySem.W.Frag}{A:Ig}{G1:Hp}{J:It}{tc:TT}(hc:∀σ H Q,Tt ⟨K,λ_ _=>False⟩ cf σ H Q->tc σ H Q)(I:Inj src)(hj:∀k j:Nat,src[k]?=some (some j)->k∉js)(ng:∀T ρ c,gf T ρ ≠ .ex c)(hlen:us.length<=100000)(hD:H1 D=none)(ac:Acc K R H1 D cv A)(e1:Ok K R ρ1 σ G1 H1 F1)
  (it:∀G' H',Same G1 G'->Same G' H'->(∀b o,H1 b=some o->¬Fn (inF src ρ1 F1) b->¬Tb K b->H' b=some o)->∀i,(i=us.length->J.stop i H')/\∀u,us[i]?=some u->J.go i H'/\∀x dZ,J.pq i H' x dZ->∃G'',Gw K G' H' G'' dZ/\Rep K G'' x u)
  (kz:oA cv gf cf f us (dF src ρ1)=.ok z) (so:dU src z.2 ρ1=true) (fin:∀G' H' F' xs,Ok K R (bf src z.2 ρ1) σ G' H' F1->aC K G1 H1 F1 G' H' F1->H' D=some (.lst xs)->G' D=none->(∀b,Fn F' b->H1 b=none\/Fn F1 b)->¬Fn F' D->A G' H' F' xs z.1->Q (.ref D) H') :
  ∃W:Nat->Nat->St->Hp->Prop,(∃m,W 0 m (cY src σ) (upd H1 D (.lst [])))/\∀i m σ' H',W i m σ' H' ->
  (J.stop i H'/\Pu Q D H')\/(J.go i H'/\∀x dZ,J.pq i H' x dZ->n8 K gf js x σ' dZ λσ2 H2=>tc σ2 H2 λb vO=>if b=true then Te ⟨K,λ_ _=>False⟩ f σ2 vO λv H3=>∃xs,H3 D=some (.lst xs)/\xs.length<sizeLine/\∃m',m'<m/\W (i+1) m' σ2 (upd H3 D (.lst (xs++[v])))else ∃m',m'<m/\W (i+1) m' σ2 vO):=by
 refine⟨InC K R A cv gf cf f src σ D G1 H1 (inF src ρ1 F1) us z,⟨us.length,by simp,Nat.zero_le _,dF src ρ1,G1,inF src ρ1 F1,[],[],?_,?_,⟨bJ,λh=>e1.fs hD (vQ h),e1.sub.free hD⟩,ac.nil _ _ _,Nat.le_refl _,λ_ _ _=>rfl,z,kz,rfl⟩,?_⟩
 .exact((e1.enter I).grow (.flt e1.sub hD)).1
 .exact((e1.enter I).grow (.flt e1.sub hD)).2
 rintro i m τ H2 ⟨rfl,hi,ρ2,G2,F2,xs,acc,e2,s2,d2,a2,l2,g2,y,ky,rfl⟩
 have q:=it G2 H2 s2.gg e2.sub s2.fr i
 have mv:∀{G3 H3 F3},aC K G1 H1 (inF src ρ1 F1) G3 H3 F3->∀ys,aC K G1 H1 (inF src ρ1 F1) G3 (upd H3 D (.lst ys)) F3:=λs ys=>⟨s.gg,λb o h n t=>by rw[aD (iW h hD)]; exact s.fr b o h n t,s.nw,s.nf,λb h=>by
  by_cases z:b=D
  .subst z; exact hD
  .rw[aD z]at h; exact s.dm b h⟩
 by_cases hlt:i<us.length
 .rw[List.drop_eq_getElem_cons hlt]at ky
  obtain⟨go,yl⟩:=q.2 us[i] (by simp[hlt])
  refine .inr ⟨go,λx H3 yy=>?_⟩
  obtain⟨G3,w3,r3⟩:=yl x H3 yy
  obtain⟨e3,s3⟩:=e2.grow w3
  obtain⟨ρ4,k4,ky⟩:=eY ky
  obtain⟨b,k5,ky⟩:=eY ky
  refine⟨R,ρ2,G3,F2,_,e3,r3,?_⟩
  rw[k4]
  intro σ4 F4 e4 f4 a4
  have s4:=s3.trans (aC.sub f4)
  have g4:∀k j:Nat,src[k]?=some (some j) -> σ4[k]?=(cY src σ)[k]? := λk j h=>(a4 k (hj k j h)).trans (g2 k j h)
  refine hc _ _ _ ⟨R,ρ4,G3,F4,e4,?_⟩
  rw[k5]
  intro G5 H5 F5 e5 s5
  have sG:=s4.trans s5
  have d5:=sG.flt e2.tb d2.1 d2.2.1 d2.2.2
  split at ky <;> rename_i c
  .rw[if_pos c]
   obtain⟨p,k6,ky⟩:=eY ky
   obtain⟨T,k7,ky⟩:=eY ky
   obtain⟨y',k8,ky⟩:=eY ky
   cases ky
   refine⟨R,b.2,G5,F5,e5,?_⟩
   rw[k6]
   intro v G6 H6 F6 e6 s6 v6
   obtain⟨G7,e7,s7,a7⟩:=ac.add (ac.stp e2.tb sG a2) e5 (λb h=>⟨(s2.trans sG).dm b h,λz=>by rw[z,d5.1]at h; cases h⟩) e6 s6 v6 k7
   have d7:=s7.flt e5.tb d5.1 d5.2.1 d5.2.2
   refine⟨xs,d7.1,Nat.lt_of_le_of_lt (show xs.length<=100000 by omega) (by decide),us.length-(i+1),by omega,rfl,hlt,p.2,G7,F6,xs++[v],acc++[T],e7.afx d7.1 d7.2.1 d7.2.2,mv ((s2.trans sG).trans s7) _,⟨bJ,d7.2⟩,ac.pok a7,by simp; omega,g4,y',k8,by simp⟩
  .rw[if_neg c]
   exact⟨us.length-(i+1),by omega,rfl,hlt,b.2,G5,F5,xs,acc,e5,s2.trans sG,d5,ac.stp e2.tb sG a2,by omega,g4,y,ky,rfl⟩
 .have z:i=us.length:=by omega
  subst z
  rw[List.drop_length]at ky
  cases ky
  obtain⟨e',s'⟩:=e1.leave e2 s2 I g2 so
  exact .inl ⟨q.1 rfl,fin G2 H2 F2 xs e' s' d2.1 d2.2.2 (λb h=>(s2.nf b h).imp id vQ) d2.2.1 (by rw[List.append_nil]; exact a2)⟩
theorem afy{K:PySem.W.Frag}:Acc K R H1 D jE λG _ _ xs ts=>au K G xs ts:=⟨zU,λ_ _ _=>.nil,λ_ s a=>a.mono s.gg,λa=>a,λa e0 _ e s v q=>by
 obtain⟨G2,e2,s2,m,r⟩:=e.pU e0 s v q
 exact⟨G2,e2,s2,(a.mono s2.gg).app (.cons r .nil)⟩⟩
noncomputable def fY(g:GF)(c:BF)(f:EF):List Tr->En->Rs (List Tr × En)
 | [],ρ=>.ok ([],ρ)
 |u::us,ρ=>(g u ρ).bind λρ1=>(c ρ1).bind λb=>if b.1=true then(f b.2).bind λp=>(jE p.1).bind λT=>(fY g c f us p.2).bind λz=>.ok (T::z.1,z.2)else fY g c f us b.2
theorem Sg(g:GF)(c:BF)(f:EF):∀us,fY g c f us=oA jE g c f us
 | []=>rfl
 |u::us=>by funext ρ; simp only[fY,oA,Sg g c f us]
noncomputable def iC:BF:=λρ=>.ok (true,ρ)
noncomputable def mQ(src:List (Option Nat))(fi:IF)(g:GF)(c:BF)(f:EF):EF:=λρ=>(fi ρ).bind λp=>if p.1.length<=100000 then(c7 (fY g c f p.1 (dF src p.2))).bind λz=>if dU src z.2 p.2=true then .ok (.v (.lst z.1) true,bf src z.2 p.2)else .bad else .bad
theorem jP{α β : Type}{r:Rs α}{f : α -> Rs β}{t:Tx}{P : β -> Prop}(h:bF t H F ((c7 r).bind f) P):∃a,r=.ok a/\bF t H F (f a) P:=by
 cases r with
 |ok a=>exact⟨a,rfl,h⟩
 |_=>exact h.elim
theorem Sh{t:Tx}{tc:TT}(hc:∀σ H Q,Tt ⟨t.K,λ_ _=>False⟩ cf σ H Q->tc σ H Q)(I:Inj src)(hj:∀k j:Nat,src[k]?=some (some j)->k∉js)(ng:∀T ρ c,gf T ρ ≠ .ex c)(h:Te t (mQ src fi gf cf f) σ H Q):sE (Ti t fi) (n8 t.K gf js) src tc (Te ⟨t.K,λ_ _=>False⟩ f) σ H Q:=by
 obtain⟨R,ρ,G,F,e,h⟩:=h
 refine⟨R,ρ,G,F,e,h.run (aC.refl (G:=G)) λp h J G1 H1 F1 e1 s1 it D hD=>?_⟩
 split at h
 case isFalse=>exact h.elim
 obtain⟨z,kz,h⟩:=jP h
 split at h
 case isFalse=>exact h.elim
 rw[Sg]at kz
 exact Ih hc I hj ng ‹_› hD afy e1 (λG' H' m s _=>it G' H' m s) kz ‹_› λG' H' F' xs e' s' d g _ _ a=>h _ G' H' F1 e' (s1.trans s') ⟨⟨D,xs,_,rfl,rfl,s1.dm D hD,g,d,a⟩,λ_ a q=>by cases q; exact e1.fs hD⟩
noncomputable def cG(Γ : Gx)(N:List Str)(scope:Scope):Gx:=⟨N,Pk scope Γ.sc,λx=>scope.names.lookup x == some .cell,Γ.B,[],true,Γ.k,[]⟩
theorem mU(o:Ox cl Γ E X)(d:N.Nodup):Ox cl (cG Γ N scope) E0 (cA X N scope C s H ex):=⟨rfl,by show Pk scope X.env.scope=_; rw[o.s]; rfl,d,o.l,o.r,Qc,o.B,(λ_ z=>nomatch z),o.x,rfl,(λ_=>rfl),λ_ z=>nomatch z⟩
noncomputable def qw(Γ : Gx)(N:List Str)(src:List (Option Nat))(scope:Scope)(js:List Nat):Bool :=
 decide (scope.kind=.function)&&decide (∀y∈scope.names,y.2=.cell->scope.names.lookup y.1=some .cell)&&decide (∀y∈scope.names,y.2=.local->scope.names.lookup y.1=some .local)&&decide (∀y∈scope.names,y.2=.free -> Γ.sc.names.lookup y.1=some .cell\/Γ.sc.names.lookup y.1=some .free)&&decide (src.length=N.length)&&decide (∀p∈N.zip src,∀j∈p.2,Γ.N[j]?=some p.1/\scope.names.lookup p.1=some .free)&&decide N.Nodup&&decide (src.filterMap id).Nodup&&js.all λk=>(src[k]?).join.isNone
theorem vR(h:qw Γ N src scope js=true):rC Γ.sc Γ.N N src scope/\N.Nodup/\Inj src/\∀k j:Nat,src[k]?=some (some j)->k∉js:=by
 simp only[qw,an]at h
 obtain⟨⟨⟨⟨⟨⟨⟨⟨h1,h2⟩,h3⟩,h4⟩,h5⟩,h6⟩,h7⟩,h8⟩,h9⟩:=h
 refine⟨⟨of_decide_eq_true h1,of_decide_eq_true h2,of_decide_eq_true h3,of_decide_eq_true h4,of_decide_eq_true h5,of_decide_eq_true h6⟩,of_decide_eq_true h7,afu (of_decide_eq_true h8),λk j e m=>?_⟩
 have:=List.all_eq_true.mp h9 k m
 rw[e]at this
 cases this
noncomputable def Ii(v t:Pos)(scope:Scope)(y:Str)(env:Env):Bool:=env.blockKind == .function&&env.kindOf y == some .local&&t.line == v.line && !(scope.names.any λ(n,k)=>n == y&&(k == .local || k == .cell))
theorem Ij{te Ik:TE}{b:Str->Pos->Bool}(o:Ox cl Γ E X)(hw:∀y p l,swapsWith e (some (.Name y p)) l X.env=pure (b y p))(hP:PE X e te)(hS:∀i y p sp,Wr X i y->b y p=true->PS X (.Assign [.Name y p] e sp) (jZ te (jY i)))(imp:∀σ H Q,Ik σ H Q->te σ H Q):PE X e Ik/\∀i y p sp,Wr X i y->PS X (.Assign [.Name y p] e sp) (jZ Ik (jY i)):=by
 refine⟨hP.imp imp,λi y p sp w=>?_⟩
 cases hb:b y p
 .exact Dq o.d w.1 w.2.1 (hP.imp imp) ((hw y p _).trans (congrArg pure hb)) w.2.2
 .exact(hS i y p sp w hb).imp λD σ H=>imp σ H _
noncomputable def cC(src:List (Option Nat))(N:List Str)(i:VI mO)(g:VG je kY)(b:VE bU):VC (mQ src mO je iC bU) where
 ck Γ e:=pL e λx aK sc _=>aP aK λbA bH=>pO bA λt y cJ eE=>aQ cJ (jM eE 0 (aQ bH (i.ck Γ (t,y)&&g.ck (cG Γ N sc) t&&b.ck (cG Γ N sc) x&&qw Γ N src sc kY)))
 cs:=i.cs++(g.cs++b.cs)
 ok:=@λcl E Γ X e q o h=>by
  walk_at "O"
  rename_i x0 sc pos t0 y0
  simp only[an]at h
  obtain⟨⟨⟨h1,h2⟩,h3⟩,h4⟩:=h
  obtain⟨pi,ni⟩:=i.ok (ml q) o h1
  obtain⟨S,nd,I,hj⟩:=vR h4
  have pg:=λC s H ex=>g.ok (X:=cA X N sc C s H ex) (ml (mr q)) (mU o nd) h2
  have pb:=λC s H ex=>b.ok (X:=cA X N sc C s H ex) (mr (mr q)) (mU o nd) h3
  exact Ij o (b:=λy p=>Ii pos p sc y X.env) (λ_ _ _=>rfl) (Ag o.s o.N S o.l pi (λC s H ex=>(pg C s H ex).1) (λ_ _ _ _=>vN) pb (ou ni)) (λi y p sp w hb=>HY o.d w.1 w.2.1 o.s o.N S o.l pi (λC s H ex=>(pg C s H ex).1) (λ_ _ _ _=>vN) pb (congrArg pure hb) (ou ni) w.2.2) λσ H Q h=>by
   exact Sh (λσ H Q ⟨R,ρ,G,F,e,h⟩=>h G H F e .refl) I hj (pg 0 X.s₀ X.H₀ []).2.1 h
noncomputable def Il(src:List (Option Nat))(N:List Str)(i:VI mO)(g:VG je kY)(k:VT su)(b:VE bU):VC (mQ src mO je su bU) where
 ck Γ e:=pL e λx aK sc _=>aP aK λbA bH=>pO bA λt y cJ eE=>aP cJ λz fW=>aQ fW (jM eE 0 (aQ bH (i.ck Γ (t,y)&&g.ck (cG Γ N sc) t&&b.ck (cG Γ N sc) x&&k.ck (cG Γ N sc) z&&qw Γ N src sc kY)))
 cs:=i.cs++(g.cs++(b.cs++k.cs))
 ok:=@λcl E Γ X e q o h=>by
  walk_at "O"
  rename_i x0 sc pos t0 y0 z0
  simp only[an]at h
  obtain⟨⟨⟨⟨h1,h2⟩,h3⟩,h5⟩,h4⟩:=h
  obtain⟨pi,ni⟩:=i.ok (ml q) o h1
  obtain⟨S,nd,I,hj⟩:=vR h4
  have pg:=λC s H ex=>g.ok (X:=cA X N sc C s H ex) (ml (mr q)) (mU o nd) h2
  have pb:=λC s H ex=>b.ok (X:=cA X N sc C s H ex) (ml (mr (mr q))) (mU o nd) h3
  have pk:=λC s H ex=>k.ok (X:=cA X N sc C s H ex) (mr (mr (mr q))) (mU o nd) h5
  exact Ij o (b:=λy p=>Ii pos p sc y X.env) (λ_ _ _=>rfl) (Ag o.s o.N S o.l pi (λC s H ex=>(pg C s H ex).1) (λC s H ex=>R7 (pk C s H ex)) pb (ou ni)) (λi y p sp w hb=>HY o.d w.1 w.2.1 o.s o.N S o.l pi (λC s H ex=>(pg C s H ex).1) (λC s H ex=>R7 (pk C s H ex)) pb (congrArg pure hb) (ou ni) w.2.2) λσ H Q=>Sh (λ_ _ _ h=>h) I hj (pg 0 X.s₀ X.H₀ []).2.1
noncomputable def afz(src:List (Option Nat))(n:Nat)(g:GF)(c:BF)(f:EF):EF:=λρ=>(con ρ n).bind λus=>if us.length<=100000 then(c7 (fY g c f us (dF src ρ))).bind λz=>if dU src z.2 ρ = true then .ok (.v (.lst z.1) true,bf src z.2 ρ)else .bad else .bad
noncomputable def sH:Rv->Rs Tr
 |.v (.lst us) true=>if bT us=true then .ok (.lst us)else .bad
 |_=>.bad
noncomputable def lq(g:GF)(c:BF)(f:EF):List Tr->En->Rs (List Tr × En)
 | [],ρ=>.ok ([],ρ)
 |u::us,ρ=>(g u ρ).bind λρ1=>(c ρ1).bind λb=>if b.1=true then(f b.2).bind λp=>(sH p.1).bind λT=>(lq g c f us p.2).bind λz=>.ok (T::z.1,z.2)else lq g c f us b.2
theorem Im(g:GF)(c:BF)(f:EF):∀us,lq g c f us=oA sH g c f us
 | []=>rfl
 |u::us=>by funext ρ; simp only[lq,oA,Im g c f us]
section
variable {K:PySem.W.Frag}{R:Addr->Prop}{ρ : En}{σ : St}{G H H1 G' H':Hp}{F F':Fp}
structure Ai(K:PySem.W.Frag)(R:Addr->Prop)(H1:Hp)(D:Addr)(G H:Hp)(F:Fp)(xs:List V)(ts:List Tr)(bs:List Addr):Prop where
 nd:bs.Nodup
 al:∀b∈bs,H1 b=none/\b≠D/\¬R b/\¬Fn F b/\G b=none
 dr:DR K G H xs ts bs
theorem Ai.stp(tb:bx K H)(s:aC K G H F G' H' F')(a:Ai K R H1 D G H F xs ts bs):Ai K R H1 D G' H' F' xs ts bs:=by
 refine⟨a.nd,λb hb=>?_,a.dr.mono s.gg λb hb o q=>?_⟩ <;> obtain⟨h1,h2,h3,h4,h5⟩:=a.al b hb <;> obtain⟨ys,hy⟩:=a.dr.lst b hb
 .exact⟨h1,h2,h3,(s.flt tb hy h4 h5).2⟩
 .rw[hy]at q
  cases q
  exact(s.flt tb hy h4 h5).1
theorem Sq:Acc K R H1 D sH λG H F xs ts=>∃bs,Ai K R H1 D G H F xs ts bs:=by
 refine⟨λr c=>(by unfold sH; (repeat' split) <;> (intro z; cases z)),λ_ _ _=>⟨[],.nil,(λ_ h=>by cases h),.nil⟩,λtb s ⟨bs,a⟩=>⟨bs,a.stp tb s⟩,λ⟨bs,a⟩=>⟨bs,a.nd,a.al,a.dr.mono (Same.refl _) λb hb o q=>?_⟩,λ⟨bs,a0⟩ e0 hn e s v q=>?_⟩
 .rw[aD (a.al b hb).2.1]; exact q
 .have a:=a0.stp e0.tb s
  unfold sH at q
  (repeat' split at q) <;> cases q
  rename_i nl
  obtain⟨⟨c,ys,us,rfl,q1,q2,q3,q4,q5⟩,f⟩:=v
  cases q1
  refine⟨_,e,s,bs++[c],List.nodup_append.mpr ⟨a.nd,by simp,λb hb d hd z=>?_⟩,λb hb=>?_,a.dr.app (.rw q4 (.flat q5 nl) .nil)⟩
  .cases List.mem_singleton.mp hd
   obtain⟨zs,hz⟩:=a0.dr.lst b hb
   rw[z,q2]at hz
   cases hz
  .rcases List.mem_append.mp hb with hb|hb
   .exact a.al b hb
   .cases List.mem_singleton.mp hb
    exact⟨(hn _ q2).1,(hn _ q2).2,e0.rn q2,f rfl _ rfl,q3⟩
end
noncomputable def Io(i:Nat)(src:List (Option Nat))(fi:IF)(g:GF)(c:BF)(f:EF):SF:=λρ=>(fi ρ).bind λp=>if p.1.length<=100000 then(c7 (lq g c f p.1 (dF src p.2))).bind λz=>if dU src z.2 p.2=true then .ok (.nx,(bf src z.2 p.2).set i (.dp z.1))else .bad else .bad
theorem Ok.afA{K:PySem.W.Frag}(e:Ok K R ρ σ G H F)(i:Nat)(n:(a::bs).Nodup)(al:∀b∈a::bs,¬R b/\¬Fn F b/\G b=none)(h:H a=some (.lst xs))(d:DR K G H xs ts bs):∃F',Ok K R (ρ.set i (.dp ts)) (σ.set i (some (.ref a))) G H F'/\∀b,Fn F' b->b∈a::bs\/Fn F b:=by
 by_cases l:i < ρ.length
 .refine⟨cW F i (a::bs),e.one i _ (by rw[List.length_set,List.length_set,e.len]) (λj n=>⟨fL n,fL n⟩) (Same.refl _) e.sub e.tb (λb h=>.inl h) (λ_ _ _ _ _ h=>h) (λb h=>(e.rg b h).2) (λb h=>⟨(al b h).2.2,λj _ z=>(al b h).2.1 ⟨j,z⟩⟩) ?_,λb h=>?_⟩
  .rw[eO l,eO (e.len▸l)]
   exact⟨a,xs,bs,rfl,rfl,n,λb hb=>(al b hb).1,h,d⟩
  .rcases jw h with h|⟨j,_,h⟩
   .exact .inl h
   .exact .inr ⟨j,h⟩
 .rw[nZ l,nZ (e.len▸l)]
  exact⟨F,e,λb h=>.inr h⟩
theorem afB{t:Tx}{tc:TT}(hc:∀σ H Q,Tt ⟨t.K,λ_ _=>False⟩ cf σ H Q->tc σ H Q)(I:Inj src)(hj:∀k j:Nat,src[k]?=some (some j)->k∉js)(ng:∀T ρ c,gf T ρ ≠ .ex c)(h:Ts t (Io n src fi gf cf f) D σ H):jZ (sE (Ti t fi) (n8 t.K gf js) src tc (Te ⟨t.K,λ_ _=>False⟩ f)) (jY n) D σ H:=by
 obtain⟨R,ρ,G,F,e,h⟩:=h
 refine⟨R,ρ,G,F,e,h.run (aC.refl (G:=G)) λp h J G1 H1 F1 e1 s1 it D hD=>?_⟩
 split at h
 case isFalse=>exact h.elim
 obtain⟨z,kz,h⟩:=jP h
 split at h
 case isFalse=>exact h.elim
 rw[Im]at kz
 refine Ih hc I hj ng ‹_› hD Sq e1 (λG' H' m s _=>it G' H' m s) kz ‹_› λG' H' F' xs e' s' d g _ _ ⟨bs,a⟩=>?_
 have al:∀b∈D::bs,H1 b=none/\¬R b/\¬Fn F1 b/\G' b=none:=List.forall_mem_cons.mpr ⟨⟨hD,e1.rn hD,e1.fs hD,g⟩,λb hb=>⟨(a.al b hb).1,(a.al b hb).2.2.1,e1.fs (a.al b hb).1,(a.al b hb).2.2.2.2⟩⟩
 obtain⟨F2,e2,f2⟩:=e'.afA n (List.nodup_cons.mpr ⟨λz=>(a.al D z).2.1 rfl,a.nd⟩) (λb hb=>(al b hb).2) d a.dr
 have s2:=s1.trans s'
 exact h _ G' H' F2 e2 ⟨s2.gg,s2.fr,s2.nw,λb z=>(f2 b z).elim (λz=>.inl (s1.dm b (al b z).1)) (s2.nf b),s2.dm⟩
noncomputable def sCd(n:Nat)(src:List (Option Nat))(N:List Str)(i:VI mO)(g:VG je kY)(b:VE bU):VS (Io n src mO je iC bU) where
 ck Γ e:=jr e λaK bA _=>aP aK λbH cJ=>atName bH λy p=>aQ cJ (pL bA λx eE sc pos=>aP eE λfW jN=>pO fW λt z vA vD=>aQ vA (jM vD 0 (aQ jN (vm Γ n y&&i.ck Γ (t,z)&&g.ck (cG Γ N sc) t&&b.ck (cG Γ N sc) x&&qw Γ N src sc kY))))
 cs:=i.cs++(g.cs++b.cs)
 ok:=@λcl E Γ X e q o h=>by
  walk_at "O"
  rename_i sp y p x0 sc pos t0 y0
  simp only[an]at h
  obtain⟨⟨⟨⟨hw,h1⟩,h2⟩,h3⟩,h4⟩:=h
  obtain⟨pi,ni⟩:=i.ok (ml q) o h1
  obtain⟨S,nd,I,hj⟩:=vR h4
  have pg:=λC s H ex=>g.ok (X:=cA X N sc C s H ex) (ml (mr q)) (mU o nd) h2
  have pb:∀C s H ex,PE (cA X N sc C s H ex) x0 (Te (tx cl E0 X) bU):=λC s H ex=>b.ok (X:=cA X N sc C s H ex) (mr (mr q)) (mU o nd) h3
  have Ss:∀C s H ex,PG (cA X N sc C s H ex) t0 (n8 (aq X.K) je kY):=λC s H ex=>(pg C s H ex).1
  refine((Ij o (b:=λy p=>Ii pos p sc y X.env) (λ_ _ _=>rfl) (Ag o.s o.N S o.l pi Ss (λ_ _ _ _=>vN) pb (ou ni)) (λi y p sp w hb=>HY o.d w.1 w.2.1 o.s o.N S o.l pi Ss (λ_ _ _ _=>vN) pb (congrArg pure hb) (ou ni) w.2.2) λσ H Q h=>h).2 _ _ _ _ (z9 o hw)).imp λD σ H h=>?_
  exact afB (λσ H Q ⟨R,ρ,G,F,e,h⟩=>h G H F e .refl) I hj (pg 0 X.s₀ X.H₀ []).2.1 h
noncomputable def vU(i:Nat)(ρ : En):En:=match ρ[i]? with
 |some (.dp ts)=>ρ.set i (.ow ts)
 |_=>ρ
noncomputable def Sv(i:Nat)(f:SF):SF:=λρ=>f (vU i ρ)
open Classical in
theorem Ok.vU{K:PySem.W.Frag}(e:Ok K R ρ σ G H F)(i:Nat):∃G' F',Ok K R (L2.vU i ρ) σ G' H F'/\aC K G H F G' H F':=by
 unfold L2.vU
 split
 case h_2=>exact⟨G,F,e,.refl⟩
 rename_i ts k
 have z:=e.sl i
 rw[k]at z
 obtain⟨a,xs,bs,h1,h2,nd,h3,h4,d⟩:=z
 have Sw:∀b∈bs,b∈F i:=λb hb=>by rw[h2]; exact List.mem_cons_of_mem _ hb
 have nda:=(List.nodup_cons.mp (h2▸nd)).1
 let G':Hp:=λb=>if b∈bs then H b else G b
 have m:Same G G':=λb o q=>by
  show(if b∈bs then H b else G b)=_
  split
  .exact e.sub b o q
  .exact q
 have sp:∀b,G' b≠none->G b≠none\/b∈bs:=λb q=>by
  by_cases z:b∈bs
  .exact .inr z
  .rw[show G' b=G b from if_neg z]at q; exact .inl q
 refine⟨G',cW F i [a],e.one i [a] (by rw[List.length_set,e.len]) (λj n=>⟨fL n,rfl⟩) m (λb o q=>?_) e.tb (λb q=>(sp b q).imp id λz=>⟨λj n y=>n (e.di j i b y (Sw b z)),?_,h3 b (by rw[h2]; exact List.mem_cons_of_mem _ z)⟩) (λ_ _ _ _ _ h=>h) (λb h=>(e.rg b h).2) (λb h=>?_) ?_,m,λ_ _ h _ _=>h,λb q=>(sp b q).imp id λz=>.inr ⟨i,Sw b z⟩,λb z=>?_,λ_ h=>h⟩
 .have q:(if b∈bs then H b else G b)=some o:=q
  split at q
  .exact q
  .exact e.sub b o q
 .obtain⟨ys,hy⟩:=d.lst b z
  exact e.tb.nt hy
 .cases List.mem_singleton.mp h
  refine⟨?_,λj n y=>n (e.di j i a y (by rw[h2]; exact List.mem_cons_self ..))⟩
  rw[show G' a=G a from if_neg nda]
  exact e.hid a ⟨i,by rw[h2]; exact List.mem_cons_self ..⟩
 .rw[eO (List.getElem?_eq_some_iff.mp k).1]
  refine⟨a,xs,h1,rfl,h3 a (by rw[h2]; exact List.mem_cons_self ..),h4,d.reps m λb hb=>if_pos hb⟩
 .rcases jw z with z|⟨j,_,z⟩
  .exact .inr ⟨i,by rw[h2,List.mem_singleton.mp z]; exact List.mem_cons_self ..⟩
  .exact .inr ⟨j,z⟩
open PySem.W
noncomputable def insI(i:Int):List Int->List Int
 | []=>[i]
 |j::r=>if i<=j then i::j::r else j::insI i r
noncomputable def sJ(l:List Int):List Int:=l.foldr insI []
theorem insI_perm(i:Int):∀l,(insI i l).Perm (i::l)
 | []=>.refl _
 |j::r=>by
  unfold insI
  split
  .exact .refl _
  .exact((insI_perm i r).cons j).trans (.swap i j r)
theorem Sy(i:Int):∀l,l.Pairwise (· <= ·)->(insI i l).Pairwise (· <= ·)
 | [],_=>by simp[insI]
 |j::r,hp=>by
  have hp':=List.pairwise_cons.mp hp
  unfold insI
  split
  .rename_i b
   refine List.pairwise_cons.mpr ⟨λk hk=>?_,hp⟩
   rcases List.mem_cons.mp hk with rfl|hk
   .exact b
   .have:=hp'.1 k hk; lia
  .rename_i b
   refine List.pairwise_cons.mpr ⟨λk hk=>?_,Sy i r hp'.2⟩
   rcases List.mem_cons.mp ((insI_perm i r).mem_iff.mp hk)with rfl|hk
   .lia
   .exact hp'.1 k hk
theorem Ip:∀l:List Int,(sJ l).Perm l/\(sJ l).Pairwise (· <= ·)
 | []=>⟨.refl _,.nil⟩
 |i::r=>by
  obtain⟨h1,h2⟩:=Ip r
  exact⟨(insI_perm i _).trans (h1.cons i),Sy i _ h2⟩
theorem SJ:∀{l m:List Int},l.Perm m->l.Pairwise (· <= ·)->m.Pairwise (· <= ·)->l=m
 | [],m,p,_,_=>by rw[List.nil_perm.mp p]
 |a::l,[],p,_,_=>by simpa using p.length_eq
 |a::l,b::m,p,h1,h2=>by
  have h1':=List.pairwise_cons.mp h1
  have h2':=List.pairwise_cons.mp h2
  have e:a=b:=by
   rcases List.mem_cons.mp (p.mem_iff.mp (List.mem_cons_self ..))with z|z
   .exact z
   .rcases List.mem_cons.mp (p.mem_iff.mpr (List.mem_cons_self (a:=b)))with y|y
    .exact y.symm
    .have a1:=h1'.1 b y
     have a2:=h2'.1 a z
     lia
  subst e
  rw[SJ p.cons_inv h1'.2 h2'.2]
theorem SM(p:m.Perm l)(h:m.Pairwise (· <= ·)):m=sJ l:=SJ (p.trans (Ip l).1.symm) h (Ip l).2
theorem SN:∀{ns:List Int} {vs:List Value},Vals (ns.map V.int) vs->IntsAre vs ns
 | [],_,h=>by cases h; exact .nil
 |n::ns,_,h=>by
  cases h with
  |cons h1 h2 =>
   obtain⟨t,rfl⟩:=h1
   exact .cons n t (SN h2)
section
variable {X:Cx}
noncomputable def Ir(K:PySem.W.Frag):List V->Hp->VK->Prop:=λxs H Q=>∃p ns,xs=[.ref p]/\aL K H p (ns.map V.int)/\ns.length<64/\∀l,H l=none->Q (.ref l) (upd H l (.lst ((sJ ns).map V.int)))
theorem afC:eV X (.builtin "sorted") (Ir X.K):=by
 intro pins s σ H xs us Q I r h
 obtain⟨p,ns,rfl,hq,h64,q⟩:=h
 obtain⟨u,rfl,rx⟩:=vals1 r
 cases rx
 obtain⟨its,r',pl,hz⟩:=I.list hq
 have hl:=r'.length
 rw[List.length_map]at hl
 refine sorted_ints pl.isList (SN r') (by lia) λout ns' a1 a2 a3=>?_
 obtain⟨e,he⟩:=sortedAll_at s.heap its out
 have e2:=SM a2 a3
 subst e2
 have len:=a2.length_eq
 refine⟨.ref (s.heap.objs.size+1),_,I.laid (t':=s.toks) (λb o z=>sortedAll_old z) (Nat.le_succ _) (show fQ X.prog X.w _ _ _ (.lst ((sJ ns).map V.int))from⟨by rw[List.length_map,sizeLine_eq]; lia,out.toList,e,El a1,by rw[Array.toArray_toList]; exact he⟩),rfl,q _ (I.hok.fresh (Nat.le_succ _))⟩
end
end L2
end
section
namespace L2
open PySem PySem.Spec PyProof.Rows
section
variable {X:Cx}
noncomputable def Iu:V->List V->Hp->VK->Prop:=λx vs H Q=>∃(l:Addr) (xs:List V) (k:Nat) (y:V),x=.ref l/\vs=[.int (k:Int),y]/\H l=some (.lst xs)/\k<=xs.length/\xs.length<=100000/\Q .non (upd H l (.lst (xs.take k++y::xs.drop k)))
theorem afD:Ei X "list.insert" Iu:=by
 intro pins s σ H x vs v us Q I rx rv h
 obtain⟨l,xs,k,y,rfl,rfl,hH,hk,hz,q⟩:=h
 cases rx
 cases rv with
 |cons r1 rv =>
 cases rv with
 |cons ru rv =>
 cases rv
 obtain⟨t,rfl⟩:=r1
 rename_i u
 obtain⟨z,its,n,r,hl,e⟩:=I.Pb hH
 have big:100000+1<=sizeLine:=Nat.le_of_lt (show 100001<sizeLine from by unfold sizeLine; lia)
 have hs1:its.toArray.size<=sizeLine:=by rw[List.size_toArray]; lia
 have hk':(if(k:Int)<0 then((k:Int)+(its.toArray.size:Int)).toNat else min (k:Int).toNat its.toArray.size)=k:=by
  rw[if_neg (by lia),Int.toNat_natCast,List.size_toArray]
  lia
 have h1 : -(2 ^ 63)<=(k:Int):=by lia
 have h2:(k:Int)<2 ^ 63:=by lia
 have hfit:¬(!Builtin.List.listFitsIndex (k:Int))=true:=by rw[fitsIndex_both h1 h2]; exact Bool.false_ne_true
 have hlen:(xs.take k++y::xs.drop k).length<=sizeLine:=by
  rw[List.length_append,List.length_cons,List.length_take,List.length_drop]
  lia
 clear h1 h2 big
 generalize (k:Int)=i at *
 refine call_meets F.slot_list_insert ⟨_,e,rfl⟩ F.entry_list_insert (F.args_list_insert_3 _ _ _)
  (AutoSeq1.list_insert_list_int_val_1 l its.toArray n i t u hfit hs1) ⟨e,?_⟩
 refine⟨.non,_,I.Pa (its':=its.take k++u::its.drop k) hH e ?_ (Vals.append (r.take _) (.cons ru (r.drop _))) hlen,rfl,q⟩
 show(its.toArray.extract 0 (if i<0 then(i+(its.toArray.size:Int)).toNat else min i.toNat its.toArray.size)).push u++its.toArray.extract (if i<0 then(i+(its.toArray.size:Int)).toNat else min i.toNat its.toArray.size)=_
 rw[hk']
 exact PySem.W.kl_ins_eq its k u
end
open PySem.W
noncomputable def jg(kz:Nat->Int × Int)(i j:Nat):Prop:=((kz i).1<(kz j).1\/((kz i).1=(kz j).1/\(kz i).2<(kz j).2))\/(((kz i).1=(kz j).1/\(kz i).2=(kz j).2)/\i<j)
noncomputable instance {kz:Nat->Int × Int}{i j:Nat}:Decidable (jg kz i j):=by unfold jg; infer_instance
noncomputable def jQ(kz:Nat->Int × Int)(i:Nat):List Nat->List Nat
 | []=>[i]
 |j::r=>if jg kz i j then i::j::r else j::jQ kz i r
noncomputable def Iv(n:Nat)(kz:Nat->Int × Int):List Nat:=(List.range n).foldr (jQ kz) []
theorem Iw(kz:Nat->Int × Int)(i:Nat):∀l,(jQ kz i l).Perm (i::l)
 | []=>.refl _
 |j::r=>by
  unfold jQ
  split
  .exact .refl _
  .exact((Iw kz i r).cons j).trans (.swap i j r)
theorem SQ(kz:Nat->Int × Int)(i:Nat):∀l,(∀j∈l,i≠j)->l.Pairwise (jg kz)->(jQ kz i l).Pairwise (jg kz)
 | [],_,_=>by simp[jQ]
 |j::r,hn,hp=>by
  have hp':=List.pairwise_cons.mp hp
  unfold jQ
  split
  .rename_i b
   refine List.pairwise_cons.mpr ⟨λk hk=>?_,hp⟩
   rcases List.mem_cons.mp hk with rfl|hk
   .exact b
   .have:=hp'.1 k hk
    unfold jg at b this ⊢
    lia
  .rename_i b
   refine List.pairwise_cons.mpr ⟨λk hk=>?_,SQ kz i r (λk hk=>hn k (List.mem_cons_of_mem _ hk)) hp'.2⟩
   rcases List.mem_cons.mp ((Iw kz i r).mem_iff.mp hk)with rfl|hk
   .have:=hn j (List.mem_cons_self ..)
    unfold jg at b ⊢
    lia
   .exact hp'.1 k hk
theorem SX(kz:Nat->Int × Int):∀l:List Nat,l.Nodup->(l.foldr (jQ kz) []).Perm l/\(l.foldr (jQ kz) []).Pairwise (jg kz)
 | [],_=>⟨.refl _,.nil⟩
 |i::r,nd=>by
  have nd':=List.nodup_cons.mp nd
  obtain⟨h1,h2⟩:=SX kz r nd'.2
  exact⟨(Iw kz i _).trans (h1.cons i),SQ kz i _ (λj hj z=>nd'.1 (by rw[z]; exact h1.mem_iff.mp hj)) h2⟩
theorem S5(n:Nat)(kz:Nat->Int × Int):mJ n kz (Iv n kz):=SX kz _ List.nodup_range
theorem S6(as:∀a b,R a b->¬R b a):∀{l m:List Nat},l.Perm m->l.Pairwise R->m.Pairwise R->l=m
 | [],m,p,_,_=>by rw[List.nil_perm.mp p]
 |a::l,[],p,_,_=>by simpa using p.length_eq
 |a::l,b::m,p,h1,h2=>by
  have h1':=List.pairwise_cons.mp h1
  have h2':=List.pairwise_cons.mp h2
  have e:a=b:=by
   rcases List.mem_cons.mp (p.mem_iff.mp (List.mem_cons_self ..))with z|z
   .exact z
   .rcases List.mem_cons.mp (p.mem_iff.mpr (List.mem_cons_self (a:=b)))with y|y
    .exact y.symm
    .exact(as _ _ (h1'.1 b y) (h2'.1 a z)).elim
  subst e
  rw[S6 as p.cons_inv h1'.2 h2'.2]
theorem mJ.eq(h:mJ n kz ys):ys=Iv n kz:=by
 have g:=S5 n kz
 refine S6 (R:=jg kz) (λa b h1 h2=>?_) (h.1.trans g.1.symm) h.2 g.2
 unfold jg at h1 h2
 lia
noncomputable def sU:List Tr->Option (List Int)
 | []=>some []
 |.int i::r=>(sU r).map (i :: ·)
 |_::_=>none
theorem S7:∀{ts:List Tr} {ns:List Int},sU ts=some ns->ts=ns.map Tr.int
 | [],_,h=>by cases h; rfl
 |.int i::r,ns,h=>by
  obtain⟨m,e,rfl⟩:=Option.map_eq_some_iff.mp h
  rw[S7 e]; rfl
theorem S8{K:PySem.W.Frag}{H:Hp}:∀{ns:List Int} {vs:List V},au K H vs (ns.map Tr.int)->vs=ns.map V.int
 | [],_,h=>by cases h; rfl
 |n::ns,_,h=>by
  cases h with
  |cons h1 h2 =>
   cases h1
   rw[S8 h2]
   rfl
theorem Iz{K:PySem.W.Frag}{H:Hp}:∀ns:List Int,au K H (ns.map V.int) (ns.map Tr.int)
 | []=>.nil
 |n::ns=>.cons (.int n) (Iz ns)
noncomputable def sV:G1
 |.lst ts=>match sU ts with
  |some ns=>if ns.length<64 then .ok (.lst ((sJ ns).map Tr.int),true)else .bad
  |none=>.bad
 |_=>.bad
theorem afE{K:PySem.W.Frag}:j7 (aq K) (λx=>Ir K [x]) sV:=⟨λa c=>(by unfold sV; (repeat' split) <;> (intro z; cases z)),λG H x a Q s rx h=>by
 unfold sV at h
 split at h
 case h_2=>exact h.elim
 split at h
 case h_2=>exact h.elim
 rename_i ns e
 split at h
 case isFalse=>exact h.elim
 rw[S7 e]at rx
 obtain⟨p,xs,rfl,q,r⟩:=rx.lst s
 have e2:=S8 r
 subst e2
 exact⟨p,ns,rfl,q.toK,‹_›,λl nl=>h _ _ _ (.flt s nl) (.flt s nl (Iz _))⟩⟩
theorem afF{K:PySem.W.Frag}(h:dY K σ Hs G H F vs [.v (.int n) fr]):vs=[.int n]:=by
 cases h with
 |cons h r =>
  cases r
  cases fr with
  |false=>cases h.1; rfl
  |true=>obtain⟨_,_,_,_,z,_⟩:=h.1; cases z
theorem S9{K:PySem.W.Frag}{H:Hp}:∀l:List Nat,au K H (l.map λi:Nat=>V.int i) (l.map λi:Nat=>Tr.int i)
 | []=>.nil
 |n::l=>.cons (.int n) (S9 l)
noncomputable def eLR(fa:AF):EF:=λρ=>(fa ρ).bind λp=>match p.1 with
 | [.v (.int n) _]=>if 0<=n/\n<=1000 then .ok (.v (.lst ((List.range n.toNat).map λi:Nat=>Tr.int i)) true,p.2)else .bad
 |_=>.bad
noncomputable def vW:GM:=λts as=>match as with
 | [.int i,T]=>if 0<=i/\i.toNat<=ts.length/\ts.length<=100000 then .ok (ts.take i.toNat++T::ts.drop i.toNat,.non)else .bad
 |_=>.bad
theorem afG:Ho Iu vW:=⟨λts as c=>(by unfold vW; (repeat' split) <;> (intro z; cases z)),λK G a xs ts vs as H Q ts' T hx r ra q h=>by
 unfold vW at q
 split at q
 case h_2=>cases q
 split at q
 case isFalse=>cases q
 rename_i i U c
 cases q
 cases ra with
 |cons h1 r1 =>
  cases r1 with
  |cons h2 r2 =>
   cases r2
   cases h1
   have l:=r.length
   exact⟨a,xs,i.toNat,_,rfl,by rw[Int.toNat_of_nonneg c.1],hx,by lia,by lia,h _ _ ((r.take _).app (.cons h2 (r.drop _))) .non⟩⟩
noncomputable abbrev RF:=List (Option Tr)->Rs Tr
noncomputable def Tq(K:PySem.W.Frag)(f:RF):TE:=λσ H Q=>∃G ts T,Same G H/\(∀(i:Nat) U,ts[i]?=some (some U)->∃v,σ[i]?=some (some v)/\Rp K G H v U)/\f ts=.ok T/\∀v G' H',Same G G'->Same H H'->Same G' H'->Rp K G' H' v T->Q v H'
theorem Rp.up{K:PySem.W.Frag}(h:Rp K G H v T)(m:Same G G')(s:Same H H'):Rp K G' H' v T:=by
 rcases h with h|⟨a,xs,ts,e1,e2,e,r⟩
 .exact .inl (h.mono m)
 .exact .inr ⟨a,xs,ts,e1,e2,s _ _ e,r.mono m⟩
theorem VN.rp{K:PySem.W.Frag}(h:VN K Hs G H v T fr):Rp K G H v T:=by
 cases fr with
 |false=>exact .inl h
 |true=>obtain⟨a,xs,ts,e1,e2,_,_,e,r⟩:=h; exact .inr ⟨a,xs,ts,e1,e2,e,r⟩
structure VL(f:RF) where
 ck:Gx->Expr->Bool
 ok:∀{Γ X e},X.N = Γ.N->X.env.scope = Γ.sc->ck Γ e=true->PE X e (Tq (aq X.K) f)
noncomputable def Aj(i:Nat):RF:=λts=>match ts[i]? with
 |some (some U)=>.ok U
 |_=>.bad
noncomputable def Tc(i:Nat):VL (Aj i) where
 ck Γ e:=atName e λx _=>d8 Γ i x
 ok hN hs h:=by
  walk_at "O"
  simp only[d8,an]at h
  obtain⟨⟨⟨h1,h2⟩,h3⟩,h4⟩:=h
  refine(M4 (i:=i) (by rw[hN]; exact eq_of_beq h1) (by rw[hs]; unfold xG; simpa[or_assoc]using h2) (by simpa using h3) (by simpa using h4)).imp λσ H Q ⟨G,ts,T,s,en,e,k⟩=>?_
  unfold Aj at e
  split at e <;> cases e
  obtain⟨v,q1,q2⟩:=en i _ ‹_›
  exact⟨v,q1,k v G H (Same.refl _) (Same.refl _) s q2⟩
noncomputable def Td(g:G2)(fa fb:RF):RF:=λts=>(fa ts).bind λa=>(fb ts).bind λb=>(g a b).bind λz=>.ok z.1
noncomputable def lIx(a:VL aB)(b:VL bU):VL (Td aW aB bU) where
 ck Γ e:=jK e λx y _=>u9 y&&a.ck Γ x&&b.ck Γ y
 ok hN hs h:=by
  walk_at "O"
  simp only[an]at h
  refine(yw yx (a.ok hN hs h.1.2) (b.ok hN hs h.2) (zR h.1.1)).imp λσ H Q ⟨G,ts,T,s,en,e,k⟩=>?_
  obtain⟨a,e1,e⟩:=eY e
  obtain⟨b,e2,e⟩:=eY e
  obtain⟨z,e3,e⟩:=eY e
  cases e
  refine⟨G,ts,a,s,en,e1,λx G1 H1 m1 n1 s1 rx=>⟨G1,ts,b,s1,λi U q=>?_,e2,λy G2 H2 m2 n2 s2 ry=>Qo.ok G2 H2 x y a b Q s2 (rx.up m2 n2) ry (by rw[e3]; exact λv G' H' w vn=>k v G' H' (m1.trans (m2.trans w.gw.gg)) (n1.trans (n2.trans w.sm)) w.gw.sub vn.rp)⟩⟩
  obtain⟨v,q1,q2⟩:=en i U q
  exact⟨v,q1,q2.up m1 n1⟩
noncomputable def Tf(g:G1)(fa:RF):RF:=λts=>(fa ts).bind λa=>(g a).bind λz=>.ok z.1
noncomputable def afH(a:VL aB):VL (Tf qW aB) where
 ck Γ e:=pK e λaK x _=>jM aK .USub (a.ck Γ x)
 ok hN hs h:=by
  walk_at "O"
  refine(Dy Dz (a.ok hN hs h)).imp λσ H Q ⟨G,ts,T,s,en,e,k⟩=>?_
  obtain⟨a,e1,e⟩:=eY e
  obtain⟨z,e3,e⟩:=eY e
  cases e
  exact⟨G,ts,a,s,en,e1,λx G1 H1 m1 n1 s1 rx=>Qq.ok G1 H1 x a Q s1 rx (by rw[e3]; exact λv G' H' w vn=>k v G' H' (m1.trans w.gw.gg) (n1.trans w.sm) w.gw.sub vn.rp)⟩
noncomputable def m8(ρ : En)(j:Nat):Option Tr:=match ρ[j]? with
 |some (.sh T)=>some T
 |some (.ow ts)=>some (.lst ts)
 |some (.rf ts)=>some (.lst ts)
 |_=>none
noncomputable def Ak(src:List (Option Nat))(ρ : En):List (Option Tr):=src.map λo=>o.bind (m8 ρ)
noncomputable def sX(kt:Tr->Option (Int × Int))(fb:RF)(ts:List (Option Tr)):List Nat->Rs (List (Int × Int))
 | []=>.ok []
 |i::r=>(fb (some (Tr.int i)::ts)).bind λT=>match kt T with
  |some k=>(sX kt fb ts r).bind λks=>.ok (k::ks)
  |none=>.bad
theorem Tg:∀{l:List Nat} {ks:List (Int × Int)},sX kt fb ts l=.ok ks->ks.length=l.length/\∀(j i:Nat),l[j]?=some i->∃T k,fb (some (Tr.int i)::ts)=.ok T/\kt T=some k/\ks[j]?=some k
 | [],ks,h=>by cases h; exact⟨rfl,λj i z=>by simp at z⟩
 |a::l,ks,h=>by
  unfold sX at h
  obtain⟨T,e1,h⟩:=eY h
  split at h
  .rename_i k e2
   obtain⟨ks',e3,h⟩:=eY h
   cases h
   obtain⟨h1,h2⟩:=Tg e3
   refine⟨by simp[h1],λj i z=>?_⟩
   cases j with
   |zero=>simp at z; subst z; exact⟨T,k,e1,e2,by simp⟩
   |succ j=>simpa using h2 j i (by simpa using z)
  .cases h
noncomputable def IK(kt:Tr->Option (Int × Int))(src:List (Option Nat))(fa:AF)(fb:RF):EF:=λρ=>(fa ρ).bind λp=>match p.1 with
 | [.v (.int n) _]=>if 0<=n/\n<64 then(c7 (sX kt fb (Ak src p.2) (List.range n.toNat))).bind λks=>.ok (.v (.lst ((Iv n.toNat λi=>ks.getD i (0,0)).map λi:Nat=>Tr.int i)) true,p.2)else .bad
 |_=>.bad
theorem zJ.gw{K:PySem.W.Frag}{P c:Addr}{x:Str}{G H H':Hp}(sg:Same G H)(gp:G P=none)(tb:bx K H)(hx:x∈fH)(ht:tabIn K x=some (c,P))(hu:∀x'∈fH,∀c',tabIn K x'=some (c',P)->x'=x)(l:zJ P (yN x) H H'):Gw K G H G H':=by
 refine⟨Same.refl _,λb o q n=>l.kp b o q λz=>n ?_,λb o q=>l.kp b o (sg b o q) λz=>(by rw[z,gp]at q; cases q),λ_ x' hx' c' b e=>?_,λb h=>.inl h⟩
 .subst z
  exact⟨x,hx,c,ht⟩
 .by_cases z:b=P
  .subst z
   have:=hu x' hx' c' e
   subst this
   exact l.tb
  .obtain⟨ps,q,t1,t2⟩:=tb x' hx' c' b e
   refine⟨ps,l.kp _ _ q z,t1,λpos v k=>?_⟩
   obtain⟨d,o,e1,e2,e3⟩:=t2 pos v k
   refine⟨d,o,e1,l.kp _ _ e2 ?_,e3⟩
   rintro rfl
   obtain⟨qs,y,_⟩:=tb x hx c d ht
   rw[y]at e2
   cases e2
theorem afI{K:PySem.W.Frag}(e:Ok K R ρ σ G H F)(h:m8 ρ j=some U):∃v,σ[j]?=some (some v)/\Rp K G H v U:=by
 have z:=e.sl j
 unfold m8 at h
 split at h <;> rename_i k <;> cases h <;> rw[k]at z
 .obtain⟨_,v,h1,h2⟩:=z
  exact⟨v,h1,.inl h2⟩
 all_goals
  obtain⟨a,xs,h1,_,_,h4,h5⟩:=z
  exact⟨_,h1,.inr ⟨a,xs,_,rfl,rfl,h4,h5⟩⟩
theorem afJ{t:Tx}{Kw:KW}(hq:q=yN x)(hx:x∈fH)(ht:tabIn t.K x=some (c,P))(hu:∀x'∈fH,∀c',tabIn t.K x'=some (c',P)->x'=x)
  (hkt:∀G (H:Hp) v T k,Same G H->Rp t.K G H v T->kt T=some k->Kw H v k) (h:Te t (IK kt src fa fb) σ H Q):QW Kw P q src (Ta t fa) (Tq t.K fb) σ H Q:=by
 subst hq
 obtain⟨R,ρ,G,F,e,h⟩:=h
 refine mj e .refl h λp h vs G1 H1 F1 e1 s1 v1=>?_
 obtain⟨rs,ρ1⟩:=p
 dsimp only at h
 split at h
 case h_2=>exact h.elim
 rename_i n fr
 split at h
 case isFalse=>exact h.elim
 obtain⟨ks,k1,h⟩:=jP h
 obtain⟨kl,kg⟩:=Tg k1
 have nn:((n.toNat:Nat):Int)=n:=by lia
 refine⟨n.toNat,λi=>ks.getD i (0,0),by rw[afF v1,nn],by lia,e1.tb x hx c P ht,λH2 lh=>?_⟩
 obtain⟨e2,s2⟩:=e1.grow (lh.gw e1.sub (e1.tg P ⟨x,hx,c,ht⟩) e1.tb hx ht hu)
 refine⟨λi hi H3 s3=>?_,λD ys H3 s3 nD hs=>?_⟩
 .obtain⟨T,k,f1,f2,f3⟩:=kg i i (List.getElem?_range hi)
  refine⟨G1,_,T,e2.sub.trans s3,λj U z=>?_,f1,λv G4 H4 m4 n4 s4 r4=>⟨hkt G4 H4 v T _ s4 r4 ?_,n4⟩⟩
  .cases j with
   |zero=>simp at z; subst z; exact⟨.int i,by simp,.inl (.int i)⟩
   |succ j =>
    have z:(Ak src ρ1)[j]?=some (some U):=z
    unfold Ak at z
    rw[List.getElem?_map]at z
    obtain⟨o,eq,z⟩:=Option.map_eq_some_iff.mp z
    obtain⟨l,rfl,z⟩:=Option.bind_eq_some_iff.mp z
    obtain⟨v,h1,h2⟩:=afI e2 z
    refine⟨v,?_,h2.up (Same.refl _) s3⟩
    show(cY src σ)[j]?=some (some v)
    rw[Ie eq,h1]
    rfl
  .rw[f2]
   show some k=some (ks.getD i (0,0))
   rw[List.getD_eq_getElem?_getD,f3]
   rfl
 .obtain⟨e3,s4⟩:=e2.grow (G':=G1) (H':=H3) ⟨Same.refl _,λb o q _=>s3 b o q,e2.sub.trans s3,λt=>t.fr λb o _ q=>s3 b o q,λb h=>.inl h⟩
  rw[hs.eq]
  exact e3.fin ((s1.trans s2).trans s4) (.flt e3.sub nD) (.flt e3.sub nD (S9 _)) h
structure Kt(kt:Tr->Option (Int × Int)) where
 w:PySem.W.Frag->KW
 d:SortKind
 T:∀X:Cx,nO X (λH u k=>∃v,RelV v u/\w X.K H v k) d
 m:∀K {H H':Hp} {v k},Same H H'->w K H v k->w K H' v k
 i:∀{X:Cx} {pins:List (Addr × Obj)} {σ : St} {H:Hp} {s:Shared},Inv X pins σ H s->∀u k k',(∃v,RelV v u/\w X.K H v k)->(∃v,RelV v u/\w X.K H v k')->k=k'
 r:∀K G (H:Hp) v T k,Same G H->Rp (aq K) G H v T->kt T=some k->w K H v k
noncomputable def IV:Tr->Option (Int × Int)
 |.int i=>some (i,0)
 |_=>none
noncomputable def kyI:Kt IV:=⟨λ_=>zK,_,λ_=>aeT,λ_ _ _ _ _ _ h=>h,aeU,λK G H v T k s r e=>by
 unfold IV at e
 split at e <;> cases e
 exact⟨r.int,rfl⟩⟩
theorem afK{fc:List (Str × Addr)}:bindArgs (kla_fn "<lambda>" q ⟨[],[⟨x,ann,p⟩],none,[],[],none,[]⟩ body scope fc pm cd ctv) ⟨[u],[]⟩=pure [(x,u)]:=by
 simp[bindArgs,seqItems?]
 rfl
noncomputable def IW(e:Expr)(k:Str->Expr->Bool):Bool:=gC e λfW jN vA _=>atName fW λr _=>aP jN λa vD=>aQ vD (aQ vA (k r a))
theorem afL(h:IW e k=true):∃r a p q,e=.Call (.Name r p) [a] [] q/\k r a=true:=by
 unfold IW at h
 walk_at "O"
 exact⟨_,_,_,_,rfl,h⟩
noncomputable def Ja(l:List Keyword)(k:Str->Expr->Bool):Bool:=aP l λHv Hw=>zq Hv λHx v _=>j9 Hx λn=>aQ Hw (k n v)
theorem afM(h:Ja l k=true):∃n v p,l=[⟨some n,v,p⟩]/\k n v=true:=by
 unfold Ja at h
 walk_at "O"
 exact⟨_,_,_,rfl,h⟩
noncomputable def Jb(e:Expr)(k:Str->Expr->Scope->Bool):Bool:=yX e λafN body sc _=>zx afN λafO afP afQ afR afS afT afU=>aQ afO (aP afP λafV afW=>zu afV λz _ _=>aQ afW (pP afQ (aQ afR (aQ afS (pP afT (aQ afU (k z body sc)))))))
theorem afX(h:Jb e k=true):∃z body sc t p q,e=.Lambda ⟨[],[⟨z,t,p⟩],none,[],[],none,[]⟩ body sc q/\k z body sc=true:=by
 unfold Jb at h
 walk_at "O"
 exact⟨_,_,_,_,_,_,rfl,h⟩
noncomputable def vSK(kt:Kt afY)(y:Str)(x:Str)(Ns:List Str)(src:List (Option Nat))(as:VA gF)(b:VL bU):VE (IK afY src gF bU) where
 ck Γ e:=gC e λaK bA bH _=>atName aK λf _=>aP bA λcJ eE=>aQ eE (IW cJ λr a=>Ja bH λk v=>Jb v λz body sc=>f == ("sorted" : Str)&&r == ("range" : Str)&&k == ("key" : Str)&&z == x&&ju Γ f&&ju Γ r&&Γ.B.contains f&&Γ.B.contains r&&Γ.L.contains y&&as.ck Γ [a]&&qw Γ (x::Ns) (none::src) sc []&&decide (∀y∈sc.names,y.2 ≠ .cell)&&decide (sc.names.lookup x=some .local) && !sc.isCoroutine && !sc.isGenerator&&b.ck ⟨x::Ns,sc,Γ.fn,[],[],true,0,[]⟩ body)
 cs:=as.cs
 ok:=@λcl E Γ X e q o h=>by
  walk_at "O"
  replace h:=afL h
  obtain⟨r,a,_,_,rfl,h⟩:=h
  replace h:=afM h
  obtain⟨k,_,_,rfl,h⟩:=h
  replace h:=afX h
  obtain⟨z,body,sc,_,_,_,rfl,h⟩:=h
  simp only[an]at h
  obtain⟨⟨⟨⟨⟨⟨⟨⟨⟨⟨⟨⟨⟨⟨⟨h1,h2⟩,h3⟩,h4⟩,h5⟩,h6⟩,h7⟩,h8⟩,h9⟩,h10⟩,h11⟩,h12⟩,h13⟩,h14⟩,h15⟩,h16⟩:=h
  cases eq_of_beq h1
  cases eq_of_beq h2
  cases eq_of_beq h3
  cases eq_of_beq h4
  obtain⟨S,nd,_,_⟩:=vR h11
  obtain⟨pa,_,na⟩:=as.ok q o h10
  obtain⟨c,P,L,hc,hq⟩:=o.lm y (by simpa using h9)
  have pb:=λA f cd s H=>b.ok (X:=zG X A (x::Ns) (X.env.qual++("<lambda>" : Str)) _ f cd s H) (Γ := ⟨x::Ns,_,Γ.fn,[],[],true,0,[]⟩) rfl rfl h16
  exact(aeS (te:=Tq (aq X.K) bU) (kt.T X) (kt.m X.K) kt.i o.r (o.B _ (by simpa using h7)) (o.B _ (by simpa using h8)) o.s o.N ⟨S,of_decide_eq_true h12,of_decide_eq_true h13,by simpa using h14,by simpa using h15⟩ hc L.hd L.bm rfl pa (λ_ _ _ _=>afK) pb (dz o h5).1 (dz o h6).1 (na _ (List.mem_cons_self ..))).imp λσ H Q=>afJ (c:=c) hq L.nm L.tab L.un (kt.r X.K)
end L2
end
section
namespace L2
open PySem PySem.Spec PyProof.Rows
noncomputable abbrev QF:=En->Rs Tr
noncomputable def oY(i:Nat):QF:=λρ=>match ρ[i]? with
 |some (.sh T)=>.ok T
 |_=>.bad
noncomputable def fZ(ts:List Tr)(k:Tr):Rs (Nat × Tr):=match k with
 | .int i=>(match eH ts.length i with
  | some j=>(match ts[j]? with
   |some u=>.ok (j,u)
   |none=>.bad)
  |none=>.bad)
 |_=>.bad
theorem Al(h:fZ ts k=.ok (j,u)):∃i,k=.int i/\eH ts.length i=some j/\ts[j]?=some u:=by
 unfold fZ at h
 (repeat' split at h) <;> cases h
 exact⟨_,rfl,‹_›,‹_›⟩
theorem Am(ts:List Tr)(k:Tr)(c:Str):fZ ts k ≠ .ex c:=by unfold fZ; (repeat' split) <;> (intro z; cases z)
noncomputable def cU(ρ : En)(i:Nat):Rs (List Tr):=match ρ[i]? with
 |some (.dp ts)=>.ok ts
 |_=>.bad
theorem afZ(ρ : En)(i:Nat)(c:Str):cU ρ i ≠ .ex c:=by
 unfold cU
 split <;> (intro z; cases z)
section
variable {K:PySem.W.Frag}{R:Addr->Prop}{ρ : En}{σ : St}{G H:Hp}{F:Fp}
theorem DR.set:∀{ts:List Tr} {xs:List V} {bs:List Addr} (m:Nat) {v:V} {T:Tr},DR K G H xs ts bs->bh T=true->(∀U,ts[m]?=some U->bh U=true)->Rep K G v T->DR K G H (xs.set m v) (ts.set m T) bs
 | [],_,_,_,_,_,d,_,_,_=>by cases d; exact .nil
 |t::ts,_,_,m,v,T,d,n,u,r=>by
  obtain⟨w,ys,c,b,rfl,rfl,d1,d2⟩:=d.split
  cases m with
  |zero =>
   have:=d1.nil_of (by show(bh t&&true)=true; rw[u t rfl]; rfl)
   subst this
   exact .cl n r d2
  |succ m=>exact d1.app (DR.set m d2 n (λU h=>u U (by simpa using h)) r)
theorem Ok.putD(e:Ok K R ρ σ G H F)(q:cU ρ i=.ok ts)(hm:ts[m]?=some U):∃a xs v cs,σ[i]?=some (some (.ref a))/\H a=some (.lst xs)/\xs.length=ts.length/\xs[m]?=some v/\a∉cs/\cs.Nodup/\DR K G H [v] [U] cs/\∀b ys ys' U',H b=some (.lst ys)->b∈cs->DR K G (upd H b (.lst ys')) [v] [U'] cs->Ok K R (ρ.set i (.dp (ts.set m U'))) σ G (upd H b (.lst ys')) F/\aC K G H F G (upd H b (.lst ys')) F:=by
 unfold cU at q
 split at q <;> cases q
 rename_i k
 have z:=e.sl i
 rw[k]at z
 obtain⟨a,xs,bs,h1,h2,nd,h3,h4,d⟩:=z
 obtain⟨n1,n2⟩:=List.nodup_cons.mp (h2▸nd)
 obtain⟨v,cs,g1,g2,g3,g4,g5⟩:=d.at n2 hm
 refine⟨a,xs,v,cs,h1,h4,d.length,g1,λz=>n1 (g4 a z),g3,g2,λb ys ys' U' hb bc q=>?_⟩
 have fb:Fn F b:=⟨i,by rw[h2]; exact List.mem_cons_of_mem _ (g4 b bc)⟩
 have nab:a≠b:=λz=>n1 (z▸g4 b bc)
 have gb:=e.hid b fb
 refine⟨?_,Same.refl _,λc o h n t=>by rw[aD (show c≠b from λz=>n (z▸fb))]; exact h,λ_ h=>.inl h,λ_ h=>.inr h,λc h=>?_⟩
 .have eF:cW F i (F i)=F:=by funext j; unfold cW; split <;> first|rfl|rw[‹j=i›]
  refine eF▸e.one i (F i) (by rw[List.length_set,e.len]) (λj n=>⟨fL n,rfl⟩) (Same.refl _) (λc o h=>?_) (e.tb.upd hb) (λc h=>.inl h) (λj n c hc o h=>?_) (λc h z=>?_) (λc h=>⟨e.hid c ⟨i,h⟩,λj n z=>n (e.di j i c z h)⟩) ?_
  .rw[aD λz=>by rw[z,gb]at h; cases h]; exact e.sub c o h
  .rw[aD λz=>n (e.di j i c hc (by rw[h2,z]; exact List.mem_cons_of_mem _ (g4 b bc)))]; exact h
  .by_cases y:c=b
   .subst y; rw[bJ]at z; cases z
   .rw[aD y]at z; exact(e.rg c h).2 z
  .rw[eO (List.getElem?_eq_some_iff.mp k).1]
   exact⟨a,xs,bs,h1,h2,nd,h3,by rw[aD nab]; exact h4,g5 _ _ _ (Same.refl _) (λc hc n o h=>by rw[aD (show c≠b from λz=>n (z▸bc))]; exact h) q⟩
 .by_cases y:c=b
  .subst y; rw[bJ]at h; cases h
  .rw[aD y]at h; exact h
end
theorem au.set{K:PySem.W.Frag}{H:Hp}{v:V}{T:Tr}(h:Rep K H v T):∀{xs:List V} {ts:List Tr} (j:Nat),au K H xs ts->au K H (xs.set j v) (ts.set j T)
 |_,_,_,.nil=>.nil
 |_,_,0,.cons _ r=>.cons h r
 |_,_,j+1,.cons h1 r=>.cons h1 (au.set h j r)
noncomputable def Tp(i:Nat)(fk fj:QF)(fe:EF):SF:=λρ=>(fe ρ).bind λp=>(jE p.1).bind λT=>(cU p.2 i).bind λts=>(c7 (fk p.2)).bind λk=>(fZ ts k).bind λz=>match z.2 with
 |.lst us=>(c7 (fj p.2)).bind λj=>(fZ us j).bind λy=>if(bh T&&bh y.2)=true then .ok (.nx,p.2.set i (.dp (ts.set z.1 (.lst (us.set y.1 T)))))else .bad
 |_=>.bad
theorem Ao{K:PySem.W.Frag}(e:Ok K R ρ σ G H F)(h:oY k ρ=.ok (.int z)) : σ[k]?=some (some (.int z)):=by
 unfold oY at h
 split at h <;> cases h
 have y:=e.sl k
 rw[‹ρ[k]?=_›]at y
 obtain⟨_,v,h1,h2⟩:=y
 cases h2
 exact h1
theorem Jc(h:u9 y=true)(v:Value):assign (.Subscript o y p) env v=(do let ov <-holding [v] (eval o env); let iv <-holding [v,ov] (eval y env); standAt p; holding [v,ov,iv] (setItem ov iv v); release [v,ov,iv] []):=by
 cases y <;> first|rfl|cases h
noncomputable def sSd(i k j:Nat)(a:VE aB):VS (Tp i (oY k) (oY j) aB) where
 ck Γ e:=jr e λaK v _=>aP aK λbA bH=>jK bA λcJ eE _=>jK cJ λfW jN _=>atName fW λx _=>atName jN λy _=>atName eE λz _=>aQ bH (d8 Γ i x&&d8 Γ k y&&d8 Γ j z&&kW v&&a.ck Γ v)
 cs:=a.cs
 ok q o h:=by
  walk_at "O"
  simp only[an]at h
  obtain⟨⟨⟨⟨h1,h2⟩,h3⟩,h4⟩,h5⟩:=h
  refine(xY (a.ok q o h5) (Dp (yw yx (fV o h1) (fV o h2) (zR rfl)) (fV o h3) set_list (Jc rfl)) (by unfold swapsWithSole; exact oh h4) rfl rfl).imp λD σ H=>bD λR ρ G F e h=>cZ e .refl h λp h v G1 H1 F1 e1 s1 v1=>?_
  obtain⟨T,kT,h⟩:=h.okb (zU _)
  obtain⟨G2,e2,s2,_,rv⟩:=e1.pU e s1 v1 kT
  obtain⟨ts,k0,h⟩:=h.okb (afZ _ _)
  obtain⟨kk,g1,h⟩:=jP h
  obtain⟨⟨m,u⟩,k2,h⟩:=h.okb (Am _ _)
  cases u <;> try exact h.elim
  obtain⟨jj,g2,h⟩:=jP h
  obtain⟨⟨m',u'⟩,k3,hf⟩:=h.okb (Am _ _)
  obtain⟨z,rfl,h5,h6⟩:=Al k2
  obtain⟨z',rfl,h7,h8⟩:=Al k3
  dsimp only at hf
  split at hf
  case isFalse=>exact hf.elim
  rename_i nl
  obtain⟨n1,n2⟩:=an.mp nl
  obtain⟨a,xs,v',cs,q1,q2,q3,q4,_,nd,q5,q7⟩:=e2.putD k0 h6
  cases q5 with
  |cl n _ _=>unfold bh at n; cases n
  | @rw b ys _ cs _ _ bs hb dq r0 =>
  cases r0
  have nb:=(List.nodup_cons.mp nd).1
  rw[List.append_nil]at nb
  obtain⟨e3,s3⟩:=q7 b ys (ys.set m' v) (.lst (_root_.List.set _ m' T)) hb (List.mem_cons_self ..) (.rw bJ ((dq.set m' n1 (λU h=>by rw[h8]at h; cases h; exact n2) rv).mono (Same.refl _) λc hc o h=>(by rw[aD (show c≠b from λz=>nb (z▸hc))]; exact h)) .nil)
  refine⟨_,q1,_,Ao e2 g1,.inl ⟨a,xs,z,.ref b,rfl,rfl,aL.of q2,?_,_,Ao e2 g2,b,ys,z',m',rfl,rfl,hb,by rw[dq.length]; exact h7,hf σ G2 _ F1 e3 (s2.trans s3)⟩⟩
  unfold dX
  rw[q3,h5]
  exact q4
noncomputable def vwF:aJ->aJ
 |.sh T=>.sh T
 |.dp us=>.sh (.lst us)
noncomputable def sY(fs:List (Str × aJ)):List (Str × aJ):=fs.map λp=>(p.1,vwF p.2)
theorem bB.view{K:PySem.W.Frag}{G G' H:Hp}(m:Same G G'){xs:List (Str × V)}{fs:List (Str × aJ)}{bs:List Addr}(h:bB K G H xs fs bs):(∀b∈bs,G' b=H b)->bB K G' H xs (sY fs) []:=by
 induction h with
 |nil=>exact λ_=>.nil
 |sh h _ ih=>exact λk=>.sh (h.mono m) (ih k)
 |dp h q _ ih=>exact λk=>.sh (.lst (aL.of ((k _ (List.mem_cons_self ..)).trans h)) (q.reps m λb hb=>k b (List.mem_cons_of_mem _ (List.mem_append_left _ hb)))) (ih λb hb=>k b (List.mem_cons_of_mem _ (List.mem_append_right _ hb)))
noncomputable def Lz:Sl->Sl
 |.sh T=>.sh T
 |.ow ts=>.sh (.lst ts)
 |.dp ts=>.sh (.lst ts)
 |.ob _ c fs=>.vo c (sY fs)
 |.vo c fs=>.vo c fs
 |.dt T=>.sh T
 |_=>.un
noncomputable def vw(ρ : En):En := ρ.map Lz
noncomputable def Jd(c:BF):BF:=λρ=>(c7 (c (vw ρ))).bind λp=>.ok (p.1,ρ)
theorem Ok.view{K:PySem.W.Frag}(e:Ok K R ρ σ G H F):Ok K (λ_=>False) (vw ρ) σ (wL G H) H (λ_=>[]):=by
 have m:Same G (wL G H):=λ_ _=>rY
 have ls:∀{b xs},Fn F b->H b=some (.lst xs)->wL G H b=some (.lst xs):=λf h=>Rx h (e.hid _ f)
 refine⟨by rw[vw,List.length_map,e.len],λb o q=>(p7 q).elim (e.sub b o) λq=>q.2.1,e.tb,λb t=>?_,λb ⟨_,z⟩=>(by cases z),λb z=>z.elim,λi j b z=>(by cases z),λi=>?_⟩
 .cases q:wL G H b with
  |none=>rfl
  |some o =>
   rcases p7 q with q|⟨_,q,m⟩
   .rw[e.tg b t]at q; cases q
   .exact(e.tb.nm q m t).elim
 .have z:=e.sl i
  unfold vw
  rw[List.getElem?_map]
  cases k : ρ[i]? with
  |none=>rfl
  |some s =>
   rw[k]at z
   cases s with
   |un=>rfl
   |rf _=>rfl
   |sh T=>obtain⟨_,u,h1,h2⟩:=z; exact⟨rfl,u,h1,h2.mono m⟩
   |ow ts =>
    obtain⟨a,xs,h1,h2,_,h4,h5⟩:=z
    exact⟨rfl,_,h1,.lst (aL.of (ls ⟨i,by rw[h2]; exact List.mem_singleton.mpr rfl⟩ h4)) (h5.mono m)⟩
   |dp ts =>
    obtain⟨a,xs,bs,h1,h2,_,_,h4,d⟩:=z
    refine⟨rfl,_,h1,.lst (aL.of (ls ⟨i,by rw[h2]; exact List.mem_cons_self ..⟩ h4)) (d.reps m λb hb=>?_)⟩
    obtain⟨ys,hy⟩:=d.lst b hb
    rw[hy]
    exact ls ⟨i,by rw[h2]; exact List.mem_cons_of_mem _ hb⟩ hy
   |ob l c fs =>
    obtain⟨a,dx,C,xs,bs,h1,h2,_,_,_,kc,h4,_,d⟩:=z
    refine⟨rfl,a,dx,C,xs,h1,kc,Rw h4 rfl (e.hid _ ⟨i,by rw[h2]; exact List.mem_cons_self ..⟩),d.view m λb hb=>?_⟩
    obtain⟨ys,hy⟩:=d.lst b hb
    rw[hy]
    exact ls ⟨i,by rw[h2]; exact List.mem_cons_of_mem _ (List.mem_cons_of_mem _ hb)⟩ hy
   |vo c fs =>
    obtain⟨_,a,dx,C,xs,h1,kc,h4,d⟩:=z
    exact⟨rfl,a,dx,C,xs,h1,kc,m _ _ h4,d.mono m λ_ z=>by cases z⟩
   |dt T =>
    obtain⟨u,h1,_,_,d⟩:=z
    have r:=d.reps m λb hb=>by
     obtain⟨ys,hy⟩:=d.lst b hb
     rw[hy]
     exact ls ⟨i,hb⟩ hy
    cases r with
    |cons r _=>exact⟨rfl,u,h1,r⟩
noncomputable def tVw(a:VT aB):VT (Jd aB) where
 ck:=a.ck
 cs:=a.cs
 ok q o h:=(a.ok q o h).imp λσ H Q=>bD λR ρ G F e h=>by
  obtain⟨p,k,h⟩:=jP h
  refine⟨_,_,_,_,e.view,?_⟩
  rw[k]
  intro G' H' F' e' s'
  obtain⟨e2,s2⟩:=e.grow (G':=G) (H':=H') ⟨Same.refl _,λb o q t=>s'.fr b o q (λ⟨_,z⟩=>by cases z) t,λb o q=>s'.fr b o (e.sub b o q) (λ⟨_,z⟩=>by cases z) λt=>(by rw[e.tg b t]at q; cases q),λ_=>e'.tb,λb h=>.inl h⟩
  exact h G H' F e2 s2
noncomputable def af0(i:Nat)(f:EF):SF:=λρ=>(f ρ).bind λp=>match p.1 with
 |.v (.lst ts) true=>.ok (.nx,p.2.set i (.ow ts))
 |.v T _=>.ok (.nx,p.2.set i (.sh T))
 |_=>.bad
noncomputable def Tv(i:Nat)(ρ : En):Nat:=match ρ[i]? with
 |some (.sh (.int n))=>n.natAbs+1
 |_=>0
noncomputable def fuL(i:Nat)(ρ : En):Nat:=match ρ[i]? with
 |some (.sh (.lst ts))=>ts.length+1
 |some (.ow ts)=>ts.length+1
 |some (.rf ts)=>ts.length+1
 |_=>0
noncomputable def gO(nl:Nat)(ts:List Tr):En:=ts.map Sl.sh++List.replicate (nl-ts.length) Sl.un
noncomputable def aM(nl:Nat)(b:SF):FP:=λts=>(b (gO nl ts)).bind λq=>match q.1 with
 |.rt T fr=>.ok (T,fr)
 |.nx=>.ok (.non,false)
 |_=>.bad
theorem Ok.init{K:PySem.W.Frag}{N:List Str}(r:au K G vs ts)(hl:vs.length<=N.length)(s:Same G H)(tb:bx K H)(tg:∀b,Tb K b->G b=none):Ok K (λ_=>False) (gO N.length ts) (start N vs) G H (λ_=>[]):=by
 have l:=r.length
 refine⟨by unfold gO start; simp only[List.length_append,List.length_map,List.length_replicate]; lia,s,tb,tg,λb ⟨_,z⟩=>(by cases z),λ_ z=>z.elim,λ_ _ _ z=>(by cases z),λi=>?_⟩
 unfold gO start
 by_cases h:i<vs.length
 .rw[List.getElem?_append_left (by simpa using h),List.getElem?_append_left (by simp; lia),List.getElem?_map,List.getElem?_map,List.getElem?_eq_getElem h,List.getElem?_eq_getElem (show i<ts.length by lia)]
  obtain⟨x,q1,q2⟩:=r.nJ (List.getElem?_eq_getElem (show i<ts.length by lia))
  rw[List.getElem?_eq_getElem h]at q1
  cases q1
  exact⟨rfl,_,rfl,q2⟩
 .rw[List.getElem?_append_right (l₁ := ts.map Sl.sh) (by simp; lia),List.getElem?_replicate]
  split <;> rfl
theorem Tz{K:PySem.W.Frag}{N ps:List Str}{b:SF}(hn:ps.length<=N.length)(h:nU K cl ps.length (aM N.length b) vs H Q E):Ts ⟨aq K,λc H'=>E (.ref (cl c)) none H'⟩ b {nx:=λ_ H'=>Q .non H',rt:=Q } (start N vs) H:=by
 obtain⟨G,as,hl,r,sg,tb,tg,h⟩:=h
 refine⟨_,_,G,_,Ok.init r (by lia) sg tb tg,h.run (aC.refl (G:=G)) λq h=>?_⟩
 obtain⟨fl,ρ'⟩:=q
 have nf:∀{b:Addr},¬Fn (λ_=>[]) b:=λ⟨_,z⟩=>by cases z
 cases fl with
 |nx=>exact λσ' G' H' F' e s=>h .non G' H' ⟨s.gg,λb o q t=>s.fr b o q nf t,e.sub,λ_=>e.tb,λb q=>(s.nw b q).imp id λz=>z.resolve_right nf⟩ .non
 |rt T fr =>
  refine λv G' H' r=>h v G' H' ⟨r.gg,λb o q t=>r.fm.fr b o q nf t,r.sub,λ_=>r.fm.tb,λb q=>(r.nw b q).imp id λz=>z.resolve_right nf⟩ ?_
  have z:=r.vl
  cases fr with
  |false=>exact z
  |true =>
   obtain⟨a,xs,ts,e1,e2,e3,_,e4⟩:=z
   exact⟨a,xs,ts,e1,e2,e3.resolve_right nf,e4⟩
 |bk=>exact h.elim
 |ct=>exact h.elim
noncomputable def Ey.nm:Ey->Str
 |.fn x .. => x
 | .fd x .. => ("*" : Str)++x
 |.gk x _=>x
 | .fm x .. => ("&" : Str)++x
 | .mt c m .. => c ++ ("." : Str)++m
 | .mk c .. => ("!" : Str)++c
 | .cz c k=>c ++ (":" : Str)++k
noncomputable def fG(k:Nat)(N:List Str)(st:Stmt)(B R L:List Str):Gx:=⟨N,bG st,λ_=>true,B,R,false,k,L⟩
noncomputable def tu(N ps:List Str)(st:Stmt):Bool :=
 decide ((bG st).kind=.function) && !(bG st).isCoroutine && !(bG st).isGenerator&&decide N.Nodup&&decide (N.take ps.length=ps)&&decide (∀x∈ps,(bG st).names.lookup x=some .local\/(bG st).names.lookup x=some .cell)&&decide (∀y∈(bG st).names,y.2 ≠ .free)&&decide (ps.length<=N.length)
theorem Aq{st:Stmt}(h:tu N ps st=true):pC N ps (bG st)/\ps.length<=N.length:=by
 simp only[tu,an]at h
 obtain⟨⟨⟨⟨⟨⟨⟨h1,h2⟩,h3⟩,h4⟩,h5⟩,h6⟩,h7⟩,h8⟩:=h
 exact⟨⟨of_decide_eq_true h1,by simpa using h2,by simpa using h3,of_decide_eq_true h4,of_decide_eq_true h5,of_decide_eq_true h6,of_decide_eq_true h7⟩,of_decide_eq_true h8⟩
structure Kn(c:Cc)(B R:List Str):Prop where
 B:∀x∈B,c.mg x=none
 R:∀x∈R,OwnCls x (c.cl x) zM "ValueError.__new__" c.mg c.base
 x:lY c.K
noncomputable def clz(mg:Str->Option Value)(x:Str):Addr:=match mg x with
 |some (.ref k)=>k
 |_=>0
theorem Kn.mk'{P:Program}{w:World}{K:PySem.W.Frag}{mg:Str->Option Value}{base:Heap}{B R:List Str}(M:∀x∈B,mg x=none)(O:∀x∈R,∃k,OwnCls x k zM "ValueError.__new__" mg base) (XT:lY K):Kn ⟨P,w,K,mg,base,clz mg⟩ B R:=⟨M,λx m=>by
 obtain⟨k,o⟩:=O x m
 have e:clz mg x=k:=by unfold clz; rw[o.bound]
 subst e
 exact o,XT⟩
noncomputable def Ar(x:Str)(st:Stmt)(ps:List Str):Prop:=∀(kV doc pm:Value) (an:Option Addr) (cdv ct:Value) (us:List Value),us.length=ps.length->bindArgs (PySem.W.fnOf x x (iG st) (eN st) (bG st) .none kV doc pm an cdv ct) ⟨us,[]⟩=pure (ps.zip us)
theorem TF:∀{ps:List Str} {us:List Value} {n:Str},us.length=ps.length->n∈ps->((ps.zip us).lookup n).isNone=false
 |p::ps,u::us,n,h,m=>by
  rw[List.zip_cons_cons,List.lookup_cons]
  cases e:n == p with
  |true=>rfl
  |false =>
   rcases List.mem_cons.mp m with z|z
   .rw[z]at e; simp at e
   .exact TF (by simpa using h) z
theorem TJ{α β : Type}{f g : α -> Option β}:∀{l:List α},(∀n∈l,f n=g n)->l.filterMap f=l.filterMap g
 | [],_=>rfl
 |a::l,h=>by rw[List.filterMap_cons,List.filterMap_cons,h a (List.mem_cons_self ..),TJ λn m=>h n (List.mem_cons_of_mem _ m)]
theorem TQ:∀{ps:List Str} {us:List Value},ps.Nodup->us.length=ps.length->(ps.filterMap λn=>((ps.zip us).lookup n).map λx=>(n,x))=ps.zip us
 | [],us,_,_=>rfl
 |p::ps,u::us,d,h=>by
  obtain⟨d1,d2⟩:=List.nodup_cons.mp d
  have e:(ps.filterMap λn=>(((p::ps).zip (u::us)).lookup n).map λx=>(n,x))=ps.zip us:=by
   rw[<-TQ d2 (by simpa using h)]
   exact TJ λn m=>by rw[List.zip_cons_cons,List.lookup_cons,beq_false_of_ne (show n≠p from λz=>d1 (z▸m))]
  rw[List.filterMap_cons,e]
  simp
noncomputable def qx(ps:List Str)(st:Stmt):Bool:=match iG st with
 |⟨[],as,none,[],[],none,[]⟩=>decide (as.map (·.arg)=ps)
 |_=>false
theorem TV{st:Stmt}{x q:Str}(d:ps.Nodup)(h:qx ps st=true):∀(kV doc pm:Value) (an:Option Addr) (cdv ct:Value) (us:List Value),us.length=ps.length->bindArgs (PySem.W.fnOf x q (iG st) (eN st) (bG st) .none kV doc pm an cdv ct) ⟨us,[]⟩=pure (ps.zip us):=λkV doc pm an cdv ct us hl=>by
 unfold qx at h
 split at h
 case h_2=>cases h
 rename_i as e
 have h:=of_decide_eq_true h
 have f:(ps.filter λn=>(List.lookup n (ps.zip us)).isNone)=[]:=List.filter_eq_nil_iff.mpr λn m=>by rw[TF hl m]; exact Bool.false_ne_true
 simp[bindArgs,PySem.W.fnOf,e,h,seqItems?,hl,List.take_of_length_le,f,TQ d hl]
 rfl
theorem Je{st:Stmt}(d:ps.Nodup)(h:qx ps st=true):Ar x st ps:=TV d h
noncomputable def oE(tb:List Ey)(l:List Ey):List Ey:=l.filterMap λy=>tb.find? λz=>z.nm == y.nm
theorem Av{tb l:List Ey}(h:∀y∈tb,y.fU c)(e:l=oE tb l):∀y∈l,y.fU c:=λy m=>by
 rw[e]at m
 obtain⟨z,_,q⟩:=List.mem_filterMap.mp m
 exact h y (List.mem_of_find?_eq_some q)
noncomputable def eZ(st:Stmt):List Str:=((bG st).names.filter λy=>y.2 == .local || y.2 == .cell).map (·.1)
noncomputable def psz(st:Stmt):List Str:=(iG st).args.map (·.arg)
noncomputable def dJ:List Ey->Nat
 |.fn _ _ _ l::r=>max l (dJ r)
 |.fd _ _ _ l::r=>max l (dJ r)
 |.fm _ _ _ l::r=>max l (dJ r)
 |.mt _ _ _ _ l::r=>max l (dJ r)
 |.mk _ _ _ l::r=>max (l+1) (dJ r)
 |_::r=>dJ r
 | []=>0
theorem aR{st:Stmt}{B R:List Str}(T:VB b)(kn:Kn c B R)(h:∀y∈tb,y.fU c)(a:At c.K c.mg x st)(h1:(tu (eZ st) (psz st) st&&qx (psz st) st&&T.ck (fG (dJ T.cs) (eZ st) st B R []) (eN st))=true:=by kernel_rfl)(e:T.cs=oE tb T.cs:=by kernel_rfl):∀y ∈ .fn x (psz st) (aM (eZ st).length b) (dJ T.cs+1)::tb,y.fU c:=by
 obtain⟨h1,h2⟩:=an.mp h1
 obtain⟨h1,h3⟩:=an.mp h1
 obtain⟨S,hn⟩:=Aq h1
 have hb:Ar x st (psz st):=Je (S.pre▸S.nd.sublist (List.take_sublist ..)) h3
 exact List.forall_mem_cons.mpr ⟨a.Fe S hb (λvs H Q E ⟨_,_,h,_⟩=>h) λf cdv A outer s H vs Q E hr q=>⟨_,T.ok (Av h e) (⟨rfl,rfl,S.nd,rfl,hr,yJ,kn.B,λx m=>⟨kn.R x m,yI⟩,kn.x,rfl,(λz=>by cases z),(λ_ z=>nomatch z)⟩:Ox c.cl (fG (dJ T.cs) (eZ st) st B R []) E (gq (eX c.P c.w) c.P c.w c.K c.mg c.base (eZ st) x (bG st) f cdv A outer s H E)) h2,Tz hn q⟩,h⟩
theorem okL{st:Stmt}{B R:List Str}{k P:Addr}(N:List Str)(T:VB b)(kn:Kn c B R)(h:∀y∈tb,y.fU c)(a:u0 c.K c.mg x st k)(L:zL c.K c.mg c.base x k P)(h1:(tu N (psz st) st&&qx (psz st) st&&T.ck (fG (dJ T.cs) N st B R [x]) (eN st))=true:=by kernel_rfl)(e:T.cs=oE tb T.cs:=by kernel_rfl):∀y ∈ .fn x (psz st) (aM N.length b) (dJ T.cs+1)::tb,y.fU c:=by
 obtain⟨h1,h2⟩:=an.mp h1
 obtain⟨h1,h3⟩:=an.mp h1
 obtain⟨S,hn⟩:=Aq h1
 have hb:Ar x st (psz st):=Je (S.pre▸S.nd.sublist (List.take_sublist ..)) h3
 exact List.forall_mem_cons.mpr ⟨a.aeV S hb (λvs H Q E ⟨_,_,h,_⟩=>h) λf A outer s H vs Q E hr q=>⟨_,T.ok (Av h e) (⟨rfl,rfl,S.nd,rfl,hr,yJ,kn.B,λx m=>⟨kn.R x m,yI⟩,kn.x,rfl,(λz=>by cases z),List.forall_mem_cons.mpr ⟨⟨k,P,L,rfl,rfl⟩,(λ_ z=>nomatch z)⟩⟩:Ox c.cl (fG (dJ T.cs) N st B R [x]) E (gq (eX c.P c.w) c.P c.w c.K c.mg c.base N x (bG st) f (.ref k) A outer s H E)) h2,Tz hn q⟩,h⟩
theorem fm{tb:List Ey}(x:Str){y:Ey}(h:(tb.find? λz=>z.nm == x)=some y):y∈tb:=List.mem_of_find?_eq_some h
noncomputable abbrev fB{f g:EF}(a:VE f)(b:VE g):=v2 .Add Fy j6 (λ_=>ad5) (λ_=>ad6) a b
noncomputable abbrev lA{f g:EF}(a:VE f)(b:VE g):=v2 .Sub (λ_=>eG λi j=>.int (i-j)) uO (λ_=>Nz) (λ_=>aee) a b
noncomputable abbrev bV{f g:EF}(a:VE f)(b:VE g):=v2 .Mult Fz uN (λ_=>ad7) (λ_=>ad9) a b
noncomputable abbrev lB{f g:EF}(a:VE f)(b:VE g):=v2 .FloorDiv (λ_=>rI yR λi j=>.int (i.fdiv j)) FJ (λ_=>ad8) (λ_=>aea) a b
noncomputable abbrev jR{f g:EF}(a:VE f)(b:VE g):=v2 .Mod (λ_=>rI (λ_ j=>j≠0) λi j=>.int (i.fmod j)) yS (λ_=>abJ) (λ_=>aeb) a b
noncomputable abbrev oF{f g:EF}(a:VE f)(b:VE g):=v2 .Pow (λ_=>rI yq λi j=>.int (i ^ j.toNat)) mZ (λ_=>NK) (λ_=>aed) a b
noncomputable abbrev dK:Cq (jq):=⟨.Eq,Eu,λ_ h=>adi h,λ_=>ad0⟩
noncomputable abbrev oG:Cq (j5):=⟨.NotEq,Fi,λ_ h=>adR h,λ_=>ad1⟩
noncomputable abbrev mV:Cq (uP):=⟨.Lt,Ga,λ_ h=>aei h,λ_=>aej⟩
noncomputable abbrev jT:Cq (FT):=⟨.LtE,λ_=>eG λi j=>.bl (decide (i<=j)),λ_ _=>abL,λ_=>aeg⟩
noncomputable abbrev qGt:Cq (FQ):=⟨.Gt,λ_=>eG λi j=>.bl (decide (j<i)),λ_ _=>abM,λ_=>aef⟩
noncomputable abbrev Jf:Cq (FW):=⟨.GtE,λ_=>eG λi j=>.bl (decide (j<=i)),λ_ _=>abN,λ_=>aeh⟩
noncomputable abbrev Aw:Cq (gZ id):=⟨.In,Ew,λ_ h=>adk h,λ_=>ad2⟩
noncomputable abbrev Jg:Cq (gZ not):=⟨.NotIn,Fg,λ_ h=>adQ h,λ_=>ad3⟩
noncomputable abbrev qIs:Cq (qU id):=⟨.Is,λ_ x y H Q=>y=.non/\Q (.bl (decide (x=.non))) H,λ_ _=>abO,λ_=>ad4 id⟩
theorem bb{x:Str}{i:String}(h:bootBuiltins x=some (.builtin i))(n:x ≠ "__name__"):bootBuiltins x=some (.builtin i)∧x ≠ "__name__" ∧ ((∃j,Value.builtin i=.builtin j)∨∃j,Value.builtin i=.type j):=⟨h,n,.inl ⟨_,rfl⟩⟩
theorem bt{x:Str}{i:String}(h:bootBuiltins x=some (.type i))(n:x ≠ "__name__"):bootBuiltins x=some (.type i)∧x ≠ "__name__" ∧ ((∃j,Value.type i=.builtin j)∨∃j,Value.type i=.type j):=⟨h,n,.inr ⟨_,rfl⟩⟩
noncomputable abbrev dB{f:AF}(a:VA f):=vB "len" (.builtin "len") Gb (g1 fC) (bb (by decide +kernel) (by decide +kernel)) (λ_=>aek) (λ_=>rN ael) a
noncomputable abbrev TY{f:AF}(a:VA f):=vB "abs" (.builtin "abs") (λ_ xs H Q=>∃i,xs=[.int i]/\Q (.int (if i<0 then -i else i)) H) (g1 uQ) (bb (by decide +kernel) (by decide +kernel)) (λ_=>abW) (λ_=>rN aem) a
noncomputable abbrev vX{f:AF}(a:VA f):=vB "all" (.builtin "all") Ez (g1 rO) (bb (by decide +kernel) (by decide +kernel)) (λo=>adn o.l) (λ_=>rN aer) a
noncomputable abbrev Ax{f:AF}(a:VA f):=vB "list" (.type "list") (λK xs H Q=>∃p ys,xs=[.ref p]/\(aL K H p ys\/aX K H p ys)/\∀l,H l=none->Q (.ref l) (upd H l (.lst ys))) (g1 xg) (bt (by decide +kernel) (by decide +kernel)) (λ_=>ac3) (λ_=>rN aen) a
noncomputable abbrev af2{f:AF}(a:VA f):=vB "min" (.builtin "min") (λ_ xs H Q=>∃i j,xs=[.int i,.int j]/\Q (.int (if j<i then j else i)) H) (g2 wZ) (bb (by decide +kernel) (by decide +kernel)) (λo=>abY o.l) (λ_=>Qp aeo) a
noncomputable abbrev af3{f:AF}(a:VA f):=vB "max" (.builtin "max") (λ_ xs H Q=>∃i j,xs=[.int i,.int j]/\Q (.int (if j > i then j else i)) H) (g2 w6) (bb (by decide +kernel) (by decide +kernel)) (λo=>abX o.l) (λ_=>Qp aep) a
noncomputable abbrev af4{f:AF}(a:VA f):=vB "sorted" (.builtin "sorted") Ir (g1 sV) (bb (by decide +kernel) (by decide +kernel)) (λ_=>afC) (λ_=>rN afE) a
noncomputable abbrev T3{f:EF}(a:VE f):=zW "int" .int ⟨by decide +kernel,by decide +kernel⟩ a
noncomputable abbrev T4{f:EF}(a:VE f):=zW "bool" .bool ⟨by decide +kernel,by decide +kernel⟩ a
noncomputable abbrev Ay{f:EF}(a:VE f):=zW "tuple" .tuple ⟨by decide +kernel,by decide +kernel⟩ a
noncomputable abbrev Jh{f:EF}(a:VE f):=zW "list" .list ⟨by decide +kernel,by decide +kernel⟩ a
noncomputable abbrev T5(i:Nat){f:AF}(a:VA f):=vM "append" "list.append" Ek ql ⟨PySem.F.slot_list_append,PySem.F.type_list_append,λ_=>Pg⟩ afb i a
noncomputable abbrev af5(i:Nat){f:AF}(a:VA f):=vM "insert" "list.insert" Iu vW ⟨PySem.F.slot_list_insert,PySem.F.type_list_insert,λ_=>afD⟩ afG i a
noncomputable def Ji(i:Nat)(fk fe:EF):SF:=λρ=>(fe ρ).bind λp=>(cls [p.1]).bind λTs=>(con p.2 i).bind λ_=>(fk p.2).bind λq=>(dr q.2 q.1).bind λkT=>(rP kT).bind λk=>(con q.2 i).bind λts=>match Ts,eH ts.length k with
 | [T],some j=>.ok (.nx,bM i (ts.set j T) q.2)
 |_,_=>.bad
noncomputable def sS(i:Nat)(k:VE su)(a:VE aB):VS (Ji i su aB) where
 ck Γ e:=jr e λaK v _=>aP aK λbA bH=>jK bA λcJ y _=>atName cJ λx _=>aQ bH (d8 Γ i x&&kW v&&k.ck Γ y&&a.ck Γ v&&u9 y)
 cs:=k.cs++a.cs
 ok q o h:=by
  walk_at "O"
  simp only[an]at h
  obtain⟨⟨⟨⟨h1,h2⟩,h3⟩,h4⟩,h5⟩:=h
  refine(xY (a.ok (mr q) o h4) (Dp (fV o h1) (k.ok (ml q) o h3) set_list (Jc h5)) (by unfold swapsWithSole; exact oh h2) rfl rfl).imp λD σ H=>bD λR ρ G F e h=>cZ e .refl h λp h v G1 H1 F1 e1 s1 v1=>?_
  obtain⟨Ts,k1,h⟩:=h.okb (nW _)
  obtain⟨us,k2,h⟩:=h.okb (zY _ _)
  obtain⟨G2,e2,s2,_,r⟩:=e1.vis (vs:=[v]) e s1 (.cons v1 .nil) k1
  obtain⟨a,xs,hi,_,_,_⟩:=e2.con k2
  refine⟨_,hi,cZ e2 s2 h λq h w G3 H3 F3 e3 s3 v3=>?_⟩
  obtain⟨kT,k3,h⟩:=h.okb (gW _ _)
  obtain⟨k,k4,h⟩:=h.okb (Qv _)
  obtain⟨ts,k5,h⟩:=h.okb (zY _ _)
  obtain⟨a',ys,hi',hf,hy,ry⟩:=e3.con k5
  rw[hi]at hi'
  cases hi'
  split at h
  case h_2=>exact h.elim
  cases r with
  |cons r _ =>
   obtain⟨e4,s4⟩:=e3.put k5 hf (ry.set (r.mono s3.gg) _)
   exact⟨a,ys,k,_,rfl,Qw (gY e3 v3 k3) k4,hy,by rw[ry.length]; assumption,h σ G3 _ F3 e4 ((s2.trans s3).trans s4)⟩
noncomputable abbrev WF:=En->Rs (Tr × En)
noncomputable abbrev WA:=En->Rs (List Tr × En)
noncomputable def Tw(t:Tx)(f:WF):TE:=λσ H Q=>∃R ρ G F,Ok t.K R ρ σ G H F/\bF t H F (f ρ) λp=>∀v G' H' F' bs,Ok t.K R p.2 σ G' H' F'->aC t.K G H F G' H' F'->Vw t.K R H F G' H' F' [v] [p.1] bs->Q v H'
noncomputable abbrev VX(f:WF):=Vn λcl E X e=>PE X e (Tw (tx cl E X) f)
section
variable {t:Tx}{K:PySem.W.Frag}{R:Addr->Prop}{ρ ρ':En}{σ σ':St}{G H G0 H0 G1 H1 G2 H2 G' H' Hs:Hp}{F F0 F1 F2 F' Fs:Fp}{Q:VK}{vs:List V}{Ts:List Tr}{bs cs:List Addr}
theorem Vw.step(tb:bx K H)(s:aC K G H F G' H' F')(h:Vw K R Hs Fs G H F vs Ts bs):Vw K R Hs Fs G' H' F' vs Ts bs:=by
 refine⟨h.nd,λb hb=>?_,h.dr.mono s.gg λb hb o q=>?_⟩ <;> obtain⟨h1,h2,h3,h4⟩:=h.al b hb <;> obtain⟨ys,hy⟩:=h.dr.lst b hb
 .exact⟨h1,(s.flt tb hy h2 h4).2.1,h3,(s.flt tb hy h2 h4).2.2⟩
 .rw[hy]at q
  cases q
  exact(s.flt tb hy h2 h4).1
theorem Vw.back(s:aC K G0 H0 F0 G1 H1 F1)(h:Vw K R H1 F1 G H F vs Ts bs):Vw K R H0 F0 G H F vs Ts bs:=⟨h.nd,λb hb=>⟨(h.al b hb).1.elim (λz=>.inl (s.dm b z)) (s.nf b),(h.al b hb).2⟩,h.dr⟩
theorem Vw.cons(tb:bx K H1)(s0:aC K G0 H0 F0 G1 H1 F1)(s:aC K G1 H1 F1 G2 H2 F2)(h:Vw K R H0 F0 G1 H1 F1 [v] [T] bs)(h':Vw K R H1 F1 G2 H2 F2 vs Ts cs):Vw K R H0 F0 G2 H2 F2 (v::vs) (T::Ts) (bs++cs):=by
 have h2:=h.step tb s
 have h3:=h'.back s0
 refine⟨List.nodup_append.mpr ⟨h.nd,h'.nd,λb hb c hc z=>?_⟩,λb hb=>(List.mem_append.mp hb).elim (h2.al b) (h3.al b),h2.dr.app h3.dr⟩
 subst z
 obtain⟨ys,hy⟩:=h.dr.lst b hb
 rcases(h'.al b hc).1 with z|z
 .rw[hy]at z; cases z
 .exact(h.al b hb).2.1 z
theorem Vw.of(e0:Ok K R ρ σ G H F)(e:Ok K R ρ' σ G' H' F')(s:aC K G H F G' H' F')(v1:fJ K σ H G' H' F' v (.v T fr))(n:gj (T,fr)=true):∃bs,Vw K R H F G' H' F' [v] [T] bs:=by
 cases fr with
 |false=>exact⟨[],.nil,(λ_ h=>by cases h),.cl (by simpa[gj]using n) v1.1 .nil⟩
 |true =>
  obtain⟨⟨a,xs,ts,rfl,rfl,q1,q2,q3,q4⟩,f⟩:=v1
  refine⟨[a],by simp,λb hb=>?_,.rw q3 (.flat q4 (by simpa[gj,bh]using n)) .nil⟩
  cases List.mem_singleton.mp hb
  exact⟨.inl q1,f rfl a rfl,e0.rn q1,q2⟩
end
noncomputable def T6(f:EF):WF:=λρ=>(f ρ).bind λp=>match p.1 with
 |.v T fr=>if gj (T,fr)=true then .ok (T,p.2)else .bad
 |.s _=>.bad
noncomputable def wE(a:VE aB):VX (T6 aB) where
 ck:=a.ck
 cs:=a.cs
 ok q o h:=(a.ok q o h).imp λσ H Q=>bD λR ρ G F e h=>cZ e .refl h λp h v G1 H1 F1 e1 s1 v1=>by
  obtain⟨r,ρ1⟩:=p
  cases r with
  |s _=>exact h.elim
  |v T fr =>
   dsimp only at h
   split at h
   case isFalse=>exact h.elim
   obtain⟨bs,z⟩:=Vw.of e e1 s1 v1 ‹_›
   exact h v G1 H1 F1 bs e1 s1 z
theorem Ok.drp{K:PySem.W.Frag}(e:Ok K R ρ σ G H F)(i:Nat):Ok K R (ρ.set i .un) σ G H (cW F i [])/\aC K G H F G H (cW F i []):=by
 refine⟨e.one i [] (by rw[List.length_set,e.len]) (λj n=>⟨fL n,rfl⟩) (Same.refl _) e.sub e.tb (λb h=>.inl h) (λ_ _ _ _ _ h=>h) (λb h=>(e.rg b h).2) (λb h=>by cases h) ?_,.sub λb h=>?_⟩
 .rw[List.getElem?_set_self']
  cases ρ[i]? <;> rfl
 .rcases jw h with h|⟨j,_,h⟩
  .cases h
  .exact⟨j,h⟩
noncomputable def lF(i:Nat):WF:=λρ=>match ρ[i]? with
 |some (.dp ts)=>.ok (.lst ts,ρ.set i .un)
 |some (.ow ts)=>if bT ts=true then .ok (.lst ts,ρ.set i .un)else .bad
 |_=>.bad
noncomputable def wM(i:Nat):VX (lF i) where
 ck Γ e:=atName e λx _=>d8 Γ i x
 cs:=[]
 ok _ o h:=by
  walk_at "o"
  refine(fV o h).imp λσ H Q=>bD λR ρ G F e h=>?_
  have z:=e.sl i
  obtain⟨e1,s1⟩:=e.drp i
  have al:∀b∈F i,(H b=none\/Fn F b)/\¬Fn (cW F i []) b/\G b=none:=λb hb=>⟨.inr ⟨i,hb⟩,λz=>(jw z).elim (λz=>by cases z) λ⟨j,n,z⟩=>n (e.di j i b z hb),e.hid b ⟨i,hb⟩⟩
  unfold lF at h
  split at h <;> rename_i k <;> (try exact h.elim) <;> rw[k]at z
  .obtain⟨a,xs,bs,h1,h2,nd,h3,h4,d⟩:=z
   refine⟨_,h1,h _ G H _ (F i) e1 s1 ⟨h2▸nd,λb hb=>⟨(al b hb).1,(al b hb).2.1,h3 b hb,(al b hb).2.2⟩,?_⟩⟩
   have:=DR.rw h4 d .nil
   rw[List.append_nil]at this
   rw[h2]
   exact this
  .split at h
   case isFalse=>exact h.elim
   obtain⟨a,xs,h1,h2,h3,h4,h5⟩:=z
   refine⟨_,h1,h _ G H _ (F i) e1 s1 ⟨by rw[h2]; simp,λb hb=>⟨(al b hb).1,(al b hb).2.1,?_,(al b hb).2.2⟩,?_⟩⟩
   .rw[h2]at hb
    cases List.mem_singleton.mp hb
    exact h3
   .rw[h2]
    exact .rw h4 (.flat h5 ‹_›) .nil
noncomputable def Dj:WA:=λρ=>.ok ([],ρ)
noncomputable def yCn(f:WF)(g:WA):WA:=λρ=>(f ρ).bind λp=>(g p.2).bind λq=>.ok (p.1::q.1,q.2)
noncomputable def yTu(g:WA):WF:=λρ=>(g ρ).bind λp=>if p.1.length<=1000 then .ok (.tup p.1,p.2)else .bad
noncomputable def yLs(g:WA):WF:=λρ=>(g ρ).bind λp=>if p.1.length<=1000 then .ok (.lst p.1,p.2)else .bad
theorem af6{t:Tx}(e:Ok t.K R ρ σ G H F)(s:aC t.K G0 H0 F0 G H F)(h:bF t H0 F0 (f ρ) λp=>∀v G' H' F' bs,Ok t.K R p.2 σ G' H' F'->aC t.K G0 H0 F0 G' H' F'->Vw t.K R H0 F0 G' H' F' [v] [p.1] bs->Q v H'):Tw t f σ H Q :=
 ⟨R,ρ,G,F,e,h.go s λp h v G' H' F' bs e' s' v'=>h v G' H' F' bs e' (s.trans s') (v'.back s)⟩
theorem DR.low{K:PySem.W.Frag}{G G' H:Hp}(m:pZ G G'){xs:List V}{ts:List Tr}{bs:List Addr}(h:DR K G H xs ts bs):DR K G' H xs ts bs:=by
 induction h with
 |nil=>exact .nil
 |cl n h _ ih=>exact .cl n (h.flat m n) ih
 |rw h _ _ i1 i2=>exact .rw h i1 i2
 |tp h _ _ i1 i2=>exact .tp (m.jJ h) i1 i2
theorem Vw.out{K:PySem.W.Frag}(e:Ok K R ρ σ G H F)(w:Gw K (wL G H) H G' H')(h:Vw K R' H Fs G' H' F' vs Us bs)(nf:∀b,¬Fn Fs b):∃F2,Ok K R ρ σ (wB G H G') H' F2/\aC K G H F (wB G H G') H' F2/\Vw K R H F (wB G H G') H' F2 vs Us bs:=by
 obtain⟨e2,s2⟩:=e.grow (Hh e.sub w)
 refine⟨F,e2,s2,h.nd,λb hb=>?_,h.dr.low (zX w)⟩
 have n:=(h.al b hb).1.resolve_right (nf b)
 refine⟨.inl n,e.fs n,e.rn n,?_⟩
 unfold wB
 split
 .exact e.sub.free n
 .exact(h.al b hb).2.2.2
noncomputable def tB(f:FP)(fa:AF):WF:=λρ=>(fa ρ).bind λp=>(drs p.2 p.1).bind λas=>(f as).bind λz=>.ok (z.1,p.2)
theorem af7(hn:∀ρ p,fa ρ=.ok p->p.1.length=n)(h:Tw (tx cl E X) (tB f fa) σ H Q):DX (zN X.K cl n f) [] E (Ta (tx cl E X) fa) σ H Q:=by
 obtain⟨R,ρ,G,F,e,h⟩:=h
 cases ek:fa ρ with
 |bad=>rw[tB,ek]at h; exact h.elim
 |ex c=>exact⟨R,ρ,G,F,e,by rw[tB,ek]at h; rw[ek]; exact h⟩
 |ok p =>
 refine⟨R,ρ,G,F,e,?_⟩
 simp only[tB,ek,Rs.bind]at h
 rw[ek]
 intro vs G1 H1 F1 e1 s1 v1
 obtain⟨as,k1,h⟩:=h.okb (vd _ _)
 show zN X.K cl n f (vs++[]) H1 Q E
 rw[List.append_nil]
 refine⟨wL G1 H1,as,by rw[v1.length,hn ρ p ek],(vf e1 v1 k1).reps e1.sub,λb o q=>(p7 q).elim (e1.sub b o) λq=>q.2.1,e1.tb,λb t=>?_,?_⟩
 .cases q:wL G1 H1 b with
  |none=>rfl
  |some o =>
   rcases p7 q with q|⟨_,q,m⟩
   .rw[e1.tg b t]at q; cases q
   .exact(e1.tb.nm q m t).elim
 .cases ef:f as with
  |bad=>rw[ef]at h; exact h.elim
  |ex c=>rw[ef]at h; exact λH' q=>h H' (s1.back q.none)
  |ok z =>
   rw[ef]at h
   refine λv G' H' w ⟨bs,vw⟩=>?_
   obtain⟨F2,e2,s2,v2⟩:=Vw.out e1 w vw λb (z:Fn (λ_=>[]) b)=>z.elim λ_ z=>by cases z
   exact h v _ H' F2 bs e2 (s1.trans s2) (v2.back s1)
noncomputable def vFd(x:Str)(ps:List Str)(f:FP)(l:Nat)(as:VA gF):VX (tB f gF) where
 ck Γ e:=gC e λ_ m _ _=>m.length == ps.length&&decide (l <= Γ.k)&&pY Γ x as e
 cs:=.fd x ps f l::as.cs
 ok q o h:=by
  obtain⟨_,_,_,_,e0,h⟩:=wX h
  subst e0
  simp only[an]at h
  obtain⟨⟨h1,h0⟩,h⟩:=h
  obtain⟨p,a,es,p',e',h2,h3⟩:=vh h
  cases e'
  obtain⟨D,q⟩:=List.forall_mem_cons.mp q
  obtain⟨pa,la,na⟩:=as.ok q o h3
  rw[eq_of_beq h1]at la
  obtain⟨d,fd,d1,d2,d3,d4⟩:=iI.mono D (of_decide_eq_true h0)
  exact(Eb d1 o.r (dz o h2).1 d4 d3 d2 .nil o.e pa (dz o h2).2 (iH (na _ (List.mem_cons_self ..))) (kj (λy m=>na y (List.mem_cons_of_mem _ m)) _)).imp λ_ _ _=>af7 la
noncomputable def Jj(f:WF):WF:=λρ=>(c7 (f (vw ρ))).bind λp=>.ok (p.1,ρ)
noncomputable def Az(a:VX aB):VX (Jj aB) where
 ck:=a.ck
 cs:=a.cs
 ok q o h:=(a.ok q o h).imp λσ H Q=>bD λR ρ G F e h=>by
  obtain⟨p,k,h⟩:=jP h
  refine⟨_,_,_,_,e.view,?_⟩
  rw[k]
  intro v G' H' F' bs e' s' v'
  have nf:∀b,¬Fn (λ_=>[]) b:=λb ⟨_,z⟩=>by cases z
  obtain⟨F2,e2,s2,v2⟩:=Vw.out e ⟨s'.gg,λb o q t=>s'.fr b o q (nf b) t,e'.sub,λ_=>e'.tb,λb q=>(s'.nw b q).imp id λz=>z.resolve_right (nf b)⟩ v' nf
  exact h v _ H' F2 bs e2 s2 v2
theorem Vw.rep{K:PySem.W.Frag}(h:Vw K R Hs Fs G H F [v] [T] bs)(n:bh T=true):Rep K G v T:=by
 have d:=h.dr
 cases d.nil_of (by show(bh T&&true)=true; rw[n]; rfl)
 cases d.reps (Same.refl _) (λ_ z=>by cases z)
 assumption
noncomputable def m5(i:Nat)(T:Tr)(ρ : En):Rs En:=match T with
 |.lst ts=>.ok (ρ.set i (.dp ts))
 |T=>if bh T=true then .ok (ρ.set i (.sh T))else .bad
noncomputable def af8(i:Nat)(f:WF):SF:=λρ=>(f ρ).bind λp=>(m5 i p.1 p.2).bind λρ'=>.ok (.nx,ρ')
noncomputable def af9(i:Nat)(f:WA):SF:=λρ=>(cU ρ i).bind λ_=>(f ρ).bind λp=>(cU p.2 i).bind λts=>match p.1 with
 | [T]=>if ts.length<=100000 then .ok (.nx,p.2.set i (.dp (ts++[T])))else .bad
 |_=>.bad
theorem Ok.cU{K:PySem.W.Frag}(e:Ok K R ρ σ G H F)(q:L2.cU ρ i=.ok ts):∃a xs bs,σ[i]?=some (some (.ref a))/\ρ[i]?=some (.dp ts)/\F i=a::bs/\(F i).Nodup/\(∀b∈F i,¬R b)/\H a=some (.lst xs)/\DR K G H xs ts bs:=by
 unfold L2.cU at q
 split at q <;> cases q
 have z:=e.sl i
 rw[‹ρ[i]?=_›]at z
 obtain⟨a,xs,bs,z1,z⟩:=z
 exact⟨a,xs,bs,z1,‹_›,z⟩
noncomputable def aga(i m:Nat):SF:=λρ=>(cU ρ i).bind λts=>match ts[m]? with
 |some (.lst us)=>if bT us=true then .ok (.nx,ρ.set i (.dp (ts.set m (.lst []))))else .bad
 |_=>.bad
noncomputable abbrev DF:=En->Rs Tr
structure tD(K:PySem.W.Frag)(R:Addr->Prop)(G H:Hp)(F:Fp)(G' H':Hp)(v:V)(T:Tr):Prop where
 gg:Same G G'
 fm:Fr K H F H'
 sub:Same G' H'
 nw:∀b,G' b≠none->G b≠none\/H b=none\/Fn F b
 vl:∃bs,bs.Nodup/\(∀b∈bs,(H b=none\/Fn F b)/\G' b=none)/\DR K G' H' [v] [T] bs
noncomputable def Jk(t:Tx)(g:DF):TS:=λD σ H=>∃R ρ G F,Ok t.K R ρ σ G H F/\bF t H F (g ρ) λT=>∀v G' H',tD t.K R G H F G' H' v T->D.rt v H'
theorem tD.back{K:PySem.W.Frag}(s:aC K G0 H0 F0 G H F)(h:tD K R G H F G' H' v T):tD K R G0 H0 F0 G' H' v T:=by
 have ff:∀b,H b=none\/Fn F b->H0 b=none\/Fn F0 b:=λb=>λz=>z.elim (λz=>.inl (s.dm b z)) (s.nf b)
 obtain⟨bs,nd,al,d⟩:=h.vl
 exact⟨s.gg.trans h.gg,s.back h.fm,h.sub,λb z=>(h.nw b z).elim (s.nw b) λz=>.inr (ff b z),bs,nd,λb hb=>⟨ff b (al b hb).1,(al b hb).2⟩,d⟩
noncomputable abbrev VD(g:DF):=Vn λcl E X e=>cX X e (Jk (tx cl E X) g)
noncomputable abbrev T7{g:DF}(_:VD g):DF:=g
noncomputable def T8(f:WF):DF:=λρ=>(f ρ).bind λp=>.ok p.1
noncomputable def dR(a:VX aB):VD (T8 aB) where
 ck Γ e:=aP e λz l=>aQ l (pN z λy _=>j9 y λx=>a.ck Γ x)
 cs:=a.cs
 ok q o h:=by
  walk_at "O"
  exact(xW (xX (a.ok q o h))).imp λD σ H=>bD λR ρ G F e h=>⟨R,ρ,G,F,e,h.run (aC.refl (G:=G)) λp h v G1 H1 F1 bs e1 s1 v1=>h v G1 H1 ⟨s1.gg,⟨s1.fr,e1.tb⟩,e1.sub,s1.nw,bs,v1.nd,λb hb=>⟨(v1.al b hb).1,(v1.al b hb).2.2.2⟩,v1.dr⟩⟩
noncomputable def T9(f:SF)(g:DF):DF:=λρ=>(f ρ).bind λp=>match p.1 with
 |.nx=>g p.2
 |.rt T false=>if bh T=true then .ok T else .bad
 |_=>.bad
noncomputable def dC(a:VS aB)(r:VD cV):VD (T9 aB cV) where
 ck Γ e:=aP e λx l=>a.ck Γ x&&r.ck Γ l
 cs:=a.cs++r.cs
 ok q O h:=by
  walk_at "o"
  simp only[an]at h
  refine(xV (a.ok (ml q) O h.1) (r.ok (mr q) O h.2)).imp λD σ H=>bD λR ρ G F e h=>⟨R,ρ,G,F,e,h.run (aC.refl (G:=G)) λp h=>?_⟩
  obtain⟨fl,ρ1⟩:=p
  cases fl with
  |nx=>exact λσ1 G1 H1 F1 e1 s1=>⟨R,ρ1,G1,F1,e1,h.go s1 λT h v G' H' r=>h v G' H' (r.back s1)⟩
  |bk=>exact h.elim
  |ct=>exact h.elim
  |rt T fr =>
   cases fr with
   |true=>exact h.elim
   |false =>
    dsimp only at h
    split at h
    case isFalse=>exact h.elim
    exact λv G' H' r=>h v G' H' ⟨r.gg,r.fm,r.sub,r.nw,[],.nil,(λ_ z=>by cases z),.cl ‹_› r.vl .nil⟩
noncomputable def oH(nl:Nat)(g:DF):FP:=λts=>(g (gO nl ts)).bind λT=>.ok (T,pJ T)
section
variable {K:PySem.W.Frag}{G H G' H':Hp}{F:Fp}{N ps:List Str}{g:DF}{Q:VK}{E:XK}
theorem tD.gw{R:Addr->Prop}(r:tD K R G H (λ_=>[]) G' H' v T):Gw K G H G' H':=by
 have nf:∀{b:Addr},¬Fn (λ_=>[]) b:=λ⟨_,z⟩=>by cases z
 exact⟨r.gg,λb o q t=>r.fm.fr b o q nf t,r.sub,λ_=>r.fm.tb,λb q=>(r.nw b q).imp id λz=>z.resolve_right nf⟩
theorem agb(hn:ps.length<=N.length)(h:zN K cl ps.length (oH N.length g) vs H Q E):Jk ⟨aq K,λc H'=>E (.ref (cl c)) none H'⟩ g {nx:=λ_ H'=>Q .non H',rt:=Q } (start N vs) H:=by
 obtain⟨G,as,hl,r,sg,tb,tg,h⟩:=h
 refine⟨_,_,G,_,Ok.init r (by lia) sg tb tg,h.run (aC.refl (G:=G)) λT h v G' H' r=>?_⟩
 obtain⟨bs,nd,al,d⟩:=r.vl
 exact h v G' H' r.gw ⟨bs,nd,λb hb=>⟨(al b hb).1,(λ⟨_,z⟩=>by cases z),id,(al b hb).2⟩,d⟩
open Classical in
theorem Gw.Ua(s:Same G H)(w:Gw K G H G' H')(cs:List Addr)(n:∀b∈cs,H b=none):∃G2,Gw K G H G2 H'/\Same G' G2/\(∀b∈cs,G2 b=H' b)/\∀b,b∉cs->G2 b=G' b:=by
 have i1:∀b,b∈cs->(if b∈cs then H' b else G' b)=H' b:=λb h=>if_pos h
 have i2:∀b,b∉cs->(if b∈cs then H' b else G' b)=G' b:=λb h=>if_neg h
 have m:Same G' λb=>if b∈cs then H' b else G' b:=λb o q=>by
  by_cases h:b∈cs
  .exact(i1 b h).trans (w.sub b o q)
  .exact(i2 b h).trans q
 refine⟨λb=>if b∈cs then H' b else G' b,⟨w.gg.trans m,w.hh,λb o q=>?_,w.tb,λb q=>?_⟩,m,i1,i2⟩ <;> by_cases h:b∈cs
 .rw[i1 b h]at q; exact q
 .rw[i2 b h]at q; exact w.sub b o q
 .exact .inr (n b h)
 .rw[i2 b h]at q; exact w.nw b q
theorem agc(hn:ps.length<=N.length)(h:nU K cl ps.length (oH N.length g) vs H Q E):Jk ⟨aq K,λc H'=>E (.ref (cl c)) none H'⟩ g {nx:=λ_ H'=>Q .non H',rt:=Q } (start N vs) H:=by
 obtain⟨G,as,hl,r,sg,tb,tg,h⟩:=h
 refine⟨_,_,G,_,Ok.init r (by lia) sg tb tg,h.run (aC.refl (G:=G)) λT h v G' H' r=>?_⟩
 obtain⟨bs,nd,al,d⟩:=r.vl
 have fr:∀b∈bs,H b=none:=λb hb=>(al b hb).1.resolve_right λ⟨_,z⟩=>by cases z
 cases k:pJ T with
 |false =>
  obtain⟨G2,w,m,i1,_⟩:=r.gw.Ua sg bs fr
  rw[k]at h
  refine h v G2 H' w ?_
  cases d.reps m i1
  assumption
 |true =>
  rw[k]at h
  unfold pJ at k
  split at k <;> cases k
  cases d with
  |cl n _ _=>unfold bh at n; cases n
  | @rw b ys _ cs _ _ bs hb dq r0 =>
  cases r0
  rw[List.append_nil]at nd al fr
  obtain⟨n1,_⟩:=List.nodup_cons.mp nd
  obtain⟨G2,w,m,i1,i2⟩:=r.gw.Ua sg cs λb hb=>fr b (List.mem_cons_of_mem _ hb)
  exact h _ G2 H' w ⟨b,ys,_,rfl,rfl,fr b (List.mem_cons_self ..),(i2 b n1).trans (al b (List.mem_cons_self ..)).2,hb,dq.reps m i1⟩
end
theorem Ub{st:Stmt}{B R:List Str}(T:VD g)(kn:Kn c B R)(h:∀y∈tb,y.fU c)(a:At c.K c.mg x st)(h1:(tu (eZ st) (psz st) st&&qx (psz st) st&&T.ck (fG (dJ T.cs) (eZ st) st B R []) (eN st))=true:=by kernel_rfl)(e:T.cs=oE tb T.cs:=by kernel_rfl):∀y ∈ .fd x (psz st) (oH (eZ st).length g) (dJ T.cs+1) :: .fn x (psz st) (oH (eZ st).length g) (dJ T.cs+1)::tb,y.fU c:=by
 obtain⟨h1,h2⟩:=an.mp h1
 obtain⟨h1,h3⟩:=an.mp h1
 obtain⟨S,hn⟩:=Aq h1
 have hb:Ar x st (psz st):=Je (S.pre▸S.nd.sublist (List.take_sublist ..)) h3
 have ox:=λf cdv A outer s H E hr=>T.ok (Av h e) (⟨rfl,rfl,S.nd,rfl,hr,yJ,kn.B,λx m=>⟨kn.R x m,yI⟩,kn.x,rfl,(λz=>by cases z),(λ_ z=>nomatch z)⟩:Ox c.cl (fG (dJ T.cs) (eZ st) st B R []) E (gq (eX c.P c.w) c.P c.w c.K c.mg c.base (eZ st) x (bG st) f cdv A outer s H E)) h2
 exact List.forall_mem_cons.mpr ⟨a.Fe S hb (λvs H Q E ⟨_,_,h,_⟩=>h) λf cdv A outer s H vs Q E hr q=>⟨_,ox f cdv A outer s H E hr,agb hn q⟩,List.forall_mem_cons.mpr ⟨a.Fe S hb (λvs H Q E ⟨_,_,h,_⟩=>h) λf cdv A outer s H vs Q E hr q=>⟨_,ox f cdv A outer s H E hr,agc hn q⟩,h⟩⟩
noncomputable def Jl(src:List (Option Nat))(fi:IF)(g:GF)(f:EF):WF:=λρ=>(fi ρ).bind λp=>if p.1.length<=100000 then(c7 (lq g iC f p.1 (dF src p.2))).bind λz=>if dU src z.2 p.2=true then .ok (.lst z.1,bf src z.2 p.2)else .bad else .bad
theorem agd{t:Tx}{tc:TT}(hc:∀σ H Q,Tt ⟨t.K,λ_ _=>False⟩ iC σ H Q->tc σ H Q)(I:Inj src)(hj:∀k j:Nat,src[k]?=some (some j)->k∉js)(ng:∀T ρ c,gf T ρ ≠ .ex c)(h:Tw t (Jl src fi gf f) σ H Q):sE (Ti t fi) (n8 t.K gf js) src tc (Te ⟨t.K,λ_ _=>False⟩ f) σ H Q:=by
 obtain⟨R,ρ,G,F,e,h⟩:=h
 refine⟨R,ρ,G,F,e,h.run (aC.refl (G:=G)) λp h J G1 H1 F1 e1 s1 it D hD=>?_⟩
 split at h
 case isFalse=>exact h.elim
 obtain⟨z,kz,h⟩:=jP h
 split at h
 case isFalse=>exact h.elim
 rw[Im]at kz
 refine Ih hc I hj ng ‹_› hD Sq e1 (λG' H' m s _=>it G' H' m s) kz ‹_› λG' H' F' xs e' s' d g _ _ ⟨bs,a⟩=>?_
 have dd:=DR.rw d a.dr .nil
 rw[List.append_nil]at dd
 exact h _ G' H' F1 (D::bs) e' (s1.trans s') ⟨List.nodup_cons.mpr ⟨λz=>(a.al D z).2.1 rfl,a.nd⟩,List.forall_mem_cons.mpr ⟨⟨.inl (s1.dm D hD),e1.fs hD,e1.rn hD,g⟩,λb hb=>⟨.inl (s1.dm b (a.al b hb).1),e1.fs (a.al b hb).1,(a.al b hb).2.2.1,(a.al b hb).2.2.2.2⟩⟩,dd⟩
noncomputable def wCo(src:List (Option Nat))(N:List Str)(i:VI mO)(g:VG je kY)(b:VE bU):VX (Jl src mO je bU) where
 ck Γ e:=pL e λx aK sc _=>aP aK λbA bH=>pO bA λt y cJ eE=>aQ cJ (jM eE 0 (aQ bH (i.ck Γ (t,y)&&g.ck (cG Γ N sc) t&&b.ck (cG Γ N sc) x&&qw Γ N src sc kY)))
 cs:=i.cs++(g.cs++b.cs)
 ok:=@λcl E Γ X e q o h=>by
  walk_at "O"
  rename_i x0 sc pos t0 y0
  simp only[an]at h
  obtain⟨⟨⟨h1,h2⟩,h3⟩,h4⟩:=h
  obtain⟨pi,ni⟩:=i.ok (ml q) o h1
  obtain⟨S,nd,I,hj⟩:=vR h4
  have pg:=λC s H ex=>g.ok (X:=cA X N sc C s H ex) (ml (mr q)) (mU o nd) h2
  have pb:=λC s H ex=>b.ok (X:=cA X N sc C s H ex) (mr (mr q)) (mU o nd) h3
  exact(Ag o.s o.N S o.l pi (λC s H ex=>(pg C s H ex).1) (λ_ _ _ _=>vN) pb (ou ni)).imp λσ H Q=>agd (λσ H Q ⟨R,ρ,G,F,e,h⟩=>h G H F e .refl) I hj (pg 0 X.s₀ X.H₀ []).2.1
end L2
end
section
namespace L2
open PySem
section
variable {α β : Type}
theorem bk{r:Rs α}{f : α -> Rs β}{a : α}{s:Rs β}(h:r=.ok a)(k:f a=s):r.bind f=s:=by subst h; exact k
end
section
variable {ρ ρ1 ρ2 ρ3:En}{f g:SF}{fa fb:EF}{aa:AF}{T U:Tr}{b b':Bool}{r:Rs (Fl × En)}{i:Nat}{ps:List Rv}{as ts:List Tr}{z:Tr × Bool}{F:FP}{c d:BF}{x y:Rv}
theorem Uc(h:f ρ=.ok (.nx,ρ1))(k:g ρ1=r):z7 f g ρ = r:=bk h k
theorem Jm(h:fa ρ=.ok (x,ρ1)):Hy fa ρ=.ok (.nx,ρ1):=bk h rfl
theorem Ud(h:c ρ=.ok (false,ρ1))(k:g ρ1=r):Hz c f g ρ = r:=bk h ((if_neg Bool.false_ne_true).trans k)
theorem nx_(h:f ρ=.ok q):vH f ρ=.ok q:=by unfold vH; rw[h]; rfl
theorem Jo(h:f (gO n as)=.ok (.nx,ρ1)):aM n f as=.ok (.non,false):=bk h rfl
theorem tE(h:fa ρ=.ok (x,ρ1))(k:aa ρ1=.ok (ps,ρ2)):fX fa aa ρ=.ok (x::ps,ρ2):=bk h (bk k rfl)
theorem vY(h:aa ρ=.ok (ps,ρ1))(k:drs ρ1 ps=.ok as)(n:ps.any p8=false)(e:F as=.ok z):qj F aa ρ=.ok (.v z.1 z.2,ρ1):=bk h (bk k (bk e (if_neg λq=>by rw[n]at q; exact Bool.false_ne_true q.1)))
theorem Ue(h:aa ρ=.ok (ps,ρ1))(k:drs ρ1 ps=.ok as)(e:G as=.ok z):nY G aa ρ=.ok (.v z.1 z.2,ρ1):=bk h (bk k (bk e rfl))
theorem op_(h:fa ρ=.ok (x,ρ1))(k:fb ρ1=.ok (y,ρ2))(u:dr ρ2 x=.ok T)(v:dr ρ2 y=.ok U)(e:G T U=.ok z):iy G fa fb ρ=.ok (.v z.1 z.2,ρ2):=bk h (bk k (bk u (bk v (bk e rfl))))
theorem agf(h:fa ρ=.ok (.v T b,ρ1))(k:fb ρ1=.ok (.v U b',ρ2))(e:G T U=.ok z):iy G fa fb ρ=.ok (.v z.1 z.2,ρ2):=op_ h k rfl rfl e
theorem Ug(h:fa ρ=.ok (x,ρ1))(k:dr ρ1 x=.ok T)(e:mX T=.ok b):Gz fa ρ=.ok (b,ρ1):=bk h (bk k (bk e rfl))
theorem Uh(h:c ρ=.ok (b,ρ1)):zQ c ρ=.ok (!b,ρ1):=bk h rfl
theorem ap_(h:fa ρ=.ok (.v T b,ρ1))(n:con ρ i=.ok as)(k:con ρ1 i=.ok ts)(l:ts.length<=100000):zZ i ql (fX fa fO) ρ=.ok (.v .non false,bM i (ts++[T]) ρ1):=bk n (bk (tE h rfl) (bk rfl (bk k (bk (by unfold ql; exact if_pos l) rfl))))
end
noncomputable def cS(fl:Fl)(g:SF)(ρ : En):Rs (Fl × En):=match fl with
 |.nx=>g ρ
 |fl=>.ok (fl,ρ)
noncomputable def cB{α : Type}(b:Bool)(f g:En->Rs α)(ρ : En):Rs α := if b=true then f ρ else g ρ
noncomputable def W(r:Rs (Fl × En))(Q:Fl->En->Prop):Prop:=∃fl ρ,r=.ok (fl,ρ)/\Q fl ρ
noncomputable def Cp(x:Rv)(ρ : En):Rs (Tr × Bool):=match x with
 |.v T fr=>.ok (T,fr)
 |.s i=>match ρ[i]? with
  |some (.ow ts)=>.ok (.lst ts,true)
  |_=>.bad
noncomputable def Cr:Fl->Rs (Tr × Bool)
 |.rt T fr=>.ok (T,fr)
 |.nx=>.ok (.non,false)
 |_=>.bad
section
variable {α : Type}{ρ ρ1 ρ2 ρ3:En}{f g:SF}{fa fb:EF}{aa:AF}{T U V:Tr}{b b':Bool}{r:Rs (Fl × En)}{i j n:Nat}{ps:List Rv}{as ts us:List Tr}{F:FP}{c d:BF}{x y:Rv}{q:Rs (Bool × En)}{s:Rs (Rv × En)}{fl:Fl}{z:Tr × Bool}{u v:En->Rs α}{w:Rs α}{S:Sl}{Q Q0:Fl->En->Prop}{gf:GF}{fi:IF}
theorem wSq(h:W (f ρ) λfl ρ1=>W (cS fl g ρ1) Q):W (z7 f g ρ) Q:=by
 obtain⟨fl,ρ1,e,yK,ρ2,e',q⟩:=h
 refine⟨yK,ρ2,bk e ?_,q⟩
 cases fl <;> exact e'
theorem wSn(k:W (g ρ) Q):W (cS .nx g ρ) Q:=k
theorem wSr(k:Q (.rt T b) ρ):W (cS (.rt T b) g ρ) Q:=⟨_,_,rfl,k⟩
theorem wSc(k:Q .ct ρ):W (cS .ct g ρ) Q:=⟨_,_,rfl,k⟩
theorem aaJ(k:Q .nx ρ):W (RB ρ) Q:=⟨_,_,rfl,k⟩
theorem xT(h:b=true)(k:u ρ = w):cB b u v ρ = w:=(if_pos h).trans k
theorem xF(h:b=false)(k:v ρ = w):cB b u v ρ = w:=(if_neg (by rw[h]; exact Bool.false_ne_true)).trans k
theorem wT(h:b=true)(k:W (f ρ) Q):W (cB b f g ρ) Q:=by unfold cB; rw[if_pos h]; exact k
theorem wF(h:b=false)(k:W (g ρ) Q):W (cB b f g ρ) Q:=by unfold cB; rw[if_neg (by rw[h]; exact Bool.false_ne_true)]; exact k
theorem wIf(h:c ρ=.ok (b,ρ1))(k:W (cB b f g ρ1) Q):W (Hz c f g ρ) Q:=k.elim λfl k=>k.elim λρ2 k=>⟨fl,ρ2,bk h k.1,k.2⟩
theorem xEI(h:c ρ=.ok (b,ρ1))(k:cB b fa fb ρ1=s):u6 c fa fb ρ = s:=bk h k
theorem xBA(h:c ρ=.ok (b,ρ1))(k:cB b d (λρ=>.ok (false,ρ)) ρ1=q):GC c d ρ = q:=bk h k
theorem xBO(h:c ρ=.ok (b,ρ1))(k:cB b (λρ=>.ok (true,ρ)) d ρ1=q):GD c d ρ = q:=bk h k
theorem xEA(h:iz fa ρ=.ok (b,ρ1))(k:cB b fb (λρ=>.ok (eB false,ρ)) ρ1=s):GK fa fb ρ = s:=bk h k
theorem xEO(h:iz fa ρ=.ok (b,ρ1))(k:cB b (λρ=>.ok (eB true,ρ)) fb ρ1=s):eOr fa fb ρ = s:=bk h k
theorem xOv(h:d ρ=.ok (b',ρ)):cB b (λρ=>.ok (true,ρ)) d ρ=.ok (b || b',ρ):=by cases b <;> first|exact h|rfl
theorem xAv(h:d ρ=.ok (b',ρ)):cB b d (λρ=>.ok (false,ρ)) ρ=.ok (b&&b',ρ):=by cases b <;> first|exact h|rfl
theorem xOV(h:fb ρ=.ok (.v (.bl b') false,ρ)):cB b (λρ=>.ok (eB true,ρ)) fb ρ=.ok (.v (.bl (b || b')) false,ρ):=by cases b <;> first|exact h|rfl
theorem xAV(h:fb ρ=.ok (.v (.bl b') false,ρ)):cB b fb (λρ=>.ok (eB false,ρ)) ρ=.ok (.v (.bl (b&&b')) false,ρ):=by cases b <;> first|exact h|rfl
theorem xEN(h:iz fa ρ=.ok (b,ρ1)):GP fa ρ=.ok (.v (.bl (!b)) false,ρ1):=bk h rfl
theorem xBN(h:c ρ=.ok (b,ρ1)):zQ c ρ=.ok (!b,ρ1):=bk h rfl
theorem xTe(h:fa ρ=.ok (x,ρ1))(k:dr ρ1 x=.ok T)(e:qR T=.ok b):iz fa ρ=.ok (b,ρ1):=bk h (bk k (bk e rfl))
theorem xTr(h:fa ρ=.ok (x,ρ1))(k:dr ρ1 x=.ok T)(e:mX T=.ok b):Gz fa ρ=.ok (b,ρ1):=bk h (bk k (bk e rfl))
theorem wAs(h:fa ρ=.ok (.v T b,ρ1))(e : ρ1.set i (.sh T) = ρ2)(k:Q .nx ρ2):W (vq fa (gN i) ρ) Q:=⟨_,_,e▸bk h rfl,k⟩
theorem wAg(h:fa ρ=.ok (.v T b,ρ1))(k:gf T ρ1=.ok ρ2)(q:Q .nx ρ2):W (vq fa gf ρ) Q:=⟨_,_,bk h (bk k rfl),q⟩
theorem xG2(e:T=.tup [U,V])(h : ρ.set i (.sh U) = ρ1)(k : ρ1.set j (.sh V) = ρ2):gT 2 (kE (gN i) (kE (gN j) vp)) T ρ=.ok ρ2:=by subst e h k; rfl
theorem xG3{k':Nat}{W:Tr}(e:T=.tup [U,V,W])(h : ρ.set i (.sh U) = ρ1)(k : ρ1.set j (.sh V) = ρ2)(l : ρ2.set k' (.sh W) = ρ3):gT 3 (kE (gN i) (kE (gN j) (kE (gN k') vp))) T ρ=.ok ρ3:=by subst e h k l; rfl
theorem xGN(e : ρ.set i (.sh T) = ρ1):gN i T ρ=.ok ρ1:=by subst e; rfl
theorem wOw(h:fa ρ=.ok (.v T true,ρ1))(l:T=.lst ts)(e : ρ1.set i (.ow ts) = ρ2)(k:Q .nx ρ2):W (RL i fa ρ) Q:=by subst l e; exact⟨_,_,bk h rfl,k⟩
noncomputable def Jp(i:Nat)(T:Tr)(b:Bool)(ρ : En):En:=match b,T with
 |true,.lst ts=>ρ.set i (.ow ts)
 |_,T=>ρ.set i (.sh T)
theorem oV1(l:T=.lst ts)(e : ρ.set i (.ow ts) = ρ1):Jp i T true ρ = ρ1:=by subst l; exact e
theorem oV2(e : ρ.set i (.sh T) = ρ1):Jp i T false ρ = ρ1:=e
theorem wON(h:fa ρ=.ok (.v T b,ρ1))(e:Jp i T b ρ1 = ρ2)(k:Q .nx ρ2):W (af0 i fa ρ) Q:=⟨_,_,bk h (by subst e; cases b <;> cases T <;> rfl),k⟩
theorem wEx(h:fa ρ=.ok (x,ρ1))(k:Q .nx ρ1):W (Hy fa ρ) Q:=⟨_,_,bk h rfl,k⟩
theorem wRt(h:fa ρ=.ok (x,ρ1))(k:Cp x ρ1=.ok (T,b))(q:Q (.rt T b) ρ1):W (RQ fa ρ) Q:=⟨_,_,bk h (by
 cases x with
 |v T fr=>cases k; rfl
 |s i =>
  show(match ρ1[i]? with|some (.ow ts)=>_|_=>_)=_
  unfold Cp at k
  dsimp only at k ⊢
  split at k <;> cases k
  rfl),q⟩
theorem wPa(h:aa ρ=.ok (ps,ρ1))(k:cls ps=.ok [T,U])(e : ρ1.set i (.sh T) = ρ2)(e' : ρ2.set j (.sh U) = ρ3)(q:Q .nx ρ3):W (RN i j aa ρ) Q:=by subst e e'; exact⟨_,_,bk h (bk k rfl),q⟩
theorem wY(h:fa ρ=.ok (x,ρ1))(k:aa ρ1=.ok (ps,ρ2)):fX fa aa ρ=.ok (x::ps,ρ2):=bk h (bk k rfl)
theorem xOp{G:G2}(h:fa ρ=.ok (x,ρ1))(k:fb ρ1=.ok (y,ρ2))(u:dr ρ2 x=.ok T)(v:dr ρ2 y=.ok U)(e:G T U=.ok (V,b)):iy G fa fb ρ=.ok (.v V b,ρ2):=bk h (bk k (bk u (bk v (bk e rfl))))
theorem xUn{G:G1}(h:fa ρ=.ok (x,ρ1))(u:dr ρ1 x=.ok T)(e:G T=.ok (V,b)):Gv G fa ρ=.ok (.v V b,ρ1):=bk h (bk u (bk e rfl))
theorem xCh{G G':G2}{fc:EF}{b1:Bool}(h:fa ρ=.ok (x,ρ1))(k:fb ρ1=.ok (y,ρ2))(u:dr ρ2 x=.ok T)(v:dr ρ2 y=.ok U)(e:G T U=.ok (.bl b,b1))(l:cB b (λρ=>(fc ρ).bind λs=>(dr s.2 y).bind λb=>(dr s.2 s.1).bind λc=>(G' b c).bind λz=>.ok (Rv.v z.1 z.2,s.2)) (λρ=>.ok (eB false,ρ)) ρ2=s):GQ G G' fa fb fc ρ = s:=bk h (bk k (bk u (bk v (bk e (bk rfl l)))))
theorem xCk{G':G2}{fc:EF}(h:fc ρ=.ok (x,ρ1))(u:dr ρ1 y=.ok T)(v:dr ρ1 x=.ok U)(e:G' T U=.ok (V,b)):((fc ρ).bind λs=>(dr s.2 y).bind λb=>(dr s.2 s.1).bind λc=>(G' b c).bind λz=>.ok (Rv.v z.1 z.2,s.2))=.ok (Rv.v V b,ρ1):=bk h (bk u (bk v (bk e rfl)))
theorem xC1{G:G1}(h:fa ρ=.ok (x,ρ1))(k:dr ρ1 x=.ok U)(e:G U=.ok (T,b)):nY (g1 G) (fX fa fO) ρ=.ok (.v T b,ρ1):=bk (bk h rfl) (bk (bk k rfl) (bk e rfl))
theorem xC2{G:G2}(h:aa ρ=.ok (ps,ρ1))(k:drs ρ1 ps=.ok [U,V])(e:G U V=.ok (T,b)):nY (g2 G) aa ρ=.ok (.v T b,ρ1):=bk h (bk k (bk e rfl))
theorem xCl(h:aa ρ=.ok (ps,ρ1))(k:drs ρ1 ps=.ok as)(e:F as=.ok (T,b))(n:(ps.any p8 && !gj (T,b))=false):qj F aa ρ=.ok (.v T b,ρ1):=bk h (bk k (bk e (if_neg λq=>by rw[q.1,q.2]at n; cases n)))
theorem xIs(h:fa ρ=.ok (x,ρ1))(k:dr ρ1 x=.ok T):Rq ty fa ρ=.ok (.v (.bl (rG T ty)) false,ρ1):=bk h (bk k rfl)
theorem xLs(h:aa ρ=.ok (ps,ρ1))(k:cls ps=.ok ts)(l:ts.length<=1000):Rb aa ρ=.ok (.v (.lst ts) true,ρ1):=bk h (bk k (if_pos l))
theorem xTu(h:aa ρ=.ok (ps,ρ1))(k:cls ps=.ok ts)(l:ts.length<=1000):G8 aa ρ=.ok (.v (.tup ts) false,ρ1):=bk h (bk k (if_pos l))
theorem xAp(h:fa ρ=.ok (.v T b,ρ1))(n:con ρ i=.ok as)(k : ρ1[i]?=some (.ow ts))(l:ts.length<=100000)(e : ρ1.set i (.ow (ts++[T])) = ρ2):zZ i ql (fX fa fO) ρ=.ok (.v .non false,ρ2):=by
 have c:con ρ1 i=.ok ts:=by unfold con; rw[k]
 have u:bM i (ts++[T]) ρ1 = ρ2:=by unfold bM; rw[k]; exact e
 exact u▸ap_ h n c l
theorem wNo(h:W (f ρ) Q):W (vH f ρ) Q:=h.elim λ_ h=>h.elim λ_ h=>⟨_,_,nx_ h.1,h.2⟩
theorem wFo(h:fi ρ=.ok (us,ρ1))(k:W (jO gf f us ρ1) Q):W (RX fi gf f ρ) Q:=k.elim λ_ k=>k.elim λ_ k=>⟨_,_,bk h k.1,k.2⟩
theorem wLp{β : Type}{t : β -> Tr}{xs:List β}(P:Nat->En->Prop)(h0:P 0 ρ)(hs:∀k x ρ,xs[k]?=some x->P k ρ -> ∃ρ1,gf (t x) ρ=.ok ρ1/\W (f ρ1) λfl ρ2=>match fl with
  |.nx=>P (k+1) ρ2
  |.ct=>P (k+1) ρ2
  |.bk=>Q .nx ρ2
  |.rt T b=>Q (.rt T b) ρ2) (hk:∀ρ,P xs.length ρ -> Q .nx ρ):W (jO gf f (xs.map t) ρ) Q:=by
 have go:∀(ys:List β) (k:Nat) (ρ : En),k<=xs.length->xs.drop k=ys->P k ρ -> W (jO gf f (ys.map t) ρ) Q:=λys=>by
  induction ys with
  |nil =>
   intro k ρ l e p
   obtain rfl:k=xs.length:=Nat.le_antisymm l (List.drop_eq_nil_iff.mp e)
   exact⟨_,_,rfl,hk _ p⟩
  |cons x ys ih =>
   intro k ρ l e p
   have g:xs[k]?=some x:=by rw[<-List.head?_drop,e]; rfl
   have d:xs.drop (k+1)=ys:=by rw[<-List.tail_drop,e]; rfl
   have l':k+1<=xs.length:=(List.getElem?_eq_some_iff.mp g).1
   obtain⟨ρ1,e1,fl,ρ2,e2,q⟩:=hs k x ρ g p
   have st:jO gf f ((x::ys).map t) ρ = _:=bk e1 (bk e2 rfl)
   cases fl with
   |nx=>obtain⟨a,b,h,q⟩:=ih (k+1) ρ2 l' d q; exact⟨a,b,st.trans h,q⟩
   |ct=>obtain⟨a,b,h,q⟩:=ih (k+1) ρ2 l' d q; exact⟨a,b,st.trans h,q⟩
   |bk=>exact⟨_,_,st,q⟩
   |rt T b=>exact⟨_,_,st,q⟩
 exact go xs 0 ρ (Nat.zero_le _) rfl h0
noncomputable def pt(ρ : En):List (Nat × Sl)->En
 | []=>ρ
 |(i,s)::r=>pt (ρ.set i s) r
theorem wG{t:Tr}(h:gf t ρ=.ok ρ1)(k:W (f ρ1) Q):∃ρ1,gf t ρ=.ok ρ1/\W (f ρ1) Q:=⟨_,h,k⟩
theorem jy{σ β : Type}{t : β -> Tr}{xs:List β}(js:List Nat)(A : σ -> List (Nat × Sl))(I:Nat -> σ -> Prop)(s0 : σ)(i0:I 0 s0)(h0 : ρ = pt (pt ρ (js.map λj=>(j,ρ.getD j .un))) (A s0))(hs:∀k x (v:Nat->Sl) s,xs[k]?=some x->I k s->∃ρ1,gf (t x) (pt (pt ρ (js.map λj=>(j,v j))) (A s))=.ok ρ1/\W (f ρ1) λfl ρ2=>match fl with
  |.nx=>∃s,I (k+1) s/\∃v:Nat->Sl,ρ2=pt (pt ρ (js.map λj=>(j,v j))) (A s)
  |.ct=>∃s,I (k+1) s/\∃v:Nat->Sl,ρ2=pt (pt ρ (js.map λj=>(j,v j))) (A s)
  |.bk=>Q .nx ρ2
  |.rt T b=>Q (.rt T b) ρ2) (hk:∀(v:Nat->Sl) s,I xs.length s->Q .nx (pt (pt ρ (js.map λj=>(j,v j))) (A s))):W (jO gf f (xs.map t) ρ) Q :=
 wLp (λk ρ'=>∃s,I k s/\∃v:Nat->Sl,ρ'=pt (pt ρ (js.map λj=>(j,v j))) (A s)) ⟨s0,i0,λj=>ρ.getD j .un,h0⟩ (λk x _ g h=>h.elim λs h=>h.2.elim λv q=>by subst q; exact hs k x v s g h.1) λ_ h=>h.elim λs h=>h.2.elim λv q=>by subst q; exact hk v s h.1
theorem vZ{σ : Type}{n:Nat}{t:Nat->Tr}(js:List Nat)(A : σ -> List (Nat × Sl))(I:Nat -> σ -> Prop)(s0 : σ)(i0:I 0 s0)(h0 : ρ = pt (pt ρ (js.map λj=>(j,ρ.getD j .un))) (A s0))(hs:∀k (v:Nat->Sl) s,k<n->I k s->∃ρ1,gf (t k) (pt (pt ρ (js.map λj=>(j,v j))) (A s))=.ok ρ1/\W (f ρ1) λfl ρ2=>match fl with
  |.nx=>∃s,I (k+1) s/\∃v:Nat->Sl,ρ2=pt (pt ρ (js.map λj=>(j,v j))) (A s)
  |.ct=>∃s,I (k+1) s/\∃v:Nat->Sl,ρ2=pt (pt ρ (js.map λj=>(j,v j))) (A s)
  |.bk=>Q .nx ρ2
  |.rt T b=>Q (.rt T b) ρ2) (hk:∀(v:Nat->Sl) s,I n s->Q .nx (pt (pt ρ (js.map λj=>(j,v j))) (A s))):W (jO gf f ((List.range n).map t) ρ) Q :=
 jy js A I s0 i0 h0 (λk x v s g=>by
  obtain⟨l,rfl⟩:=List.getElem?_eq_some_iff.mp g
  rw[List.getElem_range]
  exact hs k v s (by simpa using l)) (by rw[List.length_range]; exact hk)
theorem Ui{σ : Type}{fu:En->Nat}(js:List Nat)(A : σ -> List (Nat × Sl))(I : σ -> Prop)(μ : σ -> Nat)(s0 : σ)(i0:I s0)(h0 : ρ = pt (pt ρ (js.map λj=>(j,ρ.getD j .un))) (A s0))(hm : μ s0<fu ρ)(hs:∀(v:Nat->Sl) s,I s->∃b ρ1,c (pt (pt ρ (js.map λj=>(j,v j))) (A s))=.ok (b,ρ1)/\if b=true then W (f ρ1) (λfl ρ2=>match fl with
  |.nx=>∃s',I s'/\μ s' < μ s/\∃v:Nat->Sl,ρ2=pt (pt ρ (js.map λj=>(j,v j))) (A s')
  |.rt T b=>Q (.rt T b) ρ2
  |_=>False)else Q .nx ρ1):W (RW fu c f ρ) Q:=by
 have go:∀(n:Nat) (v:Nat->Sl) (s : σ),I s -> μ s<n->W (vI c f n (pt (pt ρ (js.map λj=>(j,v j))) (A s))) Q:=λn=>by
  induction n with
  |zero=>exact λ_ _ _ h=>absurd h (Nat.not_lt_zero _)
  |succ n ih =>
   intro v s i h
   obtain⟨b,ρ1,e,q⟩:=hs v s i
   cases b with
   |false=>exact⟨_,_,bk e (if_neg Bool.false_ne_true),by simpa using q⟩
   |true =>
    rw[if_pos rfl]at q
    obtain⟨fl,ρ2,e2,q⟩:=q
    cases fl with
    |nx =>
     obtain⟨s',i',l,v',rfl⟩:=q
     obtain⟨a,b,h,q⟩:=ih v' s' i' (by omega)
     exact⟨a,b,bk e ((if_pos rfl).trans (bk e2 h)),q⟩
    |rt T b=>exact⟨_,_,bk e ((if_pos rfl).trans (bk e2 rfl)),q⟩
    |bk=>exact q.elim
    |ct=>exact q.elim
 have z:=go (fu ρ) (λj=>ρ.getD j .un) s0 i0 hm
 rw[<-h0]at z
 exact z
theorem pT{P R:Prop}(h:b=true)(k:P):if b=true then P else R:=by rw[if_pos h]; exact k
theorem pF{P R:Prop}(h:b=false)(k:R):if b=true then P else R:=by rw[if_neg (by rw[h]; exact Bool.false_ne_true)]; exact k
theorem v5(h:c ρ=.ok (b,ρ1)){P:Bool->En->Prop}(k:P b ρ1):∃b ρ1,c ρ=.ok (b,ρ1)/\P b ρ1:=⟨_,_,h,k⟩
theorem cn2{l l':En}{S':Sl}(h:S=S')(k:l=l'):S::l=S'::l':=h▸k▸rfl
theorem exV{R:(Nat->Sl)->En}(e : ρ = R λj=>ρ.getD j .un):∃v,ρ = R v:=⟨_,e⟩
theorem xFS(h:fa ρ=.ok (x,ρ1))(u:Cu x=.ok (us,b)):Ac fa ρ=.ok (us,ρ1):=bk h (bk u rfl)
theorem wFr(e:cO i ρ = ρ1)(k:W (f ρ1) Q):W (RT i f ρ) Q:=by subst e; exact k
theorem xFz(h : ρ[i]?=some (.ow ts))(e : ρ.set i (.sh (.lst ts)) = ρ1):cO i ρ = ρ1:=by unfold cO; rw[h]; exact e
theorem wDw(h : ρ[i]?=some (.dp ts))(e : ρ.set i (.ow ts) = ρ1)(k:W (f ρ1) Q):W (Sv i f ρ) Q:=by subst e; unfold Sv vU; rw[h]; exact k
theorem xVw{c:BF}(e:vw ρ = ρ2)(h:c ρ2=.ok (b,ρ1)):Jd c ρ=.ok (b,ρ):=by subst e; unfold Jd; rw[h]; rfl
theorem xSl{l h:OF}{lo hi:Option Int}(e:fa ρ=.ok (x,ρ1))(k:l ρ1=.ok (lo,ρ2))(k':h ρ2=.ok (hi,ρ3))(u:dr ρ3 x=.ok T)(q:oW lo hi T=.ok (V,b)):Rn fa l h ρ=.ok (.v V b,ρ3):=bk e (bk k (bk k' (bk u (bk q rfl))))
theorem xOS{m:Int}(h:fa ρ=.ok (x,ρ1))(k:dr ρ1 x=.ok (.int m)):Ri fa ρ=.ok (some m,ρ1):=bk h (bk k rfl)
theorem Cw(e:gO n as = ρ)(h:W (f ρ) λfl _=>Cr fl=.ok z):aM n f as=.ok z:=by
 subst e
 obtain⟨fl,ρ1,h,k⟩:=h
 refine bk h ?_
 cases fl <;> first|exact k|(cases k; done)
theorem wFe{R:Tr × Bool->Prop}(e:gO n as = ρ)(h:W (f ρ) λfl _=>∃z,Cr fl=.ok z/\R z):∃z,aM n f as=.ok z/\R z:=by
 obtain⟨fl,ρ1,h,z,k,q⟩:=h
 exact⟨z,Cw e ⟨fl,ρ1,h,k⟩,q⟩
theorem xRg{n:Nat}(h:fa ρ=.ok (x,ρ1))(d:dr ρ1 x=.ok (.int (n:Int)))(hn:n<=1000):HD (fX fa fO) ρ=.ok ((List.range n).map λi:Nat=>Tr.int i,ρ1):=by
 have u:∀(m:Nat) (lo:Nat),L2.upTo (lo:Int) m=(List.range' lo m).map λi:Nat=>Tr.int i:=λm=>by
  induction m with
  |zero=>exact λ_=>rfl
  |succ m ih=>exact λlo=>congrArg (Tr.int lo :: ·) (ih (lo+1))
 have u:=u n 0
 rw[<-List.range_eq_range']at u
 exact bk (wY h rfl) (bk (show drs ρ1 [x]=.ok [.int (n:Int)]from bk d rfl) ((if_pos (by unfold okR; simp; omega)).trans (by rw[Int.toNat_natCast]; exact congrArg (λl=>Rs.ok (l,ρ1)) u)))
theorem Uj{α : Type}{r h : α -> Tr}{fr : α -> Bool}{τ : En}{fe:EF}:∀(xs:List α) (s:Sl),(∀x∈xs,fe (.sh (r x)::τ)=.ok (.v (h x) (fr x),.sh (r x)::τ))->∃s',fY (gN 0) iC fe (xs.map r) (s::τ)=.ok (xs.map h,s'::τ)
 | [],s,_=>⟨s,rfl⟩
 |x::xs,s,q=>by
  obtain⟨s',e'⟩:=Uj xs (.sh (r x)) λv hv=>q v (List.mem_cons_of_mem _ hv)
  exact⟨s',bk (a:=.sh (r x)::τ) rfl (bk rfl ((if_pos rfl).trans (bk (q x (List.mem_cons_self ..)) (bk rfl (bk e' rfl)))))⟩
theorem xMp{β : Type}{t h : β -> Tr}{fr : β -> Bool}{xs:List β}{rest:List (Option Nat)}{fe:EF}{τ : En}(hi:fi ρ=.ok (us,ρ))(hu:us=xs.map t)(hτ : dF rest ρ = τ)(hs:∀s,dU (none::rest) (s::τ) ρ = true)(hd:∀s,bf (none::rest) (s::τ) ρ = ρ)
  (hf:∀x∈xs,fe (.sh (t x)::τ)=.ok (.v (h x) (fr x),.sh (t x)::τ)) (hl:xs.length<=100000):mQ (none::rest) fi (gN 0) iC fe ρ=.ok (.v (.lst (xs.map h)) true,ρ):=by
 subst hu hτ
 obtain⟨s,e⟩:=Uj xs .un hf
 refine bk hi ((if_pos (by rw[List.length_map]; exact hl)).trans ?_)
 show(c7 (fY _ _ _ _ (Sl.un::dF rest ρ))).bind _=_
 rw[e]
 refine bk rfl ((if_pos (hs s)).trans ?_)
 rw[hd s]
theorem Jq{α : Type}{r : α -> Tr}{p : α -> Bool}{τ : En}:∀(xs:List α) (s:Sl),(∀x∈xs,c (.sh (r x)::τ)=.ok (p x,.sh (r x)::τ))->∃s',fY (gN 0) c (dO 0) (xs.map r) (s::τ)=.ok ((xs.filter p).map r,s'::τ)
 | [],s,_=>⟨s,rfl⟩
 |x::xs,s,q=>by
  obtain⟨s',e'⟩:=Jq xs (.sh (r x)) λv hv=>q v (List.mem_cons_of_mem _ hv)
  refine⟨s',bk (a:=.sh (r x)::τ) rfl (bk (q x (List.mem_cons_self ..)) ?_)⟩
  rw[List.filter_cons]
  cases p x
  .exact(if_neg Bool.false_ne_true).trans e'
  .exact(if_pos rfl).trans (bk rfl (bk rfl (bk e' rfl)))
theorem xFl{β : Type}{t : β -> Tr}{p : β -> Bool}{xs:List β}{rest:List (Option Nat)}{τ : En}(hi:fi ρ=.ok (us,ρ))(hu:us=xs.map t)(hτ : dF rest ρ = τ)(hs:∀s,dU (none::rest) (s::τ) ρ = true)(hd:∀s,bf (none::rest) (s::τ) ρ = ρ)
  (hf:∀x∈xs,c (.sh (t x)::τ)=.ok (p x,.sh (t x)::τ)) (hl:xs.length<=100000):mQ (none::rest) fi (gN 0) c (dO 0) ρ=.ok (.v (.lst ((xs.filter p).map t)) true,ρ):=by
 subst hu hτ
 obtain⟨s,e⟩:=Jq xs .un hf
 refine bk hi ((if_pos (by rw[List.length_map]; exact hl)).trans ?_)
 show(c7 (fY _ _ _ _ (Sl.un::dF rest ρ))).bind _=_
 rw[e]
 refine bk rfl ((if_pos (hs s)).trans ?_)
 rw[hd s]
theorem xFO{β : Type}{t : β -> Tr}{p : β -> Bool}{xs:List β}{rest:List (Option Nat)}{τ : En}(hi:con ρ n=.ok us)(hu:us=xs.map t)(hτ : dF rest ρ = τ)(hs:∀s,dU (none::rest) (s::τ) ρ = true)(hd:∀s,bf (none::rest) (s::τ) ρ = ρ)
  (hf:∀x∈xs,c (.sh (t x)::τ)=.ok (p x,.sh (t x)::τ)) (hl:xs.length<=100000):afz (none::rest) n (gN 0) c (dO 0) ρ=.ok (.v (.lst ((xs.filter p).map t)) true,ρ):=by
 subst hu hτ
 obtain⟨s,e⟩:=Jq xs .un hf
 refine bk hi ((if_pos (by rw[List.length_map]; exact hl)).trans ?_)
 show(c7 (fY _ _ _ _ (Sl.un::dF rest ρ))).bind _=_
 rw[e]
 refine bk rfl ((if_pos (hs s)).trans ?_)
 rw[hd s]
theorem xIn{m:Nat}(h:aa ρ=.ok (ps,ρ1))(k:cls ps=.ok [.int m,T])(n:con ρ i=.ok as)(q : ρ1[i]?=some (.ow ts))(l:m<=ts.length)(l':ts.length<=100000)(e : ρ1.set i (.ow (ts.take m++T::ts.drop m)) = ρ2):zZ i vW aa ρ=.ok (.v .non false,ρ2):=by
 have c:con ρ1 i=.ok ts:=by unfold con; rw[q]
 have u:bM i (ts.take m++T::ts.drop m) ρ1 = ρ2:=by unfold bM; rw[q]; exact e
 exact u▸bk n (bk h (bk k (bk c (bk (a:=(ts.take m++T::ts.drop m,Tr.non)) (if_pos ⟨Int.natCast_nonneg m,l,l'⟩) rfl))))
theorem xLR{m:Nat}(h:fa ρ=.ok (.v T b,ρ1))(k:T=.int (m:Int))(l:m<=1000):eLR (fX fa fO) ρ=.ok (.v (.lst ((List.range m).map λi:Nat=>Tr.int i)) true,ρ1):=by
 subst k
 exact bk (wY h rfl) ((if_pos ⟨Int.natCast_nonneg m,by omega⟩).trans (by rw[Int.toNat_natCast]))
theorem Uk{α : Type}{a b h : α -> Tr}{fr : α -> Bool}{τ : En}{fe:EF}:∀(xs:List α) (s s':Sl),(∀x∈xs,fe (.sh (a x) :: .sh (b x)::τ)=.ok (.v (h x) (fr x),.sh (a x) :: .sh (b x)::τ))->∃t t',fY (gT 2 (kE (gN 0) (kE (gN 1) vp))) iC fe (xs.map λx=>.tup [a x,b x]) (s::s'::τ)=.ok (xs.map h,t::t'::τ)
 | [],s,s',_=>⟨s,s',rfl⟩
 |x::xs,s,s',q=>by
  obtain⟨t,t',e⟩:=Uk xs (.sh (a x)) (.sh (b x)) λv hv=>q v (List.mem_cons_of_mem _ hv)
  exact⟨t,t',bk (a:=.sh (a x) :: .sh (b x)::τ) rfl (bk rfl ((if_pos rfl).trans (bk (q x (List.mem_cons_self ..)) (bk rfl (bk e rfl)))))⟩
theorem xM2{β : Type}{a b h : β -> Tr}{fr : β -> Bool}{xs:List β}{rest:List (Option Nat)}{fe:EF}{τ : En}(hi:fi ρ=.ok (us,ρ))(hu:us=xs.map λx=>.tup [a x,b x])(hτ : dF rest ρ = τ)(hs:∀s s',dU (none::none::rest) (s::s'::τ) ρ = true)(hd:∀s s',bf (none::none::rest) (s::s'::τ) ρ = ρ)
  (hf:∀x∈xs,fe (.sh (a x) :: .sh (b x)::τ)=.ok (.v (h x) (fr x),.sh (a x) :: .sh (b x)::τ)) (hl:xs.length<=100000):mQ (none::none::rest) fi (gT 2 (kE (gN 0) (kE (gN 1) vp))) iC fe ρ=.ok (.v (.lst (xs.map h)) true,ρ):=by
 subst hu hτ
 obtain⟨s,s',e⟩:=Uk xs .un .un hf
 refine bk hi ((if_pos (by rw[List.length_map]; exact hl)).trans ?_)
 show(c7 (fY _ _ _ _ (Sl.un::Sl.un::dF rest ρ))).bind _=_
 rw[e]
 refine bk rfl ((if_pos (hs s s')).trans ?_)
 rw[hd s s']
theorem xZi{aa:AF}{T U:Tr}{us vs:List Tr}{b b':Bool}{ρ ρ1:En}(h:aa ρ=.ok ([.v T b,.v U b'],ρ1))(e:T=.lst us)(e':U=.lst vs):R4 aa ρ=.ok (sy us vs,ρ1):=by subst e e'; exact bk h rfl
theorem aaE{a b:Int}:j6 (.int a) (.int b)=.ok (.int (a+b),false):=rfl
theorem aaG(h:ts.length+us.length<=100000):j6 (.lst ts) (.lst us)=.ok (.lst (ts++us),true):=if_pos h
theorem aaF{a b:Int}:uO (.int a) (.int b)=.ok (.int (a-b),false):=rfl
theorem xLt{a b:Int}:uP (.int a) (.int b)=.ok (.bl (decide (a<b)),false):=rfl
theorem xGt{a b:Int}:FQ (.int a) (.int b)=.ok (.bl (decide (b<a)),false):=rfl
theorem xLe{a b:Int}:FT (.int a) (.int b)=.ok (.bl (decide (a<=b)),false):=rfl
theorem xGe{a b:Int}:FW (.int a) (.int b)=.ok (.bl (decide (b<=a)),false):=rfl
theorem aaH{a b:Int}(h:dg a b=true):uN (.int a) (.int b)=.ok (.int (a*b),false):=if_pos h
theorem cMr{a b:Int}(h : -18446744073709551616<b/\b<18446744073709551616):dg a b=true:=by
 have h:tiny b=true:=by unfold tiny; rw[decide_eq_true h.1,decide_eq_true h.2]; rfl
 unfold dg
 rw[h,Bool.or_true]
theorem cMl{a b:Int}(h : -18446744073709551616<a/\a<18446744073709551616):dg a b=true:=by
 have h:tiny a=true:=by unfold tiny; rw[decide_eq_true h.1,decide_eq_true h.2]; rfl
 unfold dg
 rw[h,Bool.or_true,Bool.true_or]
theorem cDl{a b:Int}(h:0<b)(k:b<2 ^ 64):iV a b=true:=by
 unfold iV
 rw[decide_eq_true (show b≠0 by omega),Bool.true_and,decide_eq_true_eq]
 have:=(Nat.log2_lt (n:=b.natAbs) (k:=64) (by omega)).mpr (by omega)
 omega
theorem aaI{a b:Int}(h:iV a b=true):FJ (.int a) (.int b)=.ok (.int (a.fdiv b),false):=if_pos h
theorem Ly{a b:Int}(h:b≠0):yS (.int a) (.int b)=.ok (.int (a.fmod b),false):=if_pos (decide_eq_true h)
theorem xEq{a b:Int}:jq (.int a) (.int b)=.ok (.bl (decide (a=b)),false):=by
 have d:∀i,dep (.int i)=0:=λi=>by unfold dep; rfl
 refine(if_pos ⟨by rw[d]; omega,by rw[d]; omega⟩).trans ?_
 rfl
theorem Ls{a b:Int}:j5 (.int a) (.int b)=.ok (.bl (!decide (a=b)),false):=by
 have d:∀i,dep (.int i)=0:=λi=>by unfold dep; rfl
 refine(if_pos ⟨by rw[d]; omega,by rw[d]; omega⟩).trans ?_
 rfl
theorem xAb{a:Int}(h:0<=a):uQ (.int a)=.ok (.int a,false):=by
 show Rs.ok (Tr.int (if a<0 then -a else a),false)=_
 rw[if_neg (by omega)]
theorem jD{a b:Str}(h:(a == b)=false):jq (.str a) (.str b)=.ok (.bl false,false):=by
 have d:∀i,dep (.str i)=0:=λi=>by unfold dep; rfl
 refine(if_pos ⟨by rw[d]; omega,by rw[d]; omega⟩).trans ?_
 show Rs.ok (Tr.bl (a == b),false)=_
 rw[h]
theorem Cv{a:Str}:jq (.str a) (.str a)=.ok (.bl true,false):=by
 have d:∀i,dep (.str i)=0:=λi=>by unfold dep; rfl
 refine(if_pos ⟨by rw[d]; omega,by rw[d]; omega⟩).trans ?_
 show Rs.ok (Tr.bl (a == a),false)=_
 rw[beq_self_eq_true]
theorem xSN{a b:Str}(h:(a == b)=false):j5 (.str a) (.str b)=.ok (.bl true,false):=by
 have d:∀i,dep (.str i)=0:=λi=>by unfold dep; rfl
 refine(if_pos ⟨by rw[d]; omega,by rw[d]; omega⟩).trans ?_
 show Rs.ok (Tr.bl (!(a == b)),false)=_
 rw[h]
 rfl
theorem xSn{a:Str}:j5 (.str a) (.str a)=.ok (.bl false,false):=by
 have d:∀i,dep (.str i)=0:=λi=>by unfold dep; rfl
 refine(if_pos ⟨by rw[d]; omega,by rw[d]; omega⟩).trans ?_
 show Rs.ok (Tr.bl (!(a == a)),false)=_
 rw[beq_self_eq_true]
 rfl
theorem xLL:fC (.lst ts)=.ok (.int ts.length,false):=rfl
theorem Lw{β : Type}{h : β -> Tr}{l:List β}:fC (.lst (l.map h))=.ok (.int l.length,false):=by rw[<-List.length_map (as:=l) h]; rfl
theorem xLT:fC (.tup ts)=.ok (.int ts.length,false):=rfl
theorem xNb(h:b=false):(!b)=true:=by rw[h]; rfl
theorem xNB(h:b=true):(!b)=false:=by rw[h]; rfl
section
variable {a0 a1 a2 a3 a4 a5 a6 a7 a8 a9 a10 a11 a12 a13 a14:Sl}{l:En}
theorem st0:(a0::l).set 0 S=S::l:=rfl
theorem st1:(a0::a1::l).set 1 S=a0::S::l:=rfl
theorem st2:(a0::a1::a2::l).set 2 S=a0::a1::S::l:=rfl
theorem st3:(a0::a1::a2::a3::l).set 3 S=a0::a1::a2::S::l:=rfl
theorem qT:(a0::a1::a2::a3::a4::l).set 4 S=a0::a1::a2::a3::S::l:=rfl
theorem mY:(a0::a1::a2::a3::a4::a5::l).set 5 S=a0::a1::a2::a3::a4::S::l:=rfl
theorem st6:(a0::a1::a2::a3::a4::a5::a6::l).set 6 S=a0::a1::a2::a3::a4::a5::S::l:=rfl
theorem oX:(a0::a1::a2::a3::a4::a5::a6::a7::l).set 7 S=a0::a1::a2::a3::a4::a5::a6::S::l:=rfl
theorem st8{m:Nat}{l':En}(h:l.set m S=l'):(a0::a1::a2::a3::a4::a5::a6::a7::l).set (m+8) S=a0::a1::a2::a3::a4::a5::a6::a7::l':=h▸rfl
end
end
noncomputable def WD(r:Rs Tr)(Q:Tr->Prop):Prop:=∃T,r=.ok T/\Q T
noncomputable def cD(fl:Fl)(g:DF)(ρ : En):Rs Tr:=match fl with
 |.nx=>g ρ
 |.rt T false=>if bh T=true then .ok T else .bad
 |_=>.bad
section
variable {ρ ρ1 ρ2:En}{fa fe:EF}{aa:AF}{fi:IF}{f:WF}{ga:WA}{s:SF}{g:DF}{T:Tr}{us ts as Ts:List Tr}{ps:List Rv}{b:Bool}{i m n:Nat}{Q:Fl->En->Prop}{P:Tr->Prop}{F:FP}{z:Tr × Bool}
theorem Ul{β : Type}{t : β -> Tr}{h : β -> List Tr}{xs:List β}(hf:∀x∈xs,fe [.sh (t x)]=.ok (.v (.lst (h x)) true,[.sh (t x)]))(hn:∀x∈xs,bT (h x)=true):∃s',lq (gN 0) iC fe (xs.map t) [.un]=.ok (xs.map λx=>.lst (h x),[s']):=by
 have go:∀(ys:List β) (s:Sl),(∀x∈ys,x∈xs)->∃s',lq (gN 0) iC fe (ys.map t) [s]=.ok (ys.map λx=>.lst (h x),[s']):=λys=>by
  induction ys with
  |nil=>exact λs _=>⟨s,rfl⟩
  |cons y ys ih =>
   intro s m
   obtain⟨s',e'⟩:=ih (.sh (t y)) λx hx=>m x (List.mem_cons_of_mem _ hx)
   exact⟨s',bk (a:=[.sh (t y)]) rfl (bk rfl ((if_pos rfl).trans (bk (hf y (m y (List.mem_cons_self ..))) (bk (show sH (.v (.lst (h y)) true)=.ok (.lst (h y))from if_pos (hn y (m y (List.mem_cons_self ..)))) (bk e' rfl)))))⟩
 exact go xs .un λ_ h=>h
theorem CK(h:fa ρ=.ok (.v T b,ρ1))(n:gj (T,b)=true):T6 fa ρ=.ok (T,ρ1):=bk h (if_pos n)
theorem Dd(h : ρ[i]?=some (.dp ts))(e : ρ.set i .un = ρ1):lF i ρ=.ok (.lst ts,ρ1):=by subst e; unfold lF; rw[h]
theorem Dg(h : ρ[i]?=some (.ow ts))(n:bT ts=true)(e : ρ.set i .un = ρ1):lF i ρ=.ok (.lst ts,ρ1):=by subst e; unfold lF; rw[h]; exact if_pos n
theorem CN(h:f ρ=.ok (T,ρ1))(k:ga ρ1=.ok (Ts,ρ2)):yCn f ga ρ=.ok (T::Ts,ρ2):=bk h (bk k rfl)
theorem CP(h:ga ρ=.ok (Ts,ρ1))(l:Ts.length<=1000):yTu ga ρ=.ok (.tup Ts,ρ1):=bk h (if_pos l)
theorem CQ(h:ga ρ=.ok (Ts,ρ1))(l:Ts.length<=1000):yLs ga ρ=.ok (.lst Ts,ρ1):=bk h (if_pos l)
theorem xCD(h:aa ρ=.ok (ps,ρ1))(k:drs ρ1 ps=.ok as)(e:F as=.ok (T,b)):tB F aa ρ=.ok (T,ρ1):=bk h (bk k (bk e rfl))
theorem CT(e:vw ρ = ρ2)(h:f ρ2=.ok (T,ρ1)):Jj f ρ=.ok (T,ρ):=by subst e; unfold Jj; rw[h]; rfl
theorem CV{β : Type}{t : β -> Tr}{h : β -> List Tr}{xs:List β}(hi:fi ρ=.ok (us,ρ))(hu:us=xs.map t)(hf:∀x∈xs,fe [.sh (t x)]=.ok (.v (.lst (h x)) true,[.sh (t x)]))(hn:∀x∈xs,bT (h x)=true)(hl:xs.length<=100000):Jl [none] fi (gN 0) fe ρ=.ok (.lst (xs.map λx=>.lst (h x)),ρ):=by
 subst hu
 obtain⟨s',e'⟩:=Ul hf hn
 exact bk hi ((if_pos (by rw[List.length_map]; exact hl)).trans (bk (show c7 (lq _ _ _ _ [.un])=_ by rw[e']; rfl) (if_pos rfl)))
theorem CW(h:f ρ=.ok (T,ρ1))(e:m5 i T ρ1=.ok ρ2)(k:Q .nx ρ2):W (af8 i f ρ) Q:=⟨_,_,bk h (bk e rfl),k⟩
theorem Dh(l:T=.lst ts)(e : ρ.set i (.dp ts) = ρ1):m5 i T ρ=.ok ρ1:=by subst l e; rfl
theorem Di(l:pJ T=false)(n:bh T=true)(e : ρ.set i (.sh T) = ρ1):m5 i T ρ=.ok ρ1:=by
 subst e
 unfold m5
 cases T <;> first|(cases l; done)|(dsimp only; rw[if_pos n])
theorem CZ(c:cU ρ i=.ok us)(h:ga ρ=.ok ([T],ρ1))(k : ρ1[i]?=some (.dp ts))(l:ts.length<=100000)(e : ρ1.set i (.dp (ts++[T])) = ρ2)(q:Q .nx ρ2):W (af9 i ga ρ) Q:=by
 subst e
 exact⟨_,_,bk c (bk h (bk (a:=ts) (by unfold cU; rw[k]) (if_pos l))),q⟩
theorem Dc(c : ρ[i]?=some (.dp ts))(l:ts[m]?=some (.lst us))(n:bT us=true)(e : ρ.set i (.dp (ts.set m (.lst []))) = ρ1)(k:Q .nx ρ1):W (aga i m ρ) Q:=by
 subst e
 refine⟨_,_,bk (a:=ts) (by unfold cU; rw[c]) ?_,k⟩
 rw[l]
 exact if_pos n
theorem Cy(h:W (s ρ) λfl ρ1=>WD (cD fl g ρ1) P):WD (T9 s g ρ) P:=by
 obtain⟨fl,ρ1,e,T,e',q⟩:=h
 exact⟨T,bk e e',q⟩
theorem Cz(k:WD (g ρ) P):WD (cD .nx g ρ) P:=k
theorem CG(n:bh T=true)(k:P T):WD (cD (.rt T false) g ρ) P:=⟨_,if_pos n,k⟩
theorem CJ(h:f ρ=.ok (T,ρ1))(k:P T):WD (T8 f ρ) P:=⟨_,bk h rfl,k⟩
theorem dFn(e:gO n as = ρ)(h:WD (g ρ) λT=>Rs.ok (T,pJ T)=.ok z):oH n g as=.ok z:=by
 subst e
 obtain⟨T,h,k⟩:=h
 exact bk h k
theorem dFe{R:Tr × Bool->Prop}(e:gO n as = ρ)(h:WD (g ρ) λT=>R (T,pJ T)):∃z,oH n g as=.ok z/\R z:=by
 subst e
 obtain⟨T,h,k⟩:=h
 exact⟨_,bk h rfl,k⟩
end
open PySem.Spec PyProof.Rows
noncomputable def Um(e:Stmt)(k:Expr->Operator->Expr->Bool):Bool:=if h:e.ctorIdx=7 then Stmt.AugAssign.elim e h λx y z _=>k x y z else false
theorem agg(h:Um e k=true):∃x0 x1 x2 p,e=.AugAssign x0 x1 x2 p/\k x0 x1 x2=true:=dI h λy=>Stmt.AugAssign.elim e y λ_ _ _ _ _ h=>⟨_,_,_,_,rfl,h⟩
noncomputable def Uo(i:Nat)(fe:EF):SF:=λρ=>match ρ[i]? with
 |some (.sh (.int a))=>(fe ρ).bind λp=>(dr p.2 p.1).bind λT=>(rP T).bind λb=>.ok (.nx,p.2.set i (.sh (.int (a+b))))
 |_=>.bad
noncomputable def agh(i:Nat)(fk:EF)(c:Int):SF:=λρ=>(con ρ i).bind λ_=>(fk ρ).bind λp=>(dr p.2 p.1).bind λkT=>(rP kT).bind λk=>(con p.2 i).bind λts=>if 0<=k then match ts[k.toNat]? with
 |some (.int a)=>.ok (.nx,bM i (ts.set k.toNat (.int (a+c))) p.2)
 |_=>.bad else .bad
noncomputable def jW:Tr->List Nat->Option Tr
 |T,[]=>some T
 |.lst ts,k::p=>match ts[k]? with
  |some t=>jW t p
  |none=>none
 |.tup ts,k::p=>match ts[k]? with
  |some t=>jW t p
  |none=>none
 |_,_::_=>none
noncomputable def stP:Tr->List Nat->Tr->Tr
 |_,[],U=>U
 |.lst ts,k::p,U=>match ts[k]? with
  |some t=>.lst (ts.set k (stP t p U))
  |none=>.lst ts
 |.tup ts,k::p,U=>match ts[k]? with
  |some t=>.tup (ts.set k (stP t p U))
  |none=>.tup ts
 |T,_::_,_=>T
noncomputable def Pv(K:PySem.W.Frag)(H:Hp):V->List Nat->V->Prop
 |v,[],w=>v=w
 |v,k::p,w=>∃a xs x,v=.ref a/\(aL K H a xs\/aX K H a xs)/\xs[k]?=some x/\Pv K H x p w
section
variable {K:PySem.W.Frag}{R:Addr->Prop}{ρ : En}{σ : St}{G H:Hp}{F:Fp}
noncomputable def stL(ts:List Tr)(p:List Nat)(us:List Tr):List Tr:=match stP (.lst ts) p (.lst us)with
 |.lst r=>r
 |_=>[]
end
noncomputable def Pr(K:PySem.W.Frag)(H:Hp)(v:V):List Nat->V->Prop
 | [],w=>v=w
 |k::r,w=>∃a xs,Pr K H v r (.ref a)/\(aL K H a xs\/aX K H a xs)/\xs[k]?=some w
theorem Pv.pr{K:PySem.W.Frag}{H:Hp}:∀{p:List Nat} {v u:V} {r:List Nat} {w:V},Pr (aq K) H v r u->Pv (aq K) H u p w->Pr (aq K) H v (p.reverse++r) w
 | [],v,u,r,w,h,q=>by cases q; exact h
 |k::p,v,u,r,w,h,⟨a,xs,x,e,sq,hx,q⟩=>by
  subst e
  have:=Pv.pr (r:=k::r) ⟨a,xs,h,sq,hx⟩ q
  rw[List.reverse_cons,List.append_assoc]
  exact this
theorem Pr.toK{K:PySem.W.Frag}{H:Hp}{v:V}:∀{r:List Nat} {w:V},Pr (aq K) H v r w->Pr K H v r w
 | [],_,h=>h
 |_::_,_,⟨a,xs,h,sq,hx⟩=>⟨a,xs,Pr.toK h,sq.imp aL.toK aX.toK,hx⟩
noncomputable def agi(i:Nat)(p:List Nat)(T:Tr):SF:=λρ=>(cU ρ i).bind λts=>match jW (.lst ts) p with
 |some (.lst us)=>if(bT us&&bh T&&decide (us.length<=100000))=true then .ok (.nx,ρ.set i (.dp (stL ts p (us++[T]))))else .bad
 |_=>.bad
noncomputable def agj(i:Nat)(p:List Nat):SF:=λρ=>(cU ρ i).bind λts=>match jW (.lst ts) p with
 |some (.lst us)=>if bT us=true then .ok (.nx,ρ.set i (.dp (stL ts p [])))else .bad
 |_=>.bad
theorem au.rv{K:PySem.W.Frag}{H:Hp}:∀{xs:List V} {ts:List Tr},au K H xs ts->au K H xs.reverse ts.reverse
 |_,_,.nil=>.nil
 |_,_,.cons h r=>by
  rw[List.reverse_cons,List.reverse_cons]
  exact(au.rv r).app (.cons h .nil)
noncomputable def Uq:Tr->Bool
 |.lst us=>bT us
 |_=>false
noncomputable def Ur:Tr->Tr
 |.lst us=>.lst us.reverse
 |T=>T
noncomputable def agk(i j:Nat):SF:=λρ=>(cU ρ i).bind λts=>if(ts.all Uq&&decide (i≠j)&&decide (j < ρ.length))=true then .ok (.nx,(ρ.set j .un).set i (.dp (ts.map Ur)))else .bad
noncomputable def Jr(f:EF):EF:=λρ=>(c7 (f (vw ρ))).bind λp=>match p.1 with
 |.v T false=>if bh T=true then .ok (.v T false,ρ)else .bad
 |_=>.bad
noncomputable def Ba(a:VE aB):VE (Jr aB) where
 ck:=a.ck
 cs:=a.cs
 ok q o h:=(a.ok q o h).imp λσ H Q=>bD λR ρ G F e h=>by
  obtain⟨p,k,h⟩:=jP h
  refine⟨_,_,_,_,e.view,?_⟩
  rw[k]
  intro v G' H' F' e' s' v'
  obtain⟨r,ρ1⟩:=p
  dsimp only at h v'
  split at h
  case h_2=>exact h.elim
  split at h
  case isFalse=>exact h.elim
  have nf:∀b,¬Fn (λ_=>[]) b:=λb ⟨_,z⟩=>by cases z
  have w:Gw (aq _) (wL G H) H G' H':=⟨s'.gg,λb o q t=>s'.fr b o q (nf b) t,e'.sub,λ_=>e'.tb,λb q=>(s'.nw b q).imp id λz=>z.resolve_right (nf b)⟩
  obtain⟨e2,s2⟩:=e.grow (Hh e.sub w)
  exact h v _ H' F e2 s2 (.low (Rep.flat (zX w) v'.1 ‹_›))
end L2
end
section
namespace L2
open PySem
section
variable {ρ ρ1 ρ2:En}{fa:EF}{T:Tr}{us ts:List Tr}{x:Rv}{b c:Bool}{i j m n:Nat}{p:List Nat}{u v:Int}{Q:Fl->En->Prop}
theorem LC(c : ρ[i]?=some (.sh (.int u)))(h:fa ρ=.ok (x,ρ1))(d:dr ρ1 x=.ok (.int v))(e : ρ1.set i (.sh (.int (u+v))) = ρ2)(k:Q .nx ρ2):W (Uo i fa ρ) Q:=by
 subst e
 refine⟨_,_,?_,k⟩
 unfold Uo
 rw[c]
 exact bk h (bk d (bk rfl rfl))
theorem LK(h:fa ρ=.ok (x,ρ))(d:dr ρ x=.ok (.int (n:Nat)))(c : ρ[i]?=some (.ow ts))(l:ts[n]?=some (.int u))(e : ρ.set i (.ow (ts.set n (.int (u+v)))) = ρ2)(k:Q .nx ρ2):W (agh i fa v ρ) Q:=by
 subst e
 have c1:con ρ i=.ok ts:=by unfold con; rw[c]
 have c2:bM i (ts.set n (.int (u+v))) ρ = ρ.set i (.ow (ts.set n (.int (u+v)))):=by unfold bM; rw[c]
 refine⟨_,_,bk c1 (bk h (bk d (bk (a:=(n:Int)) rfl (bk c1 ((if_pos (Int.natCast_nonneg n)).trans ?_))))),k⟩
 rw[Int.toNat_natCast,l]
 exact congrArg (λr=>Rs.ok (Fl.nx,r)) c2
theorem LQ(c : ρ[i]?=some (.dp ts))(g:jW (.lst ts) p=some (.lst us))(n:bT us=true)(n':bh T=true)(l:us.length<=100000)(e : ρ.set i (.dp (stL ts p (us++[T]))) = ρ2)(k:Q .nx ρ2):W (agi i p T ρ) Q:=by
 subst e
 refine⟨_,_,bk (a:=ts) (by unfold cU; rw[c]) ?_,k⟩
 rw[g]
 exact if_pos (by rw[n,n',decide_eq_true l]; rfl)
theorem LR(c : ρ[i]?=some (.dp ts))(g:jW (.lst ts) p=some (.lst us))(n:bT us=true)(e : ρ.set i (.dp (stL ts p [])) = ρ2)(k:Q .nx ρ2):W (agj i p ρ) Q:=by
 subst e
 refine⟨_,_,bk (a:=ts) (by unfold cU; rw[c]) ?_,k⟩
 rw[g]
 exact if_pos n
theorem Ma(c : ρ[i]?=some (.dp ts))(f:ts.all Uq=true)(ij:i≠j)(l:j < ρ.length)(e:(ρ.set j .un).set i (.dp (ts.map Ur)) = ρ2)(k:Q .nx ρ2):W (agk i j ρ) Q:=by
 subst e
 exact⟨_,_,bk (a:=ts) (by unfold cU; rw[c]) (if_pos (by rw[f,decide_eq_true ij,decide_eq_true l]; rfl)),k⟩
theorem Mf(e:vw ρ = ρ2)(h:fa ρ2=.ok (.v T false,ρ1))(n:bh T=true):Jr fa ρ=.ok (.v T false,ρ):=by
 subst e
 unfold Jr
 rw[h]
 exact if_pos n
end
open PySem.Spec PyProof.Rows
noncomputable def lend:Sl->Option Sl
 |.ow ts=>some (.rf ts)
 |.rf ts=>some (.rf ts)
 |.ob _ c fs=>some (.ob true c fs)
 |_=>none
noncomputable def back:Sl->Sl->Option Sl
 |.ow _,.rf ts=>some (.ow ts)
 |.rf _,.rf ts=>some (.rf ts)
 |.ob l _ _,.ob true c fs=>some (.ob l c fs)
 |_,_=>none
theorem gH{fp:List Addr}{b:Addr}:Fn (jt fp) b↔b∈fp:=by
 constructor
 .rintro⟨i,h⟩
  unfold jt at h
  split at h
  .exact h
  .cases h
 .exact λh=>⟨0,by unfold jt; rw[if_pos rfl]; exact h⟩
section
variable {K:PySem.W.Frag}{R:Addr->Prop}{ρ ρ':En}{σ σ':St}{G H G0 H0 G1 H1 G' H':Hp}{F F':Fp}{v:Option (Option V)}{f f':List Addr}{s s' S S':Sl}{a:Addr}
theorem dw.lend(h:dw K R G H v f (some s))(l:L2.lend s=some S):∃a,v=some (some (.ref a))/\a∈f/\(∀b∈f,b≠a->¬R b)/\dw K (λb=>b=a) G H v f (some S):=by
 unfold L2.lend at l
 split at l <;> cases l
 .obtain⟨a,xs,h1,rfl,_,h4,h5⟩:=h
  exact⟨a,h1,List.mem_singleton.mpr rfl,λb hb n=>(n (List.mem_singleton.mp hb)).elim,a,xs,h1,rfl,rfl,h4,h5⟩
 .obtain⟨a,xs,h1,rfl,_,h4,h5⟩:=h
  exact⟨a,h1,List.mem_singleton.mpr rfl,λb hb n=>(n (List.mem_singleton.mp hb)).elim,a,xs,h1,rfl,rfl,h4,h5⟩
 .obtain⟨a,dx,C,xs,bs,h1,rfl,nd,n1,n2,r⟩:=h
  exact⟨a,h1,List.mem_cons_self ..,λb hb n=>n2 b ((List.mem_cons.mp hb).resolve_left n),a,dx,C,xs,bs,h1,rfl,nd,⟨λ_=>rfl,λ_=>rfl⟩,λb hb z=>(List.nodup_cons.mp nd).1 (z▸hb),r⟩
theorem dw.back(h0:dw K R G0 H0 (some (some (.ref a))) f (some s))(h:dw K (λb=>b=a) G H v f' (some S'))(q:L2.back s S'=some s')(nr:∀b,H0 b=none->¬R b)(nw:∀b∈f',H0 b=none\/b∈f):v=some (some (.ref a))/\a∈f'/\dw K R G H v f' (some s'):=by
 unfold L2.back at q
 split at q <;> cases q
 .obtain⟨a0,_,h1,_,n,_⟩:=h0
  cases h1
  obtain⟨b,xs,h1,rfl,rfl,h4,h5⟩:=h
  exact⟨h1,List.mem_singleton.mpr rfl,b,xs,h1,rfl,n,h4,h5⟩
 .obtain⟨a0,_,h1,_,n,_⟩:=h0
  cases h1
  obtain⟨b,xs,h1,rfl,rfl,h4,h5⟩:=h
  exact⟨h1,List.mem_singleton.mpr rfl,b,xs,h1,rfl,n,h4,h5⟩
 .obtain⟨a0,dx0,C0,xs0,bs0,h1,rfl,nd0,n1,n2,_⟩:=h0
  cases h1
  obtain⟨b,dx,C,xs,bs,h1,rfl,nd,m1,_,r⟩:=h
  cases m1.mpr rfl
  refine⟨h1,List.mem_cons_self ..,_,dx,C,xs,bs,h1,rfl,nd,n1,λc hc=>(nw c (List.mem_cons_of_mem _ hc)).elim (nr c) λz=>n2 c ((List.mem_cons.mp z).resolve_left λy=>(List.nodup_cons.mp nd).1 (y▸hc)),r⟩
theorem Gu.call{w:V}{T:Tr}{fp':List Addr}(e:Ok K R ρ σ G H F)(ks : ρ[i]?=some s)(hi : σ[i]?=some (some (.ref a)))(nr:∀b∈F i,b≠a->¬R b)(m:Gu K a G H (F i) G' H' fp' w T S')(q:L2.back s S'=some s'):Ok K R (ρ.set i s') σ G' H' (cW F i fp')/\aC K G H F G' H' (cW F i fp')/\∃bs,Vw K R H F G' H' (cW F i fp') [w] [T] bs:=by
 have il:=(List.getElem?_eq_some_iff.mp ks).1
 have z:=e.sl i
 rw[ks,hi]at z
 have nf:∀b∈fp',H b=none\/b∈F i:=λb hb=>(m.st.nf b (gH.mpr hb)).imp id gH.mp
 obtain⟨_,af,sl⟩:=z.back m.sl q (λb h=>e.rn h) nf
 have mt:∀{b},Fn F b->¬Tb K b:=λh t=>by obtain⟨_,q,m⟩:=e.fl h; exact e.tb.nm q m t
 have nt:∀{b},H b=none->¬Tb K b:=λh t=>by obtain⟨ps,q⟩:=e.tb.bO t; rw[h]at q; cases q
 have dj:∀b j,j≠i->b∈F i->b∉F j:=λb j n h1 h2=>n (e.di j i b h2 h1)
 refine⟨e.one i fp' (by rw[List.length_set,e.len]) (λj n=>⟨fL n,rfl⟩) m.st.gg m.sub m.tb (λb h=>?_) (λj n b hb o h=>m.st.fr b o h (λz=>dj b j n (gH.mp z) hb) (mt ⟨j,hb⟩)) (λb h z=>(e.rg b h).2 (m.st.dm b z)) (λb hb=>⟨m.hid b hb,λj n hj=>(nf b hb).elim (λz=>e.fs z ⟨j,hj⟩) λz=>dj b j n z hj⟩) (by rw[eO il,hi]; exact sl),⟨m.st.gg,λb o h n t=>m.st.fr b o h (λz=>n ⟨i,gH.mp z⟩) t,λb h=>(m.st.nw b h).imp id (Or.imp id λz=>⟨i,gH.mp z⟩),λb h=>(jw h).elim (λz=>(nf b z).imp id λz=>⟨i,z⟩) λ⟨j,_,z⟩=>.inr ⟨j,z⟩,m.st.dm⟩,?_⟩
 .rcases m.st.nw b h with z|z|z
  .exact .inl z
  .exact .inr ⟨λj _ y=>e.fs z ⟨j,y⟩,nt z,e.rn z⟩
  .have z:=gH.mp z
   exact .inr ⟨λj n=>dj b j n z,mt ⟨i,z⟩,nr b z λy=>h (y▸m.hid a af)⟩
 .obtain⟨bs,v⟩:=m.vl
  refine⟨bs,v.nd,λb hb=>?_,v.dr⟩
  obtain⟨h1,h2,h3,h4⟩:=v.al b hb
  have h1:=h1.imp id gH.mp
  refine⟨h1.imp id λz=>⟨i,z⟩,λz=>?_,h1.elim (λz=>e.rn z) λz=>nr b z h3,h4⟩
  rcases jw z with z|⟨j,n,z⟩
  .exact h2 (gH.mpr z)
  .exact h1.elim (λy=>e.fs y ⟨j,z⟩) λy=>dj b j n y z
end
noncomputable def lG(ρ : En)(i:Nat):Rs (Sl × Sl):=match ρ[i]? with
 |some s=>match lend s with
  |some S=>.ok (s,S)
  |none=>.bad
 |none=>.bad
theorem Ut(ρ : En)(i:Nat)(c:Str):lG ρ i ≠ .ex c:=by
 unfold lG
 (repeat' split) <;> (intro z; cases z)
theorem Uu(h:lG ρ i=.ok z) : ρ[i]?=some z.1/\lend z.1=some z.2:=by
 unfold lG at h
 (repeat' split at h) <;> cases h
 exact⟨‹_›,‹_›⟩
noncomputable def oJ(i:Nat)(f:FM)(fa:AF):WF:=λρ=>(lG ρ i).bind λ_=>(fa ρ).bind λp=>(cls p.1).bind λts=>(lG p.2 i).bind λs=>(f s.2 ts).bind λz=>match back s.1 z.2 with
 |some s'=>.ok (z.1,p.2.set i s')
 |none=>.bad
theorem Uv(hn:∀ρ p,fa ρ=.ok p->p.1.length=n)(h:Tw (tx cl E X) (oJ i f fa) σ H Q):∃a,σ[i]?=some (some (.ref a))/\Ta (tx cl E X) fa σ H λvs H2=>mL X.K cl (n+1) f (.ref a::(vs++[])) H2 Q E:=by
 obtain⟨R,ρ,G,F,e,h⟩:=h
 obtain⟨s0,k0,h⟩:=h.okb (Ut _ _)
 obtain⟨k0,l0⟩:=Uu k0
 have z0:=e.sl i
 rw[k0]at z0
 obtain⟨a,hi,_⟩:=z0.lend l0
 refine⟨a,hi,?_⟩
 cases ek:fa ρ with
 |bad=>rw[ek]at h; exact h.elim
 |ex c=>exact⟨R,ρ,G,F,e,by rw[ek]at h ⊢; exact h⟩
 |ok p =>
 refine⟨R,ρ,G,F,e,?_⟩
 simp only[ek,Rs.bind]at h
 rw[ek]
 intro vs G1 H1 F1 e1 s1 v1
 obtain⟨ts,k1,h⟩:=h.okb (nW _)
 obtain⟨G2,e2,s2,_,r⟩:=e1.vis e s1 v1 k1
 obtain⟨s,k2,h⟩:=h.okb (Ut _ _)
 obtain⟨k2,l2⟩:=Uu k2
 have z:=e2.sl i
 rw[k2]at z
 obtain⟨a',hi',af,nr,zl⟩:=z.lend l2
 rw[hi]at hi'
 cases hi'
 rw[List.append_nil]
 refine⟨G2,a,F1 i,s.2,vs,ts,rfl,by rw[List.length_cons,v1.length,hn ρ p ek],r,e2.sub,e2.tb,e2.tg,af,λb hb=>e2.hid b ⟨i,hb⟩,hi▸zl,?_⟩
 cases ef:f s.2 ts with
 |bad=>rw[ef]at h; exact h.elim
 |ex c=>rw[ef]at h; exact λH' q=>h H' (s2.back ⟨λb o h n t=>q.fr b o h (λz=>n ⟨i,gH.mp z⟩) t,q.tb⟩)
 |ok z =>
  simp only[ef,Rs.bind]at h
  split at h
  case h_2=>exact h.elim
  rename_i s' hb
  intro v G' H' fp' mo
  obtain⟨e3,s3,bs,v3⟩:=mo.call e2 k2 hi nr hb
  exact h v G' H' _ bs e3 (s2.trans s3) (v3.back s2)
noncomputable abbrev DM:=En->Rs (Tr × En)
noncomputable def Js(t:Tx)(g:DM):TS:=λD σ H=>∃R ρ G F,Ok t.K R ρ σ G H F/\bF t H F (g ρ) λp=>∀σ' G' H' F',Ok t.K R p.2 σ' G' H' F'->aC t.K G H F G' H' F'->(∀v bs,Vw t.K R H F G' H' F' [v] [p.1] bs->D.rt v H')/\(p.1=.non->D.nx σ' H')
noncomputable abbrev VM(g:DM):=Vn λcl E X e=>cX X e (Js (tx cl E X) g)
noncomputable abbrev oK{g:DM}(_:VM g):DM:=g
noncomputable def Uw:DM:=λρ=>.ok (.non,ρ)
noncomputable def m0:VM Uw where
 ck _ e:=e.isEmpty
 cs:=[]
 ok:=@λ_ _ _ X e _ _ h=>by
  cases e <;> try cases h
  exact Dm.imp λD σ H=>bD λR ρ G F e h=>(h σ G H F e .refl).2 rfl
noncomputable def mR(a:VX aB):VM aB where
 ck Γ e:=aP e λz l=>aQ l (pN z λy _=>j9 y λx=>a.ck Γ x)
 cs:=a.cs
 ok q o h:=by
  walk_at "O"
  exact(xW (xX (a.ok q o h))).imp λD σ H=>bD λR ρ G F e h=>⟨R,ρ,G,F,e,h.go (aC.refl (G:=G)) λp h v G1 H1 F1 bs e1 s1 v1=>(h σ G1 H1 F1 e1 s1).1 v bs v1⟩
theorem Ux{t:Tx}{D:Ends}(e:Ok t.K R ρ σ G H F)(s:aC t.K G0 H0 F0 G H F)(h:bF t H0 F0 (g ρ) λp=>∀σ' G' H' F',Ok t.K R p.2 σ' G' H' F'->aC t.K G0 H0 F0 G' H' F'->(∀v bs,Vw t.K R H0 F0 G' H' F' [v] [p.1] bs->D.rt v H')/\(p.1=.non->D.nx σ' H')):Js t g D σ H :=
 ⟨R,ρ,G,F,e,h.go s λp h σ' G' H' F' e' s'=>⟨λv bs w=>(h σ' G' H' F' e' (s.trans s')).1 v bs (w.back s),(h σ' G' H' F' e' (s.trans s')).2⟩⟩
noncomputable def Uy(f:SF)(g:DM):DM:=λρ=>(f ρ).bind λp=>match p.1 with
 |.nx=>g p.2
 |_=>.bad
noncomputable def mC(a:VS aB)(r:VM cV):VM (Uy aB cV) where
 ck Γ e:=aP e λx l=>a.ck Γ x&&r.ck Γ l
 cs:=a.cs++r.cs
 ok q O h:=by
  walk_at "o"
  simp only[an]at h
  refine(xV (a.ok (ml q) O h.1) (r.ok (mr q) O h.2)).imp λD σ H=>bD λR ρ G F e h=>⟨R,ρ,G,F,e,h.run (aC.refl (G:=G)) λp h=>?_⟩
  obtain⟨fl,ρ1⟩:=p
  cases fl with
  |nx=>exact λσ1 G1 H1 F1 e1 s1=>Ux e1 s1 h
  |bk=>exact h.elim
  |ct=>exact h.elim
  |rt T fr=>exact h.elim
noncomputable def hIf(c:BF)(f:WF)(g:DM):DM:=λρ=>(c ρ).bind λp=>if p.1=true then f p.2 else g p.2
noncomputable def mI(c:VT c_f)(a:VX aB)(r:VM cV):VM (hIf c_f aB cV) where
 ck Γ e:=aP e λs l=>uW s λz x y _=>aP x λw x'=>aQ x' (pN w λu _=>j9 u λv=>aQ y (c.ck Γ z&&a.ck Γ v&&r.ck Γ l))
 cs:=c.cs++(a.cs++r.cs)
 ok q O h:=by
  walk_at "O"
  simp only[an]at h
  refine(xV (Nm (c.ok (ml q) O h.1.1) (xW (xX (a.ok (ml (mr q)) O h.1.2))) Dm) (r.ok (mr (mr q)) O h.2)).imp λD σ H z=>?_
  obtain⟨R,ρ,G,F,e,h⟩:=z
  show Nk _ _ _ _ σ H
  refine mq e .refl h λp h G1 H1 F1 e1 s1=>?_
  split at h <;> rename_i c
  .rw[if_pos c]
   exact af6 e1 s1 (h.go (aC.refl (G:=G)) λp h v G' H' F' bs e' s' w=>(h σ G' H' F' e' s').1 v bs w)
  .rw[if_neg c]
   exact Ux e1 s1 h
noncomputable def lH(nl:Nat)(S:Sl)(ts:List Tr):En:=S::ts.map Sl.sh++List.replicate (nl-(ts.length+1)) Sl.un
noncomputable def iK(nl:Nat)(g:DM):FM:=λS ts=>(g (lH nl S ts)).bind λp=>match p.2 with
 |.rf us::_=>.ok (p.1,.rf us)
 |.ob true c fs::_=>.ok (p.1,.ob true c fs)
 |_=>.bad
theorem Ok.lH{K:PySem.W.Frag}{N:List Str}{fp:List Addr}{a:Addr}(z:dw K (λb=>b=a) G H (some (some (.ref a))) fp (some S))(ha:G a=none/\H a≠none)(hid:∀b∈fp,G b=none)(r:au K G vs ts)(hl:vs.length+1<=N.length)(s:Same G H)(tb:bx K H)(tg:∀b,Tb K b->G b=none):Ok K (λb=>b=a) (L2.lH N.length S ts) (start N (.ref a::vs)) G H (jt fp):=by
 have l:=r.length
 refine⟨by unfold L2.lH start; simp; lia,s,tb,tg,λb h=>hid b (gH.mp h),λb h=>h▸ha,λi j b h1 h2=>?_,λi=>?_⟩
 .unfold jt at h1 h2
  split at h1
  .split at h2
   .rw[‹i=0›,‹j=0›]
   .cases h2
  .cases h1
 .cases i with
  |zero=>exact z
  |succ i =>
   show dw K _ G H ((start N (.ref a::vs))[i+1]?) [] (L2.lH N.length S ts)[i+1]?
   unfold L2.lH start
   rw[List.map_cons,List.cons_append,List.getElem?_cons_succ,List.cons_append,List.getElem?_cons_succ]
   by_cases h:i<vs.length
   .rw[List.getElem?_append_left (by simpa using h),List.getElem?_append_left (by simp; lia),List.getElem?_map,List.getElem?_map,List.getElem?_eq_getElem h,List.getElem?_eq_getElem (show i<ts.length by lia)]
    obtain⟨x,q1,q2⟩:=r.nJ (List.getElem?_eq_getElem (show i<ts.length by lia))
    rw[List.getElem?_eq_getElem h]at q1
    cases q1
    exact⟨rfl,_,rfl,q2⟩
   .rw[List.getElem?_append_right (l₁ := ts.map Sl.sh) (by simp; lia),List.getElem?_replicate]
    split <;> rfl
theorem dw.at{K:PySem.W.Frag}{a:Addr}{f:List Addr}{S:Sl}(h:dw K (λb=>b=a) G H v f (some S))(q:(∃us,S=.rf us)\/∃c fs,S=.ob true c fs):v=some (some (.ref a))/\a∈f/\∃o,H a=some o:=by
 rcases q with⟨us,rfl⟩|⟨c,fs,rfl⟩
 .obtain⟨b,xs,h1,rfl,rfl,h4,_⟩:=h
  exact⟨h1,List.mem_singleton.mpr rfl,_,h4⟩
 .obtain⟨b,dx,C,xs,bs,h1,rfl,_,m,_,_,h4,_⟩:=h
  cases m.mpr rfl
  exact⟨h1,List.mem_cons_self ..,_,h4⟩
theorem agl{K:PySem.W.Frag}{N ps:List Str}{g:DM}(hn:ps.length<=N.length)(h:mL K cl ps.length (iK N.length g) vs H Q E):Js ⟨aq K,λc H'=>E (.ref (cl c)) none H'⟩ g {nx:=λ_ H'=>Q .non H',rt:=Q } (start N vs) H:=by
 obtain⟨G,a,fp,S,ws,ts,rfl,hl,r,sg,tb,tg,af,hid,z,h⟩:=h
 rw[List.length_cons]at hl
 have ha:G a=none/\H a≠none:=⟨hid a af,λy=>by obtain⟨_,q,_⟩:=z.mu a af; rw[y]at q; cases q⟩
 refine⟨_,_,G,_,Ok.lH z ha hid r (by lia) sg tb tg,h.run (aC.refl (G:=G)) λp h σ' G' H' F' e s=>?_⟩
 split at h
 case h_3=>exact h.elim
 all_goals
  rename_i k
  have z':=e.sl 0
  rw[k]at z'
  obtain⟨q1,q2,_⟩:=z'.at (by first|exact .inl ⟨_,rfl⟩|exact .inr ⟨_,_,rfl⟩)
  rw[q1]at z'
  have sub:∀b,Fn (jt (F' 0)) b->Fn F' b:=λb z=>⟨0,gH.mp z⟩
  have mo:∀v bs,Vw (aq K) (λb=>b=a) H (jt fp) G' H' F' [v] [p.1] bs->Q v H':=λv bs w=>h v G' H' (F' 0) ⟨⟨s.gg,s.fr,s.nw,λb z=>s.nf b (sub b z),s.dm⟩,e.sub,e.tb,λb hb=>e.hid b ⟨0,hb⟩,z',bs,w.nd,λb hb=>⟨(w.al b hb).1,λz=>(w.al b hb).2.1 (sub b z),(w.al b hb).2.2⟩,w.dr⟩
  exact⟨mo,λn=>mo .non [] ⟨.nil,(λ_ z=>by cases z),n ▸ .cl rfl .non .nil⟩⟩
theorem oM{K:PySem.W.Frag}{c:Str}{C C':Addr}(h:jd K c C)(h':jd K c C'):C=C':=by
 unfold jd at h h'
 rw[h]at h'
 cases h'
 rfl
noncomputable def cN(k:Str)(s:aJ):List (Str × aJ)->List (Str × aJ)
 | []=>[(k,s)]
 |(g,x)::r=>if g=k then(g,s)::r else(g,x)::cN k s r
noncomputable def v7(K:PySem.W.Frag)(G H:Hp)(v:V)(cs:List Addr):aJ->Prop
 |.sh T=>cs=[]/\Rep K G v T
 |.dp us=>∃b ys ds,v=.ref b/\cs=b::ds/\H b=some (.lst ys)/\DR K G H ys us ds
section
variable {K:PySem.W.Frag}{R:Addr->Prop}{ρ : En}{σ : St}{G H G' H':Hp}{F:Fp}{xs:List (Str × V)}{fs:List (Str × aJ)}{bs cs:List Addr}{k:Str}{v:V}{s:aJ}{c:Str}{l:Bool}
theorem bB.cons(o:v7 K G H v cs s)(r:bB K G H xs fs bs):bB K G H ((k,v)::xs) ((k,s)::fs) (cs++bs):=by
 cases s with
 |sh T=>obtain⟨rfl,h⟩:=o; exact .sh h r
 |dp us=>obtain⟨b,ys,ds,rfl,rfl,h,d⟩:=o; exact .dp h d r
theorem bB.split(h:bB K G H xs ((k,s)::fs) bs):∃v ys cs ds,xs=(k,v)::ys/\bs=cs++ds/\v7 K G H v cs s/\bB K G H ys fs ds:=by
 cases h with
 |sh h r=>exact⟨_,_,[],_,rfl,rfl,⟨rfl,h⟩,r⟩
 | @dp _ b ys us cs _ _ ds h d r=>exact⟨_,_,b::cs,ds,rfl,rfl,⟨b,ys,cs,rfl,rfl,h,d⟩,r⟩
theorem bB.put:∀{fs:List (Str × aJ)} {xs:List (Str × V)} {bs:List Addr},bB K G H xs fs bs->v7 K G H v cs s->bs.Nodup->cs.Nodup->(∀b∈cs,b∉bs)->∃bs',bB K G H (dh k v xs) (cN k s fs) bs'/\bs'.Nodup/\∀b∈bs',b∈bs\/b∈cs
 | [],xs,bs,h,o,_,n,_=>by
  cases h
  exact⟨cs++[],.cons o .nil,by rw[List.append_nil]; exact n,λb hb=>.inr (by rwa[List.append_nil]at hb)⟩
 |(g,x)::fs,xs,bs,h,o,n1,n2,dj=>by
  obtain⟨w,ys,c,d,rfl,rfl,p,r⟩:=h.split
  obtain⟨m1,m2,m3⟩:=List.nodup_append.mp n1
  show ∃bs',bB K G H (if g=k then(g,v)::ys else(g,w)::dh k v ys) (if g=k then(g,s)::fs else(g,x)::cN k s fs) bs'/\_
  by_cases e:g=k
  .rw[if_pos e,if_pos e]
   exact⟨cs++d,.cons o r,List.nodup_append.mpr ⟨n2,m2,λb hb b' hb' z=>dj b hb (List.mem_append_right _ (z▸hb'))⟩,λb hb=>(List.mem_append.mp hb).elim .inr λz=>.inl (List.mem_append_right _ z)⟩
  .rw[if_neg e,if_neg e]
   obtain⟨bs',q1,q2,q3⟩:=bB.put r o m2 n2 λb hb z=>dj b hb (List.mem_append_right _ z)
   refine⟨c++bs',.cons p q1,List.nodup_append.mpr ⟨m1,q2,λb hb b' hb' z=>?_⟩,λb hb=>(List.mem_append.mp hb).elim (λz=>.inl (List.mem_append_left _ z)) λz=>(q3 b z).imp (List.mem_append_right _) id⟩
   subst z
   exact(q3 b hb').elim (λz=>m3 b hb b z rfl) λz=>dj b z (List.mem_append_left _ hb)
theorem bB.get:∀{fs:List (Str × aJ)} {xs:List (Str × V)} {bs:List Addr},bB K G H xs fs bs->fs.lookup k=some s->∃v cs,xs.lookup k=some v/\v7 K G H v cs s/\∀b∈cs,b∈bs
 | [],_,_,_,q=>by cases q
 |(g,x)::fs,xs,bs,h,q=>by
  obtain⟨w,ys,c,d,rfl,rfl,p,r⟩:=h.split
  rw[List.lookup_cons]at q ⊢
  by_cases e:(k == g)=true
  .rw[e]at q ⊢
   cases q
   exact⟨w,c,rfl,p,λb=>List.mem_append_left _⟩
  .rw[Bool.eq_false_iff.mpr e]at q ⊢
   obtain⟨v,cs,q1,q2,q3⟩:=bB.get r q
   exact⟨v,cs,q1,q2,λb hb=>List.mem_append_right _ (q3 b hb)⟩
theorem bB.no:∀{fs:List (Str × aJ)} {xs:List (Str × V)} {bs:List Addr},bB K G H xs fs bs->fs.lookup k=none->xs.lookup k=none
 | [],_,_,h,_=>by cases h; rfl
 |(g,x)::fs,xs,bs,h,q=>by
  obtain⟨w,ys,c,d,rfl,rfl,p,r⟩:=h.split
  rw[List.lookup_cons]at q ⊢
  by_cases e:(k == g)=true
  .rw[e]at q; cases q
  .rw[Bool.eq_false_iff.mpr e]at q ⊢
   exact bB.no r q
theorem bB.len:∀{fs:List (Str × aJ)} {xs:List (Str × V)} {bs:List Addr},bB K G H xs fs bs->xs.length=fs.length
 | [],_,_,h=>by cases h; rfl
 |(g,x)::fs,xs,bs,h=>by
  obtain⟨w,ys,c,d,rfl,rfl,p,r⟩:=h.split
  rw[List.length_cons,List.length_cons,bB.len r]
theorem Ok.Jt(e:Ok K R ρ σ G H F)(q : ρ[i]?=some (.ob l c fs))(o:v7 K G H v cs s)(n:cs.Nodup)(al:∀b∈cs,¬Fn F b/\¬R b/\G b=none):∃a dx C xs,σ[i]?=some (some (.ref a))/\jd K c C/\H a=some (.ins C dx xs)/\xs.length=fs.length/\∃bs,Ok K R (ρ.set i (.ob l c (cN k s fs))) σ G (upd H a (.ins C dx (dh k v xs))) (cW F i bs)/\∀(G0 H0:Hp) (F0:Fp),aC K G0 H0 F0 G H F->(∀b∈cs,H0 b=none\/Fn F0 b)->aC K G0 H0 F0 G (upd H a (.ins C dx (dh k v xs))) (cW F i bs):=by
 have z:=e.sl i
 rw[q]at z
 obtain⟨a,dx,C,xs,bs,h1,h2,nd,m1,m2,kc,h4,h5,d⟩:=z
 obtain⟨n1,n2⟩:=List.nodup_cons.mp (h2▸nd)
 obtain⟨n3,n4⟩:=List.nodup_cons.mp n2
 have fF:∀b∈a::dx::bs,Fn F b:=λb hb=>⟨i,by rw[h2]; exact hb⟩
 obtain⟨bs',q1,q2,q3⟩:=d.put (k:=k) o n4 n λb hb z=>(al b hb).1 (fF b (List.mem_cons_of_mem _ (List.mem_cons_of_mem _ z)))
 have fa:=fF a (List.mem_cons_self ..)
 have ga:=e.hid a fa
 have na:∀b∈dx::bs',b≠a:=λb hb z=>by
  subst z
  rcases List.mem_cons.mp hb with z|z
  .exact n1 (z▸List.mem_cons_self ..)
  .exact(q3 _ z).elim (λz=>n1 (List.mem_cons_of_mem _ z)) λz=>(al _ z).1 fa
 have nx:∀b∈bs',b≠dx:=λb hb z=>by
  subst z
  exact(q3 _ hb).elim n3 λz=>(al _ z).1 (fF _ (List.mem_cons_of_mem _ (List.mem_cons_self ..)))
 have up:∀b o,b≠a->H b=some o->upd H a (.ins C dx (dh k v xs)) b=some o:=λb o n h=>by rw[aD n]; exact h
 have dm:∀b,upd H a (.ins C dx (dh k v xs)) b=none->H b=none:=λb h=>by
  by_cases y:b=a
  .subst y; rw[bJ]at h; cases h
  .rw[aD y]at h; exact h
 refine⟨a,dx,C,xs,h1,kc,h4,d.len,a::dx::bs',e.one i _ (by rw[List.length_set,e.len]) (λj n=>⟨fL n,rfl⟩) (Same.refl _) (λb o h=>up b o (λz=>by rw[z,ga]at h; cases h) (e.sub b o h)) (e.tb.Fo h4 rfl) (λb h=>.inl h) (λj n b hb o h=>up b o (λz=>n (e.di j i b hb (by rw[h2,z]; exact List.mem_cons_self ..))) h) (λb h z=>(e.rg b h).2 (dm b z)) (λb hb=>?_) ?_,λG0 H0 F0 s0 hc=>⟨s0.gg,λb o h n t=>up b o (λz=>s0.out h n (z▸fa)) (s0.fr b o h n t),s0.nw,λb h=>?_,λb h=>s0.dm b (dm b h)⟩⟩
 .rcases List.mem_cons.mp hb with rfl|hb
  .exact⟨ga,λj n z=>n (e.di j i b z (by rw[h2]; exact List.mem_cons_self ..))⟩
  rcases List.mem_cons.mp hb with rfl|hb
  .exact⟨e.hid b (fF b (List.mem_cons_of_mem _ (List.mem_cons_self ..))),λj n z=>n (e.di j i b z (by rw[h2]; exact List.mem_cons_of_mem _ (List.mem_cons_self ..)))⟩
  rcases q3 b hb with z|z
  .exact⟨e.hid b (fF b (List.mem_cons_of_mem _ (List.mem_cons_of_mem _ z))),λj n y=>n (e.di j i b y (by rw[h2]; exact List.mem_cons_of_mem _ (List.mem_cons_of_mem _ z)))⟩
  .exact⟨(al b z).2.2,λj _ y=>(al b z).1 ⟨j,y⟩⟩
 .rw[eO (List.getElem?_eq_some_iff.mp q).1]
  exact⟨a,dx,C,_,bs',h1,rfl,List.nodup_cons.mpr ⟨λz=>na a z rfl,List.nodup_cons.mpr ⟨λz=>nx dx z rfl,q2⟩⟩,m1,λb hb=>(List.mem_cons.mp hb).elim (λz=>m2 b (z▸List.mem_cons_self ..)) λz=>(q3 b z).elim (λz=>m2 b (List.mem_cons_of_mem _ z)) λz=>(al b z).2.1,kc,bJ,up dx _ (na dx (List.mem_cons_self ..)) h5,q1.mono (Same.refl _) λb hb o h=>up b o (na b (List.mem_cons_of_mem _ hb)) h⟩
 .rcases jw h with z|⟨j,_,z⟩
  .rcases List.mem_cons.mp z with rfl|z
   .exact s0.nf b fa
   rcases List.mem_cons.mp z with rfl|z
   .exact s0.nf b (fF b (List.mem_cons_of_mem _ (List.mem_cons_self ..)))
   rcases q3 b z with z|z
   .exact s0.nf b (fF b (List.mem_cons_of_mem _ (List.mem_cons_of_mem _ z)))
   .exact hc b z
  .exact s0.nf b ⟨j,z⟩
end
noncomputable def fP(fs:List (Str × aJ))(k:Str):Rs Tr:=match fs.lookup k with
 |some (.sh T)=>.ok T
 |_=>.bad
theorem Uz(h:fP fs k=.ok T):fs.lookup k=some (.sh T):=by
 unfold fP at h
 split at h <;> cases h
 assumption
theorem UG(fs:List (Str × aJ))(k c:Str):fP fs k ≠ .ex c:=by
 unfold fP
 split <;> (intro z; cases z)
noncomputable def m6(i:Nat)(c k:Str):EF:=λρ=>match ρ[i]? with
 |some (.ob _ d fs)=>if d=c then(fP fs k).bind λT=>.ok (.v T false,ρ)else .bad
 |some (.vo d fs)=>if d=c then(fP fs k).bind λT=>.ok (.v T false,ρ)else .bad
 |_=>.bad
theorem agm{X:Cx}{cl:Str->Addr}{E:XK}(y:Ey.ok cl X (.cz c k))(h:Te (tx cl E X) (m6 i c k) σ H Q):N8 X.K (ux i) k σ H Q:=by
 obtain⟨C',jh,c1,c2⟩:=y
 obtain⟨R,ρ,G,F,e,h⟩:=h
 have z:=e.sl i
 unfold m6 at h
 split at h
 case h_3=>exact h.elim
 all_goals
  rename_i q
  rw[q]at z
  split at h
  case isFalse=>exact h.elim
  rename_i dc
  subst dc
  obtain⟨T,g,h⟩:=h.okb (UG _ _)
  have g:=Uz g
 .obtain⟨a,dx,C,xs,bs,h1,_,_,_,_,kc,h4,_,d⟩:=z
  cases oM kc jh
  obtain⟨v,cs,q1,q2,_⟩:=d.get g
  exact⟨_,h1,a,C',dx,xs,v,rfl,h4,c1,c2,q1,h v G H F e .refl (.low q2.2)⟩
 .obtain⟨_,a,dx,C,xs,h1,kc,h4,d⟩:=z
  cases oM kc jh
  obtain⟨v,cs,q1,q2,_⟩:=d.get g
  exact⟨_,h1,a,C',dx,xs,v,rfl,e.sub _ _ h4,c1,c2,q1,h v G H F e .refl (.low q2.2)⟩
noncomputable def gJ(i:Nat)(c k:Str):VE (m6 i c k) where
 ck Γ e:=jL e λob a _=>atName ob λx _=>d8 Γ i x&&a == k
 cs:=[.cz c k]
 ok q o h:=by
  walk_at "o"
  simp only[an]at h
  cases eq_of_beq h.2
  exact(Ob (fV o h.1) rfl).imp λσ H Q=>agm (q _ (List.mem_cons_self ..))
noncomputable def jz(ρ : En)(i:Nat)(c:Str):Rs (Bool × List (Str × aJ)):=match ρ[i]? with
 |some (.ob l d fs)=>if d=c then .ok (l,fs)else .bad
 |_=>.bad
theorem tG(h:jz ρ i c=.ok z) : ρ[i]?=some (.ob z.1 c z.2):=by
 unfold jz at h
 (repeat' split at h) <;> cases h
 rename_i e
 cases e
 assumption
theorem tH(ρ : En)(i:Nat)(c d:Str):jz ρ i c ≠ .ex d:=by
 unfold jz
 (repeat' split) <;> (intro z; cases z)
noncomputable def UJ(i:Nat)(c k:Str)(f:EF):SF:=λρ=>(f ρ).bind λp=>(jE p.1).bind λT=>(jz p.2 i c).bind λz=>if z.2.length<999 then .ok (.nx,p.2.set i (.ob z.1 c (cN k (.sh T) z.2)))else .bad
noncomputable def tL(i:Nat)(c k:Str)(a:VE aB):VS (UJ i c k aB) where
 ck Γ e:=jr e λaK v _=>aP aK λbA bH=>jL bA λob b _=>atName ob λx _=>aQ bH (d8 Γ i x&&b == k&&kW v&&a.ck Γ v)
 cs:=.cz c k::a.cs
 ok q o h:=by
  walk_at "O"
  simp only[an]at h
  obtain⟨⟨⟨h1,h2⟩,h3⟩,h4⟩:=h
  cases eq_of_beq h2
  obtain⟨⟨C',jh,c1,c2⟩,q⟩:=List.forall_mem_cons.mp q
  refine(Oc (fV o h1) (a.ok q o h4) (oh h3)).imp λD σ H=>bD λR ρ G F e h=>cZ e .refl h λp h v G1 H1 F1 e1 s1 v1=>?_
  obtain⟨T,kT,h⟩:=h.okb (zU _)
  obtain⟨G2,e2,s2,_,rv⟩:=e1.pU e s1 v1 kT
  obtain⟨z,k0,h⟩:=h.okb (tH _ _ _)
  have k0:=tG k0
  split at h
  case isFalse=>exact h.elim
  obtain⟨a,dx,C,xs,hi,kc,h4,ln,bs,e3,s3⟩:=e2.Jt (k:=k) (s:=.sh T) (cs:=[]) k0 ⟨rfl,rv⟩ .nil (λ_ z=>by cases z)
  cases oM kc jh
  exact⟨_,hi,a,C',dx,xs,rfl,h4,c1,c2,by rw[ln]; omega,h σ G2 _ _ e3 (s3 G H F s2 λ_ z=>by cases z)⟩
noncomputable def UL(i:Nat)(c k:Str)(f:WF):SF:=λρ=>(f ρ).bind λp=>(jz p.2 i c).bind λz=>match p.1 with
 |.lst ts=>if z.2.length<999 then .ok (.nx,p.2.set i (.ob z.1 c (cN k (.dp ts) z.2)))else .bad
 |_=>.bad
noncomputable def sFW(i:Nat)(c k:Str)(a:VX aB):VS (UL i c k aB) where
 ck Γ e:=jr e λaK v _=>aP aK λbA bH=>jL bA λob b _=>atName ob λx _=>aQ bH (d8 Γ i x&&b == k&&kW v&&a.ck Γ v)
 cs:=.cz c k::a.cs
 ok q o h:=by
  walk_at "O"
  simp only[an]at h
  obtain⟨⟨⟨h1,h2⟩,h3⟩,h4⟩:=h
  cases eq_of_beq h2
  obtain⟨⟨C',jh,c1,c2⟩,q⟩:=List.forall_mem_cons.mp q
  refine(Oc (fV o h1) (a.ok q o h4) (oh h3)).imp λD σ H=>bD λR ρ G F e h=>⟨R,ρ,G,F,e,h.run (aC.refl (G:=G)) λp h v G1 H1 F1 bs e1 s1 v1=>?_⟩
  obtain⟨z,k0,h⟩:=h.okb (tH _ _ _)
  have k0:=tG k0
  split at h
  case h_2=>exact h.elim
  rename_i ts kT
  split at h
  case isFalse=>exact h.elim
  have d:=v1.dr
  rw[kT]at d
  cases d with
  |cl n _ _=>unfold bh at n; cases n
  | @rw b ys _ cs _ _ bs hb dq r0 =>
  cases r0
  have nd:=v1.nd
  have al:=v1.al
  rw[List.append_nil]at nd al
  obtain⟨a,dx,C,xs,hi,kc,h4,ln,bs,e3,s3⟩:=e1.Jt (k:=k) (s:=.dp ts) k0 ⟨b,ys,cs,rfl,rfl,hb,dq⟩ nd (λb hb=>⟨(al b hb).2.1,(al b hb).2.2.1,(al b hb).2.2.2⟩)
  cases oM kc jh
  exact⟨_,hi,a,C',dx,xs,rfl,h4,c1,c2,by rw[ln]; omega,h σ G1 _ _ e3 (s3 G H F s1 λb hb=>(al b hb).1)⟩
noncomputable def UW(i:Nat)(c k:Str)(f:EF):SF:=λρ=>(jz ρ i c).bind λz=>(fP z.2 k).bind λT=>(f ρ).bind λp=>(dr p.2 p.1).bind λU=>(jz p.2 i c).bind λz'=>match T,U with
 |.int m,.int n=>if z'.2.length<999 then .ok (.nx,p.2.set i (.ob z'.1 c (cN k (.sh (.int (m+n))) z'.2)))else .bad
 |_,_=>.bad
noncomputable def sFA(i:Nat)(c k:Str)(a:VE aB):VS (UW i c k aB) where
 ck Γ e:=Um e λt op v=>jL t λob b _=>atName ob λx _=>decide (op=.Add)&&d8 Γ i x&&b == k&&a.ck Γ v
 cs:=.cz c k::a.cs
 ok q o h:=by
  replace h:=agg h
  obtain⟨t,op,v,p,rfl,h⟩:=h
  walk_at "O"
  simp only[an]at h
  obtain⟨⟨⟨h1,h2⟩,h3⟩,h4⟩:=h
  cases of_decide_eq_true h1
  cases eq_of_beq h3
  obtain⟨⟨C',jh,c1,c2⟩,q⟩:=List.forall_mem_cons.mp q
  refine(ab7 (fV o h2) (a.ok q o h4) ab9).imp λD σ H=>bD λR ρ G F e h=>?_
  obtain⟨z,k0,h⟩:=h.okb (tH _ _ _)
  have k0:=tG k0
  obtain⟨T,g,h⟩:=h.okb (UG _ _)
  have g:=Uz g
  have zl:=e.sl i
  rw[k0]at zl
  obtain⟨a,dx,C,xs,bs,hi,_,_,_,_,kc,h4,_,d⟩:=zl
  cases oM kc jh
  obtain⟨w,cs,q1,q2,_⟩:=d.get g
  refine⟨_,hi,a,C',dx,xs,w,rfl,h4,c1,c2,q1,cZ e .refl h λp h v G1 H1 F1 e1 s1 v1=>?_⟩
  obtain⟨U,kU,h⟩:=h.okb (gW _ _)
  obtain⟨z',k1,h⟩:=h.okb (tH _ _ _)
  have k1:=tG k1
  obtain⟨m,rfl⟩:∃m,T=.int m:=by cases T <;> first|exact⟨_,rfl⟩|exact h.elim
  obtain⟨n,rfl⟩:∃n,U=.int n:=by cases U <;> first|exact⟨_,rfl⟩|exact h.elim
  dsimp only at h
  split at h
  case isFalse=>exact h.elim
  cases(gY e1 v1 kU).int
  cases q2.2
  obtain⟨a',uD,C1,xs',hi',Ju,h4',ln,bs',e3,s3⟩:=e1.Jt (k:=k) (s:=.sh (.int (m+n))) (cs:=[]) k1 ⟨rfl,.int _⟩ .nil (λ_ z=>by cases z)
  rw[hi]at hi'
  cases hi'
  cases oM Ju jh
  exact⟨m,n,rfl,rfl,uD,xs',h4',by rw[ln]; omega,h σ G1 _ _ e3 (s3 G H F s1 λ_ z=>by cases z)⟩
noncomputable def v8(f:WF):EF:=λρ=>(f ρ).bind λp=>.ok (.v p.1 false,p.2)
section
variable {t:Tx}{K:PySem.W.Frag}{R:Addr->Prop}{ρ : En}{σ : St}{G H G0 H0 G' H':Hp}{F F0:Fp}{bs:List Addr}
theorem Ok.shows:∀{bs:List Addr} {G:Hp},Ok K R ρ σ G H F->(∀b∈bs,(∃ys,H b=some (.lst ys))/\¬Fn F b/\¬R b)->∃G2,Ok K R ρ σ G2 H F/\Same G G2/\(∀b∈bs,G2 b=H b)/\∀b,G2 b≠none->G b≠none\/b∈bs
 | [],G,e,_=>⟨G,e,Same.refl _,(λ_ z=>by cases z),λ_ h=>.inl h⟩
 |b::bs,G,e,h=>by
  obtain⟨⟨⟨ys,hy⟩,n,r⟩,h⟩:=List.forall_mem_cons.mp h
  obtain⟨e1,m1⟩:=e.show hy n r
  obtain⟨G2,e2,m2,q,nw⟩:=Ok.shows e1 h
  refine⟨G2,e2,m1.trans m2,List.forall_mem_cons.mpr ⟨(m2 _ _ bJ).trans hy.symm,q⟩,λc hc=>?_⟩
  rcases nw c hc with z|z
  .by_cases w:c=b
   .exact .inr (w▸List.mem_cons_self ..)
   .rw[aD w]at z; exact .inl z
  .exact .inr (List.mem_cons_of_mem _ z)
end
noncomputable def cR(a:VX aB):VE (v8 aB) where
 ck:=a.ck
 cs:=a.cs
 ok q o h:=(a.ok q o h).imp λσ H Q=>bD λR ρ G F e h=>⟨R,ρ,G,F,e,h.run (aC.refl (G:=G)) λp h v G1 H1 F1 bs e1 s1 v1=>by
  obtain⟨G2,e2,m,q,nw⟩:=e1.shows λb hb=>⟨v1.dr.lst b hb,(v1.al b hb).2.1,(v1.al b hb).2.2.1⟩
  have r:=v1.dr.reps m q
  cases r with
  |cons r _=>exact h v G2 H1 F1 e2 ⟨s1.gg.trans m,s1.fr,λb z=>(nw b z).elim (s1.nw b) λz=>.inr (v1.al b z).1,s1.nf,s1.dm⟩ (.low r)⟩
theorem U0{α : Type}{l:List α}(h:(!l.isEmpty)=true):∃e es,l=e::es:=by
 cases l with
 |nil=>cases h
 |cons e es=>exact⟨e,es,rfl⟩
theorem U3{o:Expr}{name:Str}{apos pos:Pos}{args:List Expr}{env:Env}(hb:attributeBase o name env (eval o env)=eval o env)(hf:methodCallForm (args.length+([]:List Keyword).length) (backTo pos (starEach args env)) (backToKw pos (keywordEach [] env))=true)(hl:(apos.endLine == pos.line)=true):eval (.Call (.Attribute o name apos) args [] pos) env=(do
   let ov <-eval o env
   standAt apos.atName
   let(f,first) <-holding [ov] (getMethod ov name (do return (<-importBound o env).getD true))
   callWith pos f first (backTo pos (starEach args env)) (backToKw pos (keywordEach [] env))):=by
 rw[arm_eval_Call,hb]
 unfold methodCall calleeOf methodCallPos
 rw[hf,hl]
 rfl
noncomputable def Bb(i:Nat)(c m:Str)(f:FM)(fa:AF):WF:=λρ=>(jz ρ i c).bind λz=>if(z.2.lookup m).isNone=true then oJ i f fa ρ else .bad
theorem U4{cl:Str->Addr}{E:XK}{X:Cx}{C:Addr}(kc:jd (aq X.K) c C)(hn:∀ρ p,fa ρ=.ok p->p.1.length=n)(h:Tw (tx cl E X) (Bb i c m f fa) σ H Q):DY C m (mL X.K cl (n+1) f) [] E (ux i) (Ta (tx cl E X) fa) σ H Q:=by
 obtain⟨R,ρ,G,F,e,h⟩:=h
 obtain⟨z,k0,h⟩:=h.okb (tH _ _ _)
 have k0:=tG k0
 split at h
 case isFalse=>exact h.elim
 rename_i nn
 obtain⟨a,hi,q⟩:=Uv hn ⟨R,ρ,G,F,e,h⟩
 have zl:=e.sl i
 rw[k0]at zl
 obtain⟨a',dx,C',xs,bs,h1,_,_,_,_,jh,h4,_,d⟩:=zl
 rw[hi]at h1
 cases h1
 cases oM jh kc
 exact⟨_,hi,a,dx,xs,rfl,h4,d.no (by simpa using nn),q⟩
noncomputable def U5(i:Nat)(c m:Str)(ps:List Str)(f:FM)(l:Nat)(as:VA gF):VX (Bb i c m f gF) where
 ck Γ e:=gC e λfn es kw q=>jL fn λob b p=>atName ob λx _=>aQ kw (d8 Γ i x&&b == m&&es.length+1 == ps.length&&decide (l <= Γ.k) && !es.isEmpty&&as.ck Γ es&&decide (es.length<30)&&p.endLine == q.line)
 cs:=.mt c m ps f l::as.cs
 ok q o h:=by
  walk_at "O"
  simp only[an]at h
  obtain⟨⟨⟨⟨⟨⟨⟨h1,h2⟩,h3⟩,h4⟩,h5⟩,h6⟩,h7⟩,h8⟩:=h
  cases eq_of_beq h2
  obtain⟨⟨C,g,fd,kc,cc,mm,fo,bd⟩,q⟩:=List.forall_mem_cons.mp q
  obtain⟨e,es,rfl⟩:=U0 h5
  obtain⟨pa,la,na⟩:=as.ok q o h6
  rw[<-eq_of_beq h3]at fo
  exact(ach (fV o h1) cc mm fo (o.r.mono (of_decide_eq_true h4)) bd .nil o.e pa (iH (na _ (List.mem_cons_self ..))) (kj (λy m=>na y (List.mem_cons_of_mem _ m)) _) (U3 rfl (Rz na (of_decide_eq_true h7)) h8)).imp λ_ _ _=>U4 kc la
noncomputable def U6(i:Nat)(c m:Str)(f:FM)(l:Nat):VX (Bb i c m f fO) where
 ck Γ e:=gC e λfn es kw q=>jL fn λob b p=>atName ob λx _=>aQ es (aQ kw (d8 Γ i x&&b == m&&decide (l <= Γ.k)&&p.endLine == q.line))
 cs:=[.mt c m ["self"] f l]
 ok q o h:=by
  walk_at "O"
  simp only[an]at h
  obtain⟨⟨⟨h1,h2⟩,h4⟩,h8⟩:=h
  cases eq_of_beq h2
  obtain⟨C,g,fd,kc,cc,mm,fo,bd⟩:=q _ (List.mem_cons_self ..)
  exact(aci (fV o h1) cc mm fo (o.r.mono (of_decide_eq_true h4)) bd .nil o.e (U3 rfl rfl h8)).imp λ_ _ _ h=>by
   obtain⟨_,hv,a,dx,fs,e1,e2,e3,R,ρ,G,F,e,h⟩:=U4 (n:=0) kc (λρ p h=>(by cases h; rfl)) h
   exact⟨_,hv,a,dx,fs,e1,e2,e3,h [] G _ F e .refl .nil⟩
noncomputable def Jv(g:Str)(ps:List Str)(f:FM)(l:Nat)(i:Nat)(as:VA gF):VX (oJ i f gF) where
 ck Γ e:=gC e λfn l' kw _=>atName fn λy _=>aP l' λob es=>atName ob λx _=>aQ kw (y == g&&ju Γ y&&d8 Γ i x&&es.length+1 == ps.length&&decide (l <= Γ.k)&&as.ck Γ es)
 cs:=.fm g ps f l::as.cs
 ok q o h:=by
  walk_at "O"
  simp only[an]at h
  obtain⟨⟨⟨⟨⟨h1,h2⟩,h3⟩,h4⟩,h5⟩,h6⟩:=h
  cases eq_of_beq h1
  obtain⟨D,q⟩:=List.forall_mem_cons.mp q
  obtain⟨pa,la,na⟩:=as.ok q o h6
  obtain⟨d,fd,d1,d2,d3,d4⟩:=iI.mono D (of_decide_eq_true h5)
  rw[<-eq_of_beq h4]at d1
  exact(Eb d1 o.r (dz o h2).1 d4 d3 d2 .nil o.e (rA (fV o h3) pa rfl) (dz o h2).2 rfl (kj na _)).imp λσ H Q h=>by
   obtain⟨a,hi,h⟩:=Uv la h
   exact⟨_,hi,h⟩
noncomputable def tM(i:Nat)(c:Str)(f:FM)(fa:AF):SF:=λρ=>(fa ρ).bind λp=>(cls p.1).bind λts=>(f (.ob true c []) ts).bind λz=>match z with
 |(.non,.ob true d fs)=>if d=c then .ok (.nx,p.2.set i (.ob false c fs))else .bad
 |_=>.bad
theorem agn{cl:Str->Addr}{E:XK}{X:Cx}{C:Addr}{D:Ends}(kc:jd (aq X.K) c C)(hn:∀ρ p,fa ρ=.ok p->p.1.length=n)(h:Ts (tx cl E X) (tM i c f fa) D σ H):jZ (Oi C (mL X.K cl (n+1) f) [] E (Ta (tx cl E X) fa)) (jY i) D σ H:=by
 obtain⟨R,ρ,G,F,e,h⟩:=h
 show Ta (tx cl E X) fa σ H λvs H1=>∀x dx,H1 x=none->H1 dx=none->dx≠x->mL X.K cl (n+1) f (.ref x::(vs++[])) (upd (upd H1 dx (.own x)) x (.ins C dx [])) (λv H2=>v=.non/\D.nx (σ.set i (some (.ref x))) H2) E
 cases ek:fa ρ with
 |bad=>rw[tM,ek]at h; exact h.elim
 |ex c=>exact⟨R,ρ,G,F,e,by rw[tM,ek]at h; rw[ek]; exact h⟩
 |ok p =>
 refine⟨R,ρ,G,F,e,?_⟩
 simp only[tM,ek,Rs.bind]at h
 rw[ek]
 intro vs G1 H1 F1 e1 s1 v1 x dx hx hd ne
 obtain⟨ts,k1,h⟩:=h.okb (nW _)
 obtain⟨G2,e2,s2,_,r⟩:=e1.vis e s1 v1 k1
 rw[List.append_nil]
 have hd':upd H1 dx (.own x) x=none:=by rw[aD (Ne.symm ne)]; exact hx
 have up:Same H1 (upd (upd H1 dx (.own x)) x (.ins C dx [])):=(fD hd _).trans (fD hd' _)
 have gx:=e2.sub.free hx
 have gd:=e2.sub.free hd
 have nw:∀b,upd (upd H1 dx (.own x)) x (.ins C dx []) b=none->H1 b=none:=λb h=>by
  cases q:H1 b with
  |none=>rfl
  |some o=>rw[up b o q]at h; cases h
 have v9:∀b∈[x,dx],H1 b=none/\G2 b=none:=List.forall_mem_cons.mpr ⟨⟨hx,gx⟩,List.forall_mem_cons.mpr ⟨⟨hd,gd⟩,λ_ z=>by cases z⟩⟩
 refine⟨G2,x,[x,dx],.ob true c [],vs,ts,rfl,by rw[List.length_cons,v1.length,hn ρ p ek],r,e2.sub.trans up,(e2.tb.new hd).new hd',e2.tg,List.mem_cons_self ..,λb hb=>(v9 b hb).2,⟨x,dx,C,[],[],rfl,rfl,by simp[Ne.symm ne],⟨λ_=>rfl,λ_=>rfl⟩,λb hb z=>?_,kc,bJ,by rw[aD ne]; exact bJ,.nil⟩,?_⟩
 .cases List.mem_singleton.mp hb
  exact ne z
 cases ef:f (.ob true c []) ts with
 |bad=>rw[ef]at h; exact h.elim
 |ex c=>rw[ef]at h; exact λH' q=>h H' (s2.back ⟨λb o h n t=>q.fr b o (up b o h) (λz=>by rw[(v9 b (gH.mp z)).1]at h; cases h) t,q.tb⟩)
 |ok z =>
  simp only[ef,Rs.bind]at h
  split at h
  case h_2=>exact h.elim
  split at h
  case isFalse=>exact h.elim
  rename_i d fs dc
  subst dc
  intro v G' H' fp' m
  have nt:∀{b},H1 b=none->¬Tb (tx cl E X).K b:=λh t=>by obtain⟨ps,q⟩:=e2.tb.bO t; rw[h]at q; cases q
  have nf:∀b∈fp',H1 b=none:=λb hb=>(m.st.nf b (gH.mpr hb)).elim (nw b) λz=>(v9 b (gH.mp z)).1
  have nG:∀b,G' b≠none->G2 b≠none\/H1 b=none:=λb h=>(m.st.nw b h).imp id λz=>z.elim (nw b) λz=>(v9 b (gH.mp z)).1
  have fr:∀b o,H1 b=some o->¬Tb (tx cl E X).K b->H' b=some o:=λb o h t=>m.st.fr b o (up b o h) (λz=>by rw[(v9 b (gH.mp z)).1]at h; cases h) t
  have dm:∀b,H' b=none->H1 b=none:=λb h=>nw b (m.st.dm b h)
  obtain⟨x1,Bc,C1,xs1,Bd,h1,rfl,nd,m1,_,Ju,r1⟩:=m.sl
  cases h1
  obtain⟨_,hv⟩:=m.vl
  have vr:v=.non:=by
   have d:=hv.dr
   cases d with
   |cl n r _=>cases r; rfl
  refine⟨vr,?_⟩
  have sl:dw (tx cl E X).K R G' H' (some (some (.ref x))) (x::Bc::Bd) (some (.ob false _ fs)):=⟨x,Bc,C1,xs1,Bd,rfl,rfl,nd,⟨λz=>(e2.rn hx z).elim,λz=>by cases z⟩,λb hb=>e2.rn (nf b (List.mem_cons_of_mem _ hb)),Ju,r1⟩
  have s3:∀F',(∀b,Fn F' b->b∈x::Bc::Bd\/Fn F1 b)->aC (tx cl E X).K G2 H1 F1 G' H' F':=λF' hF=>⟨m.st.gg,λb o h _ t=>fr b o h t,λb h=>(nG b h).imp id .inl,λb h=>(hF b h).imp (nf b) id,dm⟩
  by_cases li:i<p.2.length
  .refine h _ G' H' (cW F1 i (x::Bc::Bd)) (e2.one i _ (by rw[List.length_set,List.length_set,e2.len]) (λj n=>⟨fL n,fL n⟩) m.st.gg m.sub m.tb (λb h=>(nG b h).imp id λz=>⟨λj _ y=>e2.fs z ⟨j,y⟩,nt z,e2.rn z⟩) (λj n b hb o h=>fr b o h λt=>?_) (λb h z=>(e2.rg b h).2 (dm b z)) (λb hb=>⟨m.hid b hb,λj _ y=>e2.fs (nf b hb) ⟨j,y⟩⟩) (by rw[eO li,eO (e2.len▸li)]; exact sl)) (s2.trans (s3 _ λb z=>(jw z).imp id λ⟨j,_,z⟩=>⟨j,z⟩))
   obtain⟨_,q,mu⟩:=e2.fl ⟨j,hb⟩
   exact e2.tb.nm q mu t
  .obtain⟨e3,s4⟩:=e2.grow ⟨m.st.gg,fr,m.sub,λ_=>m.tb,nG⟩
   rw[nZ li]at h
   show D.nx (σ.set i (some (.ref x))) H'
   rw[nZ (e2.len▸li)]
   exact h σ G' H' F1 e3 (s2.trans s4)
noncomputable def sNw(i:Nat)(c:Str)(ps:List Str)(f:FM)(l:Nat)(as:VA gF):VS (tM i c f gF) where
 ck Γ e:=jr e λaK v _=>aP aK λbA bH=>atName bA λx _=>aQ bH (gC v λfn es kw _=>atName fn λy _=>aQ kw (vm Γ i x&&y == c&&ju Γ y&&es.length+1 == ps.length&&decide (l+1 <= Γ.k) && !es.isEmpty&&as.ck Γ es))
 cs:=.mk c ps f l::as.cs
 ok q o h:=by
  walk_at "O"
  simp only[an]at h
  obtain⟨⟨⟨⟨⟨⟨h1,h2⟩,h3⟩,h4⟩,h5⟩,h6⟩,h7⟩:=h
  cases eq_of_beq h2
  obtain⟨w1,w2,w3⟩:=z9 o h1
  obtain⟨⟨C,g,fd,kc,mg,M,fo,bd⟩,q⟩:=List.forall_mem_cons.mp q
  obtain⟨e,es,rfl⟩:=U0 h6
  obtain⟨pa,la,na⟩:=as.ok q o h7
  rw[<-eq_of_beq h4]at fo
  exact(Dq o.d w1 w2 (acn M fo (o.r.mono (of_decide_eq_true h5)) (dz o h3).1 mg bd .nil o.e pa (dz o h3).2 (iH (na _ (List.mem_cons_self ..))) (kj (λy m=>na y (List.mem_cons_of_mem _ m)) _)) rfl w3).imp λ_ _ _=>agn kc la
section
variable {K:PySem.W.Frag}{R:Addr->Prop}{ρ : En}{σ : St}{G H:Hp}{F:Fp}{k c:Str}{m:Nat}{U:Tr}{ts:List Tr}{fs:List (Str × aJ)}{l:Bool}
theorem bB.at:∀{fs:List (Str × aJ)} {xs:List (Str × V)} {bs:List Addr},bB K G H xs fs bs->bs.Nodup->fs.lookup k=some (.dp ts)->ts[m]?=some U->∃b ys v cs,xs.lookup k=some (.ref b)/\H b=some (.lst ys)/\ys.length=ts.length/\ys[m]?=some v/\DR K G H [v] [U] cs/\cs.Nodup/\(∀c∈cs,c∈bs)/\∀G' H' U',Same G G'->(∀b∈bs,b∉cs->∀o,H b=some o->H' b=some o)->DR K G' H' [v] [U'] cs->bB K G' H' xs (cN k (.dp (ts.set m U')) fs) bs
 | [],_,_,_,_,q,_=>by cases q
 |(g,x)::fs,xs,bs,h,nd,q,hm=>by
  obtain⟨w,ys,c,d,rfl,rfl,p,r⟩:=h.split
  obtain⟨n1,n2,n3⟩:=List.nodup_append.mp nd
  rw[List.lookup_cons]at q ⊢
  show ∃b ys1 v cs,_/\_/\_/\_/\_/\_/\_/\∀G' H' U',_->_->_->bB K G' H' ((g,w)::ys) (if g=k then(g,.dp (ts.set m U'))::fs else(g,x)::cN k (.dp (ts.set m U')) fs) (c++d)
  by_cases e:g=k
  .subst e
   simp only[beq_self_eq_true,Option.some.injEq]at q ⊢
   subst q
   obtain⟨b,zs,ds,rfl,rfl,hb,dq⟩:=p
   obtain⟨m1,m2⟩:=List.nodup_cons.mp n1
   obtain⟨v,cs,g1,g2,g3,g4,g5⟩:=dq.at m2 hm
   refine⟨b,zs,v,cs,rfl,hb,dq.length,g1,g2,g3,λc hc=>List.mem_append_left _ (List.mem_cons_of_mem _ (g4 c hc)),λG' H' U' s fr z=>?_⟩
   rw[if_pos trivial]
   have nc:∀c∈d,c∉cs:=λc hc z=>n3 c (List.mem_cons_of_mem _ (g4 c z)) c hc rfl
   exact .dp (fr b (List.mem_append_left _ (List.mem_cons_self ..)) (λz=>m1 (g4 b z)) _ hb) (g5 G' H' U' s (λc hc n=>fr c (List.mem_append_left _ (List.mem_cons_of_mem _ hc)) n) z) (r.mono s λc hc=>fr c (List.mem_append_right _ hc) (nc c hc))
  .rw[beq_false_of_ne (Ne.symm e)]at q ⊢
   obtain⟨b,zs,v,cs,h1,h2,h3,h4,h5,h6,h7,h8⟩:=bB.at r n2 q hm
   refine⟨b,zs,v,cs,h1,h2,h3,h4,h5,h6,λc hc=>List.mem_append_right _ (h7 c hc),λG' H' U' s fr z=>?_⟩
   rw[if_neg e]
   have nc:∀y∈c,y∉cs:=λy hc z=>n3 y hc y (h7 y z) rfl
   refine .cons ?_ (h8 G' H' U' s (λy hy=>fr y (List.mem_append_right _ hy)) z)
   cases x with
   |sh T=>exact⟨p.1,p.2.mono s⟩
   |dp us =>
    obtain⟨b',zs',ds',rfl,rfl,hb',dq'⟩:=p
    exact⟨b',zs',ds',rfl,rfl,fr b' (List.mem_append_left _ (List.mem_cons_self ..)) (nc b' (List.mem_cons_self ..)) _ hb',dq'.mono s λy hy=>fr y (List.mem_append_left _ (List.mem_cons_of_mem _ hy)) (nc y (List.mem_cons_of_mem _ hy))⟩
theorem Ok.putK(e:Ok K R ρ σ G H F)(q : ρ[i]?=some (.ob l c fs))(g:fs.lookup k=some (.dp ts))(hm:ts[m]?=some U):∃a dx C xs b1 zs v cs,σ[i]?=some (some (.ref a))/\jd K c C/\H a=some (.ins C dx xs)/\xs.lookup k=some (.ref b1)/\H b1=some (.lst zs)/\zs.length=ts.length/\zs[m]?=some v/\cs.Nodup/\DR K G H [v] [U] cs/\∀b ys ys' U',H b=some (.lst ys)->b∈cs->DR K G (upd H b (.lst ys')) [v] [U'] cs->Ok K R (ρ.set i (.ob l c (cN k (.dp (ts.set m U')) fs))) σ G (upd H b (.lst ys')) F/\aC K G H F G (upd H b (.lst ys')) F:=by
 have z:=e.sl i
 rw[q]at z
 obtain⟨a,dx,C,xs,bs,h1,h2,nd,m1,m2,kc,h4,h5,d⟩:=z
 obtain⟨n1,n2⟩:=List.nodup_cons.mp (h2▸nd)
 obtain⟨n3,n4⟩:=List.nodup_cons.mp n2
 obtain⟨b1,zs,v,cs,g1,g2,g3,g4,g5,g6,g7,g8⟩:=d.at n4 g hm
 refine⟨a,dx,C,xs,b1,zs,v,cs,h1,kc,h4,g1,g2,g3,g4,g6,g5,λb ys ys' U' hb bc q'=>?_⟩
 have fb:Fn F b:=⟨i,by rw[h2]; exact List.mem_cons_of_mem _ (List.mem_cons_of_mem _ (g7 b bc))⟩
 have nab:a≠b:=λz=>n1 (z▸List.mem_cons_of_mem _ (g7 b bc))
 have ndb:dx≠b:=λz=>n3 (z▸g7 b bc)
 have gb:=e.hid b fb
 refine⟨?_,Same.refl _,λc o h n t=>by rw[aD (show c≠b from λz=>n (z▸fb))]; exact h,λ_ h=>.inl h,λ_ h=>.inr h,λc h=>?_⟩
 .have eF:cW F i (F i)=F:=by funext j; unfold cW; split <;> first|rfl|rw[‹j=i›]
  refine eF▸e.one i (F i) (by rw[List.length_set,e.len]) (λj n=>⟨fL n,rfl⟩) (Same.refl _) (λc o h=>?_) (e.tb.upd hb) (λc h=>.inl h) (λj n c hc o h=>?_) (λc h z=>?_) (λc h=>⟨e.hid c ⟨i,h⟩,λj n z=>n (e.di j i c z h)⟩) ?_
  .rw[aD λz=>by rw[z,gb]at h; cases h]; exact e.sub c o h
  .rw[aD λz=>n (e.di j i c hc (by rw[h2,z]; exact List.mem_cons_of_mem _ (List.mem_cons_of_mem _ (g7 b bc))))]; exact h
  .by_cases y:c=b
   .subst y; rw[bJ]at z; cases z
   .rw[aD y]at z; exact(e.rg c h).2 z
  .rw[eO (List.getElem?_eq_some_iff.mp q).1]
   exact⟨a,dx,C,xs,bs,h1,h2,nd,m1,m2,kc,by rw[aD nab]; exact h4,by rw[aD ndb]; exact h5,g8 _ _ _ (Same.refl _) (λc hc n o h=>by rw[aD (show c≠b from λz=>n (z▸bc))]; exact h) q'⟩
 .by_cases y:c=b
  .subst y; rw[bJ]at h; cases h
  .rw[aD y]at h; exact h
end
noncomputable def qz(fs:List (Str × aJ))(k:Str):Rs (List Tr):=match fs.lookup k with
 |some (.dp ts)=>.ok ts
 |_=>.bad
theorem ago(h:qz fs k=.ok T):fs.lookup k=some (.dp T):=by
 unfold qz at h
 split at h <;> cases h
 assumption
theorem agp(fs:List (Str × aJ))(k c:Str):qz fs k ≠ .ex c:=by
 unfold qz
 split <;> (intro z; cases z)
noncomputable def U7(i:Nat)(c k:Str)(fk fj:QF)(fe:EF):SF:=λρ=>(fe ρ).bind λp=>(jE p.1).bind λT=>(jz p.2 i c).bind λo=>(qz o.2 k).bind λts=>(c7 (fk p.2)).bind λq=>(fZ ts q).bind λz=>match z.2 with
 |.lst us=>(c7 (fj p.2)).bind λj=>(fZ us j).bind λy=>if(bh T&&bh y.2)=true then .ok (.nx,p.2.set i (.ob o.1 c (cN k (.dp (ts.set z.1 (.lst (us.set y.1 T)))) o.2)))else .bad
 |_=>.bad
noncomputable def sSo(i:Nat)(c k:Str)(m j:Nat)(a:VE aB):VS (U7 i c k (oY m) (oY j) aB) where
 ck Γ e:=jr e λaK v _=>aP aK λbA bH=>jK bA λcJ eE _=>jK cJ λfW jN _=>jL fW λob b _=>atName ob λx _=>atName jN λy _=>atName eE λz _=>aQ bH (d8 Γ i x&&b == k&&d8 Γ m y&&d8 Γ j z&&kW v&&a.ck Γ v)
 cs:=.cz c k::a.cs
 ok q o h:=by
  walk_at "O"
  simp only[an]at h
  obtain⟨⟨⟨⟨⟨h1,hk⟩,h2⟩,h3⟩,h4⟩,h5⟩:=h
  cases eq_of_beq hk
  obtain⟨⟨C',jh,c1,c2⟩,q⟩:=List.forall_mem_cons.mp q
  refine(xY (a.ok q o h5) (Dp (yw yx (Ob (fV o h1) rfl) (fV o h2) (zR rfl)) (fV o h3) set_list (Jc rfl)) (by unfold swapsWithSole; exact oh h4) rfl rfl).imp λD σ H=>bD λR ρ G F e h=>cZ e .refl h λp h v G1 H1 F1 e1 s1 v1=>?_
  obtain⟨T,kT,h⟩:=h.okb (zU _)
  obtain⟨G2,e2,s2,_,rv⟩:=e1.pU e s1 v1 kT
  obtain⟨ob,k0,h⟩:=h.okb (tH _ _ _)
  have k0:=tG k0
  obtain⟨ts,kd,h⟩:=h.okb (agp _ _)
  have kd:=ago kd
  obtain⟨kk,g1,h⟩:=jP h
  obtain⟨⟨m,u⟩,k2,h⟩:=h.okb (Am _ _)
  cases u <;> try exact h.elim
  obtain⟨jj,g2,h⟩:=jP h
  obtain⟨⟨m',u'⟩,k3,hf⟩:=h.okb (Am _ _)
  obtain⟨z,rfl,h5,h6⟩:=Al k2
  obtain⟨z',rfl,h7,h8⟩:=Al k3
  dsimp only at hf
  split at hf
  case isFalse=>exact hf.elim
  rename_i nl
  obtain⟨n1,n2⟩:=an.mp nl
  obtain⟨a,dx,C,fl,b1,zs,v',cs,q1,kc,q2,vJ,agq,q3,q4,nd,q5,q7⟩:=e2.putK k0 kd h6
  cases oM kc jh
  cases q5 with
  |cl n _ _=>unfold bh at n; cases n
  | @rw b ys _ cs _ _ bs hb dq r0 =>
  cases r0
  have nb:=(List.nodup_cons.mp nd).1
  rw[List.append_nil]at nb
  obtain⟨e3,s3⟩:=q7 b ys (ys.set m' v) (.lst (_root_.List.set _ m' T)) hb (List.mem_cons_self ..) (.rw bJ ((dq.set m' n1 (λU h=>by rw[h8]at h; cases h; exact n2) rv).mono (Same.refl _) λc hc o h=>(by rw[aD (show c≠b from λz=>nb (z▸hc))]; exact h)) .nil)
  refine⟨_,q1,a,C',dx,fl,_,rfl,q2,c1,c2,vJ,_,Ao e2 g1,.inl ⟨b1,zs,z,.ref b,rfl,rfl,aL.of agq,?_,_,Ao e2 g2,b,ys,z',m',rfl,rfl,hb,by rw[dq.length]; exact h7,hf σ G2 _ F1 e3 (s2.trans s3)⟩⟩
  unfold dX
  rw[q3,h5]
  exact q4
noncomputable abbrev Bf(st:Stmt)(B R:List Str)(T:VM g):Bool:=tu (eZ st) (psz st) st&&qx (psz st) st&&T.ck (fG (dJ T.cs) (eZ st) st B R []) (eN st)
theorem Jw{x q:Str}{st:Stmt}{B R:List Str}{f:Addr}{fd:FuncData}{T:VM g}(kn:Kn c B R)(h:∀y∈tb,y.fU c)(F:jm c.K x q st f fd)(h1:Bf st B R T=true)(e:T.cs=oE tb T.cs):dH c.P c.w c.K c.mg c.base (eX c.P c.w) (dJ T.cs+1) f fd (psz st) (mL c.K c.cl (psz st).length (iK (eZ st).length g))/\Binds c.K fd (psz st) []:=by
 obtain⟨h1,h2⟩:=an.mp h1
 obtain⟨h1,h3⟩:=an.mp h1
 obtain⟨S,hn⟩:=Aq h1
 exact⟨F.Qa S (λvs H Q E ⟨_,_,_,_,_,_,_,h,_⟩=>h) λcdv A outer s H vs Q E hr q=>⟨_,T.ok (Av h e) (⟨rfl,rfl,S.nd,rfl,hr,yJ,kn.B,λx m=>⟨kn.R x m,yI⟩,kn.x,rfl,(λz=>by cases z),(λ_ z=>nomatch z)⟩:Ox c.cl (fG (dJ T.cs) (eZ st) st B R []) E (gq (eX c.P c.w) c.P c.w c.K c.mg c.base (eZ st) _ (bG st) f cdv A outer s H E)) h2,agl hn q⟩,F.binds (TV (S.pre▸S.nd.sublist (List.take_sublist ..)) h3)⟩
theorem Jx{st:Stmt}{B R:List Str}(T:VM g)(kn:Kn c B R)(h:∀y∈tb,y.fU c)(a:At c.K c.mg x st)(h1:Bf st B R T=true:=by kernel_rfl)(e:T.cs=oE tb T.cs:=by kernel_rfl):∀y ∈ .fm x (psz st) (iK (eZ st).length g) (dJ T.cs+1)::tb,y.fU c:=by
 obtain⟨f,fd,F,m⟩:=a
 obtain⟨k1,k2⟩:=Jw kn h F h1 e
 exact List.forall_mem_cons.mpr ⟨⟨f,fd,k1,k2,F.kp,m⟩,h⟩
noncomputable def ClsAt(K:PySem.W.Frag)(mg:Str->Option Value)(n:Str)(C:Addr):Prop:=jd (aq K) n C/\Cls K C/\mg n=some (.ref C)
noncomputable def tO(K:PySem.W.Frag)(C:Addr)(m q:Str)(st:Stmt):Prop:=∃f fd,jm K m q st f fd/\Meth K C m f
noncomputable def Jy(K:PySem.W.Frag)(C:Addr)(q:Str)(st:Stmt):Prop:=∃f fd,jm K "__init__" q st f fd/\Mk K C f
theorem agr{K:PySem.W.Frag}{mg:Str->Option Value}{h:Heap}{n:Str}{C:Addr}{o:Obj}(X:K.In h)(G:h.Ns mainGlobals mg)(a:PySem.W.nsIn K mainGlobals n=some (some (.ref C)))(l:K.lookup mainGlobals=some o)(n1:(o.cls == .type "list")=false) (pg:PySem.W.plainGet K C Str.empty=true) (hd:PySem.W.hasDictIn K C=true) (po:PySem.W.plainOver K C=true) (sa:PySem.W.findIn K (.ref C) "__setattr__" = some (some (.builtin "object.__setattr__"))):ClsAt K mg n C:=⟨(QX l n1).trans a,⟨pg,hd,po,sa⟩,PySem.W.mg_of X G a⟩
theorem Bg{K:PySem.W.Frag}{C f:Addr}{m q:Str}{st:Stmt}{od an:Option Addr}{sl:Array (Option Value)}{oc kV dc pm cd ct:Value}(a:PySem.W.findIn K (.ref C) m=some (some (.ref f)))(i:PySem.W.isFn K (.ref f)=true)(l:K.lookup f=some ⟨oc,od,.func (PySem.W.fnOf m q (iG st) (eN st) (bG st) .none kV dc pm an cd ct),sl⟩)(c:PySem.W.codeIn K cd q=true)(k:PySem.W.keepIn K (.ref f)=true):tO K C m q st:=⟨f,_,yC (st:=st) l c k,a,i,k⟩
theorem ags{K:PySem.W.Frag}{C f:Addr}{q:Str}{st:Stmt}{od an:Option Addr}{sl:Array (Option Value)}{oc kV dc pm cd ct:Value}(a:PySem.W.findIn K (.ref C) "__init__" = some (some (.ref f))) (i:PySem.W.isFn K (.ref f)=true) (l:K.lookup f=some ⟨oc,od,.func (PySem.W.fnOf "__init__" q (iG st) (eN st) (bG st) .none kV dc pm an cd ct),sl⟩) (c:PySem.W.codeIn K cd q=true) (k:PySem.W.keepIn K (.ref f)=true) (m:PySem.W.makesIn K C=true) (kc:PySem.W.keepIn K (.ref C)=true):Jy K C q st:=⟨f,_,yC (st:=st) l c k,m,a,i,kc⟩
theorem Bh{st:Stmt}{B R:List Str}{C:Addr}(T:VM g)(kn:Kn c B R)(h:∀y∈tb,y.fU c)(z:ClsAt c.K c.mg n C)(a:tO c.K C m q st)(h1:Bf st B R T=true:=by kernel_rfl)(e:T.cs=oE tb T.cs:=by kernel_rfl):∀y ∈ .mt n m (psz st) (iK (eZ st).length g) (dJ T.cs+1)::tb,y.fU c:=by
 obtain⟨f,fd,F,M⟩:=a
 obtain⟨k1,k2⟩:=Jw kn h F h1 e
 exact List.forall_mem_cons.mpr ⟨⟨C,f,fd,z.1,z.2.1,M,k1,k2⟩,h⟩
theorem agt{st:Stmt}{B R:List Str}{C:Addr}(T:VM g)(kn:Kn c B R)(h:∀y∈tb,y.fU c)(z:ClsAt c.K c.mg n C)(a:Jy c.K C q st)(h1:Bf st B R T=true:=by kernel_rfl)(e:T.cs=oE tb T.cs:=by kernel_rfl):∀y ∈ .mk n (psz st) (iK (eZ st).length g) (dJ T.cs+1)::tb,y.fU c:=by
 obtain⟨f,fd,F,M⟩:=a
 obtain⟨k1,k2⟩:=Jw kn h F h1 e
 exact List.forall_mem_cons.mpr ⟨⟨C,f,fd,z.1,z.2.2,M,k1,k2⟩,h⟩
noncomputable def agu(i:Nat)(f:WF):SF:=λρ=>(f ρ).bind λp=>.ok (.nx,p.2.set i (.dt p.1))
noncomputable def U8(ρ : En)(i:Nat):Rs Tr:=match ρ[i]? with
 |some (.dt T)=>.ok T
 |_=>.bad
noncomputable def agv(i:Nat)(p:List Nat)(T:Tr):SF:=λρ=>(U8 ρ i).bind λW=>match jW W p with
 |some (.lst us)=>if(bT us&&bh T&&decide (us.length<=100000))=true then .ok (.nx,ρ.set i (.dt (stP W p (.lst (us++[T])))))else .bad
 |_=>.bad
end L2
end
section
namespace L2
open PySem
noncomputable def WM(r:Rs (Tr × En))(Q:Tr->En->Prop):Prop:=∃T ρ,r=.ok (T,ρ)/\Q T ρ
noncomputable def cM(fl:Fl)(g:DM)(ρ : En):Rs (Tr × En):=match fl with
 |.nx=>g ρ
 |_=>.bad
noncomputable def Dk(T:Tr)(ρ : En):Rs (Tr × Sl):=match ρ with
 |.rf us::_=>.ok (T,.rf us)
 |.ob true c fs::_=>.ok (T,.ob true c fs)
 |_=>.bad
section
variable {ρ ρ1 ρ2:En}{fa:EF}{aa:AF}{f:WF}{g:DM}{s:SF}{c:BF}{F:FM}{T U Y:Tr}{ts us vs as:List Tr}{fs fs':List (Str × aJ)}{ps:List Rv}{x:Rv}{b l:Bool}{i j k' n:Nat}{u v:Int}{k d m:Str}{Q:Fl->En->Prop}{P:Tr->En->Prop}{S S' s1 s2:Sl}{p:List Nat}{z z0:Sl × Sl}{y:Bool × List (Str × aJ)}{fk fj:QF}{o:Tr × Sl}
theorem xFo(h : ρ[i]?=some (.ob l d fs))(e:fP fs k=.ok T):m6 i d k ρ=.ok (.v T false,ρ):=by
 unfold m6
 rw[h]
 exact(if_pos rfl).trans (bk e rfl)
theorem xFv(h : ρ[i]?=some (.vo d fs))(e:fP fs k=.ok T):m6 i d k ρ=.ok (.v T false,ρ):=by
 unfold m6
 rw[h]
 exact(if_pos rfl).trans (bk e rfl)
theorem tQ(h : ρ[i]?=some (.ob l d fs)):jz ρ i d=.ok (l,fs):=by
 unfold jz
 rw[h]
 exact if_pos rfl
theorem wFs(h:fa ρ=.ok (x,ρ1))(e:jE x=.ok T)(q : ρ1[i]?=some (.ob l d fs))(n:fs.length<999)(e':cN k (.sh T) fs=fs')(r : ρ1.set i (.ob l d fs') = ρ2)(t:Q .nx ρ2):W (UJ i d k fa ρ) Q:=by
 subst e' r
 exact⟨_,_,bk h (bk e (bk (tQ q) (if_pos n))),t⟩
theorem wFw(h:f ρ=.ok (.lst ts,ρ1))(q : ρ1[i]?=some (.ob l d fs))(n:fs.length<999)(e':cN k (.dp ts) fs=fs')(r : ρ1.set i (.ob l d fs') = ρ2)(t:Q .nx ρ2):W (UL i d k f ρ) Q:=by
 subst e' r
 exact⟨_,_,bk h (bk (tQ q) (if_pos n)),t⟩
theorem wFa(q : ρ[i]?=some (.ob l d fs))(g:fP fs k=.ok (.int u))(h:fa ρ=.ok (x,ρ))(e:dr ρ x=.ok (.int v))(n:fs.length<999)(e':cN k (.sh (.int (u+v))) fs=fs')(r : ρ.set i (.ob l d fs') = ρ2)(t:Q .nx ρ2):W (UW i d k fa ρ) Q:=by
 subst e' r
 exact⟨_,_,bk (tQ q) (bk g (bk h (bk e (bk (tQ q) (if_pos n))))),t⟩
theorem wSO{Z:Tr}(h:fa ρ=.ok (x,ρ1))(e:jE x=.ok T)(q : ρ1[i]?=some (.ob l d fs))(g:qz fs k=.ok ts)(c1:fk ρ1=.ok U)(c2:fZ ts U=.ok (n,.lst us))(c3:fj ρ1=.ok Y)(c4:fZ us Y=.ok (k',Z))(nl:bh T=true)(nm:bh Z=true)(e':cN k (.dp (ts.set n (.lst (us.set k' T)))) fs=fs')(r : ρ1.set i (.ob l d fs') = ρ2)(t:Q .nx ρ2):L2.W (U7 i d k fk fj fa ρ) Q:=by
 subst e' r
 refine⟨_,_,bk h (bk e (bk (tQ q) (bk g (bk (a:=U) (by rw[c1]; rfl) (bk c2 (bk (a:=Y) (by rw[c3]; rfl) (bk c4 (if_pos (by rw[nl,nm]; rfl))))))))),t⟩
theorem xCM(h0:lG ρ i=.ok z0)(h:aa ρ=.ok (ps,ρ1))(e:cls ps=.ok ts)(h1:lG ρ1 i=.ok (s1,S))(r:F S ts=.ok (T,S'))(q:back s1 S'=some s2)(w : ρ1.set i s2 = ρ2):oJ i F aa ρ=.ok (T,ρ2):=by
 subst w
 refine bk h0 (bk h (bk e (bk h1 (bk r ?_))))
 dsimp only
 rw[q]
theorem xMh(q : ρ[i]?=some (.ob l d fs))(n:(fs.lookup m).isNone=true)(h:oJ i F aa ρ=.ok (T,ρ1)):Bb i d m F aa ρ=.ok (T,ρ1):=bk (tQ q) ((if_pos n).trans h)
theorem xEs(h:f ρ=.ok (T,ρ1)):v8 f ρ=.ok (.v T false,ρ1):=bk h rfl
theorem wNw(h:aa ρ=.ok (ps,ρ1))(e:cls ps=.ok ts)(r:F (.ob true d []) ts=.ok (.non,.ob true d fs))(w : ρ1.set i (.ob false d fs) = ρ2)(t:Q .nx ρ2):L2.W (tM i d F aa ρ) Q:=by
 subst w
 exact⟨_,_,bk h (bk e (bk r (if_pos rfl))),t⟩
theorem wOt(h:f ρ=.ok (T,ρ1))(w : ρ1.set i (.dt T) = ρ2)(t:Q .nx ρ2):L2.W (agu i f ρ) Q:=by
 subst w
 exact⟨_,_,bk h rfl,t⟩
theorem aaL(q : ρ[i]?=some (.dt Y))(g:jW Y p=some (.lst us))(n:bT us=true)(n':bh T=true)(l:us.length<=100000)(w : ρ.set i (.dt (stP Y p (.lst (us++[T])))) = ρ2)(t:Q .nx ρ2):L2.W (agv i p T ρ) Q:=by
 subst w
 refine⟨_,_,bk (a:=Y) (by unfold U8; rw[q]) ?_,t⟩
 rw[g]
 exact if_pos (by rw[n,n',decide_eq_true l]; rfl)
theorem wRf{b':Bool}{fk:EF}(h:fa ρ=.ok (.v T b,ρ))(c : ρ[i]?=some (.rf (U::us)))(q:fk ρ=.ok (.v (.int 0) b',ρ))(e : ρ.set i (.rf (T::us)) = ρ2)(t:Q .nx ρ2):L2.W (Ji i fk fa ρ) Q:=by
 have cd:con ρ i=.ok (U::us):=by unfold con; rw[c]
 have u:bM i (T::us) ρ = ρ2:=by unfold bM; rw[c]; exact e
 refine⟨.nx,ρ2,bk h (bk (a:=[T]) rfl (bk cd (bk q (bk (a:=.int 0) rfl (bk (a:=(0:Int)) rfl (bk cd ?_)))))),t⟩
 dsimp only
 rw[show eH (U::us).length 0=some 0 by unfold eH; rw[if_pos (by lia),if_pos (by simp)]; rfl]
 exact u▸rfl
theorem mSq(h:L2.W (s ρ) λfl ρ1=>WM (cM fl g ρ1) P):WM (Uy s g ρ) P:=by
 obtain⟨fl,ρ1,e,T,ρ2,e',q⟩:=h
 exact⟨T,ρ2,bk e e',q⟩
theorem mSn(k:WM (g ρ) P):WM (cM .nx g ρ) P:=k
theorem mNo(k:P .non ρ):WM (Uw ρ) P:=⟨_,_,rfl,k⟩
theorem mIf(h:c ρ=.ok (b,ρ1))(k:WM (cB b f g ρ1) P):WM (hIf c f g ρ) P:=k.elim λT k=>k.elim λρ2 k=>⟨T,ρ2,bk h k.1,k.2⟩
theorem mT(h:b=true)(k:WM (f ρ) P):WM (cB b f g ρ) P:=by unfold cB; rw[if_pos h]; exact k
theorem mF(h:b=false)(k:WM (g ρ) P):WM (cB b f g ρ) P:=by unfold cB; rw[if_neg (by rw[h]; exact Bool.false_ne_true)]; exact k
theorem mRt(h:f ρ=.ok (T,ρ1))(k:P T ρ1):WM (f ρ) P:=⟨_,_,h,k⟩
theorem mFn(e:lH n S as = ρ)(h:WM (g ρ) λT ρ1=>Dk T ρ1=.ok o):iK n g S as=.ok o:=by
 subst e
 obtain⟨T,ρ1,h,k⟩:=h
 refine bk h ?_
 unfold Dk at k
 dsimp only
 split at k <;> cases k <;> rfl
end
end L2
end
section
namespace BH
open PySem L2
noncomputable abbrev U9:=(bC (sN (sW (Tv 1) (tK (aV oG (aj 1) (vC (.int 0)))) (b1 (RP 0 1 (ak (aj 1) (ak (jR (aj 0) (aj 1)) ao)))))) (b1 (aG (TY (ak (aj 0) ao)))))
noncomputable abbrev agw:SF:=by exists U9
noncomputable def Va:FP:=aM 2 agw
noncomputable abbrev Jz{f:AF}(a:VA f):=vF "common_divisor" ["one", "other"] Va 1 a
noncomputable abbrev Vb:=(bC (sI (tK (aV dK (aj 1) (vC (.int 0)))) (b1 (qm "NoBottom" (vC (.str "a fraction has no bottom of 0")))) b0) (bC (sA 2 (aE (Jz (ak (aj 0) (ak (aj 1) ao))))) (bC (sI (tK (aV mV (aj 1) (vC (.int 0)))) (b1 (sA 2 (aE (Gy (aj 2))))) b0) (b1 (aG (gD (ak (lB (aj 0) (aj 2)) (ak (lB (aj 1) (aj 2)) ao))))))))
noncomputable abbrev agx:SF:=by exists Vb
noncomputable def Vc:FP:=aM 3 agx
noncomputable abbrev Bj{f:AF}(a:VA f):=vF "fraction_of" ["top", "bottom"] Vc 2 a
noncomputable abbrev Vd:=(b1 (aG (Bj (ak (fB (bV (aA (aj 0) (vC (.int 0))) (aA (aj 1) (vC (.int 1)))) (bV (aA (aj 1) (vC (.int 0))) (aA (aj 0) (vC (.int 1))))) (ak (bV (aA (aj 0) (vC (.int 1))) (aA (aj 1) (vC (.int 1)))) ao)))))
noncomputable abbrev agy:SF:=by exists Vd
noncomputable def Ve:FP:=aM 2 agy
noncomputable abbrev agz{f:AF}(a:VA f):=vF "frac_sum" ["one", "other"] Ve 3 a
noncomputable abbrev Vf:=(b1 (aG (Bj (ak (lA (bV (aA (aj 0) (vC (.int 0))) (aA (aj 1) (vC (.int 1)))) (bV (aA (aj 1) (vC (.int 0))) (aA (aj 0) (vC (.int 1))))) (ak (bV (aA (aj 0) (vC (.int 1))) (aA (aj 1) (vC (.int 1)))) ao)))))
noncomputable abbrev agA:SF:=by exists Vf
noncomputable def Vg:FP:=aM 2 agA
noncomputable abbrev Vh{f:AF}(a:VA f):=vF "frac_less" ["one", "other"] Vg 3 a
noncomputable abbrev Vi:=(b1 (aG (Bj (ak (bV (aA (aj 0) (vC (.int 0))) (aA (aj 1) (vC (.int 0)))) (ak (bV (aA (aj 0) (vC (.int 1))) (aA (aj 1) (vC (.int 1)))) ao)))))
noncomputable abbrev agB:SF:=by exists Vi
noncomputable def Vj:FP:=aM 2 agB
noncomputable abbrev Vk{f:AF}(a:VA f):=vF "frac_times" ["one", "other"] Vj 3 a
noncomputable abbrev Vl:=(b1 (aG (Bj (ak (bV (aA (aj 0) (vC (.int 0))) (aA (aj 1) (vC (.int 1)))) (ak (bV (aA (aj 0) (vC (.int 1))) (aA (aj 1) (vC (.int 0)))) ao)))))
noncomputable abbrev agC:SF:=by exists Vl
noncomputable def Vm:FP:=aM 2 agC
noncomputable abbrev agD{f:AF}(a:VA f):=vF "frac_by" ["one", "other"] Vm 3 a
noncomputable abbrev Vo:=(b1 (aG (vK (aV mV (bV (aA (aj 0) (vC (.int 0))) (aA (aj 1) (vC (.int 1)))) (bV (aA (aj 1) (vC (.int 0))) (aA (aj 0) (vC (.int 1))))))))
noncomputable abbrev agE:SF:=by exists Vo
noncomputable def Vp:FP:=aM 2 agE
noncomputable abbrev JB{f:AF}(a:VA f):=vF "frac_below" ["one", "other"] Vp 1 a
noncomputable abbrev Vq:=(b1 (aG (vV .And (uA (T3 (aj 0)) (u1 .And (Q8 (T4 (aj 0))))))))
noncomputable abbrev agF:SF:=by exists Vq
noncomputable def Vr:FP:=aM 1 agF
noncomputable abbrev wg{f:AF}(a:VA f):=vF "is_whole" ["thing"] Vr 1 a
noncomputable abbrev Vs:=(bC (sI (tW .Or (wO (cQ (bL (Ay (aj 0)))) (w1 .Or (tK (aV oG (dB (ak (aj 0) ao)) (vC (.int 2))))))) (b1 (aG (vC (.bl false)))) b0) (bC (Ht (aj 0) (kO 2 (eU (gV 1) (eU (gV 2) kJ)))) (bC (sI (tW .Or (wO (cQ (bL (wg (ak (aj 1) ao)))) (w1 .Or (cQ (bL (wg (ak (aj 2) ao))))))) (b1 (aG (vC (.bl false)))) b0) (b1 (aG (vV .And (uA (vK (aV Jf (aj 2) (vC (.int 1)))) (u1 .And (vK (aV dK (Jz (ak (aj 1) (ak (aj 2) ao))) (vC (.int 1))))))))))))
noncomputable abbrev agG:SF:=by exists Vs
noncomputable def Vt:FP:=aM 3 agG
noncomputable abbrev Vu{f:AF}(a:VA f):=vF "is_fraction" ["thing"] Vt 2 a
noncomputable abbrev Vv:=(b1 (aG (vV .And (uA (Vu (ak (aj 0) ao)) (u1 .And (vK (rT jT jT (vC (.int 0)) (aA (aj 0) (vC (.int 0))) (aA (aj 0) (vC (.int 1))))))))))
noncomputable abbrev agH:SF:=by exists Vv
noncomputable def JC:FP:=aM 1 agH
noncomputable abbrev Vx{f:AF}(a:VA f):=vF "is_worth" ["thing"] JC 3 a
noncomputable abbrev Vy:=(bC (sI (tW .Or (wO (cQ (bL (Jh (aj 0)))) (w1 .Or (cQ (tK (rT jT jT (vC (.int 1)) (dB (ak (aj 0) ao)) (aj 1))))))) (b1 (aG (vC (.bl false)))) b0) (b1 (aG (vX (ak (gG (cC [none] ["part"] (cL (aj 0)) (gV 0) (Vx (ak (aj 0) ao)))) ao)))))
noncomputable abbrev agI:SF:=by exists Vy
noncomputable def Vz:FP:=aM 2 agI
noncomputable abbrev agJ{f:AF}(a:VA f):=vF "are_worths" ["thing", "most"] Vz 4 a
noncomputable abbrev VF:=(bC (sI (tW .Or (wO (cQ (bL (Jh (aj 0)))) (w1 .Or (cQ (tK (rT jT jT (vC (.int 1)) (dB (ak (aj 0) ao)) (vG "MOST_LISTS" (.int 4)))))))) (b1 (aG (vC (.bl false)))) b0) (bC (sI (cQ (bL (vX (ak (gG (cC [none] ["row"] (cL (aj 0)) (gV 0) (agJ (ak (aj 0) (ak (vG "MOST_THINGS" (.int 12)) ao))))) ao)))) (b1 (aG (vC (.bl false)))) b0) (b1 (aG (vX (ak (gG (cC [none,some 0] ["row", "thing"] (cL (aj 0)) (gV 0) (vK (aV dK (dB (ak (aj 0) ao)) (dB (ak (aA (aj 1) (vC (.int 0))) ao)))))) ao))))))
noncomputable abbrev agK:SF:=by exists VF
noncomputable def VH:FP:=aM 1 agK
noncomputable abbrev agL{f:AF}(a:VA f):=vF "is_book" ["thing"] VH 5 a
noncomputable abbrev VJ:=(bC (sA 1 (aE (vC (.int 1)))) (bC (sN (sF (cL (aj 0)) (kO 2 (eU (gV 2) (eU (gV 3) kJ))) (b1 (sA 1 (aE (lB (bV (aj 1) (aj 3)) (Jz (ak (aj 1) (ak (aj 3) ao))))))))) (b1 (aG (aj 1)))))
noncomputable abbrev agM:SF:=by exists VJ
noncomputable def VP:FP:=aM 4 agM
noncomputable abbrev agN{f:AF}(a:VA f):=vF "common_bottom" ["fractions"] VP 2 a
noncomputable abbrev VR:=(bC (sA 1 (aE (agN (ak (aj 0) ao)))) (b1 (aG (gG (cC [none,none,some 1] ["top", "own", "bottom"] (cL (aj 0)) (kO 2 (eU (gV 0) (eU (gV 1) kJ))) (bV (aj 0) (lB (aj 2) (aj 1))))))))
noncomputable abbrev agO:SF:=by exists VR
noncomputable def V0:FP:=aM 2 agO
noncomputable abbrev agP{f:AF}(a:VA f):=vF "tops_on_one_bottom" ["fractions"] V0 3 a
noncomputable abbrev V1:=(bC (sA 1 (aE (agP (ak (aj 0) ao)))) (b1 (aG (vSK kyI "falling_places" "place" ["tops"] [some 1] (ak (dB (ak (aj 1) ao)) ao) (afH (lIx (Tc 1) (Tc 0)))))))
noncomputable abbrev agQ:SF:=by exists V1
noncomputable def wj:FP:=aM 2 agQ
noncomputable abbrev oO{f:AF}(a:VA f):=vF "falling_places" ["fractions"] wj 4 a
noncomputable abbrev V2:=(b1 (aG (vV .And (uA (wg (ak (aj 0) ao)) (u1 .And (vK (rT jT mV (vC (.int 0)) (aj 0) (aj 1))))))))
noncomputable abbrev agR:SF:=by exists V2
noncomputable def V3:FP:=aM 2 agR
noncomputable abbrev V4{f:AF}(a:VA f):=vF "is_place" ["thing", "many"] V3 2 a
noncomputable abbrev V5:=(b1 (sI (cQ (bL (agL (ak (aj 0) ao)))) (b1 (qm "NoBook" (vC (.str "this is no book")))) b0))
noncomputable abbrev agS:SF:=by exists V5
noncomputable def V6:FP:=aM 1 agS
noncomputable abbrev agT{f:AF}(a:VA f):=vF "need_book" ["book"] V6 6 a
noncomputable abbrev V7:=(b1 (sI (cQ (bL (V4 (ak (aj 1) (ak (dB (ak (aj 0) ao)) ao))))) (b1 (qm "NoList" (vC (.str "the book has no list of this number")))) b0))
noncomputable abbrev agU:SF:=by exists V7
noncomputable def V8:FP:=aM 2 agU
noncomputable abbrev V9{f:AF}(a:VA f):=vF "need_list" ["book", "place"] V8 3 a
noncomputable abbrev Wa:=(bC (sI (tW .Or (wO (cQ (bL (Jh (aj 0)))) (w1 .Or (tK (aV oG (dB (ak (aj 0) ao)) (aj 1)))))) (b1 (aG (vC (.bl false)))) b0) (b1 (aG (vX (ak (gG (cC [none] ["part"] (cL (aj 0)) (gV 0) (vV .And (uA (Vu (ak (aj 0) ao)) (u1 .And (vK (aV Jf (aA (aj 0) (vC (.int 0))) (vC (.int 0))))))))) ao)))))
noncomputable abbrev agV:SF:=by exists Wa
noncomputable def Wb:FP:=aM 2 agV
noncomputable abbrev agW{f:AF}(a:VA f):=vF "are_weights" ["thing", "many"] Wb 3 a
noncomputable abbrev Wc:=(bC (sI (cQ (bL (Ay (aj 0)))) (b1 (aG (vC (.bl false)))) b0) (bC (sI (tK (aV oG (dB (ak (aj 0) ao)) (vC (.int 2)))) (b1 (aG (vK (aV Aw (aj 0) (vG "BARE_RULES" (.tup [(.tup [(.str "least")]),(.tup [(.str "greatest")]),(.tup [(.str "product")])])))))) b0) (bC (Ht (aj 0) (kO 2 (eU (gV 2) (eU (gV 3) kJ)))) (bC (sI (tK (aV dK (aj 2) (vC (.str "shares")))) (b1 (aG (agW (ak (aj 3) (ak (aj 1) ao))))) b0) (b1 (aG (vV .And (uA (vK (aV dK (aj 2) (vC (.str "middle")))) (uA (wg (ak (aj 3) ao)) (u1 .And (vK (rT jT jT (vC (.int 1)) (aj 3) (aj 1)))))))))))))
noncomputable abbrev agX:SF:=by exists Wc
noncomputable def Wd:FP:=aM 4 agX
noncomputable abbrev agY{f:AF}(a:VA f):=vF "is_rule" ["thing", "many"] Wd 4 a
noncomputable abbrev Wf:=(bC (sA 2 (aE (pX [.int 0,.int 1]))) (bC (sN (sF (iZ (ak (aj 0) (ak (aj 1) ao))) (kO 2 (eU (gV 3) (eU (gV 4) kJ))) (b1 (sA 2 (aE (agz (ak (aj 2) (ak (Vk (ak (aj 3) (ak (aj 4) ao))) ao)))))))) (b1 (aG (aj 2)))))
noncomputable abbrev agZ:SF:=by exists Wf
noncomputable def Wg:FP:=aM 5 agZ
noncomputable abbrev ag0{f:AF}(a:VA f):=vF "shares_worth" ["weights", "worths"] Wg 4 a
noncomputable abbrev Wh:=(bC (sA 1 (aE (pX [.int 1,.int 1]))) (bC (sN (sF (cL (aj 0)) (gV 2) (b1 (sA 1 (aE (Vk (ak (aj 1) (ak (aj 2) ao)))))))) (b1 (aG (aj 1)))))
noncomputable abbrev ag1:SF:=by exists Wh
noncomputable def Wi:FP:=aM 3 ag1
noncomputable abbrev ag2{f:AF}(a:VA f):=vF "product_worth" ["worths"] Wi 4 a
noncomputable abbrev Wj:=(bC (sI (tK (aV dK (aA (aj 0) (vC (.int 0))) (vC (.str "greatest")))) (b1 (aG (vC (.int 1)))) b0) (bC (sI (tK (aV dK (aA (aj 0) (vC (.int 0))) (vC (.str "least")))) (b1 (aG (aj 1))) b0) (b1 (aG (aA (aj 0) (vC (.int 1)))))))
noncomputable abbrev ag3:SF:=by exists Wj
noncomputable def Wk:FP:=aM 2 ag3
noncomputable abbrev ag4{f:AF}(a:VA f):=vF "place_of" ["rule", "many"] Wk 1 a
noncomputable abbrev Wl:=(bC (sI (tK (aV dK (aA (aj 0) (vC (.int 0))) (vC (.str "shares")))) (b1 (aG (ag0 (ak (aA (aj 0) (vC (.int 1))) (ak (aj 1) ao))))) b0) (bC (sI (tK (aV dK (aA (aj 0) (vC (.int 0))) (vC (.str "product")))) (b1 (aG (ag2 (ak (aj 1) ao)))) b0) (b1 (aG (aA (aj 1) (aA (oO (ak (aj 1) ao)) (lA (ag4 (ak (aj 0) (ak (dB (ak (aj 1) ao)) ao))) (vC (.int 1)))))))))
noncomputable abbrev ag5:SF:=by exists Wl
noncomputable def tR:FP:=aM 2 ag5
noncomputable abbrev Wm{f:AF}(a:VA f):=vF "worth_by" ["rule", "worths"] tR 5 a
noncomputable abbrev Wn:=(bC (jf (agT (ak (aj 0) ao))) (b1 (sI (cQ (bL (agY (ak (aj 1) (ak (dB (ak (aj 0) ao)) ao))))) (b1 (qm "NoRule" (vC (.str "this is no rule for the book's lists")))) b0)))
noncomputable abbrev ag6:SF:=by exists Wn
noncomputable def Wq:FP:=aM 2 ag6
noncomputable abbrev ag7{f:AF}(a:VA f):=vF "need_book_and_rule" ["book", "rule"] Wq 7 a
noncomputable abbrev Ws:=(b1 (aG (gG (cC [none,some 1] ["row", "thing"] (cL (aj 0)) (gV 0) (aA (aj 0) (aj 1))))))
noncomputable abbrev ag8:SF:=by exists Ws
noncomputable def Wt:FP:=aM 2 ag8
noncomputable abbrev Wu{f:AF}(a:VA f):=vF "worths_of" ["book", "thing"] Wt 1 a
noncomputable abbrev Ww:=(b1 (aG (gG (cC [none,some 1,some 0] ["thing", "rule", "book"] (kZ (ak (dB (ak (aA (aj 0) (vC (.int 0))) ao)) ao)) (gV 0) (Wm (ak (aj 1) (ak (Wu (ak (aj 2) (ak (aj 0) ao))) ao)))))))
noncomputable abbrev ag9:SF:=by exists Ww
noncomputable def Wx:FP:=aM 2 ag9
noncomputable abbrev JD{f:AF}(a:VA f):=vF "worths_by" ["book", "rule"] Wx 6 a
noncomputable abbrev Wy:=(b1 (aG (vV .And (uA (wg (ak (aj 0) ao)) (u1 .And (vK (rT jT jT (vC (.int 0)) (aj 0) (aj 1))))))))
noncomputable abbrev aha:SF:=by exists Wy
noncomputable def Wz:FP:=aM 2 aha
noncomputable abbrev ahb{f:AF}(a:VA f):=vF "is_count" ["thing", "many"] Wz 2 a
noncomputable abbrev WK:=(b1 (sI (cQ (bL (ahb (ak (aj 1) (ak (dB (ak (aA (aj 0) (vC (.int 0))) ao)) ao))))) (b1 (qm "NoCount" (vC (.str "this is no count of the book's things")))) b0))
noncomputable abbrev ahc:SF:=by exists WK
noncomputable def WL:FP:=aM 2 ahc
noncomputable abbrev ahd{f:AF}(a:VA f):=vF "need_count" ["book", "count"] WL 3 a
noncomputable abbrev WQ:=(bC (jf (ag7 (ak (aj 0) (ak (aj 1) ao)))) (b1 (jf (ahd (ak (aj 0) (ak (aj 2) ao))))))
noncomputable abbrev ahe:SF:=by exists WQ
noncomputable def WR:FP:=aM 3 ahe
noncomputable abbrev WT{f:AF}(a:VA f):=vF "need_book_rule_and_count" ["book", "rule", "count"] WR 8 a
noncomputable abbrev WW:=(bC (jf (WT (ak (aj 0) (ak (aj 1) (ak (aj 2) ao))))) (bC (sA 3 (aE (JD (ak (aj 0) (ak (aj 1) ao))))) (b1 (aG (gG (cC [none,some 3] ["thing", "worths"] (cL (vSl (oO (ak (aj 3) ao)) oN (oS (aj 2)))) (gV 0) (gD (ak (aj 0) (ak (aA (aj 1) (aj 0)) ao)))))))))
noncomputable abbrev ahf:SF:=by exists WW
noncomputable def WX:FP:=aM 4 ahf
noncomputable abbrev ahg{f:AF}(a:VA f):=vF "best_few" ["book", "rule", "count"] WX 9 a
noncomputable abbrev WY:=(bC (sA 2 (Il [none,some 1] ["thing", "things"] (kZ (ak (dB (ak (aj 0) ao)) ao)) (gV 0) (tK (aV Jg (aj 0) (aj 1))) (aj 0))) (bC (sI (tW .Or (wO (cQ (bL (aj 1))) (w1 .Or (cQ (bL (aj 2)))))) (b1 (aG (vC .non))) b0) (bC (sA 3 (cC [none,some 0] ["thing", "bounds"] (cL (aj 1)) (gV 0) (aA (aA (aj 1) (aj 0)) (vC (.int 0))))) (bC (sA 4 (cC [none,some 0] ["thing", "bounds"] (cL (aj 2)) (gV 0) (aA (aA (aj 1) (aj 0)) (vC (.int 1))))) (b1 (aG (gD (ak (aA (aj 1) (aA (oO (ak (aj 3) ao)) (Gy (vC (.int 1))))) (ak (aA (aj 2) (aA (oO (ak (aj 4) ao)) (vC (.int 0)))) ao)))))))))
noncomputable abbrev ahh:SF:=by exists WY
noncomputable def W0:FP:=aM 5 ahh
noncomputable abbrev ahi{f:AF}(a:VA f):=vF "weakest_and_rival" ["bounds", "things"] W0 5 a
noncomputable abbrev W2:=(bC (sA 2 (aE (ahi (ak (aj 0) (ak (aj 1) ao))))) (bC (sI (tK (aV qIs (aj 2) (vC .non))) (b1 (aG (vC (.bl true)))) b0) (bC (Ht (aj 2) (kO 2 (eU (gV 3) (eU (gV 4) kJ)))) (b1 (aG (Q8 (JB (ak (aA (aA (aj 0) (aj 3)) (vC (.int 0))) (ak (aA (aA (aj 0) (aj 4)) (vC (.int 1))) ao)))))))))
noncomputable abbrev ahj:SF:=by exists W2
noncomputable def W3:FP:=aM 5 ahj
noncomputable abbrev ahk{f:AF}(a:VA f):=vF "are_sure" ["bounds", "things"] W3 6 a
noncomputable abbrev W4:=(b1 (aG (af4 (ak (gG (cC [none,none] ["thing", "worth"] (cL (ahg (ak (aj 0) (ak (aj 1) (ak (aj 2) ao))))) (kO 2 (eU (gV 0) (eU (gV 1) kJ))) (aj 0))) ao))))
noncomputable abbrev ahl:SF:=by exists W4
noncomputable def W5:FP:=aM 3 ahl
noncomputable abbrev W6{f:AF}(a:VA f):=vF "best_things" ["book", "rule", "count"] W5 10 a
noncomputable abbrev W7:=(b1 (sI (cQ (bL (V4 (ak (aj 1) (ak (dB (ak (aA (aj 0) (vC (.int 0))) ao)) ao))))) (b1 (qm "NoThing" (vC (.str "the book has no thing of this number")))) b0))
noncomputable abbrev ahm:SF:=by exists W7
noncomputable def W8:FP:=aM 2 ahm
noncomputable abbrev W9{f:AF}(a:VA f):=vF "need_thing" ["book", "thing"] W8 3 a
noncomputable abbrev Xa:=(bC (sO 5 (aE (Wu (ak (aj 0) (ak (aj 3) ao))))) (bC (sS 5 (aj 2) (aj 4)) (b1 (aG (Wm (ak (aj 1) (ak (aj 5) ao)))))))
noncomputable abbrev ahn:SF:=by exists Xa
noncomputable def Bl:FP:=aM 6 ahn
noncomputable abbrev Xb{f:AF}(a:VA f):=vF "worth_with" ["book", "rule", "place", "thing", "worth"] Bl 6 a
noncomputable abbrev Xc:=(bC (sI (tW .Or (wO (tK (aV dK (aA (aj 0) (vC (.int 0))) (vC (.str "shares")))) (w1 .Or (tK (aV dK (aA (aj 0) (vC (.int 0))) (vC (.str "product"))))))) (b1 (aG (agD (ak (Vh (ak (aj 3) (ak (aj 1) ao))) (ak (Vh (ak (aj 2) (ak (aj 1) ao))) ao))))) b0) (b1 (aG (aj 3))))
noncomputable abbrev aho:SF:=by exists Xc
noncomputable def Bm:FP:=aM 4 aho
noncomputable abbrev Xd{f:AF}(a:VA f):=vF "worth_for" ["rule", "least", "most", "goal"] Bm 4 a
noncomputable abbrev Xe:=(bC (sA 5 (aE (JD (ak (aj 0) (ak (aj 1) ao))))) (bC (sA 6 (Il [none,some 2,some 4,some 5] ["other", "things", "thing", "worths"] (kZ (ak (dB (ak (aj 5) ao)) ao)) (gV 0) (tK (aV oG (vK (aV Aw (aj 0) (aj 1))) (vK (aV Aw (aj 2) (aj 1))))) (aA (aj 3) (aj 0)))) (bC (sI (cQ (bL (aj 6))) (b1 (aG (gD (ak (vG "NOTHING" (.tup [(.int 0),(.int 1)])) (ak (vG "FULL" (.tup [(.int 1),(.int 1)])) ao))))) b0) (bC (sA 7 (aE (oO (ak (aj 6) ao)))) (bC (sA 8 (aE (Xb (ak (aj 0) (ak (aj 1) (ak (aj 3) (ak (aj 4) (ak (vG "NOTHING" (.tup [(.int 0),(.int 1)])) ao)))))))) (bC (sA 9 (aE (Xb (ak (aj 0) (ak (aj 1) (ak (aj 3) (ak (aj 4) (ak (vG "FULL" (.tup [(.int 1),(.int 1)])) ao)))))))) (bC (sI (tK (aV Aw (aj 4) (aj 2))) (bC (sA 10 (aE (aA (aj 6) (aA (aj 7) (vC (.int 0)))))) (b1 (aG (gD (ak (GX (bL (JB (ak (aj 8) (ak (aj 10) ao)))) (Xd (ak (aj 1) (ak (aj 8) (ak (aj 9) (ak (aj 10) ao))))) (vG "NOTHING" (.tup [(.int 0),(.int 1)]))) (ak (vG "FULL" (.tup [(.int 1),(.int 1)])) ao)))))) b0) (bC (sA 10 (aE (aA (aj 6) (aA (aj 7) (Gy (vC (.int 1))))))) (b1 (aG (gD (ak (vG "NOTHING" (.tup [(.int 0),(.int 1)])) (ak (GX (bL (JB (ak (aj 10) (ak (aj 9) ao)))) (Xd (ak (aj 1) (ak (aj 8) (ak (aj 9) (ak (aj 10) ao))))) (vG "FULL" (.tup [(.int 1),(.int 1)]))) ao)))))))))))))
noncomputable abbrev ahp:SF:=by exists Xe
noncomputable def Xf:FP:=aM 11 ahp
noncomputable abbrev ahq{f:AF}(a:VA f):=vF "room_by" ["book", "rule", "things", "place", "thing"] Xf 7 a
noncomputable abbrev Xg:=(b1 (aG (GX (tK (aV dK (aA (aj 0) (vC (.int 0))) (vC (.str "shares")))) (gD (ak (vC (.str "shares")) (ak (Ax (ak (aA (aj 0) (vC (.int 1))) ao)) ao))) (aj 0))))
noncomputable abbrev ahr:SF:=by exists Xg
noncomputable def Xh:FP:=aM 1 ahr
noncomputable abbrev ahs{f:AF}(a:VA f):=vF "copied_rule" ["rule"] Xh 1 a
noncomputable abbrev Xi:=(dR (wCo [none] ["row"] (cL (aj 0)) (gV 0) (Ax (ak (aj 0) ao))))
noncomputable abbrev aht:DF:=T7 Xi
noncomputable def Bo:FP:=oH 1 aht
noncomputable abbrev Xj{f:AF}(a:VA f):=vFd "copied_rows" ["rows"] Bo 1 a
noncomputable abbrev Xk:=(b1 (aG (ahk (ak (gG (cC [none] ["worth"] (cL (JD (ak (aj 0) (ak (aj 1) ao)))) (gV 0) (gD (ak (aj 0) (ak (aj 0) ao))))) (ak (aj 2) ao)))))
noncomputable abbrev ahu:SF:=by exists Xk
noncomputable def Xl:FP:=aM 3 ahu
noncomputable abbrev ahv{f:AF}(a:VA f):=vF "are_best" ["book", "rule", "things"] Xl 7 a
noncomputable def fT(x:Int × Int):Tr:=.tup [.int x.1,.int x.2]
noncomputable def aH(l:List (Int × Int)):Tr:=.lst (l.map fT)
noncomputable def aY(ls:List (List (Int × Int))):Tr:=.lst (ls.map aH)
noncomputable def Wo(x:Int × Int):Prop:=0<=x.1/\x.1<=x.2/\1<=x.2/\x.2<=1000000000000/\Int.gcd x.1 x.2=1
noncomputable instance (x:Int × Int):Decidable (Wo x):=by unfold Wo; infer_instance
noncomputable def Shp(c:Nat)(ls:List (List (Int × Int))):Prop:=∀l∈ls,l.length=c/\∀x∈l,Wo x
noncomputable def Bk(c:Nat)(ls:List (List (Int × Int))):Prop:=1<=ls.length/\ls.length<=4/\1<=c/\c<=12/\Shp c ls
theorem Xm{k:Int}{M:Nat}(h:k.natAbs<2 ^ M)(hM:M<=8900):k.natAbs.log2<9000:=by
 by_cases z:k.natAbs=0
 .rw[z]; decide
 .have:=(Nat.log2_lt (n:=k.natAbs) (k:=M) z).mpr h
  lia
theorem Xn(h:k.natAbs<2 ^ M)(hM:M<=8900):fit k=true:=by
 have:=Xm h hM
 unfold fit
 rw[decide_eq_true_eq]
 lia
theorem jA(h1:i.natAbs<2 ^ M)(hM:M<=8900)(h2:j.natAbs<2 ^ N)(hN:N<=8900):dg i j=true:=by
 unfold dg
 rw[Xn h1 hM,Xn h2 hN]
 rfl
theorem Bp(h0:j≠0)(h:j.natAbs<2 ^ M)(hM:M<=8900):iV i j=true:=by
 unfold iV
 rw[Bool.and_eq_true,decide_eq_true_eq,decide_eq_true_eq]
 exact⟨h0,Xm h hM⟩
theorem gK(M:Nat):((2 ^ M:Nat):Int)=2 ^ M:=by push_cast; rfl
theorem qC{xs:List Tr}{i:Nat}(h:xs[i]?=some T):aW (.lst xs) (.int i)=.ok (T,false):=by
 obtain⟨hi,e⟩:=List.getElem?_eq_some_iff.mp h
 show(match dX xs i with
  |some t=>Rs.ok (t,false)
  |none=>.bad)=_
 have:dX xs (i:Int)=some T:=by
  unfold dX eH
  simp[hi,e]
 rw[this]
theorem jU{xs:List Tr}{i:Nat}(h:xs[i]?=some T):aW (.lst xs) (.int i)=.ok (T,false):=qC h
theorem lJ{l:List (Int × Int)}{i:Nat}(h:i<l.length):aW (aH l) (.int i)=.ok (fT (l.getD i (0,1)),false):=qC (by simp[h])
theorem jX(rows:List (List (Int × Int))):fC (aY rows)=.ok (.int (rows.length:Nat),false):=by
 show Rs.ok (Tr.int ((rows.map aH).length:Int),false)=_
 rw[List.length_map]
theorem ahw(h:rows[k]?=some l):aW (aY rows) (.int (k:Nat))=.ok (aH l,false):=jU (by rw[List.getElem?_map,h]; rfl)
theorem jk(l:List (Int × Int)):fC (aH l)=.ok (.int (l.length:Nat),false):=by
 show Rs.ok (Tr.int ((l.map fT).length:Int),false)=_
 rw[List.length_map]
theorem Xo{α : Type}{p : α -> Bool}:∀xs:List α,uR (xs.map λx=>.bl (p x))=some (xs.map p)
 | []=>rfl
 |x::xs=>by simp[uR,Xo xs]
theorem all_true{α : Type}(xs:List α):rO (.lst (xs.map λ_=>Tr.bl true))=.ok (.bl true,false):=by
 have e:=Xo (p:=λ_=>true) xs
 unfold rO
 simp -dsimp[e]
theorem Br(a b:Int):Va [.int a,.int b]=.ok (.int (Int.gcd a b:Nat),false):=by
 walk_at "d"
 refine Ui [] (λs:Int × Int=>[(0,.sh (.int s.1)),(1,.sh (.int s.2))]) (λs=>Int.gcd s.1 s.2=Int.gcd a b) (λs=>s.2.natAbs) (a,b) rfl rfl (by show b.natAbs<b.natAbs+1; lia) ?_
 rintro v ⟨x,y⟩ h
 dsimp only[pt,List.map,List.set]at *
 by_cases z:y=0
 .subst z
  have e:uQ (.int x)=.ok (.int (Int.gcd a b:Nat),false):=by
   rw[<-h]
   exact congrArg (λi=>Rs.ok (Tr.int i,false)) (adG x)
  apply v5
  walk_at "r"
 .have e:j5 (.int y) (.int 0)=.ok (.bl true,false):=by rw[Ls,decide_eq_false z]; rfl
  apply v5
  walk_at "r"
  exact⟨(y,x.fmod y),by rw[<-h]; exact adF ..,adE x y z,λ_=>.un,rfl⟩
theorem wk{i:Int}:Vr [.int i]=.ok (.bl true,false):=rfl
theorem JF{x:Int × Int}(h1:1<=x.2)(h2:Int.gcd x.1 x.2=1):Vt [fT x]=.ok (.bl true,false):=by
 have e:=Br x.1 x.2
 rw[h2]at e
 have w1:=wk (i:=x.1)
 have w2:=wk (i:=x.2)
 walk_at "d"
theorem ahx{x:Int × Int}(h:Wo x):JC [fT x]=.ok (.bl true,false):=by
 obtain⟨h1,h2,h3,h4,h5⟩:=h
 have e:=JF h3 h5
 walk_at "d"
 exact congrArg (λb=>Rs.ok (Tr.bl b,false)) (decide_eq_true h2)
theorem ahy{l:List (Int × Int)}{m:Int}(h:∀x∈l,Wo x)(h1:1<=l.length)(h2:l.length<=m)(hm:m<=1000):Vz [aH l,.int m]=.ok (.bl true,false):=by
 have e:=jk l
 have t:rG (aH l) .list=true:=rfl
 walk_at "d"
 exact ahx (h x hx)
 walk_at "r"
 exact all_true l
 walk_at "r"
theorem ahz{m:Nat}{rows:List (List (Int × Int))}(hB:Bk m rows):VH [aY rows]=.ok (.bl true,false):=by
 obtain⟨b1,b2,b3,b4,b5⟩:=hB
 have e:=jX rows
 have hl:rows[0]?=some rows[0]:=List.getElem?_eq_getElem b1
 have e0:aW (aY rows) (.int 0)=.ok (aH rows[0],false):=ahw hl
 have el0:=jk rows[0]
 rw[(b5 _ (List.mem_of_getElem? hl)).1]at el0
 walk_at "d"
 exact ahy (b5 x hx).2 (by rw[(b5 x hx).1]; exact b3) (by rw[(b5 x hx).1]; lia) (by lia)
 walk_at "r"
 exact all_true rows
 walk_at "r"
 rw[List.map_congr_left (g:=λ_=>Tr.bl true) λx hx=>by(try rw[List.length_map]); rw[(b5 x hx).1,decide_eq_true rfl]]
 exact all_true rows
 walk_at "r"
theorem ahA{m:Nat}{rows:List (List (Int × Int))}(hB:Bk m rows):V6 [aY rows]=.ok (.non,false):=by
 have e:=ahz hB
 walk_at "d"
theorem Xp(k n:Int):V3 [.int k,.int n]=.ok (.bl (decide (0<=k)&&decide (k<n)),false):=by
 have w:=wk (i:=k)
 by_cases h:0<=k
 .rw[decide_eq_true h]
  walk_at "d"
 .rw[decide_eq_false h]
  walk_at "d"
theorem Xq{rows:List (List (Int × Int))}{k:Nat}(h:k<rows.length):V8 [aY rows,.int k]=.ok (.non,false):=by
 have l:=jX rows
 have e:=Xp k rows.length
 rw[decide_eq_true (by lia),decide_eq_true (by lia)]at e
 walk_at "d"
noncomputable def Frs(N:Nat)(l:List (Int × Int)):Prop:=∀x∈l,1<=x.2/\x.2<2 ^ N/\x.1.natAbs<2 ^ N
theorem ahB{B q:Int}(hB:1<=B)(hq:1<=q):let B':=(B*q).fdiv ((Int.gcd B q:Nat):Int); 1<=B'/\B∣B'/\q∣B'/\B'<=B*q/\∀D,B∣D->q∣D->B'∣D:=by
 have g0:0<Int.gcd B q:=Int.gcd_pos_of_ne_zero_left _ (by lia)
 have p:=Int.mul_pos (a:=B) (b:=q) (by lia) (by lia)
 have m:=Int.gcd_mul_lcm B q
 rw[<-Int.natAbs_mul]at m
 have e:B*q=((Int.gcd B q:Nat):Int)*(Int.lcm B q:Nat):=by rw[<-Int.natCast_mul,m]; lia
 have f:(B*q).fdiv ((Int.gcd B q:Nat):Int)=(Int.lcm B q:Nat):=by
  rw[Int.fdiv_eq_ediv_of_nonneg _ (by lia),e]
  exact Int.mul_ediv_cancel_left _ (by lia)
 dsimp only
 rw[f]
 have:=Int.lcm_pos (m:=B) (n:=q) (by lia) (by lia)
 refine⟨by lia,Int.dvd_lcm_left ..,Int.dvd_lcm_right ..,?_,λD=>Int.coe_lcm_dvd⟩
 rw[<-f,Int.fdiv_eq_ediv_of_nonneg _ (by lia)]
 exact Int.ediv_le_self _ (by lia)
theorem ahC{N:Nat}(l:List (Int × Int))(h:Frs N l)(hl:1+N*l.length<=8900)(hN:N<=8900):∃z,VP [.lst (l.map fT)]=.ok z/\∃B:Int,(1<=B/\B<2 ^ (1+N*l.length)/\(∀x∈l,x.2∣B)/\∀D,(∀x∈l,x.2∣D)->B∣D)/\z=(.int B,false):=by
 walk_at "e"
 refine jy [2,3] (λB:Int=>[(1,.sh (.int B))]) (λk B=>1<=B/\B<2 ^ (1+N*k)/\(∀x∈l.take k,x.2∣B)/\∀D,(∀x∈l.take k,x.2∣D)->B∣D) 1 ⟨Int.le_refl _,by rw[Nat.mul_zero]; decide,λx hx=>(by cases hx),λD _=>Int.one_dvd _⟩ rfl (λk x v B hx hB=>?_) λv B hB=>?_
 .obtain⟨h1,h2,h3,h4⟩:=hB
  have hk:=(List.getElem?_eq_some_iff.mp hx).1
  obtain⟨a1,a2,_⟩:=h x (List.mem_of_getElem? hx)
  obtain⟨b1,b2,b3,b4,b5⟩:=ahB h1 a1
  have tk:l.take (k+1)=l.take k++[x]:=by rw[List.take_add_one,hx]; rfl
  have hle:1+N*k<=8900:=by
   have:=Nat.mul_le_mul_left N (Nat.le_of_lt hk)
   lia
  have n1:=gK (1+N*k)
  have n2:=gK N
  have g:=Br B x.2
  have c1:dg B x.2=true:=jA (M:=1+N*k) (N:=N) (by lia) hle (by lia) hN
  have c2:∀i,iV i ((Int.gcd B x.2:Nat):Int)=true:=λi=>by
   have:=Int.gcd_pos_of_ne_zero_left (a:=B) x.2 (by lia)
   have:=Int.gcd_le_right (a:=B) (b:=x.2) (by lia)
   exact Bp (M:=N) (by lia) (by lia) hN
  walk_at "p"
  refine⟨(B*x.2).fdiv ((Int.gcd B x.2:Nat):Int),⟨b1,?_,λy hy=>?_,λD d=>?_⟩,exV rfl⟩
  .have:=Int.mul_lt_mul_of_pos_right h2 (show 0<(2:Int) ^ N by lia)
   have:=Int.mul_le_mul_of_nonneg_left (show x.2<=2 ^ N by lia) (show 0<=B by lia)
   rw[Nat.mul_succ,<-Nat.add_assoc,Int.pow_add]
   lia
  .rw[tk]at hy
   rcases List.mem_append.mp hy with hy|hy
   .exact Int.dvd_trans (h3 y hy) b2
   .rw[List.mem_singleton.mp hy]
    exact b3
  .rw[tk]at d
   exact b5 D (h4 D λy hy=>d y (List.mem_append_left _ hy)) (d x (List.mem_append_right _ (List.mem_singleton.mpr rfl)))
 .rw[List.take_length]at hB
  walk_at "r"
  exact⟨_,rfl,B,hB,rfl⟩
theorem ahD{N:Nat}(l:List (Int × Int))(h:Frs N l)(hl:1+N*l.length<=8900)(hN:N<=8900)(hl2:l.length<=1000):∃B:Int,V0 [.lst (l.map fT)]=.ok (.lst (l.map λx=>.int (x.1*B.fdiv x.2)),true)/\1<=B/\∀x∈l,x.2∣B:=by
 obtain⟨_,e,B,⟨h1,h2,h3,_⟩,rfl⟩:=ahC l h hl hN
 have q:∀x∈l,iV B x.2=true/\dg x.1 (B.fdiv x.2)=true:=λx hx=>by
  obtain⟨a1,a2,a3⟩:=h x hx
  have d0:=Int.ediv_nonneg (a:=B) (b:=x.2) (by lia) (by lia)
  have d1:=Int.ediv_le_self (a:=B) x.2 (by lia)
  have nB:=gK (1+N*l.length)
  have nN:=gK N
  rw[<-Int.fdiv_eq_ediv_of_nonneg B (b:=x.2) (by lia)]at d0 d1
  exact⟨Bp (M:=N) (by lia) (by lia) hN,jA (M:=N) (N:=1+N*l.length) a3 hN (by lia) hl⟩
 refine⟨B,?_,h1,h3⟩
 walk_at "d"
 exact(q x hx).1
 walk_at "r"
 exact(q x hx).2
 walk_at "r"
noncomputable def qD(l:List (Int × Int))(i j:Nat):Prop:=(l.getD j (0,1)).1*(l.getD i (0,1)).2<(l.getD i (0,1)).1*(l.getD j (0,1)).2\/((l.getD j (0,1)).1*(l.getD i (0,1)).2=(l.getD i (0,1)).1*(l.getD j (0,1)).2/\i<j)
noncomputable def Fall(l:List (Int × Int))(ys:List Nat):Prop:=ys.Perm (List.range l.length)/\ys.Pairwise (qD l)
theorem keysOk{kt:Tr->Option (Int × Int)}{fb:RF}{ts:List (Option Tr)}{κ : Nat->Int × Int}:∀(is:List Nat),(∀i∈is,∃t,fb (some (.int (i:Int))::ts)=.ok t/\kt t=some (κ i))->sX kt fb ts is=.ok (is.map κ)
 | [],_=>rfl
 |i::is,h=>by
  obtain⟨t,e,k⟩:=h i (List.mem_cons_self ..)
  have r:=keysOk is λj hj=>h j (List.mem_cons_of_mem _ hj)
  unfold sX
  rw[e,r]
  dsimp only[Rs.bind]
  rw[k]
  rfl
theorem xSK{kt:Tr->Option (Int × Int)}{src:List (Option Nat)}{fa:AF}{fb:RF}{n:Nat}{b:Bool}(κ : Nat->Int × Int)(h:fa ρ=.ok ([.v (.int (n:Int)) b],ρ1))(hn:n<64)(hk:∀i,i<n->∃t,fb (some (.int (i:Int))::Ak src ρ1)=.ok t/\kt t=some (κ i)):∃ys:List Nat,IK kt src fa fb ρ=.ok (.v (.lst (ys.map λi:Nat=>Tr.int i)) true,ρ1)/\ys.Perm (List.range n)/\ys.Pairwise (jg κ):=by
 have e:=keysOk (List.range n) λi hi=>hk i (List.mem_range.mp hi)
 have hs:=S5 n λi=>((List.range n).map κ).getD i (0,0)
 refine⟨_,bk h ((if_pos ⟨Int.natCast_nonneg n,by lia⟩).trans (by rw[Int.toNat_natCast,e]; rfl)),hs.1,hs.2.imp_of_mem λ{i j} hi hj hb=>?_⟩
 have hi:=List.mem_range.mp (hs.1.mem_iff.mp hi)
 have hj:=List.mem_range.mp (hs.1.mem_iff.mp hj)
 have g:∀i,i<n->((List.range n).map κ).getD i (0,0) = κ i:=λi hi=>by simp[hi]
 unfold jg at hb ⊢
 dsimp only at hb
 rw[g i hi,g j hj]at hb
 exact hb
theorem top_lt{B p q r s:Int}(hB:1<=B)(hq:1<=q)(hs:1<=s)(dq:q∣B)(ds:s∣B):(p*B.fdiv q<r*B.fdiv s↔p*s<r*q)/\(p*B.fdiv q=r*B.fdiv s↔p*s=r*q):=by
 obtain⟨a,ha⟩:=dq
 obtain⟨b,hb⟩:=ds
 have e1:B.fdiv q=a:=by rw[ha]; exact Int.mul_fdiv_cancel_left _ (by lia)
 have e2:B.fdiv s=b:=by rw[hb]; exact Int.mul_fdiv_cancel_left _ (by lia)
 rw[e1,e2]
 have x1:(p*a)*(q*s)=(p*s)*B:=by rw[ha]; ac_rfl
 have x2:(r*b)*(q*s)=(r*q)*B:=by rw[hb]; ac_rfl
 have qs:0<q*s:=Int.mul_pos (by lia) (by lia)
 refine⟨?_,?_⟩
 .rw[<-Int.mul_lt_mul_right qs,x1,x2,Int.mul_lt_mul_right (show 0<B by lia)]
 .rw[<-Int.mul_eq_mul_right_iff (c:=q*s) (by lia),x1,x2,Int.mul_eq_mul_right_iff (show B≠0 by lia)]
theorem JG{N:Nat}(l:List (Int × Int))(h:Frs N l)(hl:1+N*l.length<=8900)(hN:N<=8900)(h64:l.length<64):∃ys,wj [aH l]=.ok (.lst (ys.map λi:Nat=>Tr.int i),true)/\Fall l ys:=by
 obtain⟨B,e,h1,h3⟩:=ahD l h hl hN (by lia)
 have g:∀i,i<l.length->l.getD i (0,1)∈l:=λi hi=>by simp[hi]
 obtain⟨ys,e2,p,q⟩:=xSK (ρ:=[.sh (.lst (l.map fT)),.sh (.lst (l.map λx=>.int (x.1*B.fdiv x.2)))]) (kt:=IV) (src:=[some 1]) (fa:=fX (nY (g1 fC) (fX (dO 1) fO)) fO) (fb:=Tf qW (Td aW (Aj 1) (Aj 0))) (λi=>(-((l.getD i (0,1)).1*B.fdiv (l.getD i (0,1)).2),0)) (wY (xC1 rfl rfl Lw) rfl) h64 λi hi=>by
  have ix:aW (.lst (l.map λx=>.int (x.1*B.fdiv x.2))) (.int (i:Int))=.ok (.int ((l.getD i (0,1)).1*B.fdiv (l.getD i (0,1)).2),false):=qC (by simp[hi])
  exact⟨.int (-((l.getD i (0,1)).1*B.fdiv (l.getD i (0,1)).2)),bk (bk rfl (bk rfl (bk ix rfl))) rfl,rfl⟩
 refine⟨ys,?_,p,q.imp_of_mem λ{i j} hi hj hb=>?_⟩
 .unfold aH
  walk_at "d"
 .have m1:=g i (List.mem_range.mp (p.mem_iff.mp hi))
  have m2:=g j (List.mem_range.mp (p.mem_iff.mp hj))
  have t:=top_lt (p:=(l.getD j (0,1)).1) (r:=(l.getD i (0,1)).1) h1 (h _ m2).1 (h _ m1).1 (h3 _ m2) (h3 _ m1)
  unfold jg at hb
  dsimp only at hb
  unfold qD
  rw[<-t.1,<-t.2]
  simp only[Int.neg_lt_neg_iff,Int.neg_inj]at hb
  rcases hb with(h|⟨_,h⟩)|⟨⟨h1,_⟩,h3⟩
  .exact .inl h
  .exact absurd h (Int.lt_irrefl 0)
  .exact .inr ⟨h1.symm,h3⟩
theorem Wo.frs(h:∀x∈l,Wo x):Frs 40 l:=λx hx=>by
 obtain⟨h1,h2,h3,h4,h5⟩:=h x hx
 exact⟨h3,by lia,by lia⟩
theorem ahE{α : Type}(xs:List α)(k:Nat):L2.cut xs none (some (k:Int))=xs.take k:=by
 unfold L2.cut HT.aO
 by_cases h:(k:Int)<0
 .lia
 .simp only[h,if_false,Int.toNat_natCast,Nat.sub_zero,List.drop_zero]
  by_cases z:k<=xs.length
  .rw[Nat.min_eq_left z]
  .rw[Nat.min_eq_right (by lia),List.take_of_length_le (by lia),List.take_of_length_le (by lia)]
noncomputable def nT(ys:List Nat):Tr:=.lst (ys.map λi:Nat=>Tr.int i)
theorem Xr(i:Int):dep (.int i)=0:=rfl
theorem ahF(ts:List Tr):dep (.tup ts)=deps ts+1:=by simp only[dep]
theorem ahG(ts:List Tr):dep (.lst ts)=deps ts+1:=by simp only[dep]
theorem Xu:deps []=0:=rfl
theorem Bs(t:Tr)(ts:List Tr):deps (t::ts)=max (dep t) (deps ts):=by simp only[deps]
theorem JH(x:Int × Int):dep (fT x)=1:=by unfold fT; rw[ahF,Bs,Bs,Xr,Xr,Xu]; rfl
theorem Xv:∀ys:List Nat,sU (ys.map λi:Nat=>Tr.int i)=some (ys.map λi:Nat=>(i:Int))
 | []=>rfl
 |n::r=>by simp[sU,Xv r]
noncomputable def aU(x y:Int × Int):Bool:=decide (x.1*y.2<y.1*x.2)
noncomputable def at2(l:List (Int × Int))(i:Nat):Int × Int:=l.getD i (0,1)
theorem jB(n k:Int)(h:0<k):0<=n.fmod k/\n.fmod k<k:=⟨Int.fmod_nonneg_of_pos n h,Int.fmod_lt_of_pos n h⟩
noncomputable def red(a b:Int):Int × Int:=(a / ((Int.gcd a b:Nat):Int),b / ((Int.gcd a b:Nat):Int))
noncomputable def Fq(M:Nat)(x:Int × Int):Prop:=0<=x.1/\x.1<2 ^ M/\1<=x.2/\x.2<2 ^ M/\Int.gcd x.1 x.2=1
theorem oR(ha:0<=a)(ha2:a<2 ^ M)(hb:1<=b)(hb2:b<2 ^ M):Fq M (red a b):=by
 obtain⟨g1,g2,g3,g4,g5,g6,g7⟩:=rJ (a:=a) (b:=b) (by lia)
 have d1:=Int.ediv_le_self (a:=a) ((Int.gcd a b:Nat):Int) ha
 have d2:=Int.ediv_le_self (a:=b) ((Int.gcd a b:Nat):Int) (by lia)
 exact⟨g5 ha,by unfold red; dsimp only; lia,g3,by unfold red; dsimp only; lia,g4⟩
theorem iM(hb:1<=b):a*(red a b).2=(red a b).1*b/\1<=(red a b).2/\Int.gcd (red a b).1 (red a b).2=1:=by
 obtain⟨g1,g2,g3,g4,g5,g6,g7⟩:=rJ (a:=a) (b:=b) (by lia)
 refine⟨?_,g3,g4⟩
 show a*(b / ((Int.gcd a b:Nat):Int))=(a / ((Int.gcd a b:Nat):Int))*b
 generalize ((Int.gcd a b:Nat):Int)=g at *
 generalize b / g=q,a / g=p at *
 rw[g6,g7]
 ac_rfl
noncomputable def le2(x y:Int × Int):Prop:=x.1*y.2<=y.1*x.2
theorem cu:aU x y=false↔le2 y x:=by
 unfold aU le2
 rw[decide_eq_false_iff_not,Int.not_lt]
theorem lC(x:Int × Int):le2 x x:=Int.le_refl _
theorem iQ(hx:1<=x.2)(hy:1<=y.2)(hz:1<=z.2)(h1:le2 x y)(h2:le2 y z):le2 x z:=by
 unfold le2 at *
 have a1:=Int.mul_le_mul_of_nonneg_right h1 (show 0<=z.2 by lia)
 have a2:=Int.mul_le_mul_of_nonneg_right h2 (show 0<=x.2 by lia)
 have e1:x.1*y.2*z.2=(x.1*z.2)*y.2:=by ac_rfl
 have e2:y.1*x.2*z.2=y.1*z.2*x.2:=by ac_rfl
 have e3:z.1*y.2*x.2=(z.1*x.2)*y.2:=by ac_rfl
 rw[e1,e2]at a1
 rw[e3]at a2
 exact Int.le_of_mul_le_mul_right (Int.le_trans a1 a2) (by lia)
theorem tU(hx:1<=x.2)(hy:1<=y.2)(gx:Int.gcd x.1 x.2=1)(gy:Int.gcd y.1 y.2=1)(h1:le2 x y)(h2:le2 y x):x=y:=by
 unfold le2 at *
 have:=adH hx hy gx gy (Int.le_antisymm h1 h2)
 exact Prod.ext this.1 this.2
theorem wu(hb:1<=b)(hd:1<=d)(h:a*d<=c*b):le2 (red a b) (red c d):=by
 obtain⟨e1,p1,_⟩:=iM (a:=a) hb
 obtain⟨e2,p2,_⟩:=iM (a:=c) hd
 generalize red c d=y,red a b=x at *
 unfold le2
 have a1:=Int.mul_le_mul_of_nonneg_right h (Int.mul_nonneg (show 0<=x.2 by lia) (show 0<=y.2 by lia))
 have e3:a*d*(x.2*y.2)=(a*x.2)*(d*y.2):=by ac_rfl
 have e4:c*b*(x.2*y.2)=(c*y.2)*(b*x.2):=by ac_rfl
 rw[e3,e4,e1,e2]at a1
 have e5:x.1*b*(d*y.2)=(x.1*y.2)*(b*d):=by ac_rfl
 have e6:y.1*d*(b*x.2)=(y.1*x.2)*(b*d):=by ac_rfl
 rw[e5,e6]at a1
 exact Int.le_of_mul_le_mul_right a1 (Int.mul_pos (by lia) (by lia))
noncomputable def sumF(x y:Int × Int):Int × Int:=red (x.1*y.2+y.1*x.2) (x.2*y.2)
noncomputable def aZ(x y:Int × Int):Int × Int:=red (x.1*y.1) (x.2*y.2)
theorem f9{a b:Int}{M N:Nat}(ha:0<=a)(ha2:a<2 ^ M)(hb:0<=b)(hb2:b<2 ^ N):a*b<2 ^ (M+N):=by
 have p1:(0:Int)<2 ^ N:=Int.pow_pos (by lia)
 have q1:a*b<=a*2 ^ N:=Int.mul_le_mul_of_nonneg_left (by lia) ha
 have q2:a*2 ^ N<2 ^ M*2 ^ N:=Int.mul_lt_mul_of_pos_right ha2 p1
 rw[Int.pow_add]
 lia
theorem tV{x y:Int × Int}{M N:Nat}(hx:Fq M x)(hy:Fq N y):Fq (M+N) (aZ x y) :=
 oR (Int.mul_nonneg hx.1 hy.1) (f9 hx.1 hx.2.1 hy.1 hy.2.1) (by have:=Int.mul_pos (a:=x.2) (b:=y.2) (by have:=hx.2.2.1; lia) (by have:=hy.2.2.1; lia); lia) (f9 (by have:=hx.2.2.1; lia) hx.2.2.2.1 (by have:=hy.2.2.1; lia) hy.2.2.2.1)
theorem Xw{x y:Int × Int}{M N:Nat}(hx:Fq M x)(hy:Fq N y):Fq (M+N+1) (sumF x y):=by
 obtain⟨x1,x2,x3,x4,_⟩:=hx
 obtain⟨y1,y2,y3,y4,_⟩:=hy
 have m1:=f9 x1 x2 (by lia) y4
 have m2:=f9 y1 y2 (by lia) x4
 have m3:=f9 (by lia) x4 (by lia) y4
 rw[Nat.add_comm N M]at m2
 have p:=Int.mul_pos (a:=x.2) (b:=y.2) (by lia) (by lia)
 have n1:=Int.mul_nonneg x1 (show 0<=y.2 by lia)
 have n2:=Int.mul_nonneg y1 (show 0<=x.2 by lia)
 have e:(2:Int) ^ (M+N+1)=2 ^ (M+N)*2:=Int.pow_succ ..
 exact oR (by lia) (by rw[e]; lia) (by lia) (by rw[e]; lia)
theorem ahH(hw:0<=w.1)(hw2:1<=w.2)(hx:1<=x.2)(hy:1<=y.2)(h:le2 x y):le2 (aZ w x) (aZ w y):=by
 have p1:=Int.mul_pos (a:=w.2) (b:=x.2) (by lia) (by lia)
 have p2:=Int.mul_pos (a:=w.2) (b:=y.2) (by lia) (by lia)
 refine wu (by lia) (by lia) ?_
 unfold le2 at h
 have a1:=Int.mul_le_mul_of_nonneg_left h (Int.mul_nonneg hw (show 0<=w.2 by lia))
 have e1:w.1*x.1*(w.2*y.2)=w.1*w.2*(x.1*y.2):=by ac_rfl
 have e2:w.1*y.1*(w.2*x.2)=w.1*w.2*(y.1*x.2):=by ac_rfl
 rw[e1,e2]
 exact a1
theorem Xx(hw:0<=w.1)(hw2:1<=w.2)(hv:0<=v.1)(hv2:1<=v.2)(hx0:0<=x.1)(hy0:0<=y.1)(hx:1<=x.2)(hy:1<=y.2)(h:le2 w v)(h':le2 x y):le2 (aZ w x) (aZ v y):=by
 have p1:=Int.mul_pos (a:=w.2) (b:=x.2) (by lia) (by lia)
 have p2:=Int.mul_pos (a:=v.2) (b:=y.2) (by lia) (by lia)
 refine wu (by lia) (by lia) ?_
 unfold le2 at h h'
 have e1:w.1*x.1*(v.2*y.2)=(w.1*v.2)*(x.1*y.2):=by ac_rfl
 have e2:v.1*y.1*(w.2*x.2)=(v.1*w.2)*(y.1*x.2):=by ac_rfl
 rw[e1,e2]
 exact Int.mul_le_mul h h' (Int.mul_nonneg hx0 (by lia)) (Int.mul_nonneg hv (by lia))
theorem Xy(hw2:1<=w.2)(hv2:1<=v.2)(hx:1<=x.2)(hy:1<=y.2)(h:le2 w v)(h':le2 x y):le2 (sumF w x) (sumF v y):=by
 have p1:=Int.mul_pos (a:=w.2) (b:=x.2) (by lia) (by lia)
 have p2:=Int.mul_pos (a:=v.2) (b:=y.2) (by lia) (by lia)
 refine wu (by lia) (by lia) ?_
 unfold le2 at h h'
 have a1:=Int.mul_le_mul_of_nonneg_right h (Int.mul_nonneg (show 0<=x.2 by lia) (show 0<=y.2 by lia))
 have a2:=Int.mul_le_mul_of_nonneg_right h' (Int.mul_nonneg (show 0<=w.2 by lia) (show 0<=v.2 by lia))
 have e1:(w.1*x.2+x.1*w.2)*(v.2*y.2)=w.1*v.2*(x.2*y.2)+x.1*y.2*(w.2*v.2):=by rw[Int.add_mul]; ac_rfl
 have e2:(v.1*y.2+y.1*v.2)*(w.2*x.2)=v.1*w.2*(x.2*y.2)+y.1*x.2*(w.2*v.2):=by rw[Int.add_mul]; ac_rfl
 rw[e1,e2]
 lia
theorem mulC{x y:Int × Int}{M N:Nat}(hx:Fq M x)(hy:Fq N y)(hM:M+N<=8900):dg x.1 y.1=true/\dg x.1 y.2=true/\dg y.1 x.2=true/\dg x.2 y.2=true:=by
 obtain⟨x1,x2,x3,x4,_⟩:=hx
 obtain⟨y1,y2,y3,y4,_⟩:=hy
 have nM:=gK M
 have nN:=gK N
 exact⟨jA (M:=M) (N:=N) (by lia) (by lia) (by lia) (by lia),jA (M:=M) (N:=N) (by lia) (by lia) (by lia) (by lia),jA (M:=N) (N:=M) (by lia) (by lia) (by lia) (by lia),jA (M:=M) (N:=N) (by lia) (by lia) (by lia) (by lia)⟩
theorem Bt(hb:1<=b)(hb2:b<2 ^ M)(hM:M<=8900):Vc [.int a,.int b]=.ok (fT (red a b),false):=by
 have g:=Br a b
 have np:=gK M
 obtain⟨g1,g2,_⟩:=rJ (a:=a) (b:=b) (by lia)
 have c1:∀n,iV n ((Int.gcd a b:Nat):Int)=true:=λn=>Bp (M:=M) (by lia) (by lia) hM
 walk_at "d"
 unfold fT red
 rw[Int.fdiv_eq_ediv_of_nonneg _ (by lia),Int.fdiv_eq_ediv_of_nonneg _ (by lia)]
 rfl
theorem Xz{x y:Int × Int}{M N:Nat}(hx:Fq M x)(hy:Fq N y)(hM:M+N<=8900):Vj [fT x,fT y]=.ok (fT (aZ x y),false):=by
 obtain⟨c1,_,_,c2⟩:=mulC hx hy hM
 have p:=Int.mul_pos (a:=x.2) (b:=y.2) (by have:=hx.2.2.1; lia) (by have:=hy.2.2.1; lia)
 have e:=Bt (a:=x.1*y.1) (b:=x.2*y.2) (M:=M+N) (by lia) (f9 (by have:=hx.2.2.1; lia) hx.2.2.2.1 (by have:=hy.2.2.1; lia) hy.2.2.2.1) hM
 walk_at "d"
theorem ahI{x y:Int × Int}{M N:Nat}(hx:Fq M x)(hy:Fq N y)(hM:M+N<=8900):Ve [fT x,fT y]=.ok (fT (sumF x y),false):=by
 obtain⟨_,c1,c2,c3⟩:=mulC hx hy hM
 have p:=Int.mul_pos (a:=x.2) (b:=y.2) (by have:=hx.2.2.1; lia) (by have:=hy.2.2.1; lia)
 have e:=Bt (a:=x.1*y.2+y.1*x.2) (b:=x.2*y.2) (M:=M+N) (by lia) (f9 (by have:=hx.2.2.1; lia) hx.2.2.2.1 (by have:=hy.2.2.1; lia) hy.2.2.2.1) hM
 walk_at "d"
noncomputable def dM(ps:List ((Int × Int) × (Int × Int)))(t:Int × Int):Int × Int:=ps.foldl (λt p=>sumF t (aZ p.1 p.2)) t
noncomputable def dN(xs:List (Int × Int))(t:Int × Int):Int × Int:=xs.foldl aZ t
theorem Bu{N:Nat}:∀(ps:List ((Int × Int) × (Int × Int))) (t:Int × Int) (M:Nat),Fq M t->(∀p∈ps,Fq 45 p.1/\Fq N p.2)->Fq (M+(46+N)*ps.length) (dM ps t)
 | [],t,M,h,_=>h
 |p::ps,t,M,h,hp=>by
  have h1:=tV (hp p (by simp)).1 (hp p (by simp)).2
  have h2:=Xw h h1
  have:=Bu ps _ _ h2 λq hq=>hp q (by simp[hq])
  rw[show M+(46+N)*(p::ps).length=M+(45+N)+1+(46+N)*ps.length by rw[List.length_cons,Nat.mul_succ]; lia]
  exact this
theorem Bv{N:Nat}:∀(ps:List (Int × Int)) (t:Int × Int) (M:Nat),Fq M t->(∀p∈ps,Fq N p)->Fq (M+N*ps.length) (dN ps t)
 | [],t,M,h,_=>h
 |p::ps,t,M,h,hp=>by
  have h2:=tV h (hp p (by simp))
  have:=Bv ps _ _ h2 λq hq=>hp q (by simp[hq])
  rw[show M+N*(p::ps).length=M+N+N*ps.length by rw[List.length_cons,Nat.mul_succ]; lia]
  exact this
theorem Wo.fq(h:Wo x):Fq 45 x:=by
 obtain⟨h1,h2,h3,h4,h5⟩:=h
 exact⟨h1,by lia,h3,by lia,h5⟩
theorem XC(ws xs:List (Int × Int)):sy (ws.map fT) (xs.map fT)=(ws.zip xs).map λp=>Tr.tup [fT p.1,fT p.2]:=by
 unfold sy
 rw[List.zip_map,List.map_map]
 rfl
theorem qF:Fq 1 (0,1):=by unfold Fq; decide
theorem qG:Fq 1 (1,1):=by unfold Fq; decide
theorem JK{N:Nat}{ws xs:List (Int × Int)}(hw:∀w∈ws,Fq 45 w)(hx:∀x∈xs,Fq N x):∀p∈ws.zip xs,Fq 45 p.1/\Fq N p.2:=λp hp=>⟨hw _ (List.of_mem_zip hp).1,hx _ (List.of_mem_zip hp).2⟩
theorem ahJ{N:Nat}{ws xs:List (Int × Int)}(hw:∀w∈ws,Fq 45 w)(hx:∀x∈xs,Fq N x)(hl:xs.length<=12)(hN:(46+N)*xs.length<=8800):Wg [aH ws,aH xs]=.ok (fT (dM (ws.zip xs) (0,1)),false):=by
 have hz:(ws.zip xs).length<=12:=by rw[List.length_zip]; lia
 have hq:=JK hw hx
 walk_at "d"
 rw[XC]
 refine jy [3,4] (λs:Int × Int=>[(2,.sh (fT s))]) (λk s=>s=dM ((ws.zip xs).take k) (0,1)) (0,1) rfl rfl (λk p v s hp hs=>?_) λv s hs=>?_
 .subst hs
  have hk:=(List.getElem?_eq_some_iff.mp hp).1
  obtain⟨p1,p2⟩:=hq p (List.mem_of_getElem? hp)
  have f:=Bu ((ws.zip xs).take k) (0,1) 1 qF λq m=>hq q (List.mem_of_mem_take m)
  rw[List.length_take]at f
  have l2:=List.length_zip (l₁ := ws) (l₂ := xs)
  have m2:(46+N)*k+(46+N)<=(46+N)*xs.length:=by rw[<-Nat.mul_succ]; exact Nat.mul_le_mul_left _ (by lia)
  rw[Nat.min_eq_left (by lia)]at f
  have e1:=Xz p1 p2 (by lia)
  have e2:=ahI f (tV p1 p2) (by lia)
  walk_at "p"
  exact⟨_,by rw[List.take_add_one,hp]; unfold dM; rw[List.foldl_append]; rfl,exV rfl⟩
 .rw[List.take_length]at hs
  subst hs
  walk_at "p"
theorem ahK{N:Nat}(hx:∀x∈xs,Fq N x)(hl:xs.length<=12)(hN:(46+N)*xs.length<=8800):Wi [aH xs]=.ok (fT (dN xs (1,1)),false):=by
 unfold aH
 walk_at "d"
 refine jy [2] (λs:Int × Int=>[(1,.sh (fT s))]) (λk s=>s=dN (xs.take k) (1,1)) (1,1) rfl rfl (λk p v s hp hs=>?_) λv s hs=>?_
 .subst hs
  have hk:=(List.getElem?_eq_some_iff.mp hp).1
  have f:=Bv (xs.take k) (1,1) 1 qG λq m=>hx q (List.mem_of_mem_take m)
  rw[List.length_take]at f
  have m2:N*k+N<=N*xs.length:=by rw[<-Nat.mul_succ]; exact Nat.mul_le_mul_left _ (by lia)
  rw[Nat.min_eq_left (by lia)]at f
  rw[Nat.add_mul]at hN
  have e:=Xz f (hx p (List.mem_of_getElem? hp)) (by lia)
  walk_at "p"
  exact⟨_,by rw[List.take_add_one,hp]; unfold dN; rw[List.foldl_append]; rfl,exV rfl⟩
 .rw[List.take_length]at hs
  subst hs
  walk_at "p"
noncomputable def cF(xs zs:List (Int × Int)):Prop:=zs.Perm xs/\zs.Pairwise λa b=>le2 b a
noncomputable def LT(xs:List (Int × Int)):Prop:=∀x∈xs,1<=x.2/\Int.gcd x.1 x.2=1
theorem XD:∀{l m:List (Int × Int)},LT l->l.Perm m->l.Pairwise (λa b=>le2 b a)->m.Pairwise (λa b=>le2 b a)->l=m
 | [],m,_,p,_,_=>by rw[List.nil_perm.mp p]
 |a::l,[],_,p,_,_=>by simpa using p.length_eq
 |a::l,b::m,hl,p,h1,h2=>by
  have h1':=List.pairwise_cons.mp h1
  have h2':=List.pairwise_cons.mp h2
  have e:a=b:=by
   rcases List.mem_cons.mp (p.mem_iff.mp (List.mem_cons_self ..))with z|z
   .exact z
   .rcases List.mem_cons.mp (p.mem_iff.mpr (List.mem_cons_self (a:=b)))with y|y
    .exact y.symm
    .have a1:=h1'.1 b y
     have a2:=h2'.1 a z
     have la:=hl a (by simp)
     have lb:=hl b (by simp[y])
     exact tU la.1 lb.1 la.2 lb.2 a2 a1
  subst e
  rw[XD (λx hx=>hl x (by simp[hx])) p.cons_inv h1'.2 h2'.2]
theorem cF.uniq(h:LT xs)(a:cF xs l)(b:cF xs m):l=m:=XD (λx hx=>h x (a.1.mem_iff.mp hx)) (a.1.trans b.1.symm) a.2 b.2
theorem ahL(xs:List (Int × Int)):(List.range xs.length).map (λi=>xs.getD i (0,1))=xs:=by
 apply List.ext_getElem
 .simp
 .intro i h1 h2
  simp[List.getD_eq_getElem?_getD,h2]
theorem Fall.dsc(h:Fall xs ys):cF xs (ys.map λi=>xs.getD i (0,1)):=by
 refine⟨?_,?_⟩
 .have:=h.1.map λi=>xs.getD i (0,1)
  rw[ahL]at this
  exact this
 .rw[List.pairwise_map]
  refine h.2.imp λ{i j} hb=>?_
  unfold qD at hb
  unfold le2
  lia
theorem XF:∀(xs:List (Int × Int)) (i:Nat) (v:Int × Int),(∀x,xs[i]?=some x->p x=true->p v=true)->xs.countP p<=(xs.set i v).countP p
 | [],i,v,_=>by simp
 |x::xs,0,v,h=>by
  have:=h x (by simp)
  simp only[List.set_cons_zero,List.countP_cons]
  cases e:p x with
  |false=>simp
  |true=>rw[this e]; simp
 |x::xs,i+1,v,h=>by
  have:=XF xs i v λy hy=>h y (by simpa using hy)
  simp only[List.set_cons_succ,List.countP_cons]
  lia
theorem cF.mono{xs zs zs':List (Int × Int)}{i:Nat}{v:Int × Int}(hx:LT xs)(hv:1<=v.2)(hi:∀x,xs[i]?=some x->le2 x v)(a:cF xs zs)(b:cF (xs.set i v) zs'){k:Nat}{z z':Int × Int}(hz:zs[k]?=some z)(hz':zs'[k]?=some z'):le2 z z':=by
 refine Classical.byContradiction λhn=>?_
 have hx':∀x∈xs.set i v,1<=x.2:=λx m=>by
  rcases List.mem_or_eq_of_mem_set m with m|rfl
  .exact(hx x m).1
  .exact hv
 have pz:1<=z.2:=(hx z (a.1.mem_iff.mp (List.mem_of_getElem? hz))).1
 have pz':1<=z'.2:=hx' z' (b.1.mem_iff.mp (List.mem_of_getElem? hz'))
 have hlt:aU z' z=true:=by
  cases e:aU z' z with
  |true=>rfl
  |false=>exact absurd (cu.mp e) hn
 obtain⟨hk,ek⟩:=List.getElem?_eq_some_iff.mp hz
 obtain⟨hk',ek'⟩:=List.getElem?_eq_some_iff.mp hz'
 have pw:=List.pairwise_iff_getElem.mp a.2
 have pw':=List.pairwise_iff_getElem.mp b.2
 have up:∀x:Int × Int,1<=x.2->le2 z x->aU z' x=true:=λx px h=>by
  cases e:aU z' x with
  |true=>rfl
  |false=>exact absurd (iQ pz px pz' h (cu.mp e)) hn
 have c1:k+1<=zs.countP (aU z'):=by
  rw[<-List.take_append_drop (k+1) zs,List.countP_append]
  have:(zs.take (k+1)).countP (aU z')=(zs.take (k+1)).length:=by
   rw[List.countP_eq_length]
   intro x m
   obtain⟨j,hj,rfl⟩:=List.getElem_of_mem m
   rw[List.getElem_take]
   have hj':j<k+1:=by rw[List.length_take]at hj; lia
   have jl:j<zs.length:=by lia
   refine up _ (hx _ (a.1.mem_iff.mp (List.getElem_mem jl))).1 ?_
   by_cases q:j=k
   .subst q; rw[ek]; exact lC _
   .have:=pw j k jl hk (by lia)
    rw[ek]at this
    exact this
  rw[this,List.length_take]
  lia
 have c2:zs'.countP (aU z')<=k:=by
  rw[<-List.take_append_drop k zs',List.countP_append]
  have:(zs'.drop k).countP (aU z')=0:=by
   rw[List.countP_eq_zero]
   intro x m hp
   obtain⟨j,hj,rfl⟩:=List.getElem_of_mem m
   rw[List.getElem_drop]at hp
   have jl:k+j<zs'.length:=by rw[List.length_drop]at hj; lia
   have:le2 zs'[k+j] z':=by
    by_cases q:j=0
    .subst q
     have:zs'[k+0]=z':=ek'
     rw[this]; exact lC _
    .have:=pw' k (k+j) hk' jl (by lia)
     rw[ek']at this
     exact this
   rw[cu.mpr this]at hp
   cases hp
  rw[this]
  have:=List.countP_le_length (p:=aU z') (l:=zs'.take k)
  rw[List.length_take]at this
  lia
 rw[a.1.countP_eq]at c1
 rw[b.1.countP_eq]at c2
 have:=XF (p:=aU z') xs i v λx hxi hp=>by
  cases e:aU z' v with
  |true=>rfl
  |false =>
   have px:=(hx x (List.mem_of_getElem? hxi)).1
   have:=iQ px hv pz' (hi x hxi) (cu.mp e)
   rw[cu.mpr this]at hp
   cases hp
 lia
theorem JL:∀(ws xs:List (Int × Int)) (i:Nat) (v t t':Int × Int),(∀w∈ws,Fq 45 w)->(∀x∈xs,1<=x.2)->1<=v.2->(∀x,xs[i]?=some x->le2 x v)->1<=t.2->1<=t'.2->le2 t t'->le2 (dM (ws.zip xs) t) (dM (ws.zip (xs.set i v)) t')
 | [],xs,i,v,t,t',_,_,_,_,_,_,h=>by simpa[dM]using h
 |w::ws,[],i,v,t,t',_,_,_,_,_,_,h=>by simpa[dM]using h
 |w::ws,x::xs,i,v,t,t',hw,hx,hv,hi,ht,ht',h=>by
  have fw:=hw w (by simp)
  have px:=hx x (by simp)
  have rp:∀y:Int × Int,1<=y.2->1<=(aZ w y).2:=λy py=>(iM (a:=w.1*y.1) (by have:=Int.mul_pos (a:=w.2) (b:=y.2) (by have:=fw.2.2.1; lia) (by lia); lia)).2.1
  have sp:∀s y:Int × Int,1<=s.2->1<=y.2->1<=(sumF s y).2:=λs y ps py=>(iM (a:=s.1*y.2+y.1*s.2) (by have:=Int.mul_pos (a:=s.2) (b:=y.2) (by lia) (by lia); lia)).2.1
  cases i with
  |zero =>
   have lx:=hi x (by simp)
   show le2 (dM (ws.zip xs) (sumF t (aZ w x))) (dM (ws.zip xs) (sumF t' (aZ w v)))
   have:=JL ws xs xs.length v (sumF t (aZ w x)) (sumF t' (aZ w v)) (λy hy=>hw y (by simp[hy])) (λy hy=>hx y (by simp[hy])) hv (λy hy=>by simp at hy) (sp _ _ ht (rp x px)) (sp _ _ ht' (rp v hv)) (Xy ht ht' (rp x px) (rp v hv) h (ahH fw.1 fw.2.2.1 px hv lx))
   rw[List.set_eq_of_length_le (by lia)]at this
   exact this
  |succ i =>
   show le2 (dM (ws.zip xs) (sumF t (aZ w x))) (dM (ws.zip (xs.set i v)) (sumF t' (aZ w x)))
   exact JL ws xs i v _ _ (λy hy=>hw y (by simp[hy])) (λy hy=>hx y (by simp[hy])) hv (λy hy=>hi y (by simpa using hy)) (sp _ _ ht (rp x px)) (sp _ _ ht' (rp x px)) (Xy ht ht' (rp x px) (rp x px) h (lC _))
theorem JM:∀(xs:List (Int × Int)) (i:Nat) (v t t':Int × Int),(∀x∈xs,1<=x.2/\0<=x.1)->1<=v.2->0<=v.1->(∀x,xs[i]?=some x->le2 x v)->1<=t.2->0<=t.1->1<=t'.2->0<=t'.1->le2 t t'->le2 (dN xs t) (dN (xs.set i v) t')
 | [],i,v,t,t',_,_,_,_,_,_,_,_,h=>by simpa[dN]using h
 |x::xs,i,v,t,t',hx,hv,hv0,hi,ht,ht0,ht',Bw,h=>by
  obtain⟨px,tX⟩:=hx x (by simp)
  have rp:∀s y:Int × Int,1<=s.2->0<=s.1->1<=y.2->0<=y.1->1<=(aZ s y).2/\0<=(aZ s y).1:=λs y ps ps0 py py0=>by
   have m:=Int.mul_pos (a:=s.2) (b:=y.2) (by lia) (by lia)
   refine⟨(iM (a:=s.1*y.1) (by lia)).2.1,?_⟩
   exact Int.ediv_nonneg (Int.mul_nonneg ps0 py0) (by lia)
  cases i with
  |zero =>
   have lx:=hi x (by simp)
   show le2 (dN xs (aZ t x)) (dN xs (aZ t' v))
   have a:=rp t x ht ht0 px tX
   have b:=rp t' v ht' Bw hv hv0
   have:=JM xs xs.length v (aZ t x) (aZ t' v) (λy hy=>hx y (by simp[hy])) hv hv0 (λy hy=>by simp at hy) a.1 a.2 b.1 b.2 (Xx ht0 ht Bw ht' tX hv0 px hv h lx)
   rw[List.set_eq_of_length_le (by lia)]at this
   exact this
  |succ i =>
   have a:=rp t x ht ht0 px tX
   have b:=rp t' x ht' Bw px tX
   show le2 (dN xs (aZ t x)) (dN (xs.set i v) (aZ t' x))
   exact JM xs i v _ _ (λy hy=>hx y (by simp[hy])) hv hv0 (λy hy=>hi y (by simpa using hy)) a.1 a.2 b.1 b.2 (Xx ht0 ht Bw ht' tX tX px px h (lC _))
inductive Ru where
 |sh (ws:List (Int × Int))|mid (k:Nat)|least|greatest|product
noncomputable def aN:Ru->Tr
 |.sh ws=>.tup [.str "shares",aH ws]
 |.mid k=>.tup [.str "middle",.int k]
 |.least=>.tup [.str "least"]
 |.greatest=>.tup [.str "greatest"]
 |.product=>.tup [.str "product"]
noncomputable def bK(n:Nat):Ru->Prop
 |.sh ws=>ws.length=n/\∀w∈ws,Fq 45 w
 |.mid k=>1<=k/\k<=n
 |_=>True
theorem ahM{M:Nat}{ws:List (Int × Int)}(hw:∀w∈ws,Fq M w)(hl:ws.length<=12):Wb [aH ws,.int ws.length]=.ok (.bl true,false):=by
 have ty:rG (aH ws) .list=true:=rfl
 walk_at "d"
 exact JF (hw x hx).2.2.1 (hw x hx).2.2.2.2
 walk_at "r"
 rw[List.map_congr_left (g:=λ_=>Tr.bl true) λx hx=>by rw[decide_eq_true (hw x hx).1]]
 exact all_true ws
 walk_at "r"
theorem JN(h:T=.tup [.str "least"]∨T=.tup [.str "greatest"]∨T=.tup [.str "product"]):gZ id T (.tup [(.tup [(.str "least")]),(.tup [(.str "greatest")]),(.tup [(.str "product")])])=.ok (.bl true,false):=by
 rcases h with rfl|rfl|rfl <;> kernel_rfl
theorem ahN(h:bK n r)(hn:n<=12):Wd [aN r,.int n]=.ok (.bl true,false):=by
 have e1:=JN (.inl rfl)
 have e2:=JN (.inr (.inl rfl))
 have e3:=JN (.inr (.inr rfl))
 cases r <;> dsimp only[aN,bK]at *
 case sh ws =>
  obtain⟨h1,h2⟩:=h
  subst h1
  have e:=ahM h2 hn
  walk_at "d"
 case mid k =>
  have w:=wk (i:=k)
  walk_at "d"
  exact congrArg (λb=>Rs.ok (Tr.bl b,false)) (decide_eq_true (by lia))
 all_goals walk_at "d"
noncomputable def bN(n:Nat):Ru->Nat
 |.mid k=>k
 |.least=>n
 |.greatest=>1
 |_=>0
noncomputable def Wv(r:Ru)(xs:List (Int × Int))(v:Int × Int):Prop:=match r with
 |.sh ws=>v=dM (ws.zip xs) (0,1)
 |.product=>v=dN xs (1,1)
 |r=>∃zs,cF xs zs/\zs[bN xs.length r-1]?=some v
noncomputable def placed:Ru->Bool
 |.mid _=>true
 |.least=>true
 |.greatest=>true
 |_=>false
theorem ahO{n:Nat}(h:placed r=true):Wk [aN r,.int n]=.ok (.int (bN n r:Nat),false):=by
 cases r <;> first|cases h; done|(dsimp only[aN,bN]; walk_at "d"; done)
theorem JQ(h:placed r=true)(ho:bK n r)(hn:1<=n):1<=bN n r/\bN n r<=n:=by
 cases r with
 |sh ws=>cases h
 |product=>cases h
 |least=>exact⟨hn,Nat.le_refl _⟩
 |greatest=>exact⟨Nat.le_refl _,hn⟩
 |mid k=>exact ho
theorem Fq.frs{N:Nat}(h:∀x∈l,Fq N x):Frs N l:=λx hx=>by
 obtain⟨h1,h2,h3,h4,_⟩:=h x hx
 have:=gK N
 exact⟨h3,h4,by lia⟩
theorem XH{N:Nat}{xs:List (Int × Int)}(hq:∀x∈xs,Fq N x)(h1:1<=xs.length)(h2:xs.length<=12)(hN:(46+N)*xs.length<=8800)(ho:bK xs.length r):∃v,tR [aN r,aH xs]=.ok (fT v,false)/\Wv r xs v:=by
 have pl:placed r=true->∃v,tR [aN r,aH xs]=.ok (fT v,false)/\∃zs,cF xs zs/\zs[bN xs.length r-1]?=some v:=λhp=>by
  obtain⟨ys,ef,hf⟩:=JG (N:=N) xs (Fq.frs hq) (by rw[Nat.add_mul]at hN; lia) (by have:=Nat.mul_le_mul_left (46+N) h1; lia) (by lia)
  have pr:=JQ hp ho h1
  have ep:=ahO (n:=xs.length) hp
  have ly:ys.length=xs.length:=by have:=hf.1.length_eq; simpa using this
  obtain⟨i,hi⟩:∃i,ys[bN xs.length r-1]?=some i:=⟨_,List.getElem?_eq_getElem (by lia)⟩
  have il:i<xs.length:=by simpa using hf.1.mem_iff.mp (List.mem_of_getElem? hi)
  refine⟨xs.getD i (0,1),?_,_,hf.dsc,by rw[List.getElem?_map,hi]; rfl⟩
  have g:aW (.lst (ys.map λi:Nat=>Tr.int i)) (.int ((bN xs.length r:Nat)-1:Int))=.ok (.int (i:Int),false):=by
   rw[show((bN xs.length r:Nat)-1:Int)=((bN xs.length r-1:Nat):Int) by lia]
   exact qC (by rw[List.getElem?_map,hi]; rfl)
  cases r <;> first|cases hp; done|(dsimp only[aN]at *; walk_at "d"; done)
 cases r with
 |sh ws =>
  have e:=ahJ ho.2 hq h2 hN
  refine⟨_,?_,rfl⟩
  dsimp only[aN]
  walk_at "d"
 |product =>
  have e:=ahK hq h2 hN
  refine⟨_,?_,rfl⟩
  dsimp only[aN]
  walk_at "d"
 |least=>exact pl rfl
 |greatest=>exact pl rfl
 |mid k=>exact pl rfl
theorem ahP(hx:∀x∈xs,Wo x)(h1:1<=xs.length)(h2:xs.length<=12)(ho:bK xs.length r):∃v,tR [aN r,aH xs]=.ok (fT v,false)/\Wv r xs v:=XH (λx m=>(hx x m).fq) h1 h2 (by lia) ho
theorem ahQ(hx:∀x∈xs,Wo x):LT xs:=λx m=>⟨(hx x m).2.2.1,(hx x m).2.2.2.2⟩
theorem Wv.uniq(hx:LT xs)(a:Wv r xs v)(b:Wv r xs v'):v=v':=by
 cases r with
 |sh ws=>exact a.trans b.symm
 |product=>exact a.trans b.symm
 |least =>
  obtain⟨z,d,e⟩:=a
  obtain⟨z',d',e'⟩:=b
  rw[d.uniq hx d',e']at e
  exact(Option.some.inj e).symm
 |greatest =>
  obtain⟨z,d,e⟩:=a
  obtain⟨z',d',e'⟩:=b
  rw[d.uniq hx d',e']at e
  exact(Option.some.inj e).symm
 |mid k =>
  obtain⟨z,d,e⟩:=a
  obtain⟨z',d',e'⟩:=b
  rw[d.uniq hx d',e']at e
  exact(Option.some.inj e).symm
theorem Fq.up(h:Fq M x)(hl:M<=N):Fq N x:=by
 obtain⟨h1,h2,h3,h4,h5⟩:=h
 have:(2:Int) ^ M<=2 ^ N:=by
  have:=Nat.pow_le_pow_right (n:=2) (by lia) hl
  have a:=gK M
  have b:=gK N
  lia
 exact⟨h1,by lia,h3,by lia,h5⟩
theorem Wv.XJ(hq:∀x∈xs,Fq 45 x)(hl:xs.length<=4)(ho:bK xs.length r)(a:Wv r xs v):Fq 400 v:=by
 have pl:(∃zs,cF xs zs/\zs[bN xs.length r-1]?=some v)->Fq 400 v:=λ⟨z,d,e⟩=>(hq v (d.1.mem_iff.mp (List.mem_of_getElem? e))).up (by lia)
 cases r with
 |sh ws =>
  have a:v=dM (ws.zip xs) (0,1):=a
  rw[a]
  exact(Bu _ _ 1 qF (JK ho.2 hq)).up (by rw[List.length_zip]; lia)
 |product =>
  have a:v=dN xs (1,1):=a
  rw[a]
  exact(Bv _ _ 1 qG hq).up (by lia)
 |least=>exact pl a
 |greatest=>exact pl a
 |mid k=>exact pl a
theorem Wv.fq(hx:∀x∈xs,Wo x)(hl:xs.length<=4)(ho:bK xs.length r)(a:Wv r xs v):Fq 400 v:=Wv.XJ (λx m=>(hx x m).fq) hl ho a
noncomputable def Fx(x:Int × Int):Prop:=0<=x.1/\1<=x.2/\Int.gcd x.1 x.2=1
theorem Fq.fx(h:Fq M x):Fx x:=⟨h.1,h.2.2.1,h.2.2.2.2⟩
theorem Wo.fx(h:Wo x):Fx x:=⟨h.1,h.2.2.1,h.2.2.2.2⟩
theorem XM(ha:0<=a)(hb:1<=b):Fx (red a b):=by
 obtain⟨_,_,g3,g4,g5,_⟩:=rJ (a:=a) (b:=b) (by lia)
 exact⟨g5 ha,g3,g4⟩
theorem bY{a b:Int}(ha:1<=a)(hb:1<=b):1<=a*b:=Int.mul_pos (by lia) (by lia)
theorem XQ(hx:Fx x)(hy:Fx y):Fx (aZ x y):=XM (Int.mul_nonneg hx.1 hy.1) (bY hx.2.1 hy.2.1)
theorem ahR(hx:Fx x)(hy:Fx y):Fx (sumF x y):=XM (Int.add_nonneg (Int.mul_nonneg hx.1 (by have:=hy.2.1; lia)) (Int.mul_nonneg hy.1 (by have:=hx.2.1; lia))) (bY hx.2.1 hy.2.1)
theorem XR(hx:∀x∈xs,Fx x):LT xs:=λx m=>⟨(hx x m).2.1,(hx x m).2.2⟩
theorem Wv.mono(hx:∀x∈xs,Fx x)(hu:Fx u)(hi:∀x,xs[i]?=some x->le2 x u)(ho:bK xs.length r)(a:Wv r xs v)(b:Wv r (xs.set i u) v'):le2 v v':=by
 have pl:(∃zs,cF xs zs/\zs[bN xs.length r-1]?=some v)->(∃zs,cF (xs.set i u) zs/\zs[bN (xs.set i u).length r-1]?=some v')->le2 v v':=λ⟨z,d,e⟩ ⟨z',d',e'⟩=>by
  rw[List.length_set]at e'
  exact d.mono (XR hx) hu.2.1 hi d' e e'
 cases r with
 |sh ws =>
  have a:v=dM (ws.zip xs) (0,1):=a
  have b:v'=dM (ws.zip (xs.set i u)) (0,1):=b
  rw[a,b]
  exact JL ws xs i u _ _ ho.2 (λx m=>(hx x m).2.1) hu.2.1 hi (by decide) (by decide) (lC _)
 |product =>
  have a:v=dN xs (1,1):=a
  have b:v'=dN (xs.set i u) (1,1):=b
  rw[a,b]
  exact JM xs i u _ _ (λx m=>⟨(hx x m).2.1,(hx x m).1⟩) hu.2.1 hu.1 hi (by decide) (by decide) (by decide) (by decide) (lC _)
 |least=>exact pl a b
 |greatest=>exact pl a b
 |mid k=>exact pl a b
noncomputable def isG:Ru->Bool
 |.greatest=>true
 |_=>false
noncomputable def isL:Ru->Bool
 |.least=>true
 |_=>false
theorem ahS(hp:placed r=true):∃w:Str,aW (aN r) (.int 0)=.ok (.str w,false)∧jq (.str w) (.str "shares")=.ok (.bl false,false)∧jq (.str w) (.str "product")=.ok (.bl false,false)∧jq (.str w) (.str "greatest")=.ok (.bl (isG r),false)∧jq (.str w) (.str "least")=.ok (.bl (isL r),false):=by
 cases r with
 |sh ws=>cases hp
 |product=>cases hp
 |least=>exact⟨"least",rfl,jD (by decide +kernel),jD (by decide +kernel),jD (by decide +kernel),Cv⟩
 |greatest=>exact⟨"greatest",rfl,jD (by decide +kernel),jD (by decide +kernel),Cv,jD (by decide +kernel)⟩
 |mid k=>exact⟨"middle",rfl,jD (by decide +kernel),jD (by decide +kernel),jD (by decide +kernel),jD (by decide +kernel)⟩
noncomputable abbrev iT(i:Nat):Tr:=.int (i:Nat)
noncomputable def pT(p:Nat × Nat):Tr:=.tup [iT p.1,iT p.2]
noncomputable def Lx(p q:Nat × Nat):Prop:=p.1<q.1\/(p.1=q.1/\p.2<q.2)
noncomputable def Lk(n m:Nat)(ds:List Nat)(as:List (Nat × Nat)):Prop:=ds.length=n/\(∀d∈ds,d<=m)/\as.Pairwise Lx/\as.length<=48/\∀p∈as,p.1<n/\p.2<m
theorem count_eq(h:d<=m):Wz [iT d,.int (m:Nat)]=.ok (.bl true,false):=by
 have e:=wk (i:=d)
 walk_at "d"
 exact congrArg (λb=>Rs.ok (Tr.bl b,false)) (decide_eq_true (by lia))
theorem XS(a b:Nat):eqT (iT a) (iT b)=decide (a=b):=by
 unfold iT eqT
 by_cases h:a=b
 .subst h; simp
 .have:¬(a:Int)=b:=by lia
  simp[h,this]
theorem JR:∀zs:List Nat,deps (zs.map iT)=0
 | []=>rfl
 |z::zs=>by
  rw[List.map_cons]
  unfold deps
  rw[JR zs]
  rfl
theorem X3{α : Type} [DecidableEq α](t : α):∀zs:List α,(zs.any λz=>decide (z=t))=decide (t∈zs)
 | []=>rfl
 |z::zs=>by
  rw[List.any_cons,X3 t zs]
  by_cases h:z=t
  .subst h; simp
  .have:t≠z:=λe=>h e.symm
   simp[h,this]
theorem m7(f:Bool->Bool)(t:Nat)(zs:List Nat):gZ f (iT t) (.lst (zs.map iT))=.ok (.bl (f (decide (t∈zs))),false):=by
 show(if deps (zs.map iT)<=40/\dep (iT t)<=40 then Rs.ok (Tr.bl (f (lX (iT t) (zs.map iT))),false)else .bad)=_
 rw[if_pos ⟨by rw[JR]; lia,by show 0<=40; lia⟩]
 unfold lX
 rw[List.any_map,<-X3]
 simp only[Function.comp_def,XS]
noncomputable def tY(b:Bool)(x:Int × Int):Tr:=if b=true then fT x else .non
noncomputable def gr(l:List (Int × Int))(s:Nat->Bool):List Tr:=(List.range l.length).map λt=>tY (s t) (l.getD t (0,1))
noncomputable def gs(rows:List (List (Int × Int)))(s:Nat->Nat->Bool):List Tr:=(List.range rows.length).map λk=>.lst (gr (rows.getD k []) (s k))
end BH
end
section
namespace L2
open PySem
section
variable {ρ ρ1 ρ2:En}{fa fe:EF}{aa:AF}{fi:IF}{T:Tr}{us ts vs:List Tr}{b:Bool}{i j k:Nat}{fk fj:QF}{Q:Fl->En->Prop}
theorem X4(h:ts[k]?=some T):fZ ts (.int (k:Nat))=.ok (k,T):=by
 have lt:=(List.getElem?_eq_some_iff.mp h).1
 have e:eH ts.length (k:Int)=some k:=by
  unfold eH
  rw[if_pos (by lia),if_pos (by lia)]
  rfl
 unfold fZ
 simp only[e,h]
theorem wSD{m n:Nat}(h:fe ρ=.ok (.v T b,ρ))(c : ρ[i]?=some (.dp ts))(q:fk ρ=.ok (.int (m:Nat)))(l:ts[m]?=some (.lst us))(q':fj ρ=.ok (.int (n:Nat)))(l':n<us.length)(fl:bh T=true)(fu:∀t∈us,bh t=true)(e : ρ.set i (.dp (ts.set m (.lst (us.set n T)))) = ρ2)(k:Q .nx ρ2):W (Tp i fk fj fe ρ) Q:=by
 subst e
 have cd:cU ρ i=.ok ts:=by unfold cU; rw[c]
 have n1:c7 (fk ρ)=.ok (.int m):=by rw[q]; rfl
 have n2:c7 (fj ρ)=.ok (.int n):=by rw[q']; rfl
 have n3:(bh T&&bh us[n])=true:=by rw[fl,fu _ (List.getElem_mem _)]; rfl
 refine⟨_,_,bk h (bk (a:=T) rfl (bk cd (bk n1 (bk (X4 l) ?_)))),k⟩
 exact bk n2 (bk (X4 (List.getElem?_eq_getElem l')) (if_pos n3))
theorem wCD{β : Type}{t : β -> Tr}{h : β -> List Tr}{xs:List β}(hi:fi ρ=.ok (us,ρ))(hu:us=xs.map t)(hf:∀x∈xs,fe [.sh (t x)]=.ok (.v (.lst (h x)) true,[.sh (t x)]))(hn:∀x∈xs,bT (h x)=true)(hl:xs.length<=100000)(e : ρ.set i (.dp (xs.map λx=>.lst (h x))) = ρ1)(k:Q .nx ρ1):W (Io i [none] fi (gN 0) iC fe ρ) Q:=by
 subst hu e
 obtain⟨s',e'⟩:=Ul hf hn
 exact⟨_,_,bk hi ((if_pos (by rw[List.length_map]; exact hl)).trans (bk (show c7 (lq _ _ _ _ [.un])=_ by rw[e']; rfl) (if_pos rfl))),k⟩
end
end L2
namespace BH
open PySem L2
structure Od(od:List (Int × Int)->List Nat)(m:Nat)(rows:List (List (Int × Int))):Prop where
 n1:1<=rows.length
 n4:rows.length<=4
 m1:1<=m
 m12:m<=12
 len:∀l∈rows,l.length=m
 fall:∀l∈rows,wj [aH l]=.ok (.lst ((od l).map iT),true)
 lt:∀l∈rows,∀t∈od l,t<m
 ln:∀l∈rows,(od l).length=m
section
variable {od:List (Int × Int)->List Nat}{m:Nat}{rows:List (List (Int × Int))}{ds:List Nat}{as:List (Nat × Nat)}
noncomputable def sn(od:List (Int × Int)->List Nat)(l:List (Int × Int))(d:Nat)(as:List (Nat × Nat))(k t:Nat):Bool:=decide (t∈(od l).take d) || decide ((k,t)∈as)
noncomputable def sA(od:List (Int × Int)->List Nat)(rows:List (List (Int × Int)))(ds:List Nat)(as:List (Nat × Nat))(k:Nat):Nat->Bool:=sn od (rows.getD k []) (ds.getD k 0) as k
theorem getM{α : Type}{l:List α}{k:Nat}{d : α}(h:k<l.length):l.getD k d∈l:=by rw[List.getD_eq_getElem?_getD,List.getElem?_eq_getElem h]; exact List.getElem_mem _
theorem lM{α : Type}{f : α -> Tr}{l:List α}{k:Nat}(d : α)(h:k<l.length):aW (.lst (l.map f)) (.int k)=.ok (f (l.getD k d),false):=qC (by simp[h])
theorem Lk.ok(hO:Od od m rows)(hL:Lk rows.length m ds as):∀p∈as,p.1<rows.length/\p.2<(rows.getD p.1 []).length:=λp mp=>by
 have h:=hL.2.2.2.2 p mp
 exact⟨h.1,by rw[hO.len _ (getM h.1)]; exact h.2⟩
theorem lK{rows:List (List (Int × Int))}{k:Nat}(h:k<rows.length):aW (aY rows) (.int k)=.ok (aH (rows.getD k []),false):=qC (by simp[h])
end
theorem wz{α : Type}{f : α -> Int × Int}{l:List α}:aH (l.map f)=.lst (l.map λx=>fT (f x)):=by unfold aH; rw[List.map_map]; rfl
theorem Mg{aa:AF}{T U V:Tr}{us vs ws:List Tr}{b b' b2:Bool}{ρ ρ1:En}(h:aa ρ=.ok ([.v T b,.v U b',.v V b2],ρ1))(e:T=.lst us)(e1:U=.lst vs)(e2:V=.lst ws)(l:us.length<=vs.length)(l':us.length<=ws.length):afr aa ρ=.ok (HJ us vs ws,ρ1):=by subst e e1 e2; exact bk h (if_pos ⟨l,l'⟩)
noncomputable abbrev gM(rows:List (List (Int × Int)))(k t:Nat):Int × Int:=(rows.getD k []).getD t (0,1)
noncomputable def lo(rows:List (List (Int × Int)))(s:Nat->Nat->Bool)(t:Nat):List (Int × Int):=(List.range rows.length).map λk=>if s k t=true then gM rows k t else(0,1)
noncomputable def hi(rows:List (List (Int × Int)))(s:Nat->Nat->Bool)(Bx:List (Int × Int))(t:Nat):List (Int × Int):=(List.range rows.length).map λk=>if s k t=true then gM rows k t else Bx.getD k (0,1)
noncomputable def oU(a b:Nat->Int × Int)(m:Nat):List Tr:=(List.range m).map λt=>.tup [fT (a t),fT (b t)]
section
variable {rows:List (List (Int × Int))}{s:Nat->Nat->Bool}{Bx:List (Int × Int)}{m:Nat}
theorem Mh{k:Nat}(hk:k<rows.length):aW (.lst (gs rows s)) (.int k)=.ok (.lst (gr (rows.getD k []) (s k)),false):=jU (by unfold gs; simp[hk])
theorem aaM(hk:0<rows.length):aW (.lst (gs rows s)) (.int 0)=.ok (.lst (gr (rows.getD 0 []) (s 0)),false):=Mh hk
theorem aaN{l:List (Int × Int)}{s:Nat->Bool}{t:Nat}(ht:t<l.length):aW (.lst (gr l s)) (.int t)=.ok (tY (s t) (l.getD t (0,1)),false):=jU (by unfold gr; simp[ht])
theorem aaO{l:List (Int × Int)}{s:Nat->Bool}:fC (.lst (gr l s))=.ok (.int l.length,false):=by
 show Rs.ok (Tr.int ((gr l s).length:Int),false)=_
 unfold gr
 simp
theorem aaP{b:Bool}{x:Int × Int}{c d:Int}{τ : En}:u6 (iz (iy (qU id) (dO 0) (eC .non))) (eC (.tup [.int c,.int d])) (dO 0) (.sh (tY b x)::τ)=.ok (.v (fT (if b=true then x else(c,d))) false,.sh (tY b x)::τ):=by cases b <;> rfl
theorem aaQ{b:Bool}{x y:Int × Int}{τ : En}:u6 (iz (iy (qU id) (dO 0) (eC .non))) (dO 1) (dO 0) (.sh (tY b x) :: .sh (fT y)::τ)=.ok (.v (fT (if b=true then x else y)) false,.sh (tY b x) :: .sh (fT y)::τ):=by cases b <;> rfl
end
theorem ahT(h:Fall l ys)(h':Fall l zs):ys=zs:=by
 refine List.Perm.eq_of_pairwise (λa b _ _ p q=>?_) h.2 h'.2 (h.1.trans h'.1.symm)
 unfold qD at p q
 lia
open Classical in
noncomputable def jC(l:List (Int × Int)):List Nat:=if h:∃zs:List Nat,Fall l zs then h.choose else []
theorem ahU(h:Fall l zs):jC l=zs:=by
 have h':∃zs:List Nat,Fall l zs:=⟨zs,h⟩
 unfold jC
 rw[dif_pos h']
 exact ahT h'.choose_spec h
theorem BJ(h:Frs N l)(hl:1+N*l.length<=8900)(hN:N<=8900)(h64:l.length<64):Fall l (jC l)/\wj [aH l]=.ok (.lst ((jC l).map iT),true):=by
 obtain⟨ys,e,f⟩:=JG l h hl hN h64
 rw[ahU f]
 exact⟨f,e⟩
theorem Od.of(h1:1<=rows.length)(h4:rows.length<=4)(m1:1<=m)(m2:m<=12)(hl:∀l∈rows,l.length=m)(h:∀l∈rows,Frs N l)(hN:1+N*12<=8900):Od jC m rows:=by
 have k:∀l∈rows,Fall l (jC l)/\wj [aH l]=.ok (.lst ((jC l).map iT),true):=λl ml=>BJ (h l ml) (by
  have:=hl l ml
  have:N*l.length<=N*12:=Nat.mul_le_mul_left _ (by lia)
  lia) (by lia) (by have:=hl l ml; lia)
 refine⟨h1,h4,m1,m2,hl,λl ml=>(k l ml).2,λl ml t mt=>?_,λl ml=>?_⟩
 .have:=(k l ml).1.1.mem_iff.mp mt
  rw[List.mem_range,hl l ml]at this
  exact this
 .have:=(k l ml).1.1.length_eq
  rw[List.length_range,hl l ml]at this
  exact this
theorem Bk.od(hB:Bk m rows):Od jC m rows:=by
 obtain⟨b1,b2,b3,b4,b5⟩:=hB
 exact Od.of (N:=40) b1 b2 b3 b4 (λl ml=>(b5 l ml).1) (λl ml=>Wo.frs (b5 l ml).2) (by lia)
section
variable {od:List (Int × Int)->List Nat}{m:Nat}{rows:List (List (Int × Int))}{ds:List Nat}{as:List (Nat × Nat)}{one:Int × Int}{a b:Nat->Int × Int}{R:Tr}
theorem ahV(hB:Bk m rows)(ho:bK rows.length r):Wq [aY rows,aN r]=.ok (.non,false) :=
 Jo (Uc (Jm (vY rfl rfl rfl (ahA hB))) (Ud (Uh (Ug (vY (tE rfl (tE (Ue rfl rfl (jX rows)) rfl)) rfl rfl (ahN ho (by have:=hB.2.1; lia))) rfl rfl)) rfl))
end
theorem pref{α : Type}{p : α -> Bool}:∀zs:List α,zs.Pairwise (λa b=>p b=true->p a=true)->zs.take (zs.filter p).length=zs.filter p/\zs.drop (zs.filter p).length=zs.filter λa=>!p a
 | [],_=>⟨rfl,rfl⟩
 |a::l,h=>by
  obtain⟨h1,h2⟩:=List.pairwise_cons.mp h
  obtain⟨i1,i2⟩:=pref l h2
  cases e:p a with
  |true=>simp[e,i1,i2]
  |false =>
   have hf:∀b∈l,p b=false:=λb hb=>by
    cases z:p b with
    |false=>rfl
    |true=>rw[h1 b hb z]at e; cases e
   have z:l.filter p=[]:=List.filter_eq_nil_iff.mpr λb hb=>by rw[hf b hb]; simp
   have z':l.filter (λa=>!p a)=l:=List.filter_eq_self.mpr λb hb=>by rw[hf b hb]; rfl
   simp[e,z,z']
theorem jQ{α : Type}{R : α -> α -> Prop}{p : α -> Bool}{zs:List α}{n : α}(hs:zs.Pairwise R)(hp:∀a∈zs,∀b∈zs,R a b->p b=true->p a=true)(h1:∀a∈zs,p a=true->R a n)(h2:∀b∈zs,p b=false->R n b):(zs.take (zs.filter p).length++n::zs.drop (zs.filter p).length).Perm (n::zs)/\(zs.take (zs.filter p).length++n::zs.drop (zs.filter p).length).Pairwise R:=by
 obtain⟨e1,e2⟩:=pref (p:=p) zs (hs.imp_of_mem λ{a b} ma mb r=>hp a ma b mb r)
 have hs':(zs.take (zs.filter p).length++zs.drop (zs.filter p).length).Pairwise R:=by rw[List.take_append_drop]; exact hs
 rw[e1,e2]at hs'
 rw[e1,e2]
 refine⟨List.perm_middle.trans ((List.filter_append_perm p zs).cons n),List.pairwise_append.mpr ⟨hs.filter p,List.pairwise_cons.mpr ⟨λb hb=>?_,hs.filter _⟩,λa ha b hb=>?_⟩⟩
 .obtain⟨m,q⟩:=List.mem_filter.mp hb
  exact h2 b m (by simpa using q)
 .obtain⟨m,q⟩:=List.mem_filter.mp ha
  rcases List.mem_cons.mp hb with rfl|hb
  .exact h1 a m q
  .exact(List.pairwise_append.mp hs').2.2 a ha b hb
theorem X5:∀xs:List (Int × Int),(∀x∈xs,1<=x.2)->∃zs,cF xs zs
 | [],_=>⟨[],.nil,.nil⟩
 |x::xs,h=>by
  obtain⟨zs,p,s⟩:=X5 xs λy m=>h y (List.mem_cons_of_mem _ m)
  have hz:∀z∈zs,1<=z.2:=λz m=>h z (List.mem_cons_of_mem _ (p.mem_iff.mp m))
  have hx:=h x (List.mem_cons_self ..)
  obtain⟨q1,q2⟩:=jQ (R:=λa b=>le2 b a) (p:=λz=>!aU z x) (n:=x) s (λa ma b mb r q=>by
   have q:aU b x=false:=by simpa using q
   rw[cu.mpr (iQ hx (hz b mb) (hz a ma) (cu.mp q) r)]
   rfl) (λa ma q=>cu.mp (by simpa using q)) λb mb q=>by
   have q:aU b x=true:=by simpa using q
   unfold aU at q
   unfold le2
   have:=of_decide_eq_true q
   lia
  exact⟨_,q1.trans (p.cons x),q2⟩
open Classical in
noncomputable def wv(r:Ru)(xs:List (Int × Int)):Int × Int:=if h:∃v,Wv r xs v then h.choose else(0,1)
theorem BK(hx:LT xs)(h:Wv r xs v):wv r xs=v:=by
 have h':∃v,Wv r xs v:=⟨v,h⟩
 unfold wv
 rw[dif_pos h']
 exact Wv.uniq hx h'.choose_spec h
theorem ahW(hx:∀x∈xs,Wo x)(h:Wv r xs v):wv r xs=v:=BK (ahQ hx) h
theorem X6:∀(ps:List ((Int × Int) × (Int × Int))) (t:Int × Int),Fx t->(∀p∈ps,Fx p.1/\Fx p.2)->Fx (dM ps t)
 | [],_,h,_=>h
 |p::ps,_,h,hp=>X6 ps _ (ahR h (XQ (hp p (List.mem_cons_self ..)).1 (hp p (List.mem_cons_self ..)).2)) λq m=>hp q (List.mem_cons_of_mem _ m)
theorem X7:∀(xs:List (Int × Int)) (t:Int × Int),Fx t->(∀p∈xs,Fx p)->Fx (dN xs t)
 | [],_,h,_=>h
 |x::xs,_,h,hp=>X7 xs _ (XQ h (hp x (List.mem_cons_self ..))) λq m=>hp q (List.mem_cons_of_mem _ m)
theorem BL(hx:∀x∈xs,Fx x)(h1:1<=xs.length)(ho:bK xs.length r):Wv r xs (wv r xs)/\Fx (wv r xs):=by
 suffices h:∃v,Wv r xs v/\Fx v by
  obtain⟨v,h,f⟩:=h
  rw[BK (XR hx) h]
  exact⟨h,f⟩
 have pl:placed r=true->∃v,(∃zs,cF xs zs/\zs[bN xs.length r-1]?=some v)/\Fx v:=λhp=>by
  obtain⟨zs,d⟩:=X5 xs λx m=>(hx x m).2.1
  have pr:=JQ hp ho h1
  have:=d.1.length_eq
  have g:zs[bN xs.length r-1]?=some zs[bN xs.length r-1]:=List.getElem?_eq_getElem (by lia)
  exact⟨_,⟨zs,d,g⟩,hx _ (d.1.mem_iff.mp (List.mem_of_getElem? g))⟩
 cases r with
 |sh ws=>exact⟨_,rfl,X6 _ _ (by unfold Fx; decide) λp m=>⟨(ho.2 _ (List.of_mem_zip m).1).fx,hx _ (List.of_mem_zip m).2⟩⟩
 |product=>exact⟨_,rfl,X7 _ _ (by unfold Fx; decide) hx⟩
 |least=>exact pl rfl
 |greatest=>exact pl rfl
 |mid k=>exact pl rfl
theorem JT(hx:∀x∈xs,Wo x)(h1:1<=xs.length)(h2:xs.length<=12)(ho:bK xs.length r):tR [aN r,aH xs]=.ok (fT (wv r xs),false)/\Wv r xs (wv r xs):=by
 obtain⟨v,e,h⟩:=ahP hx h1 h2 ho
 rw[ahW hx h]
 exact⟨e,h⟩
theorem JV:Wo (0,1):=by decide
theorem wC:Wo (1,1):=by decide
noncomputable def col(rows:List (List (Int × Int)))(t:Nat):List (Int × Int):=(List.range rows.length).map λk=>gM rows k t
section
variable {m:Nat}{rows:List (List (Int × Int))}{ds:List Nat}{as:List (Nat × Nat)}{s:Nat->Nat->Bool}{Bx:List (Int × Int)}{t:Nat}
theorem Bk.row(hB:Bk m rows)(hk:k<rows.length):(rows.getD k [])∈rows/\(rows.getD k []).length=m/\∀x∈rows.getD k [],Wo x:=by
 have e:rows[k]?=some (rows.getD k []):=by simp[hk]
 have ml:=List.mem_of_getElem? e
 exact⟨ml,hB.2.2.2.2 _ ml⟩
theorem Bk.X8(hB:Bk m rows)(hk:k<rows.length)(ht:t<m):Wo (gM rows k t):=by
 obtain⟨_,h1,h2⟩:=hB.row hk
 unfold gM
 generalize rows.getD k []=l at *
 have lt:t<l.length:=by lia
 have e:l[t]?=some (l.getD t (0,1)):=by simp[lt]
 exact h2 _ (List.mem_of_getElem? e)
theorem qH(hB:Bk m rows)(ht:t<m):∀x∈col rows t,Wo x:=λx mx=>by
 obtain⟨k,mk,rfl⟩:=List.mem_map.mp mx
 exact hB.X8 (List.mem_range.mp mk) ht
theorem iR:(col rows t).length=rows.length:=by unfold col; simp
variable {r:Ru}
theorem ahX(hB:Bk m rows)(ho:bK rows.length r)(ht:t<m):tR [aN r,aH (col rows t)]=.ok (fT (wv r (col rows t)),false)/\Wv r (col rows t) (wv r (col rows t)):=JT (qH hB ht) (by rw[iR]; exact hB.1) (by rw[iR]; have:=hB.2.1; lia) (by rw[iR]; exact ho)
end
noncomputable def Sc(c:Int)(x x':Int × Int):Prop:=x'.1*x.2=c*x.1*x'.2
theorem Sc.le(hc:1<=c)(h1:1<=x.2)(h2:1<=x'.2)(h3:1<=y.2)(h4:1<=y'.2)(a:Sc c x x')(b:Sc c y y'):le2 x' y'↔le2 x y:=by
 unfold Sc at a b
 unfold le2
 have p1:0<x.2*y.2:=Int.mul_pos (by lia) (by lia)
 have p2:0<c*(x'.2*y'.2):=Int.mul_pos (by lia) (Int.mul_pos (by lia) (by lia))
 have e1:x'.1*y'.2*(x.2*y.2)=x.1*y.2*(c*(x'.2*y'.2)):=by grind
 have e2:y'.1*x'.2*(x.2*y.2)=y.1*x.2*(c*(x'.2*y'.2)):=by grind
 constructor
 .intro h
  have:=Int.mul_le_mul_of_nonneg_right h (Int.le_of_lt p1)
  rw[e1,e2]at this
  exact Int.le_of_mul_le_mul_right this p2
 .intro h
  have:=Int.mul_le_mul_of_nonneg_right h (Int.le_of_lt p2)
  rw[<-e1,<-e2]at this
  exact Int.le_of_mul_le_mul_right this p1
noncomputable def sc(B:Int)(x:Int × Int):Int × Int:=aZ x (B,1)
theorem LT.of(h:∀x∈xs,Fq 45 x):LT xs:=λx m=>⟨(h x m).2.2.1,(h x m).2.2.2.2⟩
theorem JW(hx:Fq 400 x)(hy:Fq 400 y):Vp [fT x,fT y]=.ok (.bl (aU x y),false):=by
 obtain⟨a1,a2,a3,a4,_⟩:=hx
 obtain⟨b1,b2,b3,b4,_⟩:=hy
 have:=gK 400
 have c1:dg x.1 y.2=true:=jA (M:=400) (N:=400) (by lia) (by lia) (by lia) (by lia)
 have c2:dg y.1 x.2=true:=jA (M:=400) (N:=400) (by lia) (by lia) (by lia) (by lia)
 walk_at "d"
theorem JX(h:Fall l ys)(n:l≠[]):∃p q,ys[0]?=some p/\ys[ys.length-1]?=some q/\p<l.length/\q<l.length/\∀i,i<l.length->aU (at2 l p) (at2 l i)=false/\aU (at2 l i) (at2 l q)=false:=by
 obtain⟨h1,h2⟩:=h
 have ln:ys.length=l.length:=by rw[h1.length_eq,List.length_range]
 have l0:0<l.length:=List.length_pos_iff.mpr n
 have mm:∀i,i∈ys↔i<l.length:=λi=>by rw[h1.mem_iff,List.mem_range]
 have hp:0<ys.length:=by lia
 have hq:ys.length-1<ys.length:=by lia
 refine⟨ys[0],ys[ys.length-1],List.getElem?_eq_getElem hp,List.getElem?_eq_getElem hq,(mm _).mp (List.getElem_mem hp),(mm _).mp (List.getElem_mem hq),λi hi=>?_⟩
 obtain⟨k,hk,rfl⟩:=List.mem_iff_getElem.mp ((mm i).mpr hi)
 have pw:=List.pairwise_iff_getElem.mp h2
 unfold aU at2
 constructor
 .rcases Nat.eq_zero_or_pos k with rfl|k0
  .exact decide_eq_false (by lia)
  .have:=pw 0 k hp hk k0
   unfold qD at this
   exact decide_eq_false (by lia)
 .rcases Nat.lt_or_ge k (ys.length-1)with c|c
  .have:=pw k (ys.length-1) hk hq c
   unfold qD at this
   exact decide_eq_false (by lia)
  .have:k=ys.length-1:=by lia
   subst this
   exact decide_eq_false (by lia)
theorem Yb(hx:1<=x.2)(hy:1<=y.2)(hz:1<=z.2)(h1:aU x y=false)(h2:aU y z=false):aU x z=false:=by
 unfold aU at *
 have h1:=of_decide_eq_false h1
 have h2:=of_decide_eq_false h2
 refine decide_eq_false λh3=>?_
 have a1:y.1*x.2*z.2<=x.1*y.2*z.2:=Int.mul_le_mul_of_nonneg_right (by lia) (by lia)
 have a2:z.1*y.2*x.2<=y.1*z.2*x.2:=Int.mul_le_mul_of_nonneg_right (by lia) (by lia)
 have a3:x.1*z.2*y.2<z.1*x.2*y.2:=Int.mul_lt_mul_of_pos_right h3 (by lia)
 have e1:y.1*x.2*z.2=y.1*z.2*x.2:=Int.mul_right_comm _ _ _
 have e2:z.1*y.2*x.2=z.1*x.2*y.2:=Int.mul_right_comm _ _ _
 have e3:x.1*y.2*z.2=x.1*z.2*y.2:=Int.mul_right_comm _ _ _
 lia
theorem Yc(h:xs[xs.length-1]?=some T):aW (.lst xs) (.int (-1))=.ok (T,false):=by
 obtain⟨hi,e⟩:=List.getElem?_eq_some_iff.mp h
 have z:eH xs.length (-1)=some (xs.length-1):=by
  unfold eH
  rw[if_neg (by lia),if_pos (by lia)]
  congr 1
  lia
 show(match dX xs (-1)with
  |some t=>Rs.ok (t,false)
  |none=>.bad)=_
 unfold dX
 rw[z]
 dsimp only[Option.bind]
 rw[h]
section
variable {m:Nat}{a b:Nat->Int × Int}
theorem aaS(h:t<m):aW (.lst (oU a b m)) (iT t)=.ok (.tup [fT (a t),fT (b t)],false):=jU (by unfold oU; simp[h])
noncomputable def fM(a b:Nat->Int × Int)(m:Nat)(ys:List Nat):Prop:=∀t∈ys,∀o,o<m->o∉ys->aU (a t) (b o)=false
noncomputable abbrev iB(m:Nat)(ys:List Nat):List Nat:=(List.range m).filter λt=>!decide (t∈ys)
theorem aaR:fC (.lst (oU a b m))=.ok (.int (m:Nat),false):=by
 show Rs.ok (Tr.int ((oU a b m).length:Int),false)=_
 unfold oU
 simp
theorem ahY(hf:∀t,t<m->Fq 400 (a t)/\Fq 400 (b t))(hm:m<=12){ys:List Nat}(hy:∀t∈ys,t<m)(hl:ys.length<=12):∃T,W0 [.lst (oU a b m),.lst (ys.map iT)]=.ok (T,false)/\((T=.non/\(ys=[]\/iB m ys=[]))\/∃t o,T=.tup [iT t,iT o]/\t∈ys/\o∈iB m ys/\(∀s∈ys,aU (a s) (a t)=false)/\∀s∈iB m ys,aU (b o) (b s)=false):=by
 have ho:∀t∈iB m ys,t<m:=λt ht=>List.mem_range.mp (List.mem_filter.mp ht).1
 have hol:(iB m ys).length<=12:=Nat.le_trans (List.length_filter_le ..) (by rw[List.length_range]; exact hm)
 have em:∀zs:List Nat,zs≠[]->(zs.map iT).isEmpty=false:=λzs h=>by cases zs with|nil=>exact(h rfl).elim|cons _ _=>rfl
 by_cases c1:ys=[]
 .refine⟨.non,?_,.inl ⟨rfl,.inl c1⟩⟩
  have n1:(ys.map iT).isEmpty=true:=by rw[c1]; rfl
  walk_at "d"
 have n1:=em ys c1
 by_cases c2:iB m ys=[]
 .refine⟨.non,?_,.inl ⟨rfl,.inr c2⟩⟩
  have n2:((iB m ys).map iT).isEmpty=true:=by rw[c2]; rfl
  walk_at "d"
 have n2:=em _ c2
 have fr:∀(c:Nat->Int × Int) (zs:List Nat),(∀t∈zs,Fq 400 (c t))->Frs 400 (zs.map c):=λc zs hc x mx=>by
  obtain⟨t,mt,rfl⟩:=List.mem_map.mp mx
  obtain⟨q1,q2,q3,q4,_⟩:=hc t mt
  have:=gK 400
  exact⟨q3,q4,by lia⟩
 obtain⟨f1,g1⟩:=BJ (fr a ys λt mt=>(hf t (hy t mt)).1) (by rw[List.length_map]; lia) (by lia) (by rw[List.length_map]; lia)
 obtain⟨f2,g2⟩:=BJ (fr b (iB m ys) λt mt=>(hf t (ho t mt)).2) (by rw[List.length_map]; lia) (by lia) (by rw[List.length_map]; lia)
 obtain⟨_,q,_,hq,_,q1,hq2⟩:=JX f1 (by simpa using c1)
 obtain⟨p,_,hp,_,p1,_,hp2⟩:=JX f2 (by simpa using c2)
 rw[List.length_map]at q1 p1 hq2 hp2
 have ga:∀(c:Nat->Int × Int) (zs:List Nat) i (h:i<zs.length),at2 (zs.map c) i=c zs[i]:=λc zs i h=>by unfold at2; simp[h]
 rw[wz]at g1 g2
 have i1:aW (.lst ((jC (ys.map a)).map iT)) (.int (-1))=.ok (iT q,false):=Yc (by rw[List.length_map,List.getElem?_map,hq]; rfl)
 have i2:aW (.lst ((jC ((iB m ys).map b)).map iT)) (.int 0)=.ok (iT p,false):=jU (i:=0) (by rw[List.getElem?_map,hp]; rfl)
 have i3:aW (.lst (ys.map iT)) (iT q)=.ok (iT ys[q],false):=jU (by rw[List.getElem?_map,List.getElem?_eq_getElem q1]; rfl)
 have i4:aW (.lst ((iB m ys).map iT)) (iT p)=.ok (iT (iB m ys)[p],false):=jU (by rw[List.getElem?_map,List.getElem?_eq_getElem p1]; rfl)
 refine⟨.tup [iT ys[q],iT (iB m ys)[p]],?_,.inr ⟨ys[q],(iB m ys)[p],rfl,List.getElem_mem q1,List.getElem_mem p1,λs ms=>?_,λs ms=>?_⟩⟩
 .walk_at "d"
  exact hy x hx
  walk_at "r"
  exact ho x hx
  walk_at "r"
  exact Nat.le_trans hol (by lia)
  walk_at "r"
 .obtain⟨i,hi,rfl⟩:=List.mem_iff_getElem.mp ms
  have:=(hq2 i hi).2
  rwa[ga a ys i hi,ga a ys q q1]at this
 .obtain⟨i,hi,rfl⟩:=List.mem_iff_getElem.mp ms
  have:=(hp2 i hi).1
  rwa[ga b _ i hi,ga b _ p p1]at this
theorem ahZ(hf:∀t,t<m->Fq 400 (a t)/\Fq 400 (b t))(hm:m<=12)(hy:∀t∈ys,t<m)(hl:ys.length<=12):∃bb,W3 [.lst (oU a b m),.lst (ys.map iT)]=.ok (.bl bb,false)/\(bb=true↔fM a b m ys):=by
 obtain⟨T,e,h⟩:=ahY hf hm hy hl
 have mo:∀o,o∈iB m ys↔o<m/\o∉ys:=λo=>by unfold iB; simp
 rcases h with⟨rfl,h⟩|⟨t,o,rfl,mt,mo',h1,h2⟩
 .refine⟨true,by walk_at "d",λ_ t mt o ho no=>?_,λ_=>rfl⟩
  rcases h with h|h
  .rw[h]at mt; cases mt
  .have:=(mo o).mpr ⟨ho,no⟩
   rw[h]at this; cases this
 .obtain⟨om,on⟩:=(mo o).mp mo'
  have tm:=hy t mt
  have fb:=JW (hf t tm).1 (hf o om).2
  refine⟨!aU (a t) (b o),by walk_at "d",λhb=>?_,λhs=>by rw[hs t mt o om on]; rfl⟩
  have hb':aU (a t) (b o)=false:=by simpa using hb
  intro s ms r hr nr
  exact Yb (hf s (hy s ms)).1.2.2.1 (hf o om).2.2.2.1 (hf r hr).2.2.2.1 (Yb (hf s (hy s ms)).1.2.2.1 (hf t tm).1.2.2.1 (hf o om).2.2.2.1 (h1 s ms) hb') (h2 r ((mo r).mpr ⟨hr,nr⟩))
end
noncomputable def lD(m:Nat)(zs:List Nat):List Nat:=(List.range m).filter λt=>decide (t∈zs)
theorem ah0{m t:Nat}{zs:List Nat}(h:∀t∈zs,t<m):t∈lD m zs↔t∈zs:=by
 unfold lD
 rw[List.mem_filter,List.mem_range,decide_eq_true_iff]
 exact⟨And.right,λq=>⟨h t q,q⟩⟩
theorem ah1{m c:Nat}{ys:List Nat}(h:ys.Perm (List.range m)):(lD m (ys.take c)).Perm (ys.take c):=by
 have nd:ys.Nodup:=h.nodup_iff.mpr List.nodup_range
 have e:ys.filter (λt=>decide (t∈ys.take c))=ys.take c:=by
  have nd':=nd
  rw[<-List.take_append_drop c ys]at nd'
  obtain⟨_,_,dj⟩:=List.nodup_append.mp nd'
  calc ys.filter (λt=>decide (t∈ys.take c))=(ys.take c++ys.drop c).filter (λt=>decide (t∈ys.take c)):=by rw[List.take_append_drop]
   _=ys.take c:=by
    rw[List.filter_append,List.filter_eq_self.mpr λt ht=>decide_eq_true ht,List.filter_eq_nil_iff.mpr λt ht=>by
     rw[decide_eq_true_iff]
     exact λq=>dj t q t ht rfl,List.append_nil]
 unfold lD
 have:=(h.filter λt=>decide (t∈ys.take c)).symm
 rwa[e]at this
theorem ah2{m c:Nat}{ys:List Nat}(h:ys.Perm (List.range m))(hm:m<=12):sV (.lst ((ys.take c).map iT))=.ok (.lst ((lD m (ys.take c)).map iT),true):=by
 have p:=ah1 (c:=c) h
 have ln:ys.length=m:=by rw[h.length_eq,List.length_range]
 have l2:=List.length_take_le c ys
 have iq:sU ((ys.take c).map iT)=some ((ys.take c).map λi:Nat=>(i:Int)):=Xv _
 have s:((lD m (ys.take c)).map λi:Nat=>(i:Int)).Pairwise (· <= ·):=by
  rw[List.pairwise_map]
  unfold lD
  exact((List.pairwise_lt_range (n:=m)).filter _).imp λ{a b} h=>by lia
 unfold sV
 simp only[iq]
 rw[if_pos (by rw[List.length_map,List.length_take]; lia),<-SM (p.map _) s,List.map_map]
 rfl
section
variable {m:Nat}{a b a' b':Nat->Int × Int}{C:Int}
noncomputable def JZ(C:Int)(m:Nat)(a a':Nat->Int × Int):Prop:=∀t,t<m->Sc C (a t) (a' t)/\1<=(a t).2/\1<=(a' t).2
theorem JZ.le(hC:1<=C)(h:JZ C m a a')(h':JZ C m b b')(hi:i<m)(hj:j<m):((a' i).1*(b' j).2<=(b' j).1*(a' i).2↔(a i).1*(b j).2<=(b j).1*(a i).2)/\((b' j).1*(a' i).2<=(a' i).1*(b' j).2↔(b j).1*(a i).2<=(a i).1*(b j).2) :=
 ⟨Sc.le hC (h i hi).2.1 (h i hi).2.2 (h' j hj).2.1 (h' j hj).2.2 (h i hi).1 (h' j hj).1,Sc.le hC (h' j hj).2.1 (h' j hj).2.2 (h i hi).2.1 (h i hi).2.2 (h' j hj).1 (h i hi).1⟩
end
section
variable {m c:Nat}{rows:List (List (Int × Int))}{ds:List Nat}{as:List (Nat × Nat)}{r:Ru}
theorem Yd(hB:Bk m rows)(ho:bK rows.length r)(hc:c<=m):WR [aY rows,aN r,iT c]=.ok (.non,false):=by
 have hl:0<rows.length:=by have:=hB.1; lia
 have e1:aW (aY rows) (.int 0)=.ok (aH rows[0],false):=qC (i:=0) (by rw[List.getElem?_map,List.getElem?_eq_getElem hl]; rfl)
 have e2:fC (aH rows[0])=.ok (.int (m:Int),false):=by
  show Rs.ok (Tr.int ((rows[0].map fT).length:Int),false)=_
  rw[List.length_map,(hB.2.2.2.2 _ (List.getElem_mem hl)).1]
 have nc:WL [aY rows,iT c]=.ok (.non,false):=by
  have k1:nY (g1 fC) (fX (iy aW (dO 0) (eC (.int 0))) fO) [.sh (aY rows),.sh (iT c)]=.ok (.v (.int (m:Int)) false,[.sh (aY rows),.sh (iT c)]):=Ue (z:=(.int (m:Int),false)) (tE (agf (z:=(aH rows[0],false)) (T:=aY rows) (b:=false) (U:=.int 0) (b':=false) rfl rfl e1) rfl) rfl e2
  exact Jo (Ud (Uh (Ug (vY (tE rfl (tE k1 rfl)) rfl rfl (count_eq hc)) rfl rfl)) rfl)
 exact Jo (Uc (Jm (vY rfl rfl rfl (ahV hB ho))) (Jm (vY rfl rfl rfl nc)))
end
end BH
end
section
namespace L2
open PySem PySem.Spec PyProof.Rows
theorem ah3{X:Cx}(hc:X.calm=true):eV X (.builtin "max") (λxs H Q=>∃p a b,xs=[.ref p]/\aX X.K H p [.int a,.int b]/\Q (.int (if b > a then b else a)) H):=by
 intro pins s σ H xs us Q I r h
 obtain⟨p,a,b,rfl,hq,q⟩:=h
 obtain⟨u,rfl,rx⟩:=vals1 r
 cases rx
 obtain⟨its,r',pl,hz⟩:=I.tuple hq
 obtain⟨t1,t2,rfl⟩:∃t1 t2,its=[.int a t1,.int b t2]:=by
  cases r' with
  |cons h1 r' =>
   cases r' with
   |cons h2 r' =>
    cases r'
    obtain⟨t1,rfl⟩:=h1
    obtain⟨t2,rfl⟩:=h2
    exact⟨t1,t2,rfl⟩
 have ie:intItems #[(a,t1),(b,t2)] = #[.int a t1,.int b t2]:=by simp[intItems]
 have hl:s.heap.IsTuple p (intItems #[(a,t1),(b,t2)]):=by rw[ie]; exact pl
 have hlt:p<s.heap.objs.size:=by obtain⟨_,e,_⟩:=hl; exact Heap.lt_size e
 refine call_max_walk (iter_tuple pl ?_)
 refine⟨_,_,_,_,_,_,_,rfl,Walks.tuple (A:=X.A.in1) (I.ok.hd hc) _ p (Nat.ne_of_lt hlt) (intItems #[(a,t1),(b,t2)]),⟨⟨_,Heap.get?_push_size _ rfl,rfl,rfl⟩,IsTup.push hl _⟩,λc hm=>?_,by simp[intItems],CmpOf.ints_gt (numAt #[(a,t1),(b,t2)]) (λ_ _=>intItems_at),λv h' tk hP hk=>?_⟩
 .show c<(s.heap.push _).objs.size
  rw[Heap.size_push]
  rcases List.mem_cons.mp hm with rfl|hm
  .exact Nat.lt_succ_self _
  .rcases List.mem_cons.mp hm with rfl|hm
   .exact Nat.lt_succ_of_lt hlt
   .cases hm
 .obtain⟨t,rfl⟩:=intItems_at hP
  refine⟨.int (if b > a then b else a),H,I.kept (λc o e=>hk c o (λm=>?_) (Heap.get?_push_of_some _ e)),?_,q⟩
  .rcases List.mem_cons.mp m with rfl|m
   .exact Nat.lt_irrefl _ (Heap.lt_size e)
   .cases m
  .have e:numAt #[(a,t1),(b,t2)] (argBest (λi j=>decide (numAt #[(a,t1),(b,t2)] i > numAt #[(a,t1),(b,t2)] j)) ((intItems #[(a,t1),(b,t2)]).size-1))=if b > a then b else a:=by
    rw[ie]
    show numAt #[(a,t1),(b,t2)] (if decide (numAt #[(a,t1),(b,t2)] 1 > numAt #[(a,t1),(b,t2)] 0)=true then 1 else 0)=_
    have n0:numAt #[(a,t1),(b,t2)] 0=a:=rfl
    have n1:numAt #[(a,t1),(b,t2)] 1=b:=rfl
    rw[n0,n1]
    by_cases c:b > a
    .rw[if_pos c,if_pos (decide_eq_true c),n1]
    .rw[if_neg c,if_neg (by simpa using c),n0]
   rw[e]
   exact⟨_,rfl⟩
noncomputable def wD:G1
 |.tup [.int i,.int j]=>.ok (.int (if j > i then j else i),false)
 |_=>.bad
theorem ah4{K:PySem.W.Frag}:j7 (aq K) (λx H Q=>∃p a b,[x]=[V.ref p]/\aX K H p [.int a,.int b]/\Q (.int (if b > a then b else a)) H) wD:=⟨λa c=>by unfold wD; split <;> (intro z; cases z),λG H x a Q s rx h=>by
 unfold wD at h
 split at h
 case h_2=>exact h.elim
 obtain⟨p,xs,rfl,q,r⟩:=rx.tup s
 cases r with
 |cons r1 r =>
  cases r with
  |cons r2 r =>
   cases r
   cases r1
   cases r2
   exact⟨p,_,_,rfl,q.toK,h _ G H (.refl s) (.int _)⟩⟩
noncomputable abbrev ah5{f:AF}(a:VA f):=vB "max" (.builtin "max") (λK xs H Q=>∃p a b,xs=[.ref p]/\aX K H p [.int a,.int b]/\Q (.int (if b > a then b else a)) H) (g1 wD) (bb (by decide +kernel) (by decide +kernel)) (λo=>ah3 o.l) (λ_=>rN ah4) a
theorem ah6{X:Cx}:bw X (compareOp .IsNot) (λx y H Q=>∃c d,x=.bl c/\y=.bl d/\Q (.bl (!(c == d))) H):=by
 intro pins s σ H x y v u Q I rx ry h
 obtain⟨c,d,rfl,rfl,q⟩:=h
 cases rx
 cases ry
 exact isnot_bool (NP I q rfl)
noncomputable def wH(f:Bool->Bool):G2
 |.bl c,.bl d=>.ok (.bl (f (c == d)),false)
 |_,_=>.bad
theorem ah7{K:PySem.W.Frag}(f:Bool->Bool):cj K (λx y H Q=>∃c d,x=.bl c/\y=.bl d/\Q (.bl (f (c == d))) H) (wH f):=⟨λa b c=>by unfold wH; split <;> (intro z; cases z),λG H x y a b Q s rx ry h=>by
 unfold wH at h
 split at h
 case h_2=>exact h.elim
 cases rx.rep s
 cases ry.rep s
 exact⟨_,_,rfl,rfl,h _ G H (.refl s) (.bl _)⟩⟩
noncomputable abbrev Ye:Cq (wH not):=⟨.IsNot,λ_ x y H Q=>∃c d,x=.bl c/\y=.bl d/\Q (.bl (!(c == d))) H,λ_ _=>ah6,λ_=>ah7 not⟩
end L2
end
section
namespace K66
open PySem L2 BH
noncomputable def top(i:Nat):Stmt:=PySem.Challenge.pw_bestheads_k66_rooms_of_a_keeper.main.body.getD i (.Pass ⟨0,0,0,0⟩)
noncomputable def wI(i j:Nat):Stmt:=match top i with
 |.ClassDef _ _ _ body _ _ _ _ _ _ _=>body.getD j (.Pass ⟨0,0,0,0⟩)
 |_=>.Pass ⟨0,0,0,0⟩
noncomputable abbrev Yg:=(bC (sA 2 (aE (vC (.int 0)))) (bC (sI (tK (aV mV (aj 1) (dB (ak (aj 0) ao)))) (b1 (sA 2 (aE (aA (aj 0) (aj 1))))) b0) (bC (sI (tK (aV Jf (aj 2) (oF (vC (.int 10)) (vC (.int 18))))) (b1 (aG (jR (lA (aj 2) (oF (vC (.int 10)) (vC (.int 18)))) (oF (vC (.int 10)) (vC (.int 60)))))) b0) (bC (sA 3 (aE (jR (fB (fB (bV (aj 2) (vC (.int 48271))) (bV (aj 1) (vC (.int 69621)))) (vC (.int 11))) (vC (.int 2147483629))))) (bC (sA 4 (aE (vC (.int 0)))) (bC (sN (sF (kZ (ak (vC (.int 8)) ao)) (gV 5) (bC (sA 3 (aE (jR (fB (fB (bV (aj 3) (aj 3)) (bV (vC (.int 69621)) (aj 5))) (vC (.int 7))) (vC (.int 2147483587))))) (b1 (sA 4 (aE (fB (bV (aj 4) (vC (.int 2147483563))) (jR (bV (aj 3) (aj 3)) (vC (.int 2147483563)))))))))) (b1 (aG (aj 4)))))))))
noncomputable abbrev ah8:SF:=by exists Yg
noncomputable def BP:FP:=aM 6 ah8
noncomputable abbrev BR{f:AF}(a:VA f):=vF "_law_cell" ["_law_script", "_law_k"] BP 1 a
noncomputable abbrev Yh:=(mC (sA 2 (aE (jR (aA (aj 0) (vC (.int 0))) (aj 1)))) (mC (sS 0 (vC (.int 0)) (lB (aA (aj 0) (vC (.int 0))) (aj 1))) (mR (wE (aj 2)))))
noncomputable abbrev ah9:DM:=oK Yh
noncomputable def wJ:FM:=iK 3 ah9
noncomputable abbrev ji(i:Nat){f:AF}(a:VA f):=Jv "_law_take" ["_law_pile", "_law_size"] wJ 1 i a
noncomputable abbrev Yi:=(bC (sN (sW (Tv 1) (tK (aV oG (aj 1) (vC (.int 0)))) (b1 (RP 0 1 (ak (aj 1) (ak (jR (aj 0) (aj 1)) ao)))))) (b1 (aG (TY (ak (aj 0) ao)))))
noncomputable abbrev aia:SF:=by exists Yi
noncomputable def J0:FP:=aM 2 aia
noncomputable abbrev Yj{f:AF}(a:VA f):=vF "_law_shared" ["_law_one", "_law_other"] J0 1 a
noncomputable abbrev Yk:=(bC (sA 2 (aE (Yj (ak (aj 0) (ak (aj 1) ao))))) (bC (sI (tK (aV mV (aj 1) (vC (.int 0)))) (b1 (sA 2 (aE (lA (vC (.int 0)) (aj 2))))) b0) (b1 (aG (gD (ak (lB (aj 0) (aj 2)) (ak (lB (aj 1) (aj 2)) ao)))))))
noncomputable abbrev aib:SF:=by exists Yk
noncomputable def wK:FP:=aM 3 aib
noncomputable abbrev BW{f:AF}(a:VA f):=vF "_law_frac" ["_law_top", "_law_bottom"] wK 2 a
noncomputable abbrev Yl:=(mC (sA 1 (aE (aA (Hg [.int 1,.int 2,.int 3,.int 4,.int 6,.int 10,.int 12]) (cR (ji 0 (ak (vC (.int 7)) ao)))))) (mC (sA 2 (aE (cR (ji 0 (ak (fB (aj 1) (vC (.int 1))) ao))))) (mC (sI (tK (aV dK (cR (ji 0 (ak (vC (.int 8)) ao))) (vC (.int 7)))) (bC (sA 2 (aE (lA (fB (bV (aj 2) (oF (vC (.int 10)) (vC (.int 10)))) (cR (ji 0 (ak (vC (.int 5)) ao)))) (vC (.int 2))))) (b1 (sA 1 (aE (bV (aj 1) (oF (vC (.int 10)) (vC (.int 10)))))))) b0) (mR (wE (BW (ak (af3 (ak (vC (.int 0)) (ak (af2 (ak (aj 1) (ak (aj 2) ao))) ao))) (ak (aj 1) ao))))))))
noncomputable abbrev aic:DM:=oK Yl
noncomputable def J1:FM:=iK 3 aic
noncomputable abbrev Ym(i:Nat){f:AF}(a:VA f):=Jv "_law_worth" ["_law_pile"] J1 3 i a
noncomputable abbrev Yn:=(bC (sO 4 (aE (rW ao))) (bC (sN (sF (kZ (ak (aj 2) ao)) (gV 5) (bC (sO 6 (aE (rW (ak (BR (ak (aj 0) (ak (fB (aj 1) (aj 5)) ao))) ao)))) (b1 (jf (T5 4 (ak (gG (cC [none,some 6] ["_law_thing", "_law_pile"] (kZ (ak (aj 3) ao)) (gV 0) (cR (Ym 1 ao)))) ao))))))) (b1 (aG (aj 4)))))
noncomputable abbrev aie:SF:=by exists Yn
noncomputable def J2:FP:=aM 7 aie
noncomputable abbrev aif{f:AF}(a:VA f):=vF "_law_book" ["_law_script", "_law_start", "_law_lists", "_law_many"] J2 4 a
noncomputable abbrev Yo:=(bC (sO 2 (aE (rW (ak (aj 0) ao)))) (bC (sA 3 (aE (cR (ji 2 (ak (vC (.int 6)) ao))))) (bC (sI (tK (aV mV (aj 3) (vC (.int 2)))) (bC (sA 4 (cC [none,some 2] ["_law_place", "_law_pile"] (kZ (ak (aj 1) ao)) (gV 0) (gD (ak (cR (ji 1 (ak (vC (.int 7)) ao))) (ak (fB (vC (.int 1)) (cR (ji 1 (ak (vC (.int 4)) ao)))) ao))))) (bC (sI (tK (aV dK (cR (ji 2 (ak (vC (.int 8)) ao))) (vC (.int 7)))) (b1 (sA 4 (cC [none,none] ["_law_top", "_law_bottom"] (cL (aj 4)) (kO 2 (eU (gV 0) (eU (gV 1) kJ))) (gD (ak (fB (bV (aj 0) (oF (vC (.int 10)) (vC (.int 11)))) (vC (.int 1))) (ak (bV (aj 1) (oF (vC (.int 10)) (vC (.int 11)))) ao)))))) b0) (b1 (aG (gD (ak (vC (.str "shares")) (ak (gG (cC [none,none] ["_law_top", "_law_bottom"] (cL (aj 4)) (kO 2 (eU (gV 0) (eU (gV 1) kJ))) (BW (ak (aj 0) (ak (aj 1) ao))))) ao))))))) b0) (bC (sI (tK (aV dK (aj 3) (vC (.int 2)))) (b1 (aG (gD (ak (vC (.str "middle")) (ak (fB (vC (.int 1)) (cR (ji 2 (ak (aj 1) ao)))) ao))))) b0) (b1 (aG (aA (Hg [.tup [.str "least"],.tup [.str "greatest"],.tup [.str "product"]]) (lA (aj 3) (vC (.int 3))))))))))
noncomputable abbrev aii:SF:=by exists Yo
noncomputable def Yp:FP:=aM 5 aii
noncomputable abbrev aij{f:AF}(a:VA f):=vF "_law_rule" ["_law_cell_here", "_law_lists"] Yp 3 a
noncomputable abbrev Yq:=(b1 (aG (vK (aV mV (bV (aA (aj 0) (vC (.int 0))) (aA (aj 1) (vC (.int 1)))) (bV (aA (aj 1) (vC (.int 0))) (aA (aj 0) (vC (.int 1))))))))
noncomputable abbrev aik:SF:=by exists Yq
noncomputable def qI:FP:=aM 2 aik
noncomputable abbrev tZ{f:AF}(a:VA f):=vF "_law_below" ["_law_one", "_law_other"] qI 1 a
noncomputable abbrev Yr:=(b1 (aG (BW (ak (fB (bV (aA (aj 0) (vC (.int 0))) (aA (aj 1) (vC (.int 1)))) (bV (aA (aj 1) (vC (.int 0))) (aA (aj 0) (vC (.int 1))))) (ak (bV (aA (aj 0) (vC (.int 1))) (aA (aj 1) (vC (.int 1)))) ao)))))
noncomputable abbrev ail:SF:=by exists Yr
noncomputable def J3:FP:=aM 2 ail
noncomputable abbrev J4{f:AF}(a:VA f):=vF "_law_plus" ["_law_one", "_law_other"] J3 3 a
noncomputable abbrev Ys:=(b1 (aG (BW (ak (bV (aA (aj 0) (vC (.int 0))) (aA (aj 1) (vC (.int 0)))) (ak (bV (aA (aj 0) (vC (.int 1))) (aA (aj 1) (vC (.int 1)))) ao)))))
noncomputable abbrev ain:SF:=by exists Ys
noncomputable def BX:FP:=aM 2 ain
noncomputable abbrev BZ{f:AF}(a:VA f):=vF "_law_by" ["_law_one", "_law_other"] BX 3 a
noncomputable abbrev Yt:=(bC (sO 2 (aE (rW (ak (BZ (ak (aA (aj 0) (vC (.int 0))) (ak (gD (ak (aA (aj 1) (vC (.int 0))) (ak (aA (aj 1) (vC (.int 1))) ao))) ao))) ao)))) (bC (sA 3 (aE (J4 (ak (pX [.int 1,.int 1]) (ak (gD (ak (lA (vC (.int 0)) (aA (aA (aj 0) (vC (.int 1))) (vC (.int 0)))) (ak (aA (aA (aj 0) (vC (.int 1))) (vC (.int 1))) ao))) ao))))) (bC (jf (T5 2 (ak (J4 (ak (aA (aj 0) (vC (.int 1))) (ak (BZ (ak (aj 3) (ak (gD (ak (lA (aA (aj 1) (vC (.int 1))) (aA (aj 1) (vC (.int 0)))) (ak (aA (aj 1) (vC (.int 1))) ao))) ao))) ao))) ao))) (b1 (sZ 2 (aG (gG (Il [none,some 0] ["_law_end", "_law_edge"] (cL (aj 2)) (gV 0) (tK (aV Jg (aj 0) (aj 1))) (aj 0)))))))))
noncomputable abbrev aio:SF:=by exists Yt
noncomputable def J5:FP:=aM 4 aio
noncomputable abbrev aip{f:AF}(a:VA f):=vF "_law_beyond" ["_law_edge", "_law_part"] J5 4 a
noncomputable abbrev Yu:=(bC (sO 1 (aE (rW ao))) (bC (sN (sF (cL (aj 0)) (gV 2) (bC (sA 3 (aE (vC (.int 0)))) (bC (sW (fuL 1) (tW .And (wA (tK (aV mV (aj 3) (dB (ak (aj 1) ao)))) (w1 .And (cQ (bL (tZ (ak (aA (aj 1) (aj 3)) (ak (aj 2) ao)))))))) (b1 (sA 3 (aE (fB (aj 3) (vC (.int 1))))))) (b1 (jf (af5 1 (ak (aj 3) (ak (aj 2) ao))))))))) (b1 (aG (aj 1)))))
noncomputable abbrev aiq:SF:=by exists Yu
noncomputable def J6:FP:=aM 4 aiq
noncomputable abbrev air{f:AF}(a:VA f):=vF "_law_falling" ["_law_worths"] J6 2 a
noncomputable abbrev Yv:=(bC (sI (tK (aV dK (aA (aj 0) (vC (.int 0))) (vC (.str "shares")))) (bC (sA 2 (aE (pX [.int 0,.int 1]))) (bC (sN (sF (iZ (ak (aA (aj 0) (vC (.int 1))) (ak (aj 1) ao))) (kO 2 (eU (gV 3) (eU (gV 4) kJ))) (b1 (sA 2 (aE (J4 (ak (aj 2) (ak (BZ (ak (aj 3) (ak (aj 4) ao))) ao)))))))) (b1 (aG (aj 2))))) b0) (bC (sI (tK (aV dK (aA (aj 0) (vC (.int 0))) (vC (.str "product")))) (bC (sA 2 (aE (pX [.int 1,.int 1]))) (bC (sN (sF (cL (aj 1)) (gV 4) (b1 (sA 2 (aE (BZ (ak (aj 2) (ak (aj 4) ao)))))))) (b1 (aG (aj 2))))) b0) (bC (sA 5 (aE (dB (ak (aj 1) ao)))) (bC (sI (tK (aV dK (aA (aj 0) (vC (.int 0))) (vC (.str "greatest")))) (b1 (sA 5 (aE (vC (.int 1))))) b0) (bC (sI (tK (aV dK (aA (aj 0) (vC (.int 0))) (vC (.str "middle")))) (b1 (sA 5 (aE (aA (aj 0) (vC (.int 1)))))) b0) (b1 (aG (aA (air (ak (aj 1) ao)) (lA (aj 5) (vC (.int 1)))))))))))
noncomputable abbrev ais:SF:=by exists Yv
noncomputable def uc:FP:=aM 6 ais
noncomputable abbrev ait{f:AF}(a:VA f):=vF "_law_made" ["_law_rule_here", "_law_worths"] uc 4 a
noncomputable abbrev Yw:=(b1 (aG (gG (cC [none,some 1,some 0] ["_law_thing", "_law_rule_here", "_law_book_here"] (kZ (ak (dB (ak (aA (aj 0) (vC (.int 0))) ao)) ao)) (gV 0) (ait (ak (aj 1) (ak (gG (cC [none,some 0] ["_law_worths", "_law_thing"] (cL (aj 2)) (gV 0) (aA (aj 0) (aj 1)))) ao)))))))
noncomputable abbrev aiu:SF:=by exists Yw
noncomputable def Yx:FP:=aM 2 aiu
noncomputable abbrev aiv{f:AF}(a:VA f):=vF "_law_of_things" ["_law_book_here", "_law_rule_here"] Yx 5 a
noncomputable abbrev Yy:=(bC (sA 3 (aE (aiv (ak (aj 0) (ak (aj 1) ao))))) (bC (sN (sF (cL (aj 2)) (gV 4) (b1 (sF (kZ (ak (dB (ak (aj 3) ao)) ao)) (gV 5) (b1 (sI (tW .And (wA (tK (aV Jg (aj 5) (aj 2))) (w1 .And (bL (tZ (ak (aA (aj 3) (aj 4)) (ak (aA (aj 3) (aj 5)) ao))))))) (b1 (aG (vC (.bl false)))) b0)))))) (b1 (aG (vC (.bl true))))))
noncomputable abbrev aiw:SF:=by exists Yy
noncomputable def J7:FP:=aM 6 aiw
noncomputable abbrev Yz{f:AF}(a:VA f):=vF "_law_are_best" ["_law_book_here", "_law_rule_here", "_law_things"] J7 6 a
noncomputable abbrev YB:=(dC (sCd 4 [none] ["_law_worths"] (cL (aj 0)) (gV 0) (Ax (ak (aj 0) ao))) (dC (sSd 4 1 2 (aj 3)) (dR (wM 4))))
noncomputable abbrev aix:DF:=T7 YB
noncomputable def YC:FP:=oH 5 aix
noncomputable abbrev YD{f:AF}(a:VA f):=vF "_law_moved" ["_law_book_here", "_law_place", "_law_thing", "_law_worth_here"] YC 1 a
noncomputable abbrev YF:=(bC (sI (tW .Or (wO (cQ (bL (Ay (aj 0)))) (w1 .Or (tK (aV oG (dB (ak (aj 0) ao)) (vC (.int 2))))))) (b1 (aG (vC (.bl false)))) b0) (bC (sN (sF (cL (aj 0)) (gV 1) (b1 (sI (tW .Or (wO (cQ (bL (T3 (aj 1)))) (w1 .Or (bL (T4 (aj 1)))))) (b1 (aG (vC (.bl false)))) b0)))) (b1 (aG (vV .And (uA (vK (aV qGt (aA (aj 0) (vC (.int 1))) (vC (.int 0)))) (u1 .And (vK (aV dK (Yj (ak (aA (aj 0) (vC (.int 0))) (ak (aA (aj 0) (vC (.int 1))) ao))) (vC (.int 1)))))))))))
noncomputable abbrev aiy:SF:=by exists YF
noncomputable def YG:FP:=aM 2 aiy
noncomputable abbrev aiz{f:AF}(a:VA f):=vF "_law_is_fraction" ["_law_thing"] YG 2 a
noncomputable abbrev YH:=(mR (Az (Xj (ak (gJ 0 "Keeper" "rows") ao))))
noncomputable abbrev aiA:DM:=oK YH
noncomputable def YJ:FM:=iK 1 aiA
noncomputable abbrev aiB(i:Nat):=U6 i "Keeper" "book" YJ 2
noncomputable abbrev YK:=(mR (Az (wE (Ax (ak (gJ 0 "Keeper" "kept") ao)))))
noncomputable abbrev aiC:DM:=oK YK
noncomputable def YL:FM:=iK 1 aiC
noncomputable abbrev J8(i:Nat):=U6 i "Keeper" "things" YL 1
noncomputable abbrev YM:=(mC (jf (Ba (V9 (ak (gJ 0 "Keeper" "rows") (ak (aj 1) ao))))) (mC (jf (Ba (W9 (ak (gJ 0 "Keeper" "rows") (ak (aj 2) ao))))) (mR (Az (wE (ahq (ak (gJ 0 "Keeper" "rows") (ak (gJ 0 "Keeper" "rule") (ak (gJ 0 "Keeper" "kept") (ak (aj 1) (ak (aj 2) ao)))))))))))
noncomputable abbrev aiD:DM:=oK YM
noncomputable def YQ:FM:=iK 3 aiD
noncomputable abbrev aiE(i:Nat){f:AF}(a:VA f):=U5 i "Keeper" "room" ["self", "place", "thing"] YQ 8 a
noncomputable abbrev YS:=(mC (jf (WT (ak (aj 1) (ak (aj 2) (ak (aj 3) ao))))) (mC (sFW 0 "Keeper" "rows" (Xj (ak (aj 1) ao))) (mC (tL 0 "Keeper" "rule" (ahs (ak (aj 2) ao))) (mC (tL 0 "Keeper" "wanted" (aj 3)) (mC (tL 0 "Keeper" "kept" (W6 (ak (aj 1) (ak (aj 2) (ak (aj 3) ao))))) (mC (tL 0 "Keeper" "kept_before" (gJ 0 "Keeper" "kept")) (mC (tL 0 "Keeper" "changes" (vC (.int 0))) m0)))))))
noncomputable abbrev aiF:DM:=oK YS
noncomputable def YT:FM:=iK 4 aiF
noncomputable abbrev J9(i:Nat){f:AF}(a:VA f):=sNw i "Keeper" ["self", "book", "rule", "count"] YT 11 a
noncomputable abbrev YW:=(mC (jf (Ba (V9 (ak (gJ 0 "Keeper" "rows") (ak (aj 1) ao))))) (mC (jf (Ba (W9 (ak (gJ 0 "Keeper" "rows") (ak (aj 2) ao))))) (mC (sI (cQ (bL (Vx (ak (aj 3) ao)))) (b1 (qm "NoWorth" (vC (.str "this is no worth")))) b0) (mC (sSo 0 "Keeper" "rows" 1 2 (aj 3)) (mI (tVw (bL (ahv (ak (gJ 0 "Keeper" "rows") (ak (gJ 0 "Keeper" "rule") (ak (gJ 0 "Keeper" "kept") ao)))))) (wE (vC (.bl false))) (mC (tL 0 "Keeper" "kept" (cR (Az (wE (W6 (ak (gJ 0 "Keeper" "rows") (ak (gJ 0 "Keeper" "rule") (ak (gJ 0 "Keeper" "wanted") ao)))))))) (mC (sFA 0 "Keeper" "changes" (vC (.int 1))) (mR (wE (vC (.bl true)))))))))))
noncomputable abbrev aiG:DM:=oK YW
noncomputable def YX:FM:=iK 4 aiG
noncomputable abbrev Ka(i:Nat){f:AF}(a:VA f):=U5 i "Keeper" "put" ["self", "place", "thing", "worth"] YX 11 a
noncomputable abbrev YZ:=(mC (sA 5 (aE (cR (aiB 0)))) (mC (sA 6 (aE (cR (J8 0)))) (mC (sA 7 (aE (cR (aiE 0 (ak (aj 3) (ak (aj 4) ao)))))) (mI (tW .Or (wO (cQ (bL (Ay (aj 7)))) (wO (tK (aV oG (dB (ak (aj 7) ao)) (vC (.int 2)))) (w1 .Or (cQ (bL (vX (ak (gG (cC [none] ["_law_one"] (cL (aj 7)) (gV 0) (aiz (ak (aj 0) ao)))) ao)))))))) (wE (vC (.bl false))) (mI (tW .Or (wO (bL (tZ (ak (aA (aA (aj 5) (aj 3)) (aj 4)) (ak (aA (aj 7) (vC (.int 0))) ao)))) (w1 .Or (bL (tZ (ak (aA (aj 7) (vC (.int 1))) (ak (aA (aA (aj 5) (aj 3)) (aj 4)) ao))))))) (wE (vC (.bl false))) (mI (tW .Or (wO (bL (tZ (ak (aA (aj 7) (vC (.int 0))) (ak (pX [.int 0,.int 1]) ao)))) (w1 .Or (bL (tZ (ak (pX [.int 1,.int 1]) (ak (aA (aj 7) (vC (.int 1))) ao))))))) (wE (vC (.bl false))) (mC (sN (sF (cL (aj 7)) (gV 8) (bC (J9 9 (ak (aj 5) (ak (aj 1) (ak (aj 2) ao)))) (bC (sI (cQ (bL (Yz (ak (YD (ak (aj 5) (ak (aj 3) (ak (aj 4) (ak (aj 8) ao))))) (ak (aj 1) (ak (aj 6) ao)))))) (b1 (aG (vC (.bl false)))) b0) (b1 (sI (tW .And (wA (tK (aV dK (cR (J8 9)) (aj 6))) (w1 .And (tK (aV Ye (cR (Ka 9 (ak (aj 3) (ak (aj 4) (ak (aj 8) ao))))) (vC (.bl false))))))) (b1 (aG (vC (.bl false)))) b0)))))) (mC (sN (sF (cL (Hg [.tup [.int 1,.int 2],.tup [.int 999,.int 1000]])) (gV 10) (b1 (sF (cL (aip (ak (aj 7) (ak (aj 10) ao)))) (gV 8) (bC (J9 9 (ak (aj 5) (ak (aj 1) (ak (aj 2) ao)))) (bC (sI (bL (Yz (ak (YD (ak (aj 5) (ak (aj 3) (ak (aj 4) (ak (aj 8) ao))))) (ak (aj 1) (ak (aj 6) ao))))) (b1 (aG (vC (.bl false)))) b0) (b1 (sI (tW .And (wA (tK (aV dK (cR (J8 9)) (aj 6))) (wA (tK (aV mV (ah5 (ak (aj 8) ao)) (oF (vC (.int 10)) (vC (.int 12))))) (w1 .And (tK (aV Ye (cR (Ka 9 (ak (aj 3) (ak (aj 4) (ak (aj 8) ao))))) (vC (.bl true)))))))) (b1 (aG (vC (.bl false)))) b0)))))))) (mR (wE (vC (.bl true))))))))))))
noncomputable abbrev aiH:DM:=oK YZ
noncomputable def Kc:FM:=iK 11 aiH
noncomputable abbrev Y0(i:Nat){f:AF}(a:VA f):=Jv "_law_good" ["_law_keeper", "_law_rule_here", "_law_count", "_law_place", "_law_thing"] Kc 13 i a
noncomputable abbrev Y4:=(bC (sA 1 (aE (BR (ak (aj 0) (ak (vC (.int 0)) ao))))) (bC (sA 2 (aE (fB (vC (.int 1)) (jR (aj 1) (vC (.int 4)))))) (bC (sA 3 (aE (fB (vC (.int 1)) (jR (lB (aj 1) (vC (.int 4))) (vC (.int 12)))))) (bC (sA 4 (aE (aif (ak (aj 0) (ak (vC (.int 1)) (ak (aj 2) (ak (aj 3) ao))))))) (bC (sA 5 (aE (aij (ak (BR (ak (aj 0) (ak (vC (.int 5)) ao))) (ak (aj 2) ao))))) (bC (sA 6 (aE (jR (lB (aj 1) (vC (.int 48))) (fB (aj 3) (vC (.int 1)))))) (bC (J9 7 (ak (aj 4) (ak (aj 5) (ak (aj 6) ao)))) (bC (sN (sF (kZ (ak (fB (vC (.int 2)) (jR (lB (aj 1) (vC (.int 1000))) (vC (.int 15)))) ao)) (gV 8) (bC (sO 9 (aE (rW (ak (BR (ak (aj 0) (ak (fB (vC (.int 6)) (aj 8)) ao))) ao)))) (bC (sI (cQ (bL (cR (Y0 7 (ak (aj 5) (ak (aj 6) (ak (cR (ji 9 (ak (aj 2) ao))) (ak (cR (ji 9 (ak (aj 3) ao))) ao)))))))) (b1 (aG (vC (.bl false)))) b0) (b1 (jf (cR (Ka 7 (ak (cR (ji 9 (ak (aj 2) ao))) (ak (cR (ji 9 (ak (aj 3) ao))) (ak (cR (Ym 9 ao)) ao))))))))))) (b1 (aG (cR (Y0 7 (ak (aj 5) (ak (aj 6) (ak (vC (.int 0)) (ak (lA (aj 3) (vC (.int 1))) ao))))))))))))))))
noncomputable abbrev aiI:SF:=by exists Y4
noncomputable def ud:FP:=aM 10 aiI
theorem p18:mZ (.int 10) (.int 18)=.ok (.int 1000000000000000000,false):=by kernel_rfl
theorem p60:mZ (.int 10) (.int 60)=.ok (.int 1000000000000000000000000000000000000000000000000000000000000,false):=by kernel_rfl
theorem xq{rows:List (List (Int × Int))}(h:0<rows.length):aW (aY rows) (.int 0)=.ok (aH (rows.getD 0 []),false):=lK h
theorem m8{α : Type}{f : α -> Tr}{l:List α}{d:Nat}:oW none (some (d:Int)) (.lst (l.map f))=.ok (.lst ((l.take d).map f),true):=by
 show Rs.ok (Tr.lst (cut (l.map f) none (some (d:Int))),true)=_
 rw[ahE,<-List.map_take]
theorem cell_eq(ns:List Int)(k:Nat):∃x:Int,BP [.lst (ns.map .int),.int k]=.ok (.int x,false):=by
 suffices h:∃z,BP [.lst (ns.map .int),.int k]=.ok z/\∃x:Int,z=(.int x,false) by
  obtain⟨_,e,x,rfl⟩:=h
  exact⟨x,e⟩
 have a1:=p18
 have a2:=p60
 have c2:∀c:Int,dg (c.fmod 2147483587) (c.fmod 2147483587)=true:=λc=>by
  have:=jB c 2147483587 (by lia)
  exact jA (M:=40) (N:=40) (by lia) (by lia) (by lia) (by lia)
 have fin:∀c:Int,0<=c.fmod 2147483629/\c.fmod 2147483629<2147483648:=λc=>by
  have:=jB c 2147483629 (by lia)
  lia
 have Y5:∀c:Int,0<=c.fmod 2147483587/\c.fmod 2147483587<2147483648:=λc=>by
  have:=jB c 2147483587 (by lia)
  lia
 by_cases z:k<ns.length
 .have g:=lM (f:=Tr.int) 0 z
  by_cases y:1000000000000000000<=ns.getD k 0
  .walk_at "e"
   exact⟨_,rfl,_,rfl⟩
  .walk_at "e"
   refine vZ [5] (λs:Int × Int=>[(3,.sh (.int s.1)),(4,.sh (.int s.2))]) (λ_ s=>0<=s.1/\s.1<2147483648) ((ns.getD k 0*48271+(k:Int)*69621+11).fmod 2147483629,0) (fin _) rfl (λt v s _ i=>?_) (λv s i=>?_)
   .obtain⟨a,b⟩:=s
    have c0:dg a a=true:=jA (M:=40) (N:=40) (by have:=i.1; lia) (by lia) (by have:=i.1; lia) (by lia)
    walk_at "p"
    refine⟨(_,_),?_,exV rfl⟩
    exact Y5 _
   .walk_at "p"
    exact⟨_,rfl,_,rfl⟩
 .walk_at "e"
  refine vZ [5] (λs:Int × Int=>[(3,.sh (.int s.1)),(4,.sh (.int s.2))]) (λ_ s=>0<=s.1/\s.1<2147483648) ((0*48271+(k:Int)*69621+11).fmod 2147483629,0) (fin _) rfl (λt v s _ i=>?_) (λv s i=>?_)
  .obtain⟨a,b⟩:=s
   have c0:dg a a=true:=jA (M:=40) (N:=40) (by have:=i.1; lia) (by lia) (by have:=i.1; lia) (by lia)
   walk_at "p"
   refine⟨(_,_),?_,exV rfl⟩
   exact Y5 _
  .walk_at "p"
   exact⟨_,rfl,_,rfl⟩
theorem Y6(ns:List Int){i:Int}(h:0<=i):∃x:Int,BP [.lst (ns.map .int),.int i]=.ok (.int x,false):=by
 obtain⟨k,rfl⟩:=Int.eq_ofNat_of_zero_le h
 exact cell_eq ns k
theorem snoc{α : Type}{p : α -> Prop}{l:List α}{x : α}(h:∀y∈l,p y)(k:p x):∀y∈l++[x],p y:=λy hy=>(List.mem_append.mp hy).elim (h y) λz=>List.mem_singleton.mp z▸k
theorem aiJ{α β : Type}{f : α -> β}{l:List α}{x : α}:l.map f++[f x]=(l++[x]).map f:=by simp
theorem Y7(a b:Int):J0 [.int a,.int b]=.ok (.int (Int.gcd a b:Nat),false):=Br a b
theorem qJ{a b:Int}{M:Nat}(hb:1<=b)(hb2:b<2 ^ M)(hM:M<=8900):wK [.int a,.int b]=.ok (fT (red a b),false):=by
 have g:=Y7 a b
 have np:=gK M
 obtain⟨g1,g2,_⟩:=rJ (a:=a) (b:=b) (by lia)
 have c1:∀n,iV n ((Int.gcd a b:Nat):Int)=true:=λn=>Bp (M:=M) (by lia) (by lia) hM
 walk_at "d"
 unfold fT red
 rw[Int.fdiv_eq_ediv_of_nonneg _ (by lia),Int.fdiv_eq_ediv_of_nonneg _ (by lia)]
 rfl
noncomputable abbrev pi(x:Int):Sl:=.rf [.int x]
theorem lE{x s:Int}(h1:1<=s)(h2:s<2 ^ 64):wJ (pi x) [.int s]=.ok (.int (x.fmod s),pi (x.fdiv s)):=by
 walk_at "f"
theorem Y8{z b:Int}(h0:0<=z)(h1:z<=b)(h2:1<=b)(h3:b<=1000000000000):Wo (red z b):=by
 obtain⟨g1,g2,g3,g4,g5,g6,g7⟩:=rJ (a:=z) (b:=b) (by lia)
 have d2:=Int.ediv_le_self (a:=b) ((Int.gcd z b:Nat):Int) (by lia)
 have d3:=Int.ediv_le_ediv g1 h1
 exact⟨g5 h0,d3,g3,by show b / ((Int.gcd z b:Nat):Int)<=_; lia,g4⟩
theorem Y9{α : Type}{t : α -> Tr}{P : α -> Prop}{fe:EF}(hf:∀u x,∃a y,fe [.sh u,.ow [.int x]]=.ok (.v (t a) false,[.sh u,.ow [.int y]])/\P a):∀(us:List Tr) (s:Sl) (x:Int),∃(as:List α) (y:Int) (s':Sl),as.length=us.length/\(∀a∈as,P a)/\fY (gN 0) iC fe us [s,.ow [.int x]]=.ok (as.map t,[s',.ow [.int y]])
 | [],s,x=>⟨[],x,s,rfl,(λ_ h=>by cases h),rfl⟩
 |u::us,s,x=>by
  obtain⟨a,y,e,p⟩:=hf u x
  obtain⟨as,z,s',l,q,e'⟩:=Y9 hf us (.sh u) y
  exact⟨a::as,z,s',by rw[List.length_cons,List.length_cons,l],List.forall_mem_cons.mpr ⟨p,q⟩,bk (a:=[.sh u,.ow [.int x]]) rfl (bk rfl ((if_pos rfl).trans (bk e (bk rfl (bk e' rfl)))))⟩
theorem Za{α : Type}{t : α -> Tr}{P : α -> Prop}{fe:EF}(n:Nat)(hn:n<=100000)(x:Int)(hf:∀u x,∃a y,fe [.sh u,.ow [.int x]]=.ok (.v (t a) false,[.sh u,.ow [.int y]])/\P a):∃(as:List α) (y:Int),as.length=n/\(∀a∈as,P a)/\∀(ρ ρ':En) (fi:IF) (i:Nat),fi ρ=.ok ((List.range n).map λi:Nat=>.int i,ρ) -> ρ[i]?=some (.ow [.int x]) -> ρ.set i (.ow [.int y]) = ρ'->mQ [none,some i] fi (gN 0) iC fe ρ=.ok (.v (.lst (as.map t)) true,ρ'):=by
 obtain⟨as,y,s',l,p,e⟩:=Y9 hf ((List.range n).map λi:Nat=>.int i) .un x
 refine⟨as,y,by rw[l,List.length_map,List.length_range],p,λρ ρ' fi i hi k q=>?_⟩
 subst q
 refine bk hi ((if_pos (by rw[List.length_map,List.length_range]; exact hn)).trans ?_)
 have u:dF [none,some i] ρ=[.un,.ow [.int x]]:=by unfold dF; simp only[List.map,k]; rfl
 rw[u]
 show(c7 (fY _ _ _ _ _)).bind _=_
 rw[e]
 refine bk rfl ((if_pos (by unfold dU dU; rw[k]; rfl)).trans ?_)
 have d:bf [none,some i] [s',.ow [.int y]] ρ = ρ.set i (.ow [.int y]):=by
  unfold bf bf
  unfold bM
  rw[k]
  unfold bf
  rfl
 rw[d]
theorem p10:mZ (.int 10) (.int 10)=.ok (.int 10000000000,false):=by kernel_rfl
theorem p11:mZ (.int 10) (.int 11)=.ok (.int 100000000000,false):=by kernel_rfl
theorem aiK(x:Int):∃b:Int,aW (.lst [.int 1,.int 2,.int 3,.int 4,.int 6,.int 10,.int 12]) (.int (x.fmod 7))=.ok (.int b,false)/\1<=b/\b<=12:=by
 have r:=jB x 7 (by lia)
 obtain⟨k,hk⟩:=Int.eq_ofNat_of_zero_le r.1
 rw[hk]
 have:k<7:=by lia
 rcases k with _|_|_|_|_|_|_|k <;> first|exact⟨_,rfl,by decide,by decide⟩|lia
theorem clamp{b z:Int}(hb:1<=b):0<=(if(if z<b then z else b) > 0 then(if z<b then z else b)else 0)/\(if(if z<b then z else b) > 0 then(if z<b then z else b)else 0)<=b:=by
 split <;> split <;> lia
theorem Zb{F:FM}{S:Sl}{as:List Tr}{P:Int × Int->Prop}{w:Int × Int}{y:Int}(h:F S as=.ok (fT w,pi y))(k:P w):∃w y,F S as=.ok (fT w,pi y)/\P w:=⟨_,_,h,k⟩
theorem Zc(x:Int):∃w y,J1 (pi x) []=.ok (fT w,pi y)/\Wo w:=by
 have a1:=p10
 obtain⟨b,eb,b1,b2⟩:=aiK x
 have t1:=lE (x:=x) (s:=7) (by lia) (by lia)
 have t2:=lE (x:=x.fdiv 7) (s:=b+1) (by lia) (by lia)
 have t3:=lE (x:=(x.fdiv 7).fdiv (b+1)) (s:=8) (by lia) (by lia)
 have t4:=lE (x:=((x.fdiv 7).fdiv (b+1)).fdiv 8) (s:=5) (by lia) (by lia)
 by_cases h:((x.fdiv 7).fdiv (b+1)).fmod 8=7
 .apply Zb
  .walk_at "f"
   exact qJ (M:=60) (by lia) (by lia) (by lia)
   walk_at "r"
  .exact Y8 (clamp (by lia)).1 (clamp (by lia)).2 (by lia) (by lia)
 .apply Zb
  .walk_at "f"
   exact qJ (M:=60) (by lia) (by lia) (by lia)
   walk_at "r"
  .exact Y8 (clamp (by lia)).1 (clamp (by lia)).2 (by lia) (by lia)
theorem Zd(rows:List (List (Int × Int)))(t:Nat):(.lst (rows.map λl=>fT (l.getD t (0,1))))=aH (BH.col rows t):=by
 unfold aH BH.col
 rw[List.map_map]
 refine congrArg Tr.lst (List.ext_getElem? λi=>?_)
 by_cases z:i<rows.length
 .simp[z,gM]
 .simp[z]
noncomputable def Bq(m:Nat)(rows:List (List (Int × Int))):Prop:=1<=rows.length/\rows.length<=4/\1<=m/\m<=12/\∀l∈rows,l.length=m/\∀x∈l,Fq 1620 x
noncomputable abbrev vv(r:Ru)(rows:List (List (Int × Int)))(t:Nat):Int × Int:=wv r (BH.col rows t)
section
variable {m c:Nat}{rows:List (List (Int × Int))}{r:Ru}
theorem bq(hB:Bk m rows):Bq m rows:=⟨hB.1,hB.2.1,hB.2.2.1,hB.2.2.2.1,λl hl=>⟨(hB.2.2.2.2 l hl).1,λx hx=>((hB.2.2.2.2 l hl).2 x hx).fq.up (by lia)⟩⟩
theorem Bq.row(hB:Bq m rows)(hk:k<rows.length):rows.getD k []∈rows/\(rows.getD k []).length=m:=by
 have ml:rows.getD k []∈rows:=List.mem_of_getElem? (i:=k) (by simp[hk])
 exact⟨ml,(hB.2.2.2.2 _ ml).1⟩
theorem qK(hB:Bq m rows)(ht:t<m):∀x∈BH.col rows t,Fq 1620 x:=λx mx=>by
 unfold BH.col at mx
 obtain⟨k,mk,rfl⟩:=List.mem_map.mp mx
 obtain⟨ml,l⟩:=hB.row (List.mem_range.mp mk)
 exact(hB.2.2.2.2 _ ml).2 _ (getM (by rw[l]; exact ht))
theorem Ze(hB:Bq m rows)(ho:bK rows.length r)(ht:t<m):Wv r (BH.col rows t) (vv r rows t)/\Fq 6700 (vv r rows t):=by
 have q:=qK hB ht
 have lc:(BH.col rows t).length=rows.length:=iR ..
 have h4:=hB.2.1
 have w:=(BL (r:=r) (λx mx=>(q x mx).fx) (by rw[lc]; exact hB.1) (by rw[lc]; exact ho)).1
 refine⟨w,?_⟩
 have pl:(∃zs,cF (BH.col rows t) zs/\zs[bN (BH.col rows t).length r-1]?=some (vv r rows t))->Fq 6700 (vv r rows t):=λ⟨z,d,e⟩=>(q _ (d.1.mem_iff.mp (List.mem_of_getElem? e))).up (by lia)
 cases r with
 |sh ws =>
  have a:vv (.sh ws) rows t=dM (ws.zip (BH.col rows t)) (0,1):=w
  rw[a]
  exact(Bu _ _ 1 qF (JK ho.2 q)).up (by rw[List.length_zip]; lia)
 |product =>
  have a:vv .product rows t=dN (BH.col rows t) (1,1):=w
  rw[a]
  exact(Bv _ _ 1 qG q).up (by lia)
 |least=>exact pl w
 |greatest=>exact pl w
 |mid k=>exact pl w
theorem uf(hB:Bk m rows)(ho:bK rows.length r)(ht:t<m):Fq 400 (vv r rows t):=Wv.fq (qH hB ht) (by rw[iR]; exact hB.2.1) (by rw[iR]; exact ho) (ahX (r:=r) hB ho ht).2
theorem Zf(hB:Bq m rows)(ht:t<m):Wt [aY rows,.int t]=.ok (aH (BH.col rows t),true):=by
 have cm:=Zd rows t
 have:=hB.2.1
 rw[<-cm]
 unfold aY
 walk_at "d"
 have:=(hB.2.2.2.2 x hx).1
 lia
 walk_at "r"
theorem Kd(hB:Bq m rows)(ho:bK rows.length r):Wx [aY rows,aN r]=.ok (.lst ((List.range m).map λt=>fT (wv r (BH.col rows t))),true):=by
 have g0:aW (aY rows) (.int 0)=.ok (aH (rows.getD 0 []),false):=lK hB.1
 have e0:=jk (rows.getD 0 [])
 rw[(hB.row hB.1).2]at e0
 have h4:=hB.2.1
 have:=hB.2.2.2.1
 walk_at "d"
 exact Zf hB hx
 walk_at "r"
 have lc:(BH.col rows x).length=rows.length:=iR ..
 obtain⟨v,e,w⟩:=XH (r:=r) (qK hB hx) (by rw[lc]; exact hB.1) (by rw[lc]; lia) (by rw[lc]; lia) (by rw[lc]; exact ho)
 exact e.trans (by rw[<-BK (λx mx=>⟨(qK hB hx x mx).2.2.1,(qK hB hx x mx).2.2.2.2⟩) w])
 walk_at "r"
theorem aiL(hB:Bk m rows)(ho:bK rows.length r)(hc:c<=m):∃zs:List Nat,zs.Perm (List.range m)/\fM (vv r rows) (vv r rows) m (zs.take c)/\WX [aY rows,aN r,iT c]=.ok (.lst ((zs.take c).map λt=>.tup [iT t,fT (wv r (BH.col rows t))]),true):=by
 have b4:=hB.2.2.2.1
 have e1:=Yd hB ho hc
 have e2:=Kd (bq hB) ho
 have fw:∀t,t<m->Fq 400 (wv r (BH.col rows t)):=λt ht=>uf hB ho ht
 have ll:((List.range m).map λt=>wv r (BH.col rows t)).length=m:=by simp
 obtain⟨zs,e3,f⟩:=JG (N:=400) ((List.range m).map λt=>wv r (BH.col rows t)) (λx mx=>by
  obtain⟨t,mt,rfl⟩:=List.mem_map.mp mx
  obtain⟨q1,q2,q3,q4,_⟩:=fw t (List.mem_range.mp mt)
  have:=gK 400
  exact⟨q3,q4,by lia⟩) (by rw[ll]; lia) (by lia) (by rw[ll]; lia)
 rw[wz]at e3
 have p:=f.1
 rw[ll]at p
 have tl:(zs.take c).length<=12:=by rw[List.length_take,p.length_eq,List.length_range]; lia
 refine⟨zs,p,λt mt o om no=>?_,?_⟩
 .have mo:o∈zs:=p.mem_iff.mpr (List.mem_range.mpr om)
  have tm:=List.mem_range.mp (p.mem_iff.mp (List.mem_of_mem_take mt))
  have f2:=f.2
  rw[<-List.take_append_drop c zs]at mo f2
  have b:=(List.pairwise_append.mp f2).2.2 t mt o ((List.mem_append.mp mo).resolve_left no)
  have g:∀j,j<m->((List.range m).map λt=>wv r (BH.col rows t)).getD j (0,1)=vv r rows j:=λj hj=>by simp[hj]
  unfold qD at b
  rw[g t tm,g o om]at b
  exact decide_eq_false (by lia)
 rw[show((zs.take c).map λt=>Tr.tup [iT t,fT (wv r (BH.col rows t))])=(zs.take c).map λt=>Tr.tup [iT t,fT (wv r (BH.col rows ((List.range m).getD t 0)))]from List.map_congr_left λt mt=>by
  have xm:=List.mem_range.mp (p.mem_iff.mp (List.mem_of_mem_take mt))
  rw[List.getD_eq_getElem?_getD,List.getElem?_range xm]
  rfl]
 walk_at "d"
 have xm:=List.mem_range.mp (p.mem_iff.mp (List.mem_of_mem_take hx))
 rw[List.length_range]
 exact xm
 walk_at "r"
theorem aiM{m:Nat}{zs:List Nat}:∀t∈lD m zs,t<m:=λt h=>List.mem_range.mp (List.mem_filter.mp h).1
theorem aiN{m:Nat}{zs:List Nat}:(lD m zs).length<=m:=Nat.le_trans (List.length_filter_le ..) (by rw[List.length_range]; exact Nat.le_refl _)
theorem Zg(hB:Bk m rows)(ho:bK rows.length r)(hc:c<=m):∃ys:List Nat,(∀t∈ys,t<m)/\ys.length<=12/\fM (vv r rows) (vv r rows) m ys/\W5 [aY rows,aN r,iT c]=.ok (.lst (ys.map iT),true):=by
 obtain⟨zs,p,h,e⟩:=aiL hB ho hc
 have b4:=hB.2.2.2.1
 have mm:=λt=>ah0 (m:=m) (t:=t) (zs:=zs.take c) λt h=>List.mem_range.mp (p.mem_iff.mp (List.mem_of_mem_take h))
 have s:=ah2 (c:=c) p b4
 refine⟨lD m (zs.take c),aiM,Nat.le_trans aiN b4,λt mt o om no=>h t ((mm t).mp mt) o om λq=>no ((mm o).mpr q),?_⟩
 have tl:(zs.take c).length<=12:=by rw[List.length_take,p.length_eq,List.length_range]; lia
 walk_at "d"
 done
theorem Zh(hB:Bk m rows)(ht:t<m):W8 [aY rows,.int (t:Nat)]=.ok (.non,false):=by
 have g0:aW (aY rows) (.int 0)=.ok (aH (rows.getD 0 []),false):=lK hB.1
 have e0:=jk (rows.getD 0 [])
 rw[(hB.row hB.1).2.1]at e0
 have e1:=Xp (t:Int) (m:Int)
 rw[decide_eq_true (show(0:Int)<=t by lia),decide_eq_true (show(t:Int)<m by lia)]at e1
 walk_at "d"
theorem aiO{ys:List Nat}(hB:Bq m rows)(ho:bK rows.length r)(hV:∀t,t<m->Fq 400 (vv r rows t))(hy:∀t∈ys,t<m)(hl:ys.length<=12):∃bb,Xl [aY rows,aN r,.lst (ys.map iT)]=.ok (.bl bb,false)/\(bb=true↔fM (vv r rows) (vv r rows) m ys):=by
 have b4:=hB.2.2.2.1
 have e2:=Kd hB ho
 obtain⟨bb,e3,h⟩:=ahZ (a:=vv r rows) (b:=vv r rows) (λt ht=>⟨hV t ht,hV t ht⟩) b4 hy hl
 refine⟨bb,?_,h⟩
 unfold oU at e3
 walk_at "d"
 done
end
theorem Zi(l:List (Int × Int)):bT (l.map fT)=true:=Ft λt ht=>by
 obtain⟨x,_,rfl⟩:=List.mem_map.mp ht
 rfl
theorem Zj{rows:List (List (Int × Int))}(h:rows.length<=4):Bo [aY rows]=.ok (aY rows,true):=by
 walk_at "m"
 .exact Zi _
 .lia
 .rfl
theorem aiP{r:Ru}:Xh [aN r]=.ok (aN r,false):=by
 cases r <;> walk_at "d"
 done
theorem qL{x y:Int × Int}{M N:Nat}(hx:Fq M x)(hy:Fq N y)(hM:M+N<=8900):qI [fT x,fT y]=.ok (.bl (aU x y),false):=by
 obtain⟨_,c1,c2,_⟩:=mulC hx hy hM
 walk_at "d"
theorem Ca{x y:Int × Int}{M N:Nat}(hx:Fq M x)(hy:Fq N y)(hM:M+N<=8900):BX [fT x,fT y]=.ok (fT (aZ x y),false):=by
 obtain⟨c1,_,_,c4⟩:=mulC hx hy hM
 have p:=Int.mul_pos (a:=x.2) (b:=y.2) (by have:=hx.2.2.1; lia) (by have:=hy.2.2.1; lia)
 have e:=qJ (a:=x.1*y.1) (b:=x.2*y.2) (M:=M+N) (by lia) (f9 (by have:=hx.2.2.1; lia) hx.2.2.2.1 (by have:=hy.2.2.1; lia) hy.2.2.2.1) hM
 walk_at "d"
theorem Zk{x y:Int × Int}{M N:Nat}(hx:Fq M x)(hy:Fq N y)(hM:M+N<=8900):J3 [fT x,fT y]=.ok (fT (sumF x y),false):=by
 obtain⟨_,c2,c3,c4⟩:=mulC hx hy hM
 have x3:=hx.2.2.1
 have y3:=hy.2.2.1
 have p:=Int.mul_pos (a:=x.2) (b:=y.2) (by lia) (by lia)
 have e:=qJ (a:=x.1*y.2+y.1*x.2) (b:=x.2*y.2) (M:=M+N) (by lia) (f9 (by lia) hx.2.2.2.1 (by lia) hy.2.2.2.1) hM
 walk_at "d"
theorem Kf{x:Int × Int}(h1:1<=x.2)(h2:Int.gcd x.1 x.2=1):YG [fT x]=.ok (.bl true,false):=by
 have e:J0 [.int x.1,.int x.2]=.ok (.int 1,false):=(Y7 x.1 x.2).trans (by rw[h2]; rfl)
 walk_at "d"
 change W (jO _ _ ([x.1,x.2].map Tr.int) _) _
 refine jy [1] (λ_:Unit=>[]) (λ_ _=>True) () trivial rfl (λk y v s hy _=>?_) (λv s _=>?_)
 .walk_at "p"
  exact⟨(),trivial,exV rfl⟩
 .walk_at "p"
  done
noncomputable def mv(rows:List (List (Int × Int)))(p t:Nat)(w:Int × Int):List (List (Int × Int)):=rows.set p ((rows.getD p []).set t w)
theorem Zm{m p t:Nat}{w:Int × Int}{rows:List (List (Int × Int))}(hB:Bk m rows)(hp:p<rows.length)(ht:t<m):YC [aY rows,iT p,iT t,fT w]=.ok (aY (mv rows p t w),true):=by
 have rr:=Bk.row hB hp
 have i1:(rows.map λl=>Tr.lst (l.map fT))[p]?=some (.lst ((rows.getD p []).map fT)):=by simp[hp]
 walk_at "m"
 refine wCD (t:=aH) (h:=λl=>l.map fT) (xs:=rows) rfl rfl (λl hl=>rfl) (λl hl=>Zi l) (by have:=hB.2.1; lia) qT ?_
 walk_at "r"
 refine wSD (m:=p) (n:=t) rfl rfl rfl i1 rfl (by rw[List.length_map,rr.2.1]; exact ht) rfl (λu hu=>?_) qT ?_
 .obtain⟨x,_,rfl⟩:=List.mem_map.mp hu
  rfl
 walk_at "r"
 show Rs.ok (Tr.lst ((rows.map aH).set p (.lst (((rows.getD p []).map fT).set t (fT w)))),true)=_
 unfold aY mv
 rw[List.map_set,<-List.map_set (f:=fT)]
 rfl
theorem aiQ{zs:List (Int × Int)}{w:Int × Int}{q:Nat}{N:Nat}(hz:∀z∈zs,Fq N z)(hw:Fq N w)(h:zs.Pairwise λa b=>le2 b a)(hq:q<=zs.length)(h1:∀j (h:j<zs.length),j<q->le2 w zs[j])(h2:∀h:q<zs.length,le2 zs[q] w):(zs.take q++w::zs.drop q).Pairwise λa b=>le2 b a:=by
 have pw:=List.pairwise_iff_getElem.mp h
 rw[List.pairwise_append]
 refine⟨h.sublist (List.take_sublist _ _),List.pairwise_cons.mpr ⟨λb hb=>?_,h.sublist (List.drop_sublist _ _)⟩,λa ha b hb=>?_⟩
 .obtain⟨j,hj,rfl⟩:=List.getElem_of_mem hb
  rw[List.getElem_drop]
  have jl:q+j<zs.length:=by rw[List.length_drop]at hj; omega
  have a1:=h2 (by omega)
  by_cases z:j=0
  .subst z; exact a1
  .have a2:=pw q (q+j) (by omega) jl (by omega)
   exact iQ (hz _ (List.getElem_mem jl)).2.2.1 (hz _ (List.getElem_mem (by omega))).2.2.1 hw.2.2.1 a2 a1
 .obtain⟨j,hj,rfl⟩:=List.getElem_of_mem ha
  rw[List.length_take]at hj
  rw[List.getElem_take]
  have a1:=h1 j (by omega) (by omega)
  rcases List.mem_cons.mp hb with rfl|hb
  .exact a1
  .obtain⟨i,hi,rfl⟩:=List.getElem_of_mem hb
   rw[List.length_drop]at hi
   rw[List.getElem_drop]
   exact pw j (q+i) (by omega) (by omega) (by omega)
theorem aiR{N:Nat}{xs:List (Int × Int)}(hx:∀x∈xs,Fq N x)(hN:N+N<=8900)(hl:xs.length<=12):∃zs,J6 [aH xs]=.ok (aH zs,true)/\cF xs zs:=by
 suffices h:∃z,J6 [aH xs]=.ok z/\∃zs,cF xs zs/\z=(aH zs,true) by
  obtain⟨_,e,zs,h,rfl⟩:=h
  exact⟨zs,e,h⟩
 walk_at "e"
 refine jy [2,3] (λs:List (Int × Int)=>[(1,.ow (s.map fT))]) (λk s=>s.Perm (xs.take k)/\s.Pairwise λa b=>le2 b a) [] ⟨.nil,.nil⟩ rfl (λk w v zs gx i=>?_) (λv zs i=>?_)
 .have kl:=(List.getElem?_eq_some_iff.mp gx).1
  have lz:zs.length=k:=by rw[i.1.length_eq,List.length_take]; lia
  have hz:∀z∈zs,Fq N z:=λz m=>hx z (List.mem_of_mem_take (i.1.mem_iff.mp m))
  have hw:=hx w (List.mem_of_getElem? gx)
  walk_at "p"
  refine Ui [] (λp:Nat=>[(3,.sh (.int p))]) (λp=>p<=zs.length/\∀j (h:j<zs.length),j<p->le2 w zs[j]) (λp=>zs.length-p) 0 ⟨Nat.zero_le _,λj _ h=>(by lia)⟩ rfl (by show zs.length-0<(zs.map fT).length+1; simp) (λv' p ip=>?_)
  dsimp only[pt,List.map,List.set]at *
  have fin:(∀h:p<zs.length,le2 zs[p] w)->(zs.take p++w::zs.drop p).Perm (xs.take (k+1))/\(zs.take p++w::zs.drop p).Pairwise λa b=>le2 b a:=λh2=>⟨by
   rw[List.take_add_one,gx]
   refine List.perm_middle.trans ?_
   rw[List.take_append_drop]
   exact(i.1.cons w).trans (List.perm_append_comm (l₁:=[w])),aiQ hz hw i.2 ip.1 ip.2 h2⟩
  by_cases z:p<zs.length
  .have gd:zs.getD p (0,1)=zs[p]:=by simp[z]
   have e:=qL (x:=zs.getD p (0,1)) (y:=w) (by rw[gd]; exact hz _ (List.getElem_mem z)) hw hN
   cases c:aU (zs.getD p (0,1)) w with
   |true =>
    rw[c]at e
    apply v5
    walk_at "r"
    refine⟨_,fin λh=>?_,exV (by rw[List.map_append,List.map_cons,List.map_take,List.map_drop]; rfl)⟩
    rw[gd]at c
    unfold aU at c
    unfold le2
    simp only[decide_eq_true_eq]at c
    lia
   |false =>
    rw[c]at e
    apply v5
    walk_at "r"
    refine⟨p+1,⟨by lia,λj h hj=>?_⟩,by lia,λ_=>.un,rfl⟩
    by_cases q:j=p
    .subst q
     rw[gd]at c
     exact cu.mp c
    .exact ip.2 j h (by lia)
  .apply v5
   walk_at "r"
   refine⟨_,fin λh=>absurd h z,exV (by rw[List.map_append,List.map_cons,List.map_take,List.map_drop]; rfl)⟩
 .rw[List.take_length]at i
  walk_at "p"
  exact⟨_,rfl,zs,i,rfl⟩
theorem aiS{N:Nat}{r:Ru}{xs:List (Int × Int)}(hN:N<=2000)(hx:∀x∈xs,Fq N x)(h1:1<=xs.length)(h4:xs.length<=4)(ho:bK xs.length r):∃v,uc [aN r,aH xs]=.ok (fT v,false)/\Wv r xs v:=by
 have pl:placed r=true->∃v,uc [aN r,aH xs]=.ok (fT v,false)/\∃zs,cF xs zs/\zs[bN xs.length r-1]?=some v:=λhp=>by
  obtain⟨zs,e6,hd⟩:=aiR hx (by lia) (by lia)
  have lz:=hd.1.length_eq
  obtain⟨p1,p2⟩:=JQ hp ho h1
  have g:aW (aH zs) (.int ((bN xs.length r-1:Nat):Int))=.ok (fT (zs.getD (bN xs.length r-1) (0,1)),false):=lJ (by lia)
  have q:zs[bN xs.length r-1]?=some (zs.getD (bN xs.length r-1) (0,1)):=by rw[List.getElem?_eq_getElem (by lia)]; simp; rw[List.getElem?_eq_getElem (by lia)]; rfl
  refine⟨_,?_,zs,hd,q⟩
  have d1:uO (.int ((bN xs.length r:Nat):Int)) (.int 1)=.ok (.int ((bN xs.length r-1:Nat):Int),false):=by show Rs.ok (Tr.int ((bN xs.length r:Int)-1),false)=_; rw[Int.ofNat_sub p1]; rfl
  have gz:∀z:Int,z+1=(bN xs.length r:Nat)->aW (aH zs) (.int z)=.ok (fT (zs.getD (bN xs.length r-1) (0,1)),false):=λz h=>by rw[show z=((bN xs.length r-1:Nat):Int) by lia]; exact g
  cases r with
  |sh ws=>cases hp
  |product=>cases hp
  |least =>
   have i0:aW (aN .least) (.int 0)=.ok (.str "least",false):=rfl
   have e0:bN xs.length .least=xs.length:=rfl
   walk_at "d"
   exact gz _ (by lia)
   walk_at "r"
  |greatest =>
   have i0:aW (aN .greatest) (.int 0)=.ok (.str "greatest",false):=rfl
   have e0:bN xs.length .greatest=1:=rfl
   walk_at "d"
   exact gz _ (by lia)
   walk_at "r"
  |mid k =>
   have i0:aW (aN (.mid k)) (.int 0)=.ok (.str "middle",false):=rfl
   have i1:aW (aN (.mid k)) (.int 1)=.ok (.int k,false):=rfl
   have e0:bN xs.length (.mid k)=k:=rfl
   walk_at "d"
   exact gz _ (by lia)
   walk_at "r"
 cases r with
 |sh ws =>
  have ol:=ho.1
  suffices h:uc [aN (.sh ws),aH xs]=.ok (fT (dM (ws.zip xs) (0,1)),false)from⟨_,h,rfl⟩
  have i1:aW (aN (.sh ws)) (.int 1)=.ok (aH ws,false):=rfl
  have zl:(ws.zip xs).length<=4:=by rw[List.length_zip]; lia
  walk_at "d"
  rw[XC]
  refine jy [3,4] (λt:Int × Int=>[(2,.sh (fT t))]) (λk t=>t=dM ((ws.zip xs).take k) (0,1)/\Fq (1+(46+N)*k) t) (0,1) ⟨rfl,qF⟩ rfl (λk p v t gx i=>?_) (λv t i=>?_)
  .have kl:=(List.getElem?_eq_some_iff.mp gx).1
   have pm:=List.mem_of_getElem? gx
   have fx:=hx _ (List.of_mem_zip pm).2
   have fw:=ho.2 _ (List.of_mem_zip pm).1
   have f:=tV fw fx
   have b1:(46+N)*k<=(46+N)*3:=Nat.mul_le_mul_left _ (by lia)
   have e1:=Ca fw fx (by lia)
   have e2:=Zk i.2 f (by lia)
   walk_at "p"
   refine⟨_,⟨?_,(Xw i.2 f).up (by rw[Nat.mul_add]; lia)⟩,exV rfl⟩
   rw[i.1,List.take_add_one,gx]
   unfold dM
   rw[List.foldl_append]
   rfl
  .rw[i.1,List.take_length]
   walk_at "p"
 |product =>
  suffices h:uc [aN .product,aH xs]=.ok (fT (dN xs (1,1)),false)from⟨_,h,rfl⟩
  walk_at "d"
  refine jy [4] (λt:Int × Int=>[(2,.sh (fT t))]) (λk t=>t=dN (xs.take k) (1,1)/\Fq (1+N*k) t) (1,1) ⟨rfl,qG⟩ rfl (λk x v t gx i=>?_) (λv t i=>?_)
  .have kl:=(List.getElem?_eq_some_iff.mp gx).1
   have fx:=hx x (List.mem_of_getElem? gx)
   have b1:N*k<=N*3:=Nat.mul_le_mul_left _ (by lia)
   have e1:=Ca i.2 fx (by lia)
   walk_at "p"
   refine⟨_,⟨?_,(tV i.2 fx).up (by rw[Nat.mul_add]; lia)⟩,exV rfl⟩
   rw[i.1,List.take_add_one,gx]
   unfold dN
   rw[List.foldl_append]
   rfl
  .rw[i.1,List.take_length]
   walk_at "p"
 |least=>exact pl rfl
 |greatest=>exact pl rfl
 |mid k=>exact pl rfl
noncomputable def bb(s:Bool)(x y:Int × Int):Prop:=if s=true then le2 x y else ¬le2 y x
noncomputable def Q(x:Int × Int)(n d:Int):Prop:=x.1*d=n*x.2
theorem mW{u v:Int × Int}{n d m e:Int}(h:Q u n d)(h':Q v m e)(u2:1<=u.2)(v2:1<=v.2)(d1:1<=d)(e1:1<=e):le2 u v↔n*e<=m*d:=by
 unfold Q at h h'
 unfold le2
 have p1:0<d*e:=Int.mul_pos (by lia) (by lia)
 have p2:0<u.2*v.2:=Int.mul_pos (by lia) (by lia)
 have a1:u.1*v.2*(d*e)=n*e*(u.2*v.2):=by grind
 have a2:v.1*u.2*(d*e)=m*d*(u.2*v.2):=by grind
 constructor
 .intro k
  have:=Int.mul_le_mul_of_nonneg_right k (Int.le_of_lt p1)
  rw[a1,a2]at this
  exact Int.le_of_mul_le_mul_right this p2
 .intro k
  have:=Int.mul_le_mul_of_nonneg_right k (Int.le_of_lt p2)
  rw[<-a1,<-a2]at this
  exact Int.le_of_mul_le_mul_right this p1
theorem wN{u:Int × Int}{n d m e:Int}(h:Q u n d)(d1:1<=d)(k:n*e=m*d):Q u m e:=by
 unfold Q at *
 refine Int.eq_of_mul_eq_mul_right (a:=d) (by lia) ?_
 have:u.1*e*d=u.1*d*e:=by grind
 rw[this,h]
 grind
theorem oV{a b:Int}(hb:1<=b):Q (red a b) a b:=((iM (a:=a) hb).1).symm
noncomputable def Af(f:Int × Int->Int × Int)(a b D:Int):Prop:=1<=D/\∀x:Int × Int,1<=x.2->1<=(f x).2/\Q (f x) (a*x.2+b*x.1) (D*x.2)
variable {f h:Int × Int->Int × Int}{a b D a' b' D':Int}
theorem Kg{y:Int × Int}(hy:1<=y.2):Af (λ_=>y) y.1 0 y.2:=⟨hy,λx _=>⟨hy,by unfold Q; grind⟩⟩
theorem Zn:Af (λx=>x) 0 1 1:=⟨by lia,λx hx=>⟨hx,by unfold Q; grind⟩⟩
theorem Zo(hf:Af f a b D)(hh:Af h a' b' D'):Af (λx=>sumF (f x) (h x)) (a*D'+a'*D) (b*D'+b'*D) (D*D'):=by
 refine⟨bY hf.1 hh.1,λx hx=>?_⟩
 obtain⟨f2,qf⟩:=hf.2 x hx
 obtain⟨h2,qh⟩:=hh.2 x hx
 refine⟨(iM (bY f2 h2)).2.1,wN (oV (bY f2 h2)) (bY f2 h2) ?_⟩
 unfold Q at *
 grind
theorem Cd{w:Int × Int}(hw:1<=w.2)(hf:Af f a b D):Af (λx=>aZ w (f x)) (w.1*a) (w.1*b) (w.2*D):=by
 refine⟨bY hw hf.1,λx hx=>?_⟩
 obtain⟨f2,qf⟩:=hf.2 x hx
 refine⟨(iM (bY hw f2)).2.1,wN (oV (bY hw f2)) (bY hw f2) ?_⟩
 unfold Q at *
 grind
theorem aiT(x y:Int × Int):aZ x y=aZ y x:=by unfold aZ; rw[Int.mul_comm x.1,Int.mul_comm x.2]
theorem Kh:∀(xs ws:List (Int × Int)) (p:Nat) (f:Int × Int->Int × Int) (a b D:Int),(∀w∈ws,1<=w.2)->(∀x∈xs,1<=x.2)->Af f a b D->∃a b D,Af (λx=>dM (ws.zip (xs.set p x)) (f x)) a b D
 | [],ws,p,f,a,b,D,_,_,h=>⟨a,b,D,by simp only[List.set_nil,List.zip_nil_right]; exact h⟩
 |y::xs,[],p,f,a,b,D,_,_,h=>⟨a,b,D,h⟩
 |y::xs,w::ws,0,f,a,b,D,hw,hx,h=>by
  obtain⟨a1,b1,D1,q⟩:=Kh xs ws xs.length _ _ _ _ (λz m=>hw z (List.mem_cons_of_mem _ m)) (λz m=>hx z (List.mem_cons_of_mem _ m)) (Zo h (Cd (hw w (List.mem_cons_self ..)) Zn))
  refine⟨a1,b1,D1,?_⟩
  have e:∀x,xs.set xs.length x=xs:=λx=>List.set_eq_of_length_le (Nat.le_refl _)
  simp only[e]at q
  exact q
 |y::xs,w::ws,p+1,f,a,b,D,hw,hx,h=>Kh xs ws p _ _ _ _ (λz m=>hw z (List.mem_cons_of_mem _ m)) (λz m=>hx z (List.mem_cons_of_mem _ m)) (Zo h (Cd (hw w (List.mem_cons_self ..)) (Kg (hx y (List.mem_cons_self ..)))))
theorem Zq:∀(xs:List (Int × Int)) (f:Int × Int->Int × Int) (a b D:Int),(∀x∈xs,1<=x.2)->Af f a b D->∃a b D,Af (λx=>dN xs (f x)) a b D
 | [],f,a,b,D,_,h=>⟨a,b,D,h⟩
 | y :: xs,f,a,b,D,hx,h=>Zq xs (λx=>aZ (f x) y) _ _ _ (λz m=>hx z (List.mem_cons_of_mem _ m)) (by
   simp only[aiT _ y]
   exact Cd (hx y (List.mem_cons_self ..)) h)
theorem Zr:∀(xs:List (Int × Int)) (p:Nat) (t:Int × Int),(∀x∈xs,1<=x.2)->1<=t.2->∃a b D,Af (λx=>dN (xs.set p x) t) a b D
 | [],p,t,_,h=>⟨_,_,_,Kg h⟩
 |y::xs,0,t,hx,h=>Zq xs _ _ _ _ (λz m=>hx z (List.mem_cons_of_mem _ m)) (Cd h Zn)
 |y::xs,p+1,t,hx,h=>Zr xs p (aZ t y) (λz m=>hx z (List.mem_cons_of_mem _ m)) (iM (bY h (hx y (List.mem_cons_self ..)))).2.1
noncomputable def iU(x y:Int × Int):Int × Int:=red (x.1*y.2-y.1*x.2) (x.2*y.2)
noncomputable def qN(x y:Int × Int):Int × Int:=red (x.1*y.2) (x.2*y.1)
theorem ug{x y:Int × Int}{M N:Nat}(hx:Fq M x)(hy:Fq N y)(h:le2 y x):Fq (M+N) (iU x y):=by
 have b1:=f9 hx.1 hx.2.1 (by have:=hy.2.2.1; lia) hy.2.2.2.1
 have b2:=Int.mul_nonneg hy.1 (show 0<=x.2 by have:=hx.2.2.1; lia)
 unfold le2 at h
 exact oR (by lia) (by lia) (bY hx.2.2.1 hy.2.2.1) (f9 (by have:=hx.2.2.1; lia) hx.2.2.2.1 (by have:=hy.2.2.1; lia) hy.2.2.2.1)
theorem aiU{x y:Int × Int}{M N:Nat}(hx:Fq M x)(hy:Fq N y)(h:1<=y.1):Fq (M+N) (qN x y) :=
 oR (Int.mul_nonneg hx.1 (by have:=hy.2.2.1; lia)) (f9 hx.1 hx.2.1 (by have:=hy.2.2.1; lia) hy.2.2.2.1) (bY hx.2.2.1 h) (f9 (by have:=hx.2.2.1; lia) hx.2.2.2.1 (by lia) hy.2.1)
theorem aiV{s:Bool}{g:Int × Int}{N:Nat}(hf:Af f a b D)(f0:Fq N (f (0,1)))(f1:Fq N (f (1,1)))(hg:Fq N g)(h0:¬bb s g (f (0,1)))(h1:bb s g (f (1,1))):le2 (f (0,1)) g/\le2 (f (0,1)) (f (1,1))/\1<=(iU (f (1,1)) (f (0,1))).1/\(∀(s:Bool) (x:Int × Int),1<=x.2->(bb s g (f x)↔bb s (qN (iU g (f (0,1))) (iU (f (1,1)) (f (0,1)))) x)):=by
 have q0:=(hf.2 (0,1) (by decide)).2
 have q1:=(hf.2 (1,1) (by decide)).2
 have D1:=hf.1
 have g2:=hg.2.2.1
 have wQ:=f0.2.2.1
 have Km:=f1.2.2.1
 have qg:Q g g.1 g.2:=rfl
 have l1:∀x:Int × Int,1<=x.2->(le2 g (f x)↔g.1*(D*x.2)<=(a*x.2+b*x.1)*g.2):=λx hx=>mW qg (hf.2 x hx).2 g2 (hf.2 x hx).1 g2 (bY D1 hx)
 have l2:∀x:Int × Int,1<=x.2->(le2 (f x) g↔(a*x.2+b*x.1)*g.2<=g.1*(D*x.2)):=λx hx=>mW (hf.2 x hx).2 qg (hf.2 x hx).1 g2 (bY D1 hx) g2
 have a0:=l1 (0,1) (by decide)
 have b0:=l2 (0,1) (by decide)
 have a1:=l1 (1,1) (by decide)
 have b1:=l2 (1,1) (by decide)
 have nd:0<=g.1*D-a*g.2/\1<=b*g.2:=by
  unfold bb at h0 h1
  cases s <;> simp only[Bool.false_eq_true,if_true,if_false,Classical.not_not]at h0 h1
  .have:=b0.mp h0
   have:=λz=>h1 (b1.mpr z)
   dsimp only at *
   grind
  .have:=λz=>h0 (a0.mpr z)
   have:=a1.mp h1
   dsimp only at *
   grind
 obtain⟨n0,d1⟩:=nd
 have bp:1<=b:=by
  refine Classical.byContradiction λz=>?_
  have:=Int.mul_le_mul_of_nonneg_right (show b<=0 by lia) (show 0<=g.2 by lia)
  lia
 have t0:le2 (f (0,1)) g:=b0.mpr (by dsimp only; grind)
 have t1:le2 (f (0,1)) (f (1,1)):=(mW q0 q1 wQ Km (by lia) (by lia)).mpr (by
  have:=Int.mul_le_mul_of_nonneg_right (show a*1+b*0<=a*1+b*1 by lia) (show 0<=D*1 by lia)
  exact this)
 have qe:Q (iU g (f (0,1))) (g.1*D-a*g.2) (g.2*D):=wN (oV (bY g2 wQ)) (bY g2 wQ) (by unfold Q at q0; dsimp only at q0; grind)
 have qk:Q (iU (f (1,1)) (f (0,1))) b D:=wN (oV (bY Km wQ)) (bY Km wQ) (by unfold Q at q0 q1; dsimp only at q0 q1; grind)
 have e2:=(ug hg f0 t0).2.2.1
 have k2:=(ug f1 f0 t1).2.2.1
 generalize iU g (f (0,1))=e at qe e2 ⊢
 generalize iU (f (1,1)) (f (0,1))=k at qk k2 ⊢
 have k1:1<=k.1:=by
  refine Classical.byContradiction λz=>?_
  have:=Int.mul_le_mul_of_nonneg_right (show k.1<=0 by lia) (show 0<=D by lia)
  unfold Q at qk
  have:=bY bp k2
  lia
 have qu:Q (qN e k) (g.1*D-a*g.2) (b*g.2):=wN (oV (bY e2 k1)) (bY e2 k1) (by unfold Q at qe qk; grind)
 have u2:1<=(qN e k).2:=(iM (bY e2 k1)).2.1
 refine⟨t0,t1,k1,λs x hx=>?_⟩
 have m1:=mW qu (show Q x x.1 x.2 from rfl) u2 hx d1 hx
 have m2:=mW (show Q x x.1 x.2 from rfl) qu hx u2 hx d1
 unfold bb
 cases s <;> simp only[Bool.false_eq_true,if_true,if_false]
 .rw[l2 x hx,m2]
  constructor <;> intro z w <;> apply z <;> grind
 .rw[l1 x hx,m1]
  constructor <;> intro z <;> grind
end K66
end
section
namespace K66
open PySem L2 BH
theorem Zt{x y:Int × Int}{M N:Nat}(hx:Fq M x)(hy:Fq N y)(hM:M+N<=8900):Vg [fT x,fT y]=.ok (fT (iU x y),false):=by
 obtain⟨_,c1,c2,c3⟩:=mulC hx hy hM
 have p:=bY hx.2.2.1 hy.2.2.1
 have e:=Bt (a:=x.1*y.2-y.1*x.2) (b:=x.2*y.2) (M:=M+N) p (f9 (by have:=hx.2.2.1; lia) hx.2.2.2.1 (by have:=hy.2.2.1; lia) hy.2.2.2.1) hM
 walk_at "d"
theorem aiW{x y:Int × Int}{M N:Nat}(hx:Fq M x)(hy:Fq N y)(h:1<=y.1)(hM:M+N<=8900):Vm [fT x,fT y]=.ok (fT (qN x y),false):=by
 obtain⟨_,c1,_,_⟩:=mulC hx hy hM
 have nM:=gK M
 have nN:=gK N
 have c2:dg x.2 y.1=true:=jA (M:=M) (N:=N) (by have:=hx.2.2.1; have:=hx.2.2.2.1; lia) (by lia) (by have:=hy.2.1; lia) (by lia)
 have e:=Bt (a:=x.1*y.2) (b:=x.2*y.1) (M:=M+N) (bY hx.2.2.1 h) (f9 (by have:=hx.2.2.1; lia) hx.2.2.2.1 (by lia) hy.2.1) hM
 walk_at "d"
theorem aiX{r:Ru}{x y g:Int × Int}(hr:placed r=false)(hx:Fq 400 x)(hy:Fq 400 y)(hg:Fq 400 g)(h0:le2 x g)(h1:le2 x y)(h2:1<=(iU y x).1):Bm [aN r,fT x,fT y,fT g]=.ok (fT (qN (iU g x) (iU y x)),false):=by
 have e1:=Zt hg hx (by lia)
 have e2:=Zt hy hx (by lia)
 have e3:=aiW (ug hg hx h0) (ug hy hx h1) h2 (by lia)
 cases r with
 |sh ws =>
  have i0:aW (aN (.sh ws)) (.int 0)=.ok (.str "shares",false):=rfl
  walk_at "d"
  done
 |product =>
  have i0:aW (aN .product) (.int 0)=.ok (.str "product",false):=rfl
  walk_at "d"
  done
 |least=>cases hr
 |greatest=>cases hr
 |mid k=>cases hr
theorem aiY{r:Ru}{X Y:Tr}{g:Int × Int}(hr:placed r=true):Bm [aN r,X,Y,fT g]=.ok (fT g,false):=by
 obtain⟨w,e1,e2,e3,_⟩:=ahS hr
 walk_at "d"
 done
theorem aiZ{xs zs:List (Int × Int)}(d:cF xs zs){p:Int × Int->Bool}(hp:∀a∈xs,∀b∈xs,le2 b a->p b=true->p a=true){k:Nat}{v:Int × Int}(hv:zs[k]?=some v):p v=true↔k<xs.countP p:=by
 have mm:∀a,a∈zs->a∈xs:=λa m=>d.1.mem_iff.mp m
 obtain⟨e1,e2⟩:=pref (p:=p) zs (d.2.imp_of_mem λ{a b} ma mb r=>hp a (mm a ma) b (mm b mb) r)
 have c:xs.countP p=(zs.filter p).length:=by rw[<-d.1.countP_eq,List.countP_eq_length_filter]
 obtain⟨kl,kv⟩:=List.getElem?_eq_some_iff.mp hv
 rw[c]
 constructor
 .intro h
  refine Classical.byContradiction λz=>?_
  have m:v∈zs.drop (zs.filter p).length:=List.mem_of_getElem? (i:=k-(zs.filter p).length) (by rw[List.getElem?_drop,<-hv]; congr 1; lia)
  rw[e2]at m
  have:=(List.mem_filter.mp m).2
  rw[h]at this
  cases this
 .intro h
  have m:v∈zs.take (zs.filter p).length:=List.mem_of_getElem? (i:=k) (by rw[List.getElem?_take,if_pos h,hv])
  rw[e1]at m
  exact(List.mem_filter.mp m).2
theorem Zu(p:Int × Int->Bool):∀(xs:List (Int × Int)) (i:Nat),i<xs.length->∃C,∀x,(xs.set i x).countP p=C+(if p x=true then 1 else 0)
 |y::xs,0,_=>⟨xs.countP p,λx=>by rw[List.set_cons_zero,List.countP_cons]⟩
 |y::xs,i+1,h=>by
  obtain⟨C,e⟩:=Zu p xs i (by simpa using h)
  exact⟨C+(if p y=true then 1 else 0),λx=>by rw[List.set_cons_succ,List.countP_cons,e]; lia⟩
open Classical in
theorem ai0{s:Bool}{g a b:Int × Int}(hg:1<=g.2)(ha:1<=a.2)(hb:1<=b.2)(h:le2 b a)(k:bb s g b):bb s g a:=by
 unfold bb at *
 cases s <;> simp only[Bool.false_eq_true,if_true,if_false]at *
 .exact λz=>k (iQ hb ha hg h z)
 .exact iQ hg hb ha k h
open Classical in
theorem ai1{s:Bool}{g:Int × Int}{r:Ru}{xs:List (Int × Int)}{p:Nat}(hr:placed r=true)(hx:∀x∈xs,Fx x)(hp:p<xs.length)(hg:1<=g.2){f:Int × Int->Int × Int}(hf:∀x,Fx x->Wv r (xs.set p x) (f x))(h0:¬bb s g (f (0,1)))(h1:bb s g (f (1,1))){x:Int × Int}(hx1:Fx x):bb s g (f x)↔bb s g x:=by
 obtain⟨C,hC⟩:=Zu (λz=>decide (bb s g z)) xs p hp
 have key:∀x,Fx x->(bb s g (f x)↔bN xs.length r-1<C+if bb s g x then 1 else 0):=λx hx'=>by
  have h:=hf x hx'
  have w:∃zs,cF (xs.set p x) zs/\zs[bN (xs.set p x).length r-1]?=some (f x):=by
   cases r <;> first|exact h|cases hr
  obtain⟨zs,d,e⟩:=w
  have m2:∀a∈xs.set p x,1<=a.2:=λa m=>by
   rcases List.mem_or_eq_of_mem_set m with m|rfl
   .exact(hx a m).2.1
   .exact hx'.2.1
  have:=aiZ d (p:=λz=>decide (bb s g z)) (λa ma b mb l k=>decide_eq_true (ai0 hg (m2 a ma) (m2 b mb) l (of_decide_eq_true k))) e
  rw[hC,List.length_set]at this
  simpa using this
 have k0:=key (0,1) (by unfold Fx; decide)
 have k1:=key (1,1) (by unfold Fx; decide)
 rw[key x hx1]
 have a0:=λz=>h0 (k0.mpr z)
 have a1:=k1.mp h1
 by_cases z:bb s g x <;> simp only[z,if_true,if_false,iff_true,iff_false] <;> split at a1 <;> split at a0 <;> lia
theorem inv{s:Bool}{g:Int × Int}{r:Ru}{xs:List (Int × Int)}{p:Nat}(hx:∀x∈xs,Fq 45 x)(h1:1<=xs.length)(h4:xs.length<=4)(hp:p<xs.length)(ho:bK xs.length r)(hg:Fq 400 g)(b0:¬bb s g (wv r (xs.set p (0,1))))(b1:bb s g (wv r (xs.set p (1,1)))):∃u,Bm [aN r,fT (wv r (xs.set p (0,1))),fT (wv r (xs.set p (1,1))),fT g]=.ok (fT u,false)/\Fq 1600 u/\(∀x,Fx x->(bb s g (wv r (xs.set p x))↔bb s u x))/\Fq 400 (wv r (xs.set p u)):=by
 have fx:∀x,Fx x->∀y∈xs.set p x,Fx y:=λx h y m=>by
  rcases List.mem_or_eq_of_mem_set m with m|rfl
  .exact(hx y m).fx
  .exact h
 have ll:∀x,(xs.set p x).length=xs.length:=λx=>List.length_set ..
 have W:∀x,Fx x->Wv r (xs.set p x) (wv r (xs.set p x))/\Fx (wv r (xs.set p x)):=λx h=>BL (fx x h) (by rw[ll]; exact h1) (by rw[ll]; exact ho)
 have F:∀x,Fq 45 x->Fq 400 (wv r (xs.set p x)):=λx h=>Wv.XJ (λy m=>by
  rcases List.mem_or_eq_of_mem_set m with m|rfl
  .exact hx y m
  .exact h) (by rw[ll]; exact h4) (by rw[ll]; exact ho) (W x h.fx).1
 have Zv:Fq 45 (0,1):=qF.up (by lia)
 have Zw:Fq 45 (1,1):=qG.up (by lia)
 cases hr:placed r with
 |true =>
  refine⟨g,aiY hr,hg.up (by lia),λx h=>ai1 hr (λx m=>(hx x m).fx) hp hg.2.2.1 (λx h=>(W x h).1) b0 b1 h,?_⟩
  have h:=(W g hg.fx).1
  have w:∃zs,cF (xs.set p g) zs/\zs[bN (xs.set p g).length r-1]?=some (wv r (xs.set p g)):=by
   cases r <;> first|exact h|cases hr
  obtain⟨zs,d,e⟩:=w
  rcases List.mem_or_eq_of_mem_set (d.1.mem_iff.mp (List.mem_of_getElem? e))with m|e
  .exact(hx _ m).up (by lia)
  .rw[e]; exact hg
 |false =>
  have af:∃f a b D,Af f a b D/\∀x,Fx x->wv r (xs.set p x)=f x:=by
   cases r with
   |sh ws =>
    obtain⟨a,b,D,q⟩:=Kh xs ws p (λ_=>(0,1)) _ _ _ (λw m=>(ho.2 w m).2.2.1) (λx m=>(hx x m).2.2.1) (Kg (by decide))
    exact⟨_,a,b,D,q,λx h=>(W x h).1⟩
   |product =>
    obtain⟨a,b,D,q⟩:=Zr xs p (1,1) (λx m=>(hx x m).2.2.1) (by decide)
    exact⟨_,a,b,D,q,λx h=>(W x h).1⟩
   |least=>cases hr
   |greatest=>cases hr
   |mid k=>cases hr
  obtain⟨f,a,b,D,q,e⟩:=af
  have f0:=F _ Zv
  have f1:=F _ Zw
  rw[e _ Zv.fx]at b0 f0 ⊢
  rw[e _ Zw.fx]at b1 f1 ⊢
  obtain⟨t0,t1,t2,t3⟩:=aiV q f0 f1 hg b0 b1
  have fu:=aiU (ug hg f0 t0) (ug f1 f0 t1) t2
  have un:f (qN (iU g (f (0,1))) (iU (f (1,1)) (f (0,1))))=g:=by
   have w:=(W _ fu.fx).2
   rw[e _ fu.fx]at w
   have a1:=(t3 true _ fu.2.2.1).mpr (lC _)
   have a2:=λz=>(t3 false _ fu.2.2.1).mp z (lC _)
   exact tU w.2.1 hg.2.2.1 w.2.2 hg.2.2.2.2 (Classical.not_not.mp a2) a1
  refine⟨_,aiX hr f0 f1 hg t0 t1 t2,fu,λx h=>by rw[e x h]; exact t3 s x h.2.1,?_⟩
  rw[e _ fu.fx,un]
  exact hg
theorem wSI{ρ ρ2:En}{fe fk:EF}{T:Tr}{b:Bool}{i n:Nat}{ts:List Tr}{x:Rv}{Q:Fl->En->Prop}(h:fe ρ=.ok (.v T b,ρ))(c : ρ[i]?=some (.ow ts))(q:fk ρ=.ok (x,ρ))(d:dr ρ x=.ok (.int (n:Nat)))(l:n<ts.length)(e : ρ.set i (.ow (ts.set n T)) = ρ2)(k:Q .nx ρ2):W (Ji i fk fe ρ) Q:=by
 have cd:con ρ i=.ok ts:=by unfold con; rw[c]
 have u:bM i (ts.set n T) ρ = ρ2:=by unfold bM; rw[c]; exact e
 have ix:eH ts.length (n:Int)=some n:=by
  unfold eH
  rw[if_pos (by lia),if_pos (by lia)]
  rfl
 refine⟨.nx,ρ2,bk h (bk (a:=[T]) rfl (bk cd (bk q (bk d (bk (a:=(n:Int)) rfl (bk cd ?_)))))),k⟩
 dsimp only
 rw[ix]
 exact u▸rfl
theorem Zx{α : Type}{r h : α -> Tr}{fr : α -> Bool}{p : α -> Bool}{τ : En}{c:BF}{fe:EF}:∀(xs:List α) (s:Sl),(∀x∈xs,c (.sh (r x)::τ)=.ok (p x,.sh (r x)::τ))->(∀x∈xs,fe (.sh (r x)::τ)=.ok (.v (h x) (fr x),.sh (r x)::τ))->∃s',fY (gN 0) c fe (xs.map r) (s::τ)=.ok ((xs.filter p).map h,s'::τ)
 | [],s,_,_=>⟨s,rfl⟩
 |x::xs,s,q,q2=>by
  obtain⟨s',e'⟩:=Zx xs (.sh (r x)) (λv hv=>q v (List.mem_cons_of_mem _ hv)) λv hv=>q2 v (List.mem_cons_of_mem _ hv)
  refine⟨s',bk (a:=.sh (r x)::τ) rfl (bk (q x (List.mem_cons_self ..)) ?_)⟩
  rw[List.filter_cons]
  cases p x
  .exact(if_neg Bool.false_ne_true).trans e'
  .exact(if_pos rfl).trans (bk (q2 x (List.mem_cons_self ..)) (bk rfl (bk e' rfl)))
theorem xFm{β : Type}{t h : β -> Tr}{fr : β -> Bool}{p : β -> Bool}{xs:List β}{rest:List (Option Nat)}{τ : En}{fi:IF}{c:BF}{fe:EF}(hi:fi ρ=.ok (us,ρ))(hu:us=xs.map t)(hτ : dF rest ρ = τ)(hs:∀s,dU (none::rest) (s::τ) ρ = true)(hd:∀s,bf (none::rest) (s::τ) ρ = ρ)
  (hf:∀x∈xs,c (.sh (t x)::τ)=.ok (p x,.sh (t x)::τ)) (hf2:∀x∈xs,fe (.sh (t x)::τ)=.ok (.v (h x) (fr x),.sh (t x)::τ)) (hl:xs.length<=100000):mQ (none::rest) fi (gN 0) c fe ρ=.ok (.v (.lst ((xs.filter p).map h)) true,ρ):=by
 subst hu hτ
 obtain⟨s,e⟩:=Zx xs .un hf hf2
 refine bk hi ((if_pos (by rw[List.length_map]; exact hl)).trans ?_)
 show(c7 (fY _ _ _ _ (Sl.un::dF rest ρ))).bind _=_
 rw[e]
 refine bk rfl ((if_pos (hs s)).trans ?_)
 rw[hd s]
section
variable {m:Nat}{rows:List (List (Int × Int))}{r:Ru}{p i:Nat}
theorem Zy(hB:Bk m rows)(ho:bK rows.length r)(hi:i<m)(hp:p<rows.length)(hw:Wo w):Bl [aY rows,aN r,iT p,iT i,fT w]=.ok (fT (wv r ((BH.col rows i).set p w)),false):=by
 have e1:=Zf (bq hB) hi
 have lc:(BH.col rows i).length=rows.length:=iR ..
 have h1:=hB.1
 have h2:=hB.2.1
 have e2:=(JT (r:=r) (xs:=(BH.col rows i).set p w) (λx mx=>by
  rcases List.mem_or_eq_of_mem_set mx with mx|rfl
  .exact qH hB hi x mx
  .exact hw) (by rw[List.length_set,lc]; exact h1) (by rw[List.length_set,lc]; lia) (by rw[List.length_set,lc]; exact ho)).1
 have es:aH ((BH.col rows i).set p w)=.lst (((BH.col rows i).map fT).set p (fT w)):=by
  unfold aH
  rw[List.map_set]
 rw[es]at e2
 unfold aH at e1
 apply L2.Cw
 .dsimp only[L2.gO,List.map,List.length,List.replicate,List.append,HAppend.hAppend,Append.append,Nat.reduceSub,Nat.reduceAdd] <;> exact rfl
 iterate 15 walk_at "1"
 refine wSI (ts:=(BH.col rows i).map fT) rfl rfl rfl rfl (by rw[List.length_map,lc]; exact hp) rfl ?_
 walk_at "r"
 done
theorem ai2{xs:List (Int × Int)}(hx:∀x∈xs,Fx x)(h1:1<=xs.length)(ho:bK xs.length r)(hp:p<xs.length){x y:Int × Int}(fx:Fx x)(fy:Fx y)(h:le2 x y):le2 (wv r (xs.set p x)) (wv r (xs.set p y)):=by
 have m:∀z,Fx z->∀y∈xs.set p z,Fx y:=λz h y m=>by
  rcases List.mem_or_eq_of_mem_set m with m|rfl
  .exact hx y m
  .exact h
 have q:=λz hz=>(BL (r:=r) (m z hz) (by rw[List.length_set]; exact h1) (by rw[List.length_set]; exact ho)).1
 have qy:Wv r ((xs.set p x).set p y) (wv r (xs.set p y)):=by rw[List.set_set]; exact q y fy
 have w:=Wv.mono (i:=p) (m x fx) fy (λz hz=>by
  rw[List.getElem?_set_self (by exact hp)]at hz
  cases hz
  exact h) (by rw[List.length_set]; exact ho) (q x fx) (v':=wv r (xs.set p y)) qy
 exact w
noncomputable def vw(r:Ru)(rows:List (List (Int × Int)))(p i:Nat)(x:Int × Int)(t:Nat):Int × Int:=if t=i then wv r ((BH.col rows i).set p x)else vv r rows t
noncomputable abbrev dD(m:Nat)(k:List Nat)(i:Nat):List Nat:=(List.range m).filter λo=>decide (o∈k) != decide (i∈k)
theorem uh{k:List Nat}{o:Nat}:o∈dD m k i↔o<m/\(o∈k↔i∉k):=by
 rw[List.mem_filter,List.mem_range]
 by_cases a:o∈k <;> by_cases b:i∈k <;> simp[a,b]
theorem Ko{k:List Nat}{x:Int × Int}(hi:i<m)(hk:∀t∈k,t<m)(hs:fM (vv r rows) (vv r rows) m k):fM (vw r rows p i x) (vw r rows p i x) m k↔∀o∈dD m k i,if i∈k then aU (wv r ((BH.col rows i).set p x)) (vv r rows o)=false else aU (vv r rows o) (wv r ((BH.col rows i).set p x))=false:=by
 have ei:vw r rows p i x i=wv r ((BH.col rows i).set p x):=if_pos rfl
 have en:∀t,t≠i->vw r rows p i x t=vv r rows t:=λt h=>if_neg h
 constructor
 .intro h o mo
  obtain⟨om,oo⟩:=uh.mp mo
  by_cases z:i∈k
  .have no:o∉k:=λq=>oo.mp q z
   have:=h i z o om no
   rw[ei,en o λe=>no (e▸z)]at this
   rw[if_pos z]
   exact this
  .have yo:=oo.mpr z
   have:=h o yo i hi z
   rw[ei,en o λe=>z (e▸yo)]at this
   rw[if_neg z]
   exact this
 .intro h t mt o om no
  by_cases ti:t=i
  .subst ti
   have:=h o (uh.mpr ⟨om,by simp[no,mt]⟩)
   rw[if_pos mt]at this
   rw[ei,en o λe=>no (e▸mt)]
   exact this
  .by_cases oi:o=i
   .subst oi
    have:=h t (uh.mpr ⟨hk t mt,by simp[no,mt]⟩)
    rw[if_neg no]at this
    rw[ei,en t ti]
    exact this
   .rw[en t ti,en o oi]
    exact hs t mt o om no
structure Rm(m:Nat)(r:Ru)(rows:List (List (Int × Int)))(p i:Nat)(k:List Nat)(lo hi:Int × Int):Prop where
 l:Fq 1600 lo
 h:Fq 1600 hi
 l1:lo.1<=lo.2
 h1:hi.1<=hi.2
 lv:Fq 400 (wv r ((BH.col rows i).set p lo))
 hv:Fq 400 (wv r ((BH.col rows i).set p hi))
 s:∀x,Fx x->x.1<=x.2->(fM (vw r rows p i x) (vw r rows p i x) m k↔le2 lo x/\le2 x hi)
theorem nb(a b:Bool):j5 (.bl (id a)) (.bl (id b))=.ok (.bl (a != b),false):=by
 cases a <;> cases b <;> kernel_rfl
noncomputable abbrev rvE:EF:=mQ [none,some 2,some 4,some 5] (HD (fX (nY (g1 fC) (fX (dO 5) fO)) fO)) (gN 0) (iz (iy j5 (iy (gZ id) (dO 0) (dO 1)) (iy (gZ id) (dO 2) (dO 1)))) (iy aW (dO 3) (dO 0))
theorem ai3{V:Nat->Int × Int}{k:List Nat}(hm:m<=12)(hi:i<m)(s0 s1 s3 s6 s7 s8 s9 HS:Sl):rvE [s0,s1,.sh (.lst (k.map iT)),s3,.sh (iT i),.sh (.lst ((List.range m).map λt=>fT (V t))),s6,s7,s8,s9,HS]=.ok (.v (.lst ((dD m k i).map λo=>fT (V o))) true,[s0,s1,.sh (.lst (k.map iT)),s3,.sh (iT i),.sh (.lst ((List.range m).map λt=>fT (V t))),s6,s7,s8,s9,HS]):=by
 have ll:fC (.lst ((List.range m).map λt=>fT (V t)))=.ok (.int (m:Nat),false):=by
  show Rs.ok (Tr.int (((List.range m).map λt=>fT (V t)).length:Int),false)=_
  simp
 refine xFm (t:=iT) (h:=λo=>fT (V o)) (fr:=λ_=>false) (xs:=List.range m) (p:=λo=>decide (o∈k) != decide (i∈k)) (us:=(List.range m).map iT) ?_ rfl rfl (λ_=>rfl) (λ_=>rfl) (λx hx=>?_) (λx hx=>?_) (by rw[List.length_range]; lia)
 .walk_at "r"
  done
 .have e:=nb (decide (x∈k)) (decide (i∈k))
  walk_at "r"
  done
 .have e:aW (.lst ((List.range m).map λt=>fT (V t))) (iT x)=.ok (fT (V x),false):=jU (by simp[List.mem_range.mp hx])
  walk_at "r"
  done
end
section
variable {m:Nat}{rows:List (List (Int × Int))}{r:Ru}{p i:Nat}
theorem ai4{k:List Nat}(hB:Bk m rows)(ho:bK rows.length r)(hp:p<rows.length)(hi:i<m)(hk:∀t∈k,t<m)(hl:k.length<=12)(hs:fM (vv r rows) (vv r rows) m k):∃lo hi,Xf [aY rows,aN r,.lst (k.map iT),iT p,iT i]=.ok (.tup [fT lo,fT hi],false)/\Rm m r rows p i k lo hi:=by
 have lc:(BH.col rows i).length=rows.length:=iR ..
 have e1:=Kd (bq hB) ho
 have w0:Bl [aY rows,aN r,iT p,iT i,.tup [.int 0,.int 1]]=.ok (fT (wv r ((BH.col rows i).set p (0,1))),false):=Zy (w:=(0,1)) hB ho hi hp JV
 have w1:Bl [aY rows,aN r,iT p,iT i,.tup [.int 1,.int 1]]=.ok (fT (wv r ((BH.col rows i).set p (1,1))),false):=Zy (w:=(1,1)) hB ho hi hp wC
 have b4:=hB.2.2.2.1
 have ec:=ai3 (V:=vv r rows) (k:=k) b4 hi (.sh (aY rows)) (.sh (aN r)) (.sh (iT p)) .un .un .un .un .un
 have rm:∀o∈dD m k i,o<m:=λo h=>(uh.mp h).1
 have fx:∀x∈BH.col rows i,Fx x:=λx mx=>(qH hB hi x mx).fx
 have l1:1<=(BH.col rows i).length:=by rw[lc]; exact hB.1
 have lp:p<(BH.col rows i).length:=by rw[lc]; exact hp
 have ho':bK (BH.col rows i).length r:=by rw[lc]; exact ho
 have fp:∀x,Fx x->1<=(wv r ((BH.col rows i).set p x)).2:=λx hx=>(BL (r:=r) (λy m=>by
  rcases List.mem_or_eq_of_mem_set m with m|rfl
  .exact fx y m
  .exact hx) (by rw[List.length_set]; exact l1) (by rw[List.length_set]; exact ho')).2.2.1
 have mono:=λx y (hx:Fx x) (hy:Fx y) (h:le2 x y)=>ai2 (r:=r) fx l1 ho' lp hx hy h
 have fw:∀t,t<m->Fq 400 (vv r rows t):=λt ht=>uf hB ho ht
 have fs:∀x,Wo x->Fq 400 (wv r ((BH.col rows i).set p x)):=λx hx=>by
  have q:∀y∈(BH.col rows i).set p x,Wo y:=λy m=>by
   rcases List.mem_or_eq_of_mem_set m with m|rfl
   .exact qH hB hi y m
   .exact hx
  exact Wv.fq q (by rw[List.length_set,lc]; exact hB.2.1) (by rw[List.length_set]; exact ho') (JT (r:=r) q (by rw[List.length_set]; exact l1) (by rw[List.length_set,lc]; have:=hB.2.1; lia) (by rw[List.length_set]; exact ho')).2
 have here:wv r ((BH.col rows i).set p (BH.col rows i)[p])=vv r rows i:=by rw[List.set_getElem_self]
 have wh:Wo (BH.col rows i)[p]:=qH hB hi _ (List.getElem_mem lp)
 have m0:∀x,Fx x->le2 (wv r ((BH.col rows i).set p (0,1))) (wv r ((BH.col rows i).set p x)):=λx hx=>mono _ _ JV.fx hx (by unfold le2; have:=hx.1; lia)
 have m1:∀x,Fx x->x.1<=x.2->le2 (wv r ((BH.col rows i).set p x)) (wv r ((BH.col rows i).set p (1,1))):=λx hx h=>mono _ _ hx wC.fx (by unfold le2; lia)
 have h0:=m0 _ wh.fx
 have h1:=m1 _ wh.fx wh.2.1
 rw[here]at h0 h1
 have f0:=fs _ JV
 have f1:=fs _ wC
 have Ce:Fq 1600 (0,1):=qF.up (by lia)
 have Cg:Fq 1600 (1,1):=qG.up (by lia)
 have z0:∀x,Fx x->le2 (0,1) x:=λx hx=>by unfold le2; have:=hx.1; lia
 have z1:∀x:Int × Int,x.1<=x.2->le2 x (1,1):=λx h=>by unfold le2; lia
 by_cases c:dD m k i=[]
 .refine⟨(0,1),(1,1),?_,Ce,Cg,by decide,by decide,f0,f1,λx hx h=>⟨λ_=>⟨z0 x hx,z1 x h⟩,λ_=>(Ko hi hk hs).mpr λo mo=>by rw[c]at mo; cases mo⟩⟩
  have n1:((dD m k i).map λo=>fT (vv r rows o)).isEmpty=true:=by rw[c]; rfl
  walk_at "d"
  done
 have n1:((dD m k i).map λo=>fT (vv r rows o)).isEmpty=false:=by cases h:dD m k i with|nil=>exact(c h).elim|cons _ _=>rfl
 have rl:(dD m k i).length<=12:=Nat.le_trans (List.length_filter_le ..) (by rw[List.length_range]; exact b4)
 have fr:Frs 400 ((dD m k i).map (vv r rows)):=Fq.frs λx mx=>by
  obtain⟨t,mt,rfl⟩:=List.mem_map.mp mx
  exact fw t (rm t mt)
 obtain⟨fa,ga⟩:=BJ fr (by rw[List.length_map]; lia) (by lia) (by rw[List.length_map]; lia)
 obtain⟨a,b,ha,hb,a1,b1,en⟩:=JX fa (by simpa using c)
 rw[List.length_map]at a1 b1 en
 rw[wz]at ga
 have at_:∀j (h:j<(dD m k i).length),at2 ((dD m k i).map (vv r rows)) j=vv r rows (dD m k i)[j]:=λj h=>by unfold at2; simp[h]
 have i1:aW (.lst ((jC ((dD m k i).map (vv r rows))).map iT)) (.int 0)=.ok (iT a,false):=jU (i:=0) (by rw[List.getElem?_map,ha]; rfl)
 have i2:aW (.lst ((jC ((dD m k i).map (vv r rows))).map iT)) (.int (-1))=.ok (iT b,false):=Yc (by rw[List.length_map,List.getElem?_map,hb]; rfl)
 have i3:∀j (h:j<(dD m k i).length),aW (.lst ((dD m k i).map λo=>fT (vv r rows o))) (iT j)=.ok (fT (vv r rows (dD m k i)[j]),false):=λj h=>jU (by simp[h])
 have i4:=i3 a a1
 have i5:=i3 b b1
 have ea:∀o∈dD m k i,aU (vv r rows (dD m k i)[a]) (vv r rows o)=false/\aU (vv r rows o) (vv r rows (dD m k i)[b])=false:=λo mo=>by
  obtain⟨j,hj,rfl⟩:=List.getElem_of_mem mo
  have:=en j hj
  rwa[at_ j hj,at_ a a1,at_ b b1]at this
 have ma:=List.getElem_mem a1
 have mb:=List.getElem_mem b1
 generalize (dD m k i)[b]=ob,(dD m k i)[a]=oa at *
 have nQ:=fw oa (rm _ ma)
 have wR:=fw ob (rm _ mb)
 have Zz:∀x∈BH.col rows i,Fq 45 x:=λx mx=>(qH hB hi x mx).fq
 have vi:=fw i hi
 by_cases z:i∈k
 .have me:gZ id (iT i) (.lst (k.map iT))=.ok (.bl true,false):=by rw[m7]; simp[z]
  have sw:∀x,Fx x->(fM (vw r rows p i x) (vw r rows p i x) m k↔le2 (vv r rows oa) (wv r ((BH.col rows i).set p x))):=λx hx=>by
   have fq:=fp x hx
   rw[Ko hi hk hs]
   simp only[z,if_true]
   exact⟨λh=>cu.mp (h oa ma),λh o mo=>cu.mpr (iQ (fw o (rm o mo)).2.2.1 nQ.2.2.1 fq (cu.mp (ea o mo).1) h)⟩
  have gi:le2 (vv r rows oa) (vv r rows i):=cu.mp (hs i z oa (rm _ ma) λh=>(uh.mp ma).2.mp h z)
  have wU:=JW f0 nQ
  cases lt:aU (wv r ((BH.col rows i).set p (0,1))) (vv r rows oa)with
  |false =>
   rw[lt]at wU
   refine⟨(0,1),(1,1),?_,Ce,Cg,by decide,by decide,f0,f1,λx hx h=>⟨λ_=>⟨z0 x hx,z1 x h⟩,λ_=>(sw x hx).mpr (iQ nQ.2.2.1 f0.2.2.1 (fp x hx) (cu.mp lt) (m0 x hx))⟩⟩
   walk_at "d"
   done
  |true =>
   rw[lt]at wU
   obtain⟨u,e,fu,iu,fv⟩:=inv (s:=true) Zz l1 (by rw[lc]; exact hB.2.1) lp ho' nQ (λq=>by rw[cu.mpr q]at lt; cases lt) (iQ nQ.2.2.1 vi.2.2.1 f1.2.2.1 gi h1)
   have u1:le2 u (1,1):=(iu (1,1) wC.fx).mp (iQ nQ.2.2.1 vi.2.2.1 f1.2.2.1 gi h1)
   refine⟨u,(1,1),?_,fu,Cg,by unfold le2 at u1; lia,by decide,fv,f1,λx hx h=>(sw x hx).trans ((iu x hx).trans ⟨λw=>⟨w,z1 x h⟩,λw=>w.1⟩)⟩
   walk_at "d"
   done
 .have me:gZ id (iT i) (.lst (k.map iT))=.ok (.bl false,false):=by rw[m7]; simp[z]
  have sw:∀x,Fx x->(fM (vw r rows p i x) (vw r rows p i x) m k↔le2 (wv r ((BH.col rows i).set p x)) (vv r rows ob)):=λx hx=>by
   have fq:=fp x hx
   rw[Ko hi hk hs]
   simp only[z,if_false]
   exact⟨λh=>cu.mp (h ob mb),λh o mo=>cu.mpr (iQ fq wR.2.2.1 (fw o (rm o mo)).2.2.1 h (cu.mp (ea o mo).2))⟩
  have gi:le2 (vv r rows i) (vv r rows ob):=cu.mp (hs ob ((uh.mp mb).2.mpr z) i hi z)
  have wU:=JW wR f1
  cases lt:aU (vv r rows ob) (wv r ((BH.col rows i).set p (1,1)))with
  |false =>
   rw[lt]at wU
   refine⟨(0,1),(1,1),?_,Ce,Cg,by decide,by decide,f0,f1,λx hx h=>⟨λ_=>⟨z0 x hx,z1 x h⟩,λ_=>(sw x hx).mpr (iQ (fp x hx) f1.2.2.1 wR.2.2.1 (m1 x hx h) (cu.mp lt))⟩⟩
   walk_at "d"
   done
  |true =>
   rw[lt]at wU
   have bt:bb false (vv r rows ob) (wv r ((BH.col rows i).set p (1,1))):=λq=>by rw[cu.mpr q]at lt; cases lt
   obtain⟨u,e,fu,iu,fv⟩:=inv (s:=false) Zz l1 (by rw[lc]; exact hB.2.1) lp ho' wR (λq=>q (iQ f0.2.2.1 vi.2.2.1 wR.2.2.1 h0 gi)) bt
   have u1:=(iu (1,1) wC.fx).mp bt
   refine⟨(0,1),u,?_,Ce,fu,by decide,by unfold bb le2 at u1; simp at u1; lia,f0,fv,λx hx h=>(sw x hx).trans ⟨λw=>⟨z0 x hx,Classical.not_not.mp λq=>(iu x hx).mpr q w⟩,λw=>Classical.not_not.mp λq=>(iu x hx).mp q w.2⟩⟩
   walk_at "d"
   done
end
section
variable {m p i:Nat}{rows:List (List (Int × Int))}{r:Ru}{w:Int × Int}
theorem inN(t:Nat)(zs:List Nat):gZ not (iT t) (.lst (zs.map iT))=.ok (.bl (!(decide (t∈zs))),false):=m7 not t zs
theorem jV:(mv rows p i w).length=rows.length:=List.length_set ..
theorem Bq.mv(hB:Bq m rows)(hp:p<rows.length)(hw:Fq 1620 w):Bq m (mv rows p i w):=by
 obtain⟨b1,b2,b3,b4,b5⟩:=id hB
 have rr:=hB.row hp
 refine⟨by rw[jV]; exact b1,by rw[jV]; exact b2,b3,b4,λl hl=>?_⟩
 rcases List.mem_or_eq_of_mem_set hl with h|rfl
 .exact b5 l h
 .refine⟨by rw[List.length_set]; exact rr.2,λx hx=>?_⟩
  rcases List.mem_or_eq_of_mem_set hx with h|rfl
  .exact(b5 _ rr.1).2 x h
  .exact hw
theorem um(hB:Bq m rows)(hp:p<rows.length)(hi:i<m):vv r (mv rows p i w)=vw r rows p i w:=by
 have rr:=(hB.row hp).2
 have e:∀t,BH.col (mv rows p i w) t=if t=i then(BH.col rows i).set p w else BH.col rows t:=λt=>by
  refine List.ext_getElem? λk=>?_
  by_cases c:k<rows.length
  .have e1:(BH.col (mv rows p i w) t)[k]?=some (gM (mv rows p i w) k t):=by unfold BH.col; simp[jV,c]
   have e2:∀t,(BH.col rows t)[k]?=some (gM rows k t):=λt=>by unfold BH.col; simp[c]
   rw[e1]
   unfold gM mv
   by_cases kp:k=p
   .subst kp
    by_cases ti:t=i
    .subst ti
     have rl:t<rows[k].length:=by simp[c]at rr; lia
     simp[c,rl,iR]
    .rw[if_neg ti,e2]
     simp[c,List.getElem?_set,Ne.symm ti]
   .by_cases ti:t=i
    .subst ti
     rw[if_pos rfl,List.getElem?_set_ne (Ne.symm kp),e2]
     simp[List.getElem?_set,Ne.symm kp]
    .rw[if_neg ti,e2]
     simp[List.getElem?_set,Ne.symm kp]
  .have e1:(BH.col (mv rows p i w) t)[k]?=none:=List.getElem?_eq_none (by rw[iR,jV]; lia)
   rw[e1]
   split <;> exact(List.getElem?_eq_none (by simp only[List.length_set,iR]; lia)).symm
 funext t
 unfold vw vv
 rw[e t]
 split <;> rfl
theorem ai5(hB:Bq m rows)(ho:bK rows.length r):Yx [aY rows,aN r]=.ok (.lst ((List.range m).map λt=>fT (vv r rows t)),true):=by
 have g0:aW (aY rows) (.int 0)=.ok (aH (rows.getD 0 []),false):=lK hB.1
 have e0:=jk (rows.getD 0 [])
 rw[(hB.row hB.1).2]at e0
 have h4:=hB.2.1
 have:=hB.2.2.2.1
 have mk:∀t,t<m->uc [aN r,.lst (rows.map λl=>fT (l.getD t (0,1)))]=.ok (fT (vv r rows t),false):=λt ht=>by
  rw[Zd]
  have lc:(BH.col rows t).length=rows.length:=iR ..
  obtain⟨v,e,w⟩:=aiS (by lia) (qK hB ht) (by rw[lc]; exact hB.1) (by rw[lc]; exact h4) (by rw[lc]; exact ho)
  rw[e,<-BK (λx mx=>⟨(qK hB ht x mx).2.2.1,(qK hB ht x mx).2.2.2.2⟩) w]
 unfold aY at *
 walk_at "d"
 have:=(hB.2.2.2.2 x hx).1
 lia
 walk_at "r"
 exact mk x hx
 walk_at "r"
noncomputable abbrev ZC(r:Ru)(rows:List (List (Int × Int)))(m:Nat):Tr:=.lst ((List.range m).map λt=>fT (vv r rows t))
theorem ai6{k:List Nat}(hB:Bq m rows)(ho:bK rows.length r)(hV:∀t,t<m->t≠i->Fq 400 (vv r rows t))(hk:∀t∈k,t<m)(hl:k.length<=12):∃b,J7 [aY rows,aN r,.lst (k.map iT)]=.ok (.bl b,false)/\(b=true↔fM (vv r rows) (vv r rows) m k):=by
 suffices h:∃z,J7 [aY rows,aN r,.lst (k.map iT)]=.ok z/\∃b,(b=true↔fM (vv r rows) (vv r rows) m k)/\z=(.bl b,false) by
  obtain⟨_,e,b,h,rfl⟩:=h
  exact⟨b,e,h⟩
 have b4:=hB.2.2.2.1
 have e1:=ai5 hB ho
 have ll:fC (ZC r rows m)=.ok (.int (m:Nat),false):=by
  show Rs.ok (Tr.int (((List.range m).map λt=>fT (vv r rows t)).length:Int),false)=_
  simp
 have gi:∀t,t<m->aW (ZC r rows m) (iT t)=.ok (fT (vv r rows t),false):=λt ht=>jU (by simp[ht])
 walk_at "e"
 refine jy [4,5] (λ_:Unit=>[]) (λq _=>∀t∈k.take q,∀o,o<m->o∉k->aU (vv r rows t) (vv r rows o)=false) () (λt h=>by cases h) rfl (λq t v s hq iq=>?_) (λv s iq=>?_)
 .have tm:=hk t (List.mem_of_getElem? hq)
  have tk:=List.mem_of_getElem? hq
  walk_at "p"
  refine vZ [5] (λ_:Unit=>[]) (λq _=>∀o,o<q->o∉k->aU (vv r rows t) (vv r rows o)=false) () (λo h=>by lia) rfl (λo v s om io=>?_) (λv s io=>?_)
  .have g1:=gi t tm
   have g2:=gi o om
   have ne:=inN o k
   by_cases c:o∈k
   .rw[decide_eq_true c]at ne
    walk_at "p"
    exact⟨(),λo' h n=>by
     by_cases z:o'=o
     .subst z; exact(n c).elim
     .exact io o' (by lia) n,exV rfl⟩
   .rw[decide_eq_false c]at ne
    have be:qI [fT (vv r rows t),fT (vv r rows o)]=.ok (.bl (aU (vv r rows t) (vv r rows o)),false):=by
     by_cases ti:t=i
     .exact qL (Ze hB ho tm).2 (hV o om λe=>c (e.trans ti.symm▸tk)) (by lia)
     .exact qL (hV t tm ti) (Ze hB ho om).2 (by lia)
    cases lt:aU (vv r rows t) (vv r rows o)with
    |true =>
     rw[lt]at be
     walk_at "p"
     exact⟨_,rfl,false,⟨λz=>(by cases z),λh=>by rw[h t tk o om c]at lt; cases lt⟩,rfl⟩
    |false =>
     rw[lt]at be
     walk_at "p"
     exact⟨(),λo' h n=>by
      by_cases z:o'=o
      .subst z; exact lt
      .exact io o' (by lia) n,exV rfl⟩
  .refine⟨(),λt' mt o om no=>?_,exV rfl⟩
   rw[List.take_add_one,hq]at mt
   rcases List.mem_append.mp mt with mt|mt
   .exact iq t' mt o om no
   .cases List.mem_singleton.mp mt
    exact io o om no
 .rw[List.take_length]at iq
  walk_at "p"
  exact⟨_,rfl,true,⟨λ_=>iq,λ_=>rfl⟩,rfl⟩
end
theorem Kq{a b c d:Int}(hb:1<=b)(hd:1<=d)(h:a*d=c*b):red a b=red c d :=
 tU (iM hb).2.1 (iM hd).2.1 (iM hb).2.2 (iM hd).2.2 (wu hb hd (by lia)) (wu hd hb (by lia))
noncomputable def nr(h:Int × Int)(q d:Int):Int × Int:=red (h.1*d+(h.2-h.1)*q) (h.2*d)
theorem ai7{h:Int × Int}{q d:Int}(hh:Fq 1600 h)(l:h.1<=h.2)(q1:1<=q)(qd:q<d)(d1:d<=1000):Fq 1620 (nr h q d)/\(nr h q d).1<=(nr h q d).2/\(h.1<h.2->aU h (nr h q d)=true)/\(h.1=h.2->nr h q d=(1,1)):=by
 obtain⟨a1,a2,a3,a4,a5⟩:=id hh
 have hd1:1<=h.2*d:=bY a3 (by lia)
 have b0:=Int.mul_nonneg a1 (show 0<=d by lia)
 have b1:=Int.mul_nonneg (show 0<=h.2-h.1 by lia) (show 0<=q by lia)
 have b2:h.1*d+(h.2-h.1)*q<=h.2*d:=by
  have:=Int.mul_le_mul_of_nonneg_left (show q<=d by lia) (show 0<=h.2-h.1 by lia)
  grind
 have b3:h.2*d<2 ^ 1620:=by
  have:=f9 (a:=h.2) (b:=d) (M:=1600) (N:=10) (by lia) a4 (by lia) (by lia)
  have e:(2:Int) ^ (1600+10)<=2 ^ 1620:=by decide +kernel
  lia
 have f:Fq 1620 (nr h q d):=oR (by lia) (by lia) hd1 b3
 have v:Q (nr h q d) (h.1*d+(h.2-h.1)*q) (h.2*d):=oV hd1
 have g2:=f.2.2.1
 refine⟨f,?_,λk=>?_,λk=>?_⟩
 .have:=(mW v (show Q (1,1) 1 1 from rfl) g2 (by decide) hd1 (by decide)).mpr (by lia)
  unfold le2 at this
  lia
 .cases z:aU h (nr h q d)with
  |true=>rfl
  |false =>
   have:=(mW v (show Q h h.1 h.2 from rfl) g2 a3 hd1 a3).mp (cu.mp z)
   have p:=Int.mul_pos (Int.mul_pos (show 0<h.2-h.1 by lia) (show 0<q by lia)) (show 0<h.2 by lia)
   grind
 .have z:h=(1,1):=by
   refine tU a3 (by decide) a5 (by decide) ?_ ?_ <;> (unfold le2; lia)
  rw[z]
  unfold nr
  have e:red (d:Int) d=(1,1):=(Kq (c:=1) (d:=1) (by lia) (by decide) (by lia)).trans (by decide)
  rw[show((1:Int),(1:Int)).1*d+(((1:Int),(1:Int)).2-((1:Int),(1:Int)).1)*q=d by dsimp only; lia,show((1:Int),(1:Int)).2*d=d by dsimp only; lia,e]
theorem ai8{x:Int × Int}{q d:Int}(hh:Fq 1600 x)(l:x.1<=x.2)(q1:1<=q)(qd:q<d)(d1:d<=1000):Fq 1620 (aZ x (q,d))/\(aZ x (q,d)).1<=(aZ x (q,d)).2/\(0<x.1->aU (aZ x (q,d)) x=true)/\(x.1=0->x=(0,1)/\aZ x (q,d)=(0,1)):=by
 obtain⟨a1,a2,a3,a4,a5⟩:=id hh
 have hd1:1<=x.2*d:=bY a3 (by lia)
 have b0:=Int.mul_nonneg a1 (show 0<=q by lia)
 have b2:x.1*q<=x.2*d:=Int.mul_le_mul l (by lia) (by lia) (by lia)
 have b3:x.2*d<2 ^ 1620:=by
  have:=f9 (a:=x.2) (b:=d) (M:=1600) (N:=10) (by lia) a4 (by lia) (by lia)
  have e:(2:Int) ^ (1600+10)<=2 ^ 1620:=by decide +kernel
  lia
 have f:Fq 1620 (aZ x (q,d)):=oR b0 (by dsimp only; lia) hd1 b3
 have v:Q (aZ x (q,d)) (x.1*q) (x.2*d):=oV hd1
 have g2:=f.2.2.1
 refine⟨f,?_,λk=>?_,λk=>?_⟩
 .have:=(mW v (show Q (1,1) 1 1 from rfl) g2 (by decide) hd1 (by decide)).mpr (by lia)
  unfold le2 at this
  lia
 .cases z:aU (aZ x (q,d)) x with
  |true=>rfl
  |false =>
   have:=(mW (show Q x x.1 x.2 from rfl) v a3 g2 a3 hd1).mp (cu.mp z)
   have p:=Int.mul_pos (Int.mul_pos k (show 0<d-q by lia)) (show 0<x.2 by lia)
   grind
 .refine⟨tU a3 (by decide) a5 (by decide) ?_ ?_,?_⟩
  .unfold le2; lia
  .unfold le2; lia
  .exact(Kq (c:=0) (d:=1) hd1 (by decide) (by dsimp only; rw[k]; lia)).trans (by decide)
theorem ai9(x y:Int × Int):eqT (fT x) (fT y)=decide (x=y):=by
 unfold fT
 rw[show eqT (.tup [.int x.1,.int x.2]) (.tup [.int y.1,.int y.2])=(eqT (.int x.1) (.int y.1)&&(eqT (.int x.2) (.int y.2)&&true))from rfl]
 have e:∀a b:Int,eqT (.int a) (.int b)=decide (a=b):=λa b=>by
  unfold eqT
  by_cases h:a=b <;> simp[h]
 rw[e,e]
 obtain⟨a,b⟩:=x
 obtain⟨c,d⟩:=y
 by_cases h:a=c <;> by_cases h':b=d <;> simp[h,h']
theorem aja(x lo hi:Int × Int):gZ not (fT x) (.tup [fT lo,fT hi])=.ok (.bl (!(decide (lo=x) || decide (hi=x))),false):=by
 show(if deps [fT lo,fT hi]<=40/\dep (fT x)<=40 then Rs.ok (Tr.bl (not (lX (fT x) [fT lo,fT hi])),false)else .bad)=_
 rw[if_pos ⟨by rw[Bs,Bs,Xu,JH,JH]; decide,by rw[JH]; decide⟩]
 unfold lX
 simp only[List.any_cons,List.any_nil,ai9,Bool.or_false]
theorem ZD{lo hi:Int × Int}{q d:Int}(hl:Fq 1600 lo)(hh:Fq 1600 hi)(l1:lo.1<=lo.2)(h1:hi.1<=hi.2)(q1:1<=q)(qd:q<d)(d1:d<=1000)(f1:Int.gcd q d=1)(f2:Int.gcd (d-q) d=1):∃xs:List (Int × Int),J5 [.tup [fT lo,fT hi],.tup [.int q,.int d]]=.ok (aH xs,true)/\∀x∈xs,Fq 1620 x/\x.1<=x.2/\(aU x lo=true\/aU hi x=true):=by
 have HX:Fq 10 (q,d):=⟨by dsimp only; lia,by dsimp only; lia,by dsimp only; lia,by dsimp only; lia,f1⟩
 have r10:Fq 10 (d-q,d):=⟨by dsimp only; lia,by dsimp only; lia,by dsimp only; lia,by dsimp only; lia,f2⟩
 obtain⟨a1,a2,a3,a4,a5⟩:=id hh
 have e1:BX [fT lo,.tup [.int q,.int d]]=.ok (fT (aZ lo (q,d)),false):=Ca (x:=lo) (y:=(q,d)) hl HX (by lia)
 have gd:Int.gcd (hi.2-hi.1) hi.2=1:=by
  have k1:((Int.gcd (hi.2-hi.1) hi.2:Nat):Int)∣hi.2-hi.1:=Int.gcd_dvd_left ..
  have k2:((Int.gcd (hi.2-hi.1) hi.2:Nat):Int)∣hi.2:=Int.gcd_dvd_right ..
  have k3:((Int.gcd (hi.2-hi.1) hi.2:Nat):Int)∣hi.1:=by
   have:=Int.dvd_sub k2 k1
   rwa[show hi.2-(hi.2-hi.1)=hi.1 by lia]at this
  have k4:=Int.dvd_coe_gcd k3 k2
  rw[a5]at k4
  exact Nat.dvd_one.mp (Int.ofNat_dvd.mp k4)
 have fd:Fq 1600 (hi.2-hi.1,hi.2):=⟨by dsimp only; lia,by dsimp only; lia,a3,a4,gd⟩
 have e2:J3 [.tup [.int 1,.int 1],.tup [.int (0-hi.1),.int hi.2]]=.ok (.tup [.int (hi.2-hi.1),.int hi.2],false):=by
  have e:wK [.int (1*hi.2+(0-hi.1)*1),.int (1*hi.2)]=.ok (.tup [.int (hi.2-hi.1),.int hi.2],false):=by
   rw[Int.one_mul,Int.mul_one,show hi.2+(0-hi.1)=hi.2-hi.1 by lia]
   have r:red (hi.2-hi.1) hi.2=(hi.2-hi.1,hi.2):=by
    unfold red
    rw[gd]
    simp
   exact(qJ (M:=1600) a3 a4 (by lia)).trans (by rw[r]; rfl)
  walk_at "d"
  done
 have e3:BX [.tup [.int (hi.2-hi.1),.int hi.2],.tup [.int (d-q),.int d]]=.ok (fT (aZ (hi.2-hi.1,hi.2) (d-q,d)),false):=Ca (x:=(hi.2-hi.1,hi.2)) (y:=(d-q,d)) fd r10 (by lia)
 have ft:=tV fd r10
 have e4:=Zk hh ft (by lia)
 have en:sumF hi (aZ (hi.2-hi.1,hi.2) (d-q,d))=nr hi (d-q) d:=by
  have v:Q (aZ (hi.2-hi.1,hi.2) (d-q,d)) ((hi.2-hi.1)*(d-q)) (hi.2*d):=oV (bY a3 (by lia))
  have t2:=ft.2.2.1
  unfold sumF nr
  refine Kq (bY a3 t2) (bY a3 (by lia)) ?_
  unfold Q at v
  grind
 rw[en]at e4
 obtain⟨t1,t2,t3,t4⟩:=ai8 hl l1 q1 qd d1
 obtain⟨n1,n2,n3,n4⟩:=ai7 hh h1 (q:=d-q) (d:=d) (by lia) (by lia) d1
 refine⟨[aZ lo (q,d),nr hi (d-q) d].filter λx=>!(decide (lo=x) || decide (hi=x)),?_,λx mx=>?_⟩
 .have hu : [fT (aZ lo (q,d))]++[fT (nr hi (d-q) d)]=List.map fT [aZ lo (q,d),nr hi (d-q) d]:=rfl
  walk_at "d"
  exact aja x lo hi
  walk_at "r"
  done
 .obtain⟨m1,m2⟩:=List.mem_filter.mp mx
  have m2:lo≠x/\hi≠x:=by simpa using m2
  rcases List.mem_cons.mp m1 with rfl|m1
  .refine⟨t1,t2,.inl (t3 ?_)⟩
   refine Classical.byContradiction λz=>?_
   obtain⟨y1,y2⟩:=t4 (by have:=hl.1; lia)
   exact m2.1 (y1.trans y2.symm)
  .rw[List.mem_singleton]at m1
   subst m1
   refine⟨n1,n2,.inr (n3 ?_)⟩
   refine Classical.byContradiction λz=>m2.2 ?_
   rw[n4 (by lia)]
   exact tU a3 (by decide) a5 (by decide) (by unfold le2; lia) (by unfold le2; lia)
noncomputable def kp(rs:List (List (Int × Int)))(r:Ru)(c:Nat)(k b:List Nat)(n:Int):List (Str × aJ):=[("rows",.dp (rs.map aH)),("rule",.sh (aN r)),("wanted",.sh (iT c)),("kept",.sh (.lst (k.map iT))),("kept_before",.sh (.lst (b.map iT))),("changes",.sh (.int n))]
section
variable {rs rs':List (List (Int × Int))}{r:Ru}{c:Nat}{k b k' b':List Nat}{n n':Int}
theorem Mi:fP (kp rs r c k b n) "kept" = .ok (.lst (k.map iT)):=rfl
theorem Mj:fP (kp rs r c k b n) "changes" = .ok (.int n):=rfl
theorem Ml:qz (kp rs r c k b n) "rows" = .ok (rs.map aH):=rfl
theorem Mp:fP (sY (kp rs r c k b n)) "rows" = .ok (aY rs):=rfl
theorem Mq:fP (sY (kp rs r c k b n)) "rule" = .ok (aN r):=rfl
theorem Mr:fP (sY (kp rs r c k b n)) "wanted" = .ok (iT c):=rfl
theorem Ms:fP (sY (kp rs r c k b n)) "kept" = .ok (.lst (k.map iT)):=rfl
theorem Mt:cN "kept" (.sh (.lst (k'.map iT))) (kp rs r c k b n)=kp rs r c k' b n:=rfl
theorem Mv:cN "changes" (.sh (.int n')) (kp rs r c k b n)=kp rs r c k b n':=rfl
theorem kn{x:Str}(h:x = "put" ∨ x = "things" ∨ x = "book" ∨ x = "room"):((kp rs r c k b n).lookup x).isNone=true:=by rcases h with rfl|rfl|rfl|rfl <;> rfl
theorem kl:(kp rs r c k b n).length<999:=by show 6<999; decide
end
theorem noI(l:List Nat):bT (l.map iT)=true:=Ft λt ht=>by
 obtain⟨x,_,rfl⟩:=List.mem_map.mp ht
 rfl
theorem Mw(l:List Nat):gj (.lst (l.map iT),true)=true:=by unfold gj; simp only[noI]; rfl
noncomputable abbrev ke(rs:List (List (Int × Int)))(r:Ru)(c:Nat)(k b:List Nat)(n:Int):Sl:=.ob true "Keeper" (kp rs r c k b n)
structure Kp(m:Nat)(r:Ru)(rs:List (List (Int × Int)))(k:List Nat):Prop where
 x1:∀t∈k,t<m
 x2:k.length<=12
 x3:fM (vv r rs) (vv r rs) m k
section
variable {m c p i:Nat}{rs:List (List (Int × Int))}{r:Ru}{k b:List Nat}{n:Int}{w:Int × Int}
theorem ZF:YL (ke rs r c k b n) []=.ok (.lst (k.map iT),ke rs r c k b n):=by
 walk_at "f"
 done
theorem ajb(hB:Bk m rs):YJ (ke rs r c k b n) []=.ok (aY rs,ke rs r c k b n):=by
 have e3:Bo [aY rs]=.ok (aY rs,true):=Zj hB.2.1
 walk_at "f"
 done
theorem ajc(hB:Bk m rs)(ho:bK rs.length r)(hp:p<rs.length)(hi:i<m)(hk:Kp m r rs k):∃lo hi,YQ (ke rs r c k b n) [iT p,iT i]=.ok (.tup [fT lo,fT hi],ke rs r c k b n)/\Rm m r rs p i k lo hi:=by
 obtain⟨lo,h,e,q⟩:=ai4 hB ho hp hi hk.x1 hk.x2 hk.x3
 have e3:=Xq hp
 have e4:=Zh hB hi
 refine⟨lo,h,?_,q⟩
 walk_at "f"
 done
theorem ZG(hB:Bk m rs)(ho:bK rs.length r)(hc:c<=m):∃ys:List Nat,Kp m r rs ys/\YT (.ob true "Keeper" []) [aY rs,aN r,iT c]=.ok (.non,ke rs r c ys ys 0):=by
 obtain⟨ys,y1,y2,y3,e1⟩:=Zg hB ho hc
 have e2:=Yd hB ho hc
 have e3:Bo [aY rs]=.ok (.lst (rs.map aH),true):=Zj hB.2.1
 have e4:=aiP (r:=r)
 refine⟨ys,⟨y1,y2,y3⟩,?_⟩
 have p0:cN "rows" (.dp (rs.map aH)) []=([("rows",aJ.dp (rs.map aH))]:List (Str × aJ)):=rfl
 have p1:cN "rule" (.sh (aN r)) [("rows",aJ.dp (rs.map aH))]=([("rows",aJ.dp (rs.map aH)),("rule",aJ.sh (aN r))]:List (Str × aJ)):=rfl
 have p2:cN "wanted" (.sh (iT c)) [("rows",aJ.dp (rs.map aH)),("rule",aJ.sh (aN r))]=([("rows",aJ.dp (rs.map aH)),("rule",aJ.sh (aN r)),("wanted",aJ.sh (iT c))]:List (Str × aJ)):=rfl
 have p3:cN "kept" (.sh (.lst (ys.map iT))) [("rows",aJ.dp (rs.map aH)),("rule",aJ.sh (aN r)),("wanted",aJ.sh (iT c))]=([("rows",aJ.dp (rs.map aH)),("rule",aJ.sh (aN r)),("wanted",aJ.sh (iT c)),("kept",aJ.sh (.lst (ys.map iT)))]:List (Str × aJ)):=rfl
 have p4:cN "kept_before" (.sh (.lst (ys.map iT))) [("rows",aJ.dp (rs.map aH)),("rule",aJ.sh (aN r)),("wanted",aJ.sh (iT c)),("kept",aJ.sh (.lst (ys.map iT)))]=([("rows",aJ.dp (rs.map aH)),("rule",aJ.sh (aN r)),("wanted",aJ.sh (iT c)),("kept",aJ.sh (.lst (ys.map iT))),("kept_before",aJ.sh (.lst (ys.map iT)))]:List (Str × aJ)):=rfl
 have p5:cN "changes" (.sh (.int 0)) [("rows",aJ.dp (rs.map aH)),("rule",aJ.sh (aN r)),("wanted",aJ.sh (iT c)),("kept",aJ.sh (.lst (ys.map iT))),("kept_before",aJ.sh (.lst (ys.map iT)))]=kp rs r c ys ys 0:=rfl
 walk_at "f"
 done
theorem Bk.put(hB:Bk m rs)(hp:p<rs.length)(hw:Wo w):Bk m (mv rs p i w):=by
 obtain⟨b1,b2,b3,b4,b5⟩:=hB
 have rr:=Bk.row ⟨b1,b2,b3,b4,b5⟩ hp
 refine⟨by rw[jV]; exact b1,by rw[jV]; exact b2,b3,b4,λl hl=>?_⟩
 rcases List.mem_or_eq_of_mem_set hl with h|rfl
 .exact b5 l h
 .refine⟨by rw[List.length_set]; exact rr.2.1,λx hx=>?_⟩
  rcases List.mem_or_eq_of_mem_set hx with h|rfl
  .exact rr.2.2 x h
  .exact hw
theorem ZJ{ts:List Tr}{i:Nat}(h:ts[i]?=some T):fZ ts (.int i)=.ok (i,T):=by
 have l:=(List.getElem?_eq_some_iff.mp h).1
 unfold fZ
 have e:eH ts.length (i:Int)=some i:=by
  unfold eH
  rw[if_pos (by lia),if_pos (by lia)]
  simp
 dsimp only
 rw[e]
 dsimp only
 rw[h]
theorem ajd{x:Int × Int}(h0:Fx x)(h2:x.1<=x.2):JC [fT x]=.ok (.bl true,false):=by
 obtain⟨h1,h3,h5⟩:=h0
 have e:=JF h3 h5
 walk_at "d"
 exact congrArg (λb=>Rs.ok (Tr.bl b,false)) (decide_eq_true h2)
theorem Kr(hB:Bk m rs)(ho:bK rs.length r)(hc:c<=m)(hp:p<rs.length)(hi:i<m)(hw:Fq 1620 w)(hw1:w.1<=w.2)(hv:Fq 400 (wv r ((BH.col rs i).set p w)))(hk:Kp m r rs k)(hy:¬fM (vw r rs p i w) (vw r rs p i w) m k->Wo w):∃(bb:Bool) (k':List Nat) (n':Int),YX (ke rs r c k b n) [iT p,iT i,fT w]=.ok (.bl bb,ke (mv rs p i w) r c k' b n')/\(bb=false↔fM (vw r rs p i w) (vw r rs p i w) m k)/\Kp m r (mv rs p i w) k':=by
 have ho':bK (mv rs p i w).length r:=by rw[jV]; exact ho
 have ev:=um (r:=r) (w:=w) (bq hB) hp hi
 obtain⟨bb,e2,hb⟩:=aiO (Bq.mv (i:=i) (bq hB) hp hw) ho' (λt ht=>by
  rw[ev]
  unfold vw
  split
  .exact hv
  .exact uf hB ho ht) hk.x1 hk.x2
 rw[ev]at hb
 have e3:=Xq hp
 have e4:=Zh hB hi
 have e5:=ajd hw.fx hw1
 have rr:=Bk.row hB hp
 have i1:fZ (rs.map aH) (.int (p:Nat))=.ok (p,.lst ((rs.getD p []).map fT)):=ZJ (by rw[List.getElem?_map,List.getElem?_eq_getElem hp]; simp[aH,hp])
 have i2:fZ ((rs.getD p []).map fT) (.int (i:Nat))=.ok (i,fT ((rs.getD p []).getD i (0,1))):=(λrow (h:i<List.length row)=>ZJ (ts:=List.map fT row) (by simp[h]):∀row:List (Int × Int),i<row.length->fZ (row.map fT) (.int (i:Nat))=.ok (i,fT (row.getD i (0,1)))) _ (by rw[rr.2.1]; exact hi)
 have pr:cN "rows" (.dp ((rs.map aH).set p (.lst (((rs.getD p []).map fT).set i (fT w))))) (kp rs r c k b n)=kp (mv rs p i w) r c k b n:=by
  rw[<-List.map_set]
  show cN "rows" (.dp ((rs.map aH).set p (aH ((rs.getD p []).set i w)))) _=_
  rw[<-List.map_set]
  rfl
 cases bb with
 |true =>
  have s:=hb.mp rfl
  refine⟨false,k,n,?_,⟨λ_=>s,λ_=>rfl⟩,hk.x1,hk.x2,by rw[ev]; exact s⟩
  walk_at "f"
  done
 |false =>
  have s:¬fM (vw r rs p i w) (vw r rs p i w) m k:=λh=>by cases hb.mpr h
  obtain⟨ys,y1,y2,y3,e1⟩:=Zg (Bk.put (i:=i) hB hp (hy s)) ho' hc
  refine⟨true,ys,n+1,?_,⟨λh=>(by cases h),λh=>(s h).elim⟩,y1,y2,y3⟩
  walk_at "f"
  done
end
theorem ZK:∀ys ks:List Nat,gU (ys.map iT) (ks.map iT)=true->ys=ks
 | [],[],_=>rfl
 | [],_::_,h=>by cases h
 |_::_,[],h=>by cases h
 |y::ys,k::ks,h=>by
  have h:(eqT (iT y) (iT k)&&gU (ys.map iT) (ks.map iT))=true:=h
  rw[XS,Bool.and_eq_true,decide_eq_true_eq]at h
  rw[h.1,ZK ys ks h.2]
theorem aje(ys ks:List Nat):∃z,jq (.lst (ys.map iT)) (.lst (ks.map iT))=.ok (.bl z,false)/\(z=true->ys=ks):=by
 have d:∀l:List Nat,dep (.lst (l.map iT))<=40:=λl=>by rw[ahG,JR]; lia
 exact⟨_,if_pos ⟨d ys,d ks⟩,ZK ys ks⟩
theorem p12:mZ (.int 10) (.int 12)=.ok (.int 1000000000000,false):=by kernel_rfl
theorem ZL(a:Bool)(b:Bool):wH not (.bl a) (.bl b)=.ok (.bl (!(a == b)),false):=rfl
section
variable {m c p i:Nat}{rs:List (List (Int × Int))}{r:Ru}{k b:List Nat}{n:Int}{w:Int × Int}
theorem ajf(hp:p<rs.length):vw r rs p i (gM rs p i)=vv r rs:=by
 have e:(BH.col rs i).set p (gM rs p i)=BH.col rs i:=by
  have h:gM rs p i=(BH.col rs i)[p]'(by rw[iR]; exact hp):=by unfold BH.col; simp
  rw[h,List.set_getElem_self]
 funext t
 unfold vw
 rw[e]
 split
 .rename_i h; rw[h]
 .rfl
theorem ZM(hB:Bk m rs)(ho:bK rs.length r)(hc:c<=m)(hp:p<rs.length)(hi:i<m)(hk:Kp m r rs k):Kc (ke rs r c k b n) [aN r,iT c,iT p,iT i]=.ok (.bl true,ke rs r c k b n):=by
 have e1:=ajb (r:=r) (c:=c) (k:=k) (b:=b) (n:=n) hB
 have e2:=ZF (rs:=rs) (r:=r) (c:=c) (k:=k) (b:=b) (n:=n)
 obtain⟨lo,up,e3,q⟩:=ajc (c:=c) (b:=b) (n:=n) hB ho hp hi hk
 have wx:Wo (gM rs p i):=hB.X8 hp hi
 have sx:=(q.s _ wx.fx wx.2.1).mp (by rw[ajf hp]; exact hk.x3)
 have b1:qI [fT (gM rs p i),fT lo]=.ok (.bl false,false):=(qL wx.fq q.l (by lia)).trans (by rw[cu.mpr sx.1])
 have b2:qI [fT up,fT (gM rs p i)]=.ok (.bl false,false):=(qL q.h wx.fq (by lia)).trans (by rw[cu.mpr sx.2])
 have b3:qI [fT lo,.tup [.int 0,.int 1]]=.ok (.bl false,false):=(qL (y:=(0,1)) q.l qF (by lia)).trans (by rw[cu.mpr (by unfold le2; have:=q.l.1; lia)])
 have b4:qI [.tup [.int 1,.int 1],fT up]=.ok (.bl false,false):=(qL (x:=(1,1)) qG q.h (by lia)).trans (by rw[cu.mpr (by unfold le2; have:=q.h1; lia)])
 have hu : [fT lo,fT up]=List.map fT [lo,up]:=rfl
 have f1:=Kf q.l.2.2.1 q.l.2.2.2.2
 have f2:=Kf q.h.2.2.1 q.h.2.2.2.2
 obtain⟨ys,hy,e4⟩:=ZG hB ho hc
 have e5:=ZF (rs:=rs) (r:=r) (c:=c) (k:=ys) (b:=ys) (n:=0)
 obtain⟨z,e6,hz⟩:=aje ys k
 have ends:∀x∈[lo,up],Fq 1600 x/\x.1<=x.2/\Fq 400 (wv r ((BH.col rs i).set p x))/\fM (vw r rs p i x) (vw r rs p i x) m k:=λx mx=>by
  have lu:=iQ q.l.2.2.1 wx.2.2.1 q.h.2.2.1 sx.1 sx.2
  rcases List.mem_cons.mp mx with rfl|mx
  .exact⟨q.l,q.l1,q.lv,(q.s _ q.l.fx q.l1).mpr ⟨lC _,lu⟩⟩
  .cases List.mem_singleton.mp mx
   exact⟨q.h,q.h1,q.hv,(q.s _ q.h.fx q.h1).mpr ⟨lu,lC _⟩⟩
 have ZP:=λx (fx:Fq 1620 x)=>ai6 (i:=i) (k:=k) (Bq.mv (i:=i) (w:=x) (bq hB) hp fx) (by rw[jV]; exact ho) (λt ht ti=>by
  rw[um (bq hB) hp hi]
  unfold vw
  rw[if_neg ti]
  exact uf hB ho ht) hk.x1 hk.x2
 have gx1:aW (aY rs) (iT p)=.ok (aH (rs.getD p []),false):=lK hp
 have gx2:aW (aH (rs.getD p [])) (iT i)=.ok (fT (gM rs p i),false):=lJ (by rw[(Bk.row hB hp).2.1]; exact hi)
 have ap:=p12
 have al:=all_true [lo,up]
 walk_at "f"
 exact Kf (ends x hx).1.2.2.1 (ends x hx).1.2.2.2.2
 walk_at "r"
 refine jy (xs:=[lo,up]) (t:=fT) [8,9] (λ_:Unit=>[]) (λ_ _=>True) () trivial rfl (λu x v s hx _=>?_) (λv s _=>?_)
 .obtain⟨x1,x2,x3,x4⟩:=ends x (List.mem_of_getElem? hx)
  have g1:=Zm (w:=x) hB hp hi
  obtain⟨bb,g2,g3⟩:=ZP x (x1.up (by lia))
  rw[um (bq hB) hp hi]at g3
  rw[g3.mpr x4]at g2
  cases z with
  |false =>
   walk_at "p"
   exact⟨(),trivial,exV rfl⟩
  |true =>
   cases hz rfl
   obtain⟨b',k',n',g4,g5,_⟩:=Kr (b:=k) (n:=0) hB ho hc hp hi (x1.up (by lia)) x2 x3 hk (λh=>(h x4).elim)
   rw[g5.mpr x4]at g4
   have g6:=ZL false false
   walk_at "p"
   exact⟨(),trivial,exV rfl⟩
 .walk_at "p"
  refine jy (xs:=[((1:Int),(2:Int)),(999,1000)]) (t:=fT) [10,8,9] (λ_:Unit=>[]) (λ_ _=>True) () trivial rfl (λu y v s hy _=>?_) (λv s _=>?_)
  .obtain⟨xs,g0,hx⟩:∃xs:List (Int × Int),J5 [.tup [fT lo,fT up],fT y]=.ok (aH xs,true)/\∀x∈xs,Fq 1620 x/\x.1<=x.2/\(aU x lo=true\/aU up x=true):=by
    rcases List.mem_cons.mp (List.mem_of_getElem? hy)with rfl|h
    .exact ZD q.l q.h q.l1 q.h1 (by decide) (by decide) (by decide) (by decide) (by decide)
    .cases List.mem_singleton.mp h
     exact ZD q.l q.h q.l1 q.h1 (by decide) (by decide) (by decide) (by decide) (by decide)
   walk_at "p"
   refine jy (xs:=xs) (t:=fT) [8,9] (λ_:Unit=>[]) (λ_ _=>True) () trivial rfl (λu x v s hx' _=>?_) (λv s _=>?_)
   .obtain⟨x1,x2,x3⟩:=hx x (List.mem_of_getElem? hx')
    have ns:¬fM (vw r rs p i x) (vw r rs p i x) m k:=λh=>by
     have:=(q.s x x1.fx x2).mp h
     rcases x3 with h|h
     .rw[cu.mpr this.1]at h; cases h
     .rw[cu.mpr this.2]at h; cases h
    have g1:=Zm (w:=x) hB hp hi
    obtain⟨bb,g2,g3⟩:=ZP x x1
    rw[um (bq hB) hp hi]at g3
    cases bb with
    |true=>exact(ns (g3.mp rfl)).elim
    |false =>
     cases z with
     |false =>
      walk_at "p"
      exact⟨(),trivial,exV rfl⟩
     |true =>
      cases hz rfl
      have mx:wD (fT x)=.ok (.int x.2,false):=by
       show Rs.ok (Tr.int (if x.2 > x.1 then x.2 else x.1),false)=_
       congr 3
       split <;> lia
      by_cases lt:x.2<1000000000000
      .have wo:Wo x:=⟨x1.1,x2,x1.2.2.1,by lia,x1.2.2.2.2⟩
       have f4:Fq 400 (wv r ((BH.col rs i).set p x)):=by
        have h:=uf (r:=r) (t:=i) (Bk.put (i:=i) hB hp wo) (by rw[jV]; exact ho) hi
        rw[um (bq hB) hp hi]at h
        unfold vw at h
        rwa[if_pos rfl]at h
       obtain⟨b',k',n',g4,g5,_⟩:=Kr (b:=k) (n:=0) hB ho hc hp hi x1 x2 f4 hk (λ_=>wo)
       have b1:b'=true:=by
        cases b' with
        |true=>rfl
        |false=>exact(ns (g5.mp rfl)).elim
       rw[b1]at g4
       have g6:=ZL true true
       walk_at "p"
       exact⟨(),trivial,exV rfl⟩
      .walk_at "p"
       exact⟨(),trivial,exV rfl⟩
   .walk_at "p"
    exact⟨(),trivial,exV rfl⟩
  .walk_at "p"
   done
end
theorem ajg(ns:List Int){L M:Nat}(hL:1<=L/\L<=4)(hM:1<=M/\M<=12):∃rows:List (List (Int × Int)),Bk M rows/\rows.length=L/\J2 [.lst (ns.map .int),.int 1,.int L,.int M]=.ok (aY rows,true):=by
 suffices h:∃z,J2 [.lst (ns.map .int),.int 1,.int L,.int M]=.ok z/\∃rows:List (List (Int × Int)),(rows.length=L/\∀l∈rows,l.length=M/\∀x∈l,Wo x)/\z=(aY rows,true) by
  obtain⟨_,e,rows,⟨h1,h2⟩,rfl⟩:=h
  exact⟨rows,⟨by lia,by lia,hM.1,hM.2,h2⟩,h1,e⟩
 walk_at "e"
 refine vZ [5,6] (λs:List (List (Int × Int))=>[(4,.ow (s.map aH))]) (λk s=>s.length=k/\∀l∈s,l.length=M/\∀x∈l,Wo x) [] ⟨rfl,λ_ h=>by cases h⟩ rfl (λk v rows hk ⟨i1,i2⟩=>?_) (λv rows i=>?_)
 rotate_left
 .walk_at "p"
  exact⟨_,rfl,rows,i,rfl⟩
 obtain⟨o,eo⟩:=Y6 ns (i:=(1:Int)+k) (by lia)
 obtain⟨as,y,a1,a2,cp⟩:=Za (t:=fT) (P:=Wo) (fe:=v8 (oJ 1 J1 fO)) M (by lia) o (λu x=>by
  obtain⟨w,y,e,hw⟩:=Zc x
  exact⟨w,y,by walk_at "r",hw⟩)
 walk_at "p"
 exact⟨rows++[as],⟨by simp[i1],snoc i2 ⟨a1,a2⟩⟩,exV (by rw[<-aiJ]; rfl)⟩
theorem ajh(x:Int){n:Nat}(h1:1<=n)(h4:n<=4):∃r,Yp [.int x,.int n]=.ok (aN r,false)/\bK n r:=by
 have a1:=p11
 have t1:=lE (x:=x) (s:=6) (by lia) (by lia)
 have t2:=lE (x:=x.fdiv 6) (s:=(n:Int)) (by lia) (by lia)
 have r6:=jB x 6 (by lia)
 by_cases w2:x.fmod 6<2
 .obtain⟨ws,y,l1,l2,cp⟩:=Za (t:=λp:Int × Int=>.tup [.int p.1,.int p.2]) (P:=λp:Int × Int=>0<=p.1/\p.1<=6/\1<=p.2/\p.2<=4) (fe:=G8 (fX (v8 (oJ 1 wJ (fX (eC (.int 7)) fO))) (fX (iy j6 (eC (.int 1)) (v8 (oJ 1 wJ (fX (eC (.int 4)) fO)))) fO))) n (by lia) (x.fdiv 6) (λu x=>by
   have t1:=lE (x:=x) (s:=7) (by lia) (by lia)
   have t2:=lE (x:=x.fdiv 7) (s:=4) (by lia) (by lia)
   have r1:=jB x 7 (by lia)
   have r2:=jB (x.fdiv 7) 4 (by lia)
   exact⟨(x.fmod 7,1+(x.fdiv 7).fmod 4),(x.fdiv 7).fdiv 4,by walk_at "r",by lia⟩)
  have t3:=lE (x:=y) (s:=8) (by lia) (by lia)
  by_cases h:y.fmod 8=7
  .refine⟨.sh (ws.map λp=>red (p.1*100000000000+1) (p.2*100000000000)),?_,by simp[l1],λw hw=>?_⟩
   .show _=Rs.ok (Tr.tup [.str "shares",aH _],false)
    rw[wz]
    have f:∀p∈ws,wK [.int (p.1*100000000000+1),.int (p.2*100000000000)]=.ok (fT (red (p.1*100000000000+1) (p.2*100000000000)),false):=λp hp=>qJ (M:=60) (by have:=l2 p hp; lia) (by have:=l2 p hp; lia) (by lia)
    walk_at "d"
    exact f x hx
    walk_at "r"
   .obtain⟨p,hp,rfl⟩:=List.mem_map.mp hw
    have:=l2 p hp
    exact oR (by lia) (by lia) (by lia) (by lia)
  .refine⟨.sh (ws.map λp=>red p.1 p.2),?_,by simp[l1],λw hw=>?_⟩
   .show _=Rs.ok (Tr.tup [.str "shares",aH _],false)
    rw[wz]
    have f:∀p∈ws,wK [.int p.1,.int p.2]=.ok (fT (red p.1 p.2),false):=λp hp=>qJ (M:=60) (by have:=l2 p hp; lia) (by have:=l2 p hp; lia) (by lia)
    walk_at "d"
    exact f x hx
    walk_at "r"
   .obtain⟨p,hp,rfl⟩:=List.mem_map.mp hw
    have:=l2 p hp
    exact oR (by lia) (by lia) (by lia) (by lia)
 by_cases w3:x.fmod 6=2
 .have r2:=jB (x.fdiv 6) n (by lia)
  obtain⟨j,hj⟩:=Int.eq_ofNat_of_zero_le (a:=1+(x.fdiv 6).fmod n) (by lia)
  refine⟨.mid j,?_,by show 1<=j/\j<=n; lia⟩
  show _=Rs.ok (Tr.tup [.str "middle",.int j],false)
  have e:j6 (.int 1) (.int ((x.fdiv 6).fmod n))=.ok (.int (j:Nat),false):=by rw[<-hj]; rfl
  walk_at "d"
  done
 obtain⟨r,q,o⟩:∃r,aW (.lst [(.tup [(.str "least")]),(.tup [(.str "greatest")]),(.tup [(.str "product")])]) (.int (x.fmod 6-3))=.ok (aN r,false)/\bK n r:=by
  have:x.fmod 6=3\/x.fmod 6=4\/x.fmod 6=5:=by lia
  rcases this with h|h|h <;> rw[h]
  .exact⟨.least,rfl,trivial⟩
  .exact⟨.greatest,rfl,trivial⟩
  .exact⟨.product,rfl,trivial⟩
 refine⟨r,?_,o⟩
 walk_at "d"
 done
theorem ZQ(x:Int){n:Int}(h:1<=n):∃m:Nat,1<=m/\(m:Int)<=n/\j6 (.int 1) (.int (x.fmod n))=.ok (.int m,false):=by
 have r:=jB x n (by lia)
 exact⟨(1+x.fmod n).toNat,by lia,by lia,by rw[Int.toNat_of_nonneg (by lia)]; rfl⟩
theorem Ci(x:Int){s:Nat}(h1:1<=s)(h2:s<=100):∃p:Nat,p<s/\wJ (pi x) [.int s]=.ok (iT p,pi (x.fdiv s)):=by
 have r:=jB x s (by lia)
 refine⟨(x.fmod s).toNat,by lia,?_⟩
 show _=Rs.ok (Tr.int ((x.fmod s).toNat:Int),_)
 rw[Int.toNat_of_nonneg r.1]
 exact lE (by lia) (by lia)
theorem aji(ns:List Int):ud [.lst (ns.map .int)]=.ok (.bl true,false):=by
 obtain⟨x,e0⟩:=cell_eq ns 0
 obtain⟨L,l1,l2,eL⟩:=ZQ x (n:=4) (by lia)
 obtain⟨M,m1,m2,eM⟩:=ZQ (x.fdiv 4) (n:=12) (by lia)
 obtain⟨rows,hB,hl,e1⟩:=ajg ns (L:=L) (M:=M) (by lia) (by lia)
 obtain⟨x5,e5⟩:=cell_eq ns 5
 obtain⟨r,e2,ho⟩:=ajh x5 (n:=L) (by lia) (by lia)
 have rc:=jB (x.fdiv 48) ((M:Int)+1) (by lia)
 obtain⟨c,hc⟩:=Int.eq_ofNat_of_zero_le rc.1
 have ec:yS (.int (x.fdiv 48)) (.int ((M:Int)+1))=.ok (.int (c:Nat),false):=by rw[<-hc]; exact Ly (by lia)
 obtain⟨ys,y1,e3⟩:=ZG (c:=c) hB (by rw[hl]; exact ho) (by lia)
 have rt:=jB (x.fdiv 1000) 15 (by lia)
 obtain⟨T,hT⟩:=Int.eq_ofNat_of_zero_le (a:=2+(x.fdiv 1000).fmod 15) (by lia)
 have eT:j6 (.int 2) (.int ((x.fdiv 1000).fmod 15))=.ok (.int (T:Nat),false):=by rw[<-hT]; rfl
 have eS:uO (.int (M:Nat)) (.int 1)=.ok (iT (M-1),false):=by
  show Rs.ok (Tr.int ((M:Int)-1),false)=Rs.ok (Tr.int ((M-1:Nat):Int),false)
  rw[show((M-1:Nat):Int)=(M:Int)-1 by lia]
 walk_at "d"
 refine vZ [8,9] (λs:List (List (Int × Int)) × List Nat × List Nat × Int=>[(7,.ob false "Keeper" (kp s.1 r c s.2.1 s.2.2.1 s.2.2.2))]) (λ_ s=>Bk M s.1/\s.1.length=L/\Kp M r s.1 s.2.1) (rows,ys,ys,0) ⟨hB,hl,y1⟩ rfl (λq v s hq i=>?_) (λv s i=>?_)
 .obtain⟨rs,k,b,n⟩:=s
  obtain⟨i1,i2,i3⟩:=i
  dsimp only at i1 i2 i3
  obtain⟨o,eo⟩:=Y6 ns (i:=(6:Int)+q) (by lia)
  obtain⟨p,p1,t2⟩:=Ci o (s:=L) (by lia) (by lia)
  obtain⟨t,q1,t3⟩:=Ci (o.fdiv L) (s:=M) (by lia) (by lia)
  obtain⟨p',p1',t2'⟩:=Ci ((o.fdiv L).fdiv M) (s:=L) (by lia) (by lia)
  obtain⟨t',qp,t3'⟩:=Ci (((o.fdiv L).fdiv M).fdiv L) (s:=M) (by lia) (by lia)
  obtain⟨w,y,t4,hw⟩:=Zc ((((o.fdiv L).fdiv M).fdiv L).fdiv M)
  have ho':bK rs.length r:=by rw[i2]; exact ho
  have g:=ZM (b:=b) (n:=n) (c:=c) i1 ho' (by lia) (p:=p) (by rw[i2]; exact p1) q1 i3
  have f4:Fq 400 (wv r ((BH.col rs t').set p' w)):=by
   have h:=uf (r:=r) (t:=t') (Bk.put (i:=t') i1 (p:=p') (by rw[i2]; exact p1') hw) (by rw[jV]; exact ho') qp
   rw[um (bq i1) (by rw[i2]; exact p1') qp]at h
   unfold vw at h
   rwa[if_pos rfl]at h
  obtain⟨Z,k',n',t7,_,j3⟩:=Kr (b:=b) (n:=n) i1 ho' (c:=c) (by lia) (p:=p') (by rw[i2]; exact p1') qp (hw.fq.up (by lia)) hw.2.1 f4 i3 (λ_=>hw)
  walk_at "p"
  exact⟨(mv rs p' t' w,k',b,n'),⟨Bk.put i1 (by rw[i2]; exact p1') hw,jV.trans i2,j3⟩,exV rfl⟩
 .obtain⟨rs,k,b,n⟩:=s
  obtain⟨i1,i2,i3⟩:=i
  dsimp only at i1 i2 i3
  have g:Kc (ke rs r c k b n) [aN r,iT c,.int 0,iT (M-1)]=.ok (.bl true,ke rs r c k b n):=ZM (p:=0) i1 (by rw[i2]; exact ho) (by lia) (by lia) (by lia) i3
  walk_at "p"
  done
end K66
end
section
namespace L2
open PySem PySem.Spec PyProof.Rows PySem.W
noncomputable def ZR:List Ty:=[.int,.bool,.str,.tuple,.list]
noncomputable def ZS(K:Frag)(cs:List Str)(p:Str->Addr->Bool):Bool:=cs.all λc=>match nsIn K mainGlobals c with
 |some (some (.ref C))=>p c C
 |_=>true
theorem ajj{K:Frag}{cs:List Str}{p:Str->Addr->Bool}(h:ZS K cs p=true){c:Str}(m:c∈cs){C:Addr}(n:nsIn K mainGlobals c=some (some (.ref C))):p c C=true:=by
 have:=List.all_eq_true.mp h c m
 rw[n]at this
 exact this
noncomputable def Ks(K:Frag)(C:Addr):Bool:=findIn K (.ref C) "__getattribute__" == some (some (.builtin "BaseException.__getattribute__"))&&findIn K (.ref C) "__getattr__" == some none&&findIn K (.ref C) "__class__" == some (some (.builtin "object.__class__"))&&mroIn K C (.type "object") == some true&&mroIn K C (.type "BaseException") == some true&&(clsIn K C).isSome
theorem ajk{K:Frag}{C:Addr}(h:Ks K C=true):nH K C:=by
 unfold Ks at h
 simp only[Bool.and_eq_true]at h
 obtain⟨⟨⟨⟨⟨h1,h2⟩,h3⟩,h4⟩,h5⟩,h6⟩:=h
 exact⟨beq_iff_eq.mp h1,beq_iff_eq.mp h2,beq_iff_eq.mp h3,beq_iff_eq.mp h4,beq_iff_eq.mp h5,h6⟩
theorem lY.of{K:Frag}(h:(ZS K yE λ_ C=>Ks K C&&ZR.all λy=>kitOne K (.ref C) (.type y.name) == some false)=true):lY K:=λc m C n=>by
 obtain⟨x1,x2⟩:=an.mp (ajj h m n)
 exact⟨λa=>adC (ajk x1),λy=>beq_iff_eq.mp (List.all_eq_true.mp x2 y (by cases y <;> simp[ZR]))⟩
theorem ajl{P:Program}{w:World}{K:PySem.W.Frag}{mg mb:Str->Option Value}{CX:gR}{k:Nat}{fa a:Addr}{x:Str}{sp:Sp}{s₁ : Shared}{vs:List Value}{ns:List Int}
  (KX:K.In s₁.heap) (hns:s₁.heap.Ns mainGlobals mg) (hb:s₁.heap.Ns builtinsNs mb) (hbb:∀x:Str,x ≠ "__name__" -> mb x=bootBuiltins x) (hlim:s₁.heap.NoLimit) (hg:s₁.gens = #[])
  (ha:s₁.heap.get? a=some {cls:=.type "list",data:=.seq vs.toArray }) (hi:IntsAre vs ns) (hl:ns.length<=sizeLine) (hr:bQ k callerA)
  (hT:∀x∈fH,∀c b,tabIn K x=some (c,b)->CodeHd s₁.heap c b/\s₁.heap.get? b=some (tabObj #[])) (qP:noTabs K=true) (hB:mK mg s₁.heap)
  (F:∀base:Heap,K.In base->base.Ns mainGlobals mg->(∀x∈fH,∀c b,tabIn K x=some (c,b)->CodeHd base c b)->mK mg base->∃fd:FuncData,(∀(s:Shared) (u:Value),K.In s.heap->BindsTo s fd ⟨[u],[]⟩ [(x,u)])/\dH P w K mg base CX k fa fd [x] sp)
  (hsp:∀H:Hp,bx (aq K) H->iJ K H a (ns.map V.int)->sp [.ref a] H (λv _=>v=.bl true) λ_ _ _=>False)
  (Ku:∀H e s',CX [] H s₁ (λ_ _ _=>False) e s'->False) :
  codeAny (model P w) callerA (.call (.ref fa) ⟨[.ref a],[]⟩) (λr s'=>r=.ok (.ret (.bool true))/\OldK s₁.heap s'.heap/\s'.os=s₁.os/\AllBare s'.gens) s₁ := by
 have rv:=El hi
 have lenV:=hi.length
 -- from an abstract heap in which nothing but the script may be tracked
 have hT':∀b,Tb (aq K) b->∃c,CodeHd s₁.heap c b/\s₁.heap.get? b=some (tabObj #[]):=λb ⟨x,hx,c,e⟩=>⟨c,hT x hx c b (QZ e)⟩
 have core:∀H:Hp,(∀b,H b=none\/(∃o xs,H b=some (.cO o (.lst xs)))\/(H b=some (.bO #[])/\Tb (aq K) b))->bx (aq K) H->iJ K H a (ns.map V.int)->bZ P w H s₁.heap->(∀b,H b≠none->b=a\/Tb (aq K) b)->(H a≠none->K.lookup a=none) ->
   codeAny (model P w) callerA (.call (.ref fa) ⟨[.ref a],[]⟩) (λr s'=>r=.ok (.ret (.bool true))/\OldK s₁.heap s'.heap/\s'.os=s₁.os/\AllBare s'.gens) s₁ := by
  intro H hO hTb hS hok hA hK
  have Cj:∀{b:Addr} {o:Obj},s₁.heap.get? b=some o->H b=none->(lO s₁.heap H).get? b=some o:=λe n=>aaW e n
  have uE:∀{b:Addr} {o:Obj} {es:Array DictEntry} {ep:Nat},s₁.heap.get? b=some o->o.data=.dict es ep->H b=none:=λ{b o es ep} e d=>by
   cases q:H b with
   |none=>rfl
   |some u =>
    rcases hA b (by rw[q]; simp)with e'|e'
    .subst e'
     rw[ha]at e; cases e
     have d':Data.seq vs.toArray _=Data.dict es ep:=d
     cases d'
    .obtain⟨c,_,z⟩:=hT' b e'
     rw[z]at e; cases e
     cases d
  have Ck:∀{b:Addr} {m:Str->Option Value},s₁.heap.Ns b m->(lO s₁.heap H).Ns b m:=λ{b m} ⟨o,es,ep,e,d,r⟩=>⟨o,es,ep,Cj e (uE e d),d,r⟩
  have ZV:K.In (lO s₁.heap H):=λb o e=>Cj (KX b o e) (by
   cases q:H b with
   |none=>rfl
   |some u =>
    rcases hA b (by rw[q]; simp)with e'|e'
    .subst e'
     rw[hK (by rw[q]; simp)]at e; cases e
    .obtain⟨c,_,z⟩:=hT' b e'
     have z2:=KX b o e
     rw[z]at z2
     cases z2
     have h2:=List.all_eq_true.mp qP (b,_) (mem_of_lookupK e)
     exact absurd (show false=true from h2) Bool.false_ne_true)
  have hM:Mod K mg (lO s₁.heap H):=⟨ZV,Ck hns,⟨mb,Ck hb,hbb⟩,let⟨mc,h1,h2⟩:=hlim; ⟨mc,Ck h1,h2⟩⟩
  have e0:j4 P w K mg (lO s₁.heap H) callerA [] s₁ H:=⟨rfl,hM,λb o e=>aaX e,Nat.le_of_eq (aaV _ _),trivial,λb hb=>absurd (show b∈([]:List Addr)from hb) (by simp),hok,.of_eq hg⟩
  have free:∀{b:Addr} {o:Obj},s₁.heap.get? b=some o->o.cls ≠ .none->(∀its n,o.data ≠ .seq its n)->H b=none:=λ{b o} e n1 n2=>by
   cases q:H b with
   |none=>rfl
   |some u =>
    rcases hA b (by rw[q]; simp)with e'|e'
    .subst e'
     rw[ha]at e; cases e
     exact(n2 _ _ rfl).elim
    .obtain⟨c,_,z⟩:=hT' b e'
     rw[z]at e; cases e
     exact(n1 rfl).elim
  obtain⟨fd,hbind,F1⟩:=F _ ZV (Ck hns) (λx hx c b e=>by
   obtain⟨o,vs',file,tf,flags,tg,inF,text,tt,e1,r1,r2,r3⟩:=(hT x hx c b e).1
   exact⟨o,vs',file,tf,flags,tg,inF,text,tt,Cj e1 (free e1 (by rw[r1]; intro z; cases z) (λ_ _ z=>by rw[r2]at z; cases z)),r1,r2,r3⟩) (by
   obtain⟨bm,ob,b1,b2,b3,b4,b5,b6,b7⟩:=hB
   exact⟨bm,ob,b1,b2,b3,Cj b4 (free b4 (by rw[b5]; intro z; cases z) (λ_ _ z=>by rw[b7]at z; cases z)),b5,b6,b7⟩)
  refine codeAny_mono (F1.run callerA [] s₁ H ⟨[.ref a],[]⟩ [.ref a] [.ref a] _ _ hr e0 (hbind s₁ (.ref a) KX) (.cons rfl .nil) (hsp H hTb hS)) λr s' h=>?_
  cases r with
  |error e=>exact(Ku H e s' h).elim
  |ok fl =>
   cases fl with
   |next=>exact False.elim h
   |brk=>exact False.elim h
   |cont=>exact False.elim h
   |ret u =>
    obtain⟨v,H',os,bare,un,hok',r',q⟩:=h
    have q':v=.bl true:=q
    subst q'
    obtain rfl:u=Value.bool true:=r'
    refine⟨rfl,⟨λb o e=>?_,λb o e=>un.there b o e (by simp)⟩,os,bare⟩
    cases q:H b with
    |none=>exact .inl (un.keep b o e q (by intro z; exact absurd (show b∈([]:List Addr)from z) (by simp)) (by simp))
    |some u =>
     rcases hO b with z|⟨ob,xs,z⟩|⟨z,zt⟩
     .rw[q]at z; cases z
     .have z2:=un.gP b ob _ z
      obtain⟨e1,_⟩:=hok b _ z
      obtain⟨e2,_⟩:=hok' b _ z2
      rw[e]at e1; cases e1
      exact .inl e2
     .obtain⟨more,z2⟩:=un.gQ b _ z
      have e1:s₁.heap.get? b=some (tabObj #[]):=hok b _ z
      have e2:s'.heap.get? b=some (tabObj (#[]++more)):=hok' b _ z2
      rw[e]at e1; cases e1
      obtain⟨c,hc,_⟩:=hT' b zt
      exact .inr (.inl ⟨(hc.tab e).isCodeTable,rfl,#[],more,rfl,e2⟩)
 classical
 have ZW:∀H:Hp,(∀b,Tb (aq K) b->H b=some (.bO #[]))->bx (aq K) H:=λH h x hx c b e=>⟨#[],h b ⟨x,hx,c,e⟩,trivial,λpos v z=>by cases z⟩
 have ZX:¬Tb (aq K) a:=λz=>by
  obtain⟨c,_,e⟩:=hT' a z
  rw[ha]at e
  cases e
 cases hk:K.lookup a with
 |some o =>
  have e:=KX a o hk
  rw[ha]at e
  cases e
  refine core (λb=>if Tb (aq K) b then some (.bO #[])else none) (λb=>?_) (ZW _ λb z=>if_pos z) (.inr ⟨vs.toArray,_,hk,by rw[List.size_toArray,lenV]; exact hl,by simpa using rv⟩) (λb u z=>?_) (λb z=>?_) λz=>?_
  .by_cases q:Tb (aq K) b
   .exact .inr (.inr ⟨if_pos q,q⟩)
   .exact .inl (if_neg q)
  .by_cases q:Tb (aq K) b
   .have z':=(if_pos q).symm.trans z
    cases z'
    obtain⟨c,_,e⟩:=hT' b q
    exact e
   .have z':=(if_neg q).symm.trans z
    cases z'
  .by_cases q:Tb (aq K) b
   .exact .inr q
   .exact absurd (if_neg q) z
  .exact absurd (if_neg ZX) z
 |none =>
  refine core (λb=>if b=a then some (.cO {cls:=.type "list",data:=.seq vs.toArray } (.lst (ns.map V.int)))else if Tb (aq K) b then some (.bO #[])else none) (λb=>?_) (ZW _ λb z=>by
   have nb:¬b=a:=λq=>ZX (by rw[<-q]; exact z)
   exact(if_neg nb).trans (if_pos z)) (.inl (.inr ⟨{cls:=.type "list",data:=.seq vs.toArray },if_pos rfl⟩)) (λb u z=>?_) (λb z=>?_) λ_=>hk
  .by_cases hb:b=a
   .exact .inr (.inl ⟨_,_,if_pos hb⟩)
   .by_cases q:Tb (aq K) b
    .exact .inr (.inr ⟨(if_neg hb).trans (if_pos q),q⟩)
    .exact .inl ((if_neg hb).trans (if_neg q))
  .by_cases hb:b=a
   .have z':=(if_pos hb).symm.trans z
    cases z'
    subst hb
    exact⟨ha,by rw[List.length_map]; exact hl,vs,_,rv,ha⟩
   .have z':=(if_neg hb).symm.trans z
    by_cases q:Tb (aq K) b
    .have z':=(if_pos q).symm.trans z'
     cases z'
     obtain⟨c,_,e⟩:=hT' b q
     exact e
    .have z':=(if_neg q).symm.trans z'
     cases z'
  .by_cases hb:b=a
   .exact .inl hb
   .by_cases q:Tb (aq K) b
    .exact .inr q
    .exact absurd ((if_neg hb).trans (if_neg q)) z
theorem ajm{l:PySem.W.OpenLaw}{n k:Nat}{q:Program}{loose:List Str}{XP:(Str->Option Value)->Heap->Prop}{YP:World->Heap->Prop}{d:DefRec}{K:Params->PySem.W.Frag}{CX:World->gR}{sp:World->Sp}{x:Str}
  (hn:l.most=some n) (hn2:n<=sizeLine) (hdf:d.params.defaults=[]) (hr:bQ k callerA)
  (wV:∀x∈fH,((recsOf q).find? (λe=>e.name == x)).isSome=true\/∀w:World,nsIn (K w.params) mainGlobals x=some none) (qP:∀w:World,noTabs (K w.params)=true)
  (hY:∀(w:World) (h:Heap),YP w h->(K w.params).In h)
  (F:∀(w:World) (mg:Str->Option Value) (fa:Addr) (h:Heap),(K w.params).In h->h.Ns mainGlobals mg->mg d.name=some (.ref fa) ->
   ∀base:Heap,(K w.params).In base->base.Ns mainGlobals mg->(∀x∈fH,∀c b,tabIn (K w.params) x=some (c,b)->CodeHd base c b)->mK mg base->∃fd:FuncData,(∀(s:Shared) (u:Value),(K w.params).In s.heap->BindsTo s fd ⟨[u],[]⟩ [(x,u)])/\dH l.prog w (K w.params) mg base (CX w) k fa fd [x] (sp w))
  (hsp:∀(w:World) (H:Hp) (a:Addr) (ns:List Int),ns.length<=n->bx (aq (K w.params)) H->iJ (K w.params) H a (ns.map V.int)->sp w [.ref a] H (λv _=>v=.bl true) λ_ _ _=>False)
  (Ku:∀(w:World) (H:Hp) (s:Shared) (e:Value) (s':Shared),CX w [] H s (λ_ _ _=>False) e s'->False) :
  PySem.W.WalkO q loose XP YP l.row.toRowW d [] (λf vs=>PySem.call f vs):=by
 refine Ph.ada hn hdf λw s₀ s₁ mg mb fa o pm cd doc a vs ns G Y ho hd hcd hmg hobj hints hlen hg=>?_
 have KX:=hY w _ Y
 have hT:∀x∈fH,∀c b,tabIn (K w.params) x=some (c,b)->CodeHd s₁.heap c b/\s₁.heap.get? b=some (tabObj #[]):=λx hx c b e=>by
  rcases wV x hx with z|z
  .obtain⟨d,z⟩:=Option.isSome_iff_exists.mp z
   exact tab_of G.T KX z e
  .rw[Q6 (z w)]at e; cases e
 have hB:mK mg s₁.heap:=by
  obtain⟨bm,ob,b1,b2,b3,b4,b5,b6⟩:=G.T.bmain
  refine⟨bm,ob,b1,b2,λz=>?_,b3,b4,b5,b6⟩
  obtain⟨o,es,ep,e,hd,_⟩:=G.T.g
  rw[z,e]at b3; cases b3
  rw[hd]at b6; cases b6
 exact ajl KX G.T.g G.T.b G.T.builtins G.T.nolimit hg hobj hints (Nat.le_trans hlen hn2) hr hT (qP w) hB (F w mg fa _ KX G.T.g hmg) (λH hO hS=>hsp w H a ns hlen hO hS) λH e s'=>Ku w H s₁ e s'
end L2
end
section
namespace K66
open PySem L2 BH PySem.W
section
variable {K:Frag}{mg:Str->Option Value}{h:Heap}
theorem ajn{x:Str}{st:Stmt}(X:K.In h)(G:h.Ns mainGlobals mg){f:Addr}{od an:Option Addr}{sl:Array (Option Value)}{oc kV dc pm cd ct:Value}
  (a:nsIn K mainGlobals x=some (some (.ref f))) (l:K.lookup f=some ⟨oc,od,.func (fnOf x x (iG st) (eN st) (bG st) .none kV dc pm an cd ct),sl⟩) (c:codeIn K cd x=true) (k:keepIn K (.ref f)=true):At K mg x st :=
 ⟨f,_,yC (st:=st) l c k,mg_of X G a⟩
theorem ajo{x:Str}{st:Stmt}(X:K.In h)(G:h.Ns mainGlobals mg){f c:Addr}{od an:Option Addr}{sl:Array (Option Value)}{oc kV dc pm ct:Value}
  (a:nsIn K mainGlobals x=some (some (.ref f))) (l:K.lookup f=some ⟨oc,od,.func (fnOf x x (iG st) (eN st) (bG st) .none kV dc pm an (.ref c) ct),sl⟩) (cc:codeIn K (.ref c) x=true) (k:keepIn K (.ref f)=true):u0 K mg x st c :=
 ⟨f,_,yC (st:=st) l cc k,mg_of X G a,rfl⟩
theorem Z0{x:Str}{i:Int}{tk:Tok}(X:K.In h)(G:h.Ns mainGlobals mg)(a:nsIn K mainGlobals x=some (some (.int i tk))):Gk K mg x (.int i) (.int i):=⟨.int i tk,mg_of X G a,by first|exact rfl|exact⟨_,rfl⟩,λ_=>.int i⟩
theorem wW{H:Hp}{a:Addr}{od:Option Addr}{its:Array Value}{n:Nat}{sl:Array (Option Value)}{xs:List V}{vs:List Value}{ts:List Tr}(l:K.lookup a=some ⟨.type "tuple",od,.seq its n,sl⟩) (e:its.toList=vs) (hl:vs.length<=1000) (r:Vals xs vs) (rr:au (aq K) H xs ts):Rep (aq K) H (.ref a) (.tup ts):=by
 refine .tup (xs:=xs) (.inr ⟨_,its,n,adU l rfl,rfl,rfl,?_,by rw[e]; exact r⟩) rr
 rw[<-Array.length_toList,e]
 exact Nat.le_of_lt (Eo hl)
theorem ajp(X:K.In h)(G:h.Ns mainGlobals mg){a r1 r2 r3:Addr}{od o1 o2 o3:Option Addr}{its i1 i2 i3:Array Value}{n n1 n2 n3:Nat}{sl PX sl2 Fd:Array (Option Value)}{t1 t2 t3:Tok}
  (m:nsIn K mainGlobals "BARE_RULES" = some (some (.ref a))) (l:K.lookup a=some ⟨.type "tuple",od,.seq its n,sl⟩) (e:its.toList=[.ref r1,.ref r2,.ref r3])
  (l1:K.lookup r1=some ⟨.type "tuple",o1,.seq i1 n1,PX⟩) (e1:i1.toList=[.str "least" t1]) (l2:K.lookup r2=some ⟨.type "tuple",o2,.seq i2 n2,sl2⟩) (e2:i2.toList=[.str "greatest" t2]) (l3:K.lookup r3=some ⟨.type "tuple",o3,.seq i3 n3,Fd⟩) (e3:i3.toList=[.str "product" t3]):Gk K mg "BARE_RULES" (.ref a) (.tup [(.tup [(.str "least")]),(.tup [(.str "greatest")]),(.tup [(.str "product")])]):=by
 refine⟨_,mg_of X G m,rfl,λH=>wW (xs:=[.ref r1,.ref r2,.ref r3]) l e (Nat.le_of_ble_eq_true rfl) (.cons rfl (.cons rfl (.cons rfl .nil))) ?_⟩
 exact .cons (wW (xs:=[.str "least"]) l1 e1 (Nat.le_of_ble_eq_true rfl) (.cons ⟨_,rfl⟩ .nil) (.cons (.str _) .nil)) (.cons (wW (xs:=[.str "greatest"]) l2 e2 (Nat.le_of_ble_eq_true rfl) (.cons ⟨_,rfl⟩ .nil) (.cons (.str _) .nil)) (.cons (wW (xs:=[.str "product"]) l3 e3 (Nat.le_of_ble_eq_true rfl) (.cons ⟨_,rfl⟩ .nil) (.cons (.str _) .nil)) .nil))
theorem Z1(X:K.In h)(G:h.Ns mainGlobals mg){x:Str}{a:Addr}{od:Option Addr}{its:Array Value}{n:Nat}{sl:Array (Option Value)}{i j:Int}{t1 t2:Tok}
  (m:nsIn K mainGlobals x=some (some (.ref a))) (l:K.lookup a=some ⟨.type "tuple",od,.seq its n,sl⟩) (e:its.toList=[.int i t1,.int j t2]):Gk K mg x (.ref a) (.tup [.int i,.int j]) :=
 ⟨_,mg_of X G m,rfl,λH=>wW (xs:=[.int i,.int j]) l e (Nat.le_of_ble_eq_true rfl) (.cons ⟨_,rfl⟩ (.cons ⟨_,rfl⟩ .nil)) (.cons (.int _) (.cons (.int _) .nil))⟩
noncomputable def Cm(K:Frag)(n:Nat)(F:FP):Sp:=λvs H Q E=>∃G ts,vs.length=n/\au (aq K) G vs ts/\Same G H/\bx (aq K) H/\(∀b,Tb (aq K) b->G b=none)/\∃p,F ts=.ok p/\∀v G' H',VN (aq K) H G' H' v p.1 p.2->Q v H'
theorem ajq{K:Frag}{cl:Str->Addr}{n:Nat}{F:FP}(vs:List V)(H:Hp)(Q:VK)(E:XK)(h:Cm K n F vs H Q E):nU K cl n F vs H Q E:=by
 obtain⟨G,ts,h1,h2,h3,h4,h5,p,h6,h7⟩:=h
 refine⟨G,ts,h1,h2,h3,h4,h5,?_⟩
 rw[h6]
 exact λv G' H' _=>h7 v G' H'
theorem ajr{K:Frag}{H:Hp}(t:bx (aq K) H)(h:iJ K H a xs):∃G,Same G H/\(∀b,Tb (aq K) b->G b=none)/\aL (aq K) G a xs:=by
 rcases h with h|h
 .refine⟨λb=>if b=a then H b else none,λb o q=>?_,λb z=>?_,.inl ?_⟩
  .dsimp only at q
   split at q
   .exact q
   .cases q
  .dsimp only
   split
   .rename_i e
    subst e
    obtain⟨ps,y⟩:=t.bO z
    rcases h with h|⟨o,h⟩ <;> (rw[y]at h; cases h)
   .rfl
  .have e:(if a=a then H a else none)=H a:=if_pos rfl
   unfold Rd at h ⊢
   dsimp only
   rw[e]
   exact h
 .exact⟨λ_=>none,λ_ _ z=>(by cases z),λ_ _=>rfl,iJ.toN (.inr h)⟩
end
section
variable {P:Program}{w:World}{K:Frag}{mg:Str->Option Value}{base:Heap}
theorem ajs(M:∀x∈(["abs", "all", "bool", "int", "isinstance", "len", "list", "max", "min", "range", "sorted", "tuple", "zip"]:List Str),mg x=none) (O:∀x∈(["NoList", "NoThing", "NoBottom", "NoBook", "NoRule", "NoCount", "NoWorth"]:List Str),∃k,PyProof.Rows.OwnCls x k zM "ValueError.__new__" mg base) (XT:lY K) {qQ:Addr} (gh:ClsAt K mg "Keeper" qQ) (uo:∀k∈(["rows", "kept", "rule", "wanted", "kept_before", "changes"]:List Str),PySem.W.findIn K (.ref qQ) k=some none) (ajt:At K mg "_law_cell" (top 65)) (aju:At K mg "_law_take" (top 66)) (ajv:At K mg "_law_shared" (top 67)) (ajw:At K mg "_law_frac" (top 68)) (ajx:At K mg "_law_worth" (top 72)) (ajy:At K mg "_law_book" (top 73)) (ajz:At K mg "_law_rule" (top 74)) (ajA:At K mg "_law_below" (top 71)) (ajB:At K mg "_law_plus" (top 69)) (ajC:At K mg "_law_by" (top 70)) (ajD:At K mg "_law_beyond" (top 82)) (ajE:At K mg "_law_falling" (top 75)) (ajF:At K mg "_law_made" (top 76)) (ajG:At K mg "_law_of_things" (top 77)) (ajH:At K mg "_law_are_best" (top 78)) (ajI:At K mg "_law_moved" (top 81)) (ajJ:At K mg "_law_is_fraction" (top 80)) (ajK:At K mg "copied_rows" (top 61)) (ajL:tO K qQ "book" "Keeper.book" (wI 63 3)) (ajM:tO K qQ "things" "Keeper.things" (wI 63 2)) (ajN:At K mg "is_whole" (top 11)) (ajO:At K mg "is_place" (top 29)) (ajP:At K mg "need_list" (top 32)) (ajQ:At K mg "need_thing" (top 33)) (ajR:At K mg "common_divisor" (top 12)) (ajS:At K mg "fraction_of" (top 13)) (ajT:At K mg "frac_sum" (top 14)) (ajU:At K mg "frac_times" (top 16)) (ajV:At K mg "shares_worth" (top 38)) (ajW:At K mg "product_worth" (top 39)) (ajX:At K mg "common_bottom" (top 20)) (ajY:At K mg "tops_on_one_bottom" (top 21)) {oO ajZ:Addr} (aj0:u0 K mg "falling_places" (top 22) oO) (aj1:zL K mg base "falling_places" oO ajZ) (aj2:At K mg "place_of" (top 40)) (aj3:At K mg "worth_by" (top 41)) (aj4:At K mg "worths_of" (top 47)) (aj5:At K mg "worths_by" (top 48)) (aj6:At K mg "worth_with" (top 57)) (aj7:At K mg "frac_below" (top 18)) (aj8:At K mg "frac_by" (top 17)) (aj9:At K mg "frac_less" (top 15)) (akb:At K mg "worth_for" (top 58)) (akc:At K mg "room_by" (top 59)) (akd:tO K qQ "room" "Keeper.room" (wI 63 6)) (ake:At K mg "is_fraction" (top 19)) (akf:At K mg "is_worth" (top 26)) (akg:At K mg "are_worths" (top 27)) (akh:At K mg "is_book" (top 28)) (aki:At K mg "need_book" (top 31)) (akj:At K mg "are_weights" (top 36)) (akk:At K mg "is_rule" (top 37)) (akl:At K mg "need_book_and_rule" (top 42)) (akm:At K mg "is_count" (top 30)) (akn:At K mg "need_count" (top 45)) (ako:At K mg "need_book_rule_and_count" (top 46)) (akp:At K mg "copied_rule" (top 43)) (akq:At K mg "best_few" (top 49)) (akr:At K mg "best_things" (top 50)) (aks:Jy K qQ "Keeper.__init__" (wI 63 0)) (akt:At K mg "weakest_and_rival" (top 54)) (aku:At K mg "are_sure" (top 55)) (akv:At K mg "are_best" (top 62)) (akx:tO K qQ "put" "Keeper.put" (wI 63 1)) (aky:At K mg "_law_good" (top 83)) (akz:At K mg "law" (top 84)) {akA:V} (akB:Gk K mg "NOTHING" akA (.tup [(.int 0),(.int 1)])) {akC:V} (akD:Gk K mg "FULL" akC (.tup [(.int 1),(.int 1)])) {akE:V} (akF:Gk K mg "MOST_LISTS" akE (.int 4)) {akG:V} (akH:Gk K mg "MOST_THINGS" akG (.int 12)) {akI:V} (akJ:Gk K mg "BARE_RULES" akI (.tup [(.tup [(.str "least")]),(.tup [(.str "greatest")]),(.tup [(.str "product")])])):iI P w K mg base 14 "law" ["_law_script"] (Cm K 1 ud):=by
 have kn:=Kn.mk' (P:=P) (w:=w) M O XT
 have h:∀y∈[Ey.gk "NOTHING" (.tup [(.int 0),(.int 1)]),Ey.gk "FULL" (.tup [(.int 1),(.int 1)]),Ey.gk "MOST_LISTS" (.int 4),Ey.gk "MOST_THINGS" (.int 12),Ey.gk "BARE_RULES" (.tup [(.tup [(.str "least")]),(.tup [(.str "greatest")]),(.tup [(.str "product")])]),Ey.cz "Keeper" "rows",Ey.cz "Keeper" "kept",Ey.cz "Keeper" "rule",Ey.cz "Keeper" "wanted",Ey.cz "Keeper" "kept_before",Ey.cz "Keeper" "changes"],Ey.fU ⟨P,w,K,mg,base,clz mg⟩ y:=List.forall_mem_cons.mpr ⟨⟨_,akB⟩,List.forall_mem_cons.mpr ⟨⟨_,akD⟩,List.forall_mem_cons.mpr ⟨⟨_,akF⟩,List.forall_mem_cons.mpr ⟨⟨_,akH⟩,List.forall_mem_cons.mpr ⟨⟨_,akJ⟩,List.forall_mem_cons.mpr ⟨⟨_,gh.1,gh.2.1,uo "rows" (by decide +kernel)⟩,List.forall_mem_cons.mpr ⟨⟨_,gh.1,gh.2.1,uo "kept" (by decide +kernel)⟩,List.forall_mem_cons.mpr ⟨⟨_,gh.1,gh.2.1,uo "rule" (by decide +kernel)⟩,List.forall_mem_cons.mpr ⟨⟨_,gh.1,gh.2.1,uo "wanted" (by decide +kernel)⟩,List.forall_mem_cons.mpr ⟨⟨_,gh.1,gh.2.1,uo "kept_before" (by decide +kernel)⟩,List.forall_mem_cons.mpr ⟨⟨_,gh.1,gh.2.1,uo "changes" (by decide +kernel)⟩,λ_ z=>nomatch z⟩⟩⟩⟩⟩⟩⟩⟩⟩⟩⟩
 have h:=aR Yg kn h ajt
 have h:=Jx Yh kn h aju
 have h:=aR Yi kn h ajv
 have h:=aR Yk kn h ajw
 have h:=Jx Yl kn h ajx
 have h:=aR Yn kn h ajy
 have h:=aR Yo kn h ajz
 have h:=aR Yq kn h ajA
 have h:=aR Yr kn h ajB
 have h:=aR Ys kn h ajC
 have h:=aR Yt kn h ajD
 have h:=aR Yu kn h ajE
 have h:=aR Yv kn h ajF
 have h:=aR Yw kn h ajG
 have h:=aR Yy kn h ajH
 have h:=Ub YB kn h ajI
 have h:=aR YF kn h ajJ
 have h:=Ub Xi kn h ajK
 have h:=Bh YH kn h gh ajL
 have h:=Bh YK kn h gh ajM
 have h:=aR Vq kn h ajN
 have h:=aR V2 kn h ajO
 have h:=aR V7 kn h ajP
 have h:=aR W7 kn h ajQ
 have h:=aR U9 kn h ajR
 have h:=aR Vb kn h ajS
 have h:=aR Vd kn h ajT
 have h:=aR Vi kn h ajU
 have h:=aR Wf kn h ajV
 have h:=aR Wh kn h ajW
 have h:=aR VJ kn h ajX
 have h:=aR VR kn h ajY
 have h:=okL ["fractions", "tops"] V1 kn h aj0 aj1
 have h:=aR Wj kn h aj2
 have h:=aR Wl kn h aj3
 have h:=aR Ws kn h aj4
 have h:=aR Ww kn h aj5
 have h:=aR Xa kn h aj6
 have h:=aR Vo kn h aj7
 have h:=aR Vl kn h aj8
 have h:=aR Vf kn h aj9
 have h:=aR Xc kn h akb
 have h:=aR Xe kn h akc
 have h:=Bh YM kn h gh akd
 have h:=aR Vs kn h ake
 have h:=aR Vv kn h akf
 have h:=aR Vy kn h akg
 have h:=aR VF kn h akh
 have h:=aR V5 kn h aki
 have h:=aR Wa kn h akj
 have h:=aR Wc kn h akk
 have h:=aR Wn kn h akl
 have h:=aR Wy kn h akm
 have h:=aR WK kn h akn
 have h:=aR WQ kn h ako
 have h:=aR Xg kn h akp
 have h:=aR WW kn h akq
 have h:=aR W4 kn h akr
 have h:=agt YS kn h gh aks
 have h:=aR WY kn h akt
 have h:=aR W2 kn h aku
 have h:=aR Xk kn h akv
 have h:=Bh YW kn h gh akx
 have h:=Jx YZ kn h aky
 have h:=aR Y4 kn h akz
 obtain⟨f,fd,h1,h2⟩:iI P w K mg base 14 "law" ["_law_script"] (nU K (clz mg) 1 ud):=h (Ey.fn "law" ["_law_script"] ud 14) (fm "law" (by kernel_rfl))
 exact⟨f,fd,h1.imp ajq,h2⟩
end
theorem walk{l:OpenLaw}{q:Program}{loose:List Str}{XP:(Str->Option Value)->Heap->Prop}{YP:World->Heap->Prop}{d:DefRec}{K:Params->Frag}(hn:l.most=some 63)(hdf:d.params.defaults=[])(hd:d.name = "law")
  (wV:∀x∈fH,((PyProof.Rows.recsOf q).find? (λe=>e.name == x)).isSome=true\/∀w:World,nsIn (K w.params) mainGlobals x=some none) (qP:∀w:World,noTabs (K w.params)=true)
  (hY:∀(w:World) (h:Heap),YP w h->(K w.params).In h)
  (F:∀(w:World) (mg:Str->Option Value) (h:Heap),(K w.params).In h->h.Ns mainGlobals mg->∀base:Heap,(K w.params).In base->base.Ns mainGlobals mg->(∀x∈fH,∀c b,tabIn (K w.params) x=some (c,b)->CodeHd base c b)->mK mg base->iI l.prog w (K w.params) mg base 14 "law" (["_law_script"]:List Str) (Cm (K w.params) 1 ud)) :
  WalkO q loose XP YP l.row.toRowW d [] (λf vs=>PySem.call f vs) :=
 L2.ajm (n:=63) (k:=14) (x := "_law_script") (CX:=λw=>eX l.prog w) (sp:=λw=>Cm (K w.params) 1 ud) hn (by decide) hdf ⟨rfl,by decide,by decide,rfl⟩ wV qP hY
  (λw mg fa h KX G hm base kb gb hc bm=>by
   obtain⟨f,fd,h1,h2,_,h4⟩:=F w mg h KX G base kb gb hc bm
   rw[hd]at hm
   cases h4.symm.trans hm
   exact⟨fd,λs u ks=>h2 s [u] ks rfl,h1⟩)
  (λw H a ns hl hTb hS=>by
   obtain⟨G,g1,g2,g3⟩:=ajr hTb hS
   exact⟨G,[.lst (ns.map .int)],rfl,.cons (.lst g3 (Iz ns)) .nil,g1,hTb,g2,_,aji ns,λv G' H' r=>by cases r; rfl⟩)
  λw H s e s' h=>by
   obtain⟨_,_,_,_,_,_,z,_⟩:=h
   exact z
end K66
end
section
namespace PySem.W.Fast
end PySem.W.Fast
inductive PySem.W.Fast:Prop
|tw10126500486290368558
|tw10240599115807092078
|tw10326321506945900491
|tw1036240131818730939
|tw10655180614381130156
|tw10805735071152581506
|tw10826247323272901310
|tw10895531634415820347
|tw11086595787168687879
|tw11254839945617320540
|tw11334204894543177596
|tw11396991159619055403
|tw1156499895739059297
|tw11592732436366254439
|tw11764166405105901811
|tw11781683432935419405
|tw11939623663548357339
|tw12124189683392928198
|tw12152829416846907962
|tw12533476311534713386
|tw1257422474331805521
|tw12668161538530886506
|tw12689200601636711954
|tw12698460725968828934
|tw12713461743293561253
|tw12723622170326319454
|tw12880216463096272372
|tw12895581875791643351
|tw13004317902829968661
|tw13088715835943460174
|tw13136085601528722835
|tw13152746576672524994
|tw13204271631889247209
|tw13222582397070720397
|tw13417074812425230335
|tw13524941365979902881
|tw13556297593864422905
|tw1370936667454623076
|tw13727450966534618817
|tw13828338016882281017
|tw13829726529343930467
|tw14044483268526729244
|tw14093188493494178624
|tw14117966736174217340
|tw14121604370777103427
|tw14159229452585853263
|tw14250745935030013805
|tw14327987004182144102
|tw14675518921442650360
|tw14817411886822242383
|tw14828922752841496487
|tw14906951547555198443
|tw15033680996324435393
|tw15404220544843108995
|tw15493602007322602247
|tw15516076848622463229
|tw1564803008913006593
|tw15853586968241152820
|tw15877554091622044223
|tw16148529419394349032
|tw1628378262438951107
|tw16299879223858571822
|tw16417988675288674798
|tw16671015332981286918
|tw16702946766601273068
|tw16743594081356319545
|tw16857636490515903724
|tw16932157099904034804
|tw1696163952384436510
|tw16971130908007664162
|tw17250273887310385713
|tw17372045205680392832
|tw17399933359531722841
|tw17588471824631637157
|tw17630712261266887715
|tw17687488468958274921
|tw17754335945675054370
|tw1785816396658848284
|tw178644462096228775
|tw17927372478598583879
|tw17949482101662099402
|tw18005377048099970519
|tw18071960247017312825
|tw18229652024867529254
|tw1979993860861788853
|tw2013182522092429612
|tw2121796114691025093
|tw2459476311896525184
|tw2568923741499312357
|tw2621743393085984454
|tw2667608643265477755
|tw2714604251006989253
|tw2754854472209721707
|tw2810737177999498690
|tw2816846427759037430
|tw2978612163068509828
|tw3153143625147128022
|tw3183558758467855096
|tw3362792041455757566
|tw3471220267234529143
|tw3596402955087838037
|tw3645224744554935236
|tw3765123988999493461
|tw3766527158386549228
|tw4209118449221144187
|tw4257358631160990148
|tw4283803686017976983
|tw4345454181565042264
|tw4469675415746226633
|tw4534355604378738755
|tw4796508019498673406
|tw489301338218352439
|tw4903596874135445613
|tw4921190632343606043
|tw504628141094648691
|tw5047683626204355032
|tw5066676425367882006
|tw5179930419527255590
|tw5303173911359569456
|tw5369603634520018294
|tw540753472235607237
|tw5455757765001430560
|tw5545514126337033748
|tw5555435270359044541
|tw5633338840332738421
|tw5644910018116196338
|tw57841660892015344
|tw6067572850890628297
|tw6273234713194207366
|tw641544391749189746
|tw650747602195462642
|tw6512056060059313195
|tw6554514767828222394
|tw656959580824679653
|tw6623956580636718258
|tw6630285426495028648
|tw6649722627225847285
|tw6655228766140823472
|tw6788818125926247616
|tw6815089311280548103
|tw684500429274824613
|tw6983308269943552139
|tw7066957070651348240
|tw7163491073218556846
|tw7185388955069654921
|tw7212255718013752651
|tw7383397496296892934
|tw743149450901456831
|tw745668411559088687
|tw7460625004606634522
|tw8014917476317955068
|tw8099361663202157182
|tw8114754885746857307
|tw819206300772168120
|tw8278702984543122202
|tw8418602166982231274
|tw8445946546569530382
|tw8530649079898946663
|tw867812922806993625
|tw8690647553968734526
|tw8714112916223729810
|tw8789530692864931898
|tw8825639685592572837
|tw9061687166539254501
|tw91401254714814079
|tw9187723595571295750
|tw9243278397590818112
|tw9412356366509928210
|tw9439172228495266623
|tw9532117970995228892
|tw9698224545643219687
|tw9713467047196666142
|tw9744974370762942933
|tw97525083683223765
|tw9755037800872447999
|tw9756593419061404144
open PySem PySem.W PyProof.Rows
set_option maxRecDepth 100000 in
set_option maxHeartbeats 0 in
theorem PySem.Challenge.cw_bestheads_k66_rooms_of_a_keeper_holds : PySem.Challenge.rw_bestheads_k66_rooms_of_a_keeper.Holds := by
 w_on; o_law; k_head; (case hw=>w_witness2)
 k_fill
 refine K66.walk (l:=PySem.Challenge.rw_bestheads_k66_rooms_of_a_keeper) rfl rfl rfl ?wV ?qP (λw h Y=>by first|exact PySem.W.km_in_of Y|exact PySem.W.kIn_of Y) ?F
 case wV =>
  intro x hx
  rcases(List.mem_cons.mp hx)with rfl|hx
  .exact .inl (by kernel_rfl)
  .rw[List.mem_singleton.mp hx]
   exact .inr λw=>by k_is
 case qP=>intro w; kernel_rfl
 case F =>
  intro w mg h KX G base kb gb hcd hbm
  refine' K66.ajs ?qM ?qO ?qXT ?akK ?akL ?qd1 ?qd2 ?qd3 ?qd4 ?qd5 ?qd6 ?qd7 ?qd8 ?qd9 ?akM ?akN ?akO ?akP ?akQ ?akR ?akS ?akT ?akU ?akV ?akW ?akX ?akY ?akZ ?ak0 ?ak1 ?ak2 ?ak3 ?ak4 ?ak5 ?ak6 ?ak7 ?ak8 ?ak9 ?ala ?alb ?alc ?ald ?ale ?alf ?alg ?alh ?ali ?alj ?alk ?alm ?aln ?alo ?alp ?alq ?alr ?als ?alu ?alv ?alw ?alx ?aly ?alz ?alA ?alB ?alC ?alD ?alE ?alF ?alG ?alH ?alI ?alJ ?alK ?alL ?alM ?alN
  case qM=>intro x m; simp only[List.mem_cons,List.not_mem_nil,or_false]at m; rcases m with rfl|rfl|rfl|rfl|rfl|rfl|rfl|rfl|rfl|rfl|rfl|rfl|rfl <;> exact mg_none_of KX G (by k_is)
  case akK =>
   refine' L2.agr KX G ?za ?zl ?zn ?zp ?zh ?zo ?zs
   (case za=>k_is); (case zl=>k_is); (case zn=>kernel_rfl); (case zp=>k_is); (case zh=>k_is); (case zo=>k_is); (case zs=>k_is)
  case akL=>intro x m; simp only[List.mem_cons,List.not_mem_nil,or_false]at m; rcases m with rfl|rfl|rfl|rfl|rfl|rfl <;> k_is
  case akV =>
   refine' L2.Bg ?ya ?yi ?yl ?yc ?yk
   (case ya=>k_is); (case yi=>k_is); (case yl=>k_is); (case yc=>k_is); (case yk=>k_is)
  case akW =>
   refine' L2.Bg ?ya ?yi ?yl ?yc ?yk
   (case ya=>k_is); (case yi=>k_is); (case yl=>k_is); (case yc=>k_is); (case yk=>k_is)
  case alm =>
   refine' L2.Bg ?ya ?yi ?yl ?yc ?yk
   (case ya=>k_is); (case yi=>k_is); (case yl=>k_is); (case yc=>k_is); (case yk=>k_is)
  case alC =>
   refine' L2.ags ?ya ?yi ?yl ?yc ?yk ?ym ?yz
   (case ya=>k_is); (case yi=>k_is); (case yl=>k_is); (case yc=>k_is); (case yk=>k_is); (case ym=>k_is); (case yz=>k_is)
  case alG =>
   refine' L2.Bg ?ya ?yi ?yl ?yc ?yk
   (case ya=>k_is); (case yi=>k_is); (case yl=>k_is); (case yc=>k_is); (case yk=>k_is)
  case qd1|qd2|qd3|qd4|qd5|qd6|qd7|qd8|qd9|akM|akN|akO|akP|akQ|akR|akS|akT|akU|akX|akY|akZ|ak0|ak1|ak2|ak3|ak4|ak5|ak6|ak7|ak8|alb|alc|ald|ale|alf|alg|alh|ali|alj|alk|aln|alo|alp|alq|alr|als|alu|alv|alw|alx|aly|alz|alA|alB|alD|alE|alF|alH|alI=>exact K66.ajn KX G (by k_is) (by k_is) (by k_is) (by k_is)
  case ak9 =>
   refine' K66.ajo KX G ?alO ?alP ?alQ ?alR
   (case alO=>k_is); (case alP=>k_is); (case alQ=>k_is); (case alR=>k_is)
  case ala =>
   refine' L2.aeX (by decide) hcd hbm (L2.aeW ?alS ?alT ?alU ?alV ?alW ?alX ?alY ?alZ ?al0) ?al1
   (case alS=>k_is); (case alT=>k_is); (case alV=>k_is); (case alX=>exact rfl); (case alY=>k_is); (case alU=>kernel_rfl); (case alW=>kernel_rfl); (case alZ=>kernel_rfl); (case al0=>exact rfl)
   case al1 =>
    intro x' hx'
    rcases(List.mem_cons.mp hx')with rfl|hx'
    .exact .inl rfl
    .rw[List.mem_singleton.mp hx']
     exact .inr λc' z=>(by have y:=(L2.Q6 (by k_is)).symm.trans z; cases y)
  case alJ =>
   refine' K66.Z1 KX G ?al2 ?al3 ?al4
   (case al2=>k_is); (case al3=>k_is); (case al4=>rfl)
  case alK =>
   refine' K66.Z1 KX G ?al5 ?al6 ?al7
   (case al5=>k_is); (case al6=>k_is); (case al7=>rfl)
  case alL =>
   refine' K66.Z0 KX G ?al8
   (case al8=>k_is)
  case alM =>
   refine' K66.Z0 KX G ?al9
   (case al9=>k_is)
  case alN =>
   refine' K66.ajp KX G ?qbm ?qbl ?qbe ?ama ?amb ?amc ?amd ?ame ?amf
   (case qbm=>k_is); (case qbl=>k_is); (case qbe=>rfl); (case ama=>k_is); (case amb=>rfl); (case amc=>k_is); (case amd=>rfl); (case ame=>k_is); (case amf=>rfl)
  case qXT=>exact L2.lY.of (by kernel_rfl)
  case qO=>intro x m; simp only[List.mem_cons,List.not_mem_nil,or_false]at m; rcases m with rfl|rfl|rfl|rfl|rfl|rfl|rfl <;> exact⟨_,L2.adI kb gb (by k_is) (by k_exc)⟩
#print axioms PySem.Challenge.cw_bestheads_k66_rooms_of_a_keeper_holds
end